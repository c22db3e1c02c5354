import PyProof.Rows.All
import Wide.All
import OpenK.AllK
import Wide.FinOn
import Lean
import PyProof.EqAt
import PyProof.EqKinds
import PyProof.TupleCall
import PySem.Challenge.RW_frameback_k33_where_something_may_come
set_option Elab.async false
set_option linter.all false
set_option maxRecDepth 100000
namespace L2
open PySem PySem.Spec PyProof.Rows
abbrev Key:=Sum Int Str
def m_ : Key → Value → Bool
 | .inl k,v=>Value.isInt k v
 | .inr x,v=>Value.isStrOf x v
def MC (w : World) : Key → Int
 | .inl k=>hashInt k
 | .inr x=>hashStr w x
theorem bU : ∀ {k : Key} {v : Value}, m_ k v = true → (∃ i t, k = Sum.inl i ∧ v = Value.int i t) ∨ (∃ x t, k = Sum.inr x ∧ v = Value.str x t)
 | .inl i, v, h => by
   obtain ⟨t,e⟩:=Value.isInt_shape (k:=i) (v:=v) h
   exact .inl ⟨i,t,rfl,e⟩
 | .inr x, v, h => by
   obtain ⟨t,e⟩:=Value.isStrOf_shape (x:=x) (v:=v) h
   exact .inr ⟨x,t,rfl,e⟩
theorem Ak (i:Int) (t:Tok):m_ (.inl i) (.int i t) = true:=by simp [m_,Value.isInt]
theorem An (x:Str) (t:Tok):m_ (.inr x) (.str x t) = true:=by simp [m_,Value.isStrOf]
theorem Ih (a b : Int) : decide ((Sum.inl a : Key) = Sum.inl b) = (a == b) := by
 by_cases e:a = b
 · subst e;simp
 · have h : ¬ (Sum.inl a : Key) = Sum.inl b := fun q => e (Sum.inl.inj q)
   rw [decide_eq_false h]
   exact (beq_eq_false_iff_ne.mpr e).symm
theorem Kx (a b : Str) : decide ((Sum.inr a : Key) = Sum.inr b) = decide (a = b) := by
 by_cases e:a = b
 · subst e;simp
 · have h : ¬ (Sum.inr a : Key) = Sum.inr b := fun q => e (Sum.inr.inj q)
   rw [decide_eq_false h,decide_eq_false e]
theorem Jv (a:Int) (b:Str):decide ((Sum.inl a:Key) = Sum.inr b) = false:=decide_eq_false (fun q=>nomatch q)
theorem IW (a:Str) (b:Int):decide ((Sum.inr a:Key) = Sum.inl b) = false:=decide_eq_false (fun q=>nomatch q)
def bK (prog : Program) (w : World) : PySem.KeyKind prog w Key where
 is:=m_
 hash:=MC w
 inj := fun v a b ha hb => by
   rcases bU ha with ⟨i,t,rfl,rfl⟩ | ⟨x,t,rfl,rfl⟩
   · rcases bU hb with ⟨j, u, rfl, e⟩ | ⟨y, u, rfl, e⟩
     · injection e with e1 _;rw [e1]
     · exact nomatch e
   · rcases bU hb with ⟨j, u, rfl, e⟩ | ⟨y, u, rfl, e⟩
     · exact nomatch e
     · injection e with e1 _;rw [e1]
 byValue := fun k v h => by
   rcases bU h with ⟨i,t,rfl,rfl⟩ | ⟨x,t,rfl,rfl⟩ <;> rfl
 pyHash := fun hv h => by
   rcases bU hv with ⟨i,t,rfl,rfl⟩ | ⟨x,t,rfl,rfl⟩
   · exact wpAny_pyHash_int h
   · exact wpAny_pyHash_str h
 eqBool := fun hu hv h => by
   rcases bU hu with ⟨i,t,rfl,rfl⟩ | ⟨x,t,rfl,rfl⟩
   · rcases bU hv with ⟨j, u, rfl, rfl⟩ | ⟨y, u, rfl, rfl⟩
     · rw [Ih] at h;exact wpAny_eqBool_int h
     · rw [Jv] at h;exact SeqAt.EqAt.int_str i t y u _ _ _ _ h
   · rcases bU hv with ⟨j, u, rfl, rfl⟩ | ⟨y, u, rfl, rfl⟩
     · rw [IW] at h;exact SeqAt.EqAt.str_int x t j u _ _ _ _ h
     · rw [Kx] at h;exact wpAny_eqBool_str h
 «strs» := fun k x t v h => by
   rcases bU h with ⟨i,u,rfl,e⟩ | ⟨y,u,rfl,e⟩
   · exact nomatch e
   · injection e with e1 _
     subst e1
     cases v <;> rfl
theorem vy (prog:Program) (w:World) (i:Int) (t:Tok):(bK prog w).is (.inl i) (.int i t) = true:=Ak i t
theorem vG (prog:Program) (w:World) (x:Str) (t:Tok):(bK prog w).is (.inr x) (.str x t) = true:=An x t
end L2
namespace L2
open PySem PySem.Spec PyProof.Rows
inductive V where
 | aH | bl (b:Bool) | int (i:Int) | str (x:Str) | byt (b:Array UInt8) | uW (b:UInt64) | ref (a:Addr) | ty (n:String)
 deriving DecidableEq
def RelV : V → Value → Prop
 | .aH,u=>u = Value.none
 | .bl b,u=>u = Value.bool b
 | .int i,u=>∃ t,u = Value.int i t
 | .str x,u=>∃ t,u = Value.str x t
 | .byt b,u=>∃ t,u = Value.bytes b t
 | .uW b,u=>∃ t,u = Value.float b t
 | .ref a,u=>u = Value.ref a
 | .ty n,u=>u = Value.type n
abbrev aP:List V→List Value→Prop:=Paired RelV
theorem aP.length {xs:List V} {us:List Value} (r:aP xs us):xs.length = us.length:=Paired.length r
theorem aP.get : ∀ {xs : List V} {us : List Value} {i : Nat} {x : V}, aP xs us → xs[i]? = some x → ∃ u, us[i]? = some u ∧ RelV x u
 | _,_,_,_,.nil,e=>by simp at e
 | _,_,0,_,.cons r _,e=>by simp at e;subst e;exact ⟨_,rfl,r⟩
 | _, _, i + 1, x, .cons _ t, e => by
   obtain ⟨u,h1,h2⟩:=aP.get (i:=i) (x:=x) t (by simpa using e)
   exact ⟨u,by simpa using h1,h2⟩
theorem aP.set {x : V} {u : Value} (r : RelV x u) : ∀ {xs : List V} {us : List Value} (i : Nat), aP xs us → aP (xs.set i x) (us.set i u)
 | _,_,_,.nil=>.nil
 | _,_,0,.cons _ t=>.cons r t
 | _,_,i + 1,.cons q t=>.cons q (aP.set r i t)
theorem aP.append : ∀ {xs ys : List V} {us ws : List Value}, aP xs us → aP ys ws → aP (xs ++ ys) (us ++ ws)
 | _,_,_,_,.nil,s=>s
 | _,_,_,_,.cons r t,s=>.cons r (aP.append t s)
theorem aP.take : ∀ {xs : List V} {us : List Value} (n : Nat), aP xs us → aP (xs.take n) (us.take n)
 | _,_,0,_=>.nil
 | _,_,_ + 1,.nil=>.nil
 | _,_,n + 1,.cons r t=>.cons r (aP.take n t)
theorem aP.drop : ∀ {xs : List V} {us : List Value} (n : Nat), aP xs us → aP (xs.drop n) (us.drop n)
 | _,_,0,r=>r
 | _,_,_ + 1,.nil=>.nil
 | _,_,n + 1,.cons _ t=>aP.drop n t
def fQ : Option V → Option Value → Prop
 | some v,some u=>RelV v u
 | none,none=>True
 | _,_=>False
def KV {κ : Type}:List (κ×V)→List (κ×Value)→Prop:=Paired fun (p : κ×V) (q : κ×Value)=>p.1 = q.1∧RelV p.2 q.2
def kV : Key → V
 | .inl i=>.int i
 | .inr x=>.str x
inductive HO where
 | lst (xs:List V)
 | tup (xs:List V)
 | dK (kvs:List (Key×V)) | dT (kvs:List (List Key×V))
 | set (S:Int→Bool) (n:Nat)
 | ins (C dx:Addr) (fs:List (Str×V))
 | own (x:Addr)
 | xd (fs:List (Str×V))
 | met (f x:Addr)
 | DW (lo hi:Int)
 | dj (o:Obj) (u:HO)
 | pO (ps:Array Value)
 | ext (φ : Heap→Prop)
abbrev Hp:=Addr→Option HO
def upd (H:Hp) (a:Addr) (o:HO):Hp:=fun b=>if b = a then some o else H b
theorem ah {H:Hp} {a:Addr} {o:HO}:upd H a o a = some o:=by unfold upd;rw [if_pos rfl]
theorem ao {H:Hp} {a b:Addr} {o:HO} (h:b ≠ a):upd H a o b = H b:=by unfold upd;rw [if_neg h]
theorem DA {H : Hp} {a b : Addr} {o u : HO} (h : H a = some o) (h' : H b = some u) (d : o ≠ u) : a ≠ b := by
 intro e;subst e;rw [h] at h';exact d (Option.some.inj h')
theorem av {H : Hp} {a b : Addr} {o : HO} (h : H a = some o) (h' : H b = none) : a ≠ b := by
 intro e;subst e;rw [h] at h';cases h'
section
variable (P:Program) (w:World)
def bQ (H : Hp) (h : Heap) (a : Addr) : HO → Prop
 | .lst xs=>xs.length ≤ sizeLine∧∃ (its:List Value) (n:Nat),aP xs its∧h.get? a = some { cls:=.type "list",data:=.seq its.toArray n }
 | .tup xs=>xs.length ≤ sizeLine∧∃ its:List Value,aP xs its∧IsTup h a its.toArray
 | .dK kvs=>kvs.length ≤ sizeLine∧(a == sysModules) = false∧∃ vs,KV kvs vs∧h.DictOf (bK P w) a vs
 | .dT kvs => kvs.length ≤ sizeLine ∧ (a == sysModules) = false ∧ ∃ xs : List (List Key × Addr × Value),
     Paired (fun (p:List Key×V) (q:List Key×Addr×Value)=>p.1 = q.1∧H q.2.1 = some (.tup (p.1.map kV))∧RelV p.2 q.2.2) kvs xs ∧
     ∃ o es ep,h.get? a = some o∧o.ExactDict∧o.data = .dict es ep∧es.toList = xs.map (entryOfKey (tupleKind (bK P w)))∧(xs.map (·.1)).Nodup
 | .set S n=>h.SetOf (intKind P w) a S n
 | .ins C dx fs => H dx = some (.own a) ∧ fs.length ≤ 1000 ∧ dx ≠ a ∧ h.get? a = some (PySem.W.instObj C dx) ∧
     ∃ mA,h.Ns1 dx mA∧(∀ f,fQ (fs.lookup f) (mA f))∧PySem.Within mA (fs.map (·.1))
 | .own _=>∃ o,h.get? a = some o
 | .xd fs=>∃ mA,h.Ns1 a mA∧∀ f,fQ (fs.lookup f) (mA f)
 | .DW lo hi=>∃ t u v,h.get? a = some { cls:=.type "range",data:=.fields #[.int lo t,.int hi u,.int 1 v] }
 | .dj o u=>h.get? a = some o∧bQ H h a u
 | .pO ps=>h.get? a = some { cls:=.none,data:=.fields ps }
 | .met f x=>h.get? a = some (PySem.W.methodObj (.ref f) (.ref x))
 | .ext φ=>φ h∧(∃ o,h.get? a = some o)∧∀ h1 h2:Heap,φ h1→(∀ o,h1.get? a = some o→h2.get? a = some o)→φ h2
def cW (H:Hp) (h:Heap):Prop:=∀ a o,H a = some o→bQ P w H h a o
end
section
variable {P:Program} {w:World} {H H':Hp} {h h':Heap} {a:Addr} {o:HO}
theorem bQ.lt (x : bQ P w H h a o) : a < h.objs.size := by
 cases o with
 | lst xs=>obtain ⟨_,_,_,_,e⟩:=x;exact Heap.lt_size e
 | tup xs=>obtain ⟨_,_,_,p⟩:=x;exact p.lt
 | dK kvs=>obtain ⟨_,_,_,_,o,_,_,e,_⟩:=x;exact Heap.lt_size e
 | dT kvs=>obtain ⟨_,_,_,_,o,_,_,e,_⟩:=x;exact Heap.lt_size e
 | set S n=>obtain ⟨o,_,_,_,e,_⟩:=x;exact Heap.lt_size e
 | ins C dx fs=>obtain ⟨_,_,_,e,_⟩:=x;exact Heap.lt_size e
 | own y=>obtain ⟨_,e⟩:=x;exact Heap.lt_size e
 | xd fs=>obtain ⟨_,⟨_,_,_,e,_⟩,_⟩:=x;exact Heap.lt_size e
 | DW lo hi=>obtain ⟨_,_,_,e⟩:=x;exact Heap.lt_size e
 | dj ob u=>obtain ⟨e,_⟩:=x;exact Heap.lt_size e
 | pO ps=>exact Heap.lt_size (show h.get? a = some _ from x)
 | met f y=>exact Heap.lt_size (show h.get? a = some _ from x)
 | ext φ=>obtain ⟨_,⟨_,e⟩,_⟩:=x;exact Heap.lt_size e
theorem Paired.B2 {α β : Type} {F G : α → β → Prop} : ∀ {l₁ : List α} {l₂ : List β}, Paired F l₁ l₂ → (∀ a b, F a b → G a b) → Paired G l₁ l₂
 | _,_,.nil,_=>.nil
 | _,_,.cons r t,f=>.cons (f _ _ r) (Paired.B2 t f)
theorem bQ.iA (x : bQ P w H h a o) (k : ∀ b u, (b = a ∨ H b = some (.own a)) → h.get? b = some u → h'.get? b = some u)
   (ho:∀ b,H b = some (.own a)→H' b = some (.own a)) (ht:∀ b xs,H b = some (.tup xs)→H' b = some (.tup xs)):bQ P w H' h' a o:=by
 induction o with
 | lst xs=>obtain ⟨z,its,n,r,e⟩:=x;exact ⟨z,its,n,r,k _ _ (.inl rfl) e⟩
 | tup xs=>obtain ⟨z,its,r,ob,e,c⟩:=x;exact ⟨z,its,r,ob,k _ _ (.inl rfl) e,c⟩
 | dK kvs=>obtain ⟨z,y,vs,r,ob,es,ep,e,c⟩:=x;exact ⟨z,y,vs,r,ob,es,ep,k _ _ (.inl rfl) e,c⟩
 | dT kvs =>
   obtain ⟨z,y,xs,r,ob,es,ep,e,c⟩:=x
   exact ⟨z,y,xs,Paired.B2 r fun p q z=>⟨z.1,ht _ _ z.2.1,z.2.2⟩,ob,es,ep,k _ _ (.inl rfl) e,c⟩
 | set S n=>obtain ⟨ob,es,ep,t,e,c⟩:=x;exact ⟨ob,es,ep,t,k _ _ (.inl rfl) e,c⟩
 | ins C dx fs =>
   obtain ⟨d,z,ne,e,mA,⟨od,es,ep,e2,c⟩,r⟩:=x
   exact ⟨ho _ d,z,ne,k _ _ (.inl rfl) e,mA,⟨od,es,ep,k _ _ (.inr d) e2,c⟩,r⟩
 | own y=>obtain ⟨ob,e⟩:=x;exact ⟨ob,k _ _ (.inl rfl) e⟩
 | xd fs=>obtain ⟨mA,⟨od,es,ep,e,c⟩,r⟩:=x;exact ⟨mA,⟨od,es,ep,k _ _ (.inl rfl) e,c⟩,r⟩
 | DW lo hi=>obtain ⟨t,u,v,e⟩:=x;exact ⟨t,u,v,k _ _ (.inl rfl) e⟩
 | dj ob u ih=>obtain ⟨e,q⟩:=x;exact ⟨k _ _ (.inl rfl) e,ih q⟩
 | pO ps =>
   have e:h.get? a = some { cls:=.none,data:=.fields ps }:=x
   show h'.get? a = some { cls:=.none,data:=.fields ps }
   exact k a _ (.inl rfl) e
 | met f y =>
   have e:h.get? a = some (PySem.W.methodObj (.ref f) (.ref y)):=x
   show h'.get? a = some (PySem.W.methodObj (.ref f) (.ref y))
   exact k a _ (.inl rfl) e
 | ext φ=>obtain ⟨p,⟨o,e⟩,st⟩:=x;exact ⟨st _ _ p fun o q=>k _ _ (.inl rfl) q,⟨o,k _ _ (.inl rfl) e⟩,st⟩
theorem cW.lt (x:cW P w H h) (e:H a = some o):a < h.objs.size:=(x a o e).lt
theorem cW.fresh (x : cW P w H h) (e : h.objs.size ≤ a) : H a = none := by
 cases q:H a with
 | none=>rfl
 | some u=>exact absurd (Nat.lt_of_lt_of_le (x.lt q) e) (Nat.lt_irrefl _)
theorem cW.kept (x : cW P w H h) (k : ∀ b u, h.get? b = some u → h'.get? b = some u) : cW P w H h' := fun a o e =>
 (x a o e).iA (fun b u _ q=>k b u q) (fun _ q=>q) fun _ _ q=>q
theorem cW.laid (x : cW P w H h) (k : ∀ b u, h.get? b = some u → h'.get? b = some u) (hp : h.objs.size ≤ a) (new : bQ P w (upd H a o) h' a o) : cW P w (upd H a o) h' := fun b u e => by
 have hn:=x.fresh hp
 by_cases hb:b = a
 · subst hb;rw [ah] at e;cases e;exact new
 · rw [ao hb] at e
   exact (x b u e).iA (fun c v _ q=>k c v q) (fun c q=>by rw [ao (av q hn)];exact q) fun c xs q=>by rw [ao (av q hn)];exact q
end
def Rd (H:Hp) (a:Addr) (u:HO):Prop:=H a = some u∨∃ o,H a = some (.dj o u)
theorem Rd.ok {P : Program} {w : World} {H : Hp} {h : Heap} {a : Addr} {u : HO} (r : Rd H a u) (x : cW P w H h) : bQ P w H h a u := by
 rcases r with r | ⟨o,r⟩
 · exact x a u r
 · obtain ⟨_, q⟩ := x a _ r
   exact q
def yq : Option HO → Prop
 | some (.lst _)=>True
 | some (.dK _)=>True
 | some (.dT _)=>True
 | some (.set _ _)=>True
 | some (.ins _ _ _)=>True
 | some (.ext _)=>True
 | _=>False
section
variable {P:Program} {w:World} {H:Hp} {h h':Heap} {x e:Addr} {o':HO}
theorem cW.write (ok : cW P w H h) (mu : yq (H x)) (he : e = x ∨ H e = some (.own x)) (k : ∀ b u, b ≠ e → h.get? b = some u → h'.get? b = some u) (heo : ∃ u, h'.get? e = some u)
   (new:bQ P w (upd H x o') h' x o'):cW P w (upd H x o') h':=fun b u q=>by
 have nown:∀ c y,H c = some (.own y)→c ≠ x:=fun c y r z=>by subst z;rw [r] at mu;exact mu
 have ntup:∀ c xs,H c = some (.tup xs)→c ≠ x:=fun c xs r z=>by subst z;rw [r] at mu;exact mu
 by_cases hb:b = x
 · subst hb;rw [ah] at q;cases q;exact new
 · rw [ao hb] at q
   by_cases hbe:b = e
   · have q' : H b = some (.own x) := by
       rcases he with z | z
       · exact absurd (hbe.trans z) hb
       · rw [hbe];exact z
     rw [q] at q';cases q'
     obtain ⟨v,hv⟩:=heo
     exact ⟨v,by rw [hbe];exact hv⟩
   · refine (ok b u q).iA (fun c v hc r => k c v ?_ r) (fun c r => by rw [ao (nown c b r)]; exact r) fun c xs r => by rw [ao (ntup c xs r)]; exact r
     rcases hc with rfl | hc
     · exact hbe
     · rintro rfl
       rcases he with z | z
       · exact nown c b hc z
       · rw [hc] at z;cases z;exact hb rfl
end
structure Un (fs ex : List Addr) (H H' : Hp) (h h' : Heap) : Prop where
 keep:∀ b o,h.get? b = some o→H b = none→b ∉ fs→b ∉ ex→h'.get? b = some o
 slot:∀ b o,h.get? b = some o→H b = none→b ∈ fs→b ∉ ex→∃ sl,h'.get? b = some { o with slots:=sl }
 free:∀ b o,h.get? b = some o→H b = none→b ∉ ex→H' b = none
 there:∀ b o,h.get? b = some o→b ∉ ex→∃ o',h'.get? b = some o'
 iR:∀ b xs,H b = some (.tup xs)→H' b = some (.tup xs)
 gZ:∀ b o u,H b = some (.dj o u)→H' b = some (.dj o u)
 iS:∀ b ps,H b = some (.pO ps)→∃ more,H' b = some (.pO (ps ++ more))
section
variable {fs fs' ex ex':List Addr} {H H1 H2:Hp} {h h1 h2 h':Heap} {a x e:Addr} {o:HO}
theorem Un.any (u : Un fs ex H H1 h h1) {b : Addr} {ob : Obj} (q : h.get? b = some ob) (n : H b = none) (hx : b ∉ ex) : ∃ sl, h1.get? b = some { ob with slots := sl } := by
 by_cases hb:b ∈ fs
 · exact u.slot b ob q n hb hx
 · exact ⟨ob.slots,u.keep b ob q n hb hx⟩
theorem Un.kept (k : ∀ b u, h.get? b = some u → h'.get? b = some u) : Un fs ex H H h h' :=
 ⟨fun b ob q _ _ _=>k b ob q,fun b ob q _ _ _=>⟨ob.slots,k b ob q⟩,fun _ _ _ n _=>n,fun b ob q _=>⟨ob,k b ob q⟩,fun _ _ q=>q,fun _ _ _ q=>q,fun _ ps q=>⟨#[],by rw [q];simp⟩⟩
theorem Un.refl:Un fs ex H H h h:=Un.kept fun _ _ q=>q
theorem Un.laid (k : ∀ b u, h.get? b = some u → h'.get? b = some u) (hp : h.objs.size ≤ a) (hn : H a = none) : Un fs ex H (upd H a o) h h' where
 keep:=fun b u q _ _ _=>k b u q
 slot:=fun b u q _ _ _=>⟨u.slots,k b u q⟩
 free:=fun b u q n _=>by rw [ao (Nat.ne_of_lt (Nat.lt_of_lt_of_le (Heap.lt_size q) hp))];exact n
 there:=fun b u q _=>⟨u,k b u q⟩
 iR:=fun b xs q=>by rw [ao (av q hn)];exact q
 gZ:=fun b u xs q=>by rw [ao (av q hn)];exact q
 iS:=fun b ps q=>⟨#[],by rw [ao (av q hn),q];simp⟩
theorem Un.write (mu : yq (H x)) (he : e = x ∨ H e = some (.own x)) (k : ∀ b u, b ≠ e → h.get? b = some u → h'.get? b = some u) (heo : ∃ u, h'.get? e = some u) : Un fs ex H (upd H x o) h h' := by
 have hx:∀ b,H b = none→b ≠ x:=fun b n z=>by subst z;rw [n] at mu;exact mu
 have hb : ∀ b, H b = none → b ≠ e := fun b n z => by
   subst z
   rcases he with r | r
   · exact hx b n r
   · rw [n] at r;cases r
 have hm:∀ b u,H b = some u→¬ yq (some u)→b ≠ x:=fun b u q nm z=>by subst z;rw [q] at mu;exact nm mu
 refine ⟨fun b u q n _ _ => k b u (hb b n) q, fun b u q n _ _ => ⟨u.slots, k b u (hb b n) q⟩, fun b u q n _ => by rw [ao (hx b n)]; exact n, fun b u q _ => ?_,
   fun b xs q=>by rw [ao (hm b _ q fun z=>z)];exact q,fun b u xs q=>by rw [ao (hm b _ q fun z=>z)];exact q,fun b ps q=>⟨#[],by rw [ao (hm b _ q fun z=>z),q];simp⟩⟩
 by_cases hbe:b = e
 · subst hbe;exact heo
 · exact ⟨u,k b u hbe q⟩
end
def Cn (h:Heap) (H:Hp):List Addr:=(List.range h.objs.size).filter fun a=>(H a).isSome
def la (h:Heap) (H:Hp):Heap:=PySem.W.hideAll h (Cn h H)
theorem yC (h:Heap) (H:Hp):(la h H).objs.size = h.objs.size:=PySem.W.hideAll_size _ _
theorem Br {h : Heap} {H : Hp} {b : Addr} {o : Obj} (e : h.get? b = some o) (n : H b = none) : (la h H).get? b = some o :=
 PySem.W.hideAll_get _ e fun hm => by
   have q:(H b).isSome = true:=(List.mem_filter.mp hm).2
   rw [n] at q;simp at q
theorem FC {h : Heap} {H : Hp} {b : Addr} {o : Obj} (e : (la h H).get? b = some o) : h.get? b = some o ∧ H b = none := by
 have e':h.get? b = some o:=PySem.W.of_hideAll (Cn h H) e
 refine ⟨e',?_⟩
 cases q:H b with
 | none=>rfl
 | some x =>
   have hm:b ∈ Cn h H:=List.mem_filter.mpr ⟨List.mem_range.mpr (Heap.lt_size e'),by simp [q]⟩
   have z:(la h H).get? b = none:=PySem.W.hideAll_none (Cn h H) hm
   rw [z] at e;cases e
end L2
namespace L2
open PySem PySem.Spec PyProof.Rows
structure Mod (K : PySem.W.Frag) (mg : Str → Option Value) (base : Heap) : Prop where
 uU:K.In base
 glob:base.Ns mainGlobals mg
 blt:∃ mb,base.Ns builtinsNs mb∧∀ x:Str,x ≠ "__name__"→mb x = bootBuiltins x
 nolimit:base.NoLimit
structure Cx where
 prog:Program
 w:World
 K:PySem.W.Frag
 mg:Str→Option Value
 base:Heap
 A:Around
 N:List Str
 s₀ : Shared
 H₀ : Hp
 env:Env
 outer:List Env
 stack:List Env
 ex:List Addr
 fn:Str→Bool
 calm:Bool
 pn:List (Addr×Obj)
 xe:Value→Shared→Prop
def eh (l:List Env):List Addr:=l.filterMap (·.frame)
abbrev Cx.fs (X:Cx):List Addr:=eh X.outer
def KP (sc:Scope) (x:Str):Prop:=sc.names.lookup x = some .local∨sc.names.lookup x = some .cell∨sc.names.lookup x = some .free
def Loc (sc:Scope) (x:Str):Prop:=sc.names.lookup x = some .local∨sc.names.lookup x = some .cell
def Look (env : Env) (h : Heap) (m : Str → Option Value) (x : Str) (u : Value) : Prop :=
 (env.kindOf x = some .local∧m x = some u)∨((env.kindOf x = some .cell∨env.kindOf x = some .free)∧∃ c,env.cells.lookup x = some c∧h.IsCell c (some u))
structure Cx.Ok (X : Cx) : Prop where
 mod:Mod X.K X.mg X.base
 kind:X.env.scope.kind = .function
 glob:X.env.globals = mainGlobals
 blt:X.env.builtins = builtinsNs
 above:X.s₀.heap.objs.size ≤ X.env.locals
 inj:∀ x y c,X.env.cells.lookup x = some c→X.env.cells.lookup y = some c→x = y
 has:∀ x,(X.env.kindOf x = some .cell∨X.env.kindOf x = some .free)→∃ c,X.env.cells.lookup x = some c
 ua:∀ x c,X.fn x = true→X.env.cells.lookup x = some c→X.s₀.heap.objs.size ≤ c
 hd:X.calm = true→X.A.handled = none
 frames:X.A.frames = some X.stack
 vK:X.stack = X.outer∨(X.stack = X.env :: X.outer∧X.env.frame = some X.env.locals)
 D6:∀ b ∈ X.ex,b ≠ X.env.locals∧∀ x c,X.env.cells.lookup x = some c→c ≠ b
 bs:∀ b o,X.base.get? b = some o→X.s₀.heap.get? b = some o∧X.H₀ b = none
 nY:X.base.objs.size ≤ X.s₀.heap.objs.size
 oi:∀ b o,X.base.get? b = some o→b ∉ X.ex
 qz:∀ b ∈ X.ex,b ∉ X.fs
 gH:X.s₀.heap.FunFrames X.base X.outer
 pI:∀ b ∈ X.fs,X.H₀ b = none
structure Inv (X : Cx) (pins : List (Addr × Obj)) (σ : List (Option V)) (H : Hp) (s : Shared) : Prop where
 ok:X.Ok
 os:s.os = X.s₀.os
 bare:AllBare s.gens
 base:Un X.fs X.ex X.H₀ H X.s₀.heap s.heap
 loc:∃ m,s.heap.Ns X.env.locals m∧∀ (i:Nat) (x:Str) (v:V),X.N[i]? = some x→σ[i]? = some (some v)→KP X.env.scope x→∃ u,RelV v u∧Look X.env s.heap m x u
 cell:∀ x c,X.env.cells.lookup x = some c→∃ v,s.heap.IsCell c v
 free:H X.env.locals = none
 fC:∀ x c,X.env.cells.lookup x = some c→H c = none
 pin:∀ p ∈ X.pn ++ pins,s.heap.get? p.1 = some p.2∧H p.1 = none∧p.1 ≠ X.env.locals∧p.1 ∉ X.fs∧∀ v,p.2.data ≠ .cell v
 ay:cW X.prog X.w H s.heap
 len : σ.length = X.N.length
section
variable {X:Cx} {pins:List (Addr×Obj)} {σ : List (Option V)} {H H':Hp} {s:Shared} {h':Heap}
theorem Cx.Ok.Mm (ok : X.Ok) {b : Addr} {o : Obj} (e : X.base.get? b = some o) : b ∉ X.fs := fun hb => by
 have:=(ok.gH.mem hb).1
 rw [e] at this;cases this
theorem Inv.bs (I : Inv X pins σ H s) : ∀ b o, X.base.get? b = some o → s.heap.get? b = some o ∧ H b = none := fun b o e =>
 ⟨I.base.keep b o (I.ok.bs b o e).1 (I.ok.bs b o e).2 (I.ok.Mm e) (I.ok.oi b o e),I.base.free b o (I.ok.bs b o e).1 (I.ok.bs b o e).2 (I.ok.oi b o e)⟩
theorem Inv.bk (I:Inv X pins σ H s):∀ b o,X.base.get? b = some o→s.heap.get? b = some o:=fun b o e=>(I.bs b o e).1
theorem Inv.mod (I:Inv X pins σ H s):Mod X.K X.mg X.base:=I.ok.mod
theorem Inv.ee (I:Inv X pins σ H s):X.K.In s.heap:=I.ok.mod.uU.keeps I.bk
theorem Inv.lt (I:Inv X pins σ H s):X.env.locals < s.heap.objs.size:=let ⟨_,hn,_⟩:=I.loc;hn.lt
theorem Inv.sz (I:Inv X pins σ H s):X.s₀.heap.objs.size ≤ s.heap.objs.size:=Nat.le_trans I.ok.above (Nat.le_of_lt I.lt)
theorem Inv.Ks (I : Inv X pins σ H s) {a : Addr} (h : s.heap.objs.size ≤ a) : a ∉ X.fs := fun hb => by
 obtain ⟨_,o,ho,_⟩:=I.ok.gH.mem hb
 exact absurd (Nat.lt_of_lt_of_le (Heap.lt_size ho) (Nat.le_trans I.sz h)) (Nat.lt_irrefl _)
theorem Inv.mS (I : Inv X pins σ H s) : ∀ x c, X.env.cells.lookup x = some c → c ≠ X.env.locals := fun x c e z => by
 obtain ⟨v,o,ho,hd⟩:=I.cell x c e
 obtain ⟨m,⟨o',es,ep,ho',hd',_⟩,_⟩:=I.loc
 rw [z,ho'] at ho;cases ho;rw [hd'] at hd;cases hd
theorem Inv.gH (I : Inv X pins σ H s) : s.heap.FunFrames X.base X.outer := by
 have all : ∀ (l : List Env), (∀ b ∈ eh l, b ∈ X.fs) → X.s₀.heap.FunFrames X.base l → s.heap.FunFrames X.base l := by
   intro l
   induction l with
   | nil=>intro _ _;trivial
   | cons env r ih =>
     intro hs hl
     obtain ⟨hk,⟨L,o,hf,hn,ho,hd⟩,hr⟩:=hl
     have hL:L ∈ X.fs:=hs L (by unfold eh;rw [List.filterMap_cons,hf];exact List.mem_cons_self)
     obtain ⟨sl,e⟩:=I.base.slot L o ho (I.ok.pI L hL) hL fun z=>I.ok.qz L z hL
     exact ⟨hk,⟨L,_,hf,hn,e,hd⟩,ih (fun b hb=>hs b (by unfold eh;rw [List.filterMap_cons,hf];exact List.mem_cons_of_mem _ hb)) hr⟩
 exact all X.outer (fun _ hb=>hb) I.ok.gH
theorem Inv.stack (I : Inv X pins σ H s) : s.heap.FunFrames X.base X.stack := by
 rcases I.ok.vK with e | ⟨e,hf⟩
 · rw [e];exact I.gH
 · rw [e]
   obtain ⟨m,hn,_⟩:=I.loc
   refine .cons (by rw [I.ok.kind];decide) hf hn ?_ I.gH
   exact Heap.get?_none_of_le (Nat.le_trans I.ok.nY I.ok.above)
theorem Inv.mL (I : Inv X pins σ H s) : ∀ b ∈ eh X.stack, b ∈ X.env.locals :: X.fs := fun b hb => by
 rcases I.ok.vK with e | ⟨e,hf⟩
 · rw [e] at hb;exact List.mem_cons_of_mem _ hb
 · rw [e] at hb
   unfold eh at hb
   rw [List.filterMap_cons,hf] at hb
   exact hb
theorem Inv.nj (I : Inv X pins σ H s) : ∀ b ∈ eh X.stack, H b = none := fun b hb => by
 rcases List.mem_cons.mp (I.mL b hb) with e | hb
 · rw [e];exact I.free
 · obtain ⟨_, o, ho, _⟩ := I.ok.gH.mem hb
   exact I.base.free b o ho (I.ok.pI b hb) fun z=>I.ok.qz b z hb
theorem Inv.step {g' : Array GenState} {t' : Nat} {d' : Drawn} {ch : List Addr} (I : Inv X pins σ H s)
   (hch:∀ b ∈ ch,(b ∈ X.ex∨X.s₀.heap.objs.size ≤ b)∧b ≠ X.env.locals∧(∀ x c,X.env.cells.lookup x = some c→c ≠ b)∧∀ p ∈ X.pn ++ pins,p.1 ≠ b)
   (keep:∀ b o,b ≠ X.env.locals→b ∉ X.fs→b ∉ ch→s.heap.get? b = some o→H b = none→h'.get? b = some o)
   (slot:∀ b o,b ≠ X.env.locals→b ∈ X.fs→b ∉ ch→s.heap.get? b = some o→H b = none→∃ sl,h'.get? b = some { o with slots:=sl }) (free:∀ b o,b ∉ ch→s.heap.get? b = some o→H b = none→H' b = none)
   (there:∀ b o,b ∉ ch→s.heap.get? b = some o→∃ o',h'.get? b = some o')
   (iR:∀ b xs,H b = some (.tup xs)→H' b = some (.tup xs)) (gZ:∀ b o u,H b = some (.dj o u)→H' b = some (.dj o u)) (iS:∀ b ps,H b = some (.pO ps)→∃ more,H' b = some (.pO (ps ++ more)))
   (ns:∀ m,s.heap.Ns X.env.locals m→h'.Ns X.env.locals m) (ay:cW X.prog X.w H' h') (hg:AllBare g') :
   Inv X pins σ H' { s with heap:=h',gens:=g',drawn:=d',toks:=t' }:=by
 have neL:∀ b o,X.s₀.heap.get? b = some o→b ≠ X.env.locals:=fun b o e=>Nat.ne_of_lt (Nat.lt_of_lt_of_le (Heap.lt_size e) I.ok.above)
 have neC : ∀ b o, X.s₀.heap.get? b = some o → b ∉ X.ex → b ∉ ch := fun b o e hx hb => by
   rcases (hch b hb).1 with z | z
   · exact hx z
   · exact absurd (Nat.lt_of_lt_of_le (Heap.lt_size e) z) (Nat.lt_irrefl _)
 have cellK : ∀ x c, X.env.cells.lookup x = some c → ∀ v, s.heap.IsCell c v → h'.IsCell c v := fun x c e v ⟨o, ho, hd⟩ => by
   have nch:c ∉ ch:=fun z=>(hch c z).2.2.1 x c e rfl
   by_cases hc:c ∈ X.fs
   · obtain ⟨sl, q⟩ := slot c o (I.mS x c e) hc nch ho (I.fC x c e)
     exact ⟨_,q,hd⟩
   · exact ⟨o,keep c o (I.mS x c e) hc nch ho (I.fC x c e),hd⟩
 refine ⟨I.ok,I.os,hg,⟨fun b o e n hb hx=>?_,fun b o e n hb hx=>?_,fun b o e n hx=>?_,fun b o e hx=>?_,fun b xs e=>iR b xs (I.base.iR b xs e),fun b o xs e=>gZ b o xs (I.base.gZ b o xs e),fun b ps e=>?_⟩,?_,fun x c e=>?_,?_,fun x c e=>?_,fun p hp=>?_,ay,I.len⟩
 · exact keep b o (neL b o e) hb (neC b o e hx) (I.base.keep b o e n hb hx) (I.base.free b o e n hx)
 · obtain ⟨sl, e1⟩ := I.base.slot b o e n hb hx
   obtain ⟨sl',e2⟩:=slot b _ (neL b o e) hb (neC b o e hx) e1 (I.base.free b o e n hx)
   exact ⟨sl',e2⟩
 · obtain ⟨o', e1⟩ := I.base.there b o e hx
   exact free b o' (neC b o e hx) e1 (I.base.free b o e n hx)
 · obtain ⟨o', e1⟩ := I.base.there b o e hx
   exact there b o' (neC b o e hx) e1
 · obtain ⟨m1, e1⟩ := I.base.iS b ps e
   obtain ⟨m2,e2⟩:=iS b _ e1
   exact ⟨m1 ++ m2,by rw [e2,Array.append_assoc]⟩
 · obtain ⟨m, hn, hl⟩ := I.loc
   refine ⟨m,ns m hn,fun i x v e1 e2 e3=>?_⟩
   obtain ⟨u,r,l⟩:=hl i x v e1 e2 e3
   refine ⟨u,r,?_⟩
   rcases l with l | ⟨k,c,e,z⟩
   · exact .inl l
   · exact .inr ⟨k,c,e,cellK x c e _ z⟩
 · obtain ⟨v, z⟩ := I.cell x c e
   exact ⟨v,cellK x c e v z⟩
 · obtain ⟨m, ⟨o, _, _, ho, _⟩, _⟩ := I.loc
   exact free _ o (fun z=>(hch _ z).2.1 rfl) ho I.free
 · obtain ⟨v, o, ho, hd⟩ := I.cell x c e
   exact free c o (fun z=>(hch c z).2.2.1 x c e rfl) ho (I.fC x c e)
 · obtain ⟨e, n, ne, nf, d⟩ := I.pin p hp
   have nch:p.1 ∉ ch:=fun z=>(hch p.1 z).2.2.2 p hp rfl
   exact ⟨keep p.1 p.2 ne nf nch e n,free p.1 p.2 nch e n,ne,nf,d⟩
theorem Inv.un {t' : Nat} (I : Inv X pins σ H s) (u : Un X.fs [] H H' s.heap h') (ay : cW X.prog X.w H' h') : Inv X pins σ H' { s with heap := h', toks := t' } := by
 obtain ⟨m,⟨o,es,ep,ho,r⟩,_⟩:=id I.loc
 obtain ⟨sl,hL⟩:=u.any ho I.free (by simp)
 exact I.step (g' := s.gens) (d' := s.drawn) (ch := []) (fun _ z => nomatch z) (fun b o _ hb _ e n => u.keep b o e n hb (by simp)) (fun b o _ hb _ e n => u.slot b o e n hb (by simp)) (fun b o _ e n => u.free b o e n (by simp)) (fun b o _ e => u.there b o e (by simp)) u.iR u.gZ u.iS (fun m' hm => by
   obtain ⟨o',es',ep',ho',r'⟩:=hm
   rw [ho] at ho';cases ho'
   exact ⟨_,es',ep',hL,r'⟩) ay I.bare
theorem Inv.call {g' : Array GenState} {t' : Nat} {d' : Drawn} {ch : List Addr} (I : Inv X pins σ H s) (u : Un (eh X.stack) ch H H' s.heap h') (ay : cW X.prog X.w H' h') (hg : AllBare g')
   (hch:∀ b ∈ ch,(b ∈ X.ex∨X.s₀.heap.objs.size ≤ b)∧b ≠ X.env.locals∧(∀ x c,X.env.cells.lookup x = some c→c ≠ b)∧∀ p ∈ X.pn ++ pins,p.1 ≠ b) :
   Inv X pins σ H' { s with heap:=h',gens:=g',drawn:=d',toks:=t' }:=by
 obtain ⟨m,⟨o,es,ep,ho,r⟩,_⟩:=id I.loc
 obtain ⟨sl,hL⟩:=u.any ho I.free fun z=>(hch _ z).2.1 rfl
 exact I.step (ch := ch) hch (fun b o hL hb hc e n => u.keep b o e n (fun z => (List.mem_cons.mp (I.mL b z)).elim hL hb) hc) (fun b o _ _ hc e n => u.any e n hc) (fun b o hc e n => u.free b o e n hc) (fun b o hc e => u.there b o e hc) u.iR u.gZ u.iS (fun m' hm => by
   obtain ⟨o',es',ep',ho',r'⟩:=hm
   rw [ho] at ho';cases ho'
   exact ⟨_,es',ep',hL,r'⟩) ay hg
theorem Inv.turned {t' : Nat} {it : Addr} (I : Inv X pins σ H s) (k : ∀ b o, b ≠ it → s.heap.get? b = some o → h'.get? b = some o) (hn : H it = none) (hL : it ≠ X.env.locals)
   (h1:it ∈ X.ex∨X.s₀.heap.objs.size ≤ it) (h2:∀ x c,X.env.cells.lookup x = some c→c ≠ it) (h3:∀ p ∈ X.pn ++ pins,p.1 ≠ it):Inv X pins σ H { s with heap:=h',toks:=t' }:=by
 have nit:∀ b u,H b = some u→b ≠ it:=fun b u e z=>by rw [z,hn] at e;cases e
 refine I.step (g' := s.gens) (d' := s.drawn) (ch := [it]) (fun b hb => ?_) (fun b o _ _ hc e _ => k b o (fun z => hc (by simp [z])) e) (fun b o _ _ hc e _ => ⟨o.slots, k b o (fun z => hc (by simp [z])) e⟩) (fun _ _ _ _ n => n)
   (fun b o hc e=>⟨o,k b o (fun z=>hc (by simp [z])) e⟩) (fun _ _ e=>e) (fun _ _ _ e=>e) (fun b ps e=>⟨#[],by rw [e];simp⟩) (fun m hm=>?_) (fun b u e=>?_) I.bare
 · have e : b = it := by simpa using hb
   subst e
   exact ⟨h1,hL,h2,h3⟩
 · obtain ⟨o, es, ep, ho, r⟩ := hm
   exact ⟨o,es,ep,k _ o (Ne.symm hL) ho,r⟩
 · refine (I.ay b u e).iA (fun c v hc q => k c v ?_ q) (fun _ q => q) fun _ _ q => q
   rcases hc with z | z
   · rw [z];exact nit b u e
   · exact nit c _ z
theorem Inv.tok (I:Inv X pins σ H s) (t:Nat):Inv X pins σ H { s with toks:=t }:=I.un (h':=s.heap) (t':=t) Un.refl I.ay
theorem Inv.kept {t':Nat} (I:Inv X pins σ H s) (k:∀ b u,s.heap.get? b = some u→h'.get? b = some u):Inv X pins σ H { s with heap:=h',toks:=t' }:=I.un (Un.kept k) (I.ay.kept k)
theorem Inv.laid {a : Addr} {o : HO} {t' : Nat} (I : Inv X pins σ H s) (k : ∀ b u, s.heap.get? b = some u → h'.get? b = some u) (hp : s.heap.objs.size ≤ a) (new : bQ X.prog X.w (upd H a o) h' a o) :
   Inv X pins σ (upd H a o) { s with heap:=h',toks:=t' }:=I.un (Un.laid k hp (I.ay.fresh hp)) (I.ay.laid k hp new)
theorem Inv.write {x e : Addr} {o : HO} {t' : Nat} (I : Inv X pins σ H s) (mu : yq (H x)) (he : e = x ∨ H e = some (.own x)) (k : ∀ b u, b ≠ e → s.heap.get? b = some u → h'.get? b = some u) (heo : ∃ u, h'.get? e = some u)
   (new:bQ X.prog X.w (upd H x o) h' x o):Inv X pins σ (upd H x o) { s with heap:=h',toks:=t' }:=I.un (Un.write mu he k heo) (I.ay.write mu he k heo new)
theorem Inv.m9 {pins' : List (Addr × Obj)} (I : Inv X pins σ H s) (h : ∀ p ∈ pins', s.heap.get? p.1 = some p.2 ∧ H p.1 = none ∧ p.1 ≠ X.env.locals ∧ p.1 ∉ X.fs ∧ ∀ v, p.2.data ≠ .cell v) : Inv X pins' σ H s :=
 ⟨I.ok,I.os,I.bare,I.base,I.loc,I.cell,I.free,I.fC,fun p hp=>(List.mem_append.mp hp).elim (fun z=>I.pin p (List.mem_append_left _ z)) (h p),I.ay,I.len⟩
theorem oN {N : List Str} (hN : N.Nodup) {i j : Nat} {x : Str} (a : N[i]? = some x) (b : N[j]? = some x) : i = j := by
 obtain ⟨h1,e1⟩:=List.getElem?_eq_some_iff.mp a
 obtain ⟨h2,e2⟩:=List.getElem?_eq_some_iff.mp b
 exact (List.getElem_inj hN).mp (e1.trans e2.symm)
theorem sh {M : Model} {A : Around} {E : Value → Shared → Prop} {i : Nat} {x : Str} {v : V} {u : Value} {Q : Unit → Shared → Prop} (I : Inv X pins σ H s) (hN : X.N.Nodup) (hi : X.N[i]? = some x) (hx : Loc X.env.scope x) (r : RelV v u)
   (h:∀ s',Inv X pins (σ.set i (some v)) H s'→(∃ a,Heap.SameBut a s.heap s'.heap∧(a = X.env.locals∨X.env.cells.lookup x = some a))→Q () s') (hf:X.fn x = true∨X.env.scope.names.lookup x = some .local:=by first | exact .inl rfl | exact .inr rfl | assumption):wpAny M A (storeName X.env x u) Q E s:=by
 obtain ⟨m,hn,hl⟩:=id I.loc
 have hcls:(X.env.scope.kind == .class || (X.env.scope.kind == .module && X.env.locals != X.env.globals)) = false:=by rw [I.ok.kind];rfl
 have hiσ : i < σ.length:=by rw [I.len];exact (List.getElem?_eq_some_iff.mp hi).1
 have mS:=I.mS
 have tracked : ∀ {a : Addr} {h' : Heap}, (∃ o, s.heap.get? a = some o ∧ H a = none) → Heap.SameBut a s.heap h' → cW X.prog X.w H h' := fun {a h'} ha hs b ob e => by
   obtain ⟨_,_,hfree⟩:=ha
   refine (I.ay b ob e).iA (fun c w' hc q=>(hs.2 c ?_).trans q) (fun _ q=>q) fun _ _ q=>q
   rintro rfl
   rcases hc with rfl | hc
   · rw [hfree] at e;cases e
   · rw [hfree] at hc;cases hc
 rcases hx with hk | hk
 · refine wpAny_storeName_local hk hn (fun h' hn' hs => ?_) hcls
   obtain ⟨oL,_,_,hoL,_⟩:=id hn
   refine h _ ⟨I.ok,I.os,I.bare,⟨fun b o e n hb hx=>?_,fun b o e n hb hx=>?_,I.base.free,fun b o e hx=>?_,I.base.iR,I.base.gZ,I.base.iS⟩,⟨_,hn',fun j y v' e1 e2 e3=>?_⟩,fun y c e=>?_,I.free,I.fC,fun p hp=>?_,tracked ⟨oL,hoL,I.free⟩ hs,by simpa using I.len⟩ ⟨_,hs,.inl rfl⟩
   · exact (hs.2 b (Nat.ne_of_lt (Nat.lt_of_lt_of_le (Heap.lt_size e) I.ok.above))).trans (I.base.keep b o e n hb hx)
   · obtain ⟨sl, e1⟩ := I.base.slot b o e n hb hx
     exact ⟨sl,(hs.2 b (Nat.ne_of_lt (Nat.lt_of_lt_of_le (Heap.lt_size e) I.ok.above))).trans e1⟩
   · obtain ⟨o', e1⟩ := I.base.there b o e hx
     exact ⟨o',(hs.2 b (Nat.ne_of_lt (Nat.lt_of_lt_of_le (Heap.lt_size e) I.ok.above))).trans e1⟩
   · by_cases hj : j = i
     · subst hj
       rw [hi] at e1;cases e1
       rw [List.getElem?_set_self hiσ] at e2
       cases e2
       exact ⟨u,r,.inl ⟨hk,by simp⟩⟩
     · rw [List.getElem?_set_ne (Ne.symm hj)] at e2
       obtain ⟨u',r',q⟩:=hl j y v' e1 e2 e3
       refine ⟨u',r',?_⟩
       rcases q with ⟨k,e⟩ | ⟨k,c,e,z⟩
       · refine .inl ⟨k, ?_⟩
         have:y ≠ x:=fun e=>hj (oN hN e1 (e ▸ hi))
         simp [this,e]
       · exact .inr ⟨k,c,e,z.sameBut hs (mS y c e)⟩
   · obtain ⟨w', z⟩ := I.cell y c e
     exact ⟨w',z.sameBut hs (mS y c e)⟩
   · obtain ⟨e, n, ne, nf, d⟩ := I.pin p hp
     exact ⟨(hs.2 p.1 ne).trans e,n,ne,nf,d⟩
 · have hfn : X.fn x = true := by
     rcases hf with z | z
     · exact z
     · rw [z] at hk;cases hk
   obtain ⟨c,hc⟩:=I.ok.has x (.inl hk)
   obtain ⟨w',z⟩:=I.cell x c hc
   refine wpAny_storeName_cell I.ok.kind hk hc z (fun h' hc' hs=>?_)
   obtain ⟨oc,hoc,hocd⟩:=id z
   refine h { s with heap:=h' } ⟨I.ok,I.os,I.bare,⟨fun b o e n hb hx=>?_,fun b o e n hb hx=>?_,I.base.free,fun b o e hx=>?_,I.base.iR,I.base.gZ,I.base.iS⟩,⟨m,hn.sameBut hs (Ne.symm (mS x c hc)),fun j y v' e1 e2 e3=>?_⟩,fun y c' e=>?_,I.free,I.fC,fun p hp=>?_,tracked ⟨oc,hoc,I.fC x c hc⟩ hs,by simpa using I.len⟩ ⟨c,hs,.inr hc⟩
   · exact (hs.2 b (Nat.ne_of_lt (Nat.lt_of_lt_of_le (Heap.lt_size e) (I.ok.ua x c hfn hc)))).trans (I.base.keep b o e n hb hx)
   · obtain ⟨sl, e1⟩ := I.base.slot b o e n hb hx
     exact ⟨sl,(hs.2 b (Nat.ne_of_lt (Nat.lt_of_lt_of_le (Heap.lt_size e) (I.ok.ua x c hfn hc)))).trans e1⟩
   · obtain ⟨o', e1⟩ := I.base.there b o e hx
     exact ⟨o',(hs.2 b (Nat.ne_of_lt (Nat.lt_of_lt_of_le (Heap.lt_size e) (I.ok.ua x c hfn hc)))).trans e1⟩
   · by_cases hj : j = i
     · subst hj
       rw [hi] at e1;cases e1
       rw [List.getElem?_set_self hiσ] at e2
       cases e2
       exact ⟨u,r,.inr ⟨.inl hk,c,hc,hc'⟩⟩
     · rw [List.getElem?_set_ne (Ne.symm hj)] at e2
       obtain ⟨u',r',q⟩:=hl j y v' e1 e2 e3
       refine ⟨u',r',?_⟩
       rcases q with q | ⟨k,c',e,z'⟩
       · exact .inl q
       · refine .inr ⟨k, c', e, z'.sameBut hs ?_⟩
         rintro rfl
         exact hj (oN hN e1 (I.ok.inj _ _ _ e hc ▸ hi))
   · by_cases hcc : c' = c
     · subst hcc;exact ⟨_,hc'⟩
     · obtain ⟨w2, z2⟩ := I.cell y c' e
       exact ⟨w2,z2.sameBut hs hcc⟩
   · obtain ⟨e, n, ne, nf, d⟩ := I.pin p hp
     refine ⟨(hs.2 p.1 ?_).trans e,n,ne,nf,d⟩
     intro q
     rw [q,hoc] at e
     have q':oc = p.2:=Option.some.inj e
     exact d w' (by rw [← q'];exact hocd)
theorem kR {M : Model} {A : Around} {E : Value → Shared → Prop} {i : Nat} {x : Str} {v : V} {u : Value} {Q : Unit → Shared → Prop} (I : Inv X pins σ H s) (hN : X.N.Nodup) (hi : X.N[i]? = some x) (hx : Loc X.env.scope x) (r : RelV v u)
   (h:∀ s',Inv X pins (σ.set i (some v)) H s'→Q () s') (hf:X.fn x = true∨X.env.scope.names.lookup x = some .local:=by first | exact .inl rfl | exact .inr rfl | assumption):wpAny M A (storeName X.env x u) Q E s :=
 sh I hN hi hx r (fun s' I' _=>h s' I') hf
theorem Inv.nu {s' : Shared} {ch : List Addr} (I : Inv X pins σ H s) (ho : s'.os = s.os) (u : Un (eh X.stack) ch H H' s.heap s'.heap) (ay : cW X.prog X.w H' s'.heap) (hg : AllBare s'.gens)
   (hch:∀ b ∈ ch,(b ∈ X.ex∨X.s₀.heap.objs.size ≤ b)∧b ≠ X.env.locals∧(∀ x c,X.env.cells.lookup x = some c→c ≠ b)∧∀ p ∈ X.pn ++ pins,p.1 ≠ b):Inv X pins σ H' s':=by
 obtain ⟨h',g',d',t',o'⟩:=s'
 have e:o' = s.os:=ho
 subst e
 exact I.call (g':=g') (t':=t') (d':=d') u ay hg hch
end
abbrev XK:=Value→Option Addr→Hp→Prop
abbrev St:=List (Option V)
abbrev VK:=V→Hp→Prop
abbrev TE:=St→Hp→VK→Prop
abbrev TT:=St→Hp→(Bool→Hp→Prop)→Prop
abbrev TA:=St→Hp→(List V→Hp→Prop)→Prop
structure Ends where
 nx:St→Hp→Prop
 rt:VK
 bk:St→Hp→Prop:=fun _ _=>False
 ct:St→Hp→Prop:=fun _ _=>False
abbrev TS:=Ends→St→Hp→Prop
def EP (X:Cx) (pins:List (Addr×Obj)) (σ : St) (Q:VK) (u:Value) (s':Shared):Prop:=∃ v H',Inv X pins σ H' s'∧RelV v u∧Q v H'
def TP (X:Cx) (pins:List (Addr×Obj)) (σ : St) (Q:Bool→Hp→Prop) (b:Bool) (s':Shared):Prop:=∃ H',Inv X pins σ H' s'∧Q b H'
def AP (X:Cx) (pins:List (Addr×Obj)) (σ : St) (Q:List V→Hp→Prop) (us:List Value) (s':Shared):Prop:=∃ vs H',Inv X pins σ H' s'∧aP vs us∧Q vs H'
def SP (X : Cx) (pins : List (Addr × Obj)) (D : Ends) (f : Flow) (s' : Shared) : Prop :=
 match f with
 | .next=>∃ σ' H',Inv X pins σ' H' s'∧D.nx σ' H'
 | .brk=>∃ σ' H',Inv X pins σ' H' s'∧D.bk σ' H'
 | .cont=>∃ σ' H',Inv X pins σ' H' s'∧D.ct σ' H'
 | .ret u=>∃ v σ' H',Inv X pins σ' H' s'∧RelV v u∧D.rt v H'
def PE (X : Cx) (e : Expr) (t : TE) : Prop :=
 ∀ (pins:List (Addr×Obj)) (s:Shared) (σ : St) (H:Hp) (Q:VK),Inv X pins σ H s→t σ H Q→wpAny (model X.prog X.w) X.A (eval e X.env) (EP X pins σ Q) X.xe s
def PT (X : Cx) (e : Expr) (t : TT) : Prop :=
 ∀ (pins:List (Addr×Obj)) (s:Shared) (σ : St) (H:Hp) (Q:Bool→Hp→Prop),Inv X pins σ H s→t σ H Q→wpAny (model X.prog X.w) X.A (isTrue e X.env (eval e X.env)) (TP X pins σ Q) X.xe s
def PW (X : Cx) (e : Expr) (t : TT) : Prop :=
 ∀ (whole:Sem Value) (pins:List (Addr×Obj)) (s:Shared) (σ : St) (H:Hp) (Q:Bool→Hp→Prop),Inv X pins σ H s→t σ H Q→wpAny (model X.prog X.w) X.A (isTrue e X.env whole) (TP X pins σ Q) X.xe s
theorem PW.pt {X:Cx} {e:Expr} {t:TT} (h:PW X e t):PT X e t:=h _
def PA (X : Cx) (es : List Expr) (t : TA) : Prop :=
 ∀ (pos:Pos) (pins:List (Addr×Obj)) (s:Shared) (σ : St) (H:Hp) (Q:List V→Hp→Prop),Inv X pins σ H s→t σ H Q→wpAny (model X.prog X.w) X.A (spliced (backTo pos (starEach es X.env))) (AP X pins σ Q) X.xe s
def PS (X : Cx) (st : Stmt) (t : TS) : Prop :=
 ∀ (pins:List (Addr×Obj)) (s:Shared) (σ : St) (H:Hp) (D:Ends),Inv X pins σ H s→t D σ H→wpAny (model X.prog X.w) X.A (exec st X.env) (SP X pins D) X.xe s
def iO (X : Cx) (st : List Stmt) (t : TS) : Prop :=
 ∀ (pins:List (Addr×Obj)) (s:Shared) (σ : St) (H:Hp) (D:Ends),Inv X pins σ H s→t D σ H→wpAny (model X.prog X.w) X.A (execs st X.env) (SP X pins D) X.xe s
theorem a9 {α : Type} {t:Sem α} {Q Q' : α→Shared→Prop} {M:Model} {A:Around} {E:Value→Shared→Prop} {s:Shared} (h:wpAny M A t Q E s) (hQ:∀ a s,Q a s→Q' a s):wpAny M A t Q' E s:=wpAny_mono h hQ fun _ _ x=>x
end L2
namespace L2
open PySem PySem.Spec PyProof.Rows
section
variable {X:Cx}
def bE (i:Nat):TE:=fun σ H Q=>∃ v,σ[i]? = some (some v)∧Q v H
def tC (v:V):TE:=fun _ H Q=>Q v H
theorem J3 {i : Nat} {x : Str} {pos : Pos} (hN : X.N[i]? = some x) (hv : KP X.env.scope x) (hd : (x == ("__debug__" : Str)) = false := by decide) (hcd : (x == ("__classdict__" : Str)) = false := by decide) : PE X (.Name x pos) (bE i) := by
 intro pins s σ H Q I h
 obtain ⟨v,e,h⟩:=h
 obtain ⟨m,hn,hl⟩:=I.loc
 obtain ⟨u,r,l⟩:=hl i x v hN e hv
 have fin:EP X pins σ Q u s:=⟨v,H,I,r,h⟩
 rcases l with ⟨hk,hm⟩ | ⟨hk,c,hc,hcell⟩
 · exact wpAny_Name (wpAny_loadName_local I.ok.kind hk hn hm fin) hd
 · rcases hk with hk | hk
   · exact wpAny_Name (wpAny_loadName_cell I.ok.kind hk hc hcell fin) hd
   · exact wpAny_Name (wpAny_loadName_free I.ok.kind hk hc hcell fin hcd) hd
theorem ak {i j pos}:PE X (.Constant (.int i) j pos) (tC (.int i)):=fun _ _ _ H _ I h=>wpAny_Constant_int ⟨.int i,H,I.tok _,⟨_,rfl⟩,h⟩
theorem gz {b j pos}:PE X (.Constant (.bool b) j pos) (tC (.bl b)):=fun _ _ _ H _ I h=>Constant_bool ⟨.bl b,H,I,rfl,h⟩
theorem bz {j pos}:PE X (.Constant .none j pos) (tC .aH):=fun _ _ _ H _ I h=>Constant_none ⟨.aH,H,I,rfl,h⟩
theorem cm {x j pos}:PE X (.Constant (.str x) j pos) (tC (.str x)):=fun _ _ _ H _ I h=>Calls.Constant_str ⟨.str x,H,I.tok _,⟨_,rfl⟩,h⟩
def Gl (X:Cx) (x:Str):Prop:=X.env.kindOf x = some .globalImplicit
theorem jb {E : Value → Shared → Prop} {pins : List (Addr × Obj)} {s : Shared} {σ : St} {H : Hp} {x : Str} {u : Value} {pos : Pos} {Q : Value → Shared → Prop} (I : Inv X pins σ H s) (hg : Gl X x) (hm : X.mg x = some u) (h : Q u s)
   (hd:(x == ("__debug__" : Str)) = false:=by decide):wpAny (model X.prog X.w) X.A (eval (.Name x pos) X.env) Q E s :=
 Calls.Name_function_global I.ok.kind hg (Calls.loadGlobal_global (by rw [I.ok.glob];exact I.mod.glob.keeps I.bk) hm h) hd
theorem jh {E : Value → Shared → Prop} {pins : List (Addr × Obj)} {s : Shared} {σ : St} {H : Hp} {x : Str} {u : Value} {pos : Pos} {Q : Value → Shared → Prop} (I : Inv X pins σ H s) (hg : Gl X x) (hm : X.mg x = none) (hv : bootBuiltins x = some u) (h : Q u s)
   (hn:x ≠ "__name__":=by decide) (hd:(x == ("__debug__" : Str)) = false:=by decide):wpAny (model X.prog X.w) X.A (eval (.Name x pos) X.env) Q E s:=by
 obtain ⟨mb,h1,h2⟩:=I.mod.blt
 exact Calls.Name_function_global I.ok.kind hg (Calls.loadGlobal_builtin (by rw [I.ok.glob];exact I.mod.glob.keeps I.bk) hm (by rw [I.ok.blt];exact h1.keeps I.bk) ((h2 x hn).trans hv) h) hd
theorem bg {x : Str} {v : V} {u : Value} {pos : Pos} (hg : Gl X x) (hm : X.mg x = some u) (r : RelV v u) (hd : (x == ("__debug__" : Str)) = false := by decide) : PE X (.Name x pos) (tC v) :=
 fun _ _ _ H _ I h=>jb I hg hm ⟨v,H,I,r,h⟩ hd
theorem Gj {x : Str} {v : V} {u : Value} {pos : Pos} (hg : Gl X x) (hm : X.mg x = none) (hv : bootBuiltins x = some u) (r : RelV v u) (hn : x ≠ "__name__" := by decide) (hd : (x == ("__debug__" : Str)) = false := by decide) : PE X (.Name x pos) (tC v) :=
 fun _ _ _ H _ I h=>jh I hg hm hv ⟨v,H,I,r,h⟩ hn hd
variable {a b:Expr} {ta tb:TE} {pos:Pos}
def PC (X : Cx) (op : CmpOp) (a b : Expr) (t : TE) : Prop :=
 ∀ (pins : List (Addr × Obj)) (s : Shared) (σ : St) (H : Hp) (Q : VK), Inv X pins σ H s → t σ H Q →
   wpAny (model X.prog X.w) X.A (eval a X.env) (fun v s₁=>wpAny (model X.prog X.w) X.A (eval b X.env) (fun u s₂=>wpAny (model X.prog X.w) X.A (compareOp op v u) (EP X pins σ Q) X.xe s₂) X.xe s₁) X.xe s
def tB (t:TE):TT:=fun σ H Q=>t σ H fun x H1=>∃ c,x = .bl c∧Q c H1
theorem zV {op : CmpOp} {t : TE} (h : PC X op a b t) (h1 : behindInMarks op b = false := by first | exact nobehind _ (by decide) (by decide) | rfl) : PT X (.Compare a [op] [b] pos) (tB t) := by
 intro pins s σ H Q I hw
 refine wpAny_isTrue_Compare1 (a9 (h pins s σ H _ I hw) fun v s1 h1=>a9 h1 fun u s2 h2=>a9 h2 fun c s3 ⟨x,H1,I1,r1,q1⟩=>?_) h1
 obtain ⟨d,rfl,q⟩:=q1
 cases r1
 exact wpAny_truthy_bool ⟨H1,I1,q⟩
variable {tA tB':TT} {rest:List Expr}
def Hv (t u:TT):TT:=fun σ H Q=>t σ H fun c H1=>if c = true then u σ H1 Q else Q false H1
def se (t u:TT):TT:=fun σ H Q=>t σ H fun c H1=>if c = true then Q true H1 else u σ H1 Q
def xM (t:TT):TT:=fun σ H Q=>t σ H fun c H1=>Q (!c) H1
theorem kf (ha : PT X a tA) : PW X (.BoolOp .And [a] pos) tA := by
 intro wh pins s σ H Q I h
 refine isTrue_and (a9 (ha pins s σ H Q I h) fun c s1 e=>?_)
 cases c with
 | true=>exact isTrue_and_nil e
 | false=>exact e
theorem fE (ha : PT X a tA) : PW X (.BoolOp .Or [a] pos) tA := by
 intro wh pins s σ H Q I h
 refine isTrue_or (a9 (ha pins s σ H Q I h) fun c s1 e=>?_)
 cases c with
 | false=>exact isTrue_or_nil e
 | true=>exact e
theorem mW (ha : PT X a tA) (hb : PW X (.BoolOp .And (b :: rest) pos) tB') : PW X (.BoolOp .And (a :: b :: rest) pos) (Hv tA tB') := by
 intro wh pins s σ H Q I h
 refine isTrue_and (a9 (ha pins s σ H _ I h) fun c s1 ⟨H1,I1,q1⟩=>?_)
 cases c with
 | true=>exact hb wh pins s1 σ H1 Q I1 q1
 | false=>exact ⟨H1,I1,q1⟩
theorem fO (ha : PT X a tA) (hb : PW X (.BoolOp .Or (b :: rest) pos) tB') : PW X (.BoolOp .Or (a :: b :: rest) pos) (se tA tB') := by
 intro wh pins s σ H Q I h
 refine isTrue_or (a9 (ha pins s σ H _ I h) fun c s1 ⟨H1,I1,q1⟩=>?_)
 cases c with
 | true=>exact ⟨H1,I1,q1⟩
 | false=>exact hb wh pins s1 σ H1 Q I1 q1
theorem hZ (ha : PT X a tA) : PT X (.UnaryOp .Not a pos) (xM tA) := by
 intro pins s σ H Q I h
 exact isTrue_not (ha pins s σ H (fun c H1=>Q (!c) H1) I h)
def EE (ta tb:TE):TE:=fun σ H Q=>ta σ H fun x H1=>∃ c,x = .bl c∧if c = true then tb σ H1 Q else Q (.bl false) H1
def JK (ta tb:TE):TE:=fun σ H Q=>ta σ H fun x H1=>∃ c,x = .bl c∧if c = true then Q (.bl true) H1 else tb σ H1 Q
theorem AE {op} {t:TE} (h:PE X a t):PE X (.BoolOp op [a] pos) t:=fun pins s σ H Q I hw=>BoolOp_one (h pins s σ H Q I hw)
theorem Kk (ha : PE X a ta) (hb : PE X (.BoolOp .And (b :: rest) pos) tb) : PE X (.BoolOp .And (a :: b :: rest) pos) (EE ta tb) := by
 intro pins s σ H Q I h
 refine BoolOp_and (a9 (ha pins s σ H _ I h) fun v s1 ⟨x,H1,I1,r1,q1⟩=>?_)
 obtain ⟨c,rfl,q1⟩:=q1
 cases r1
 refine wpAny_truthy_bool ?_
 cases c with
 | true=>exact hb pins s1 σ H1 Q I1 q1
 | false=>exact ⟨.bl false,H1,I1,rfl,q1⟩
theorem LO (ha : PE X a ta) (hb : PE X (.BoolOp .Or (b :: rest) pos) tb) : PE X (.BoolOp .Or (a :: b :: rest) pos) (JK ta tb) := by
 intro pins s σ H Q I h
 refine BoolOp_or (a9 (ha pins s σ H _ I h) fun v s1 ⟨x,H1,I1,r1,q1⟩=>?_)
 obtain ⟨c,rfl,q1⟩:=q1
 cases r1
 refine wpAny_truthy_bool ?_
 cases c with
 | false=>exact hb pins s1 σ H1 Q I1 q1
 | true=>exact ⟨.bl true,H1,I1,rfl,q1⟩
def LW (t:TT) (ta tb:TE):TE:=fun σ H Q=>t σ H fun c H1=>if c = true then ta σ H1 Q else tb σ H1 Q
theorem jA {c : Expr} (hc : PT X c tA) (ha : PE X a ta) (hb : PE X b tb) : PE X (.IfExp c a b pos) (LW tA ta tb) := by
 intro pins s σ H Q I h
 refine wpAny_IfExp (a9 (hc pins s σ H _ I h) fun d s1 ⟨H1,I1,q1⟩=>?_)
 cases d with
 | true=>exact ha pins s1 σ H1 Q I1 q1
 | false=>exact hb pins s1 σ H1 Q I1 q1
end
end L2
namespace L2
open PySem PySem.Spec PyProof.Rows
def az (K : PySem.W.Frag) (H : Hp) (a : Addr) (xs : List V) : Prop :=
 Rd H a (.lst xs) ∨
   ∃ (o:Obj) (its:Array Value) (n:Nat),K.lookup a = some o∧o.cls = .type "list"∧o.dict = none∧o.data = .seq its n∧its.size ≤ sizeLine∧aP xs its.toList
def aW (K : PySem.W.Frag) (H : Hp) (a : Addr) (xs : List V) : Prop :=
 Rd H a (.tup xs) ∨
   ∃ (o:Obj) (its:Array Value) (n:Nat),K.lookup a = some o∧o.cls = .type "tuple"∧o.data = .seq its n∧its.size ≤ sizeLine∧aP xs its.toList
def MF : Value → Option V
 | .none=>some .aH
 | .bool b=>some (.bl b)
 | .int i _=>some (.int i)
 | .str x _=>some (.str x)
 | .bytes b _=>some (.byt b)
 | .float b _=>some (.uW b)
 | .ref a=>some (.ref a)
 | .type n=>some (.ty n)
 | _=>none
theorem RelV.abs {x : V} {u : Value} (r : RelV x u) : MF u = some x := by
 cases x with
 | aH=>cases r;rfl
 | bl _=>cases r;rfl
 | int _=>obtain ⟨t,rfl⟩:=r;rfl
 | str _=>obtain ⟨t,rfl⟩:=r;rfl
 | byt _=>obtain ⟨t,rfl⟩:=r;rfl
 | uW _=>obtain ⟨t,rfl⟩:=r;rfl
 | ref _=>cases r;rfl
 | ty _=>cases r;rfl
theorem RelV.inj {x y:V} {u:Value} (r:RelV x u) (q:RelV y u):x = y:=Option.some.inj (r.abs.symm.trans q.abs)
theorem aP.inj : ∀ {xs ys : List V} {us : List Value}, aP xs us → aP ys us → xs = ys
 | _,_,_,.nil,.nil=>rfl
 | _,_,_,.cons r t,.cons r' t'=>by rw [r.inj r',aP.inj t t']
section
variable {X:Cx} {pins:List (Addr×Obj)} {σ : St} {H:Hp} {s:Shared} {a:Addr} {xs ys:List V}
theorem az.of {K:PySem.W.Frag} (h:H a = some (.lst xs)):az K H a xs:=.inl (.inl h)
theorem aW.of {K:PySem.W.Frag} (h:H a = some (.tup xs)):aW K H a xs:=.inl (.inl h)
theorem Inv.list (I : Inv X pins σ H s) (h : az X.K H a xs) : ∃ its : List Value, aP xs its ∧ PlainL s.heap a its.toArray ∧ xs.length ≤ sizeLine := by
 rcases h with h | ⟨o,its,n,hk,hc,hd,hs,hz,r⟩
 · obtain ⟨z, its, n, r, e⟩ := h.ok I.ay
   exact ⟨its,r,⟨_,n,e,rfl,rfl,rfl⟩,z⟩
 · refine ⟨its.toList, r, ⟨o, n, I.ee a o hk, hc, hd, by simpa using hs⟩, ?_⟩
   have e:=r.length
   simp only [Array.length_toList] at e
   omega
theorem Inv.tuple (I : Inv X pins σ H s) (h : aW X.K H a xs) : ∃ its : List Value, aP xs its ∧ IsTup s.heap a its.toArray ∧ xs.length ≤ sizeLine := by
 rcases h with h | ⟨o,its,n,hk,hc,hs,hz,r⟩
 · obtain ⟨z, its, r, p⟩ := h.ok I.ay
   exact ⟨its,r,p,z⟩
 · refine ⟨its.toList, r, ⟨o, I.ee a o hk, hc, n, by simpa using hs⟩, ?_⟩
   have e:=r.length
   simp only [Array.length_toList] at e
   omega
theorem Inv.ip (I : Inv X pins σ H s) (h : az X.K H a xs) (h' : az X.K H a ys) : xs = ys := by
 obtain ⟨its,r,⟨o,n,e,_,_,d⟩,_⟩:=I.list h
 obtain ⟨its',r',⟨o',n',e',_,_,d'⟩,_⟩:=I.list h'
 rw [e] at e';cases e'
 rw [d] at d'
 injection d' with d1 _
 have:its = its':=by simpa using congrArg Array.toList d1
 subst this
 exact r.inj r'
theorem Inv.gQ (I : Inv X pins σ H s) (h : aW X.K H a xs) (h' : aW X.K H a ys) : xs = ys := by
 obtain ⟨its,r,⟨o,e,_,n,d⟩,_⟩:=I.tuple h
 obtain ⟨its',r',⟨o',e',_,n',d'⟩,_⟩:=I.tuple h'
 rw [e] at e';cases e'
 rw [d] at d'
 injection d' with d1 _
 have:its = its':=by simpa using congrArg Array.toList d1
 subst this
 exact r.inj r'
end
abbrev Cx.hJ (X:Cx) (E:Value→Shared→Prop):Cx:={ X with xe:=E }
abbrev Cx.cw (X:Cx):Cx:=X.hJ fun _ _=>False
theorem Cx.Ok.hJ {X : Cx} (ok : X.Ok) (E : Value → Shared → Prop) : (X.hJ E).Ok :=
 ⟨ok.mod,ok.kind,ok.glob,ok.blt,ok.above,ok.inj,ok.has,ok.ua,ok.hd,ok.frames,ok.vK,ok.D6,ok.bs,ok.nY,ok.oi,ok.qz,ok.gH,ok.pI⟩
theorem Cx.Ok.fF {X : Cx} {E : Value → Shared → Prop} (ok : (X.hJ E).Ok) : X.Ok :=
 ⟨ok.mod,ok.kind,ok.glob,ok.blt,ok.above,ok.inj,ok.has,ok.ua,ok.hd,ok.frames,ok.vK,ok.D6,ok.bs,ok.nY,ok.oi,ok.qz,ok.gH,ok.pI⟩
section
variable {X:Cx} {pins:List (Addr×Obj)} {σ : St} {H:Hp} {s:Shared} {E:Value→Shared→Prop}
theorem Inv.hJ (I:Inv X pins σ H s) (E:Value→Shared→Prop):Inv (X.hJ E) pins σ H s:=⟨I.ok.hJ E,I.os,I.bare,I.base,I.loc,I.cell,I.free,I.fC,I.pin,I.ay,I.len⟩
theorem Inv.fF (I:Inv (X.hJ E) pins σ H s):Inv X pins σ H s:=⟨I.ok.fF,I.os,I.bare,I.base,I.loc,I.cell,I.free,I.fC,I.pin,I.ay,I.len⟩
theorem SP.fF {D : Ends} {f : Flow} {s' : Shared} (h : SP (X.hJ E) pins D f s') : SP X pins D f s' := by
 cases f with
 | next=>obtain ⟨σ',H',I,q⟩:=h;exact ⟨σ',H',I.fF,q⟩
 | brk=>obtain ⟨σ',H',I,q⟩:=h;exact ⟨σ',H',I.fF,q⟩
 | cont=>obtain ⟨σ',H',I,q⟩:=h;exact ⟨σ',H',I.fF,q⟩
 | ret u=>obtain ⟨v,σ',H',I,r,q⟩:=h;exact ⟨v,σ',H',I.fF,r,q⟩
theorem PT.cw {e : Expr} {t : TT} (h : PT X.cw e t) : PT X e t := fun pins s σ H Q I hw =>
 wpAny_mono (h pins s σ H Q (I.hJ _) hw) (fun _ _ ⟨H',I',q⟩=>⟨H',I'.fF,q⟩) fun _ _ z=>False.elim z
theorem iO.cw {st : List Stmt} {t : TS} (h : iO X.cw st t) : iO X st t := fun pins s σ H D I hw =>
 wpAny_mono (h pins s σ H D (I.hJ _) hw) (fun _ _ q=>q.fF) fun _ _ z=>False.elim z
end
section
variable {X:Cx} {st:Stmt} {rest:List Stmt} {t u:TS} {e:Expr} {te:TE} {pos:Pos}
def iX:TS:=fun D σ H=>D.nx σ H
def iQ (t u:TS):TS:=fun D σ H=>t { D with nx:=u D } σ H
theorem aI:iO X [] iX:=fun _ _ σ H _ I h=>wpAny_execs_nil ⟨σ,H,I,h⟩
theorem ai (h1 : PS X st t) (h2 : iO X rest u) : iO X (st :: rest) (iQ t u) := by
 intro pins s σ H D I h
 refine wpAny_execs_cons (a9 (h1 pins s σ H { D with nx:=u D } I h) fun f s1 q=>?_)
 cases f with
 | next =>
   obtain ⟨σ',H',I',q⟩:=q
   exact h2 pins s1 σ' H' D I' q
 | ret v=>exact q
 | brk=>exact q
 | cont=>exact q
theorem ag (h1 : PS X st t) : iO X [st] t := by
 intro pins s σ H D I h
 refine wpAny_execs_cons (a9 (h1 pins s σ H D I h) fun f s1 q=>?_)
 cases f with
 | next=>exact wpAny_execs_nil q
 | ret v=>exact q
 | brk=>exact q
 | cont=>exact q
theorem Inv.quiet {pins:List (Addr×Obj)} {σ : St} {H:Hp} {s:Shared} (I:Inv X pins σ H s):interactive X.env = false:=by simp [interactive,I.ok.kind]
def xv (te:TE):TS:=fun D σ H=>te σ H fun _ H1=>D.nx σ H1
theorem cB (he : PE X e te) (hs : swapsWith e none pos.line X.env = pure false := by rfl) : PS X (.Expr e pos) (xv te) := by
 intro pins s σ H D I h
 exact wpAny_Expr_any (a9 (he pins s σ H _ I h) fun v s1 ⟨x,H1,I1,r1,q1⟩=>⟨σ,H1,I1,q1⟩) I.quiet hs
def jT (te:TE):TS:=fun D σ H=>te σ H D.rt
theorem aw (he : PE X e te) : PS X (.Return (some e) pos) (jT te) := by
 intro pins s σ H D I h
 exact wpAny_Return_some (a9 (he pins s σ H _ I h) fun v s1 ⟨x,H1,I1,r1,q1⟩=>⟨x,σ,H1,I1,r1,q1⟩)
def kP (c:TT) (t u:TS):TS:=fun D σ H=>c σ H fun b H1=>if b = true then t D σ H1 else u D σ H1
theorem aX {c : Expr} {a b : List Stmt} {tc : TT} (hc : PT X c tc) (ha : iO X a t) (hb : iO X b u) : PS X (.If c a b pos) (kP tc t u) := by
 intro pins s σ H D I h
 refine wpAny_If (a9 (hc pins s σ H _ I h) fun d s1 ⟨H1,I1,q1⟩=>?_)
 cases d with
 | true=>exact ha pins s1 σ H1 D I1 q1
 | false=>exact hb pins s1 σ H1 D I1 q1
def JB:TS:=fun _ _ _=>False
theorem BY:PS X st JB:=fun _ _ _ _ _ _ h=>h.elim
end
abbrev TG:=V→St→Hp→(St→Hp→Prop)→Prop
abbrev nS:=List V→St→Hp→(St→Hp→Prop)→Prop
def PG (X : Cx) (target : Expr) (t : TG) : Prop :=
 ∀ (pins : List (Addr × Obj)) (s : Shared) (σ : St) (H : Hp) (v : V) (u : Value) (Q : St → Hp → Prop), Inv X pins σ H s → RelV v u → t v σ H Q →
   wpAny (model X.prog X.w) X.A (assign target X.env u) (fun _ s'=>∃ σ' H',Inv X pins σ' H' s'∧Q σ' H') X.xe s
def zC (X : Cx) (ts : List Expr) (t : nS) : Prop :=
 ∀ (pins : List (Addr × Obj)) (s : Shared) (σ : St) (H : Hp) (vs : List V) (us : List Value) (Q : St → Hp → Prop), Inv X pins σ H s → aP vs us → t vs σ H Q →
   wpAny (model X.prog X.w) X.A (assignInOrder ((assignEach ts X.env).map (·.2)) us) (fun _ s'=>∃ σ' H',Inv X pins σ' H' s'∧Q σ' H') X.xe s
abbrev xQ:=V→V→V→Hp→(Hp→Prop)→Prop
def GX (X : Cx) (t : xQ) : Prop :=
 ∀ (pins : List (Addr × Obj)) (s : Shared) (σ : St) (H : Hp) (o i v : V) (ov iv u : Value) (Q : Hp → Prop), Inv X pins σ H s → RelV o ov → RelV i iv → RelV v u → t o i v H Q →
   wpAny (model X.prog X.w) X.A (setItem ov iv u) (fun _ s'=>∃ H',Inv X pins σ H' s'∧Q H') X.xe s
section
variable {X:Cx} {pos:Pos}
def dW (i:Nat):TG:=fun v σ H Q=>Q (σ.set i (some v)) H
theorem bb {i : Nat} {x : Str} (hN : X.N.Nodup) (hi : X.N[i]? = some x) (hx : Loc X.env.scope x) (hf : X.fn x = true ∨ X.env.scope.names.lookup x = some .local := by first | exact .inl rfl | exact .inr rfl | assumption) : PG X (.Name x pos) (dW i) := by
 intro pins s σ H v u Q I r h
 exact wpAny_assign_Name (kR I hN hi hx r (fun s' I'=>⟨_,H,I',h⟩) hf)
def JU:nS:=fun vs σ H Q=>vs = []∧Q σ H
def Dl (t:TG) (u:nS):nS:=fun vs σ H Q=>∃ v r,vs = v :: r∧t v σ H fun σ' H'=>u r σ' H' Q
theorem qT : zC X [] JU := by
 intro pins s σ H vs us Q I r h
 obtain ⟨e,h⟩:=h
 subst e
 cases r
 exact assignInOrder_nil ⟨σ,H,I,h⟩
theorem eT {e : Expr} {es : List Expr} {t : TG} {u : nS} (h1 : PG X e t) (h2 : zC X es u)
   (hs:(assignEach (e :: es) X.env).map (·.2) = assign e X.env :: (assignEach es X.env).map (·.2):=by rfl):zC X (e :: es) (Dl t u):=by
 intro pins s σ H vs us Q I r h
 obtain ⟨v,vr,e1,h⟩:=h
 subst e1
 cases r with
 | cons r rr =>
   rw [hs]
   refine assignInOrder_cons (a9 (h1 pins s σ H _ _ _ I r h) fun _ s1 ⟨σ1,H1,I1,q1⟩=>?_)
   exact h2 pins s1 σ1 H1 _ _ Q I1 rr q1
def BR (K:PySem.W.Frag) (n:Nat) (t:nS):TG:=fun v σ H Q=>∃ a xs,v = .ref a∧aW K H a xs∧xs.length = n∧t xs σ H Q
theorem Im {es : List Expr} {k : Nat} {t : nS} {n : Nat} (hc : X.calm = true) (h : zC X es t)
   (hn:(assignEach es X.env).length = n:=by rfl) (hst:(assignEach es X.env).findIdx? (·.1) = none:=by rfl):PG X (.Tuple es k pos) (BR X.K n t):=by
 intro pins s σ H v u Q I r hw
 obtain ⟨a,xs,e1,hq,hl,hw⟩:=hw
 subst e1
 cases r
 obtain ⟨its,rv,ht,hz⟩:=I.tuple hq
 refine assign_Tuple_tuple (I.ok.hd hc) ht (by simp [hn,← hl,rv.length]) hst fun h' hx=>?_
 have I1:Inv X pins σ H { s with heap:=h' }:=I.kept (t':=s.toks) fun b o e=>hx b o (Nat.ne_of_lt (Heap.lt_size e)) e
 exact h pins _ σ H xs _ Q I1 (by simpa using rv) hw
def Ip (to ti:TE) (t:xQ):TG:=fun v σ H Q=>to σ H fun o H1=>ti σ H1 fun i H2=>t o i v H2 fun H3=>Q σ H3
theorem zz {o i : Expr} {to ti : TE} {t : xQ} (ho : PE X o to) (hi : PE X i ti) (hs : GX X t)
   (ha : ∀ v, assign (.Subscript o i pos) X.env v = (do
     let ov ← holding [v] (eval o X.env)
     let iv ← holding [v,ov] (eval i X.env)
     standAt pos
     holding [v,ov,iv] (setItem ov iv v)
     release [v,ov,iv] []):=by intro _;rfl):PG X (.Subscript o i pos) (Ip to ti t):=by
 intro pins s σ H v u Q I r h
 rw [ha]
 refine wpAny_bind (wpAny_holding (a9 (ho pins s σ H _ I h) fun ov s1 ⟨x,H1,I1,r1,q1⟩=>?_))
 refine wpAny_bind (wpAny_holding (a9 (hi pins s1 σ H1 _ I1 q1) fun iv s2 ⟨y,H2,I2,r2,q2⟩=>?_))
 refine wpAny_bind (wpAny_standAt (wpAny_bind (wpAny_holding (a9 (hs pins s2 σ H2 x y v ov iv u _ I2 r1 r2 r q2) fun _ s3 ⟨H3,I3,q3⟩=>?_))))
 exact wpAny_release ⟨σ,H3,I3,q3⟩
def uw (te:TE) (g:TG):TS:=fun D σ H=>te σ H fun x H1=>g x σ H1 D.nx
theorem yE {tg e : Expr} {te : TE} {g : TG} (he : PE X e te) (hg : PG X tg g) (hs : swapsWithSole [tg] e pos.line X.env = pure false := by rfl) (hw : swappedStores [tg] e X.env = pure none := by rfl)
   (h1:(assignEach [tg] X.env).map (·.2) = [assign tg X.env]:=by rfl):PS X (.Assign [tg] e pos) (uw te g):=by
 intro pins s σ H D I h
 refine wpAny_Assign_stores (a9 (he pins s σ H _ I h) fun v s1 ⟨x,H1,I1,r1,q1⟩=>?_) hs hw
 rw [h1]
 exact a9 (hg pins s1 σ H1 x v _ I1 r1 q1) fun _ s2 q=>q
theorem aS {i : Nat} {x : Str} {e : Expr} {te : TE} {pos' : Pos} (hN : X.N.Nodup) (hi : X.N[i]? = some x) (hx : Loc X.env.scope x) (he : PE X e te) (hs : swapsWith e (some (.Name x pos')) pos.line X.env = pure false := by rfl) (hf : X.fn x = true ∨ X.env.scope.names.lookup x = some .local := by first | exact .inl rfl | exact .inr rfl | assumption) :
   PS X (.Assign [.Name x pos'] e pos) (uw te (dW i)):=by
 intro pins s σ H D I h
 refine wpAny_Assign_Name (a9 (he pins s σ H _ I h) fun v s1 ⟨y,H1,I1,r1,q1⟩=>?_) hs
 exact kR I1 hN hi hx r1 (fun s2 I2=>⟨_,H1,I2,q1⟩) hf
end
section
variable {X:Cx} {pos:Pos}
def IH (c : TT) (tb : TS) : TS := fun D σ H => ∃ W : Nat → St → Hp → Prop, (∃ m, W m σ H) ∧ ∀ m σ H, W m σ H →
 c σ H fun b H1=>if b = true then ∃ N:St→Hp→Prop,(∀ σ' H',N σ' H'→∃ m',m' < m∧W m' σ' H')∧tb { D with nx:=N,ct:=N,bk:=D.nx } σ H1 else D.nx σ H1
theorem t6 {c : Expr} {body : List Stmt} {tc : TT} {tb : TS} (hp : PassesOwn (model X.prog X.w) X.A X.env X.xe) (hc : PT X c tc) (hb : iO X body tb) : PS X (.While c body [] pos) (IH tc tb) := by
 intro pins s σ H D I h
 obtain ⟨W,⟨m0,w0⟩,turn⟩:=h
 refine wpAny_While (codeAny_whileLoop (fun n s'=>∃ σ' H',Inv X pins σ' H' s'∧W n σ' H') ?_ m0 ⟨σ,H,I,w0⟩)
 rintro n s1 ⟨σ1,H1,I1,w1⟩
 refine wpAny_passesOwn hp (a9 (hc pins s1 σ1 H1 _ I1 (turn n σ1 H1 w1)) fun b s2 ⟨H2,I2,q2⟩=>?_)
 cases b with
 | true =>
   obtain ⟨N,hN,q2⟩:=q2
   rw [if_pos rfl]
   refine wpAny_passesOwn hp (a9 (hb pins s2 σ1 H2 _ I2 q2) fun f s3 q3=>?_)
   cases f with
   | next =>
     obtain ⟨σ3,H3,I3,n3⟩:=q3
     obtain ⟨m',hm,w3⟩:=hN σ3 H3 n3
     exact ⟨m',hm,σ3,H3,I3,w3⟩
   | cont =>
     obtain ⟨σ3,H3,I3,n3⟩:=q3
     obtain ⟨m',hm,w3⟩:=hN σ3 H3 n3
     exact ⟨m',hm,σ3,H3,I3,w3⟩
   | brk=>exact q3
   | ret v=>exact q3
 | false =>
   rw [if_neg Bool.false_ne_true]
   exact wpAny_execs_nil ⟨σ1,H2,I2,q2⟩
end
structure It where
 go:Nat→Hp→Prop
 uX:Nat→Hp→V→Hp→Prop
 stop:Nat→Hp→Prop
def l7 (X : Cx) (pins : List (Addr × Obj)) (H : Hp) (b : Addr) : Prop :=
 H b = none∧b ≠ X.env.locals∧b ∉ X.fs∧(b ∈ X.ex∨X.s₀.heap.objs.size ≤ b)∧(∀ x c,X.env.cells.lookup x = some c→c ≠ b)∧∀ p ∈ X.pn ++ pins,p.1 ≠ b
theorem Inv.kH {X : Cx} {pins : List (Addr × Obj)} {σ : St} {H H' : Hp} {s : Shared} {b : Addr} (I : Inv X pins σ H s) (hb : s.heap.objs.size ≤ b) (hn : H' b = none) : l7 X pins H' b := by
 refine ⟨hn,Nat.ne_of_gt (Nat.lt_of_lt_of_le I.lt hb),I.Ks hb,.inr (Nat.le_trans I.sz hb),fun x c e z=>?_,fun p hp z=>?_⟩
 · obtain ⟨v, q⟩ := I.cell x c e
   exact absurd (Nat.lt_of_lt_of_le q.lt (by rw [z];exact hb)) (Nat.lt_irrefl _)
 · exact absurd (Nat.lt_of_lt_of_le (Heap.lt_size (I.pin p hp).1) (by rw [z];exact hb)) (Nat.lt_irrefl _)
structure Turn (P : Program) (w : World) (K : PySem.W.Frag) (tg : Expr) (J : It) (fp : List Addr) (it : Addr) (tn : Nat → Heap → Prop) : Prop where
 mem:it ∈ fp
 obj:∀ i h,tn i h→∀ b ∈ fp,∃ o,h.get? b = some o∧∀ v,o.data ≠ .cell v
 keep:∀ i h h',tn i h→(∀ b ∈ fp,∀ o,h.get? b = some o→h'.get? b = some o)→tn i h'
 item : ∀ (X : Cx), X.prog = P → X.w = w → X.K = K → X.calm = true → ∀ (i : Nat) (pins : List (Addr × Obj)) (s : Shared) (σ : St) (H : Hp) (E : Value → Shared → Prop), Inv X pins σ H s → (∀ b ∈ fp, l7 X pins H b) → tn i s.heap → J.go i H →
   wpAny (model P w) X.A (pyNext (.ref it)) (fun r s1 => ∃ u, r = some u ∧
     wpAny (model P w) X.A (letOwnedTupleGo tg (.ref it) u) (fun _ s2=>∃ x H',Inv X pins σ H' s2∧RelV x u∧J.uX i H x H'∧tn (i + 1) s2.heap∧∀ b ∈ fp,H' b = none) E s1) E s
 done : ∀ (X : Cx), X.prog = P → X.w = w → X.K = K → X.calm = true → ∀ (i : Nat) (pins : List (Addr × Obj)) (s : Shared) (σ : St) (H : Hp) (E : Value → Shared → Prop), Inv X pins σ H s → (∀ b ∈ fp, l7 X pins H b) → tn i s.heap → J.stop i H →
   wpAny (model P w) X.A (pyNext (.ref it)) (fun r s1=>r = none∧Inv X pins σ H s1) E s
 self:∀ (A:Around) (i:Nat) (s:Shared) (Q:Value→Shared→Prop) (E:Value→Shared→Prop),tn i s.heap→Q (.ref it) s→wpAny (model P w) A (pyIter (.ref it)) Q E s
abbrev TI:=St→Hp→(It→Hp→Prop)→Prop
def LV (X : Cx) (pins : List (Addr × Obj)) (σ : St) (tg : Expr) (R : It → Hp → Prop) (itv : Value) (s2 : Shared) : Prop :=
 ∃ (it:Addr) (fp:List Addr) (tn:Nat→Heap→Prop) (J:It) (H':Hp),itv = .ref it∧Inv X pins σ H' s2∧Turn X.prog X.w X.K tg J fp it tn∧tn 0 s2.heap∧(∀ b ∈ fp,l7 X pins H' b)∧R J H'
def PI (X : Cx) (tg iter : Expr) (wi : TI) : Prop :=
 ∀ (pins : List (Addr × Obj)) (s : Shared) (σ : St) (H : Hp) (R : It → Hp → Prop), Inv X pins σ H s → wi σ H R →
   wpAny (model X.prog X.w) X.A (eval iter X.env) (fun v s1=>wpAny (model X.prog X.w) X.A (pyIter v) (LV X pins σ tg R) X.xe s1) X.xe s
theorem xp {M : Model} {A : Around} {E : Value → Shared → Prop} {s : Shared} {tg : Expr} {it : Addr} {u : Value} {o : Obj} {n : String} {vs : Array Value} {Q : Unit → Shared → Prop} (ho : s.heap.get? it = some o) (hc : o.cls = .type n) (hd : o.data = .fields vs)
   (hn : ["enumerate","zip","dict_itemiterator","dict_reverseitemiterator","odict_iterator","itertools.zip_longest","itertools.pairwise"].contains n = false) (hQ:Q () s):wpAny M A (letOwnedTupleGo tg (.ref it) u) Q E s:=by
 unfold letOwnedTupleGo
 cases tg <;> first
   | exact wpAny_pure hQ
   | (cases u <;> first
       | exact wpAny_pure hQ
       | (refine wpAny_bind (wpAny_load ho ?_)
          rw [hc,hd]
          show wpAny M A (if (["enumerate","zip","dict_itemiterator","dict_reverseitemiterator","odict_iterator","itertools.zip_longest","itertools.pairwise"].contains n && vs[0]? == some (rawInt _)) = true then _ else _) Q E s
          rw [if_neg (by intro h;rw [hn,Bool.false_and] at h;cases h)]
          exact wpAny_pure hQ))
def sk (K : PySem.W.Frag) (a : Addr) : It :=
 ⟨fun i H=>∃ xs x,az K H a xs∧xs[i]? = some x,fun i H x H'=>H' = H∧∀ xs,az K H a xs→xs[i]? = some x,fun i H=>∃ xs,az K H a xs∧xs.length ≤ i⟩
def zm (K : PySem.W.Frag) (a : Addr) : It :=
 ⟨fun i H=>∃ xs x,aW K H a xs∧xs[i]? = some x,fun i H x H'=>H' = H∧∀ xs,aW K H a xs→xs[i]? = some x,fun i H=>∃ xs,aW K H a xs∧xs.length ≤ i⟩
def rO (lo:Int) (n:Nat):It:=⟨fun i _=>i < n,fun i H x H'=>H' = H∧x = .int (lo + i),fun i _=>n ≤ i⟩
theorem ym {P : Program} {w : World} {K : PySem.W.Frag} {tg : Expr} (a it : Addr) : Turn P w K tg (sk K a) [it] it (fun i h => h.IsListIter it a i) where
 mem:=by simp
 obj := fun i h st b hb => by
   have e:b = it:=by simpa using hb
   subst e
   obtain ⟨o,e,c,d⟩:=st
   exact ⟨o,e,fun v z=>by rw [d] at z;cases z⟩
 keep:=fun i h h' st k=>st.at fun o e=>k it (by simp) o e
 item := by
   intro X hP hw hK hc i pins s σ H E I hf st hg
   subst hP hw hK
   obtain ⟨xs,x,hq,hx⟩:=hg
   obtain ⟨its,rv,p,hz⟩:=I.list hq
   obtain ⟨u,hu,ru⟩:=rv.get hx
   obtain ⟨f0,f1,f2,f3,f4,f5⟩:=hf it (by simp)
   refine wpAny_pyNext_list_item st p.isList (x:=u) (by simpa using hu) fun h' st' sb=>?_
   have I1:Inv X pins σ H { s with heap:=h' }:=I.turned (t':=s.toks) (fun b o hb e=>(sb.2 b hb).trans e) f0 f1 f3 f4 f5
   obtain ⟨o,e,c,d⟩:=id st'
   exact ⟨u,rfl,xp (s:={ s with heap:=h' }) e c d (by decide) ⟨x,H,I1,ru,⟨rfl,fun ys hy=>by rw [I.ip hy hq];exact hx⟩,st',fun b hb=>(hf b hb).1⟩⟩
 done := by
   intro X hP hw hK hc i pins s σ H E I hf st hg
   subst hP hw hK
   obtain ⟨xs,hq,hx⟩:=hg
   obtain ⟨its,rv,p,hz⟩:=I.list hq
   obtain ⟨f0,f1,f2,f3,f4,f5⟩:=hf it (by simp)
   have hl:=rv.length
   exact wpAny_pyNext_list_end (I.ok.hd hc) st p.isList (by simp;omega) fun h' eb=>⟨rfl,I.turned (t':=s.toks) (fun b o hb e=>eb b o hb e) f0 f1 f3 f4 f5⟩
 self:=fun _ _ _ _ _ st h=>wpAny_pyIter_listiter st h
theorem wY {P : Program} {w : World} {K : PySem.W.Frag} {tg : Expr} (a it : Addr) : Turn P w K tg (zm K a) [it] it (fun i h => h.IsTupleIter it a i) where
 mem:=by simp
 obj := fun i h st b hb => by
   have e:b = it:=by simpa using hb
   subst e
   obtain ⟨o,e,c,d⟩:=st
   exact ⟨o,e,fun v z=>by rw [d] at z;cases z⟩
 keep:=fun i h h' st k=>st.at fun o e=>k it (by simp) o e
 item := by
   intro X hP hw hK hc i pins s σ H E I hf st hg
   subst hP hw hK
   obtain ⟨xs,x,hq,hx⟩:=hg
   obtain ⟨its,rv,p,hz⟩:=I.tuple hq
   obtain ⟨u,hu,ru⟩:=rv.get hx
   obtain ⟨f0,f1,f2,f3,f4,f5⟩:=hf it (by simp)
   refine wpAny_pyNext_tuple_item st (show s.heap.IsTuple a its.toArray from p) (x:=u) (by simpa using hu) fun h' st' sb=>?_
   have I1:Inv X pins σ H { s with heap:=h' }:=I.turned (t':=s.toks) (fun b o hb e=>(sb.2 b hb).trans e) f0 f1 f3 f4 f5
   obtain ⟨o,e,c,d⟩:=id st'
   exact ⟨u,rfl,xp (s:={ s with heap:=h' }) e c d (by decide) ⟨x,H,I1,ru,⟨rfl,fun ys hy=>by rw [I.gQ hy hq];exact hx⟩,st',fun b hb=>(hf b hb).1⟩⟩
 done := by
   intro X hP hw hK hc i pins s σ H E I hf st hg
   subst hP hw hK
   obtain ⟨xs,hq,hx⟩:=hg
   obtain ⟨its,rv,p,hz⟩:=I.tuple hq
   obtain ⟨f0,f1,f2,f3,f4,f5⟩:=hf it (by simp)
   have hl:=rv.length
   exact wpAny_pyNext_tuple_end (I.ok.hd hc) st (show s.heap.IsTuple a its.toArray from p) (by simp;omega) fun h' eb=>⟨rfl,I.turned (t':=s.toks) (fun b o hb e=>eb b o hb e) f0 f1 f3 f4 f5⟩
 self:=fun _ _ _ _ _ st h=>wpAny_pyIter_tupleiter st h
theorem w6 {P : Program} {w : World} {K : PySem.W.Frag} {tg : Expr} (it : Addr) (lo : Int) (n : Nat) : Turn P w K tg (rO lo n) [it] it (fun i h => IsRangeIter h it (lo + (i : Nat) * 1) ((n : Int) - (i : Nat)) 1) where
 mem:=by simp
 obj := fun i h st b hb => by
   have e:b = it:=by simpa using hb
   subst e
   exact ⟨_, st, fun v z => by
     have z':Data.fields _ = Data.cell v:=z
     cases z'⟩
 keep:=fun i h h' st k=>k it (by simp) _ st
 item := by
   intro X hP hw hK hc i pins s σ H E I hf st hg
   subst hP hw hK
   obtain ⟨f0,f1,f2,f3,f4,f5⟩:=hf it (by simp)
   have W:=Walks.range (prog:=X.prog) (w:=X.w) (I.ok.hd hc) it lo 1 n
   refine W.item i s _ _ hg st fun v h' tk hv st' kk=>?_
   obtain ⟨t,rfl⟩:=hv
   have I1:Inv X pins σ H { s with heap:=h',toks:=tk }:=I.turned (fun b o hb e=>kk b o (by simpa using hb) e) f0 f1 f3 f4 f5
   refine ⟨_,rfl,xp (s:={ s with heap:=h',toks:=tk }) (n:="range_iterator") st' rfl rfl (by decide) ⟨.int (lo + i),H,I1,⟨t,?_⟩,⟨rfl,rfl⟩,st',fun b hb=>(hf b hb).1⟩⟩
   rw [Int.mul_one]
 done := by
   intro X hP hw hK hc i pins s σ H E I hf st hg
   subst hP hw hK
   obtain ⟨f0,f1,f2,f3,f4,f5⟩:=hf it (by simp)
   exact wpAny_pyNext_range_end (I.ok.hd hc) st (by have:n ≤ i:=hg;omega) fun h' eb=>⟨rfl,I.turned (t':=s.toks) (fun b o hb e=>eb b o hb e) f0 f1 f3 f4 f5⟩
 self:=fun _ _ _ _ _ st h=>wpAny_pyIter_rangeiter st h
end L2
namespace L2
open PySem PySem.Spec PyProof.Rows
section
variable {X:Cx} {tg:Expr}
theorem BQ {pins : List (Addr × Obj)} {σ : St} {H : Hp} {s : Shared} {R : It → Hp → Prop} {E : Value → Shared → Prop} {lo hi : Int} {t u v : Tok} {tk : Nat} (I : Inv X pins σ H s) (h1 : -(2 ^ 62) ≤ lo) (h2 : lo < 2 ^ 62) (h3 : -(2 ^ 62) ≤ hi) (h4 : hi < 2 ^ 62)
   (q:R (rO lo (hi - lo).toNat) H):wpAny (model X.prog X.w) X.A (pyIter (.ref s.heap.objs.size)) (LV X pins σ tg R) E { s with heap:=s.heap.push { cls:=.type "range",data:=.fields #[.int lo t,.int hi u,.int 1 v] },toks:=tk }:=by
 refine wpAny_pyIter_range (IsRange.new ..) (small_one h1 h2 h3 h4) ?_
 have I1:Inv X pins σ H { s with heap:=s.heap.push { cls:=.type "range",data:=.fields #[.int lo t,.int hi u,.int 1 v] },toks:=tk }:=I.kept fun b o e=>Heap.get?_push_of_some _ e
 refine ⟨(s.heap.push { cls := .type "range", data := .fields #[.int lo t, .int hi u, .int 1 v] }).objs.size, [(s.heap.push { cls := .type "range", data := .fields #[.int lo t, .int hi u, .int 1 v] }).objs.size], _, _, H, rfl,
   I1.kept (t':=tk) fun b o e=>Heap.get?_push_of_some _ e,w6 _ lo (hi - lo).toNat,?_,fun b hb=>?_,q⟩
 · have e1 : lo + ((0 : Nat) : Int) * 1 = lo := by simp
   have e2:(((hi - lo).toNat:Nat):Int) - ((0:Nat):Int) = Builtin.Range.rangeSize lo hi 1:=by rw [rangeSize_one];split <;> omega
   show IsRangeIter _ _ (lo + ((0:Nat):Int) * 1) ((((hi - lo).toNat:Nat):Int) - ((0:Nat):Int)) 1
   rw [e1,e2]
   exact Heap.get?_push_size _ rfl
 · have e : b = (s.heap.push { cls := .type "range", data := .fields #[.int lo t, .int hi u, .int 1 v] }).objs.size := by simpa using hb
   subst e
   exact I1.kH (Nat.le_refl _) (I1.ay.fresh (Nat.le_refl _))
def wZ (ta:TA):TI:=fun σ H R=>ta σ H fun vs H1=>∃ j:Int,vs = [.int j]∧-(2 ^ 62) ≤ j∧j < 2 ^ 62∧R (rO 0 j.toNat) H1
theorem gP {a : Expr} {ta : TA} {p pos : Pos} (hg : Gl X "range") (hm : X.mg "range" = none) (ha : PA X [a] ta) (hs : starEach [a] X.env = [(false, eval a X.env)] := by rfl) : PI X tg (.Call (.Name "range" p) [a] [] pos) (wZ ta) := by
 intro pins s σ H R I h
 refine Call_ (jh I hg hm boot_range (PyProof.Rows.callWith_type1 (a9 (ha pos pins s σ H _ I h) fun us s1 ⟨vs,H1,I1,r1,q1⟩=>?_) hs rfl))
 obtain ⟨j,e,q1,q2,q⟩:=q1
 subst e
 cases r1 with
 | cons r rr =>
   cases rr
   obtain ⟨t,rfl⟩:=r
   exact call_range_1 (BQ I1 (by omega) (by omega) q1 q2 (by simpa using q))
def ye (wi : TI) (g : TG) (tb : TS) : TS := fun D σ H => wi σ H fun J H1 => ∃ W : Nat → Nat → St → Hp → Prop, (∃ m, W 0 m σ H1) ∧ ∀ i m σ H, W i m σ H →
 (J.stop i H∧D.nx σ H)∨(J.go i H∧∃ N:St→Hp→Prop,(∀ σ' H',N σ' H'→∃ m',m' < m∧W (i + 1) m' σ' H')∧∀ x H',J.uX i H x H'→g x σ H' fun σ2 H2=>tb { D with nx:=N,ct:=N,bk:=D.nx } σ2 H2)
def iL (fp:List Addr) (h:Heap):List (Addr×Obj):=fp.filterMap fun b=>(h.get? b).map fun o=>(b,o)
theorem i0 {fp:List Addr} {h:Heap} {b:Addr} {o:Obj} (hb:b ∈ fp) (e:h.get? b = some o):(b,o) ∈ iL fp h:=List.mem_filterMap.mpr ⟨b,hb,by rw [e];rfl⟩
theorem r_ {fp : List Addr} {h : Heap} {p : Addr × Obj} (hp : p ∈ iL fp h) : p.1 ∈ fp ∧ h.get? p.1 = some p.2 := by
 obtain ⟨b,hb,e⟩:=List.mem_filterMap.mp hp
 cases q:h.get? b with
 | none=>rw [q] at e;cases e
 | some o =>
   rw [q] at e
   have e':(b,o) = p:=Option.some.inj e
   subst e'
   exact ⟨hb,q⟩
theorem Inv.pinned {pins : List (Addr × Obj)} {σ : St} {H : Hp} {s : Shared} {fp : List Addr} (I : Inv X pins σ H s) (hf : ∀ b ∈ fp, l7 X pins H b) (ho : ∀ b ∈ fp, ∃ o, s.heap.get? b = some o ∧ ∀ v, o.data ≠ .cell v) : Inv X (pins ++ iL fp s.heap) σ H s :=
 I.m9 fun p hp => (List.mem_append.mp hp).elim (fun z => I.pin p (List.mem_append_right _ z)) fun z => by
   obtain ⟨hb,e⟩:=r_ z
   obtain ⟨f0,f1,f2,_⟩:=hf p.1 hb
   obtain ⟨o,e',d⟩:=ho p.1 hb
   rw [e] at e';cases e'
   exact ⟨e,f0,f1,f2,d⟩
theorem Inv.kB {pins pl:List (Addr×Obj)} {σ : St} {H:Hp} {s:Shared} (I:Inv X (pins ++ pl) σ H s):Inv X pins σ H s:=I.m9 fun p hp=>I.pin p (List.mem_append_right _ (List.mem_append_left _ hp))
theorem fc {iter : Expr} {body : List Stmt} {wi : TI} {g : TG} {tb : TS} {pos : Pos} (hp : PassesOwn (model X.prog X.w) X.A X.env X.xe) (hc : X.calm = true) (hi : PI X tg iter wi) (hg : PG X tg g) (hb : iO X body tb)
   (hs:∀ x,foldedSetIterable iter X.env x = pure x:=by intro _;rfl):PS X (.For tg iter body [] pos) (ye wi g tb):=by
 intro pins s σ H D I h
 refine wpAny_For (a9 (hi pins s σ H _ I h) fun v s1 h1=>a9 h1 fun itv s2 h2=>?_) hs
 obtain ⟨it,fp,tn,J,H2,e,I2,T,st2,f2,W,⟨m0,w0⟩,turn⟩:=h2
 subst e
 -- what stays true of the iterator's objects through the loop
 have stat:∀ {H':Hp},(∀ b ∈ fp,H' b = none)→∀ b ∈ fp,l7 X pins H' b:=fun hn b hb=>⟨hn b hb,(f2 b hb).2⟩
 refine codeAny_forLoop_any (fun n s'=>∃ i σ' H',Inv X pins σ' H' s'∧tn i s'.heap∧(∀ b ∈ fp,H' b = none)∧W i n σ' H') ?_ m0 ⟨0,σ,H2,I2,st2,fun b hb=>(f2 b hb).1,w0⟩
 rintro n s3 ⟨i,σ3,H3,I3,st3,fr3,w3⟩
 rcases turn i n σ3 H3 w3 with ⟨stop,qn⟩ | ⟨go,N,hN,step⟩
 · refine wpAny_passesOwn hp (a9 (T.done X rfl rfl rfl hc i pins s3 σ3 H3 X.xe I3 (stat fr3) st3 stop) fun r s4 ⟨hr, I4⟩ => ?_)
   subst hr
   exact wpAny_execs_nil ⟨σ3,H3,I4,qn⟩
 · refine wpAny_passesOwn hp (a9 (T.item X rfl rfl rfl hc i pins s3 σ3 H3 X.xe I3 (stat fr3) st3 go) fun r s4 ⟨u, hr, h4⟩ => ?_)
   subst hr
   refine wpAny_passesOwn hp (a9 h4 fun _ s5 ⟨x,H5,I5,r5,y5,st5,fr5⟩=>?_)
   have I5':=I5.pinned (stat fr5) (T.obj _ _ st5)
   refine wpAny_passesOwn hp (a9 (hg _ s5 σ3 H5 x u _ I5' r5 (step x H5 y5)) fun _ s6 ⟨σ6,H6,I6,q6⟩=>?_)
   refine wpAny_passesOwn hp (a9 (hb _ s6 σ6 H6 _ I6 q6) fun f s7 q7=>?_)
   have again : ∀ {σ7 : St} {H7 : Hp}, Inv X (pins ++ iL fp s5.heap) σ7 H7 s7 → N σ7 H7 → ∃ m, m < n ∧ ∃ i σ' H', Inv X pins σ' H' s7 ∧ tn i s7.heap ∧ (∀ b ∈ fp, H' b = none) ∧ W i m σ' H' := fun {σ7 H7} I7 n7 => by
     obtain ⟨m',hm,w7⟩:=hN σ7 H7 n7
     refine ⟨m',hm,i + 1,σ7,H7,I7.kB,T.keep _ _ _ st5 fun b hb o e=>(I7.pin (b,o) (List.mem_append_right _ (List.mem_append_right _ (i0 hb e)))).1,fun b hb=>?_,w7⟩
     obtain ⟨o,e,d⟩:=T.obj _ _ st5 b hb
     exact (I7.pin (b,o) (List.mem_append_right _ (List.mem_append_right _ (i0 hb e)))).2.1
   cases f with
   | next=>obtain ⟨σ7,H7,I7,n7⟩:=q7;exact again I7 n7
   | cont=>obtain ⟨σ7,H7,I7,n7⟩:=q7;exact again I7 n7
   | brk=>obtain ⟨σ7,H7,I7,q7⟩:=q7;exact ⟨σ7,H7,I7.kB,q7⟩
   | ret v=>obtain ⟨x7,σ7,H7,I7,r7,q7⟩:=q7;exact ⟨x7,σ7,H7,I7.kB,r7,q7⟩
end
theorem fB {K : PySem.W.Frag} {a : Addr} {xs : List V} {g : TG} {tb : TS} {D : Ends} {σ : St} {H : Hp} (Pv : Nat → St → Hp → Prop) (h0 : Pv 0 σ H) (hl : ∀ i σ H, i ≤ xs.length → Pv i σ H → az K H a xs)
   (hs:∀ i x σ H,xs[i]? = some x→Pv i σ H→g x σ H fun σ2 H2=>tb { D with nx:=Pv (i + 1),ct:=Pv (i + 1),bk:=D.nx } σ2 H2) (hd:∀ σ H,Pv xs.length σ H→D.nx σ H) :
   ∃ W : Nat → Nat → St → Hp → Prop, (∃ m, W 0 m σ H) ∧ ∀ i m σ H, W i m σ H →
     ((sk K a).stop i H∧D.nx σ H)∨((sk K a).go i H∧∃ N:St→Hp→Prop,(∀ σ' H',N σ' H'→∃ m',m' < m∧W (i + 1) m' σ' H')∧∀ x H',(sk K a).uX i H x H'→g x σ H' fun σ2 H2=>tb { D with nx:=N,ct:=N,bk:=D.nx } σ2 H2):=by
 refine ⟨fun i m σ H=>m = xs.length - i∧i ≤ xs.length∧Pv i σ H,⟨xs.length,by simp,Nat.zero_le _,h0⟩,?_⟩
 rintro i m σ H ⟨rfl,hi,p⟩
 have q:=hl i σ H hi p
 by_cases hlt:i < xs.length
 · refine .inr ⟨⟨xs, xs[i], q, by simp [hlt]⟩, Pv (i + 1), fun σ' H' p' => ⟨xs.length - (i + 1), by omega, rfl, hlt, p'⟩, fun x H' y => ?_⟩
   obtain ⟨e,y⟩:=y
   subst e
   exact hs i x σ _ (y xs q) p
 · have e : i = xs.length := by omega
   subst e
   exact .inl ⟨⟨xs,q,Nat.le_refl _⟩,hd σ H p⟩
theorem mP {lo : Int} {n : Nat} {g : TG} {tb : TS} {D : Ends} {σ : St} {H : Hp} (Pv : Nat → St → Hp → Prop) (h0 : Pv 0 σ H)
   (hs:∀ i σ H,i < n→Pv i σ H→g (.int (lo + i)) σ H fun σ2 H2=>tb { D with nx:=Pv (i + 1),ct:=Pv (i + 1),bk:=D.nx } σ2 H2) (hd:∀ σ H,Pv n σ H→D.nx σ H) :
   ∃ W : Nat → Nat → St → Hp → Prop, (∃ m, W 0 m σ H) ∧ ∀ i m σ H, W i m σ H →
     ((rO lo n).stop i H∧D.nx σ H)∨((rO lo n).go i H∧∃ N:St→Hp→Prop,(∀ σ' H',N σ' H'→∃ m',m' < m∧W (i + 1) m' σ' H')∧∀ x H',(rO lo n).uX i H x H'→g x σ H' fun σ2 H2=>tb { D with nx:=N,ct:=N,bk:=D.nx } σ2 H2):=by
 refine ⟨fun i m σ H=>m = n - i∧i ≤ n∧Pv i σ H,⟨n,by simp,Nat.zero_le _,h0⟩,?_⟩
 rintro i m σ H ⟨rfl,hi,p⟩
 by_cases hlt:i < n
 · refine .inr ⟨hlt, Pv (i + 1), fun σ' H' p' => ⟨n - (i + 1), by omega, rfl, hlt, p'⟩, fun x H' y => ?_⟩
   obtain ⟨e,y⟩:=y
   subst e y
   exact hs i σ _ hlt p
 · have e : i = n := by omega
   subst e
   exact .inl ⟨Nat.le_refl _,hd σ H p⟩
end L2
namespace L2
open PySem PySem.Spec PyProof.Rows
abbrev R2:=V→V→Hp→VK→Prop
def bJ (X : Cx) (f : Value → Value → Sem Value) (r : R2) : Prop :=
 ∀ (pins : List (Addr × Obj)) (s : Shared) (σ : St) (H : Hp) (x y : V) (v u : Value) (Q : VK), Inv X pins σ H s → RelV x v → RelV y u → r x y H Q →
   wpAny (model X.prog X.w) X.A (f v u) (EP X pins σ Q) X.xe s
def Em (X : Cx) (f : Value → Sem Value) (r : V → Hp → VK → Prop) : Prop :=
 ∀ (pins : List (Addr × Obj)) (s : Shared) (σ : St) (H : Hp) (x : V) (v : Value) (Q : VK), Inv X pins σ H s → RelV x v → r x H Q →
   wpAny (model X.prog X.w) X.A (f v) (EP X pins σ Q) X.xe s
def cJ (X : Cx) (f : Value) (r : List V → Hp → VK → Prop) : Prop :=
 ∀ (pins : List (Addr × Obj)) (s : Shared) (σ : St) (H : Hp) (xs : List V) (us : List Value) (Q : VK), Inv X pins σ H s → aP xs us → r xs H Q →
   wpAny (model X.prog X.w) X.A (call f us) (EP X pins σ Q) X.xe s
def MM (X : Cx) (r : V → Hp → (Bool → Hp → Prop) → Prop) : Prop :=
 ∀ (pins : List (Addr × Obj)) (s : Shared) (σ : St) (H : Hp) (x : V) (v : Value) (Q : Bool → Hp → Prop), Inv X pins σ H s → RelV x v → r x H Q →
   wpAny (model X.prog X.w) X.A (truthy v) (TP X pins σ Q) X.xe s
def dD (r:R2) (ta tb:TE):TE:=fun σ H Q=>ta σ H fun x H1=>tb σ H1 fun y H2=>r x y H2 Q
def L9 (r:V→Hp→VK→Prop) (ta:TE):TE:=fun σ H Q=>ta σ H fun x H1=>r x H1 Q
def rI (C:Int→Int→Prop) (g:Int→Int→V):R2:=fun x y H Q=>∃ i j,x = .int i∧y = .int j∧C i j∧Q (g i j) H
def kz (g:Int→Int→V):R2:=fun x y H Q=>∃ i j,x = .int i∧y = .int j∧Q (g i j) H
def rU (g:Int→V):V→Hp→VK→Prop:=fun x H Q=>∃ i,x = .int i∧Q (g i) H
section
variable {X:Cx} {a b c:Expr} {ta tb tc:TE} {pos:Pos}
theorem Ba (ha : PE X a ta) (hb : PE X b tb) {pins : List (Addr × Obj)} {s : Shared} {σ : St} {H : Hp} {R : V → V → Hp → Prop} (I : Inv X pins σ H s)
   (h:ta σ H fun x H1=>tb σ H1 fun y H2=>R x y H2) {Q:Value→Shared→Prop} {f:Value→Value→Sem Value}
   (hf:∀ v u s2 x y H2,Inv X pins σ H2 s2→RelV x v→RelV y u→R x y H2→wpAny (model X.prog X.w) X.A (f v u) Q X.xe s2) :
   wpAny (model X.prog X.w) X.A (eval a X.env) (fun v s₁=>wpAny (model X.prog X.w) X.A (eval b X.env) (fun u s₂=>wpAny (model X.prog X.w) X.A (f v u) Q X.xe s₂) X.xe s₁) X.xe s:=by
 refine a9 (ha pins s σ H _ I h) fun v s1 ⟨x,H1,I1,r1,q1⟩=>?_
 refine a9 (hb pins s1 σ H1 _ I1 q1) fun u s2 ⟨y,H2,I2,r2,q2⟩=>?_
 exact hf v u s2 x y H2 I2 r1 r2 q2
theorem aQ {op : Operator} {r : R2} (ho : bJ X (binaryOp op) r) (ha : PE X a ta) (hb : PE X b tb) : PE X (.BinOp a op b pos) (dD r ta tb) := by
 intro pins s σ H Q I h
 exact wpAny_BinOp (Ba ha hb I h fun v u s2 x y H2 I2 rx ry q=>ho pins s2 σ H2 x y v u Q I2 rx ry q)
theorem pP {op : UnaryOp} {r : V → Hp → VK → Prop} (ho : Em X (unaryOp op) r) (ha : PE X a ta) : PE X (.UnaryOp op a pos) (L9 r ta) := by
 intro pins s σ H Q I h
 exact UnaryOp_ (a9 (ha pins s σ H _ I h) fun v s1 ⟨x,H1,I1,r1,q1⟩=>ho pins s1 σ H1 x v Q I1 r1 q1)
theorem Ah {f : Value → Value → Sem Value} {C : Int → Int → Prop} {g : Int → Int → Int}
   (rule:∀ (i j:Int) (t u:Tok) (s:Shared) (Q:Value→Shared→Prop) (E:Value→Shared→Prop),C i j→Q (.int (g i j) s.toks) { s with toks:=s.toks + 1 }→wpAny (model X.prog X.w) X.A (f (.int i t) (.int j u)) Q E s) :
   bJ X f (rI C fun i j=>.int (g i j)):=by
 intro pins s σ H x y v u Q I rx ry h
 obtain ⟨i,j,rfl,rfl,hc,q⟩:=h
 obtain ⟨t,rfl⟩:=rx
 obtain ⟨t',rfl⟩:=ry
 exact rule i j t t' s _ _ hc ⟨.int (g i j),H,I.tok _,⟨_,rfl⟩,q⟩
theorem BM {f : Value → Value → Sem Value} {g : Int → Int → Int}
   (rule:∀ (i j:Int) (t u:Tok) (s:Shared) (Q:Value→Shared→Prop) (E:Value→Shared→Prop),Q (.int (g i j) s.toks) { s with toks:=s.toks + 1 }→wpAny (model X.prog X.w) X.A (f (.int i t) (.int j u)) Q E s) :
   bJ X f (kz fun i j=>.int (g i j)):=by
 intro pins s σ H x y v u Q I rx ry h
 obtain ⟨i,j,rfl,rfl,q⟩:=h
 obtain ⟨t,rfl⟩:=rx
 obtain ⟨t',rfl⟩:=ry
 exact rule i j t t' s _ _ ⟨.int (g i j),H,I.tok _,⟨_,rfl⟩,q⟩
theorem xf {f : Value → Value → Sem Value} {g : Int → Int → Bool}
   (rule:∀ (i j:Int) (t u:Tok) (s:Shared) (Q:Value→Shared→Prop) (E:Value→Shared→Prop),Q (.bool (g i j)) s→wpAny (model X.prog X.w) X.A (f (.int i t) (.int j u)) Q E s) :
   bJ X f (kz fun i j=>.bl (g i j)):=by
 intro pins s σ H x y v u Q I rx ry h
 obtain ⟨i,j,rfl,rfl,q⟩:=h
 obtain ⟨t,rfl⟩:=rx
 obtain ⟨t',rfl⟩:=ry
 exact rule i j t t' s _ _ ⟨.bl (g i j),H,I,rfl,q⟩
def Ms (i j:Int):Prop:=0 < j∧j < 1073741824
def tw (i j:Int):Prop:=(-(2 ^ 64) < i∧i < 2 ^ 64)∨(-(2 ^ 64) < j∧j < 2 ^ 64)
theorem tw.ok {i j : Int} (h : tw i j) : IntMulOk i j := by
 rcases h with ⟨h1,h2⟩ | ⟨h1,h2⟩
 · exact .of_left (intBits_le_64 h1 h2)
 · exact .of_right (intBits_le_64 h1 h2)
theorem xA (k : Nat) : (0 : Int) ≤ 2 ^ k := by
 rw [two_pow_cast]
 exact Int.natCast_nonneg _
theorem Kv:bJ X (binaryOp .Add) (kz fun i j=>.int (i + j)):=BM fun _ _ _ _ _ _ _ q=>add_int q
theorem zi:bJ X (binaryOp .Sub) (kz fun i j=>.int (i - j)):=BM fun _ _ _ _ _ _ _ q=>sub_int q
theorem Ke:bJ X (binaryOp .Mult) (rI tw fun i j=>.int (i * j)):=Ah fun _ _ _ _ _ _ _ hc q=>mul_int q hc.ok
theorem fJ : bJ X (binaryOp .FloorDiv) (rI Ms fun i j => .int (i / j)) := Ah fun i j _ _ _ _ _ hc q => by
 have h1:(0:Int) < j:=hc.1
 have h2:j < 1073741824:=hc.2
 exact floordiv_int (by omega) (by rw [Int.fdiv_eq_ediv_of_nonneg i (by omega)];exact q) (.inl (PyProof.noPylong_small (by omega)))
theorem de : bJ X (binaryOp .Mod) (rI (fun _ j => 0 < j) fun i j => .int (i % j)) := Ah fun i j _ _ _ _ _ hc q => by
 have h1:(0:Int) < j:=hc
 exact mod_int' (by omega) (by rw [Int.fmod_eq_emod_of_nonneg i (by omega)];exact q)
theorem Hg : bJ X (binaryOp .RShift) (rI (fun _ j => 0 ≤ j) fun i j => .int (i / 2 ^ j.toNat)) := Ah fun i j _ _ _ _ _ hc q =>
 rshift_int hc (by rw [Int.fdiv_eq_ediv_of_nonneg i (xA _)];exact q)
theorem m6:bJ X (binaryOp .BitAnd) (kz fun i j=>.int (Builtin.bitAnd i j)):=BM fun _ _ _ _ _ _ _ q=>and_int q
theorem LR {f : Value → Sem Value} {g : Int → Int}
   (rule:∀ (i:Int) (t:Tok) (s:Shared) (Q:Value→Shared→Prop) (E:Value→Shared→Prop),Q (.int (g i) s.toks) { s with toks:=s.toks + 1 }→wpAny (model X.prog X.w) X.A (f (.int i t)) Q E s) :
   Em X f (rU fun i=>.int (g i)):=by
 intro pins s σ H x v Q I rx h
 obtain ⟨i,rfl,q⟩:=h
 obtain ⟨t,rfl⟩:=rx
 exact rule i t s _ _ ⟨.int (g i),H,I.tok _,⟨_,rfl⟩,q⟩
theorem tK:Em X (unaryOp .USub) (rU fun i=>.int (-i)):=LR fun _ _ _ _ _ q=>neg_int q
theorem yD:Em X (unaryOp .Invert) (rU fun i=>.int (Builtin.bitNot i)):=LR fun _ _ _ _ _ q=>invert_int q
end
def xN : V → V → Bool
 | .aH,.aH=>true | .aH,.int _=>true | .int _,.aH=>true | .aH,.bl _=>true | .bl _,.aH=>true | .aH,.str _=>true | .str _,.aH=>true
 | .int _,.int _=>true | .bl _,.bl _=>true | .str _,.str _=>true | .byt _,.byt _=>true
 | .int _,.str _=>true | .str _,.int _=>true | .bl _,.str _=>true | .str _,.bl _=>true
 | _,_=>false
def L1:R2:=fun x y H Q=>xN x y = true∧Q (.bl (decide (x = y))) H
def L0:R2:=fun x y H Q=>xN x y = true∧Q (.bl (!decide (x = y))) H
theorem vM {i j : Int} : decide (V.int i = V.int j) = (i == j) := by
 rw [Bool.eq_iff_iff]
 simp
theorem yF {i j : Bool} : decide (V.bl i = V.bl j) = (i == j) := by
 rw [Bool.eq_iff_iff]
 simp
theorem vP {i j : Str} : decide (V.str i = V.str j) = (i == j) := by
 rw [Bool.eq_iff_iff]
 simp
theorem wG {i j : Array UInt8} : decide (V.byt i = V.byt j) = (i.toList == j.toList) := by
 rw [Bool.eq_iff_iff]
 cases i
 cases j
 simp
section
variable {X:Cx} {a b c:Expr} {ta tb tc:TE} {pos:Pos}
theorem bp {pins : List (Addr × Obj)} {σ : St} {H : Hp} {s : Shared} {Q : VK} {k k' : Bool} (I : Inv X pins σ H s) (q : Q (.bl k) H) (e : k = k') : EP X pins σ Q (.bool k') s := by
 subst e
 exact ⟨.bl k,H,I,rfl,q⟩
theorem Lv : bJ X (compareOp .Eq) L1 := by
 intro pins s σ H x y v u Q I rx ry h
 obtain ⟨hs,q⟩:=h
 cases x with
 | aH =>
   cases rx
   cases y with
   | aH=>cases ry;exact PySem.EqNone.eq_none_none (bp I q (by simp))
   | bl j=>cases ry;exact PySem.EqNone.eq_none_bool (bp I q (by simp))
   | int j=>obtain ⟨t',rfl⟩:=ry;exact PySem.EqNone.eq_none_int (bp I q (by simp))
   | str j=>obtain ⟨t',rfl⟩:=ry;exact PySem.EqNone.eq_none_str (bp I q (by simp))
   | _=>exact absurd (show false = true from hs) Bool.false_ne_true
 | bl i =>
   cases rx
   cases y with
   | aH=>cases ry;exact PySem.EqNone.eq_bool_none (bp I q (by simp))
   | bl j=>cases ry;exact eq_bool (bp I q yF)
   | str j=>obtain ⟨t',rfl⟩:=ry;exact PySem.EqMixed.eq_bool_str (bp I q (by simp))
   | _=>exact absurd (show false = true from hs) Bool.false_ne_true
 | int i =>
   obtain ⟨t,rfl⟩:=rx
   cases y with
   | aH=>cases ry;exact PySem.EqNone.eq_int_none (bp I q (by simp))
   | int j=>obtain ⟨t',rfl⟩:=ry;exact eq_int (bp I q vM)
   | str j=>obtain ⟨t',rfl⟩:=ry;exact PySem.EqMixed.eq_int_str (bp I q (by simp))
   | _=>exact absurd (show false = true from hs) Bool.false_ne_true
 | str i =>
   obtain ⟨t,rfl⟩:=rx
   cases y with
   | aH=>cases ry;exact PySem.EqNone.eq_str_none (bp I q (by simp))
   | bl j=>cases ry;exact PySem.EqMixed.eq_str_bool (bp I q (by simp))
   | int j=>obtain ⟨t',rfl⟩:=ry;exact PySem.EqMixed.eq_str_int (bp I q (by simp))
   | str j=>obtain ⟨t',rfl⟩:=ry;exact eq_str (bp I q vP)
   | _=>exact absurd (show false = true from hs) Bool.false_ne_true
 | byt i =>
   obtain ⟨t,rfl⟩:=rx
   cases y with
   | byt j=>obtain ⟨t',rfl⟩:=ry;exact PySem.W.eq_bytes (bp I q wG)
   | _=>exact absurd (show false = true from hs) Bool.false_ne_true
 | _=>cases y <;> exact absurd (show false = true from hs) Bool.false_ne_true
theorem K8 : bJ X (compareOp .NotEq) L0 := by
 intro pins s σ H x y v u Q I rx ry h
 obtain ⟨hs,q⟩:=h
 cases x with
 | aH =>
   cases rx
   cases y with
   | aH=>cases ry;exact PySem.EqNone.ne_none_none (bp I q (by simp))
   | bl j=>cases ry;exact PySem.EqNone.ne_none_bool (bp I q (by simp))
   | int j=>obtain ⟨t',rfl⟩:=ry;exact PySem.EqNone.ne_none_int (bp I q (by simp))
   | str j=>obtain ⟨t',rfl⟩:=ry;exact PySem.EqNone.ne_none_str (bp I q (by simp))
   | _=>exact absurd (show false = true from hs) Bool.false_ne_true
 | bl i =>
   cases rx
   cases y with
   | aH=>cases ry;exact PySem.EqNone.ne_bool_none (bp I q (by simp))
   | bl j=>cases ry;exact ne_bool (bp I q (congrArg not yF))
   | str j=>obtain ⟨t',rfl⟩:=ry;exact PySem.EqMixed.ne_bool_str (bp I q (by simp))
   | _=>exact absurd (show false = true from hs) Bool.false_ne_true
 | int i =>
   obtain ⟨t,rfl⟩:=rx
   cases y with
   | aH=>cases ry;exact PySem.EqNone.ne_int_none (bp I q (by simp))
   | int j=>obtain ⟨t',rfl⟩:=ry;exact ne_int (bp I q (congrArg not vM))
   | str j=>obtain ⟨t',rfl⟩:=ry;exact PySem.EqMixed.ne_int_str (bp I q (by simp))
   | _=>exact absurd (show false = true from hs) Bool.false_ne_true
 | str i =>
   obtain ⟨t,rfl⟩:=rx
   cases y with
   | aH=>cases ry;exact PySem.EqNone.ne_str_none (bp I q (by simp))
   | bl j=>cases ry;exact PySem.EqMixed.ne_str_bool (bp I q (by simp))
   | int j=>obtain ⟨t',rfl⟩:=ry;exact PySem.EqMixed.ne_str_int (bp I q (by simp))
   | str j=>obtain ⟨t',rfl⟩:=ry;exact ne_str (bp I q (congrArg not vP))
   | _=>exact absurd (show false = true from hs) Bool.false_ne_true
 | byt i =>
   obtain ⟨t,rfl⟩:=rx
   cases y with
   | byt j=>obtain ⟨t',rfl⟩:=ry;exact PySem.W.ne_bytes (bp I q (congrArg not wG))
   | _=>exact absurd (show false = true from hs) Bool.false_ne_true
 | _=>cases y <;> exact absurd (show false = true from hs) Bool.false_ne_true
theorem iF:bJ X (compareOp .Lt) (kz fun i j=>.bl (decide (i < j))):=xf fun _ _ _ _ _ _ _ q=>lt_int q
theorem xZ:bJ X (compareOp .LtE) (kz fun i j=>.bl (decide (i ≤ j))):=xf fun _ _ _ _ _ _ _ q=>le_int q
theorem lj:bJ X (compareOp .Gt) (kz fun i j=>.bl (decide (j < i))):=xf fun _ _ _ _ _ _ _ q=>gt_int q
theorem s_:bJ X (compareOp .GtE) (kz fun i j=>.bl (decide (j ≤ i))):=xf fun _ _ _ _ _ _ _ q=>ge_int q
theorem JY : bJ X (compareOp .Is) (fun x y H Q => y = .aH ∧ Q (.bl (decide (x = .aH))) H) := by
 intro pins s σ H x y v u Q I rx ry h
 obtain ⟨rfl,q⟩:=h
 cases ry
 refine is_none_gen (bp I q ?_)
 cases x <;> first
   | (cases rx;rfl)
   | (obtain ⟨t,rfl⟩:=rx;rfl)
theorem Gz : bJ X (compareOp .IsNot) (fun x y H Q => y = .aH ∧ Q (.bl (!decide (x = .aH))) H) := by
 intro pins s σ H x y v u Q I rx ry h
 obtain ⟨rfl,q⟩:=h
 cases ry
 refine isnot_none_gen (bp I q ?_)
 cases x <;> first
   | (cases rx;rfl)
   | (obtain ⟨t,rfl⟩:=rx;rfl)
theorem bJ.or {f : Value → Value → Sem Value} {r r' : R2} (h : bJ X f r) (h' : bJ X f r') : bJ X f (fun x y H Q => r x y H Q ∨ r' x y H Q) := by
 intro pins s σ H x y v u Q I rx ry q
 rcases q with q | q
 · exact h pins s σ H x y v u Q I rx ry q
 · exact h' pins s σ H x y v u Q I rx ry q
theorem aG (b : Expr) {op : CmpOp} (h : op ≠ .In := by decide) (h2 : op ≠ .NotIn := by decide) : behindInMarks op b = false := by
 have e1:(op == CmpOp.In) = false:=by cases op <;> first | rfl | exact absurd rfl h
 have e2:(op == CmpOp.NotIn) = false:=by cases op <;> first | rfl | exact absurd rfl h2
 cases b <;> simp [behindInMarks,e1,e2]
theorem fm {op : CmpOp} {r : R2} (ho : bJ X (compareOp op) r) (ha : PE X a ta) (hb : PE X b tb) (hm : behindInMarks op b = false) : PE X (.Compare a [op] [b] pos) (dD r ta tb) := by
 intro pins s σ H Q I h
 exact wpAny_Compare1 (Ba ha hb I h fun v u s2 x y H2 I2 rx ry q=>ho pins s2 σ H2 x y v u Q I2 rx ry q) hm
def eZ (t:TE):TT:=fun σ H Q=>t σ H fun x H'=>∃ k,x = .bl k∧Q k H'
theorem aE {op : CmpOp} {r : R2} (ho : bJ X (compareOp op) r) (ha : PE X a ta) (hb : PE X b tb) (hm : behindInMarks op b = false) : PT X (.Compare a [op] [b] pos) (eZ (dD r ta tb)) := by
 intro pins s σ H Q I h
 refine wpAny_isTrue_Compare1 (a9 (ha pins s σ H _ I h) fun v s1 ⟨x, H1, I1, r1, q1⟩ => a9 (hb pins s1 σ H1 _ I1 q1) fun u s2 ⟨y, H2, I2, r2, q2⟩ =>
   a9 (ho pins s2 σ H2 x y v u _ I2 r1 r2 q2) fun c s3 ⟨z,H3,I3,r3,k,e,q3⟩=>?_) hm
 subst e
 cases r3
 exact wpAny_truthy_bool ⟨H3,I3,q3⟩
def tM (r r' : R2) (ta tb tc : TE) : TE := fun σ H Q => ta σ H fun x H1 => tb σ H1 fun y H2 => r x y H2 fun z H3 => ∃ k, z = .bl k ∧
 (if k = true then tc σ H3 fun w' H4=>r' y w' H4 Q else Q (.bl false) H3)
theorem B1 {op op' : CmpOp} {r r' : R2} (ho : bJ X (compareOp op) r) (ho' : bJ X (compareOp op') r') (ha : PE X a ta) (hb : PE X b tb) (hc : PE X c tc)
   (hm:lastMarks [op,op'] [b,c] = false:=by with_unfolding_all rfl):PE X (.Compare a [op,op'] [b,c] pos) (tM r r' ta tb tc):=by
 intro pins s σ H Q I h
 refine Compare_chain (a9 (ha pins s σ H _ I h) fun v s1 ⟨x, H1, I1, r1, q1⟩ => chain_link (a9 (hb pins s1 σ H1 _ I1 q1) fun u s2 ⟨y, H2, I2, r2, q2⟩ =>
   a9 (ho pins s2 σ H2 x y v u _ I2 r1 r2 q2) fun d s3 ⟨z,H3,I3,r3,k,e,q3⟩=>?_)) hm
 subst e
 cases r3
 refine wpAny_truthy_bool ?_
 cases k with
 | false=>exact ite_ff ⟨.bl false,H3,I3,rfl,q3⟩
 | true=>exact ite_tt (chain_last (a9 (hc pins s3 σ H3 _ I3 q3) fun w' s4 ⟨z',H4,I4,r4,q4⟩=>ho' pins s4 σ H4 y z' u w' Q I4 r2 r4 q4))
theorem BG {op op' : CmpOp} {r r' : R2} (ho : bJ X (compareOp op) r) (ho' : bJ X (compareOp op') r') (ha : PE X a ta) (hb : PE X b tb) (hc : PE X c tc)
   (hm:lastMarks [op,op'] [b,c] = false:=by with_unfolding_all rfl):PT X (.Compare a [op,op'] [b,c] pos) (eZ (tM r r' ta tb tc)):=by
 intro pins s σ H Q I h
 refine isTrue_chain (a9 (ha pins s σ H _ I h) fun v s1 ⟨x, H1, I1, r1, q1⟩ => test_link (a9 (hb pins s1 σ H1 _ I1 q1) fun u s2 ⟨y, H2, I2, r2, q2⟩ =>
   a9 (ho pins s2 σ H2 x y v u _ I2 r1 r2 q2) fun d s3 ⟨z,H3,I3,r3,k,e,q3⟩=>?_)) hm
 subst e
 cases r3
 refine wpAny_truthy_bool ?_
 cases k with
 | false =>
   obtain ⟨k',e',q'⟩:=q3
   cases e'
   exact ite_ff ⟨H3,I3,q'⟩
 | true =>
   refine ite_tt (test_last (a9 (hc pins s3 σ H3 _ I3 q3) fun w' s4 ⟨z',H4,I4,r4,q4⟩=>a9 (ho' pins s4 σ H4 y z' u w' _ I4 r2 r4 q4) fun d' s5 ⟨z2,H5,I5,r5,k2,e2,q5⟩=>?_))
   subst e2
   cases r5
   exact wpAny_truthy_bool ⟨H5,I5,q5⟩
def BD (K : PySem.W.Frag) (x : V) (H : Hp) (k : Bool) : Prop :=
 match x with
 | .aH=>k = false
 | .bl b=>k = b
 | .int i=>k = (i != 0)
 | .str y=>y.length ≤ sizeLine∧k = ((y.length:Int) != 0)
 | .byt y=>y.size ≤ sizeLine∧k = ((y.size:Int) != 0)
 | .ref p=>(∃ xs,az K H p xs∧k = !xs.isEmpty)∨(∃ xs,aW K H p xs∧k = !xs.isEmpty)∨∃ kvs,H p = some (.dK kvs)∧k = !kvs.isEmpty
 | _=>False
theorem xm {κ : Type} {kvs : List (κ × V)} {vs : List (κ × Value)} (r : KV kvs vs) : (!vs.isEmpty) = !kvs.isEmpty := by
 cases r <;> rfl
theorem pV {xs : List V} {its : List Value} (r : aP xs its) : (!its.toArray.isEmpty) = !xs.isEmpty := by
 cases r <;> simp
theorem kg:(sizeLine:Nat) < 2 ^ 63:=by rw [sizeLine_eq];decide
theorem GL : MM X (fun x H Q => ∃ k, BD X.K x H k ∧ Q k H) := by
 intro pins s σ H x v Q I rx h
 obtain ⟨k,e,q⟩:=h
 have hl:=kg
 have hs:sizeLine = 16777216:=sizeLine_eq
 cases x with
 | aH =>
   cases rx
   have e':k = false:=e
   subst e'
   exact truthy_none ⟨H,I,q⟩
 | bl b =>
   cases rx
   have e':k = b:=e
   subst e'
   exact wpAny_truthy_bool ⟨H,I,q⟩
 | int i =>
   obtain ⟨t,rfl⟩:=rx
   have e':k = (i != 0):=e
   subst e'
   exact PySem.P.truthy_int ⟨H,I,q⟩
 | str y =>
   obtain ⟨t,rfl⟩:=rx
   obtain ⟨hy,e'⟩:y.length ≤ sizeLine∧k = ((y.length:Int) != 0):=e
   subst e'
   exact PySem.P.truthy_str (by omega) ⟨H,I.tok _,q⟩
 | byt y =>
   obtain ⟨t,rfl⟩:=rx
   obtain ⟨hy,e'⟩:y.size ≤ sizeLine∧k = ((y.size:Int) != 0):=e
   subst e'
   exact PySem.W.truthy_bytes (by omega) ⟨H,I.tok _,q⟩
 | ref p =>
   cases rx
   have e':(∃ xs,az X.K H p xs∧k = !xs.isEmpty)∨(∃ xs,aW X.K H p xs∧k = !xs.isEmpty)∨∃ kvs,H p = some (.dK kvs)∧k = !kvs.isEmpty:=e
   rcases e' with ⟨xs,hx,e'⟩ | ⟨xs,hx,e'⟩ | ⟨kvs,hx,e'⟩
   · subst e'
     obtain ⟨its,r,pl,hz⟩:=I.list hx
     have hlen:=r.length
     exact wpAny_truthy_list pl.isList (by simp only [List.size_toArray];omega) ⟨H,I.tok _,by rw [pV r];exact q⟩
   · subst e'
     obtain ⟨its,r,pl,hz⟩:=I.tuple hx
     have hlen:=r.length
     exact truthy_tuple pl (by simp only [List.size_toArray];omega) ⟨H,I.tok _,by rw [pV r];exact q⟩
   · subst e'
     obtain ⟨hz,hS,vs,r,m⟩:kvs.length ≤ sizeLine∧(p == sysModules) = false∧∃ vs,KV kvs vs∧s.heap.DictOf (bK X.prog X.w) p vs:=I.ay p _ hx
     have hlen:kvs.length = vs.length:=Paired.length r
     exact wpAny_truthy_dict hS m (by omega) ⟨H,I.tok _,by rw [xm r];exact q⟩
 | _=>exact (show False from e).elim
theorem BU (ha : PE X a ta) (he : ∀ whole, isTrue a X.env whole = (do let v ← whole; standAt a.pos; holding [v] (truthy v))) :
   PT X a (fun σ H Q=>ta σ H fun x H'=>∃ k,BD X.K x H' k∧Q k H'):=by
 intro pins s σ H Q I h
 exact isTrue_plain (a9 (ha pins s σ H _ I h) fun v s1 ⟨x,H1,I1,r1,q1⟩=>GL pins s1 σ H1 x v Q I1 r1 q1) (he _)
theorem xC : bJ X (binaryOp .Add) (fun x y H Q => ∃ i j, x = .str i ∧ y = .str j ∧ i.length + j.length ≤ sizeLine ∧ Q (.str (i ++ j)) H) := by
 intro pins s σ H x y v u Q I rx ry h
 obtain ⟨i,j,rfl,rfl,hz,q⟩:=h
 obtain ⟨t,rfl⟩:=rx
 obtain ⟨t',rfl⟩:=ry
 exact add_str (fun t' tk=>⟨.str (i ++ j),H,I.tok _,⟨_,rfl⟩,q⟩) hz
theorem vals1 {x : V} {us : List Value} (r : aP [x] us) : ∃ u, us = [u] ∧ RelV x u := by
 cases r with
 | cons r1 r2=>cases r2;exact ⟨_,rfl,r1⟩
theorem vals2 {x y : V} {us : List Value} (r : aP [x, y] us) : ∃ u w', us = [u, w'] ∧ RelV x u ∧ RelV y w' := by
 cases r with
 | cons r1 r2 =>
   cases r2 with
   | cons r3 r4=>cases r4;exact ⟨_,_,rfl,r1,r3⟩
theorem l6 : cJ X (.type "int") (fun xs H Q => (∃ i, xs = [.int i] ∧ Q (.int i) H) ∨ ∃ k, xs = [.bl k] ∧ Q (.int (if k then 1 else 0)) H) := by
 intro pins s σ H xs us Q I r h
 rcases h with ⟨i,rfl,q⟩ | ⟨k,rfl,q⟩
 · obtain ⟨u, rfl, t, rfl⟩ := vals1 r
   exact call_int_int ⟨.int i,H,I,⟨_,rfl⟩,q⟩
 · obtain ⟨u, rfl, r1⟩ := vals1 r
   cases r1
   exact call_int_bool ⟨.int (if k then 1 else 0),H,I.tok _,⟨_,rfl⟩,q⟩
def Iv (K : PySem.W.Frag) (x : V) (H : Hp) (n : Nat) : Prop :=
 match x with
 | .str y=>y.length ≤ sizeLine∧n = y.length
 | .byt y=>y.size ≤ sizeLine∧n = y.size
 | .ref p=>(∃ xs,az K H p xs∧n = xs.length)∨∃ xs,aW K H p xs∧n = xs.length
 | _=>False
theorem AU : cJ X (.builtin "len") (fun xs H Q => ∃ x n, xs = [x] ∧ Iv X.K x H n ∧ Q (.int n) H) := by
 intro pins s σ H xs us Q I r h
 obtain ⟨x,n,rfl,e,q⟩:=h
 obtain ⟨u,rfl,rx⟩:=vals1 r
 have hl:=kg
 have hs:sizeLine = 16777216:=sizeLine_eq
 cases x with
 | str y =>
   obtain ⟨t,rfl⟩:=rx
   obtain ⟨hy,e'⟩:y.length ≤ sizeLine∧n = y.length:=e
   subst e'
   exact len_str (by omega) ⟨.int _,H,I.tok _,⟨_,rfl⟩,q⟩
 | byt y =>
   obtain ⟨t,rfl⟩:=rx
   obtain ⟨hy,e'⟩:y.size ≤ sizeLine∧n = y.size:=e
   subst e'
   exact PySem.W.len_bytes (by omega) ⟨.int _,H,I.tok _,⟨_,rfl⟩,q⟩
 | ref p =>
   cases rx
   have e':(∃ xs,az X.K H p xs∧n = xs.length)∨∃ xs,aW X.K H p xs∧n = xs.length:=e
   rcases e' with ⟨xs,hx,e'⟩ | ⟨xs,hx,e'⟩
   · subst e'
     obtain ⟨its,r',pl,hz⟩:=I.list hx
     have hlen:=r'.length
     exact Calls.call_len_list pl.isList (by simp only [List.size_toArray];omega) ⟨.int xs.length,H,I.tok _,⟨_,by simp only [List.size_toArray];rw [hlen]⟩,q⟩
   · subst e'
     obtain ⟨its,r',pl,hz⟩:=I.tuple hx
     have hlen:=r'.length
     exact len_tuple pl (by simp only [List.size_toArray];omega) ⟨.int xs.length,H,I.tok _,⟨_,by simp only [List.size_toArray];rw [hlen]⟩,q⟩
 | _=>exact (show False from e).elim
end
end L2
namespace L2
open PySem PySem.Spec PyProof.Rows
structure oG (h : Heap) (x dx C : Addr) (mA : Str → Option Value) : Prop where
 obj:h.get? x = some (PySem.W.instObj C dx)
 ns:h.Ns1 dx mA
 ne:dx ≠ x
theorem zc {h : Heap} {dx : Addr} {mA : Str → Option Value} (n : h.Ns1 dx mA) : ∃ od, h.get? dx = some od ∧ ∀ name, PySem.W.lookIn name od = some (mA name) := by
 obtain ⟨o,es,ep,ho,hd,hk,_,hm⟩:=n
 refine ⟨o,ho,fun name=>?_⟩
 have e:=hm name
 unfold nsFind findBy at e
 rw [← Array.find?_toList] at e
 unfold PySem.W.lookIn
 rw [hd]
 dsimp only
 split
 · rename_i y q
   rw [q] at e
   exact congrArg some e
 · rename_i q
   rw [q] at e
   have a : es.toList.any (·.refKey) = false := by
     rw [List.any_eq_false]
     intro y hy
     obtain ⟨z,t,hkey⟩:=hk y (Array.mem_toList_iff.mp hy)
     simp [DictEntry.refKey,hkey]
   have a' : ¬ es.toList.any (·.refKey) = true:=by rw [a];exact Bool.false_ne_true
   rw [if_neg a']
   exact congrArg some e
theorem oG.look {h : Heap} {x dx C : Addr} {mA : Str → Option Value} (I : oG h x dx C mA) : ∃ od, PySem.W.InstAt h x (PySem.W.instObj C dx) C (some od) ∧ ∀ name, PySem.W.lookIn name od = some (mA name) :=
 let ⟨od,ho,hl⟩:=zc I.ns
 ⟨od,⟨I.obj,rfl,rfl,ho⟩,hl⟩
section
variable {prog:Program} {w:World} {A:Around} {E:Value→Shared→Prop} {s:Shared} {K:PySem.W.Frag} {x dx C f:Addr} {mA:Str→Option Value} {name:Str} {v:Value}
theorem get_map {expr : Bool} {Q : Value → Shared → Prop} (X : K.In s.heap) (I : oG s.heap x dx C mA) (hg : PySem.W.plainGet K C name = true) (hh : PySem.W.hasDictIn K C = true)
   (ha:PySem.W.findIn K (.ref C) name = some none) (hv:mA name = some v) (hv':PySem.W.handedIn v = true) (h:Q v { s with toks:=s.toks + 1 }) :
   wpAny (model prog w) A (getAttr (.ref x) name expr) Q E s:=by
 obtain ⟨od,J,hl⟩:=I.look
 exact PySem.W.get_value X J (PySem.W.plainGet_of hg).1 (PySem.W.findObj_own hh ha rfl (by rw [hl,hv])) hv' h
theorem BI {pl : Sem Bool} {Q : Value × List Value → Shared → Prop} (X : K.In s.heap) (I : oG s.heap x dx C mA) (hg : PySem.W.plainGet K C name = true)
   (hf:PySem.W.findIn K (.ref C) name = some (some (.ref f))) (ht:PySem.W.isFn K (.ref f) = true) (hv:mA name = none) (h:Q (.ref f,[.ref x]) s) :
   wpAny (model prog w) A (getMethod (.ref x) name pl) Q E s:=by
 obtain ⟨od,J,hl⟩:=I.look
 exact PySem.W.method_fn X J (PySem.W.plainGet_of hg).1 (PySem.W.plainGet_of hg).2 hf (beq_iff_eq.mp ht) (by show (PySem.W.lookIn name od).map (·.isSome) = some false;rw [hl,hv];rfl) h
theorem ny {ns : List Str} {Q : Unit → Shared → Prop} (X : K.In s.heap) (I : oG s.heap x dx C mA)
   (hs:PySem.W.findIn K (.ref C) "__setattr__" = some (some (.builtin "object.__setattr__"))) (hp:PySem.W.plainOver K C = true) (ht:PySem.W.takerIn K C name = some none) (hh:PySem.W.hasDictIn K C = true)
   (hw:PySem.Within mA ns) (hsz:ns.length ≤ sizeLine)
   (h:∀ h',oG h' x dx C (fun y=>if y = name then some v else mA y)→Heap.SameBut dx s.heap h'→Q () { s with heap:=h',toks:=s.toks + 2 }) :
   wpAny (model prog w) A (setAttr (.ref x) name v) Q E s:=by
 obtain ⟨od,J,hl⟩:=I.look
 refine PySem.W.set_plain X J hs (PySem.W.osa_open (s:={ s with toks:=s.toks + 1 }) (r:=none) X J hp ht fun b=>?_)
 obtain ⟨cd,hc,hd'⟩:=PySem.W.any_some hh
 have hx:s.heap.get? x = some ⟨.ref C,some dx,.plain,#[]⟩:=I.obj
 refine wpAny_bind (wpAny_pure (wpAny_bind (wpAny_bind (wpAny_loadPart hx (wpAny_bind (PySem.W.Looks.here (s:={ s with toks:=s.toks + 1 }) (PySem.W.looks_clsIn X hc) ?_))))))
 rw [hd']
 refine wpAny_pure (a:=some dx) (wpAny_bind (wpAny_pure (wpAny_bind ?_)))
 refine wpAny_nsSet1 (s:={ s with toks:=s.toks + 1 }) I.ns fun h' hn2 hs2=>?_
 obtain ⟨oD,esD,epD,hoD,hdD,hcD⟩:=hn2.count (PySem.Within.cons name v hw)
 refine wpAny_bind (wpAny_lookBehind hoD (by rw [hdD];exact pastItsLine_dict (Nat.le_trans hcD (by rw [List.length_cons];omega))) ?_)
 exact wpAny_pure (h _ ⟨(hs2.2 _ (Ne.symm I.ne)).trans I.obj,hn2,I.ne⟩ hs2)
theorem A6 {R : Result → Shared → Prop} {vs : List Value} {kw : List (Str × Value)} (X : K.In s.heap) (hm : PySem.W.makesIn K C = true)
   (hi:PySem.W.findIn K (.ref C) "__init__" = some (some (.ref f))) (hf:PySem.W.typeIn K (.ref f) = some (.type "function"))
   (h : codeAny (model prog w) (A.under (.builtin "type.__call__" ⟨.ref C :: vs, kw⟩)) (.call (.ref f) ⟨.ref (s.heap.objs.size + 1) :: vs, kw⟩) (PySem.W.InitBack (s.heap.objs.size + 1) R)
     { s with heap:=(s.heap.push PySem.W.emptyDict).push (PySem.W.instObj C s.heap.objs.size) }) :
   codeAny (model prog w) A (.call (.ref C) ⟨vs,kw⟩) R s:=by
 obtain ⟨hh,g,d,t,os⟩:=s
 exact PySem.W.make_core (PySem.W.makes_of X hm) (PySem.W.looks_findIn X hi) (fun self=>PySem.W.bind_fn X self hf) (.inl rfl) h
end
def aN (f : Str) (v : V) : List (Str × V) → List (Str × V)
 | []=>[(f,v)]
 | (g,x) :: r=>if g = f then (g,v) :: r else (g,x) :: aN f v r
theorem gx (f g : Str) (v : V) : ∀ fs : List (Str × V), (aN f v fs).lookup g = if g = f then some v else fs.lookup g
 | [] => by
   show List.lookup g [(f,v)] = _
   by_cases h:g = f
   · have hb : (g == f) = true := beq_iff_eq.mpr h
     simp only [List.lookup,hb,if_pos h]
   · have hb : (g == f) = false := beq_eq_false_iff_ne.mpr h
     simp only [List.lookup,hb,if_neg h]
 | (k, x) :: r => by
   have ih:=gx f g v r
   rw [show aN f v ((k,x) :: r) = (if k = f then (k,v) :: r else (k,x) :: aN f v r) from rfl]
   by_cases hk:k = f
   · rw [if_pos hk]
     by_cases h:g = k
     · have hb : (g == k) = true := beq_iff_eq.mpr h
       simp only [List.lookup,hb,if_pos (h.trans hk)]
     · have hb : (g == k) = false := beq_eq_false_iff_ne.mpr h
       simp only [List.lookup,hb,if_neg (fun e:g = f=>h (e.trans hk.symm))]
   · rw [if_neg hk]
     by_cases h:g = k
     · have hb : (g == k) = true := beq_iff_eq.mpr h
       simp only [List.lookup,hb,if_neg (fun e:g = f=>hk (h.symm.trans e))]
     · have hb : (g == k) = false := beq_eq_false_iff_ne.mpr h
       simp only [List.lookup,hb]
       exact ih
theorem mX (f : Str) (v : V) : ∀ fs : List (Str × V), f ∈ (aN f v fs).map (·.1) ∧ ∀ g, g ∈ fs.map (·.1) → g ∈ (aN f v fs).map (·.1)
 | []=>⟨by simp [aN],fun g h=>by simp at h⟩
 | (k, x) :: r => by
   obtain ⟨i1,i2⟩:=mX f v r
   rw [show aN f v ((k,x) :: r) = (if k = f then (k,v) :: r else (k,x) :: aN f v r) from rfl]
   by_cases hk:k = f
   · rw [if_pos hk]
     subst hk
     exact ⟨by simp,fun g h=>by simpa using h⟩
   · rw [if_neg hk]
     refine ⟨?_,fun g h=>?_⟩
     · rw [List.map_cons]
       exact List.mem_cons_of_mem _ i1
     · rw [List.map_cons] at h ⊢
       rcases List.mem_cons.mp h with e | e
       · exact List.mem_cons.mpr (.inl e)
       · exact List.mem_cons_of_mem _ (i2 g e)
theorem jW (f : Str) (v : V) : ∀ fs : List (Str × V), (aN f v fs).length ≤ fs.length + 1
 | []=>by simp [aN]
 | (k, x) :: r => by
   have ih:=jW f v r
   rw [show aN f v ((k,x) :: r) = (if k = f then (k,v) :: r else (k,x) :: aN f v r) from rfl]
   by_cases hk:k = f
   · rw [if_pos hk,List.length_cons,List.length_cons];omega
   · rw [if_neg hk,List.length_cons,List.length_cons];omega
theorem fQ.some_of {v : V} {o : Option Value} (r : fQ (some v) o) : ∃ u, o = some u ∧ RelV v u := by
 cases o with
 | none=>exact (show False from r).elim
 | some u=>exact ⟨u,rfl,r⟩
theorem fQ.none_of {o : Option Value} (r : fQ none o) : o = none := by
 cases o with
 | none=>rfl
 | some u=>exact (show False from r).elim
theorem yN {v : V} {u : Value} (r : RelV v u) : PySem.W.handedIn u = true := by
 cases v with
 | aH=>cases (show u = Value.none from r);rfl
 | bl b=>cases (show u = Value.bool b from r);rfl
 | int i=>obtain ⟨t,e⟩:=(show ∃ t,u = Value.int i t from r);cases e;rfl
 | str x=>obtain ⟨t,e⟩:=(show ∃ t,u = Value.str x t from r);cases e;rfl
 | byt b=>obtain ⟨t,e⟩:=(show ∃ t,u = Value.bytes b t from r);cases e;rfl
 | uW b=>obtain ⟨t,e⟩:=(show ∃ t,u = Value.float b t from r);cases e;rfl
 | ref a=>cases (show u = Value.ref a from r);rfl
 | ty n=>cases (show u = Value.type n from r);rfl
section
variable {P:Program} {w:World} {H H':Hp} {h h':Heap} {a C dx:Addr} {fs fs':List (Str×V)}
theorem nE (ay : cW P w H h) (e : H a = some (.ins C dx fs)) : ∃ mA, oG h a dx C mA ∧ (∀ f, fQ (fs.lookup f) (mA f)) ∧ PySem.Within mA (fs.map (·.1)) ∧ fs.length ≤ 1000 ∧ H dx = some (.own a) := by
 obtain ⟨d,z,ne,ob,mA,n,r,q⟩:=(show bQ P w H h a (.ins C dx fs) from ay a _ e)
 exact ⟨mA,⟨ob,n,ne⟩,r,q,z,d⟩
end
structure gr (K : PySem.W.Frag) (C : Addr) : Prop where
 pg:PySem.W.plainGet K C Str.empty = true
 hd:PySem.W.hasDictIn K C = true
 po:PySem.W.plainOver K C = true
 sa:PySem.W.findIn K (.ref C) "__setattr__" = some (some (.builtin "object.__setattr__"))
theorem gr.get {K:PySem.W.Frag} {C:Addr} (c:gr K C) (f:Str):PySem.W.plainGet K C f = true:=c.pg
def cb (K:PySem.W.Frag) (C:Addr) (f:Str):Prop:=PySem.W.findIn K (.ref C) f = some none
theorem cb.Lj {K : PySem.W.Frag} {C : Addr} {f : Str} (n : cb K C f) : PySem.W.takerIn K C f = some none := by
 unfold PySem.W.takerIn
 rw [show PySem.W.findIn K (.ref C) f = some none from n]
 rfl
structure cj (K : PySem.W.Frag) (C : Addr) (m : Str) (f : Addr) : Prop where
 at_:PySem.W.findIn K (.ref C) m = some (some (.ref f))
 fn:PySem.W.isFn K (.ref f) = true
 kp:PySem.W.keepIn K (.ref f) = true
section
variable {X:Cx} {pins:List (Addr×Obj)} {σ : St} {H:Hp} {s:Shared} {a C dx:Addr} {fs:List (Str×V)} {f:Str} {v:V} {A:Around} {E:Value→Shared→Prop}
theorem xa {b : Bool} {Q : Value → Shared → Prop} (I : Inv X pins σ H s) (e : H a = some (.ins C dx fs)) (c : gr X.K C) (n : cb X.K C f) (l : fs.lookup f = some v)
   (h:∀ u s',Inv X pins σ H s'→RelV v u→Q u s'):wpAny (model X.prog X.w) A (getAttr (.ref a) f b) Q E s:=by
 obtain ⟨mA,O,r,_,_,_⟩:=nE I.ay e
 obtain ⟨u,hu,ru⟩:=fQ.some_of (v:=v) (o:=mA f) (by rw [← l];exact r f)
 exact get_map I.ee O (c.get f) c.hd n hu (yN ru) (h u _ (I.tok _) ru)
theorem oY {m : Str} {g : Addr} {pl : Sem Bool} {Q : Value × List Value → Shared → Prop} (I : Inv X pins σ H s) (e : H a = some (.ins C dx fs)) (c : gr X.K C) (k : cj X.K C m g) (l : fs.lookup m = none)
   (h:Q (.ref g,[.ref a]) s):wpAny (model X.prog X.w) A (getMethod (.ref a) m pl) Q E s:=by
 obtain ⟨mA,O,r,_,_,_⟩:=nE I.ay e
 have hn:mA m = none:=fQ.none_of (by rw [← l];exact r m)
 exact BI I.ee O (c.get m) k.at_ k.fn hn h
theorem yc {y : V} {u : Value} {Q : Unit → Shared → Prop} (I : Inv X pins σ H s) (e : H a = some (.ins C dx fs)) (c : gr X.K C) (n : cb X.K C f) (hl : fs.length < 1000) (ry : RelV y u)
   (h:∀ s',Inv X pins σ (upd H a (.ins C dx (aN f y fs))) s'→Q () s'):wpAny (model X.prog X.w) A (setAttr (.ref a) f u) Q E s:=by
 obtain ⟨mA,O,r,wi,_,ho⟩:=nE I.ay e
 have hz:(fs.map (·.1)).length ≤ sizeLine:=by rw [List.length_map,sizeLine_eq];omega
 refine ny I.ee O c.sa c.po n.Lj c.hd wi hz fun h' O' sb=>h _ ?_
 have hd:∃ o,h'.get? dx = some o:=let ⟨o,_,_,e',_⟩:=O'.ns;⟨o,e'⟩
 refine I.write (x:=a) (e:=dx) (by rw [e];exact True.intro) (.inr ho) (fun b q hb z=>(sb.2 b hb).trans z) hd ?_
 refine ⟨by rw [ao O.ne];exact ho,?_,O.ne,O'.obj,_,O'.ns,fun g=>?_,fun g hg=>?_⟩
 · have:=jW f y fs;omega
 · show fQ ((aN f y fs).lookup g) (if g = f then some u else mA g)
   rw [gx]
   by_cases q:g = f
   · rw [if_pos q,if_pos q];exact ry
   · rw [if_neg q,if_neg q];exact r g
 · by_cases q : g = f
   · rw [q];exact (mX f y fs).1
   · refine (mX f y fs).2 g (wi g fun z => hg ?_)
     show (if g = f then some u else mA g) = none
     rw [if_neg q];exact z
theorem Inv.made (I : Inv X pins σ H s) : Inv X pins σ (upd (upd H s.heap.objs.size (.own (s.heap.objs.size + 1))) (s.heap.objs.size + 1) (.ins C s.heap.objs.size []))
   { s with heap:=(s.heap.push PySem.W.emptyDict).push (PySem.W.instObj C s.heap.objs.size) }:=by
 have e1:(s.heap.push PySem.W.emptyDict).get? s.heap.objs.size = some PySem.W.emptyDict:=Heap.get?_push_size s.heap rfl
 have e2 : ((s.heap.push PySem.W.emptyDict).push (PySem.W.instObj C s.heap.objs.size)).get? (s.heap.objs.size + 1) = some (PySem.W.instObj C s.heap.objs.size) := by
   have:=Heap.get?_push_size (s.heap.push PySem.W.emptyDict) (o:=PySem.W.instObj C s.heap.objs.size) rfl
   rwa [Heap.size_push] at this
 have e3:(s.heap.push PySem.W.emptyDict).Ns s.heap.objs.size (fun _=>none):=⟨PySem.W.emptyDict,#[],_,e1,rfl,(fun e he=>absurd he (by simp)),fun _=>rfl⟩
 have I1:=I.laid (a:=s.heap.objs.size) (o:=.own (s.heap.objs.size + 1)) (h':=s.heap.push PySem.W.emptyDict) (t':=s.toks) (fun b u q=>Heap.get?_push_of_some _ q) (Nat.le_refl _) ⟨_,e1⟩
 refine I1.laid (a:=s.heap.objs.size + 1) (o:=.ins C s.heap.objs.size []) (t':=s.toks) (fun b u q=>Heap.get?_push_of_some _ q) (Nat.le_of_eq (Heap.size_push _ _)) ?_
 have ne:s.heap.objs.size ≠ s.heap.objs.size + 1:=Nat.ne_of_lt (Nat.lt_succ_self _)
 refine ⟨by rw [ao ne,ah],Nat.zero_le _,ne,e2,fun _=>none,(Heap.Ns1.of_empty e3).at fun o q=>Heap.get?_push_of_some _ q,fun _=>True.intro,fun y hy=>absurd rfl hy⟩
theorem Gi {prog : Program} {w : World} {env : Env} {e : Expr} {f : Str} {pos : Pos} {s : Shared} {Q : Value → Shared → Prop} (hb : attributeBase e f env (eval e env) = eval e env)
   (h:wpAny (model prog w) A (eval e env) (fun o s₁=>wpAny (model prog w) A (getAttr o f true) Q E s₁) E s):wpAny (model prog w) A (eval (.Attribute e f pos) env) Q E s :=
 Attribute_any_ h (by rw [arm_eval_Attribute,hb])
end
def mw (K:PySem.W.Frag) (ta:TE) (f:Str):TE:=fun σ H Q=>ta σ H fun x H1=>∃ a C dx fs v,x = .ref a∧H1 a = some (.ins C dx fs)∧gr K C∧cb K C f∧fs.lookup f = some v∧Q v H1
def BC (K : PySem.W.Frag) (ta tv : TE) (f : Str) : TS := fun D σ H => tv σ H fun y H1 => ta σ H1 fun x H2 => ∃ a C dx fs, x = .ref a ∧ H2 a = some (.ins C dx fs) ∧ gr K C ∧ cb K C f ∧ fs.length < 1000 ∧
 D.nx σ (upd H2 a (.ins C dx (aN f y fs)))
section
variable {X:Cx} {o e value:Expr} {f:Str} {pos pos' tpos:Pos} {ta tv:TE}
theorem GN (he : PE X e ta) (hb : attributeBase e f X.env (eval e X.env) = eval e X.env) : PE X (.Attribute e f pos) (mw X.K ta f) := by
 intro pins s σ H Q I h
 refine Gi hb (a9 (he pins s σ H _ I h) fun u s1 ⟨x,H1,I1,rx,a,C,dx,fs,v,ex,ea,c,n,l,q⟩=>?_)
 subst ex
 obtain rfl:u = Value.ref a:=rx
 exact xa I1 ea c n l fun u' s2 I2 ru=>⟨v,H1,I2,ru,q⟩
theorem Kz (ha : PE X o ta) (hv : PE X value tv) (hs : swapsWith value (some (.Attribute o f pos')) pos.line X.env = pure false) : PS X (.Assign [.Attribute o f pos'] value pos) (BC X.K ta tv f) := by
 intro pins s σ H D I h
 refine plainObj_wpAny_Assign_Attribute (a9 (hv pins s σ H _ I h) fun u s1 ⟨y,H1,I1,ry,q⟩=>a9 (ha pins s1 σ H1 _ I1 q) fun ov s2 ⟨x,H2,I2,rx,a,C,dx,fs,ex,ea,c,n,l,q2⟩=>?_) hs
 subst ex
 obtain rfl:ov = Value.ref a:=rx
 exact yc I2 ea c n l ry fun s3 I3=>⟨σ,_,I3,q2⟩
end
section
variable {X:Cx} {pins:List (Addr×Obj)} {σ : St} {H:Hp} {s:Shared} {A:Around} {E:Value→Shared→Prop} {Q:Value→Shared→Prop} {c:Value} {b:Bool}
inductive eG (K : PySem.W.Frag) (H : Hp) : V → Value → Prop where
 | aH:eG K H .aH (.type "NoneType")
 | bl (x:Bool):eG K H (.bl x) (.type "bool")
 | int (i:Int):eG K H (.int i) (.type "int")
 | str (x:Str):eG K H (.str x) (.type "str")
 | uW (x:UInt64):eG K H (.uW x) (.type "float")
 | lst {a:Addr} {xs:List V} (e:H a = some (.lst xs)):eG K H (.ref a) (.type "list")
 | dj {a:Addr} {o:Obj} {xs:List V} (e:H a = some (.dj o (.lst xs))):eG K H (.ref a) (.type "list")
 | tup {a:Addr} {xs:List V} (e:H a = some (.tup xs)):eG K H (.ref a) (.type "tuple")
 | dK {a:Addr} {kvs:List (Key×V)} (e:H a = some (.dK kvs)):eG K H (.ref a) (.type "dict")
 | dT {a:Addr} {kvs:List (List Key×V)} (e:H a = some (.dT kvs)):eG K H (.ref a) (.type "dict")
 | ins {a C dx : Addr} {fs : List (Str × V)} (e : H a = some (.ins C dx fs)) (cl : gr K C) (ha : PySem.W.findIn K (.ref C) "__class__" = some (some (.builtin "object.__class__")))
     (hn:PySem.W.specialIn K (.builtin "object.__class__") "__get__" = some (some (.builtin "getset_descriptor.__get__"))) (htk:PySem.W.takesIn K (.builtin "object.__class__") = some true)
     (hm:PySem.W.mroIn K C (.type "object") = some true):eG K H (.ref a) (.ref C)
theorem zj {x : V} {u t : Value} (I : Inv X pins σ H s) (rx : RelV x u) (ty : eG X.K H x t) (e : PySem.W.kitOne X.K t c = some b) (h : ∀ tk, Q (.bool b) { s with toks := tk }) :
   wpAny (model X.prog X.w) A (call (.builtin "isinstance") [u,c]) Q E s:=by
 cases ty with
 | aH=>cases (show u = Value.none from rx);exact PySem.W.kia_one PySem.W.kitx_none I.ee True.intro e (fun z=>nomatch z) h
 | bl y=>cases (show u = Value.bool y from rx);exact PySem.W.kia_one PySem.W.kitx_bool I.ee True.intro e (fun z=>nomatch z) h
 | int i=>obtain ⟨t,q⟩:=(show ∃ t,u = Value.int i t from rx);cases q;exact PySem.W.kia_one PySem.W.kitx_int I.ee True.intro e (fun z=>nomatch z) h
 | str y=>obtain ⟨t,q⟩:=(show ∃ t,u = Value.str y t from rx);cases q;exact PySem.W.kia_one PySem.W.kitx_str I.ee True.intro e (fun z=>nomatch z) h
 | uW y=>obtain ⟨t,q⟩:=(show ∃ t,u = Value.float y t from rx);cases q;exact PySem.W.kia_one PySem.W.kitx_float I.ee True.intro e (fun z=>nomatch z) h
 | @lst a xs ea =>
   cases (show u = Value.ref a from rx)
   obtain ⟨_,_,n,_,h1⟩:=(show bQ X.prog X.w H s.heap a (.lst xs) from I.ay a _ ea)
   exact PySem.W.kia_one PySem.W.kitx_list I.ee ⟨_,h1,rfl⟩ e (fun z=>nomatch z) h
 | @dj a ob xs ea =>
   cases (show u = Value.ref a from rx)
   obtain ⟨_,_,_,n,_,h1⟩:=(show bQ X.prog X.w H s.heap a (.dj ob (.lst xs)) from I.ay a _ ea)
   exact PySem.W.kia_one PySem.W.kitx_list I.ee ⟨_,h1,rfl⟩ e (fun z=>nomatch z) h
 | @tup a xs ea =>
   cases (show u = Value.ref a from rx)
   obtain ⟨_,_,_,p⟩:=(show bQ X.prog X.w H s.heap a (.tup xs) from I.ay a _ ea)
   obtain ⟨o,h1,h2,_⟩:=p
   exact PySem.W.kia_one PySem.W.kitx_tuple I.ee ⟨o,h1,h2⟩ e (fun z=>nomatch z) h
 | @dK a kvs ea =>
   cases (show u = Value.ref a from rx)
   obtain ⟨_,_,vs,_,p⟩:=(show bQ X.prog X.w H s.heap a (.dK kvs) from I.ay a _ ea)
   obtain ⟨o,es,ep,h1,h2,_⟩:=p
   exact PySem.W.kia_one PySem.W.kitx_dict I.ee ⟨o,h1,h2.1⟩ e (fun z=>nomatch z) h
 | @dT a kvs ea =>
   cases (show u = Value.ref a from rx)
   obtain ⟨_,_,xs,_,o,es,ep,h1,h2,_⟩:=(show bQ X.prog X.w H s.heap a (.dT kvs) from I.ay a _ ea)
   exact PySem.W.kia_one PySem.W.kitx_dict I.ee ⟨o,h1,h2.1⟩ e (fun z=>nomatch z) h
 | @ins a C dx fs ea cl ha hn htk hm =>
   cases (show u = Value.ref a from rx)
   obtain ⟨mA,O,_⟩:=nE I.ay ea
   obtain ⟨od,J,_⟩:=O.look
   exact PySem.W.kia_one (PySem.W.kitx_own (cl.get _) cl.hd ha hn htk hm) I.ee J e (fun z=>nomatch z) h
end
end L2
namespace L2
open PySem PySem.Spec PyProof.Rows
structure bS (k : Nat) (A : Around) : Prop where
 hd:A.handled = none
 dp:A.depth + 1 * k + 5 < recursionLimit
 un:A.units + 16 * k + 200 < cLine
 gd:A.guards = some []
theorem bS.mono {j k:Nat} {A:Around} (r:bS k A) (h:j ≤ k):bS j A:=⟨r.hd,by have:=r.dp;omega,by have:=r.un;omega,r.gd⟩
theorem bS.deeper {k : Nat} {A : Around} (r : bS (k + 1) A) (env : Env) : bS k (A.deeper env) :=
 ⟨r.hd,by have:=r.dp;show A.depth + 1 + 1 * k + 5 < _;omega,by have:=r.un;show A.units + 3 + 16 * k + 200 < _;omega,r.gd⟩
theorem xK {A : Around} {C : Addr} {us : List Value} {kw : List (Str × Value)} : (A.under (.builtin "type.__call__" ⟨.ref C :: us, kw⟩)).depth = A.depth + 1 := by
 first | rfl | simp [Around.under,Code.weight,Code.isCreation,Code.isGuard,Code.isCaller,Code.frames,Code.isFrame,guardIds]
theorem xG {A : Around} {C : Addr} {us : List Value} {kw : List (Str × Value)} : (A.under (.builtin "type.__call__" ⟨.ref C :: us, kw⟩)).units = A.units + 1 := by
 first | rfl | simp [Around.under,Code.cUnits,Code.frames,Code.isFrame]
theorem vA {A : Around} {C : Addr} {us : List Value} {kw : List (Str × Value)} : (A.under (.builtin "type.__call__" ⟨.ref C :: us, kw⟩)).guards = A.guards := by
 have e:(Code.builtin "type.__call__" ⟨.ref C :: us,kw⟩).guards = []:=by first | rfl | simp [Code.guards,Code.isGuard,guardIds]
 simp only [Around.under,e,pushGuards]
theorem bS.make {k : Nat} {A : Around} (r : bS (k + 1) A) (C : Addr) (us : List Value) (kw : List (Str × Value)) : bS k (A.under (.builtin "type.__call__" ⟨.ref C :: us, kw⟩)) :=
 ⟨r.hd,by have:=r.dp;rw [xK];omega,by have:=r.un;rw [xG];omega,by rw [vA];exact r.gd⟩
theorem bS.depth {k:Nat} {A:Around} (r:bS k A):A.depth < recursionLimit:=by have:=r.dp;omega
theorem bS.units {k:Nat} {A:Around} (r:bS k A):A.units + 64 < cLine:=by have:=r.un;omega
def gc:TA:=fun _ H Q=>Q [] H
def cv (ta:TE) (tr:TA):TA:=fun σ H Q=>ta σ H fun x H1=>tr σ H1 fun xs H2=>Q (x :: xs) H2
section
variable {X:Cx} {e:Expr} {es:List Expr} {te:TE} {t:TA} {pos:Pos}
theorem af:PA X [] gc:=fun _ _ _ _ H Q I h=>Calls.spliced_nil ⟨[],H,I,.nil,h⟩
theorem aa (ha : PE X e te) (hr : PA X es t) (hs : starEach (e :: es) X.env = (false, eval e X.env) :: starEach es X.env := by rfl) : PA X (e :: es) (cv te t) := by
 intro pos pins s σ H Q I h
 rw [hs]
 show wpAny _ _ (spliced ((false,eval e X.env) :: backTo pos (starEach es X.env))) _ _ s
 refine Calls.spliced_cons (a9 (ha pins s σ H _ I h) fun u s1 ⟨x,H1,I1,r1,q1⟩=>?_)
 exact a9 (hr pos pins s1 σ H1 _ I1 q1) fun us s2 ⟨xs,H2,I2,r2,q2⟩=>⟨x :: xs,H2,I2,.cons r1 r2,q2⟩
def xY (t:TA):TE:=fun σ H Q=>t σ H fun xs H1=>xs.length ≤ sizeLine∧∀ p,H1 p = none→Q (.ref p) (upd H1 p (.tup xs))
def Bx (t:TA):TE:=fun σ H Q=>t σ H fun xs H1=>xs.length ≤ sizeLine∧∀ p,H1 p = none→Q (.ref p) (upd H1 p (.lst xs))
theorem cn {x1} (h : PA X es t) : PE X (.Tuple es x1 pos) (xY t) := by
 intro pins s σ H Q I hq
 refine wpAny_Tuple_spliced (a9 (h pos pins s σ H _ I hq) fun us s1 ⟨xs,H1,I1,r,z,q⟩=>⟨by rw [← r.length];exact z,?_⟩)
 have hf:H1 s1.heap.objs.size = none:=I1.ay.fresh (Nat.le_refl _)
 refine ⟨.ref s1.heap.objs.size,upd H1 s1.heap.objs.size (.tup xs),I1.laid (t':=s1.toks) (fun b u e=>Heap.get?_push_of_some _ e) (Nat.le_refl _) ?_,rfl,q _ hf⟩
 exact ⟨z,us,r,⟨_,Heap.get?_push_size _ rfl,rfl,_,rfl⟩⟩
theorem bH (h : PA X es t) : PE X (.List es pos) (Bx t) := by
 intro pins s σ H Q I hq
 refine wpAny_List_spliced (a9 (h pos pins s σ H _ I hq) fun us s1 ⟨xs,H1,I1,r,z,q⟩=>⟨by rw [← r.length];exact z,?_⟩)
 have hf:H1 s1.heap.objs.size = none:=I1.ay.fresh (Nat.le_refl _)
 refine ⟨.ref s1.heap.objs.size,upd H1 s1.heap.objs.size (.lst xs),I1.laid (t':=s1.toks) (fun b u e=>Heap.get?_push_of_some _ e) (Nat.le_refl _) ?_,rfl,q _ hf⟩
 exact ⟨z,us,0,r,Heap.get?_push_size _ rfl⟩
end
abbrev Sp:=List V→Hp→VK→XK→Prop
abbrev eW:=List Env→Hp→Shared→XK→Value→Shared→Prop
structure oy (P : Program) (w : World) (K : PySem.W.Frag) (mg : Str → Option Value) (base : Heap) (A : Around) (outer : List Env) (s : Shared) (H : Hp) : Prop where
 frames:A.frames = some outer
 mod:Mod K mg base
 bs:∀ b o,base.get? b = some o→s.heap.get? b = some o∧H b = none
 nY:base.objs.size ≤ s.heap.objs.size
 gH:s.heap.FunFrames base outer
 pI:∀ b ∈ eh outer,H b = none
 ay:cW P w H s.heap
 bare:AllBare s.gens
def CE (outer : List Env) (P : Program) (w : World) (H : Hp) (s : Shared) (Q : VK) (u : Value) (s' : Shared) : Prop :=
 ∃ v H',s'.os = s.os∧AllBare s'.gens∧Un (eh outer) [] H H' s.heap s'.heap∧cW P w H' s'.heap∧RelV v u∧Q v H'
def CR (CX : eW) (outer : List Env) (P : Program) (w : World) (H : Hp) (s : Shared) (Q : VK) (E : XK) (r : Result) (s' : Shared) : Prop :=
 match r with
 | .ok (.ret u)=>CE outer P w H s Q u s'
 | .ok _=>False
 | .error e=>CX outer H s E e s'
structure ez (P : Program) (w : World) (K : PySem.W.Frag) (mg : Str → Option Value) (base : Heap) (CX : eW) (k : Nat) (f : Addr) (fd : FuncData) (ps : List Str) (sp : Sp) : Prop where
 len:∀ vs H Q E,sp vs H Q E→vs.length = ps.length
 run : ∀ (A : Around) (outer : List Env) (s : Shared) (H : Hp) (args : Args) (us : List Value) (vs : List V) (Q : VK) (E : XK), bS k A → oy P w K mg base A outer s H → BindsTo s fd args (ps.zip us) → aP vs us → sp vs H Q E →
   codeAny (model P w) A (.call (.ref f) args) (CR CX outer P w H s Q E) s
theorem ez.mono {P : Program} {w : World} {K : PySem.W.Frag} {mg : Str → Option Value} {base : Heap} {CX : eW} {j k : Nat} {f : Addr} {fd : FuncData} {ps : List Str} {sp : Sp} (F : ez P w K mg base CX j f fd ps sp) (h : j ≤ k) :
   ez P w K mg base CX k f fd ps sp:=⟨F.len,fun A outer s H args us vs Q E hr=>F.run A outer s H args us vs Q E (hr.mono h)⟩
theorem oy.make {P : Program} {w : World} {K : PySem.W.Frag} {mg : Str → Option Value} {base : Heap} {A : Around} {outer : List Env} {s : Shared} {H : Hp} (e : oy P w K mg base A outer s H) (C : Addr) (us : List Value) (kw : List (Str × Value)) :
   oy P w K mg base (A.under (.builtin "type.__call__" ⟨.ref C :: us,kw⟩)) outer s H:=⟨by first | exact e.frames | (simpa [Around.under,Code.envs,Code.isFrame,pushEnvs] using e.frames),e.mod,e.bs,e.nY,e.gH,e.pI,e.ay,e.bare⟩
section
variable {X:Cx} {pins:List (Addr×Obj)} {σ : St} {H:Hp} {s s':Shared}
theorem Inv.Bs (I : Inv X pins σ H s) : oy X.prog X.w X.K X.mg X.base X.A X.stack s H :=
 ⟨I.ok.frames,I.ok.mod,I.bs,Nat.le_trans I.ok.nY I.sz,I.stack,I.nj,I.ay,I.bare⟩
theorem Inv.after {Q : VK} {u : Value} (I : Inv X pins σ H s) (h : CE X.stack X.prog X.w H s Q u s') : EP X pins σ Q u s' := by
 obtain ⟨v,H',os,bare,un,ay,r,q⟩:=h
 obtain ⟨hh,g,d,t,os'⟩:=s'
 obtain rfl:os' = s.os:=os
 exact ⟨v,H',I.call (h':=hh) (g':=g) (d':=d) (t':=t) (ch:=[]) un ay bare (fun b z=>absurd z (by simp)),r,q⟩
end
def Cs (sp:Sp) (dvs:List V) (E:XK) (t:TA):TE:=fun σ H Q=>t σ H fun vs H1=>sp (vs ++ dvs) H1 Q E
def Cc (C : Addr) (sp : Sp) (dvs : List V) (E : XK) (t : TA) : TE := fun σ H Q => t σ H fun vs H1 => ∀ x dx, H1 x = none → H1 dx = none → dx ≠ x →
 sp (.ref x :: (vs ++ dvs)) (upd (upd H1 dx (.own x)) x (.ins C dx [])) (fun v H2=>v = .aH∧Q (.ref x) H2) E
def Binds (K : PySem.W.Frag) (fd : FuncData) (ps : List Str) (ds : List Value) : Prop :=
 ∀ (s:Shared) (us:List Value),K.In s.heap→(us ++ ds).length = ps.length→BindsTo s fd ⟨us,[]⟩ (ps.zip (us ++ ds))
theorem Binds.all {K : PySem.W.Frag} {fd : FuncData} {ps : List Str} (h : ∀ us : List Value, us.length = ps.length → bindArgs fd ⟨us, []⟩ = pure (ps.zip us)) : Binds K fd ps [] := fun s us _ hl => by
 rw [List.append_nil] at hl ⊢
 exact .of_eq (h us hl)
def ei (CX:eW) (X:Cx) (E:XK):Prop:=∀ (pins:List (Addr×Obj)) (σ : St) (H:Hp) (s:Shared) (e:Value) (s':Shared),Inv X pins σ H s→CX X.stack H s E e s'→X.xe e s'
section
variable {X:Cx} {CX:eW} {k:Nat} {f C:Addr} {fd:FuncData} {ps:List Str} {sp:Sp} {dvs:List V} {ds:List Value} {E:XK} {x m:Str} {p pos apos:Pos} {e o:Expr} {es:List Expr} {ta:TE} {t:TA}
theorem tD {pins : List (Addr × Obj)} {σ : St} {H : Hp} {s : Shared} {Q : VK} {us : List Value} {vs : List V} (F : ez X.prog X.w X.K X.mg X.base CX k f fd ps sp) (hr : bS k X.A) (hb : Binds X.K fd ps ds) (hd : aP dvs ds) (hx : ei CX X E)
   (I:Inv X pins σ H s) (r:aP vs us) (h:sp (vs ++ dvs) H Q E):wpAny (model X.prog X.w) X.A (call (.ref f) us) (EP X pins σ Q) X.xe s:=by
 have r2:aP (vs ++ dvs) (us ++ ds):=r.append hd
 have hl:(us ++ ds).length = ps.length:=by rw [← r2.length];exact F.len _ _ _ _ h
 refine wpAny_call (codeAny_mono (F.run X.A X.stack s H ⟨us,[]⟩ (us ++ ds) (vs ++ dvs) Q E hr I.Bs (hb s us I.ee hl) r2 h) fun r s' hq=>?_)
 cases r with
 | error e=>exact hx pins σ H s e s' I hq
 | ok fl =>
   cases fl with
   | ret u=>exact I.after hq
   | next=>exact False.elim hq
   | brk=>exact False.elim hq
   | cont=>exact False.elim hq
theorem v_ (F : ez X.prog X.w X.K X.mg X.base CX k f fd ps sp) (hr : bS k X.A) (hg : Gl X x) (hm : X.mg x = some (.ref f)) (hk : PySem.W.keepIn X.K (.ref f) = true) (hb : Binds X.K fd ps ds) (hd : aP dvs ds) (hx : ei CX X E)
   (ha:PA X (e :: es) t) (hdb:(x == ("__debug__" : Str)) = false:=by decide) (he:starEach (e :: es) X.env = (false,eval e X.env) :: starEach es X.env:=by rfl) (hpl:(backTo pos (starEach es X.env)).any (·.1) = false:=by rfl) :
   PE X (.Call (.Name x p) (e :: es) [] pos) (Cs sp dvs E t):=by
 intro pins s σ H Q I h
 refine wpAny_Call_Name_kw (jb I hg hm ?_ hdb)
 refine PySem.W.callWith_K (h₀:=X.base) I.ok.mod.uU hk (a9 (ha pos pins s σ H _ I h) fun us s1 ⟨vs,H1,I1,r,q⟩=>⟨I1.ee,?_⟩) he hpl
 exact tD F hr hb hd hx I1 r q
structure Mk (K : PySem.W.Frag) (C f : Addr) : Prop where
 makes:PySem.W.makesIn K C = true
 init:PySem.W.findIn K (.ref C) "__init__" = some (some (.ref f))
 fn:PySem.W.isFn K (.ref f) = true
 kp:PySem.W.keepIn K (.ref C) = true
theorem Bc {pins : List (Addr × Obj)} {σ : St} {H : Hp} {s : Shared} {Q : VK} {us : List Value} {vs : List V} (M : Mk X.K C f) (F : ez X.prog X.w X.K X.mg X.base CX k f fd ps sp) (hr : bS (k + 1) X.A) (hb : Binds X.K fd ps ds) (hd : aP dvs ds)
   (hx:ei CX X E) (I:Inv X pins σ H s) (r:aP vs us)
   (h:∀ x dx,H x = none→H dx = none→dx ≠ x→sp (.ref x :: (vs ++ dvs)) (upd (upd H dx (.own x)) x (.ins C dx [])) (fun v H2=>v = .aH∧Q (.ref x) H2) E) :
   wpAny (model X.prog X.w) X.A (call (.ref C) us) (EP X pins σ Q) X.xe s:=by
 have hq:=h (s.heap.objs.size + 1) s.heap.objs.size (I.ay.fresh (Nat.le_succ _)) (I.ay.fresh (Nat.le_refl _)) (Nat.ne_of_lt (Nat.lt_succ_self _))
 have I2:=Inv.made (C:=C) I
 have r2:aP (V.ref (s.heap.objs.size + 1) :: (vs ++ dvs)) (Value.ref (s.heap.objs.size + 1) :: (us ++ ds)):=.cons rfl (r.append hd)
 have hl : (Value.ref (s.heap.objs.size + 1) :: us ++ ds).length = ps.length := by
   have e:=r2.length
   rw [F.len _ _ _ _ hq] at e
   exact e.symm
 refine wpAny_call (A6 (f := f) I.ee M.makes M.init (beq_iff_eq.mp M.fn) (codeAny_mono (F.run _ X.stack _ _ ⟨Value.ref (s.heap.objs.size + 1) :: us, []⟩ (Value.ref (s.heap.objs.size + 1) :: (us ++ ds)) _ _ E (hr.make C us [])
   (I2.Bs.make C us []) (hb _ (Value.ref (s.heap.objs.size + 1) :: us) I2.ee hl) r2 hq) fun r s' hq'=>?_))
 cases r with
 | error e=>exact hx pins σ _ _ e s' I2 hq'
 | ok fl =>
   cases fl with
   | ret u =>
     obtain ⟨v,H',I3,rv,ev,q3⟩:=I2.after hq'
     subst ev
     exact ⟨rv,⟨V.ref (s.heap.objs.size + 1),H',I3,rfl,q3⟩⟩
   | next=>exact False.elim hq'
   | brk=>exact False.elim hq'
   | cont=>exact False.elim hq'
theorem Gx (M : Mk X.K C f) (F : ez X.prog X.w X.K X.mg X.base CX k f fd ps sp) (hr : bS (k + 1) X.A) (hg : Gl X x) (hm : X.mg x = some (.ref C)) (hb : Binds X.K fd ps ds) (hd : aP dvs ds) (hx : ei CX X E)
   (ha:PA X (e :: es) t) (hdb:(x == ("__debug__" : Str)) = false:=by decide) (he:starEach (e :: es) X.env = (false,eval e X.env) :: starEach es X.env:=by rfl) (hpl:(backTo pos (starEach es X.env)).any (·.1) = false:=by rfl) :
   PE X (.Call (.Name x p) (e :: es) [] pos) (Cc C sp dvs E t):=by
 intro pins s σ H Q I h
 refine wpAny_Call_Name_kw (jb I hg hm ?_ hdb)
 refine PySem.W.callWith_K (h₀:=X.base) I.ok.mod.uU M.kp (a9 (ha pos pins s σ H _ I h) fun us s1 ⟨vs,H1,I1,r,q⟩=>⟨I1.ee,?_⟩) he hpl
 exact Bc M F hr hb hd hx I1 r q
end
section
variable {X:Cx} {CX:eW} {k:Nat} {f C:Addr} {fd:FuncData} {ps ks:List Str} {sp:Sp} {E:XK} {x m:Str} {p pos apos kpos:Pos} {e o:Expr} {es:List Expr} {kws:List Keyword} {te ta:TE} {t tk:TA} {nm:Option Str}
variable {g:List Value→List Value→List Value} {gV:List V→List V→List V}
end
structure aA (N P : List Str) (sc : Scope) : Prop where
 kind:sc.kind = .function
 co:sc.isCoroutine = false
 gen:sc.isGenerator = false
 nd:N.Nodup
 pre:N.take P.length = P
 par:∀ x ∈ P,sc.names.lookup x = some .local∨sc.names.lookup x = some .cell
 Hw:∀ y ∈ sc.names,y.2 ≠ .free
theorem rX {kindOf : Str → Option NameKind} {x : Str} : ∀ {binds : List (Str × Value)} {m : Str → Option Value}, (∀ v, (x, v) ∉ binds) → bindL kindOf binds m x = m x
 | [],_,_=>rfl
 | (n, v) :: r, m, h => by
   unfold bindL
   rw [rX fun w hw=>h w (List.mem_cons_of_mem _ hw)]
   split
   · have : x ≠ n := by rintro rfl; exact h v List.mem_cons_self
     simp [this]
   · rfl
theorem rZ {kindOf : Str → Option NameKind} {x : Str} : ∀ {binds : List (Str × Value)} {m : Str → Option Value}, (∀ v, (x, v) ∉ binds) → bindC kindOf binds m x = m x
 | [],_,_=>rfl
 | (n, v) :: r, m, h => by
   unfold bindC
   rw [rZ fun w hw=>h w (List.mem_cons_of_mem _ hw)]
   split
   · rfl
   · have : x ≠ n := by rintro rfl; exact h v List.mem_cons_self
     simp [this]
theorem rR {kindOf : Str → Option NameKind} {x : Str} {v : Value} : ∀ {P : List Str} {vs : List Value} {i : Nat} {m : Str → Option Value}, P.Nodup → P[i]? = some x → vs[i]? = some v → kindOf x = some .local →
   bindL kindOf (P.zip vs) m x = some v
 | [],_,_,_,_,h,_,_=>by simp at h
 | _ :: _,[],_,_,_,_,h,_=>by simp at h
 | p :: P, w :: vs, 0, m, nd, h1, h2, hk => by
   simp at h1 h2;subst h1;subst h2
   show bindL kindOf ((p,w) :: P.zip vs) m p = _
   unfold bindL
   rw [rX fun v hv=>(List.nodup_cons.mp nd).1 (List.of_mem_zip hv).1,if_pos hk]
   simp
 | p :: P, w :: vs, i + 1, m, nd, h1, h2, hk => by
   show bindL kindOf ((p,w) :: P.zip vs) m x = _
   unfold bindL
   exact rR (i:=i) (List.nodup_cons.mp nd).2 (by simpa using h1) (by simpa using h2) hk
theorem r6 {kindOf : Str → Option NameKind} {x : Str} {v : Value} : ∀ {P : List Str} {vs : List Value} {i : Nat} {m : Str → Option Value}, P.Nodup → P[i]? = some x → vs[i]? = some v → kindOf x ≠ some .local →
   bindC kindOf (P.zip vs) m x = some v
 | [],_,_,_,_,h,_,_=>by simp at h
 | _ :: _,[],_,_,_,_,h,_=>by simp at h
 | p :: P, w :: vs, 0, m, nd, h1, h2, hk => by
   simp at h1 h2;subst h1;subst h2
   show bindC kindOf ((p,w) :: P.zip vs) m p = _
   unfold bindC
   rw [rZ fun v hv=>(List.nodup_cons.mp nd).1 (List.of_mem_zip hv).1,if_neg hk]
   simp
 | p :: P, w :: vs, i + 1, m, nd, h1, h2, hk => by
   show bindC kindOf ((p,w) :: P.zip vs) m x = _
   unfold bindC
   exact r6 (i:=i) (List.nodup_cons.mp nd).2 (by simpa using h1) (by simpa using h2) hk
def start (N:List Str) (vs:List V):St:=vs.map some ++ List.replicate (N.length - vs.length) none
def fN (CX : eW) (P : Program) (w : World) (K : PySem.W.Frag) (mg : Str → Option Value) (base : Heap) (N : List Str) (qual : Str) (scope : Scope) (f : Addr) (cd : Value) (A : Around) (outer : List Env) (s : Shared) (H : Hp) (E : XK) : Cx where
 prog:=P
 w:=w
 K:=K
 mg:=mg
 base:=base
 A:=A.deeper (envOfC qual scope s.heap.objs.size f cd)
 N:=N
 s₀:=s
 H₀:=H
 env:=envOfC qual scope s.heap.objs.size f cd
 outer:=outer
 stack:=envOfC qual scope s.heap.objs.size f cd :: outer
 ex:=[]
 calm:=true
 fn:=fun _=>true
 pn:=[]
 xe:=fun e s'=>wpAny (model P w) (A.deeper (envOfC qual scope s.heap.objs.size f cd)) (leaving (envOfC qual scope s.heap.objs.size f cd) e) (fun _ s''=>CX outer H s E e s'') (fun e' s''=>CX outer H s E e' s'') s'
theorem vp {sc : Scope} {n : Nat} {x : Str} (h : sc.names.lookup x = some .cell) : ∃ c, (cellsFrom n sc.names []).lookup x = some c := by
 have q:=PySem.W.cellsFrom_some sc.names n [] (.inl h)
 exact Option.isSome_iff_exists.mp q
theorem yP {CX : eW} {P : Program} {w : World} {K : PySem.W.Frag} {mg : Str → Option Value} {base : Heap} {N ps : List Str} {qual : Str} {scope : Scope} {f : Addr} {cd : Value} {A : Around} {outer : List Env} {s s1 : Shared} {H : Hp} {E : XK} {us : List Value} {vs : List V}
   (S:aA N ps scope) (hd:A.handled = none) (e0:oy P w K mg base A outer s H) (hl:vs.length = ps.length) (r:aP vs us)
   (x:InCallC s s.heap.objs.size (bindL (envOfC qual scope s.heap.objs.size f cd).kindOf (ps.zip us) fun _=>none) (cellsFrom (s.heap.objs.size + 1) scope.names []) (bindC (envOfC qual scope s.heap.objs.size f cd).kindOf (ps.zip us) fun _=>none) s1) :
   Inv (fN CX P w K mg base N qual scope f cd A outer s H E) [] (start N vs) H s1:=by
 have hpl:ps.length ≤ N.length:=by have:=congrArg List.length S.pre;rw [List.length_take] at this;omega
 obtain ⟨h1,tk,rfl,hk⟩:=x.done
 have noA:∀ b:Addr,b ∉ (fN CX P w K mg base N qual scope f cd A outer s H E).ex:=fun b z=>absurd (show b ∈ ([]:List Addr) from z) (by simp)
 refine ⟨⟨e0.mod, S.kind, rfl, rfl, Nat.le_refl _, fun y z c h1 h2 => ?_, fun y hy => ?_, fun y c _ h => ?_, fun _ => hd, Around.frames_deeper e0.frames, .inr ⟨rfl, rfl⟩, fun b z => absurd z (noA b), e0.bs, e0.nY, fun b _ _ => noA b, fun b z => absurd z (noA b), e0.gH, e0.pI⟩,
   rfl,e0.bare,Un.kept hk,⟨_,x.toInCall.ns,fun i y v h1 h2 h3=>?_⟩,fun y c h=>⟨_,x.cell y c h⟩,e0.ay.fresh (Nat.le_refl _),fun y c h=>?_,fun p hp=>absurd (show p ∈ ([]:List (Addr×Obj)) from hp) (by simp),e0.ay.kept hk,?_⟩
 · exact name_of_addr x.apart (PySem.mem_of_lookup h1) (PySem.mem_of_lookup h2)
 · have hy : scope.names.lookup y = some .cell ∨ scope.names.lookup y = some .free := hy
   rcases hy with hy | hy
   · exact vp hy
   · exact absurd rfl (S.Hw _ (PySem.mem_of_lookup hy))
 · exact Nat.le_of_lt (x.above y c (PySem.mem_of_lookup h))
 · have hi : i < vs.length := by
     unfold start at h2
     by_cases hi:i < vs.length
     · exact hi
     · rw [List.getElem?_append_right (by simpa using hi)] at h2
       rw [List.getElem?_replicate] at h2
       split at h2 <;> cases h2
   have ha : vs[i]? = some v := by
     unfold start at h2
     rw [List.getElem?_append_left (by simpa using hi),List.getElem?_map] at h2
     cases e:vs[i]? with
     | none=>rw [e] at h2;cases h2
     | some a=>rw [e] at h2;cases h2;rfl
   obtain ⟨u,hu,rv⟩:=r.get ha
   have hp : ps[i]? = some y := by
     rw [← S.pre,List.getElem?_take_of_lt (by omega)];exact h1
   have ndP:ps.Nodup:=by rw [← S.pre];exact S.nd.sublist (List.take_sublist _ _)
   refine ⟨u,rv,?_⟩
   rcases S.par y (List.mem_of_getElem? hp) with k | k
   · exact .inl ⟨k,rR ndP hp hu k⟩
   · obtain ⟨c, e⟩ := vp (n := s.heap.objs.size + 1) k
     refine .inr ⟨.inl k,c,e,?_⟩
     have q:=x.cell y c e
     rw [r6 ndP hp hu (by show scope.names.lookup y ≠ _;rw [k];decide)] at q
     exact q
 · exact e0.ay.fresh (Nat.le_of_lt (x.above y c (PySem.mem_of_lookup h)))
 · unfold start
   show _ = N.length
   rw [List.length_append,List.length_map,List.length_replicate]
   omega
theorem tf {CX : eW} {P : Program} {w : World} {K : PySem.W.Frag} {mg : Str → Option Value} {base : Heap} {k : Nat} {f : Addr} {name qual : Str} {params : Arguments} {body : List Stmt} {scope : Scope} {dV kV doc pm cdv ct oc : Value} {an od : Option Addr}
   {osl:Array (Option Value)} {N ps:List Str} {sp:Sp} (lk:K.lookup f = some ⟨oc,od,.func (PySem.W.fnOf name qual params body scope dV kV doc pm an cdv ct),osl⟩) (hcd:PySem.W.codeIn K cdv qual = true) (S:aA N ps scope)
   (len:∀ vs H Q E,sp vs H Q E→vs.length = ps.length)
   (hbody : ∀ (A : Around) (outer : List Env) (s : Shared) (H : Hp) (vs : List V) (Q : VK) (E : XK), bS k (A.deeper (envOfC qual scope s.heap.objs.size f cdv)) → sp vs H Q E →
     ∃ t,iO (fN CX P w K mg base N qual scope f cdv A outer s H E) body t∧t { nx:=fun _ H'=>Q .aH H',rt:=Q } (start N vs) H) :
   ez P w K mg base CX (k + 1) f (PySem.W.fnOf name qual params body scope dV kV doc pm an cdv ct) ps sp:=by
 refine ⟨len,fun A outer s H args us vs Q E hr e0 hb r hsp=>?_⟩
 have hl:=len _ _ _ _ hsp
 have KX:K.In s.heap:=e0.mod.uU.keeps fun b o e=>(e0.bs b o e).1
 have lim:s.heap.NoLimit:=e0.mod.nolimit.keeps fun b o e=>(e0.bs b o e).1
 have hkind : ∀ y ∈ ps.zip us, scope.names.lookup y.1 = some .local ∨ (scope.names.lookup y.1 = some .cell ∧ ((cellsFrom (s.heap.objs.size + 1) scope.names []).lookup y.1).isSome = true) := fun ⟨n, v⟩ hy => by
   rcases S.par n (List.of_mem_zip hy).1 with q | q
   · exact .inl q
   · exact .inr ⟨q,PySem.W.cellsFrom_some _ _ _ (.inl q)⟩
 refine codeAny_call_function hr.depth (KX _ _ lk) rfl S.co S.gen rfl (PySem.W.codeRec_of KX hcd) (hb _ _ _ _ ?_)
 refine wpAny_newFunctionEnv_cells S.kind hkind fun env he s1 x=>?_
 subst he
 refine ⟨lim.keeps x.toInCall.keep,codeAny_func ?_⟩
 obtain ⟨t,ht,hq⟩:=hbody A outer s H vs Q E (hr.deeper _) hsp
 have I:Inv (fN CX P w K mg base N qual scope f cdv A outer s H E) [] (start N vs) H s1:=yP S hr.hd e0 hl r x
 refine wpAny_mono (ht [] s1 (start N vs) H _ I hq) (fun fl s' hs=>?_) fun e s' hs=>hs
 have fin : ∀ {σ' : St} {H' : Hp} {v : V} {u : Value}, Inv (fN CX P w K mg base N qual scope f cdv A outer s H E) [] σ' H' s' → RelV v u → Q v H' → CE outer P w H s Q u s' :=
   fun {σ' H' v u} J rv q=>⟨v,H',J.os,J.bare,J.base,J.ay,rv,q⟩
 cases fl with
 | ret u =>
   obtain ⟨v,σ',H',J,rv,q⟩:=hs
   exact fin J rv q
 | next =>
   obtain ⟨σ',H',J,q⟩:=hs
   exact fin (v:=V.aH) (u:=Value.none) J rfl q
 | brk =>
   obtain ⟨_,_,_,q⟩:=hs
   exact False.elim q
 | cont =>
   obtain ⟨_,_,_,q⟩:=hs
   exact False.elim q
end L2
namespace L2
open PySem PySem.Spec PyProof.Rows
section
variable {X:Cx} {x:Str} {p pos:Pos} {e:Expr} {es:List Expr} {t:TA} {id T:String} {r:List V→Hp→VK→Prop}
def sm (r:List V→Hp→VK→Prop) (t:TA):TE:=fun σ H Q=>t σ H fun vs H1=>r vs H1 Q
theorem aT (hc : cJ X (.builtin id) r) (hg : Gl X x) (hm : X.mg x = none) (hv : bootBuiltins x = some (.builtin id)) (ha : PA X (e :: es) t) (hn : x ≠ "__name__" := by decide) (hdb : (x == ("__debug__" : Str)) = false := by decide)
   (he:starEach (e :: es) X.env = (false,eval e X.env) :: starEach es X.env:=by rfl) (hpl:(backTo pos (starEach es X.env)).any (·.1) = false:=by rfl):PE X (.Call (.Name x p) (e :: es) [] pos) (sm r t):=by
 intro pins s σ H Q I h
 refine wpAny_Call_Name_kw (jh I hg hm hv ?_ hn hdb)
 exact PyProof.Rows.callWith_builtin1 (a9 (ha pos pins s σ H _ I h) fun us s1 ⟨vs,H1,I1,r1,q1⟩=>hc pins s1 σ H1 vs us Q I1 r1 q1) he hpl
theorem fq (hc : cJ X (.type T) r) (hg : Gl X x) (hm : X.mg x = none) (hv : bootBuiltins x = some (.type T)) (ha : PA X (e :: es) t) (hn : x ≠ "__name__" := by decide) (hdb : (x == ("__debug__" : Str)) = false := by decide)
   (he:starEach (e :: es) X.env = (false,eval e X.env) :: starEach es X.env:=by rfl) (hpl:(backTo pos (starEach es X.env)).any (·.1) = false:=by rfl):PE X (.Call (.Name x p) (e :: es) [] pos) (sm r t):=by
 intro pins s σ H Q I h
 refine wpAny_Call_Name_kw (jh I hg hm hv ?_ hn hdb)
 exact PyProof.Rows.callWith_type1 (a9 (ha pos pins s σ H _ I h) fun us s1 ⟨vs,H1,I1,r1,q1⟩=>hc pins s1 σ H1 vs us Q I1 r1 q1) he hpl
end
end L2
namespace HT
open PySem PyProof.Rows
section
open PySem.SeqAt
open PySem.AutoSeq1 (wpAny_loadPart')
open PySem.MeetsSeq PySem.MeetsSeq2 PySem.MeetsSeq3
end
section
variable {prog:Program} {w:World} {A:Around} {E:Value→Shared→Prop} {s:Shared}
theorem F1 {t b : Addr} {vs ws : List Value} {Q : Value → Shared → Prop} (ht : IsTup s.heap t vs.toArray) (hb : IsTup s.heap b ws.toArray) (hv : vs ≠ [])
   (h1:ws = []→Q (.ref t) s) (h2:ws ≠ []→Q (.ref s.heap.objs.size) { s with heap:=s.heap.push { cls:=.type "tuple",data:=.seq (vs ++ ws).toArray } })
   (hsz:vs.length + ws.length ≤ sizeLine):wpAny (model prog w) A (binaryOp .Add (.ref t) (.ref b)) Q E s:=by
 obtain ⟨⟨cls,dd,data,sl⟩,ho,hc,n,hd⟩:=id ht
 obtain ⟨⟨cls2,dd2,data2,sl2⟩,ho2,hc2,n2,hd2⟩:=id hb
 simp only at hc hd hc2 hd2
 subst hc hd hc2 hd2
 have e:vs.toArray ++ ws.toArray = (vs ++ ws).toArray:=by simp
 by_cases hw:ws = []
 · exact concat_meets ⟨_, ho, rfl⟩ ⟨_, ho2, rfl⟩ noFill_tuple_add seq_tuple_add PySem.F.slot_tuple_add PySem.F.entry_tuple_add (PySem.F.args_tuple_add_2 _ _)
     (tuple_addW1 t b vs.toArray ws.toArray n n2 dd dd2 sl sl2 (by simpa using hv) (by simp [hw])) ⟨ho,ho2,h1 hw⟩
 · refine concat_meets ⟨_, ho, rfl⟩ ⟨_, ho2, rfl⟩ noFill_tuple_add seq_tuple_add PySem.F.slot_tuple_add PySem.F.entry_tuple_add (PySem.F.args_tuple_add_2 _ _)
     (tuple_addW2 t b vs.toArray ws.toArray n n2 dd dd2 sl sl2 (by simpa using hv) (by simpa using hw) (by rw [List.size_toArray,List.size_toArray];exact hsz)) ⟨ho,ho2,?_⟩
   rw [e]
   exact h2 hw
def bB (n d : Nat) : Option Int → Nat
 | none=>d
 | some v=>if v < 0 then (v + (n:Int)).toNat else min v.toNat n
theorem wm (n d k : Nat) : bB n d (some (k : Int)) = min k n := by
 show (if (k:Int) < 0 then ((k:Int) + (n:Int)).toNat else min (k:Int).toNat n) = min k n
 rw [if_neg (by omega),Int.toNat_natCast]
theorem KC (n d : Nat) (hd : d ≤ n) (o : Option Int) : bB n d o ≤ n := by
 cases o with
 | none=>exact hd
 | some v =>
   show (if v < 0 then (v + (n:Int)).toNat else min v.toNat n) ≤ n
   by_cases hv:v < 0
   · rw [if_pos hv];omega
   · rw [if_neg hv];exact Nat.min_le_right _ _
theorem wj (v : Int) (n d : Nat) : (if v < 0 then max (v + (n : Int)) 0 else min v (n : Int)) = ((bB n d (some v) : Nat) : Int) := by
 show (if v < 0 then max (v + (n:Int)) 0 else min v (n:Int)) = (((if v < 0 then (v + (n:Int)).toNat else min v.toNat n):Nat):Int)
 by_cases hv:v < 0
 · simp only [if_pos hv];omega
 · simp only [if_neg hv];omega
theorem xI (lo hi : Option Int) (n : Nat) : Builtin.Slice.sliceAdjust lo hi 1 (n : Int) = (((bB n 0 lo : Nat) : Int), ((bB n n hi : Nat) : Int)) := by
 have h1 : ¬ ((1:Int) < 0):=by omega
 unfold Builtin.Slice.sliceAdjust
 simp only [h1,if_false]
 refine Prod.ext ?_ ?_
 · cases lo with
   | none=>rfl
   | some v=>exact wj v n 0
 · cases hi with
   | none=>rfl
   | some v=>exact wj v n n
theorem wW (i j : Nat) : Builtin.Slice.slicePlaces (i : Int) (j : Int) 1 = j - i := by
 unfold Builtin.Slice.slicePlaces
 have h1:(1:Int) > 0:=by omega
 simp only [h1,if_true,Int.ediv_one]
 split <;> omega
theorem pD {v : Value} {o : Option Int} {Q : Option Int → Shared → Prop} (p : IsPart v o) (h : Q o s) : wpAny (model prog w) A (Builtin.Slice.slicePartIndex v) Q E s := by
 cases p with
 | none=>exact slicePart_none h
 | int i t=>exact slicePart_int h
theorem oj {sl : Addr} {vl vu : Value} {lo hi : Option Int} {n : Nat} {Q : Int × Int × Nat → Shared → Prop} (hs : s.heap.IsSliceOf sl vl vu .none) (pl : IsPart vl lo) (pu : IsPart vu hi)
   (h:Q (((bB n 0 lo:Nat):Int),1,bB n n hi - bB n 0 lo) s):wpAny (model prog w) A (Builtin.Slice.sliceApplied (.ref sl) (pure (n:Int))) Q E s:=by
 obtain ⟨os,hos,hcs,hds⟩:=id hs
 unfold Builtin.Slice.sliceApplied Builtin.Slice.sliceFields
 refine wpAny_bind (wpAny_bind (wpAny_field hos hds (x:=vl) rfl (wpAny_bind (wpAny_field hos hds (x:=vu) rfl (wpAny_bind (wpAny_field hos hds (x:=.none) rfl (wpAny_pure ?_)))))))
 refine wpAny_bind (slicePart_none ?_)
 show wpAny _ _ (if ((1:Int) == 0) = true then _ else _) _ _ s
 rw [if_neg (by decide)]
 refine wpAny_bind (pD pl (wpAny_bind (pD pu (wpAny_bind (wpAny_pure ?_)))))
 show wpAny _ _ (match Builtin.Slice.sliceAdjust lo hi 1 (n:Int) with | (lo,hi)=>pure (lo,(1:Int),Builtin.Slice.slicePlaces lo hi 1)) _ _ s
 rw [xI lo hi n]
 show wpAny _ _ (pure (((bB n 0 lo:Nat):Int),(1:Int),Builtin.Slice.slicePlaces ((bB n 0 lo:Nat):Int) ((bB n n hi:Nat):Int) 1)) _ _ s
 rw [wW]
 exact wpAny_pure h
theorem Bf (xs : Array Value) (i k : Nat) : ((List.range k).filterMap fun (m : Nat) => xs[((i : Int) + (m : Int) * 1).toNat]?).toArray = ((xs.toList.drop i).take k).toArray := by
 have e : (fun (m : Nat) => xs[((i : Int) + (m : Int) * 1).toNat]?) = fun m => xs[i + m]? := by
   funext m
   have:((i:Int) + (m:Int) * 1).toNat = i + m:=by omega
   rw [this]
 rw [e]
 have:=pick_run xs i k
 rw [List.filterMap_map] at this
 have e2:((fun x=>xs[x]?) ∘ fun x=>i + x) = fun m=>xs[i + m]?:=rfl
 rw [e2] at this
 rw [this]
theorem nF {t sl : Addr} {items : Array Value} {vl vu : Value} {lo hi : Option Int} {Q : Value → Shared → Prop} (ht : IsTup s.heap t items) (hs : s.heap.IsSliceOf sl vl vu .none) (pl : IsPart vl lo) (pu : IsPart vu hi)
   (hw : ¬ (bB items.size 0 lo = 0∧bB items.size items.size hi = items.size))
   (h:Q (.ref s.heap.objs.size) { s with heap:=s.heap.push { cls:=.type "tuple",data:=.seq ((items.toList.drop (bB items.size 0 lo)).take (bB items.size items.size hi - bB items.size 0 lo)).toArray } })
   (hsz:items.size ≤ sizeLine):wpAny (model prog w) A (getItem (.ref t) (.ref sl)) Q E s:=by
 have htake : sizeOk (.seq ((items.toList.drop (bB items.size 0 lo)).take (bB items.size items.size hi - bB items.size 0 lo)).toArray) := by
   show ((items.toList.drop (bB items.size 0 lo)).take (bB items.size items.size hi - bB items.size 0 lo)).toArray.size ≤ sizeLine
   rw [List.size_toArray,List.length_take,List.length_drop,Array.length_toList]
   omega
 have hj:bB items.size items.size hi ≤ items.size:=KC _ _ (Nat.le_refl _) hi
 obtain ⟨os,hos,hcs,hds⟩:=id hs
 have hTs:s.TypeIs (.ref sl) "slice":=⟨os,hos,hcs⟩
 unfold getItem
 try with_reducible refine wpAny_holding ?_
 first | refine wpAny_bind (wpAny_pure ?_) | skip
 refine wpAny_bind (wpAny_sequenceKey ht.typeIs (by decide) ?_)
 refine wpAny_bind (wpAny_callSpecial?_slot (name := Str.ofString "__getitem__") ht.typeIs PyProof.Rows.slot_tuple_getitem
   (wpAny_call_entry PyProof.Rows.slot_tuple_getitem ht.typeIs entry_tuple_getitem ?_ (args_tuple_getitem _ _)))
 show wpAny _ _ (Builtin.Tuple.tupleItemsOf (.ref t) >>= _) _ _ s
 refine wpAny_bind (tupleItemsOf_ ht ?_)
 refine wpAny_bind (wpAny_typeOf hTs ?_)
 rw [if_pos (by decide)]
 refine wpAny_bind (oj hs pl pu ?_)
 have hno : ¬ ((((bB items.size 0 lo : Nat) : Int) == 0 && (1 : Int) == 1 && (bB items.size items.size hi - bB items.size 0 lo) == items.size) = true) := by
   intro q
   rw [Bool.and_eq_true,Bool.and_eq_true] at q
   have q1:((bB items.size 0 lo:Nat):Int) = 0:=eq_of_beq q.1.1
   have q2:bB items.size items.size hi - bB items.size 0 lo = items.size:=eq_of_beq q.2
   exact hw ⟨by omega,by omega⟩
 show wpAny _ _ (if (((bB items.size 0 lo:Nat):Int) == 0 && (1:Int) == 1 && (bB items.size items.size hi - bB items.size 0 lo) == items.size) = true then _ else _) _ _ s
 rw [if_neg hno,Bf]
 first
   | exact wpAny_bind (m:=Builtin.Tuple.tupleExact _) (wpAny_newObj_type (wpAny_pure ⟨_,rfl,wpAny_pure h⟩) htake)
   | exact wpAny_bind (m:=Builtin.Tuple.tupleExact _) (wpAny_newObj_type (wpAny_bind (wpAny_pure (wpAny_pure ⟨_,rfl,wpAny_pure h⟩))) htake)
   | exact wpAny_bind (wpAny_bind (m:=Builtin.Tuple.tupleExact _) (wpAny_newObj_type (wpAny_pure (wpAny_pure ⟨_,rfl,wpAny_pure h⟩)) htake))
   | exact wpAny_bind (wpAny_bind (m:=Builtin.Tuple.tupleExact _) (wpAny_newObj_type (wpAny_pure ⟨_,rfl,wpAny_pure h⟩) htake))
end
end HT
namespace L2
open PySem PySem.Spec PyProof.Rows
abbrev TO:=St→Hp→(Option Int→Hp→Prop)→Prop
def PO (X : Cx) (e : Option Expr) (t : TO) : Prop :=
 ∀ (pins : List (Addr × Obj)) (s : Shared) (σ : St) (H : Hp) (Q : Option Int → Hp → Prop), Inv X pins σ H s → t σ H Q →
   wpAny (model X.prog X.w) X.A (evalPart e X.env) (fun u s'=>∃ o H',Inv X pins σ H' s'∧IsPart u o∧Q o H') X.xe s
def CD (t:TE):TO:=fun σ H Q=>t σ H fun x H1=>∃ i,x = .int i∧Q (some i) H1
section
variable {X:Cx} {e:Expr} {te:TE} {lo hi:Option Expr} {tl th:TO} {pos p2:Pos}
theorem wz (h : PE X e te) : PO X (some e) (CD te) := by
 intro pins s σ H Q I hw
 rw [evalPart_some]
 refine a9 (h pins s σ H _ I hw) fun u s1 ⟨x,H1,I1,r1,q1⟩=>?_
 obtain ⟨i,rfl,q⟩:=q1
 obtain ⟨t,rfl⟩:=r1
 exact ⟨some i,H1,I1,.int i t,q⟩
def pB (X : Cx) (r : V → Option Int → Option Int → Hp → VK → Prop) : Prop :=
 ∀ (pins : List (Addr × Obj)) (s : Shared) (σ : St) (H : Hp) (x : V) (v vl vu : Value) (lo hi : Option Int) (sl : Addr) (Q : VK), Inv X pins σ H s → RelV x v → s.heap.IsSliceOf sl vl vu .none → IsPart vl lo → IsPart vu hi → r x lo hi H Q →
   ∃ T id,typeLookup (.type T) "__getitem__" = pure (some (.builtin id))∧s.TypeIs v T∧wpAny (model X.prog X.w) X.A (getItem v (.ref sl)) (EP X pins σ Q) X.xe s
theorem pB.or {r r' : V → Option Int → Option Int → Hp → VK → Prop} (h : pB X r) (h' : pB X r') : pB X (fun x lo hi H Q => r x lo hi H Q ∨ r' x lo hi H Q) := by
 intro pins s σ H x v vl vu lo hi sl Q I rx hs pl pu q
 rcases q with q | q
 · exact h pins s σ H x v vl vu lo hi sl Q I rx hs pl pu q
 · exact h' pins s σ H x v vl vu lo hi sl Q I rx hs pl pu q
def LS (r:V→Option Int→Option Int→Hp→VK→Prop) (te:TE) (tl th:TO):TE:=fun σ H Q=>te σ H fun x H1=>tl σ H1 fun l H2=>th σ H2 fun u H3=>r x l u H3 Q
theorem By {r : V → Option Int → Option Int → Hp → VK → Prop} (hr : pB X r) (he : PE X e te) (hl : PO X lo tl) (hu : PO X hi th) : PE X (.Subscript e (.Slice lo hi none p2) pos) (LS r te tl th) := by
 intro pins s σ H Q I h
 refine Subscript_ (a9 (he pins s σ H _ I h) fun v s1 ⟨x,H1,I1,r1,q1⟩=>?_)
 refine wpAny_Slice (a9 (hl pins s1 σ H1 _ I1 q1) fun vl s2 ⟨l,H2,I2,pl,q2⟩=>a9 (hu pins s2 σ H2 _ I2 q2) fun vu s3 ⟨u,H3,I3,pu,q3⟩=>?_)
 rw [evalPart_none]
 refine wpAny_pure ?_
 have I4:Inv X pins σ H3 { s3 with heap:=s3.heap.push { cls:=.type "slice",data:=.fields #[vl,vu,.none] } }:=I3.kept (t':=s3.toks) fun b ob q=>Heap.get?_push_of_some _ q
 obtain ⟨T,id,hT,ht,hg⟩:=hr pins { s3 with heap:=s3.heap.push { cls:=.type "slice",data:=.fields #[vl,vu,.none] } } σ H3 x v vl vu l u s3.heap.objs.size Q I4 r1 (Heap.IsSliceOf.new ..) pl pu q3
 show wpAny (model X.prog X.w) X.A (subscriptTail e (.Slice lo hi none p2) v (.ref s3.heap.objs.size)) (EP X pins σ Q) X.xe { s3 with heap:=s3.heap.push { cls:=.type "slice",data:=.fields #[vl,vu,.none] } }
 exact tail_any (ops:=[.ref s3.heap.objs.size,v]) ht hT hg (by with_unfolding_all rfl)
def kZ (xs:List V) (lo hi:Option Int):List V:=(xs.drop (HT.bB xs.length 0 lo)).take (HT.bB xs.length xs.length hi - HT.bB xs.length 0 lo)
theorem nK (xs : List V) (lo hi : Option Int) : (kZ xs lo hi).length ≤ xs.length := by
 unfold kZ
 rw [List.length_take,List.length_drop]
 omega
def Ib (K : PySem.W.Frag) : V → Option Int → Option Int → Hp → VK → Prop := fun x lo hi H Q => ∃ a xs, x = .ref a ∧ aW K H a xs ∧
 ¬ (HT.bB xs.length 0 lo = 0∧HT.bB xs.length xs.length hi = xs.length)∧∀ p,H p = none→Q (.ref p) (upd H p (.tup (kZ xs lo hi)))
theorem IG : pB X (Ib X.K) := by
 intro pins s σ H x v vl vu lo hi sl Q I rx hs pl pu h
 obtain ⟨a,xs,rfl,hx,hw,q⟩:=h
 cases rx
 obtain ⟨its,r,ht,hz⟩:=I.tuple hx
 have hlen:its.toArray.size = xs.length:=by rw [List.size_toArray];exact r.length.symm
 refine ⟨"tuple",_,PyProof.Rows.slot_tuple_getitem.lookup,ht.typeIs,?_⟩
 refine HT.nF ht hs pl pu (by rw [hlen];exact hw) ?_ (by rw [hlen];exact hz)
 rw [hlen]
 refine ⟨.ref s.heap.objs.size,_,I.laid (t':=s.toks) (o:=.tup (kZ xs lo hi)) (fun b ob q=>Heap.get?_push_of_some _ q) (Nat.le_refl _) ?_,rfl,q _ (I.ay.fresh (Nat.le_refl _))⟩
 exact ⟨Nat.le_trans (nK xs lo hi) hz,_,(r.drop (HT.bB xs.length 0 lo)).take (HT.bB xs.length xs.length hi - HT.bB xs.length 0 lo),IsTup.new _ _⟩
def En (K : PySem.W.Frag) : R2 := fun x y H Q => ∃ a b xs ys, x = .ref a ∧ y = .ref b ∧ aW K H a xs ∧ aW K H b ys ∧ xs ≠ [] ∧ xs.length + ys.length ≤ sizeLine ∧
 (ys = []→Q (.ref a) H)∧(ys ≠ []→∀ p,H p = none→Q (.ref p) (upd H p (.tup (xs ++ ys))))
theorem aP.qX {xs : List V} {us : List Value} (r : aP xs us) : us = [] ↔ xs = [] := by
 cases r with
 | nil=>simp
 | cons _ _=>simp
theorem FA : bJ X (binaryOp .Add) (En X.K) := by
 intro pins s σ H x y v u Q I rx ry h
 obtain ⟨a,b,xs,ys,rfl,rfl,ha,hb,hx,hz,q1,q2⟩:=h
 cases rx
 cases ry
 obtain ⟨its,r1,p1,_⟩:=I.tuple ha
 obtain ⟨its2,r2,p2,_⟩:=I.tuple hb
 refine HT.F1 p1 p2 (fun z=>hx (r1.qX.mp z)) (fun z=>⟨.ref a,H,I,rfl,q1 (r2.qX.mp z)⟩) (fun z=>?_) (by rw [← r1.length,← r2.length];exact hz)
 refine ⟨.ref s.heap.objs.size,_,I.laid (t':=s.toks) (o:=.tup (xs ++ ys)) (fun b ob q=>Heap.get?_push_of_some _ q) (Nat.le_refl _) ?_,rfl,q2 (fun w=>z (r2.qX.mpr w)) _ (I.ay.fresh (Nat.le_refl _))⟩
 exact ⟨by rw [List.length_append];exact hz,_,r1.append r2,IsTup.new _ _⟩
end
end L2
namespace L2
open PySem PySem.Spec PyProof.Rows
def nJ (n:Nat) (i:Int):Option Nat:=if 0 ≤ i then (if i < n then some i.toNat else none) else if -(n:Int) ≤ i then some (i + n).toNat else none
def cD {α : Type} (xs:List α) (i:Int):Option α:=(nJ xs.length i).bind fun j=>xs[j]?
theorem vU {n : Nat} {i : Int} {j : Nat} (h : nJ n i = some j) : seqIndex? i n = some j ∧ j < n ∧ -(n : Int) ≤ i ∧ i < n := by
 unfold nJ at h
 by_cases h0 : 0 ≤ i
 · rw [if_pos h0] at h
   by_cases h1:i < n
   · rw [if_pos h1] at h
     have e:i.toNat = j:=Option.some.inj h
     exact ⟨by rw [seqIndex_of h0 h1,e],by omega,by omega,h1⟩
   · rw [if_neg h1] at h;cases h
 · rw [if_neg h0] at h
   by_cases h1 : -(n:Int) ≤ i
   · rw [if_pos h1] at h
     have e:(i + n).toNat = j:=Option.some.inj h
     exact ⟨by rw [seqIndex_neg (by omega) h1,e],by omega,h1,by omega⟩
   · rw [if_neg h1] at h;cases h
theorem qh {α : Type} {xs : List α} {i : Int} {v : α} (h : cD xs i = some v) : ∃ j, seqIndex? i xs.length = some j ∧ xs[j]? = some v ∧ j < xs.length ∧ -(xs.length : Int) ≤ i ∧ i < xs.length := by
 unfold cD at h
 cases e:nJ xs.length i with
 | none=>rw [e] at h;cases h
 | some j =>
   rw [e] at h
   obtain ⟨h1,h2,h3,h4⟩:=vU e
   exact ⟨j,h1,h,h2,h3,h4⟩
theorem bL {α : Type} {xs : List α} {j : Nat} {v : α} (h : xs[j]? = some v) : cD xs (j : Int) = some v := by
 have hj:j < xs.length:=(List.getElem?_eq_some_iff.mp h).1
 have e : nJ xs.length (j : Int) = some j := by
   unfold nJ
   rw [if_pos (by omega),if_pos (by omega)];simp
 unfold cD;rw [e];exact h
def F3 (b:Expr):Prop:=∀ o i,subscripted b false o i = operate [o,i] (getItem o i)
def lH (X : Cx) (r : R2) : Prop :=
 ∀ (value slice : Expr) (pins : List (Addr × Obj)) (s : Shared) (σ : St) (H : Hp) (x y : V) (v u : Value) (Q : VK), Inv X pins σ H s → RelV x v → RelV y u → r x y H Q →
   subscripted slice false v u = operate [v,u] (getItem v u)→wpAny (model X.prog X.w) X.A (subscriptTail value slice v u) (EP X pins σ Q) X.xe s
def yl (X : Cx) (id : String) (r : V → List V → Hp → VK → Prop) : Prop :=
 ∀ (pins : List (Addr × Obj)) (s : Shared) (σ : St) (H : Hp) (x : V) (xs : List V) (v : Value) (us : List Value) (Q : VK), Inv X pins σ H s → RelV x v → aP xs us → r x xs H Q →
   wpAny (model X.prog X.w) X.A (call (.builtin id) (v :: us)) (EP X pins σ Q) X.xe s
section
variable {X:Cx} {a b:Expr} {ta tb:TE} {pos:Pos}
theorem lH.or {r r' : R2} (h : lH X r) (h' : lH X r') : lH X (fun x y H Q => r x y H Q ∨ r' x y H Q) := by
 intro value slice pins s σ H x y v u Q I rx ry q hs
 rcases q with q | q
 · exact h value slice pins s σ H x y v u Q I rx ry q hs
 · exact h' value slice pins s σ H x y v u Q I rx ry q hs
theorem aM {r : R2} (hr : lH X r) (ha : PE X a ta) (hb : PE X b tb) (hs : F3 b) : PE X (.Subscript a b pos) (dD r ta tb) := by
 intro pins s σ H Q I h
 exact Subscript_ (Ba ha hb I h fun v u s2 x y H2 I2 rx ry q=>hr a b pins s2 σ H2 x y v u Q I2 rx ry q (hs _ _))
def JV (K:PySem.W.Frag):R2:=fun x y H Q=>∃ p xs i v,x = .ref p∧y = .int i∧az K H p xs∧cD xs i = some v∧Q v H
def IT (K:PySem.W.Frag):R2:=fun x y H Q=>∃ p xs i v,x = .ref p∧y = .int i∧aW K H p xs∧cD xs i = some v∧Q v H
def JF:R2:=fun x y H Q=>∃ z i c,x = .str z∧y = .int i∧z.length ≤ sizeLine∧cD z.cps.toList i = some c∧Q (.str ⟨#[c]⟩) H
theorem F7 : lH X (JV X.K) := by
 intro value slice pins s σ H x y v u Q I rx ry h hs
 obtain ⟨p,xs,i,z,rfl,rfl,hq,he,q⟩:=h
 cases rx
 obtain ⟨t,rfl⟩:=ry
 obtain ⟨its,r,pl,hz⟩:=I.list hq
 obtain ⟨j,h1,h2,h3,h4,h5⟩:=qh he
 obtain ⟨w,ew,rw'⟩:=r.get h2
 have hl:=r.length
 have hn:=kg
 have fin:EP X pins σ Q w s:=⟨z,H,I,rw',q⟩
 by_cases h0 : 0 ≤ i
 · have hj : i.toNat = j := by
     rw [seqIndex_of h0 h5] at h1
     exact Option.some.inj h1
   exact item_listR pl.isList h0 (by omega) (by rw [hj];simpa using ew) fin hs
 · have hj : (i + (its.toArray.size : Int)).toNat = j := by
     rw [seqIndex_neg (by omega) h4] at h1
     rw [List.size_toArray,← hl]
     exact Option.some.inj h1
   exact subscriptTail_builtinR (x := w) pl.isList.typeIs slot_list_getitem.lookup
     (wpAny_getItem_list_neg (Q:=fun r s'=>r = w∧EP X pins σ Q r s') pl.isList (by omega) (by rw [List.size_toArray] <;> omega) (by omega) (by rw [hj];simpa using ew) ⟨rfl,fin⟩) hs
theorem JE : lH X (IT X.K) := by
 intro value slice pins s σ H x y v u Q I rx ry h hs
 obtain ⟨p,xs,i,z,rfl,rfl,hq,he,q⟩:=h
 cases rx
 obtain ⟨t,rfl⟩:=ry
 obtain ⟨its,r,pl,hz⟩:=I.tuple hq
 obtain ⟨j,h1,h2,h3,h4,h5⟩:=qh he
 obtain ⟨w,ew,rw'⟩:=r.get h2
 have hl:=r.length
 have hn:=kg
 have fin:EP X pins σ Q w s:=⟨z,H,I,rw',q⟩
 exact subscriptTail_builtinR (x := w) pl.typeIs slot_tuple_getitem.lookup
   (getItem_tuple (j:=j) (Q:=fun r s'=>r = w∧EP X pins σ Q r s') pl (by omega) (by omega) (by rw [List.size_toArray,← hl];exact h1) (by simpa using ew) ⟨rfl,fin⟩) hs
theorem Iz : lH X JF := by
 intro value slice pins s σ H x y v u Q I rx ry h hs
 obtain ⟨z,i,c,rfl,rfl,hz,he,q⟩:=h
 obtain ⟨t,rfl⟩:=rx
 obtain ⟨t',rfl⟩:=ry
 obtain ⟨j,h1,h2,h3,h4,h5⟩:=qh he
 have hl:z.cps.toList.length = z.length:=by simp [Str.length]
 rw [hl] at h1 h4 h5
 have hn:=kg
 exact tail_any (typeIs_str s z t) slot_str_getitem.lookup (getItem_str (c := c) (by
   have e1:decide (i < -(2 ^ 63:Int)) = false:=decide_eq_false (by omega)
   have e2:decide (i ≥ 2 ^ 63) = false:=decide_eq_false (by omega)
   rw [e1,e2,Bool.or_false]) (by rw [h1];simpa using h2) ⟨.str ⟨#[c]⟩,H,I.tok _,⟨_,rfl⟩,q⟩) hs
def LZ (K:PySem.W.Frag):R2:=fun x y H Q=>JV K x y H Q∨IT K x y H Q∨JF x y H Q
theorem Hs:lH X (LZ X.K):=F7.or (JE.or Iz)
theorem xu (its : List Value) (n j : Nat) (u : Value) : Obj.mapSeq (·.setIfInBounds j u) { cls := .type "list", data := .seq its.toArray n } = { cls := .type "list", data := .seq (its.set j u).toArray n } := by
 simp [Obj.mapSeq]
theorem Inv.lst {pins : List (Addr × Obj)} {σ : St} {H : Hp} {s : Shared} {p : Addr} {xs : List V} (I : Inv X pins σ H s) (h : H p = some (.lst xs)) :
   ∃ (its:List Value) (n:Nat),aP xs its∧s.heap.get? p = some { cls:=.type "list",data:=.seq its.toArray n }∧xs.length ≤ sizeLine:=by
 obtain ⟨z,its,n,r,e⟩:=I.ay p _ h
 exact ⟨its,n,r,e,z⟩
theorem Inv.GY {pins : List (Addr × Obj)} {σ : St} {H : Hp} {s : Shared} {p : Addr} {xs ys : List V} {its its' : List Value} {n n' : Nat} {f : Obj → Obj} (I : Inv X pins σ H s) (h : H p = some (.lst xs))
   (ho:s.heap.get? p = some { cls:=.type "list",data:=.seq its.toArray n }) (hf:f { cls:=.type "list",data:=.seq its.toArray n } = { cls:=.type "list",data:=.seq its'.toArray n' }) (r:aP ys its') (hz:ys.length ≤ sizeLine) (t:Nat) :
   Inv X pins σ (upd H p (.lst ys)) { s with heap:=s.heap.update p f,toks:=t }:=by
 have e : (s.heap.update p f).get? p = some { cls := .type "list", data := .seq its'.toArray n' } := by
   rw [Heap.get?_update_self f ho (by rw [hf] <;> rfl),hf]
 refine I.write (x:=p) (e:=p) (by rw [h];trivial) (.inl rfl) (fun b u hb q=>(Heap.get?_update_other _ _ (Ne.symm hb)).trans q) ⟨_,e⟩ ?_
 exact ⟨hz,its',n',r,e⟩
def EM:V→V→V→Hp→(Hp→Prop)→Prop:=fun o i v H Q=>∃ p xs k j,o = .ref p∧i = .int k∧H p = some (.lst xs)∧nJ xs.length k = some j∧Q (upd H p (.lst (xs.set j v)))
theorem set_list : GX X EM := by
 intro pins s σ H o i v ov iv u Q I ro ri rv h
 obtain ⟨p,xs,k,j,rfl,rfl,hp,hj,q⟩:=h
 cases ro
 obtain ⟨t,rfl⟩:=ri
 obtain ⟨its,n,r,ho,hz⟩:=I.lst hp
 obtain ⟨h1,h2,h3,h4⟩:=vU hj
 have hl:=r.length
 have hn:=kg
 have I' : Inv X pins σ (upd H p (.lst (xs.set j v))) { s with heap := s.heap.update p (Obj.mapSeq (·.setIfInBounds j u)) } :=
   I.GY hp ho (xu its n j u) (r.set rv j) (by rw [List.length_set];exact hz) s.toks
 by_cases h0 : 0 ≤ k
 · have hk : k.toNat = j := by
     rw [seqIndex_of h0 h4] at h1
     exact Option.some.inj h1
   exact PySem.W.ki_setAt ho h0 (by omega) (by rw [List.size_toArray,← hl];exact h4) (by rw [hk];exact ⟨_,I',q⟩)
 · have hk : (k + (its.toArray.size : Int)).toNat = j := by
     rw [seqIndex_neg (by omega) h3] at h1
     rw [List.size_toArray,← hl]
     exact Option.some.inj h1
   exact PySem.W.ki_setBack ho (by omega) (by rw [List.size_toArray,← hl];exact h3) (by omega) (by rw [hk];exact ⟨_,I',q⟩)
theorem tI (lo hi : Option Int) (n : Nat) : (sliceBounds lo hi none n).1 = ((HT.bB n 0 lo : Nat) : Int) ∧ (sliceBounds lo hi none n).2.1 = ((HT.bB n n hi : Nat) : Int) ∧ (sliceBounds lo hi none n).2.2 = 1 := by
 refine ⟨?_,?_,rfl⟩
 · cases lo with
   | none=>simp [sliceBounds,HT.bB]
   | some i =>
     simp only [sliceBounds,HT.bB,Option.getD_none,show (1:Int) > 0 by decide,if_true]
     by_cases h:i < 0
     · simp only [h,if_true] <;> omega
     · simp only [h,if_false] <;> omega
 · cases hi with
   | none=>simp [sliceBounds,HT.bB]
   | some i =>
     simp only [sliceBounds,HT.bB,Option.getD_none,show (1:Int) > 0 by decide,if_true]
     by_cases h:i < 0
     · simp only [h,if_true] <;> omega
     · simp only [h,if_false] <;> omega
theorem sP (its : List Value) (lo hi : Option Int) : slicePick its.toArray lo hi none = ((its.drop (HT.bB its.length 0 lo)).take (HT.bB its.length its.length hi - HT.bB its.length 0 lo)).toArray := by
 obtain ⟨h1,h2,h3⟩:=tI lo hi its.toArray.size
 unfold slicePick
 rw [h1,h2,h3]
 simp only [sliceRange_one,pick_run,List.size_toArray] <;> rfl
def GU (K:PySem.W.Frag):V→Option Int→Option Int→Hp→VK→Prop:=fun x lo hi H Q=>∃ a xs,x = .ref a∧az K H a xs∧∀ p,H p = none→Q (.ref p) (upd H p (.lst (kZ xs lo hi)))
theorem GG : pB X (GU X.K) := by
 intro pins s σ H x v vl vu lo hi sl Q I rx hs pl pu h
 obtain ⟨a,xs,rfl,hx,q⟩:=h
 cases rx
 obtain ⟨its,r,ht,hz⟩:=I.list hx
 have hlen:=r.length
 refine ⟨"list",_,slot_list_getitem.lookup,ht.isList.typeIs,?_⟩
 refine wpAny_getItem_list_slice ht.isList hs pl pu .none (by simp) ?_ (by rw [List.size_toArray] <;> omega)
 rw [sP,← hlen]
 refine ⟨.ref s.heap.objs.size,_,I.laid (t':=s.toks) (o:=.lst (kZ xs lo hi)) (fun b ob q=>Heap.get?_push_of_some _ q) (Nat.le_refl _) ?_,rfl,q _ (I.ay.fresh (Nat.le_refl _))⟩
 exact ⟨Nat.le_trans (nK xs lo hi) hz,_,0,(r.drop (HT.bB xs.length 0 lo)).take (HT.bB xs.length xs.length hi - HT.bB xs.length 0 lo),Heap.get?_push_size _ rfl⟩
def hU : V → Bool
 | .aH=>true
 | .bl _=>true
 | .int _=>true
 | .str _=>true
 | _=>false
def m7 : V → V → Bool
 | .aH,.aH=>true
 | .bl a,.bl b=>a == b
 | .bl a,.int b=>(if a then 1 else 0) == b
 | .int a,.bl b=>a == (if b then 1 else 0)
 | .int a,.int b=>a == b
 | .str a,.str b=>a == b
 | _,_=>false
theorem KO {A : Around} {s : Shared} {y x : V} {u v : Value} (ry : RelV y u) (rx : RelV x v) (fy : hU y = true) (fx : hU x = true) : SeqAt.EqAt A s u v (m7 y x) := by
 cases y with
 | aH =>
   cases ry
   cases x with
   | aH=>cases rx;exact SeqAt.EqAt.same _
   | bl b=>cases rx;exact SeqAt.EqAt.none_bool b
   | int b=>obtain ⟨t,rfl⟩:=rx;exact SeqAt.EqAt.none_int b t
   | str b=>obtain ⟨t,rfl⟩:=rx;exact SeqAt.EqAt.none_str b t
   | _=>exact absurd (show false = true from fx) Bool.false_ne_true
 | bl a =>
   cases ry
   cases x with
   | aH=>cases rx;exact SeqAt.EqAt.bool_none a
   | bl b=>cases rx;exact SeqAt.EqAt.bool_bool a b
   | int b=>obtain ⟨t,rfl⟩:=rx;exact SeqAt.EqAt.bool_int a b t
   | str b=>obtain ⟨t,rfl⟩:=rx;exact SeqAt.EqAt.bool_str a b t
   | _=>exact absurd (show false = true from fx) Bool.false_ne_true
 | int a =>
   obtain ⟨t',rfl⟩:=ry
   cases x with
   | aH=>cases rx;exact SeqAt.EqAt.int_none a t'
   | bl b=>cases rx;exact SeqAt.EqAt.int_bool a t' b
   | int b=>obtain ⟨t,rfl⟩:=rx;exact SeqAt.EqAt.int_int a t' b t
   | str b=>obtain ⟨t,rfl⟩:=rx;exact SeqAt.EqAt.int_str a t' b t
   | _=>exact absurd (show false = true from fx) Bool.false_ne_true
 | str a =>
   obtain ⟨t',rfl⟩:=ry
   cases x with
   | aH=>cases rx;exact SeqAt.EqAt.str_none a t'
   | bl b=>cases rx;exact SeqAt.EqAt.str_bool a t' b
   | int b=>obtain ⟨t,rfl⟩:=rx;exact SeqAt.EqAt.str_int a t' b t
   | str b=>obtain ⟨t,rfl⟩:=rx;exact SeqAt.EqAt.str_str a t' b t
   | _=>exact absurd (show false = true from fx) Bool.false_ne_true
 | _=>exact absurd (show false = true from fy) Bool.false_ne_true
def ju (x : V) (u : Value) : Bool := match u with
 | .none=>m7 .aH x
 | .bool b=>m7 (.bl b) x
 | .int i _=>m7 (.int i) x
 | .str z _=>m7 (.str z) x
 | _=>false
theorem zf {x y : V} {u : Value} (r : RelV y u) (f : hU y = true) : ju x u = m7 y x := by
 cases y with
 | aH=>cases r;rfl
 | bl b=>cases r;rfl
 | int i=>obtain ⟨t,rfl⟩:=r;rfl
 | str z=>obtain ⟨t,rfl⟩:=r;rfl
 | _=>exact absurd (show false = true from f) Bool.false_ne_true
theorem j6 {x : V} : ∀ {xs : List V} {us : List Value}, aP xs us → xs.all hU = true → us.any (ju x) = xs.any fun y => m7 y x
 | _,_,.nil,_=>rfl
 | y :: xs, u :: us, .cons r t, f => by
   rw [List.all_cons,Bool.and_eq_true] at f
   rw [List.any_cons,List.any_cons,zf r f.1,j6 t f.2]
theorem jw {A : Around} {s : Shared} {x : V} {v : Value} (rx : RelV x v) (fx : hU x = true) : ∀ {xs : List V} {us : List Value}, aP xs us → xs.all hU = true → ∀ u ∈ us, SeqAt.EqAt A s u v (ju x u)
 | _,_,.nil,_=>fun u hu=>by cases hu
 | y :: xs, u :: us, .cons r t, f => fun u' hu => by
   rw [List.all_cons,Bool.and_eq_true] at f
   rcases List.mem_cons.mp hu with rfl | hu
   · rw [zf r f.1];exact KO r rx f.1 fx
   · exact jw rx fx t f.2 u' hu
def wR (x:V) (xs:List V):Bool:=xs.any fun y=>m7 y x
def vV (K:PySem.W.Frag) (neg:Bool):R2:=fun x y H Q=>∃ p xs,y = .ref p∧(az K H p xs∨aW K H p xs)∧hU x = true∧xs.all hU = true∧Q (.bl (if neg then !wR x xs else wR x xs)) H
theorem zI : bJ X (compareOp .In) (vV X.K false) := by
 intro pins s σ H x y v u Q I rx ry h
 obtain ⟨p,xs,rfl,hq,fx,fs,q⟩:=h
 cases ry
 rcases hq with hq | hq
 · obtain ⟨its, r, pl, hz⟩ := I.list hq
   refine SeqAt.in_listAt (ju x) pl.isList (fun w hw=>jw rx fx r fs w (by simpa using hw)) ⟨.bl _,H,I,rfl,?_⟩
   rw [show its.toArray.any (ju x) = its.any (ju x) by simp,j6 r fs]
   exact q
 · obtain ⟨its, r, pl, hz⟩ := I.tuple hq
   refine SeqAt.in_tupleAt (ju x) pl (fun w hw=>jw rx fx r fs w (by simpa using hw)) ⟨.bl _,H,I,rfl,?_⟩
   rw [show its.toArray.any (ju x) = its.any (ju x) by simp,j6 r fs]
   exact q
theorem vm : bJ X (compareOp .NotIn) (vV X.K true) := by
 intro pins s σ H x y v u Q I rx ry h
 obtain ⟨p,xs,rfl,hq,fx,fs,q⟩:=h
 cases ry
 rcases hq with hq | hq
 · obtain ⟨its, r, pl, hz⟩ := I.list hq
   refine SeqAt.notIn_listAt (ju x) pl.isList (fun w hw=>jw rx fx r fs w (by simpa using hw)) ⟨.bl _,H,I,rfl,?_⟩
   rw [show its.toArray.any (ju x) = its.any (ju x) by simp,j6 r fs]
   exact q
 · obtain ⟨its, r, pl, hz⟩ := I.tuple hq
   refine SeqAt.notIn_tupleAt (ju x) pl (fun w hw=>jw rx fx r fs w (by simpa using hw)) ⟨.bl _,H,I,rfl,?_⟩
   rw [show its.toArray.any (ju x) = its.any (ju x) by simp,j6 r fs]
   exact q
theorem tW : cJ X (.type "list") (fun xs H Q => ∃ p ys, xs = [.ref p] ∧ (az X.K H p ys ∨ aW X.K H p ys) ∧ ∀ l, H l = none → Q (.ref l) (upd H l (.lst ys))) := by
 intro pins s σ H xs us Q I r h
 obtain ⟨p,ys,rfl,hq,q⟩:=h
 obtain ⟨u,rfl,rx⟩:=vals1 r
 cases rx
 have fin : ∀ (its : List Value), aP ys its → ys.length ≤ sizeLine → ∀ (h' : Heap) (c' : Nat), (∀ b o', s.heap.get? b = some o' → h'.get? b = some o') →
     h'.get? s.heap.objs.size = some { cls:=.type "list",dict:=none,data:=.seq its.toArray c',slots:=#[] }→EP X pins σ Q (.ref s.heap.objs.size) { s with heap:=h' }:=fun its r' hz h' c' kp e =>
   ⟨.ref s.heap.objs.size,_,I.laid (t':=s.toks) kp (Nat.le_refl _) (show bQ X.prog X.w _ h' _ (.lst ys) from ⟨hz,its,c',r',e⟩),rfl,q _ (I.ay.fresh (Nat.le_refl _))⟩
 rcases hq with hq | hq
 · obtain ⟨its, r', pl, hz⟩ := I.list hq
   have hlen:=r'.length
   obtain ⟨o,ho,hc,n,hd⟩:=pl.isList
   exact call_list_seq p (.inl rfl) ho hc hd (fun h' c' kp e=>fin its r' hz h' c' kp e) (by simp only [List.size_toArray] <;> omega)
 · obtain ⟨its, r', pl, hz⟩ := I.tuple hq
   have hlen:=r'.length
   obtain ⟨o,ho,hc,n,hd⟩:=pl
   exact call_list_seq p (.inr rfl) ho hc hd (fun h' c' kp e=>fin its r' hz h' c' kp e) (by simp only [List.size_toArray] <;> omega)
def rQ (K : PySem.W.Frag) (T : String) (x : V) (H : Hp) : Prop := match x with
 | .str _=>T = "str"
 | .int _=>T = "int"
 | .ref p => (T = "list" ∧ ∃ xs, az K H p xs) ∨ (T = "tuple" ∧ ∃ o, K.lookup p = some o ∧ o.cls = .type "tuple" ∧ o.dict = none) ∨
     (T = "dict"∧((∃ kvs,H p = some (.dK kvs))∨∃ kvs,H p = some (.dT kvs)))∨(T = "set"∧∃ S n,H p = some (.set S n))
 | _=>False
theorem Aq {pins : List (Addr × Obj)} {σ : St} {H : Hp} {s : Shared} {T : String} {x : V} {v : Value} (I : Inv X pins σ H s) (r : RelV x v) (ty : rQ X.K T x H) :
   s.TypeIs v T∧∀ a,v = .ref a→∃ ob,s.heap.get? a = some ob∧ob.dict = none:=by
 cases x with
 | str z =>
   obtain ⟨t,rfl⟩:=r
   cases (show T = "str" from ty)
   exact ⟨typeIs_str s z t,fun _ e=>nomatch e⟩
 | int i =>
   obtain ⟨t,rfl⟩:=r
   cases (show T = "int" from ty)
   exact ⟨typeIs_int s i t,fun _ e=>nomatch e⟩
 | ref p =>
   cases r
   rcases ty with ⟨rfl,xs,hq⟩ | ⟨rfl,o,hk,hc,hd⟩ | ⟨rfl,hk⟩ | ⟨rfl,S,n,hk⟩
   · obtain ⟨its, _, pl, _⟩ := I.list hq
     refine ⟨pl.isList.typeIs,fun a e=>?_⟩
     cases e
     obtain ⟨o,n,e,c,hd,_⟩:=pl
     exact ⟨o,e,hd⟩
   · refine ⟨⟨o, I.ee p o hk, hc⟩, fun a e => ?_⟩
     cases e
     exact ⟨o,I.ee _ o hk,hd⟩
   · have z : ∃ o, s.heap.get? p = some o ∧ o.ExactDict := by
       rcases hk with ⟨kvs,hk⟩ | ⟨kvs,hk⟩
       · obtain ⟨_, _, _, _, o, _, _, e, ex, _⟩ := I.ay p _ hk
         exact ⟨o,e,ex⟩
       · obtain ⟨_, _, _, _, o, _, _, e, ex, _⟩ := I.ay p _ hk
         exact ⟨o,e,ex⟩
     obtain ⟨o,e,ex⟩:=z
     refine ⟨⟨o,e,ex.1⟩,fun a e2=>?_⟩
     cases e2
     exact ⟨o,e,ex.2.1⟩
   · obtain ⟨o, _, _, _, e, ex, _⟩ := I.ay p _ hk
     refine ⟨⟨o,e,ex.1⟩,fun a e2=>?_⟩
     cases e2
     exact ⟨o,e,ex.2.1⟩
 | _=>exact False.elim ty
def yf (K:PySem.W.Frag) (T:String) (r:V→List V→Hp→VK→Prop) (to:TE):TE:=fun σ H Q=>to σ H fun x H1=>rQ K T x H1∧r x [] H1 Q
def Ir (K:PySem.W.Frag) (T:String) (r:V→List V→Hp→VK→Prop) (to:TE) (t:TA):TE:=fun σ H Q=>to σ H fun x H1=>rQ K T x H1∧t σ H1 fun xs H2=>r x xs H2 Q
variable {o e:Expr} {es:List Expr} {to:TE} {t:TA} {name:Str} {apos cpos:Pos} {T id:String} {r:V→List V→Hp→VK→Prop}
theorem J6 (pa : PlainAttrs T) (slot : Slot T name id) (hty : typeOf (.builtin id) = pure (.type "method_descriptor")) (hm : yl X id r) (ho : PE X o to)
   (hbase:attributeBase o name X.env (eval o X.env) = eval o X.env:=by rfl) (hline:(apos.endLine == cpos.line) = true:=by rfl):PE X (.Call (.Attribute o name apos) [] [] cpos) (yf X.K T r to):=by
 intro pins s σ H Q I h
 refine wpAny_Call_method0_late hbase hline (a9 (ho pins s σ H _ I h) fun v s1 ⟨x,H1,I1,r1,ty,q1⟩=>?_)
 obtain ⟨h1,h2⟩:=Aq I1 r1 ty
 exact ⟨T,id,pa,slot,hty,h1,h2,Calls.callWith_builtin rfl (PySem.evalArgs_none (hm pins s1 σ H1 x [] v [] Q I1 r1 .nil q1))⟩
theorem Ln (pa : PlainAttrs T) (slot : Slot T name id) (hty : typeOf (.builtin id) = pure (.type "method_descriptor")) (hm : yl X id r) (ho : PE X o to) (ha : PA X (e :: es) t)
   (hbase:attributeBase o name X.env (eval o X.env) = eval o X.env:=by rfl)
   (hfew : ((backTo cpos (starEach (e :: es) X.env)).all (fun x => !x.1) && (backToKw cpos (keywordEach [] X.env)).all (fun x => x.1.isSome)
     && decide ((e :: es).length + ([]:List Keyword).length + (if ([]:List Keyword).isEmpty then 0 else 1) < 30)) = true:=by rfl)
   (hline:(apos.endLine == cpos.line) = true:=by rfl) (hs:starEach (e :: es) X.env = (false,eval e X.env) :: starEach es X.env:=by rfl) (hplain:(backTo cpos (starEach es X.env)).any (·.1) = false:=by rfl) :
   PE X (.Call (.Attribute o name apos) (e :: es) [] cpos) (Ir X.K T r to t):=by
 intro pins s σ H Q I h
 refine wpAny_Call_method_late hbase hfew hline rfl (a9 (ho pins s σ H _ I h) fun v s1 ⟨x,H1,I1,r1,ty,q1⟩=>?_)
 obtain ⟨h1,h2⟩:=Aq I1 r1 ty
 refine ⟨T,id,pa,slot,hty,h1,h2,?_⟩
 have hA:=ha cpos pins s1 σ H1 _ I1 q1
 rw [hs] at hA ⊢
 refine Calls.callWith_builtin (by show (false || (backTo cpos (starEach es X.env)).any (·.1)) = false;rw [hplain] <;> rfl) (Calls.evalArgs_plain ?_)
 exact a9 hA fun us s2 ⟨vs,H2,I2,r2,q2⟩=>hm pins s2 σ H2 x vs v us Q I2 r1 r2 q2
end
end L2
namespace L2
open PySem PySem.Spec PyProof.Rows
def Hm (X : Cx) (id : String) (r : V → List V → Hp → VK → Prop) : Prop :=
 ∀ (pins : List (Addr × Obj)) (s : Shared) (σ : St) (H : Hp) (x : V) (xs : List V) (v : Value) (us : List Value) (Q : VK), Inv X pins σ H s → RelV x v → aP xs us → r x xs H Q →
   wpAny (model X.prog X.w) X.A (call (.builtin id) (v :: us)) (EP X pins σ Q) X.xe s
theorem aP.one : ∀ {x : V} {us : List Value}, aP [x] us → ∃ u, us = [u] ∧ RelV x u
 | _,_,.cons r .nil=>⟨_,rfl,r⟩
theorem aP.zero : ∀ {us : List Value}, aP [] us → us = []
 | _,.nil=>rfl
theorem aP.dropLast {xs : List V} {us : List Value} (h : aP xs us) : aP xs.dropLast us.dropLast := by
 induction h with
 | nil=>exact .nil
 | cons r t ih =>
   cases t with
   | nil=>exact .nil
   | cons q t'=>exact .cons r ih
theorem aP.rep {xs : List V} {us : List Value} (h : aP xs us) : ∀ k : Nat, aP (List.replicate k xs).flatten (List.replicate k us).flatten
 | 0=>.nil
 | k + 1 => by
   rw [List.replicate_succ,List.replicate_succ,List.flatten_cons,List.flatten_cons]
   exact aP.append h (aP.rep h k)
theorem xw {α : Type} (l : List α) : l.eraseIdx (l.length - 1) = l.dropLast := by
 induction l with
 | nil=>rfl
 | cons a r ih =>
   cases r with
   | nil=>rfl
   | cons b r =>
     have e : (a :: b :: r).length - 1 = ((b :: r).length - 1) + 1 := by
       have h1:(a :: b :: r).length = r.length + 2:=rfl
       have h2:(b :: r).length = r.length + 1:=rfl
       omega
     rw [e,List.eraseIdx_cons_succ,ih]
     all_goals rfl
theorem foldl_rep (its : List Value) : ∀ (k : Nat) (acc : List Value),
   List.foldl (fun x1 x2=>x1 ++ x2) acc.toArray (List.replicate k its.toArray) = (acc ++ (List.replicate k its).flatten).toArray
 | 0,acc=>by simp
 | k + 1, acc => by
   have e:acc.toArray ++ its.toArray = (acc ++ its).toArray:=by simp
   have e2 : (acc ++ its) ++ (List.replicate k its).flatten = acc ++ (List.replicate (k + 1) its).flatten := by
     rw [List.replicate_succ,List.flatten_cons,List.append_assoc]
   rw [← e2,← foldl_rep its k (acc ++ its),← e,List.replicate_succ,List.foldl_cons]
section
variable {X:Cx} {pins:List (Addr×Obj)} {σ : St} {H:Hp} {s:Shared} {l b:Addr} {xs ys zs:List V}
theorem Inv.Bp {its its' : List Value} {n : Nat} {f : Array Value → Array Value} {t' : Nat} (I : Inv X pins σ H s) (hH : H l = some (.lst xs))
   (e:s.heap.get? l = some { cls:=.type "list",data:=.seq its.toArray n }) (hf:f its.toArray = its'.toArray) (hv:aP ys its') (hz:ys.length ≤ sizeLine) :
   Inv X pins σ (upd H l (.lst ys)) { s with heap:=s.heap.update l (Obj.mapSeq f),toks:=t' }:=by
 have q:=PySem.IsL.update e f
 rw [hf] at q
 refine I.write (x:=l) (e:=l) (by rw [hH];exact trivial) (.inl rfl) (fun b' u hb hu=>(Heap.get?_update_other s.heap (Obj.mapSeq f) (Ne.symm hb)).trans hu) ⟨_,q⟩ ?_
 exact ⟨hz,its',_,hv,q⟩
theorem Inv.JC {its : List Value} {t' : Nat} (I : Inv X pins σ H s) (hv : aP ys its) (hz : ys.length ≤ sizeLine) :
   Inv X pins σ (upd H s.heap.objs.size (.lst ys)) { s with heap:=s.heap.push { cls:=.type "list",data:=.seq its.toArray },toks:=t' } :=
 I.laid (fun _ _ q=>Heap.get?_push_of_some _ q) (Nat.le_refl _) ⟨hz,its,0,hv,Heap.get?_push_size _ rfl⟩
theorem Inv.fresh (I:Inv X pins σ H s):H s.heap.objs.size = none:=I.ay.fresh (Nat.le_refl _)
theorem Inv.oP (I : Inv X pins σ H s) (hH : H l = some (.lst xs)) : xs.length ≤ sizeLine ∧ ∃ (its : List Value) (n : Nat), aP xs its ∧ xs.length = its.length ∧ s.heap.get? l = some { cls := .type "list", data := .seq its.toArray n } := by
 obtain ⟨z,its,n,r,e⟩:=I.ay l _ hH
 exact ⟨z,its,n,r,r.length,e⟩
theorem vg {n : Nat} (h : n ≤ sizeLine) : Builtin.List.listTooLong n = false := by
 unfold Builtin.List.listTooLong
 exact decide_eq_false (by omega)
end
section
variable {X:Cx}
def wQ:V→List V→Hp→VK→Prop:=fun x vs H Q=>∃ l xs y,x = .ref l∧vs = [y]∧H l = some (.lst xs)∧xs.length < sizeLine∧Q .aH (upd H l (.lst (xs ++ [y])))
theorem ft : Hm X "list.append" wQ := by
 intro pins s σ H x vs v us Q I rx rv h
 obtain ⟨l,xs,y,rfl,rfl,hH,hz,q⟩:=h
 cases rx
 obtain ⟨u,rfl,ru⟩:=rv.one
 obtain ⟨z,its,n,r,hl,e⟩:=I.oP hH
 refine call_meets F.slot_list_append ⟨_,e,rfl⟩ F.entry_list_append (F.args_list_append_2 _ _) (PySem.list_append l its.toArray n u (by rw [List.size_toArray];omega)) ⟨e,?_⟩
 refine ⟨.aH,_,I.Bp (its':=its ++ [u]) hH e (by simp) (r.append (.cons ru .nil)) ?_,rfl,q⟩
 rw [List.length_append,List.length_singleton]
 omega
def wF:V→List V→Hp→VK→Prop:=fun x vs H Q=>∃ l b xs zs,x = .ref l∧vs = [.ref b]∧H l = some (.lst xs)∧H b = some (.lst zs)∧xs.length + zs.length ≤ sizeLine∧Q .aH (upd H l (.lst (xs ++ zs)))
theorem zq : Hm X "list.extend" wF := by
 intro pins s σ H x vs v us Q I rx rv h
 obtain ⟨l,b,xs,zs,rfl,rfl,hH,hB,hz,q⟩:=h
 cases rx
 obtain ⟨u,rfl,ru⟩:=rv.one
 cases ru
 obtain ⟨z,its,n,r,hl,e⟩:=I.oP hH
 obtain ⟨z2,its2,n2,r2,hl2,e2⟩:=I.oP hB
 have hsz:its.toArray.size + its2.toArray.size ≤ sizeLine:=by rw [List.size_toArray,List.size_toArray];omega
 have hlong : ¬ (!its.toArray.isEmpty && Builtin.List.listTooLong (its.toArray.size + its2.toArray.size)) = true := by
   rw [vg hsz,Bool.and_false]
   exact Bool.false_ne_true
 refine call_meets F.slot_list_extend ⟨_, e, rfl⟩ F.entry_list_extend (F.args_list_extend_2 _ _)
   (AutoSeq1.list_extend_list_list_0 l its.toArray n b its2.toArray n2 hlong (by rw [List.size_toArray];omega) (by omega)) ⟨e,e2,?_⟩
 refine ⟨.aH,_,I.Bp (its':=its ++ its2) hH e (by simp) (r.append r2) ?_,rfl,q⟩
 rw [List.length_append]
 omega
def Iy:V→List V→Hp→VK→Prop:=fun x vs H Q=>∃ l xs y,x = .ref l∧vs = []∧H l = some (.lst xs)∧xs[xs.length - 1]? = some y∧Q y (upd H l (.lst xs.dropLast))
theorem Ju : Hm X "list.pop" Iy := by
 intro pins s σ H x vs v us Q I rx rv h
 obtain ⟨l,xs,y,rfl,rfl,hH,hy,q⟩:=h
 cases rx
 have hus:=rv.zero
 subst hus
 obtain ⟨z,its,n,r,hl,e⟩:=I.oP hH
 obtain ⟨u,hu,ru⟩:=r.get hy
 have hy' : its.toArray[its.toArray.size - 1]? = some u := by
   show its.toArray[its.length - 1]? = some u
   rw [← Array.getElem?_toList,← hl]
   exact hu
 refine call_meets F.slot_list_pop ⟨_,e,rfl⟩ F.entry_list_pop (F.args_list_pop_1 _) (MeetsSeq.list_pop_last l its.toArray n u hy' (by rw [List.size_toArray];omega)) ⟨e,?_⟩
 refine ⟨y,_,I.Bp (its':=its.dropLast) hH e ?_ r.dropLast ?_,ru,q⟩
 · show its.toArray.eraseIdxIfInBounds (its.toArray.size - 1) = its.dropLast.toArray
   rw [List.size_toArray,List.eraseIdxIfInBounds_toArray,xw]
 · rw [List.length_dropLast]
   omega
def JJ:R2:=fun x y H Q=>∃ l b xs zs,x = .ref l∧y = .ref b∧H l = some (.lst xs)∧H b = some (.lst zs)∧xs.length + zs.length ≤ sizeLine∧∀ p,H p = none→Q (.ref p) (upd H p (.lst (xs ++ zs)))
theorem Kf : bJ X (binaryOp .Add) JJ := by
 intro pins s σ H x y v u Q I rx ry h
 obtain ⟨l,b,xs,zs,rfl,rfl,hH,hB,hz,q⟩:=h
 cases rx
 cases ry
 obtain ⟨z,its,n,r,hl,e⟩:=I.oP hH
 obtain ⟨z2,its2,n2,r2,hl2,e2⟩:=I.oP hB
 refine PySem.P.add_list e e2 ?_ (by rw [List.size_toArray,List.size_toArray];omega)
 have ea:its.toArray ++ its2.toArray = (its ++ its2).toArray:=by simp
 rw [ea]
 exact ⟨.ref _,_,I.JC (t':=s.toks) (r.append r2) (by rw [List.length_append];omega),rfl,q _ I.fresh⟩
def Iq : R2 := fun x y H Q => ∃ l k xs, x = .ref l ∧ y = .int k ∧ H l = some (.lst xs) ∧ -(2 ^ 63) ≤ k ∧ k < 2 ^ 63 ∧ xs.length * k.toNat ≤ sizeLine ∧
 ∀ p,H p = none→Q (.ref p) (upd H p (.lst (List.replicate k.toNat xs).flatten))
theorem len_rep {α : Type} (xs : List α) (k : Nat) : (List.replicate k xs).flatten.length = k * xs.length := by
 induction k with
 | zero=>simp
 | succ k ih=>rw [List.replicate_succ,List.flatten_cons,List.length_append,ih,Nat.succ_mul,Nat.add_comm]
theorem IZ : bJ X (binaryOp .Mult) Iq := by
 intro pins s σ H x y v u Q I rx ry h
 obtain ⟨l,k,xs,rfl,rfl,hH,h1,h2,hz,q⟩:=h
 cases rx
 obtain ⟨t,rfl⟩:=ry
 obtain ⟨z,its,n,r,hl,e⟩:=I.oP hH
 have hlen:its.toArray.size * k.toNat ≤ sizeLine:=by rw [List.size_toArray,← hl];exact hz
 have hcap : ¬ its.toArray.size * k.toNat > (2 ^ 63 - 1) / 8 := by
   have:(sizeLine:Nat) ≤ (2 ^ 63 - 1) / 8:=by decide
   omega
 have hfit : ¬ (!Builtin.List.listFitsIndex k) = true := by
   rw [fitsIndex_both h1 h2]
   exact Bool.false_ne_true
 have hlong : ¬ Builtin.List.listTooLong (its.toArray.size * k.toNat) = true := by
   rw [vg hlen]
   exact Bool.false_ne_true
 have hnew : List.foldl (fun x1 x2 => x1 ++ x2) #[] (List.replicate (if its.toArray.isEmpty = true then 0 else k.toNat) its.toArray) = (List.replicate k.toNat its).flatten.toArray := by
   have f0 : ∀ m : Nat, List.foldl (fun x1 x2 => x1 ++ x2) #[] (List.replicate m its.toArray) = (List.replicate m its).flatten.toArray := fun m => by
     have:=foldl_rep its m []
     rw [List.nil_append] at this
     exact this
   rw [f0]
   cases its with
   | nil=>simp
   | cons a r'=>rw [if_neg (by simp)]
 refine wpAny_binaryOp_repeat_ref (T := "list") (U := "int") (by decide) ⟨_, e, rfl⟩ (fun s' => typeIs_int s' k t) noFill_list_mul F.fills_int_mul F.slot_int_rmul repeat_list F.slot_int_index.lookup
   (call_meets F.slot_int_rmul (typeIs_int s k t) F.entry_int_rmul (F.args_int_rmul_2 _ _) (int___rmul___int_list k t l its.toArray n)
     ⟨e,rfl,⟨_,e,rfl⟩,call_meets F.slot_list_mul ⟨_,e,rfl⟩ F.entry_list_mul (F.args_list_mul_2 _ _) (AutoListH.list___mul___list_int_3 l its.toArray n k t hfit hcap hlong) ⟨e,?_⟩⟩)
 rw [hnew]
 exact ⟨.ref _,_,I.JC (t':=s.toks) (r.rep k.toNat) (by rw [len_rep,Nat.mul_comm];exact hz),rfl,q _ I.fresh⟩
end
section
variable {prog:Program} {w:World} {A:Around} {E:Value→Shared→Prop} {s:Shared}
end
section
variable {X:Cx}
end
end L2
namespace L2
open PySem PySem.Spec PyProof.Rows
section
variable {κ : Type} [DecidableEq κ]
def dX (kvs:List (κ×V)) (k : κ):Option V:=(kvs.find? fun kv=>decide (kv.1 = k)).map (·.2)
def putK (kvs : List (κ × V)) (k : κ) (v : V) : List (κ × V) :=
 if (kvs.any fun kv=>decide (kv.1 = k)) = true then kvs.map (fun kv=>if kv.1 = k then (kv.1,v) else kv) else kvs ++ [(k,v)]
theorem kM {p : κ×V} {r:List (κ×V)} {k : κ} (e:p.1 = k):dX (p :: r) k = some p.2:=by simp [dX,List.find?_cons,e]
theorem jt {p : κ×V} {r:List (κ×V)} {k : κ} (e : ¬ p.1 = k):dX (p :: r) k = dX r k:=by simp [dX,List.find?_cons,e]
theorem kX (k : κ) : ∀ kvs : List (κ × V), (kvs.any fun kv => decide (kv.1 = k)) = (dX kvs k).isSome
 | []=>rfl
 | p :: r => by
   rw [List.any_cons]
   by_cases e:p.1 = k
   · simp only [kM e,decide_eq_true e,Bool.true_or,Option.isSome_some]
   · rw [jt e,decide_eq_false e,Bool.false_or];exact kX k r
theorem nZ (kvs : List (κ × V)) (k : κ) (v : V) : (putK kvs k v).length ≤ kvs.length + 1 := by
 unfold putK
 split
 · rw [List.length_map];omega
 · rw [List.length_append,List.length_cons,List.length_nil];omega
theorem BN {kvs : List (κ × V)} {k : κ} (v : V) (h : dX kvs k = none) : putK kvs k v = kvs ++ [(k, v)] := by
 unfold putK
 rw [kX,h]
 exact if_neg (by decide)
theorem fQ.mf {o : Option V} {u : Option Value} (r : fQ o u) : o.isSome = u.isSome := by
 cases o with
 | none => cases u with
   | none=>rfl
   | some _=>exact (show False from r).elim
 | some _ => cases u with
   | none=>exact (show False from r).elim
   | some _=>rfl
theorem KV.val {kvs : List (κ × V)} {vs : List (κ × Value)} (r : KV kvs vs) (k : κ) : fQ (dX kvs k) (valueAt vs k) := by
 unfold KV at r
 induction r with
 | nil=>exact True.intro
 | @cons p q ps qs h t ih =>
   obtain ⟨h1,h2⟩:=h
   by_cases e:p.1 = k
   · have e' : q.1 = k := h1.symm.trans e
     have b:valueAt (q :: qs) k = some q.2:=by simp [valueAt,List.find?_cons,e']
     rw [kM e,b];exact h2
   · have e' : ¬ q.1 = k := fun z => e (h1.trans z)
     have b:valueAt (q :: qs) k = valueAt qs k:=by simp [valueAt,List.find?_cons,e']
     rw [jt e,b];exact ih
theorem KV.any {kvs : List (κ × V)} {vs : List (κ × Value)} (r : KV kvs vs) (k : κ) : (kvs.any fun kv => decide (kv.1 = k)) = vs.any fun kv => decide (kv.1 = k) := by
 unfold KV at r
 induction r with
 | nil=>rfl
 | cons h t ih=>rw [List.any_cons,List.any_cons,ih,h.1]
theorem KV.A1 {kvs : List (κ × V)} {vs : List (κ × Value)} (r : KV kvs vs) (k : κ) {y : V} {u : Value} (ry : RelV y u) :
   KV (kvs.map fun kv=>if kv.1 = k then (kv.1,y) else kv) (vs.map fun kv=>if kv.1 = k then (kv.1,u) else kv):=by
 unfold KV at r ⊢
 induction r with
 | nil=>exact .nil
 | @cons p q ps qs h t ih =>
   rw [List.map_cons,List.map_cons]
   refine .cons ?_ ih
   obtain ⟨h1,h2⟩:=h
   by_cases e:p.1 = k
   · rw [if_pos e,if_pos (h1.symm.trans e)];exact ⟨h1,ry⟩
   · rw [if_neg e,if_neg (fun z=>e (h1.trans z))];exact ⟨h1,h2⟩
theorem KV.put {kvs : List (κ × V)} {vs : List (κ × Value)} (r : KV kvs vs) (k : κ) {y : V} {u : Value} (ry : RelV y u) : KV (putK kvs k y) (stored vs k u) := by
 unfold putK stored
 rw [r.any k]
 by_cases e:(vs.any fun kv=>decide (kv.1 = k)) = true
 · rw [if_pos e,if_pos e];exact r.A1 k ry
 · rw [if_neg e,if_neg e];exact Paired.snoc r ⟨rfl,ry⟩
theorem KV.length {kvs:List (κ×V)} {vs:List (κ×Value)} (r:KV kvs vs):kvs.length = vs.length:=Paired.length r
end
theorem tj {P : Program} {w : World} {k : Key} {u : Value} (r : RelV (kV k) u) : (bK P w).is k u = true := by
 cases k with
 | inl i=>obtain ⟨t,e⟩:=(show ∃ t,u = Value.int i t from r);subst e;exact vy P w i t
 | inr x=>obtain ⟨t,e⟩:=(show ∃ t,u = Value.str x t from r);subst e;exact vG P w x t
theorem so {P : Program} {w : World} : ∀ {ks : List Key} {us : List Value}, aP (ks.map kV) us → ItemsAre (bK P w) ks us
 | [],_,r=>by rw [List.map_nil] at r;cases r;exact .nil
 | k :: ks, _, r => by
   rw [List.map_cons] at r
   cases r with
   | cons h t=>exact .cons (tj h) (so t)
abbrev KT (H:Hp):List (List Key×V)→List (List Key×Addr×Value)→Prop:=Paired fun p q=>p.1 = q.1∧H q.2.1 = some (.tup (p.1.map kV))∧RelV p.2 q.2.2
theorem KT.val {H : Hp} {kvs : List (List Key × V)} {xs : List (List Key × Addr × Value)} (r : KT H kvs xs) (k : List Key) : fQ (dX kvs k) ((atKey xs k).map (·.2)) := by
 induction r with
 | nil=>exact True.intro
 | @cons p q ps qs h t ih =>
   obtain ⟨h1,_,h2⟩:=h
   by_cases e:p.1 = k
   · have e' : q.1 = k := h1.symm.trans e
     have b:atKey (q :: qs) k = some q.2:=by simp [atKey,List.find?_cons,e']
     rw [kM e,b];exact h2
   · have e' : ¬ q.1 = k := fun z => e (h1.trans z)
     have b:atKey (q :: qs) k = atKey qs k:=by simp [atKey,List.find?_cons,e']
     rw [jt e,b];exact ih
theorem KT.A1 {H : Hp} {kvs : List (List Key × V)} {xs : List (List Key × Addr × Value)} (r : KT H kvs xs) (k : List Key) {y : V} {u : Value} (ry : RelV y u) :
   KT H (kvs.map fun kv=>if kv.1 = k then (kv.1,y) else kv) (xs.map (putAt k u)):=by
 induction r with
 | nil=>exact .nil
 | @cons p q ps qs h t ih =>
   rw [List.map_cons,List.map_cons]
   refine .cons ?_ ih
   obtain ⟨h1,h2,h3⟩:=h
   unfold putAt
   by_cases e:p.1 = k
   · rw [if_pos e,if_pos (h1.symm.trans e)];exact ⟨h1,h2,ry⟩
   · rw [if_neg e,if_neg (fun z=>e (h1.trans z))];exact ⟨h1,h2,h3⟩
theorem KT.put {H : Hp} {kvs : List (List Key × V)} {xs : List (List Key × Addr × Value)} (r : KT H kvs xs) (k : List Key) {b : Addr} {y : V} {u : Value} (hb : H b = some (.tup (k.map kV))) (ry : RelV y u) :
   KT H (putK kvs k y) (storedH xs k b u):=by
 have e : (kvs.any fun kv => decide (kv.1 = k)) = (atKey xs k).isSome := by
   rw [kX,(r.val k).mf,Option.isSome_map]
 unfold putK storedH
 rw [e]
 by_cases q:(atKey xs k).isSome = true
 · rw [if_pos q,if_pos q];exact r.A1 k ry
 · rw [if_neg q,if_neg q];exact Paired.snoc r ⟨rfl,hb,ry⟩
theorem KT.keeps {H H' : Hp} {kvs : List (List Key × V)} {xs : List (List Key × Addr × Value)} (r : KT H kvs xs) (ht : ∀ b ys, H b = some (.tup ys) → H' b = some (.tup ys)) : KT H' kvs xs :=
 Paired.B2 r fun _ _ z=>⟨z.1,ht _ _ z.2.1,z.2.2⟩
section
variable {P:Program} {w:World} {H:Hp} {h:Heap} {a:Addr}
theorem Eb {u:HO} (ok:cW P w H h) (e:Rd H a u):bQ P w H h a u:=e.ok ok
theorem iE {kvs : List (Key × V)} (ok : cW P w H h) (e : Rd H a (.dK kvs)) : kvs.length ≤ sizeLine ∧ (a == sysModules) = false ∧ ∃ vs, KV kvs vs ∧ h.DictOf (bK P w) a vs :=
 show bQ P w H h a (.dK kvs) from Eb ok e
theorem EX {kvs:List (Key×V)} (ok:cW P w H h) (e:H a = some (.dK kvs)):kvs.length ≤ sizeLine∧(a == sysModules) = false∧∃ vs,KV kvs vs∧h.DictOf (bK P w) a vs:=iE ok (.inl e)
theorem pq {ks : List Key} (ok : cW P w H h) (e : H a = some (.tup (ks.map kV))) : (tupleKind (bK P w)).is h ks a := by
 obtain ⟨_,its,r,o,h1,h2,n,h3⟩:=(show bQ P w H h a (.tup (ks.map kV)) from ok a _ e)
 exact ⟨o,its.toArray,n,h1,h2,h3,by simpa using so r⟩
theorem sS {kvs : List (List Key × V)} (ok : cW P w H h) (e : Rd H a (.dT kvs)) : kvs.length ≤ sizeLine ∧ (a == sysModules) = false ∧
   ∃ xs,KT H kvs xs∧h.DictOfH (tupleKind (bK P w)) a xs:=by
 obtain ⟨z,y,xs,r,o,es,ep,h1,h2,h3,h4,h5⟩:=(show bQ P w H h a (.dT kvs) from Eb ok e)
 refine ⟨z,y,xs,r,o,es,ep,h1,h2,h3,h4,fun x hx=>?_,h5⟩
 have all : ∀ {l : List (List Key × V)} {m : List (List Key × Addr × Value)}, KT H l m → ∀ x ∈ m, (tupleKind (bK P w)).is h x.1 x.2.1 := by
   intro l m q
   induction q with
   | nil=>intro x hx;exact nomatch hx
   | @cons p q ps qs hq t ih =>
     intro x hx
     rcases List.mem_cons.mp hx with e | hx
     · subst e
       exact pq ok (by rw [← hq.1];exact hq.2.1)
     · exact ih x hx
 exact all r x hx
theorem Li {kvs : List (List Key × V)} (ok : cW P w H h) (e : H a = some (.dT kvs)) : kvs.length ≤ sizeLine ∧ (a == sysModules) = false ∧
   ∃ xs,KT H kvs xs∧h.DictOfH (tupleKind (bK P w)) a xs:=sS ok (.inl e)
end
def gF (H : Hp) (a : Addr) (y : V) (r : Option V) : Prop :=
 (∃ kvs k,Rd H a (.dK kvs)∧y = kV k∧r = dX kvs k)∨∃ kvs k b,Rd H a (.dT kvs)∧y = .ref b∧H b = some (.tup (k.map kV))∧r = dX kvs k
def om (H : Hp) (a : Addr) (y v : V) (H' : Hp) : Prop :=
 (∃ kvs k,H a = some (.dK kvs)∧y = kV k∧kvs.length < sizeLine∧H' = upd H a (.dK (putK kvs k v))) ∨
 ∃ kvs k b,H a = some (.dT kvs)∧y = .ref b∧H b = some (.tup (k.map kV))∧kvs.length < sizeLine∧H' = upd H a (.dT (putK kvs k v))
theorem gF.k {H:Hp} {a:Addr} {kvs:List (Key×V)} {k:Key} (e:H a = some (.dK kvs)):gF H a (kV k) (dX kvs k):=.inl ⟨kvs,k,.inl e,rfl,rfl⟩
theorem om.k {H:Hp} {a:Addr} {kvs:List (Key×V)} {k:Key} {v:V} (e:H a = some (.dK kvs)) (hl:kvs.length < sizeLine):om H a (kV k) v (upd H a (.dK (putK kvs k v))):=.inl ⟨kvs,k,e,rfl,hl,rfl⟩
section
variable {X:Cx} {pins:List (Addr×Obj)} {σ : St} {H:Hp} {s:Shared} {a:Addr} {y v:V} {u r:Value} {o:Option V} {A:Around} {E:Value→Shared→Prop}
theorem Inv.t8 (I : Inv X pins σ H s) : sysModules < s.heap.objs.size := by
 have h:mainGlobals < s.heap.objs.size:=(I.mod.glob.keeps I.bk).lt
 exact Nat.lt_trans (by decide) h
theorem Al {Q : Value → Shared → Prop} (hu : A.units + 1 < cLine) (I : Inv X pins σ H s) (g : gF H a y (some v)) (ry : RelV y u) (h : ∀ w' s', Inv X pins σ H s' → RelV v w' → Q w' s') :
   wpAny (model X.prog X.w) A (getItem (.ref a) u) Q E s:=by
 rcases g with ⟨kvs,k,e,ey,l⟩ | ⟨kvs,k,b,e,ey,eb,l⟩
 · subst ey
   obtain ⟨z,hd,vs,rel,dd⟩:=iE I.ay e
   obtain ⟨w',hw,rw'⟩:=fQ.some_of (v:=v) (o:=valueAt vs k) (by rw [l];exact rel.val k)
   exact wpAny_getItem_of (tj ry) dd.mapOf hw (h w' _ (I.tok _) rw')
 · subst ey
   cases (show u = Value.ref b from ry)
   obtain ⟨z,hd,xs,rel,dd⟩:=sS I.ay e
   obtain ⟨w',hw,rw'⟩:=fQ.some_of (v:=v) (o:=(atKey xs k).map (·.2)) (by rw [l];exact rel.val k)
   obtain ⟨p,hp,hp2⟩:=Option.map_eq_some_iff.mp hw
   refine wpAny_getItem_heap (tupleKind_room_in1 hu) (pq I.ay eb) dd hp ?_
   rw [hp2]
   exact h w' _ (I.tok _) rw'
theorem Mv {Q : Value → Shared → Prop} (hu : A.units + 1 < cLine) (I : Inv X pins σ H s) (g : gF H a y o) (ry : RelV y u) (h : ∀ s', Inv X pins σ H s' → Q (.bool o.isSome) s') :
   wpAny (model X.prog X.w) A (compareOp .In u (.ref a)) Q E s:=by
 rcases g with ⟨kvs,k,e,ey,l⟩ | ⟨kvs,k,b,e,ey,eb,l⟩
 · subst ey
   obtain ⟨z,hd,vs,rel,dd⟩:=iE I.ay e
   refine wpAny_in_of (tj ry) hd dd.mapOf ?_
   rw [← (rel.val k).mf,← l]
   exact h _ (I.tok _)
 · subst ey
   cases (show u = Value.ref b from ry)
   obtain ⟨z,hd,xs,rel,dd⟩:=sS I.ay e
   refine wpAny_in_heap (tupleKind_room_in1 hu) (pq I.ay eb) hd dd ?_
   have q:=(rel.val k).mf
   rw [Option.isSome_map] at q
   rw [← q,← l]
   exact h _ (I.tok _)
theorem qk {h' : Heap} {t' : Nat} {ob : HO} (I : Inv X pins σ H s) (mu : yq (H a)) (hs : Heap.SameBut a s.heap h') (he : ∃ q, h'.get? a = some q) (new : bQ X.prog X.w (upd H a ob) h' a ob) :
   Inv X pins σ (upd H a ob) { s with heap:=h',toks:=t' } :=
 I.write (x:=a) (e:=a) mu (.inl rfl) (fun b q hb z=>(hs.2 b hb).trans z) he new
theorem uZ {P : Program} {w : World} {H' : Hp} {h' : Heap} {kvs : List (Key × V)} {vs : List (Key × Value)} (z : kvs.length ≤ sizeLine) (hd : (a == sysModules) = false) (rel : KV kvs vs) (dd : h'.DictOf (bK P w) a vs) :
   bQ P w H' h' a (.dK kvs):=⟨z,hd,vs,rel,dd⟩
theorem zy {H' : Hp} {Q : Unit → Shared → Prop} (hu : A.units + 1 < cLine) (I : Inv X pins σ H s) (g : om H a y v H') (ry : RelV y u) (rv : RelV v r) (h : ∀ s', Inv X pins σ H' s' → Q () s') :
   wpAny (model X.prog X.w) A (setItem (.ref a) u r) Q E s:=by
 rcases g with ⟨kvs,k,e,ey,l,eH⟩ | ⟨kvs,k,b,e,ey,eb,l,eH⟩
 · subst ey eH
   obtain ⟨z,hd,vs,rel,dd⟩:=EX I.ay e
   have hz:vs.length ≤ sizeLine:=by rw [← rel.length];exact z
   have hl:(putK kvs k v).length ≤ sizeLine:=by have:=nZ kvs k v;omega
   refine wpAny_setItem_pairs (hsz:=hz) (tj ry) dd fun h' dd' hs=>h _ ?_
   have he:∃ q,h'.get? a = some q:=let ⟨q,_,_,hq,_⟩:=dd';⟨q,hq⟩
   exact qk I (by rw [e];exact True.intro) hs he (uZ hl hd (rel.put k rv) dd')
 · subst ey eH
   cases (show u = Value.ref b from ry)
   obtain ⟨z,hd,xs,rel,dd⟩:=Li I.ay e
   have hz:xs.length ≤ sizeLine:=by rw [← Paired.length rel];exact z
   have hl:(putK kvs k v).length ≤ sizeLine:=by have:=nZ kvs k v;omega
   refine wpAny_setItem_heap (hsz:=hz) (tupleKind_room_in1 hu) (pq I.ay eb) dd fun h' dd' hs=>h _ ?_
   obtain ⟨q,es,ep,hq,h2,h3,h4,_,h5⟩:=dd'
   refine qk I (by rw [e];exact True.intro) hs ⟨q,hq⟩ ⟨hl,hd,_,(rel.put k eb rv).keeps fun c ys ec=>?_,q,es,ep,hq,h2,h3,h4,h5⟩
   rw [ao (DA ec e (fun z=>nomatch z))]
   exact ec
end
section
variable {X:Cx} {pins:List (Addr×Obj)} {σ : St} {H:Hp} {s:Shared} {a:Addr} {kvs:List (Key×V)} {k:Key} {u:Value} {A:Around} {E:Value→Shared→Prop}
theorem FI {Q : Value → Shared → Prop} (I : Inv X pins σ H s) (e : H a = some (.dK kvs)) (h : ∀ s', Inv X pins σ (upd H a (.dK [])) s' → Q .none s') : wpAny (model X.prog X.w) A (call (.builtin "dict.clear") [.ref a]) Q E s := by
 obtain ⟨z,hd,vs,rel,dd⟩:=EX I.ay e
 refine call_meetsIn PySem.F.slot_dict_clear dd.typeIs PySem.F.entry_dict_clear (PySem.F.args_dict_clear_1 _) (meets_dict_clear (bK X.prog X.w) a) ⟨vs,dd,by rw [← rel.length];exact z,fun h' dd' hs=>h _ ?_⟩
 have he:∃ q,h'.get? a = some q:=let ⟨q,_,_,hq,_⟩:=dd';⟨q,hq⟩
 exact qk (t':=s.toks) I (by rw [e];exact True.intro) hs he (uZ (Nat.zero_le _) hd .nil dd')
theorem Lk {Q : Value → Shared → Prop} (I : Inv X pins σ H s) (e : Rd H a (.dK kvs)) (h : ∀ t s', Inv X pins σ H s' → Q (.int kvs.length t) s') : wpAny (model X.prog X.w) A (call (.builtin "len") [.ref a]) Q E s := by
 obtain ⟨z,hd,vs,rel,dd⟩:=iE I.ay e
 refine call_len_dict hd dd (by rw [← rel.length];rw [sizeLine_eq] at z;omega) ?_
 rw [← rel.length]
 exact h _ _ (I.tok _)
end
def IV (i:Expr):Prop:=∀ ov iv,subscripted i false ov iv = operate [ov,iv] (getItem ov iv)
theorem FJ {prog : Program} {w : World} {A : Around} {E : Value → Shared → Prop} {s : Shared} {env : Env} {value slice : Expr} {pos : Pos} {T id : String} {Q : Value → Shared → Prop}
   (hl:typeLookup (.type T) "__getitem__" = pure (some (.builtin id))) (hs:IV slice)
   (h:wpAny (model prog w) A (eval value env) (fun o s₁=>wpAny (model prog w) A (eval slice env) (fun i s₂=>s₂.TypeIs o T∧wpAny (model prog w) A (getItem o i) Q E s₂) E s₁) E s) :
   wpAny (model prog w) A (eval (.Subscript value slice pos) env) Q E s:=by
 refine Subscript_ (wpAny_mono h (fun o s₁ h₁=>wpAny_mono h₁ (fun i s₂ h₂=>?_) fun _ _ x=>x) fun _ _ x=>x)
 obtain ⟨hT,h₂⟩:=h₂
 unfold subscriptTail
 refine wpAny_bind ?_
 rw [getitemInPython_of_ne hT.not_modules]
 refine wpAny_bind (wpAny_specialOf hT hl ?_)
 have fin : wpAny (model prog w) A (subscripted slice false o i) (fun r s₃ => wpAny (model prog w) A (letTemporaryGo value o r >>= fun _ => pure r) Q E s₃) E s₂ := by
   rw [hs o i]
   exact wpAny_operating (wpAny_mono h₂ (fun r s₃ h₃=>wpAny_bind (wpAny_letTemporaryGo (wpAny_pure h₃))) fun _ _ x=>x)
 first
   | exact wpAny_pure (wpAny_bind fin)
   | exact wpAny_bind (wpAny_pure (wpAny_bind fin))
   | exact wpAny_bind fin
theorem vw {X : Cx} {pins : List (Addr × Obj)} {σ : St} {H : Hp} {s : Shared} {a : Addr} {y : V} {o : Option V} (I : Inv X pins σ H s) (g : gF H a y o) : s.TypeIs (.ref a) "dict" := by
 rcases g with ⟨kvs,k,e,_,_⟩ | ⟨kvs,k,b,e,_,_,_⟩
 · obtain ⟨_, _, vs, _, dd⟩ := iE I.ay e
   exact dd.typeIs
 · obtain ⟨_, _, xs, _, dd⟩ := sS I.ay e
   exact dd.typeIs
def DV (td ty:TE):TE:=fun σ H Q=>td σ H fun x H1=>ty σ H1 fun y H2=>∃ a v,x = .ref a∧gF H2 a y (some v)∧Q v H2
def G6 (ty td:TE):TE:=fun σ H Q=>ty σ H fun y H1=>td σ H1 fun x H2=>∃ a o,x = .ref a∧gF H2 a y o∧Q (.bl o.isSome) H2
def EW (td ty tv:TE):TS:=fun D σ H=>tv σ H fun v H1=>td σ H1 fun x H2=>ty σ H2 fun y H3=>∃ a H4,x = .ref a∧om H3 a y v H4∧D.nx σ H4
section
variable {X:Cx} {o i e value:Expr} {pos pos' tpos:Pos} {td ty tv:TE}
theorem qy (hu : X.A.units + 1 < cLine) (ho : PE X o td) (hi : PE X i ty) (hs : IV i) : PE X (.Subscript o i pos) (DV td ty) := by
 intro pins s σ H Q I h
 refine FJ PySem.F.slot_dict_getitem.lookup hs (a9 (ho pins s σ H _ I h) fun u s1 ⟨x,H1,I1,rx,q1⟩=>a9 (hi pins s1 σ H1 _ I1 q1) fun iv s2 ⟨y,H2,I2,ry,a,v,ex,g,q2⟩=>?_)
 subst ex
 obtain rfl:u = Value.ref a:=rx
 exact ⟨vw I2 g,Al hu I2 g ry fun w' s3 I3 rw'=>⟨v,H2,I3,rw',q2⟩⟩
theorem zR (hu : X.A.units + 1 < cLine) (hi : PE X i ty) (ho : PE X o td) : PC X .In i o (G6 ty td) := by
 intro pins s σ H Q I h
 refine a9 (hi pins s σ H _ I h) fun iv s1 ⟨y,H1,I1,ry,q1⟩=>a9 (ho pins s1 σ H1 _ I1 q1) fun u s2 ⟨x,H2,I2,rx,a,ov,ex,g,q2⟩=>?_
 subst ex
 obtain rfl:u = Value.ref a:=rx
 exact Mv hu I2 g ry fun s3 I3=>⟨.bl ov.isSome,H2,I3,rfl,q2⟩
theorem wg (hu : X.A.units + 1 < cLine) (ho : PE X o td) (hi : PE X i ty) (hv : PE X value tv) (hs : swapsWith value (some (.Subscript o i pos')) pos.line X.env = pure false) :
   PS X (.Assign [.Subscript o i pos'] value pos) (EW td ty tv):=by
 intro pins s σ H D I h
 refine wpAny_Assign_Subscript (a9 (hv pins s σ H _ I h) fun r s1 ⟨v,H1,I1,rv,q1⟩=>a9 (ho pins s1 σ H1 _ I1 q1) fun u s2 ⟨x,H2,I2,rx,q2⟩=>a9 (hi pins s2 σ H2 _ I2 q2) fun iv s3 ⟨y,H3,I3,ry,a,H4,ex,g,q3⟩=>?_) hs
 subst ex
 obtain rfl:u = Value.ref a:=rx
 exact zy hu I3 g ry rv fun s4 I4=>⟨σ,H4,I4,q3⟩
end
theorem A4 {P : Program} {w : World} {H : Hp} (h : Heap) (hb : sysModules < h.objs.size) : bQ P w H (h.push { cls := .type "dict", data := .dict #[] }) h.objs.size (.dK []) :=
 ⟨Nat.zero_le _,beq_eq_false_iff_ne.mpr (Ne.symm (Nat.ne_of_lt hb)),[],.nil,Heap.DictOf.new h⟩
def zU:TE:=fun _ H Q=>∀ p,H p = none→Q (.ref p) (upd H p (.dK []))
section
variable {X:Cx} {pos:Pos}
theorem jy : PE X (.Dict [] [] pos) zU := fun pins s σ H Q I h =>
 wpAny_Dict_empty ⟨.ref s.heap.objs.size,_,I.laid (a:=s.heap.objs.size) (o:=.dK []) (t':=s.toks) (fun _ _ q=>Heap.get?_push_of_some _ q) (Nat.le_refl _) (A4 s.heap I.t8),rfl,h _ (I.ay.fresh (Nat.le_refl _))⟩
end
section
variable {X:Cx} {pins:List (Addr×Obj)} {σ : St} {H:Hp} {s:Shared} {a:Addr} {y d:V} {u r:Value} {o:Option V} {A:Around} {E:Value→Shared→Prop}
end
section
variable {X:Cx} {o e f:Expr} {apos cpos:Pos} {td ty tx:TE}
end
section
variable {X:Cx} {pins:List (Addr×Obj)} {σ : St} {H:Hp} {s:Shared} {a:Addr} {kvs:List (Key×V)} {A:Around} {E:Value→Shared→Prop}
theorem A_ {Q : Value → Shared → Prop} (I : Inv X pins σ H s) (e : Rd H a (.dK kvs)) (h : ∀ p s', H p = none → Inv X pins σ (upd H p (.dK kvs)) s' → Q (.ref p) s') : wpAny (model X.prog X.w) A (call (.type "dict") [.ref a]) Q E s := by
 obtain ⟨z,hd,vs,rel,dd⟩:=iE I.ay e
 refine kt_call_dict hd dd (by rw [← rel.length];exact z) fun h' dd' hs=>?_
 refine h _ _ (I.ay.fresh (Nat.le_refl _)) (I.laid (a:=s.heap.objs.size) (o:=.dK kvs) (t':=s.toks) (fun b q hq=>?_) (Nat.le_refl _) (uZ z (beq_eq_false_iff_ne.mpr (Ne.symm (Nat.ne_of_lt I.t8))) rel dd'))
 exact (hs.2 b (Nat.ne_of_lt (Heap.lt_size hq))).trans (Heap.get?_push_of_some _ hq)
end
section
variable {X:Cx} {pins:List (Addr×Obj)} {σ : St} {H:Hp} {s:Shared} {a:Addr} {y:V} {u:Value} {A:Around} {E:Value→Shared→Prop}
end
end L2
namespace Att
open PySem PySem.W PySem.Calls PyProof.Rows
theorem pE {P : Params} {h : Heap} : ∀ (ns : List Int) (vs : List Value), WellAll P h vs (ns.map WData.int) → IntsAre vs ns := by
 intro ns
 induction ns with
 | nil =>
   intro vs w
   rw [List.map_nil] at w
   cases w
   exact .nil
 | cons n ns ih =>
   intro vs w
   rw [List.map_cons] at w
   cases w with
   | cons a b =>
     cases a
     exact .cons _ _ (ih _ b)
theorem yY {l : OpenLaw} {n : Nat} (hn : l.most = some n) {P : Params} {h : Heap} {args : List WData} {vals : List Value}
   (hpre:l.row.toRowW.claim.pre args = true) (hwl:WellAll P h vals args) :
   ∃ a vs ns,vals = [Value.ref a]∧args = [WData.list (ns.map WData.int)]∧h.get? a = some { cls:=.type "list",data:=.seq vs.toArray }∧IntsAre vs ns∧ns.length ≤ n:=by
 have hsh:WShape.hasAll [] args [.list .int] = true:=(pre_splitW hpre).1
 have hc:l.pre.holds [] { args:=args } = true:=(pre_splitW hpre).2
 obtain ⟨d,r,rfl,h1,h2⟩:=hasAllW_cons hsh
 obtain rfl:=hasAllW_nil h2
 obtain ⟨xs,rfl,h3⟩:=hasW_list h1
 obtain ⟨ns,rfl⟩:=items_int h3
 have hlen : ns.length ≤ n := by
   unfold OpenLaw.pre at hc
   have h4 : (WTm.not (.lt (.lit (.int (n : Int))) (.len (.arg 0)))).holds [] { args := [.list (ns.map .int)] } = true := by
     have h4:=(holds_andW hc).1
     rw [hn] at h4
     exact h4
   have h5:=condW_of h4 (w_not (w_lt w_lit (w_len_list (w_arg rfl))))
   rw [List.length_map] at h5
   refine Nat.le_of_not_lt fun q=>?_
   have q':(n:Int) < ((ns.length:Nat):Int):=by omega
   first
     | (rw [decide_eq_true q'] at h5;exact absurd h5 (by decide))
     | (simp at h5;omega)
 cases hwl with
 | cons w1 w2 =>
   cases w2
   cases w1 with
   | list ho hall=>exact ⟨_,_,ns,rfl,rfl,ho,pE ns _ hall,hlen⟩
theorem zS (l : OpenLaw) (args : List WData) : l.row.toRowW.claim.post args (.bool true) args = true :=
 postW_of (r := l.row.toRowW) (X := (true == true))
   (show WShape.has [] (.bool true) .bool = true by first | rfl | decide | simp [WShape.has,WShape.arms,WShape.armsAll])
   (show (WTm.eq .res (.lit (.bool true))).value [] { args:=args,res:=some (.bool true),after:=args } = some (.bool (true == true)) from w_eq_bool (w_res rfl) w_lit) rfl
theorem vz {l : OpenLaw} {n : Nat} {q : Program} {loose : List Str} {XP : (Str → Option Value) → Heap → Prop} {YP : World → Heap → Prop} {d : DefRec}
   (hn:l.most = some n) (hdf:d.params.defaults = [])
   (call : ∀ (w : World) (s₀ s₁ : Shared) (mg mb : Str → Option Value) (fa : Addr) (o : Obj) (pm cd doc : Value) (a : Addr) (vs : List Value) (ns : List Int),
     Ground q loose [] XP w s₀ mg mb s₁.heap→YP w s₁.heap →
     s₁.heap.get? fa = some o→o.data = .func (docDef d.name d.params d.body d.scope pm cd doc)→s₁.heap.CodeRec cd d.name→mg d.name = some (.ref fa) →
     s₁.heap.get? a = some { cls:=.type "list",data:=.seq vs.toArray }→IntsAre vs ns→ns.length ≤ n→s₁.gens = #[] →
     codeAny (model l.prog w) callerA (.call (.ref fa) ⟨[.ref a],[]⟩) (fun r s'=>r = .ok (.ret (.bool true))∧OldK s₁.heap s'.heap∧s'.os = s₁.os∧AllBare s'.gens) s₁) :
   WalkO q loose XP YP l.row.toRowW d [] (fun f vs=>PySem.call f vs):=by
 intro w s₀ s₁ mg mb G Y fa o pm cd doc dV kV ho hd hcd hD hmg hg args vals as hpre hlay hrd hwl hlo
 obtain rfl:dV = .none:=Dflts.none hD hdf
 obtain rfl:kV = .none:=Dflts.noKw hD
 obtain ⟨a,vs,ns,rfl,rfl,hobj,hints,hlen⟩:=yY hn hpre hwl
 refine enter_call (codeAny_mono (call w s₀ s₁ mg mb fa o pm cd doc a vs ns G Y ho (fd_plain hd) hcd hmg hobj hints hlen hg) fun r s' hq=>?_)
 obtain ⟨rfl,h2,h3,h4⟩:=hq
 exact ⟨.inl ⟨.bool true,.bool true,[],rfl,fun _=>rfl,.bool true,zS l _,fun _=>⟨List.Pairwise.nil,fun _ hm=>(nomatch hm)⟩⟩,h2,h3,h4⟩
section
variable {prog:Program} {w:World} {A:Around} {E:Value→Shared→Prop} {s:Shared} {K:Frag}
end
end Att
namespace L2
open PySem PySem.Spec PyProof.Rows
theorem si : ∀ {vs : List Value} {ns : List Int}, IntsAre vs ns → aP (ns.map V.int) vs
 | _,_,.nil=>.nil
 | _,_,.cons n t h=>.cons ⟨t,rfl⟩ (si h)
def A7 (H:Hp):Prop:=∀ b,H b = none∨∃ o xs,H b = some (.dj o (.lst xs))
theorem Be {P : Program} {w : World} {K : PySem.W.Frag} {mg mb : Str → Option Value} {CX : eW} {k : Nat} {fa a : Addr} {fd : FuncData} {x : Str} {sp : Sp} {s₁ : Shared} {vs : List Value} {ns : List Int}
   (KX:K.In s₁.heap) (hns:s₁.heap.Ns mainGlobals mg) (hb:s₁.heap.Ns builtinsNs mb) (hbb:∀ x:Str,x ≠ "__name__"→mb x = bootBuiltins x) (hlim:s₁.heap.NoLimit) (hg:s₁.gens = #[])
   (ha:s₁.heap.get? a = some { cls:=.type "list",data:=.seq vs.toArray }) (hi:IntsAre vs ns) (hl:ns.length ≤ sizeLine) (hr:bS k callerA)
   (F:∀ base:Heap,K.In base→base.Ns mainGlobals mg→ez P w K mg base CX k fa fd [x] sp) (hbind:∀ (s:Shared) (u:Value),BindsTo s fd ⟨[u],[]⟩ [(x,u)])
   (hsp:∀ H:Hp,A7 H→az K H a (ns.map V.int)→sp [.ref a] H (fun v _=>v = .bl true) fun _ _ _=>False)
   (hCX:∀ H e s',CX [] H s₁ (fun _ _ _=>False) e s'→False) :
   codeAny (model P w) callerA (.call (.ref fa) ⟨[.ref a],[]⟩) (fun r s'=>r = .ok (.ret (.bool true))∧OldK s₁.heap s'.heap∧s'.os = s₁.os∧AllBare s'.gens) s₁:=by
 have rv:=si hi
 have lenV:=hi.length
 -- from an abstract heap in which nothing but the script may be tracked
 have core : ∀ H : Hp, A7 H → az K H a (ns.map V.int) → cW P w H s₁.heap → (∀ b, H b ≠ none → b = a) → (H a ≠ none → K.lookup a = none) →
     codeAny (model P w) callerA (.call (.ref fa) ⟨[.ref a],[]⟩) (fun r s'=>r = .ok (.ret (.bool true))∧OldK s₁.heap s'.heap∧s'.os = s₁.os∧AllBare s'.gens) s₁:=by
   intro H hO hS ay hA hK
   have base_of:∀ {b:Addr} {o:Obj},s₁.heap.get? b = some o→H b = none→(la s₁.heap H).get? b = some o:=fun e n=>Br e n
   have noA : ∀ {b : Addr} {o : Obj} {es : Array DictEntry} {ep : Nat}, s₁.heap.get? b = some o → o.data = .dict es ep → H b = none := fun {b o es ep} e d => by
     cases q:H b with
     | none=>rfl
     | some u =>
       have e':b = a:=hA b (by rw [q];simp)
       subst e'
       rw [ha] at e;cases e
       have d':Data.seq vs.toArray _ = Data.dict es ep:=d
       cases d'
   have nsK:∀ {b:Addr} {m:Str→Option Value},s₁.heap.Ns b m→(la s₁.heap H).Ns b m:=fun {b m} ⟨o,es,ep,e,d,r⟩=>⟨o,es,ep,base_of e (noA e d),d,r⟩
   have hKb : K.In (la s₁.heap H) := fun b o e => base_of (KX b o e) (by
     cases q:H b with
     | none=>rfl
     | some u =>
       have e':b = a:=hA b (by rw [q];simp)
       subst e'
       rw [hK (by rw [q];simp)] at e;cases e)
   have hM:Mod K mg (la s₁.heap H):=⟨hKb,nsK hns,⟨mb,nsK hb,hbb⟩,let ⟨mc,h1,h2⟩:=hlim;⟨mc,nsK h1,h2⟩⟩
   have e0:oy P w K mg (la s₁.heap H) callerA [] s₁ H:=⟨rfl,hM,fun b o e=>FC e,Nat.le_of_eq (yC _ _),trivial,fun b hb=>absurd (show b ∈ ([]:List Addr) from hb) (by simp),ay,.of_eq hg⟩
   refine codeAny_mono ((F _ hKb (nsK hns)).run callerA [] s₁ H ⟨[.ref a],[]⟩ [.ref a] [.ref a] _ _ hr e0 (hbind s₁ (.ref a)) (.cons rfl .nil) (hsp H hO hS)) fun r s' h=>?_
   cases r with
   | error e=>exact (hCX H e s' h).elim
   | ok fl =>
     cases fl with
     | next=>exact False.elim h
     | brk=>exact False.elim h
     | cont=>exact False.elim h
     | ret u =>
       obtain ⟨v,H',os,bare,un,hok',r',q⟩:=h
       have q':v = .bl true:=q
       subst q'
       obtain rfl:u = Value.bool true:=r'
       refine ⟨rfl,OldK.of_keep fun b o e=>?_,os,bare⟩
       cases q:H b with
       | none=>exact un.keep b o e q (by intro z;exact absurd (show b ∈ ([]:List Addr) from z) (by simp)) (by simp)
       | some u =>
         rcases hO b with z | ⟨ob,xs,z⟩
         · rw [q] at z;cases z
         · have z2 := un.gZ b ob _ z
           obtain ⟨e1,_⟩:=ay b _ z
           obtain ⟨e2,_⟩:=hok' b _ z2
           rw [e] at e1;cases e1
           exact e2
 cases hk:K.lookup a with
 | some o =>
   -- the script is one of the module's own objects
   have e:=KX a o hk
   rw [ha] at e
   cases e
   refine core (fun _=>none) (fun _=>.inl rfl) (.inr ⟨_,vs.toArray,_,hk,rfl,rfl,rfl,by rw [List.size_toArray,lenV];exact hl,by simpa using rv⟩) (fun b u z=>by have z':(none:Option HO) = some u:=z;cases z') (fun b z=>absurd rfl z) fun z=>absurd rfl z
 | none =>
   refine core (fun b=>if b = a then some (.dj { cls:=.type "list",data:=.seq vs.toArray } (.lst (ns.map V.int))) else none) (fun b=>?_) (.inl (.inr ⟨{ cls:=.type "list",data:=.seq vs.toArray },if_pos rfl⟩)) (fun b u z=>?_) (fun b z=>?_) fun _=>hk
   · by_cases hb : b = a
     · exact .inr ⟨_,_,if_pos hb⟩
     · exact .inl (if_neg hb)
   · by_cases hb : b = a
     · have z' := (if_pos hb).symm.trans z
       cases z'
       subst hb
       exact ⟨ha,by rw [List.length_map];exact hl,vs,_,rv,ha⟩
     · have z' := (if_neg hb).symm.trans z
       cases z'
   · by_cases hb : b = a
     · exact hb
     · exact absurd (if_neg hb) z
end L2
namespace L2
open PySem PySem.Spec PyProof.Rows
abbrev KI {K:PySem.W.Frag} {h:Heap} (_:K.In h):PySem.W.Frag:=K
theorem Gb {l : PySem.W.OpenLaw} {n k : Nat} {q : Program} {loose : List Str} {XP : (Str → Option Value) → Heap → Prop} {YP : World → Heap → Prop} {d : DefRec} {K : Params → PySem.W.Frag} {CX : World → eW} {sp : World → Sp} {x : Str}
   (hn:l.most = some n) (hn2:n ≤ sizeLine) (hdf:d.params.defaults = []) (hr:bS k callerA)
   (hY:∀ (w:World) (h:Heap),YP w h→(K w.params).In h)
   (F : ∀ (w : World) (mg : Str → Option Value) (fa : Addr) (h : Heap), (K w.params).In h → h.Ns mainGlobals mg → mg d.name = some (.ref fa) →
     ∃ fd : FuncData, (∀ (s : Shared) (u : Value), BindsTo s fd ⟨[u], []⟩ [(x, u)]) ∧
       ∀ base:Heap,(K w.params).In base→base.Ns mainGlobals mg→ez l.prog w (K w.params) mg base (CX w) k fa fd [x] (sp w))
   (hsp:∀ (w:World) (H:Hp) (a:Addr) (ns:List Int),ns.length ≤ n→A7 H→az (K w.params) H a (ns.map V.int)→sp w [.ref a] H (fun v _=>v = .bl true) fun _ _ _=>False)
   (hCX:∀ (w:World) (H:Hp) (s:Shared) (e:Value) (s':Shared),CX w [] H s (fun _ _ _=>False) e s'→False) :
   PySem.W.WalkO q loose XP YP l.row.toRowW d [] (fun f vs=>PySem.call f vs):=by
 refine Att.vz hn hdf fun w s₀ s₁ mg mb fa o pm cd doc a vs ns G Y ho hd hcd hmg hobj hints hlen hg=>?_
 have KX:=hY w _ Y
 obtain ⟨fd,hb,hF⟩:=F w mg fa _ KX G.T.g hmg
 exact Be KX G.T.g G.T.b G.T.builtins G.T.nolimit hg hobj hints (Nat.le_trans hlen hn2) hr hF hb (fun H hO hS=>hsp w H a ns hlen hO hS) fun H e s'=>hCX w H s₁ e s'
end L2
namespace L2
open PySem PySem.Spec PyProof.Rows
def inClass (s : Stmt) (j : Nat) : Stmt := match s with
 | .ClassDef _ _ _ body _ _ _ _ _ _ _=>body.getD j (.Pass ⟨0,0,0,0⟩)
 | _=>.Pass ⟨0,0,0,0⟩
def ax (s : Stmt) : Arguments := match s with
 | .FunctionDef _ a _ _ _ _ _ _ _ _=>a
 | _=>{ posonlyargs:=[],args:=[],vararg:=none,kwonlyargs:=[],kw_defaults:=[],kwarg:=none,defaults:=[] }
def au (s : Stmt) : List Stmt := match s with
 | .FunctionDef _ _ b _ _ _ _ _ _ _=>b
 | _=>[]
def ae (s : Stmt) : Scope := match s with
 | .FunctionDef _ _ _ _ _ _ sc _ _ _=>sc
 | _=>{ kind:=.function,names:=[],isGenerator:=false,isCoroutine:=false }
abbrev ba:eW:=fun _ _ _ _ _ _=>False
abbrev E0:XK:=fun _ _ _=>False
theorem aO {X:Cx}:ei ba X E0:=fun _ _ _ _ _ _ _ h=>h.elim
structure bc (K : PySem.W.Frag) (x qual : Str) (st : Stmt) (f : Addr) (fd : FuncData) : Prop where
 ex : ∃ (oc : Value) (od : Option Addr) (kV doc pm : Value) (an : Option Addr) (cdv ct : Value) (osl : Array (Option Value)),
   fd = PySem.W.fnOf x qual (ax st) (au st) (ae st) .none kV doc pm an cdv ct∧K.lookup f = some ⟨oc,od,.func fd,osl⟩∧PySem.W.codeIn K cdv qual = true
 kp:PySem.W.keepIn K (.ref f) = true
section
variable {P:Program} {w:World} {K:PySem.W.Frag} {mg:Str→Option Value} {base:Heap}
theorem bc.ok {x qual : Str} {st : Stmt} {f : Addr} {fd : FuncData} {N ps : List Str} {k : Nat} {sp : Sp} (F : bc K x qual st f fd) (S : aA N ps (ae st)) (len : ∀ vs H Q E, sp vs H Q E → vs.length = ps.length)
   (hbody : ∀ (cdv : Value) (A : Around) (outer : List Env) (s : Shared) (H : Hp) (vs : List V) (Q : VK) (E : XK), bS k (A.deeper (envOfC qual (ae st) s.heap.objs.size f cdv)) → sp vs H Q E →
     ∃ t,iO (fN ba P w K mg base N qual (ae st) f cdv A outer s H E).cw (au st) t∧t { nx:=fun _ H'=>Q .aH H',rt:=Q } (start N vs) H):ez P w K mg base ba (k + 1) f fd ps sp:=by
 obtain ⟨oc,od,kV,doc,pm,an,cdv,ct,osl,rfl,lk,hcd⟩:=F.ex
 refine tf lk hcd S len fun A outer s H vs Q E hr hsp=>?_
 obtain ⟨t,h,q⟩:=hbody cdv A outer s H vs Q E hr hsp
 exact ⟨t,h.cw,q⟩
theorem bc.binds {x qual : Str} {st : Stmt} {f : Addr} {fd : FuncData} {ps : List Str} (F : bc K x qual st f fd)
   (h:∀ (kV doc pm:Value) (an:Option Addr) (cdv ct:Value) (us:List Value),us.length = ps.length→bindArgs (PySem.W.fnOf x qual (ax st) (au st) (ae st) .none kV doc pm an cdv ct) ⟨us,[]⟩ = pure (ps.zip us)):Binds K fd ps []:=by
 obtain ⟨oc,od,kV,doc,pm,an,cdv,ct,osl,rfl,lk,hcd⟩:=F.ex
 exact .all (h kV doc pm an cdv ct)
theorem aj {x qual : Str} {st : Stmt} {f : Addr} {oc : Value} {od an : Option Addr} {osl : Array (Option Value)} {kV doc pm cdv ct : Value} (l : K.lookup f = some ⟨oc, od, .func (PySem.W.fnOf x qual (ax st) (au st) (ae st) .none kV doc pm an cdv ct), osl⟩)
   (c:PySem.W.codeIn K cdv qual = true) (k:PySem.W.keepIn K (.ref f) = true):bc K x qual st f (PySem.W.fnOf x qual (ax st) (au st) (ae st) .none kV doc pm an cdv ct):=⟨⟨oc,od,kV,doc,pm,an,cdv,ct,osl,rfl,l,c⟩,k⟩
end
theorem ll {A:Around} {k:Nat} (hr:bS k A):A.units + 1 < cLine:=Nat.lt_of_le_of_lt (Nat.add_le_add_left (by decide : 1 ≤ 64) _) hr.units
section
variable {X:Cx}
theorem pv (i : Nat) {x : Str} {pos : Pos} (hN : X.N[i]? = some x := by rfl) (hv : KP X.env.scope x := by first | exact Or.inl rfl | exact Or.inr (Or.inl rfl) | exact Or.inr (Or.inr rfl)) (hd : (x == ("__debug__" : Str)) = false := by decide)
   (hcd:(x == ("__classdict__" : Str)) = false:=by decide):PE X (.Name x pos) (bE i):=J3 hN hv hd hcd
theorem Av : cJ X (.builtin "len") (fun xs H Q => ∃ a kvs, xs = [V.ref a] ∧ H a = some (.dK kvs) ∧ Q (.int kvs.length) H) := by
 intro pins s σ H xs us Q I r h
 obtain ⟨a,kvs,rfl,ha,q⟩:=h
 obtain ⟨u,rfl,ru⟩:=vals1 r
 cases ru
 exact Lk I (.inl ha) fun t s' I'=>⟨.int kvs.length,H,I',⟨t,rfl⟩,q⟩
end
theorem My {A B : Prop} (h : B) : if false = true then A else B := by
 rw [if_neg Bool.false_ne_true]
 exact h
theorem Mg {A B : Prop} (h : A) : if true = true then A else B := by
 rw [if_pos rfl]
 exact h
def ar (H H':Hp):Prop:=∀ b o,H b = some o→H' b = some o
theorem ar.refl (H:Hp):ar H H:=fun _ _ h=>h
theorem ar.trans {H H1 H2:Hp} (a:ar H H1) (b:ar H1 H2):ar H H2:=fun c o h=>b c o (a c o h)
theorem ar.seq {K : PySem.W.Frag} {H H' : Hp} {a : Addr} {xs : List V} (e : ar H H') (h : az K H a xs) : az K H' a xs := by
 rcases h with (h | ⟨o,h⟩) | h
 · exact .inl (.inl (e _ _ h))
 · exact .inl (.inr ⟨o,e _ _ h⟩)
 · exact .inr h
section
variable {κ : Type} [DecidableEq κ]
end
end L2
namespace Bt
theorem IK (a b : Nat) (h : a &&& b = 0) : a + b = a ||| b := by
 have ha:a < 2 ^ (a + b + 1):=Nat.lt_of_lt_of_le Nat.lt_two_pow_self (Nat.pow_le_pow_right (by decide) (by omega))
 have hb:b < 2 ^ (a + b + 1):=Nat.lt_of_lt_of_le Nat.lt_two_pow_self (Nat.pow_le_pow_right (by decide) (by omega))
 have hab:a + b < 2 ^ (a + b + 1):=Nat.lt_of_lt_of_le Nat.lt_two_pow_self (Nat.pow_le_pow_right (by decide) (by omega))
 have e := BitVec.add_eq_or_of_and_eq_zero (BitVec.ofNat (a + b + 1) a) (BitVec.ofNat (a + b + 1) b) (by
   apply BitVec.eq_of_toNat_eq
   rw [BitVec.toNat_and,BitVec.toNat_ofNat,BitVec.toNat_ofNat,Nat.mod_eq_of_lt ha,Nat.mod_eq_of_lt hb,h]
   simp)
 have e2:=congrArg BitVec.toNat e
 rw [BitVec.toNat_or,BitVec.toNat_add,BitVec.toNat_ofNat,BitVec.toNat_ofNat,Nat.mod_eq_of_lt ha,Nat.mod_eq_of_lt hb,Nat.mod_eq_of_lt hab] at e2
 exact e2
def wo (s p:Nat):Nat:=s - (s &&& p)
theorem K1 (s p : Nat) : wo s p = s ^^^ (s &&& p) := by
 unfold wo
 have h : (s ^^^ (s &&& p)) + (s &&& p) = s := by
   have e : (s ^^^ (s &&& p)) &&& (s &&& p) = 0 := by
     apply Nat.eq_of_testBit_eq;intro i
     simp only [Nat.testBit_and,Nat.testBit_xor,Nat.zero_testBit]
     cases s.testBit i <;> cases p.testBit i <;> rfl
   rw [IK _ _ e]
   apply Nat.eq_of_testBit_eq;intro i
   simp only [Nat.testBit_or,Nat.testBit_and,Nat.testBit_xor]
   cases s.testBit i <;> cases p.testBit i <;> rfl
 omega
theorem o_ (s p i : Nat) : (wo s p).testBit i = (s.testBit i && !p.testBit i) := by
 rw [K1];simp only [Nat.testBit_and,Nat.testBit_xor]
 cases s.testBit i <;> cases p.testBit i <;> rfl
end Bt
namespace L3
open PySem PySem.Spec PyProof.Rows L2
abbrev St:=L2.St
def hV (its:List Value):Obj:={ cls:=.type "list",data:=.seq its.toArray its.length }
theorem yJ (its : List Value) (y : Value) : ({ cls := .type "list", data := .seq (its.toArray.push y) (its.length + 1) } : Obj) = hV (its ++ [y]) := by
 show ({ cls:=.type "list",data:=.seq (its.toArray.push y) (its.length + 1) }:Obj) = { cls:=.type "list",data:=.seq (its ++ [y]).toArray (its ++ [y]).length }
 rw [List.length_append,List.length_singleton,List.push_toArray]
section
variable {prog:Program} {w:World} {A:Around} {R:Result→Shared→Prop} {s:Shared}
theorem vE {elt target iter : Expr} {ifs : List Expr} {scope : Scope} {pos : Pos} {it acc : Value} {env : Env} (I : Nat → Shared → Prop)
   (turn : ∀ n s, I n s → wpAny (model prog w) A (pyNext it) (fun r s1 => match r with
     | none=>R (.ok .next) s1
     | some v => wpAny (model prog w) A (letOwnedTupleGo target it v) (fun _ s2 => wpAny (model prog w) A (assign target env v) (fun _ s3 =>
         wpAny (model prog w) A (forIn ifs true fun c r => if r = true then do let ok ← isTrue c env (eval c env); pure (ForInStep.yield ok) else pure (ForInStep.yield r)) (fun ok s4 =>
           if ok = true then wpAny (model prog w) A (eval elt env) (fun x s5 =>
             wpAny (model prog w) A (call (.builtin "list.append") [acc,x]) (fun _ s6=>∃ m,m < n∧I m s6) (notedBy (model prog w) A env fun e s'=>R (.error e) s') s5) (notedBy (model prog w) A env fun e s'=>R (.error e) s') s4
           else ∃ m,m < n∧I m s4) (notedBy (model prog w) A env fun e s'=>R (.error e) s') s3) (notedBy (model prog w) A env fun e s'=>R (.error e) s') s2)
         (notedBy (model prog w) A env fun e s'=>R (.error e) s') s1) (notedBy (model prog w) A env fun e s'=>R (.error e) s') s)
   (n:Nat) (h:I n s) :
   codeAny (model prog w) A (.compLoop (.ListComp elt [⟨target,iter,ifs,0⟩] scope pos) 0 it acc env) R s:=by
 refine codeAny_loop rfl I (fun n s hI=>?_) n h
 show wpAny _ A ((compTurn (.ListComp elt [⟨target,iter,ifs,0⟩] scope pos) 0 it acc env).onRaise (fun x=>do noteFrame x env;theTreesLotGoes x)) _ _ s
 refine wpAny_noted ?_
 rw [compTurn_list]
 refine wpAny_bind (wpAny_standAt (wpAny_bind (wpAny_mono (turn n s hI) (fun r s1 h1=>?_) fun _ _ h'=>h')))
 cases r with
 | none=>exact wpAny_pure h1
 | some v =>
   refine wpAny_bind (wpAny_mono h1 (fun _ s2 h2=>?_) fun _ _ h'=>h')
   refine wpAny_bind (wpAny_mono h2 (fun _ s3 h3=>wpAny_bind (wpAny_mono h3 (fun ok s4 h4=>?_) fun _ _ h'=>h')) fun _ _ h'=>h')
   cases ok with
   | false=>exact wpAny_pure ⟨rfl,h4⟩
   | true =>
     exact wpAny_bind (wpAny_bind (wpAny_mono h4 (fun x s5 h5=>wpAny_bind (wpAny_mono h5 (fun _ s6 h6=>wpAny_pure (wpAny_pure ⟨rfl,h6⟩)) fun _ _ h'=>h')) fun _ _ h'=>h'))
end
def bZ (X : Cx) (scope : Scope) (cl : List (Str × Addr)) (own : List Str) (fr : List (Str × Nat)) (C : Addr) (s2 : Shared) (H2 : Hp) (fp : List Addr) : Cx :=
 { prog := X.prog, w := X.w, K := X.K, mg := X.mg, base := X.base, A := X.A, N := own ++ fr.map (·.1), s₀ := s2, H₀ := H2, env := compEnvC scope cl C X.env, outer := X.stack, stack := X.stack,
   ex:=fp,fn:=fun _=>false,calm:=X.calm,pn:=[],xe:=fun _ _=>False }
def lU (own:List Str) (fr:List (Str×Nat)) (σ : St):St:=own.map (fun _=>none) ++ fr.map fun p=>(σ[p.2]?).join
def uE (env : Env) : List (Str × Addr) → Prop
 | []=>True
 | (n,c) :: r=>env.cells.lookup n = some c∧uE env r
theorem uE.get {env : Env} : ∀ {cl : List (Str × Addr)} {x : Str} {c : Addr}, uE env cl → cl.lookup x = some c → env.cells.lookup x = some c
 | [],_,_,_,h=>by simp at h
 | (n, d) :: r, x, c, ok, h => by
   rw [List.lookup_cons] at h
   cases e:x == n with
   | true =>
     rw [e] at h
     have e':x = n:=by simpa using e
     cases h
     rw [e']
     exact ok.1
   | false =>
     rw [e] at h
     exact uE.get ok.2 h
def sY (sc:Scope) (x:Str):Prop:=sc.names.lookup x = some .cell∨sc.names.lookup x = some .free
def t7 (X : Cx) (scope : Scope) (cl : List (Str × Addr)) : List (Str × Nat) → Prop
 | []=>True
 | (x,j) :: r=>(X.N[j]? = some x∧sY X.env.scope x∧sY (relabel scope X.env) x∧(cl.lookup x).isSome = true)∧t7 X scope cl r
theorem t7.get {X : Cx} {scope : Scope} {cl : List (Str × Addr)} : ∀ {fr : List (Str × Nat)} {i : Nat} {p : Str × Nat}, t7 X scope cl fr → fr[i]? = some p →
   X.N[p.2]? = some p.1∧sY X.env.scope p.1∧sY (relabel scope X.env) p.1∧(cl.lookup p.1).isSome = true
 | [],_,_,_,h=>by simp at h
 | (x, j) :: r, 0, p, ok, h => by
   simp at h
   subst h
   exact ok.1
 | (x,j) :: r,i + 1,p,ok,h=>t7.get (i:=i) ok.2 (by simpa using h)
structure um (X : Cx) (scope : Scope) (cl : List (Str × Addr)) (own : List Str) (fr : List (Str × Nat)) : Prop where
 Ik:closureFor scope X.env = pure cl
 cells:uE X.env cl
 eh:t7 X scope cl fr
 kind:scope.kind = .function
 za:∀ y ∈ scope.names,y.2 ≠ .cell
 names:∀ y ∈ scope.names,y.2 = .local→scope.names.lookup y.1 = some .local
 has:(scope.names.all fun y=>y.2 != .free || (cl.lookup y.1).isSome) = true
theorem iN {env : Env} {cl : List (Str × Addr)} : ∀ {names : List (Str × NameKind)} {x : Str}, (∀ y ∈ names, y.2 ≠ .cell) → (names.all fun y => y.2 != .free || (cl.lookup y.1).isSome) = true →
   ((names.map fun (n, k) => if (k == NameKind.free && env.scope.kind == .function && env.kindOf n == some .cell) then (n, NameKind.cell) else (n, k)).lookup x = some .cell ∨
    (names.map fun (n,k)=>if (k == NameKind.free && env.scope.kind == .function && env.kindOf n == some .cell) then (n,NameKind.cell) else (n,k)).lookup x = some .free)→∃ c,cl.lookup x = some c
 | [],_,_,_,h=>by rcases h with h | h <;> simp at h
 | (n, k) :: r, x, nc, ha, h => by
   rw [List.all_cons,Bool.and_eq_true] at ha
   have ih:=@iN env cl r x (fun y hy=>nc y (List.mem_cons_of_mem _ hy)) ha.2
   have nk:k ≠ .cell:=nc (n,k) List.mem_cons_self
   have hk:=ha.1
   cases hx:x == n with
   | true =>
     have ex:x = n:=by simpa using hx
     subst ex
     by_cases hf:k = .free
     · subst hf
       have z:(cl.lookup x).isSome = true:=by simpa using hk
       exact Option.isSome_iff_exists.mp z
     · exfalso
       have hb:(k == NameKind.free) = false:=by simpa using hf
       rcases h with h | h
       · rw [List.map_cons] at h
         simp only [hb,Bool.false_and,Bool.false_eq_true,if_false,List.lookup_cons,beq_self_eq_true] at h
         exact nk (Option.some.inj h)
       · rw [List.map_cons] at h
         simp only [hb,Bool.false_and,Bool.false_eq_true,if_false,List.lookup_cons,beq_self_eq_true] at h
         exact hf (Option.some.inj h)
   | false =>
     refine ih ?_
     rcases h with h | h
     · left
       rw [List.map_cons] at h
       by_cases hc:(k == NameKind.free && env.scope.kind == .function && env.kindOf n == some .cell) = true
       · simp only [hc,if_true,List.lookup_cons,hx] at h;exact h
       · simp only [hc,Bool.false_eq_true,if_false,List.lookup_cons,hx] at h;exact h
     · right
       rw [List.map_cons] at h
       by_cases hc:(k == NameKind.free && env.scope.kind == .function && env.kindOf n == some .cell) = true
       · simp only [hc,if_true,List.lookup_cons,hx] at h;exact h
       · simp only [hc,Bool.false_eq_true,if_false,List.lookup_cons,hx] at h;exact h
def Ai (Y : Cx) (ifs : List Expr) (t : TT) : Prop :=
 ∀ (pins : List (Addr × Obj)) (s : Shared) (σ : St) (H : Hp) (Q : Bool → Hp → Prop), Inv Y pins σ H s → t σ H Q →
   wpAny (model Y.prog Y.w) Y.A (forIn ifs true fun c r=>if r = true then do let ok ← isTrue c Y.env (eval c Y.env);pure (ForInStep.yield ok) else pure (ForInStep.yield r)) (TP Y pins σ Q) Y.xe s
def EA:TT:=fun _ H Q=>Q true H
theorem gm {Y:Cx}:Ai Y [] EA:=fun _ _ _ H _ I h=>wpAny_tests_nil ⟨H,I,h⟩
theorem nz {Y:Cx} {c:Expr} {t:TT} (h:PT Y c t):Ai Y [c] t:=fun pins s σ H Q I hw=>wpAny_tests_one (h pins s σ H Q I hw)
def xX (own : List Str) (fr : List (Str × Nat)) (wi : TI) (g : TG) (tc : TT) (te : TE) (fin : List V → Hp → Prop) : St → Hp → Prop := fun σ H => wi σ H fun J H1 =>
 ∃ W : Nat → Nat → List V → St → Hp → Prop, (∃ m, W 0 m [] (lU own fr σ) H1) ∧ ∀ i m ys σ' H', W i m ys σ' H' →
   (J.stop i H'∧ys.length ≤ sizeLine∧fin ys H') ∨
   (J.go i H' ∧ ∃ N : List V → St → Hp → Prop, (∀ ys2 σ2 H2, N ys2 σ2 H2 → ys2.length ≤ sizeLine ∧ ∃ m', m' < m ∧ W (i + 1) m' ys2 σ2 H2) ∧
     ∀ x H2,J.uX i H' x H2→g x σ' H2 fun σ3 H3=>tc σ3 H3 fun b H4=>if b = true then te σ3 H4 fun y H5=>N (ys ++ [y]) σ3 H5 else N ys σ3 H4)
structure Off (X : Cx) (pins : List (Addr × Obj)) (H : Hp) (C : Addr) : Prop where
 none:H C = none
 loc:C ≠ X.env.locals
 above:X.s₀.heap.objs.size ≤ C
 cell:∀ x c,X.env.cells.lookup x = some c→c ≠ C
 pin:∀ p ∈ X.pn ++ pins,p.1 ≠ C
section
variable {X:Cx} {tg elt iter:Expr} {ifs:List Expr} {scope:Scope} {cl:List (Str×Addr)} {own:List Str} {fr:List (Str×Nat)} {wi:TI} {g:TG} {tc:TT} {te:TE} {pos:Pos}
theorem sd (hc : X.calm = true) (S : um X scope cl own fr) (hi : PI X tg iter wi) (hg : ∀ C s2 H2 fp, PG (bZ X scope cl own fr C s2 H2 fp) tg g)
   (ht:∀ C s2 H2 fp,Ai (bZ X scope cl own fr C s2 H2 fp) ifs tc) (he:∀ C s2 H2 fp,PE (bZ X scope cl own fr C s2 H2 fp) elt te)
   {pins:List (Addr×Obj)} {s:Shared} {σ : St} {H:Hp} {fin:List V→Hp→Prop} (I:Inv X pins σ H s) (h:xX own fr wi g tc te fin σ H)
   {RR:Value→Addr→Result→Shared→Prop}
   (hR:∀ (D C:Addr) (s4:Shared) (H3:Hp) (ys:List V) (m:Str→Option Value),H3 D = none→Inv X pins σ (upd H3 D (.lst ys)) s4→s4.heap.Ns C m→Off X pins (upd H3 D (.lst ys)) C→fin ys H3→RR (.ref D) C (.ok .next) s4) :
   wpAny (model X.prog X.w) X.A (eval iter X.env) (fun x s1 => wpAny (model X.prog X.w) X.A (pyIter x) (fun itv s2 => wpAny (model X.prog X.w) X.A (newList []) (fun acc s3 =>
     wpAny (model X.prog X.w) X.A (newFunctionEnv scope X.env.globals cl [] X.env.qual none .none (some X.env)) (fun cenv s4 =>
       codeAny (model X.prog X.w) X.A (.compStart (.ListComp elt [⟨tg,iter,ifs,0⟩] scope pos) 0 itv acc { cenv with scope:=relabel scope X.env }) (RR acc cenv.locals) s4) X.xe s3) X.xe s2) X.xe s1) X.xe s:=by
 refine a9 (hi pins s σ H _ I h) fun v s1 h1=>a9 h1 fun itv s2 h2=>?_
 obtain ⟨it,fp,tn,J,H2,rfl,I2,T,st2,f2,W,⟨m0,w0⟩,turn⟩:=h2
 refine wpAny_newObj_type (wpAny_newFunctionEnv S.za (by intro y hy;simp at hy) (fun h1 hns1 hsb1=>?_) S.kind)
 dsimp only at hns1 hsb1 ⊢
 generalize hHP:s2.heap.push { cls:=.type "list",dict:=none,data:=.seq ([]:List Value).toArray } = HP at hns1 hsb1 ⊢
 have hC:HP.objs.size = s2.heap.objs.size + 1:=by rw [← hHP,Heap.size_push]
 have hDC:s2.heap.objs.size ≠ HP.objs.size:=by rw [hC];exact Nat.ne_of_lt (Nat.lt_succ_self _)
 have below:∀ b,b < s2.heap.objs.size→b ≠ HP.objs.size∧b ≠ s2.heap.objs.size:=fun b hb=>⟨by rw [hC];exact Nat.ne_of_lt (Nat.lt_succ_of_lt hb),Nat.ne_of_lt hb⟩
 have old:∀ b o,s2.heap.get? b = some o→h1.get? b = some o:=fun b o e=>hsb1.extBut b o (below b (Heap.lt_size e)).1 (Heap.get?_push_of_some _ (hHP ▸ Heap.get?_push_of_some _ e))
 have hacc:h1.get? s2.heap.objs.size = some (hV []):=hsb1.extBut _ _ hDC (Heap.get?_push_of_some _ (hHP ▸ Heap.get?_push_size _ rfl))
 have hfpo:∀ b ∈ fp,b < s2.heap.objs.size:=fun b hb=>by obtain ⟨o,e,_⟩:=T.obj 0 _ st2 b hb;exact Heap.lt_size e
 have hcells:∀ x c,cl.lookup x = some c→X.env.cells.lookup x = some c:=fun x c e=>S.cells.get e
 have hcD:∀ x c,X.env.cells.lookup x = some c→c < s2.heap.objs.size:=fun x c e=>by obtain ⟨v,q⟩:=I2.cell x c e;exact q.lt
 have st1:tn 0 h1:=T.keep _ _ _ st2 fun b _ o e=>old b o e
 have hDfree:H2 s2.heap.objs.size = none:=I2.ay.fresh (Nat.le_refl _)
 have hCfree:H2 HP.objs.size = none:=I2.ay.fresh (by rw [hC];exact Nat.le_succ _)
 have nostk : ∀ b, s2.heap.objs.size ≤ b → b ∉ L2.eh X.stack := fun b hb hm => by
   rcases List.mem_cons.mp (I2.mL b hm) with e | e
   · exact absurd I2.lt (by rw [← e];exact Nat.not_lt.mpr hb)
   · exact I2.Ks hb e
 have hDlt:s2.heap.objs.size < h1.objs.size:=Heap.lt_size hacc
 -- the block's context
 have YOk : (bZ X scope cl own fr HP.objs.size s2 H2 fp).Ok := by
   refine ⟨I2.ok.mod, S.kind, I2.ok.glob, I2.ok.blt, ?_, fun x y c e1 e2 => I2.ok.inj x y c (hcells _ _ e1) (hcells _ _ e2), fun x hx => ?_, fun x c hf => ?_, I2.ok.hd, I2.ok.frames, .inl rfl, fun b hb => ⟨?_, fun x c e => ?_⟩,
     I2.bs,Nat.le_trans I2.ok.nY I2.sz,fun b o e hb=>?_,fun b hb hm=>?_,I2.stack,I2.nj⟩
   · show s2.heap.objs.size ≤ HP.objs.size
     rw [hC];exact Nat.le_succ _
   · exact iN (env:=X.env) S.za S.has hx
   · cases hf
   · exact (below b (hfpo b hb)).1
   · exact (f2 b hb).2.2.2.2.1 x c (hcells _ _ e)
   · rcases (f2 b hb).2.2.2.1 with z | z
     · exact I2.ok.oi b o e z
     · exact absurd (Heap.lt_size (I2.ok.bs b o e).1) (Nat.not_lt.mpr z)
   · rcases List.mem_cons.mp (I2.mL b hm) with e | e
     · exact (f2 b hb).2.1 e
     · exact (f2 b hb).2.2.1 e
 have hpinD : ∀ {h' : Heap} {its : List Value} {H' : Hp}, h'.get? s2.heap.objs.size = some (hV its) → H' s2.heap.objs.size = none → ∀ p ∈ ([(s2.heap.objs.size, hV its)] : List (Addr × Obj)),
     h'.get? p.1 = some p.2∧H' p.1 = none∧p.1 ≠ HP.objs.size∧p.1 ∉ L2.eh X.stack∧∀ v,p.2.data ≠ .cell v:=fun {h' its H'} e n p hp=>by
   have e1:p = (s2.heap.objs.size,hV its):=by simpa using hp
   subst e1
   exact ⟨e,n,hDC,nostk _ (Nat.le_refl _),fun v z=>by cases z⟩
 have IY : Inv (bZ X scope cl own fr HP.objs.size s2 H2 fp) [(s2.heap.objs.size, hV [])] (lU own fr σ) H2 { s2 with heap := h1, toks := s2.toks + ([] : List (Str × Value)).length } := by
   refine ⟨YOk,rfl,I2.bare,Un.kept old,⟨_,hns1,fun i x v e1 e2 e3=>?_⟩,fun x c e=>?_,hCfree,fun x c e=>I2.fC x c (hcells _ _ e),hpinD hacc hDfree,I2.ay.kept old,?_⟩
   · have e1' : (own ++ fr.map (·.1))[i]? = some x := e1
     have e2':(own.map (fun _=>(none:Option V)) ++ fr.map fun p=>(σ[p.2]?).join)[i]? = some (some v):=e2
     by_cases hi':i < own.length
     · rw [List.getElem?_append_left (by simpa using hi'), List.getElem?_map] at e2'
       rw [List.getElem?_eq_getElem hi'] at e2'
       cases e2'
     · rw [List.getElem?_append_right (by simpa using hi'), List.getElem?_map] at e2'
       rw [List.getElem?_append_right (Nat.not_lt.mp hi'),List.getElem?_map] at e1'
       rw [List.length_map] at e2'
       cases ef:fr[i - own.length]? with
       | none=>rw [ef] at e1';cases e1'
       | some p =>
         rw [ef] at e1' e2'
         have ex:p.1 = x:=Option.some.inj e1'
         have ev:(σ[p.2]?).join = some v:=Option.some.inj e2'
         obtain ⟨hN,hk,hk2,hs⟩:=S.eh.get ef
         have eσ : σ[p.2]? = some (some v) := by
           cases q : σ[p.2]? with
           | none=>rw [q] at ev;cases ev
           | some o=>rw [q] at ev;exact congrArg some ev
         obtain ⟨m,hn,hl⟩:=I2.loc
         obtain ⟨u,r,l⟩:=hl p.2 p.1 v hN eσ (by rcases hk with k | k;exact .inr (.inl k);exact .inr (.inr k))
         subst ex
         obtain ⟨c,ec⟩:=Option.isSome_iff_exists.mp hs
         refine ⟨u,r,.inr ⟨hk2,c,ec,?_⟩⟩
         rcases l with ⟨hl1,_⟩ | ⟨_,c',ec',z⟩
         · have hl1' : X.env.scope.names.lookup p.1 = some .local := hl1
           rcases hk with z | z
           · rw [z] at hl1';cases hl1'
           · rw [z] at hl1';cases hl1'
         · have := hcells _ _ ec
           rw [ec'] at this
           cases this
           exact z.keeps old
   · obtain ⟨v, z⟩ := I2.cell x c (hcells _ _ e)
     exact ⟨v,z.keeps old⟩
   · show (own.map (fun _ => (none : Option V)) ++ fr.map fun p => (σ[p.2]?).join).length = (own ++ fr.map (·.1)).length
     simp
 have stat : ∀ {its : List Value} {H' : Hp}, (∀ b ∈ fp, H' b = none) → ∀ b ∈ fp, l7 (bZ X scope cl own fr HP.objs.size s2 H2 fp) [(s2.heap.objs.size, hV its)] H' b := fun {its H'} hn b hb =>
   ⟨hn b hb, (below b (hfpo b hb)).1, fun hm => by
       rcases List.mem_cons.mp (I2.mL b hm) with e | e
       · exact (f2 b hb).2.1 e
       · exact (f2 b hb).2.2.1 e,.inl hb,fun x c e=>(f2 b hb).2.2.2.2.1 x c (hcells _ _ e),fun p hp=>by
       have e1 : p = (s2.heap.objs.size, hV its) := by
         have hp':p ∈ ([]:List (Addr×Obj)) ++ [(s2.heap.objs.size,hV its)]:=hp
         simpa using hp'
       subst e1
       exact (below b (hfpo b hb)).2.symm⟩
 have loop : ∀ s3 : Shared, s3 = { s2 with heap := h1, toks := s2.toks + ([] : List (Str × Value)).length } →
     codeAny (model X.prog X.w) X.A (.compLoop (.ListComp elt [⟨tg,iter,ifs,0⟩] scope pos) 0 (.ref it) (.ref s2.heap.objs.size) (compEnvC scope cl HP.objs.size X.env)) (RR (.ref s2.heap.objs.size) HP.objs.size) s3:=by
   rintro s3 rfl
   refine vE (fun n s' => ∃ i ys its σ' H', Inv (bZ X scope cl own fr HP.objs.size s2 H2 fp) [(s2.heap.objs.size, hV its)] σ' H' s' ∧ aP ys its ∧ tn i s'.heap ∧ (∀ b ∈ fp, H' b = none) ∧ W i n ys σ' H') ?_ m0
     ⟨0,[],[],lU own fr σ,H2,IY,.nil,st1,fun b hb=>(f2 b hb).1,w0⟩
   rintro n s3 ⟨i,ys,its,σ3,H3,I3,rv,st3,fr3,w3⟩
   rcases turn i n ys σ3 H3 w3 with ⟨stop,hz,qn⟩ | ⟨go,N,hN,step⟩
   · refine wpAny_mono (T.done (bZ X scope cl own fr HP.objs.size s2 H2 fp) rfl rfl rfl hc i _ s3 σ3 H3 (fun _ _ => False) I3 (stat fr3) st3 stop) (fun r s4 h4 => ?_) fun _ _ f => f.elim
     obtain ⟨hr,I4⟩:=h4
     subst hr
     obtain ⟨eD,nD,_⟩:=I4.pin (s2.heap.objs.size,hV its) (by simp [bZ])
     obtain ⟨m,hn,_⟩:=id I4.loc
     have nC:H3 HP.objs.size = none:=I4.free
     have bu:=I4.base
     have J4 : Inv X pins σ (upd H3 s2.heap.objs.size (.lst ys)) s4 := by
       refine I2.nu (ch:=fp) I4.os ⟨fun b o e n hb hx=>bu.keep b o e n hb hx,fun b o e n hb hx=>bu.slot b o e n hb hx,fun b o e n hx=>?_,fun b o e hx=>bu.there b o e hx,fun b xs e=>?_,fun b o u e=>?_,fun b ps e=>?_⟩ ?_ I4.bare ?_
       · rw [ao (below b (Heap.lt_size e)).2];exact bu.free b o e n hx
       · have z := bu.iR b xs e
         rw [ao (av z nD)];exact z
       · have z := bu.gZ b o u e
         rw [ao (av z nD)];exact z
       · obtain ⟨more, z⟩ := bu.iS b ps e
         exact ⟨more,by rw [ao (av z nD)];exact z⟩
       · intro b o e
         by_cases hb:b = s2.heap.objs.size
         · subst hb
           rw [ah] at e
           cases e
           exact ⟨hz,its,its.length,rv,eD⟩
         · rw [ao hb] at e
           exact (I4.ay b o e).iA (fun c u _ q=>q) (fun c q=>by rw [ao (av q nD)];exact q) fun c xs q=>by rw [ao (av q nD)];exact q
       · intro b hb
         exact ⟨(f2 b hb).2.2.2.1,(f2 b hb).2.1,(f2 b hb).2.2.2.2.1,(f2 b hb).2.2.2.2.2⟩
     refine hR _ _ s4 H3 ys m nD J4 hn ⟨?_,?_,?_,?_,?_⟩ qn
     · rw [ao hDC.symm];exact nC
     · exact Nat.ne_of_gt (Nat.lt_of_lt_of_le I2.lt (by rw [hC];exact Nat.le_succ _))
     · exact Nat.le_trans I2.sz (by rw [hC];exact Nat.le_succ _)
     · exact fun x c e=>(below c (hcD x c e)).1
     · exact fun p hp=>(below p.1 (Heap.lt_size (I2.pin p hp).1)).1
   · refine wpAny_mono (T.item (bZ X scope cl own fr HP.objs.size s2 H2 fp) rfl rfl rfl hc i _ s3 σ3 H3 (fun _ _ => False) I3 (stat fr3) st3 go) (fun r s4 h4 => ?_) fun _ _ f => f.elim
     obtain ⟨u,hr,h4⟩:=h4
     subst hr
     refine wpAny_mono h4 (fun _ s5 h5=>?_) fun _ _ f=>f.elim
     obtain ⟨x,H5,I5,r5,y5,st5,fr5⟩:=h5
     have I5':=I5.pinned (stat fr5) (T.obj _ _ st5)
     refine wpAny_mono (hg _ _ _ _ _ s5 σ3 H5 x u _ I5' r5 (step x H5 y5)) (fun _ s6 h6=>?_) fun _ _ f=>f.elim
     obtain ⟨σ6,H6,I6,q6⟩:=h6
     refine wpAny_mono (ht _ _ _ _ _ s6 σ6 H6 _ I6 q6) (fun ok s7 h7=>?_) fun _ _ f=>f.elim
     obtain ⟨H7,I7,q7⟩:=h7
     have keepT : ∀ {σ8 : St} {H8 : Hp} {s8 : Shared} {l : List (Addr × Obj)}, Inv (bZ X scope cl own fr HP.objs.size s2 H2 fp) (l ++ iL fp s5.heap) σ8 H8 s8 → tn (i + 1) s8.heap ∧ ∀ b ∈ fp, H8 b = none := fun {σ8 H8 s8 l} I8 => by
       refine ⟨T.keep _ _ _ st5 fun b hb o e=>(I8.pin (b,o) (List.mem_append_right _ (List.mem_append_right _ (i0 hb e)))).1,fun b hb=>?_⟩
       obtain ⟨o,e,_⟩:=T.obj _ _ st5 b hb
       exact (I8.pin (b,o) (List.mem_append_right _ (List.mem_append_right _ (i0 hb e)))).2.1
     cases ok with
     | false =>
       rw [if_neg Bool.false_ne_true] at q7 ⊢
       obtain ⟨_,m',hm,w7⟩:=hN _ _ _ q7
       exact ⟨m',hm,i + 1,ys,its,σ6,H7,I7.kB,rv,(keepT I7).1,(keepT I7).2,w7⟩
     | true =>
       rw [if_pos rfl] at q7 ⊢
       refine wpAny_mono (he _ _ _ _ _ s7 σ6 H7 _ I7 q7) (fun y s8 h8=>?_) fun _ _ f=>f.elim
       obtain ⟨yv,H8,I8,r8,n8⟩:=h8
       obtain ⟨hlt',m',hm,w8⟩:=hN _ _ _ n8
       have hlt:ys.length < sizeLine:=by rw [List.length_append] at hlt';exact hlt'
       obtain ⟨eD,nD,nL,_,_⟩:=I8.pin (s2.heap.objs.size,hV its) (by simp [bZ])
       refine append_at (its:=its.toArray) (n:=its.length) (hsz:=by rw [List.size_toArray,← rv.length];exact Nat.le_of_lt hlt) eD fun h9 sb9 eD9=>?_
       have I8p:Inv (bZ X scope cl own fr HP.objs.size s2 H2 fp) (iL fp s5.heap) σ6 H8 s8:=I8.m9 fun p hp=>I8.pin p (List.mem_append_right _ (List.mem_append_right _ hp))
       have I9p : Inv (bZ X scope cl own fr HP.objs.size s2 H2 fp) (iL fp s5.heap) σ6 H8 { s8 with heap := h9 } :=
         I8p.turned (t' := s8.toks) (fun b o hb e => (sb9.2 b hb).trans e) nD nL (.inr (Nat.le_refl _)) (fun x c e => (below c (hcD x c (hcells _ _ e))).2) fun p hp => by
           have hp':p ∈ iL fp s5.heap:=by simpa [bZ] using hp
           exact (below p.1 (hfpo _ (r_ hp').1)).2
       have eD9':h9.get? s2.heap.objs.size = some (hV (its ++ [y])):=eD9.trans (congrArg some (yJ its y))
       have I9:Inv (bZ X scope cl own fr HP.objs.size s2 H2 fp) [(s2.heap.objs.size,hV (its ++ [y]))] σ6 H8 { s8 with heap:=h9 }:=I9p.m9 (hpinD eD9' nD)
       have K9:=keepT (l:=[]) (by simpa using I9p)
       exact ⟨m',hm,i + 1,ys ++ [yv],its ++ [y],σ6,H8,I9,rv.append (.cons r8 .nil),K9.1,K9.2,w8⟩
 exact codeAny_compStart_list (loop _ rfl) (T.self _ 0 _ _ _ st1 (loop _ rfl))
def tT (own:List Str) (fr:List (Str×Nat)) (wi:TI) (g:TG) (tc:TT) (te:TE):TE:=fun σ H Q=>xX own fr wi g tc te (fun ys H3=>∀ p,H3 p = none→Q (.ref p) (upd H3 p (.lst ys))) σ H
theorem gL (hc : X.calm = true) (S : um X scope cl own fr) (hi : PI X tg iter wi) (hg : ∀ C s2 H2 fp, PG (bZ X scope cl own fr C s2 H2 fp) tg g)
   (ht:∀ C s2 H2 fp,Ai (bZ X scope cl own fr C s2 H2 fp) ifs tc) (he:∀ C s2 H2 fp,PE (bZ X scope cl own fr C s2 H2 fp) elt te)
   (hs:∀ x,foldedSetIterable iter X.env x = pure x:=by intro _;rfl):PE X (.ListComp elt [⟨tg,iter,ifs,0⟩] scope pos) (tT own fr wi g tc te):=by
 intro pins s σ H Q I h
 rw [eval_ListComp]
 refine wpAny_comprehension_free (use:=none) rfl hs S.Ik S.kind S.names ?_
 refine sd hc S hi hg ht he I h fun D C s4 H3 ys m nD J hn off q=>?_
 refine ⟨m,hn,fun h' sb=>⟨.ref D,_,J.turned (t':=s4.toks) (fun b o hb e=>(sb.2 b hb).trans e) off.none off.loc (.inr off.above) off.cell off.pin,rfl,q D nD⟩⟩
def Ab (i:Nat) (own:List Str) (fr:List (Str×Nat)) (wi:TI) (g:TG) (tc:TT) (te:TE):TS:=fun D σ H=>xX own fr wi g tc te (fun ys H3=>∀ p,H3 p = none→D.nx (σ.set i (some (.ref p))) (upd H3 p (.lst ys))) σ H
theorem j4 {i : Nat} {y : Str} {py spos : Pos} (hN : X.N.Nodup) (hi' : X.N[i]? = some y) (hx : X.env.scope.names.lookup y = some .local) (hc : X.calm = true) (S : um X scope cl own fr) (hi : PI X tg iter wi) (hg : ∀ C s2 H2 fp, PG (bZ X scope cl own fr C s2 H2 fp) tg g)
   (ht:∀ C s2 H2 fp,Ai (bZ X scope cl own fr C s2 H2 fp) ifs tc) (he:∀ C s2 H2 fp,PE (bZ X scope cl own fr C s2 H2 fp) elt te)
   (hsw:swapsWith (.ListComp elt [⟨tg,iter,ifs,0⟩] scope pos) (some (.Name y py)) spos.line X.env = pure true:=by rfl)
   (hs:∀ x,foldedSetIterable iter X.env x = pure x:=by intro _;rfl):PS X (.Assign [.Name y py] (.ListComp elt [⟨tg,iter,ifs,0⟩] scope pos) spos) (Ab i own fr wi g tc te):=by
 intro pins s σ H D I h
 rw [exec_Assign_Name_used _ _ _ _ hsw]
 refine wpAny_bind (wpAny_standAt (wpAny_bind ?_))
 show wpAny _ X.A (do let _ ← comprehension (.ListComp elt [⟨tg,iter,ifs,0⟩] scope pos) scope X.env _ (newList []) false (eval iter X.env) (some (assign (.Name y py) X.env))) _ _ s
 refine wpAny_bind (wpAny_mono (wpAny_comprehension_free (use:=some (assign (.Name y py) X.env)) (Q:=fun _ s'=>SP X pins D .next s') rfl hs S.Ik S.kind S.names ?_) (fun _ s' hq=>wpAny_pure (wpAny_pure hq)) fun _ _ e=>e)
 refine sd hc S hi hg ht he I h fun Da C s4 H3 ys m nD J hn off q=>?_
 show wpAny _ X.A (assign (.Name y py) X.env (.ref Da)) _ _ _
 refine wpAny_assign_Name (sh J hN hi' (.inl hx) (v:=.ref Da) rfl (fun s5 I5 hsb=>?_) (.inr hx))
 obtain ⟨a,sb,ha⟩:=hsb
 have nCa : C ≠ a := by
   rcases ha with z | z
   · rw [z];exact off.loc
   · exact (off.cell _ _ z).symm
 refine ⟨m,hn.sameBut sb nCa,fun h' sb'=>⟨_,_,I5.turned (t':=s5.toks) (fun b o hb e=>(sb'.2 b hb).trans e) off.none off.loc (.inr off.above) off.cell off.pin,q Da nD⟩⟩
end
section
variable {K:PySem.W.Frag} {a:Addr} {xs:List V} {own:List Str} {fr:List (Str×Nat)} {g:TG} {tc:TT} {te:TE} {fin:List V→Hp→Prop} {σ : St} {H:Hp}
def jN (J : It) (g : TG) (tc : TT) (te : TE) (fin : List V → Hp → Prop) (σ0 : St) (H1 : Hp) : Prop :=
 ∃ W : Nat → Nat → List V → St → Hp → Prop, (∃ m, W 0 m [] σ0 H1) ∧ ∀ i m ys σ' H', W i m ys σ' H' →
   (J.stop i H'∧ys.length ≤ sizeLine∧fin ys H') ∨
   (J.go i H' ∧ ∃ N : List V → St → Hp → Prop, (∀ ys2 σ2 H2, N ys2 σ2 H2 → ys2.length ≤ sizeLine ∧ ∃ m', m' < m ∧ W (i + 1) m' ys2 σ2 H2) ∧
     ∀ x H2,J.uX i H' x H2→g x σ' H2 fun σ3 H3=>tc σ3 H3 fun b H4=>if b = true then te σ3 H4 fun y H5=>N (ys ++ [y]) σ3 H5 else N ys σ3 H4)
theorem f9 {σ0 : St} (Pv : Nat → List V → St → Hp → Prop) (h0 : Pv 0 [] σ0 H) (hl : ∀ i ys σ H, i ≤ xs.length → Pv i ys σ H → az K H a xs ∧ ys.length ≤ sizeLine)
   (hs:∀ i x ys σ H,xs[i]? = some x→Pv i ys σ H→g x σ H fun σ3 H3=>tc σ3 H3 fun b H4=>if b = true then te σ3 H4 fun y H5=>Pv (i + 1) (ys ++ [y]) σ3 H5 else Pv (i + 1) ys σ3 H4)
   (hd:∀ ys σ H,Pv xs.length ys σ H→fin ys H):jN (sk K a) g tc te fin σ0 H:=by
 refine ⟨fun i m ys σ H=>m = xs.length - i∧i ≤ xs.length∧Pv i ys σ H,⟨xs.length,by simp,Nat.zero_le _,h0⟩,?_⟩
 rintro i m ys σ H ⟨rfl,hi,p⟩
 obtain ⟨q,hz⟩:=hl i ys σ H hi p
 by_cases hlt:i < xs.length
 · refine .inr ⟨⟨xs, xs[i], q, by simp [hlt]⟩, Pv (i + 1), fun ys2 σ2 H2 p' => ⟨(hl (i + 1) ys2 σ2 H2 hlt p').2, xs.length - (i + 1), by omega, rfl, hlt, p'⟩, fun x H2 y => ?_⟩
   obtain ⟨e,y⟩:=y
   subst e
   exact hs i x ys σ _ (y xs q) p
 · have e : i = xs.length := by omega
   subst e
   exact .inl ⟨⟨xs,q,Nat.le_refl _⟩,hz,hd ys σ H p⟩
theorem kL {σ0 : St} {lo : Int} {n : Nat} (Pv : Nat → List V → St → Hp → Prop) (h0 : Pv 0 [] σ0 H) (hl : ∀ i ys σ H, i ≤ n → Pv i ys σ H → ys.length ≤ sizeLine)
   (hs:∀ i ys σ H,i < n→Pv i ys σ H→g (.int (lo + i)) σ H fun σ3 H3=>tc σ3 H3 fun b H4=>if b = true then te σ3 H4 fun y H5=>Pv (i + 1) (ys ++ [y]) σ3 H5 else Pv (i + 1) ys σ3 H4)
   (hd:∀ ys σ H,Pv n ys σ H→fin ys H):jN (rO lo n) g tc te fin σ0 H:=by
 refine ⟨fun i m ys σ H=>m = n - i∧i ≤ n∧Pv i ys σ H,⟨n,by simp,Nat.zero_le _,h0⟩,?_⟩
 rintro i m ys σ H ⟨rfl,hi,p⟩
 by_cases hlt:i < n
 · refine .inr ⟨hlt, Pv (i + 1), fun ys2 σ2 H2 p' => ⟨hl (i + 1) ys2 σ2 H2 hlt p', n - (i + 1), by omega, rfl, hlt, p'⟩, fun x H2 y => ?_⟩
   obtain ⟨e,y⟩:=y
   subst e y
   exact hs i ys σ _ hlt p
 · have e : i = n := by omega
   subst e
   exact .inl ⟨Nat.le_refl _,hl _ ys σ H hi p,hd ys σ H p⟩
end
end L3
namespace L3
open PySem PySem.Spec PyProof.Rows L2 PySem.SeqAt
theorem aC {H : Hp} {p q : Addr} {o u : HO} (hq : H q = some u) (hp : H p = none) : upd H p o q = some u := by
 rw [ao (av hq hp)];exact hq
theorem qa {H : Hp} {p q : Addr} {o : HO} {u : Option HO} (hne : q ≠ p) (hq : H q = u) : upd H p o q = u := by
 rw [ao hne];exact hq
theorem f6 {H : Hp} {p q : Addr} {o : HO} (h : upd H p o q = none) : H q = none ∧ q ≠ p := by
 by_cases e:q = p
 · subst e;rw [ah] at h;cases h
 · rw [ao e] at h;exact ⟨h,e⟩
theorem aq {H:Hp} {p:Addr} {o:HO} (h:H p = none):ar H (upd H p o):=fun b u q=>aC q h
theorem fz {H H1 : Hp} {p : Addr} {o : HO} (s : ar H H1) (h : H p = none) : ar H (upd H1 p o) := fun b u q => by
 rw [ao (av q h)];exact s b u q
theorem bG {K : PySem.W.Frag} {H H' : Hp} {a : Addr} {xs : List V} (e : ar H H') (h : aW K H a xs) : aW K H' a xs := by
 rcases h with (h | ⟨o,h⟩) | h
 · exact .inl (.inl (e _ _ h))
 · exact .inl (.inr ⟨o,e _ _ h⟩)
 · exact .inr h
mutual
def Dp (K : PySem.W.Frag) (H : Hp) : PyData → V → Prop
 | .none,v=>v = .aH
 | .bool b,v=>v = .bl b
 | .int i,v=>v = .int i
 | .str x,v=>v = .str x
 | .list ds,v=>∃ a xs,v = .ref a∧az K H a xs∧eX K H ds xs
 | .tuple ds,v=>∃ a xs,v = .ref a∧aW K H a xs∧eX K H ds xs
 | .dict _,_=>False
def eX (K : PySem.W.Frag) (H : Hp) : List PyData → List V → Prop
 | [],vs=>vs = []
 | d :: ds,vs=>∃ v r,vs = v :: r∧Dp K H d v∧eX K H ds r
end
theorem pj {K : PySem.W.Frag} {H : Hp} : ∀ ns : List Int, eX K H (ns.map PyData.int) (ns.map V.int)
 | []=>by rw [List.map_nil,List.map_nil,eX]
 | n :: ns => by
   rw [List.map_cons,List.map_cons,eX]
   exact ⟨_,_,rfl,by rw [Dp],pj ns⟩
theorem vR {K : PySem.W.Frag} {H : Hp} {a : Addr} {ns : List Int} (h : az K H a (ns.map V.int)) : Dp K H (.list (ns.map PyData.int)) (.ref a) := by
 rw [Dp];exact ⟨a,_,rfl,h,pj ns⟩
theorem gf {K:PySem.W.Frag} {H:Hp} (i:Int):Dp K H (.int i) (.int i):=by rw [Dp]
theorem AH {K : PySem.W.Frag} {H : Hp} {a : Addr} {xs : List V} {ds : List PyData} (h : az K H a xs) (q : eX K H ds xs) : Dp K H (.list ds) (.ref a) := by
 rw [Dp];exact ⟨a,_,rfl,h,q⟩
theorem lW {K : PySem.W.Frag} {H : Hp} {a : Addr} {xs : List V} {ds : List PyData} (h : aW K H a xs) (q : eX K H ds xs) : Dp K H (.tuple ds) (.ref a) := by
 rw [Dp];exact ⟨a,_,rfl,h,q⟩
theorem gM {K:PySem.W.Frag} {H:Hp}:eX K H [] []:=by rw [eX]
theorem bX {K : PySem.W.Frag} {H : Hp} {d : PyData} {ds : List PyData} {v : V} {r : List V} (h : Dp K H d v) (q : eX K H ds r) : eX K H (d :: ds) (v :: r) := by
 rw [eX];exact ⟨_,_,rfl,h,q⟩
theorem jX : ∀ ns : List Int, PyData.canLayAll0 (ns.map PyData.int) = true
 | []=>rfl
 | n :: ns => by
   rw [List.map_cons,PyData.canLayAll0,jX ns];rfl
theorem kF : ∀ ns : List Int, PyData.depthAll (ns.map PyData.int) = 0
 | []=>rfl
 | n :: ns => by
   rw [List.map_cons,PyData.depthAll,kF ns];rfl
theorem shaped_ints (ns : List Int) : shaped (.list (ns.map PyData.int)) = true := by
 unfold shaped
 rw [PyData.canLay0,jX,PyData.depth,kF];rfl
section
variable {X:Cx} {pins:List (Addr×Obj)} {σ : St} {H:Hp} {s:Shared}
mutual
theorem jE (I : Inv X pins σ H s) : ∀ (d : PyData) (v : V) (u : Value), Dp X.K H d v → RelV v u → ∃ as, Reads s.heap u d as
 | .none, v, u, h, r => by
   rw [Dp] at h;subst h;cases (show u = Value.none from r);exact ⟨_,.none⟩
 | .bool b, v, u, h, r => by
   rw [Dp] at h;subst h;cases (show u = Value.bool b from r);exact ⟨_,.bool b⟩
 | .int i, v, u, h, r => by
   rw [Dp] at h;subst h;obtain ⟨t,e⟩:=(show ∃ t,u = Value.int i t from r);subst e;exact ⟨_,.int i t⟩
 | .str x, v, u, h, r => by
   rw [Dp] at h;subst h;obtain ⟨t,e⟩:=(show ∃ t,u = Value.str x t from r);subst e;exact ⟨_,.str x t⟩
 | .list ds, v, u, h, r => by
   rw [Dp] at h
   obtain ⟨a,xs,e,hq,ha⟩:=h
   subst e
   cases (show u = Value.ref a from r)
   obtain ⟨its,rv,pl,hz⟩:=I.list hq
   obtain ⟨o,ho,hc,n,hd⟩:=pl.isList
   obtain ⟨as,z⟩:=jY I ds xs its ha rv
   exact ⟨_,.list ho hc hd (by simpa using z)⟩
 | .tuple ds, v, u, h, r => by
   rw [Dp] at h
   obtain ⟨a,xs,e,hq,ha⟩:=h
   subst e
   cases (show u = Value.ref a from r)
   obtain ⟨its,rv,pl,hz⟩:=I.tuple hq
   obtain ⟨o,ho,hc,n,hd⟩:=pl
   obtain ⟨as,z⟩:=jY I ds xs its ha rv
   exact ⟨_,.tuple ho hc hd (by simpa using z)⟩
 | .dict _,v,u,h,r=>by rw [Dp] at h;exact h.elim
theorem jY (I : Inv X pins σ H s) : ∀ (ds : List PyData) (vs : List V) (us : List Value), eX X.K H ds vs → aP vs us → ∃ as, ReadsAll s.heap us ds as
 | [], vs, us, h, r => by
   rw [eX] at h;subst h;cases r;exact ⟨_,.nil⟩
 | d :: ds, vs, us, h, r => by
   rw [eX] at h
   obtain ⟨v,rr,e,h1,h2⟩:=h
   subst e
   cases r with
   | cons r1 r2 =>
     obtain ⟨as,z1⟩:=jE I d _ _ h1 r1
     obtain ⟨bs,z2⟩:=jY I ds _ _ h2 r2
     exact ⟨_,.cons z1 z2⟩
end
end
def J5 (K:PySem.W.Frag):R2:=fun x y H Q=>∃ dx dy,Dp K H dx x∧Dp K H dy y∧shaped dx = true∧shaped dy = true∧Q (.bl (PyData.eqv dx dy)) H
def Hu (K:PySem.W.Frag):R2:=fun x y H Q=>∃ dx dy,Dp K H dx x∧Dp K H dy y∧shaped dx = true∧shaped dy = true∧Q (.bl (!PyData.eqv dx dy)) H
def oo (K:PySem.W.Frag):R2:=fun x y H Q=>L1 x y H Q∨J5 K x y H Q
def k8 (K:PySem.W.Frag):R2:=fun x y H Q=>L0 x y H Q∨Hu K x y H Q
section
variable {X:Cx}
theorem Jc (hu : X.A.units + 64 < cLine) : bJ X (compareOp .Eq) (J5 X.K) := by
 intro pins s σ H x y v u Q I rx ry h
 obtain ⟨dx,dy,hx,hy,sx,sy,q⟩:=h
 obtain ⟨as,ra⟩:=jE I dx x v hx rx
 obtain ⟨bs,rb⟩:=jE I dy y u hy ry
 exact eq_dataH ra rb sx sy hu ⟨.bl _,H,I,rfl,q⟩
theorem Jb (hu : X.A.units + 64 < cLine) : bJ X (compareOp .NotEq) (Hu X.K) := by
 intro pins s σ H x y v u Q I rx ry h
 obtain ⟨dx,dy,hx,hy,sx,sy,q⟩:=h
 obtain ⟨as,ra⟩:=jE I dx x v hx rx
 obtain ⟨bs,rb⟩:=jE I dy y u hy ry
 exact ne_dataH ra rb sx sy hu ⟨.bl _,H,I,rfl,q⟩
theorem IL (hu:X.A.units + 64 < cLine):bJ X (compareOp .Eq) (oo X.K):=Lv.or (Jc hu)
theorem Il (hu:X.A.units + 64 < cLine):bJ X (compareOp .NotEq) (k8 X.K):=K8.or (Jb hu)
end
theorem CA {K:PySem.W.Frag} {x y:V} {H:Hp} {Q:VK} (h:xN x y = true) (q:Q (.bl (decide (x = y))) H):oo K x y H Q:=.inl ⟨h,q⟩
theorem Cy {K:PySem.W.Frag} {x y:V} {H:Hp} {Q:VK} (h:xN x y = true) (q:Q (.bl (!decide (x = y))) H):k8 K x y H Q:=.inl ⟨h,q⟩
def iJ : V → Value
 | .ty n=>.type n
 | .ref a=>.ref a
 | _=>.none
theorem tP {c : V} {u : Value} (r : RelV c u) (h : iJ c ≠ .none) : u = iJ c := by
 cases c <;> first | exact r | exact (h rfl).elim
def uP (K:PySem.W.Frag):List V→Hp→VK→Prop:=fun xs H Q=>∃ x c t b,xs = [x,c]∧iJ c ≠ .none∧eG K H x t∧PySem.W.kitOne K t (iJ c) = some b∧Q (.bl b) H
theorem Bq {X : Cx} : cJ X (.builtin "isinstance") (uP X.K) := by
 intro pins s σ H xs us Q I r h
 obtain ⟨x,c,t,b,rfl,hc,ty,e,q⟩:=h
 obtain ⟨u,w',rfl,rx,rc⟩:=vals2 r
 cases tP rc hc
 exact zj I rx ty e fun tk=>⟨.bl b,H,I.tok _,rfl,q⟩
theorem gk {K:PySem.W.Frag} {x c:V} {H:Hp} {Q:VK} {t:Value} {b:Bool} (hc:iJ c ≠ .none) (ty:eG K H x t) (e:PySem.W.kitOne K t (iJ c) = some b) (q:Q (.bl b) H):uP K [x,c] H Q:=⟨x,c,t,b,rfl,hc,ty,e,q⟩
theorem xc:typeLookup (.type "bool") "__index__" = pure (some (.builtin "int.__index__")):=by rw [typeLookup_type,builtinLookup_eq_fast];kernel_rfl
theorem lZ {M : Model} {A : Around} {E : Value → Shared → Prop} {s : Shared} {b : Bool} {Q : Option Int → Shared → Prop} (h : Q (some (if b then 1 else 0)) s) :
   wpAny M A (Builtin.List.listSubscript? (.bool b)) Q E s:=by
 unfold Builtin.List.listSubscript?
 refine wpAny_bind (wpAny_specialOf (T:="bool") (show s.TypeIs (.bool b) "bool" from rfl) xc ?_)
 show wpAny M A (asIndex (.bool b) >>= _) Q E s
 refine wpAny_bind (wpAny_of_eq (a:=if b then 1 else 0) rfl ?_)
 show wpAny M A (if (!Builtin.List.listFitsIndex (if b then 1 else 0)) = true then _ else _) Q E s
 rw [if_neg (by cases b <;> decide)]
 exact wpAny_pure h
theorem nH {prog : Program} {w : World} {A : Around} {E : Value → Shared → Prop} {s : Shared} {l : Addr} {items : Array Value} {b : Bool} {x : Value} {Q : Value → Shared → Prop} (hl : s.heap.IsList l items)
   (hx:items[if b then 1 else 0]? = some x) (h:Q x s):wpAny (model prog w) A (getItem (.ref l) (.bool b)) Q E s:=by
 obtain ⟨o,ho,hc,ne,hd⟩:=id hl
 unfold getItem
 try with_reducible refine wpAny_holding ?_
 first | refine wpAny_bind (wpAny_pure ?_) | skip
 refine wpAny_bind (wpAny_sequenceKey hl.typeIs (by decide) ?_)
 refine wpAny_bind (wpAny_callSpecial?_slot (name := Str.ofString "__getitem__") hl.typeIs slot_list_getitem
   (wpAny_call_entry slot_list_getitem hl.typeIs entry_list_getitem ?_ (args_list_getitem _ _)))
 show wpAny _ _ (Builtin.List.listSubscript? (.bool b) >>= _) _ _ s
 refine wpAny_bind (lZ ?_)
 cases b with
 | true =>
   have hx':items[1]? = some x:=hx
   show wpAny _ _ ((seqItemAt l 1 >>= fun r=>pure (r.map (1,·))) >>= _) _ _ s
   refine wpAny_bind (wpAny_bind (wpAny_seqItemAt ho hd (wpAny_pure ?_)))
   rw [hx']
   first
     | exact wpAny_bind (wpAny_pure (wpAny_pure ⟨x,rfl,wpAny_pure h⟩))
     | exact wpAny_pure ⟨x,rfl,wpAny_pure h⟩
 | false =>
   have hx':items[0]? = some x:=hx
   show wpAny _ _ ((seqItemAt l 0 >>= fun r=>pure (r.map (0,·))) >>= _) _ _ s
   refine wpAny_bind (wpAny_bind (wpAny_seqItemAt ho hd (wpAny_pure ?_)))
   rw [hx']
   first
     | exact wpAny_bind (wpAny_pure (wpAny_pure ⟨x,rfl,wpAny_pure h⟩))
     | exact wpAny_pure ⟨x,rfl,wpAny_pure h⟩
def GO (K:PySem.W.Frag):R2:=fun x y H Q=>∃ p xs b v,x = .ref p∧y = .bl b∧az K H p xs∧xs[if b then 1 else 0]? = some v∧Q v H
theorem FL {X : Cx} : lH X (GO X.K) := by
 intro value slice pins s σ H x y v u Q I rx ry h hs
 obtain ⟨p,xs,b,z,rfl,rfl,hq,he,q⟩:=h
 cases rx
 cases ry
 obtain ⟨its,r,pl,hz⟩:=I.list hq
 obtain ⟨w,ew,rw'⟩:=r.get he
 exact subscriptTail_builtinR (x := w) pl.isList.typeIs slot_list_getitem.lookup
   (nH (Q:=fun r s'=>r = w∧EP X pins σ Q r s') pl.isList (by simpa using ew) ⟨rfl,z,H,I,rw',q⟩) hs
def ik (K:PySem.W.Frag):R2:=fun x y H Q=>LZ K x y H Q∨GO K x y H Q
theorem Ie {X:Cx}:lH X (ik X.K):=Hs.or FL
theorem pf {K:PySem.W.Frag} {p:Addr} {xs:List V} {i:Int} {v:V} {H:Hp} {Q:VK} (h:az K H p xs) (e:cD xs i = some v) (q:Q v H):ik K (.ref p) (.int i) H Q:=.inl (.inl ⟨p,xs,i,v,rfl,rfl,h,e,q⟩)
theorem xJ {K:PySem.W.Frag} {p:Addr} {xs:List V} {i:Int} {v:V} {H:Hp} {Q:VK} (h:aW K H p xs) (e:cD xs i = some v) (q:Q v H):ik K (.ref p) (.int i) H Q:=.inl (.inr (.inl ⟨p,xs,i,v,rfl,rfl,h,e,q⟩))
def MN:R2:=fun x y H Q=>∃ i j,x = .str i∧y = .str j∧i.length + j.length ≤ sizeLine∧Q (.str (i ++ j)) H
def px (K:PySem.W.Frag):R2:=fun x y H Q=>kz (fun i j=>.int (i + j)) x y H Q∨JJ x y H Q∨En K x y H Q∨MN x y H Q
theorem Gw {X:Cx}:bJ X (binaryOp .Add) (px X.K):=Kv.or (Kf.or (FA.or xC))
theorem FX {K:PySem.W.Frag} {i j:Int} {H:Hp} {Q:VK} (q:Q (.int (i + j)) H):px K (.int i) (.int j) H Q:=.inl ⟨i,j,rfl,rfl,q⟩
theorem v7 {K : PySem.W.Frag} {a b : Addr} {xs ys : List V} {H : Hp} {Q : VK} (ha : H a = some (.lst xs)) (hb : H b = some (.lst ys)) (hz : xs.length + ys.length ≤ sizeLine) (q : ∀ p, H p = none → Q (.ref p) (upd H p (.lst (xs ++ ys)))) :
   px K (.ref a) (.ref b) H Q:=.inr (.inl ⟨a,b,xs,ys,rfl,rfl,ha,hb,hz,q⟩)
def zh:R2:=fun x y H Q=>rI tw (fun i j=>.int (i * j)) x y H Q∨Iq x y H Q
theorem BV {X:Cx}:bJ X (binaryOp .Mult) zh:=Ke.or IZ
theorem Bu {i j:Int} {H:Hp} {Q:VK} (h:tw i j) (q:Q (.int (i * j)) H):zh (.int i) (.int j) H Q:=.inl ⟨i,j,rfl,rfl,h,q⟩
def xU (K:PySem.W.Frag):V→Option Int→Option Int→Hp→VK→Prop:=fun x lo hi H Q=>GU K x lo hi H Q∨Ib K x lo hi H Q
theorem Hc {X:Cx}:pB X (xU X.K):=GG.or IG
structure cV (P : Program) (w : World) (K : PySem.W.Frag) (mg : Str → Option Value) (base : Heap) (CX : eW) (k : Nat) (x : Str) (sp : Sp) : Prop where
 ex:∃ (f:Addr) (fd:FuncData) (ps:List Str),ez P w K mg base CX k f fd ps sp∧mg x = some (.ref f)∧PySem.W.keepIn K (.ref f) = true∧Binds K fd ps []
structure br (P : Program) (w : World) (K : PySem.W.Frag) (mg : Str → Option Value) (base : Heap) (CX : eW) (k : Nat) (C : Addr) (m : Str) (sp : Sp) : Prop where
 cl:gr K C
 ex:∃ (f:Addr) (fd:FuncData) (ps:List Str),cj K C m f∧ez P w K mg base CX k f fd ps sp∧Binds K fd ps []
structure lA (P : Program) (w : World) (K : PySem.W.Frag) (mg : Str → Option Value) (base : Heap) (CX : eW) (k : Nat) (x : Str) (C : Addr) (sp : Sp) : Prop where
 ex:∃ (f:Addr) (fd:FuncData) (ps:List Str),Mk K C f∧ez P w K mg base CX k f fd ps sp∧mg x = some (.ref C)∧Binds K fd ps []
theorem br.mono {P : Program} {w : World} {K : PySem.W.Frag} {mg : Str → Option Value} {base : Heap} {CX : eW} {j k : Nat} {C : Addr} {m : Str} {sp : Sp} (M : br P w K mg base CX j C m sp) (h : j ≤ k) : br P w K mg base CX k C m sp := by
 obtain ⟨f,fd,ps,a,b,c⟩:=M.ex
 exact ⟨M.cl,f,fd,ps,a,b.mono h,c⟩
def kl (sp:Sp) (E:XK) (t:TA):TE:=fun σ H Q=>t σ H fun vs H1=>sp vs H1 Q E
def uL (C : Addr) (sp : Sp) (E : XK) (t : TA) : TE := fun σ H Q => t σ H fun vs H1 => ∀ x dx, H1 x = none → H1 dx = none → dx ≠ x →
 sp (.ref x :: vs) (upd (upd H1 dx (.own x)) x (.ins C dx [])) (fun v H2=>v = .aH∧Q (.ref x) H2) E
def mr (P : Program) (w : World) (K : PySem.W.Frag) (mg : Str → Option Value) (base : Heap) (CX : eW) (k : Nat) (m : Str) (E : XK) (ta : TE) (t : TA) : TE := fun σ H Q => ta σ H fun x H1 =>
 ∃ a C dx fs sp,x = .ref a∧H1 a = some (.ins C dx fs)∧fs.lookup m = none∧br P w K mg base CX k C m sp∧t σ H1 fun vs H2=>sp (.ref a :: vs) H2 Q E
section
variable {X:Cx} {CX:eW} {k:Nat} {C:Addr} {sp:Sp} {E:XK} {x m:Str} {p pos apos:Pos} {e o:Expr} {es:List Expr} {ta:TE} {t:TA}
theorem aF (G : cV X.prog X.w X.K X.mg X.base CX k x sp) (hr : bS k X.A) (hx : ei CX X E) (hg : Gl X x) (ha : PA X (e :: es) t) (hdb : (x == ("__debug__" : Str)) = false := by decide)
   (he:starEach (e :: es) X.env = (false,eval e X.env) :: starEach es X.env:=by rfl) (hpl:(backTo pos (starEach es X.env)).any (·.1) = false:=by rfl):PE X (.Call (.Name x p) (e :: es) [] pos) (kl sp E t):=by
 obtain ⟨f,fd,ps,F,hm,hk,hb⟩:=G.ex
 have z:=v_ (p:=p) (pos:=pos) F hr hg hm hk hb .nil hx ha hdb he hpl
 intro pins s σ H Q I h
 refine z pins s σ H Q I ?_
 have e1 : Cs sp [] E t = kl sp E t := by
   funext σ H Q
   show t σ H (fun vs H1=>sp (vs ++ []) H1 Q E) = t σ H (fun vs H1=>sp vs H1 Q E)
   simp only [List.append_nil]
 rw [e1];exact h
theorem eI (G : lA X.prog X.w X.K X.mg X.base CX k x C sp) (hr : bS (k + 1) X.A) (hx : ei CX X E) (hg : Gl X x) (ha : PA X (e :: es) t) (hdb : (x == ("__debug__" : Str)) = false := by decide)
   (he:starEach (e :: es) X.env = (false,eval e X.env) :: starEach es X.env:=by rfl) (hpl:(backTo pos (starEach es X.env)).any (·.1) = false:=by rfl):PE X (.Call (.Name x p) (e :: es) [] pos) (uL C sp E t):=by
 obtain ⟨f,fd,ps,M,F,hm,hb⟩:=G.ex
 have z:=Gx (p:=p) (pos:=pos) M F hr hg hm hb .nil hx ha hdb he hpl
 intro pins s σ H Q I h
 refine z pins s σ H Q I ?_
 have e1 : Cc C sp [] E t = uL C sp E t := by
   funext σ H Q
   show t σ H (fun vs H1=>∀ x dx,H1 x = none→H1 dx = none→dx ≠ x→sp (.ref x :: (vs ++ [])) _ _ E) = t σ H (fun vs H1=>∀ x dx,H1 x = none→H1 dx = none→dx ≠ x→sp (.ref x :: vs) _ _ E)
   simp only [List.append_nil]
 rw [e1];exact h
theorem Bg {pl : Sem Bool} (he : PE X o ta) (hr : bS k X.A) (hx : ei CX X E) (ha : PA X (e :: es) t)
   (hst:starEach (e :: es) X.env = (false,eval e X.env) :: starEach es X.env:=by rfl) (hpl:(backTo pos (starEach es X.env)).any (·.1) = false:=by rfl)
   (ht : eval (.Call (.Attribute o m apos) (e :: es) [] pos) X.env = (do
     let ov ← eval o X.env
     standAt apos.atName
     let (f,first) ← holding [ov] (getMethod ov m pl)
     callWith pos f first (backTo pos (starEach (e :: es) X.env)) (backToKw pos (keywordEach [] X.env))):=by rfl) :
   PE X (.Call (.Attribute o m apos) (e :: es) [] pos) (mr X.prog X.w X.K X.mg X.base CX k m E ta t):=by
 intro pins s σ H Q I h
 refine PySem.W.methodCall_KW (pl:=pl) (a9 (he pins s σ H _ I h) fun u s1 ⟨x,H1,I1,rx,a,C,dx,fs,sp,ex,ea,l,M,q⟩=>?_) ht
 subst ex
 obtain rfl:u = Value.ref a:=rx
 obtain ⟨f,fd,ps,hm,F,hb⟩:=M.ex
 refine oY I1 ea M.cl hm l ?_
 refine PySem.W.callWith_K (first:=[.ref a]) (h₀:=X.base) I.ok.mod.uU hm.kp (a9 (ha pos pins s1 σ H1 _ I1 q) fun us s2 ⟨vs,H2,I2,r,q2⟩=>⟨I2.ee,?_⟩) hst hpl
 exact tD (us:=.ref a :: us) (vs:=.ref a :: vs) F hr hb .nil hx I2 (.cons rfl r) (by rw [List.append_nil];exact q2)
theorem y9 {pl : Sem Bool} (he : PE X o ta) (hr : bS k X.A) (hx : ei CX X E)
   (ht : eval (.Call (.Attribute o m apos) [] [] pos) X.env = (do
     let ov ← eval o X.env
     standAt apos.atName
     let (f,first) ← holding [ov] (getMethod ov m pl)
     callWith pos f first (backTo pos (starEach [] X.env)) (backToKw pos (keywordEach [] X.env))):=by rfl) :
   PE X (.Call (.Attribute o m apos) [] [] pos) (mr X.prog X.w X.K X.mg X.base CX k m E ta gc):=by
 intro pins s σ H Q I h
 refine PySem.W.methodCall_KW (pl:=pl) (a9 (he pins s σ H _ I h) fun u s1 ⟨x,H1,I1,rx,a,C,dx,fs,sp,ex,ea,l,M,q⟩=>?_) ht
 subst ex
 obtain rfl:u = Value.ref a:=rx
 obtain ⟨f,fd,ps,hm,F,hb⟩:=M.ex
 refine oY I1 ea M.cl hm l ?_
 exact PySem.W.callWith_K0 (first:=[.ref a]) I1.ee hm.kp (tD (us:=[.ref a]) (vs:=[.ref a]) F hr hb .nil hx I1 (.cons rfl .nil) q)
end
theorem dg:bootBuiltins "len" = some (.builtin "len"):=by decide +kernel
theorem Le:bootBuiltins "all" = some (.builtin "all"):=by decide +kernel
theorem bI:bootBuiltins "isinstance" = some (.builtin "isinstance"):=by decide +kernel
theorem w_:bootBuiltins "int" = some (.type "int"):=by decide +kernel
theorem pU:bootBuiltins "list" = some (.type "list"):=by decide +kernel
def G9 (K:PySem.W.Frag) (f:Str):V→Hp→VK→Prop:=fun x H1 Q=>∃ a C dx fs v,x = .ref a∧H1 a = some (.ins C dx fs)∧gr K C∧cb K C f∧fs.lookup f = some v∧Q v H1
def Fs (P : Program) (w : World) (K : PySem.W.Frag) (mg : Str → Option Value) (base : Heap) (CX : eW) (k : Nat) (m : Str) (E : XK) (σ : St) (t : TA) : V → Hp → VK → Prop := fun x H1 Q =>
 ∃ a C dx fs sp,x = .ref a∧H1 a = some (.ins C dx fs)∧fs.lookup m = none∧br P w K mg base CX k C m sp∧t σ H1 fun vs H2=>sp (.ref a :: vs) H2 Q E
def Ek (K:PySem.W.Frag) (f:Str) (y:V) (D:Ends) (σ : St):V→Hp→Prop:=fun x H2=>∃ a C dx fs,x = .ref a∧H2 a = some (.ins C dx fs)∧gr K C∧cb K C f∧fs.length < 1000∧D.nx σ (upd H2 a (.ins C dx (aN f y fs)))
def rD (K:PySem.W.Frag):List V→Hp→VK→Prop:=fun xs H Q=>∃ x n,xs = [x]∧Iv K x H n∧Q (.int n) H
theorem yk {X:Cx}:cJ X (.builtin "len") (rD X.K):=AU
theorem cx {K:PySem.W.Frag} {p:Addr} {xs:List V} {H:Hp} {Q:VK} (h:az K H p xs) (q:Q (.int xs.length) H):rD K [.ref p] H Q:=⟨.ref p,xs.length,rfl,.inl ⟨xs,h,rfl⟩,q⟩
def xW (K:PySem.W.Frag):List V→Hp→VK→Prop:=fun xs H Q=>∃ p ys,xs = [.ref p]∧(az K H p ys∨aW K H p ys)∧∀ l,H l = none→Q (.ref l) (upd H l (.lst ys))
theorem xF {X:Cx}:cJ X (.type "list") (xW X.K):=tW
theorem we {K:PySem.W.Frag} {p:Addr} {xs:List V} {H:Hp} {Q:VK} (h:az K H p xs) (q:∀ l,H l = none→Q (.ref l) (upd H l (.lst xs))):xW K [.ref p] H Q:=⟨p,xs,rfl,.inl h,q⟩
theorem C9 {K:PySem.W.Frag} {p:Addr} {xs:List V} {lo hi:Option Int} {H:Hp} {Q:VK} (h:az K H p xs) (q:∀ l,H l = none→Q (.ref l) (upd H l (.lst (kZ xs lo hi)))):xU K (.ref p) lo hi H Q:=.inl ⟨p,xs,rfl,h,q⟩
def xq (K:PySem.W.Frag) (x:V) (H:Hp) (Q:Bool→Hp→Prop):Prop:=∃ k,BD K x H k∧Q k H
theorem HK {K:PySem.W.Frag} {b:Bool} {H:Hp} {Q:Bool→Hp→Prop} (q:Q b H):xq K (.bl b) H Q:=⟨b,rfl,q⟩
theorem KE {K:PySem.W.Frag} {i:Int} {H:Hp} {Q:Bool→Hp→Prop} (q:Q (i != 0) H):xq K (.int i) H Q:=⟨_,rfl,q⟩
theorem Lf {A B:Prop} (h:B):if (!true) = true then A else B:=h
theorem K2 {A B:Prop} (h:A):if (!false) = true then A else B:=h
theorem vT {K:PySem.W.Frag} {H:Hp} {a p:Addr} {xs:List V} {o:HO} (h:az K H a xs) (hp:H p = none):az K (upd H p o) a xs:=ar.seq (aq hp) h
theorem wK {K:PySem.W.Frag} {H:Hp} {a p:Addr} {xs:List V} {o:HO} (h:aW K H a xs) (hp:H p = none):aW K (upd H p o) a xs:=bG (aq hp) h
theorem Gd {H H':Hp} {q:Addr} {u:HO} (s:ar H H') (h:H q = some u):H' q = some u:=s _ _ h
theorem Hz {to ti:TE} {t:xQ} {v:V} {σ : St} {H:Hp} {Q:St→Hp→Prop} (q:to σ H fun o H1=>ti σ H1 fun i H2=>t o i v H2 fun H3=>Q σ H3):Ip to ti t v σ H Q:=q
theorem uQ {p:Addr} {xs:List V} {k:Int} {j:Nat} {v:V} {H:Hp} {Q:Hp→Prop} (h:H p = some (.lst xs)) (e:nJ xs.length k = some j) (q:Q (upd H p (.lst (xs.set j v)))):EM (.ref p) (.int k) v H Q:=⟨p,xs,k,j,rfl,rfl,h,e,q⟩
theorem ie {l:Addr} {xs:List V} {y:V} {H:Hp} {Q:VK} (h:H l = some (.lst xs)) (z:xs.length < sizeLine) (q:Q .aH (upd H l (.lst (xs ++ [y])))):wQ (.ref l) [y] H Q:=⟨l,xs,y,rfl,rfl,h,z,q⟩
theorem ty_list {K:PySem.W.Frag} {H:Hp} {p:Addr} {xs:List V} (h:H p = some (.lst xs)):rQ K "list" (.ref p) H:=.inl ⟨rfl,xs,az.of h⟩
def x6 (J : It) (g : TG) (tb : TS) (D : Ends) (σ : St) (H1 : Hp) : Prop := ∃ W : Nat → Nat → St → Hp → Prop, (∃ m, W 0 m σ H1) ∧ ∀ i m σ H, W i m σ H →
 (J.stop i H∧D.nx σ H)∨(J.go i H∧∃ N:St→Hp→Prop,(∀ σ' H',N σ' H'→∃ m',m' < m∧W (i + 1) m' σ' H')∧∀ x H',J.uX i H x H'→g x σ H' fun σ2 H2=>tb { D with nx:=N,ct:=N,bk:=D.nx } σ2 H2)
theorem LN {wi:TI} {g:TG} {tb:TS} {D:Ends} {σ : St} {H:Hp} (q:wi σ H fun J H1=>x6 J g tb D σ H1):ye wi g tb D σ H:=q
def xO (K:PySem.W.Frag) (tl:TE):TI:=fun σ H R=>tl σ H fun x H1=>∃ a,x = .ref a∧(((∃ xs,az K H1 a xs)∧R (sk K a) H1)∨((∃ xs,aW K H1 a xs)∧R (zm K a) H1))
theorem Je {K:PySem.W.Frag} {tl:TE} {σ : St} {H:Hp} {R:It→Hp→Prop} (q:tl σ H fun x H1=>∃ a,x = .ref a∧(((∃ xs,az K H1 a xs)∧R (sk K a) H1)∨((∃ xs,aW K H1 a xs)∧R (zm K a) H1))):xO K tl σ H R:=q
theorem G4 {ta:TA} {σ : St} {H:Hp} {R:It→Hp→Prop} (q:ta σ H fun vs H1=>∃ j:Int,vs = [.int j]∧-(2 ^ 62) ≤ j∧j < 2 ^ 62∧R (rO 0 j.toNat) H1):wZ ta σ H R:=q
theorem KJ {X : Cx} {tg l : Expr} {tl : TE} (hl : PE X l tl) : PI X tg l (xO X.K tl) := by
 intro pins s σ H R I h
 refine a9 (hl pins s σ H _ I h) fun v s1 ⟨x,H1,I1,r1,q1⟩=>?_
 obtain ⟨a,e,hq⟩:=q1
 subst e
 cases r1
 rcases hq with ⟨⟨xs,hq⟩,q⟩ | ⟨⟨xs,hq⟩,q⟩
 · obtain ⟨its, rv, p, hz⟩ := I1.list hq
   refine wpAny_pyIter_list p.isList ?_
   refine ⟨s1.heap.objs.size,[s1.heap.objs.size],_,_,H1,rfl,I1.kept (t':=s1.toks) fun b o e=>Heap.get?_push_of_some _ e,ym a _,⟨_,Heap.get?_push_size _ rfl,rfl,rfl⟩,fun b hb=>?_,q⟩
   have e:b = s1.heap.objs.size:=by simpa using hb
   subst e
   exact I1.kH (Nat.le_refl _) (I1.ay.fresh (Nat.le_refl _))
 · obtain ⟨its, rv, p, hz⟩ := I1.tuple hq
   refine wpAny_pyIter_tuple (show s1.heap.IsTuple a its.toArray from p) ?_
   refine ⟨s1.heap.objs.size,[s1.heap.objs.size],_,_,H1,rfl,I1.kept (t':=s1.toks) fun b o e=>Heap.get?_push_of_some _ e,wY a _,⟨_,Heap.get?_push_size _ rfl,rfl,rfl⟩,fun b hb=>?_,q⟩
   have e:b = s1.heap.objs.size:=by simpa using hb
   subst e
   exact I1.kH (Nat.le_refl _) (I1.ay.fresh (Nat.le_refl _))
section
variable {σ : St} {H:Hp} {Q:VK}
theorem Lr {i:Nat} {v:V} (h : σ[i]? = some (some v)) (q:Q v H):bE i σ H Q:=⟨v,h,q⟩
theorem MU {v:V} (q:Q v H):tC v σ H Q:=q
theorem ML {r:R2} {ta tb:TE} (q:ta σ H fun x H1=>tb σ H1 fun y H2=>r x y H2 Q):dD r ta tb σ H Q:=q
theorem Mz {r:V→Hp→VK→Prop} {ta:TE} (q:ta σ H fun x H1=>r x H1 Q):L9 r ta σ H Q:=q
theorem M2 {g:Int→V} {i:Int} (q:Q (g i) H):rU g (.int i) H Q:=⟨i,rfl,q⟩
theorem Ml {g:Int→Int→V} {i j:Int} (q:Q (g i j) H):kz g (.int i) (.int j) H Q:=⟨i,j,rfl,rfl,q⟩
theorem L6 {C:Int→Int→Prop} {g:Int→Int→V} {i j:Int} (h:C i j) (q:Q (g i j) H):rI C g (.int i) (.int j) H Q:=⟨i,j,rfl,rfl,h,q⟩
theorem MJ {r:List V→Hp→VK→Prop} {t:TA} (q:t σ H fun vs H1=>r vs H1 Q):sm r t σ H Q:=q
theorem FE {sp:Sp} {E:XK} {t:TA} (q:t σ H fun vs H1=>sp vs H1 Q E):kl sp E t σ H Q:=q
theorem FW {C:Addr} {sp:Sp} {E:XK} {t:TA} (q:t σ H fun vs H1=>∀ x dx,H1 x = none→H1 dx = none→dx ≠ x→sp (.ref x :: vs) (upd (upd H1 dx (.own x)) x (.ins C dx [])) (fun v H2=>v = .aH∧Q (.ref x) H2) E):uL C sp E t σ H Q:=q
theorem Fz {P:Program} {w:World} {K:PySem.W.Frag} {mg:Str→Option Value} {base:Heap} {CX:eW} {k:Nat} {m:Str} {E:XK} {ta:TE} {t:TA} (q:ta σ H fun x H1=>Fs P w K mg base CX k m E σ t x H1 Q):mr P w K mg base CX k m E ta t σ H Q:=q
theorem dm {P : Program} {w : World} {K : PySem.W.Frag} {mg : Str → Option Value} {base : Heap} {CX : eW} {k : Nat} {m : Str} {E : XK} {t : TA} {p C dx : Addr} {fs : List (Str × V)} {sp : Sp} (h : H p = some (.ins C dx fs)) (l : fs.lookup m = none) (M : br P w K mg base CX k C m sp)
   (q:t σ H fun vs H2=>sp (.ref p :: vs) H2 Q E):Fs P w K mg base CX k m E σ t (.ref p) H Q:=⟨p,C,dx,fs,sp,rfl,h,l,M,q⟩
theorem K7 {K:PySem.W.Frag} {ta:TE} {f:Str} (q:ta σ H fun x H1=>G9 K f x H1 Q):mw K ta f σ H Q:=q
theorem zA {K:PySem.W.Frag} {f:Str} {p C dx:Addr} {fs:List (Str×V)} {v:V} (h:H p = some (.ins C dx fs)) (c:gr K C) (n:cb K C f) (l:fs.lookup f = some v) (q:Q v H):G9 K f (.ref p) H Q:=⟨p,C,dx,fs,v,rfl,h,c,n,l,q⟩
theorem K3 {t:TA} (q:t σ H fun xs H1=>xs.length ≤ sizeLine∧∀ p,H1 p = none→Q (.ref p) (upd H1 p (.tup xs))):xY t σ H Q:=q
theorem LI {t:TA} (q:t σ H fun xs H1=>xs.length ≤ sizeLine∧∀ p,H1 p = none→Q (.ref p) (upd H1 p (.lst xs))):Bx t σ H Q:=q
theorem Hr {ta tb:TE} (q:ta σ H fun x H1=>∃ c,x = .bl c∧if c = true then tb σ H1 Q else Q (.bl false) H1):EE ta tb σ H Q:=q
theorem K_ {ta tb:TE} (q:ta σ H fun x H1=>∃ c,x = .bl c∧if c = true then Q (.bl true) H1 else tb σ H1 Q):JK ta tb σ H Q:=q
theorem Mi {t:TT} {ta tb:TE} (q:t σ H fun c H1=>if c = true then ta σ H1 Q else tb σ H1 Q):LW t ta tb σ H Q:=q
theorem MQ {r:V→Option Int→Option Int→Hp→VK→Prop} {te:TE} {tl th:TO} (q:te σ H fun x H1=>tl σ H1 fun l H2=>th σ H2 fun u H3=>r x l u H3 Q):LS r te tl th σ H Q:=q
theorem Mu {K:PySem.W.Frag} {T:String} {r:V→List V→Hp→VK→Prop} {to:TE} {t:TA} (q:to σ H fun x H1=>rQ K T x H1∧t σ H1 fun xs H2=>r x xs H2 Q):Ir K T r to t σ H Q:=q
theorem Lq {K:PySem.W.Frag} {T:String} {r:V→List V→Hp→VK→Prop} {to:TE} (q:to σ H fun x H1=>rQ K T x H1∧r x [] H1 Q):yf K T r to σ H Q:=q
end
section
variable {σ : St} {H:Hp} {Q:List V→Hp→Prop}
theorem Lz (q:Q [] H):gc σ H Q:=q
theorem Jw {ta:TE} {tr:TA} (q:ta σ H fun x H1=>tr σ H1 fun xs H2=>Q (x :: xs) H2):cv ta tr σ H Q:=q
end
section
variable {σ : St} {H:Hp} {Q:Option Int→Hp→Prop}
theorem JN {t:TE} (q:t σ H fun x H1=>∃ i,x = .int i∧Q (some i) H1):CD t σ H Q:=q
end
section
variable {σ : St} {H:Hp} {Q:Bool→Hp→Prop}
theorem I_ {t:TE} (q:t σ H fun x H'=>∃ k,x = .bl k∧Q k H'):eZ t σ H Q:=q
theorem Lo {t u:TT} (q:t σ H fun c H1=>if c = true then u σ H1 Q else Q false H1):Hv t u σ H Q:=q
theorem MH {t u:TT} (q:t σ H fun c H1=>if c = true then Q true H1 else u σ H1 Q):se t u σ H Q:=q
theorem LC {t:TT} (q:t σ H fun c H1=>Q (!c) H1):xM t σ H Q:=q
theorem Jl (q:Q true H):EA σ H Q:=q
def uz (K:PySem.W.Frag) (ta:TE):TT:=fun σ H Q=>ta σ H fun x H'=>xq K x H' Q
theorem Ig {X:Cx} {a:Expr} {ta:TE} (ha:PE X a ta) (he:∀ whole,isTrue a X.env whole = (do let v ← whole;standAt a.pos;holding [v] (truthy v)):=by intro _;rfl):PT X a (uz X.K ta):=BU ha he
theorem Lb {K:PySem.W.Frag} {ta:TE} (q:ta σ H fun x H'=>xq K x H' Q):uz K ta σ H Q:=q
end
section
variable {D:Ends} {σ : St} {H:Hp}
theorem HV (q:D.nx σ H):iX D σ H:=q
theorem Lg {t u:TS} (q:t { D with nx:=u D } σ H):iQ t u D σ H:=q
theorem K5 {te:TE} (q:te σ H D.rt):jT te D σ H:=q
theorem Lw {c:TT} {t u:TS} (q:c σ H fun b H1=>if b = true then t D σ H1 else u D σ H1):kP c t u D σ H:=q
theorem Lm {te:TE} {g:TG} (q:te σ H fun x H1=>g x σ H1 D.nx):uw te g D σ H:=q
theorem JM {te:TE} (q:te σ H fun _ H1=>D.nx σ H1):xv te D σ H:=q
theorem JG {K:PySem.W.Frag} {ta tv:TE} {f:Str} (q:tv σ H fun y H1=>ta σ H1 fun x H2=>Ek K f y D σ x H2):BC K ta tv f D σ H:=q
theorem FY {K:PySem.W.Frag} {f:Str} {y:V} {p C dx:Addr} {fs:List (Str×V)} (h:H p = some (.ins C dx fs)) (c:gr K C) (n:cb K C f) (l:fs.length < 1000) (q:D.nx σ (upd H p (.ins C dx (aN f y fs)))):Ek K f y D σ (.ref p) H:=⟨p,C,dx,fs,rfl,h,c,n,l,q⟩
end
theorem eY {c A B : Prop} [Decidable c] (h1 : c → A) (h2 : ¬ c → B) : if decide c = true then A else B := by
 by_cases h:c
 · rw [if_pos (decide_eq_true h)];exact h1 h
 · rw [if_neg (by rw [decide_eq_false h];exact Bool.false_ne_true)];exact h2 h
theorem o8 {c A B : Prop} [Decidable c] (h1 : ¬ c → A) (h2 : c → B) : if (!decide c) = true then A else B := by
 by_cases h:c
 · rw [if_neg (by rw [decide_eq_true h];decide)];exact h2 h
 · rw [if_pos (by rw [decide_eq_false h];rfl)];exact h1 h
theorem iI {a b : Int} {A B : Prop} (h1 : a = b → A) (h2 : a ≠ b → B) : if decide (V.int a = V.int b) = true then A else B :=
 eY (fun e=>h1 (by cases e;rfl)) fun e=>h2 fun z=>e (by rw [z])
theorem jq {a b : Int} {A B : Prop} (h1 : a ≠ b → A) (h2 : a = b → B) : if (!decide (V.int a = V.int b)) = true then A else B :=
 o8 (fun e=>h1 fun z=>e (by rw [z])) fun e=>h2 (by cases e;rfl)
end L3
namespace L3
open PySem PySem.Spec PyProof.Rows L2
section
variable {P:Program} {w:World} {K:PySem.W.Frag} {mg:Str→Option Value} {base:Heap} {x qual:Str} {st:Stmt} {N ps:List Str} {sp:Sp} {C:Addr}
def BodyOk (P : Program) (w : World) (K : PySem.W.Frag) (mg : Str → Option Value) (base : Heap) (k : Nat) (qual : Str) (st : Stmt) (N : List Str) (sp : Sp) : Prop :=
 ∀ (f : Addr) (cdv : Value) (A : Around) (outer : List Env) (s : Shared) (H : Hp) (vs : List V) (Q : VK) (E : XK), bS k (A.deeper (envOfC qual (ae st) s.heap.objs.size f cdv)) → sp vs H Q E →
   ∃ t,iO (fN ba P w K mg base N qual (ae st) f cdv A outer s H E).cw (au st) t∧t { nx:=fun _ H'=>Q .aH H',rt:=Q } (start N vs) H
theorem bT (k : Nat) (h : ∃ f fd, bc K x qual st f fd ∧ mg x = some (.ref f) ∧ Binds K fd ps []) (S : aA N ps (ae st)) (len : ∀ vs H Q E, sp vs H Q E → vs.length = ps.length)
   (hbody:BodyOk P w K mg base k qual st N sp):cV P w K mg base ba (k + 1) x sp:=by
 obtain ⟨f,fd,F,hm,hb⟩:=h
 exact ⟨f,fd,ps,F.ok S len (hbody f),hm,F.kp,hb⟩
theorem be (k : Nat) (c : gr K C) (h : ∃ f fd, bc K x qual st f fd ∧ cj K C x f ∧ Binds K fd ps []) (S : aA N ps (ae st)) (len : ∀ vs H Q E, sp vs H Q E → vs.length = ps.length)
   (hbody:BodyOk P w K mg base k qual st N sp):br P w K mg base ba (k + 1) C x sp:=by
 obtain ⟨f,fd,F,hm,hb⟩:=h
 exact ⟨c,f,fd,ps,hm,F.ok S len (hbody f),hb⟩
theorem jk {y : Str} (k : Nat) (hy : mg y = some (.ref C)) (h : ∃ f fd, bc K "__init__" qual st f fd ∧ Mk K C f ∧ Binds K fd ps []) (S : aA N ps (ae st)) (len : ∀ vs H Q E, sp vs H Q E → vs.length = ps.length)
   (hbody:BodyOk P w K mg base k qual st N sp):lA P w K mg base ba (k + 1) y C sp:=by
 obtain ⟨f,fd,F,hm,hb⟩:=h
 exact ⟨f,fd,ps,hm,F.ok S len (hbody f),hy,hb⟩
end
end L3
namespace L3
open PySem PySem.Spec PyProof.Rows L2 PySem.SeqAt
section
variable {X:Cx} {K:PySem.W.Frag}
theorem bD (h:X.K = K):bJ X (binaryOp .Add) (px K):=by subst h;exact Gw
theorem dG (h:X.K = K) (hu:X.A.units + 64 < cLine):bJ X (compareOp .Eq) (oo K):=by subst h;exact IL hu
theorem fG (h:X.K = K) (hu:X.A.units + 64 < cLine):bJ X (compareOp .NotEq) (k8 K):=by subst h;exact Il hu
theorem IE (h:X.K = K):bJ X (compareOp .In) (vV K false):=by subst h;exact zI
theorem sj (h:X.K = K):bJ X (compareOp .NotIn) (vV K true):=by subst h;exact vm
theorem aV (h:X.K = K):lH X (ik K):=by subst h;exact Ie
theorem MG (h:X.K = K):pB X (xU K):=by subst h;exact Hc
theorem cC {tg l:Expr} {tl:TE} (h:X.K = K) (hl:PE X l tl):PI X tg l (xO K tl):=by subst h;exact KJ hl
theorem bC (h:X.K = K):cJ X (.builtin "len") (rD K):=by subst h;exact yk
theorem o7 (h:X.K = K):cJ X (.type "list") (xW K):=by subst h;exact xF
theorem cN (h:X.K = K):cJ X (.builtin "isinstance") (uP K):=by subst h;exact Bq
theorem bo {e:Expr} {f:Str} {pos:Pos} {ta:TE} (h:X.K = K) (he:PE X e ta) (hb:attributeBase e f X.env (eval e X.env) = eval e X.env:=by rfl):PE X (.Attribute e f pos) (mw K ta f):=by subst h;exact GN he hb
theorem fg {o value : Expr} {f : Str} {pos pos' : Pos} {ta tv : TE} (h : X.K = K) (ha : PE X o ta) (hv : PE X value tv) (hs : swapsWith value (some (.Attribute o f pos')) pos.line X.env = pure false := by rfl) :
   PS X (.Assign [.Attribute o f pos'] value pos) (BC K ta tv f):=by subst h;exact Kz ha hv hs
theorem bY {a:Expr} {ta:TE} (h:X.K = K) (ha:PE X a ta) (he:∀ whole,isTrue a X.env whole = (do let v ← whole;standAt a.pos;holding [v] (truthy v)):=by intro _;rfl):PT X a (uz K ta):=by subst h;exact Ig ha he
theorem qj {es : List Expr} {k : Nat} {t : nS} {n : Nat} {pos : Pos} (hK : X.K = K) (hc : X.calm = true) (h : zC X es t)
   (hn:(assignEach es X.env).length = n:=by rfl) (hst:(assignEach es X.env).findIdx? (·.1) = none:=by rfl):PG X (.Tuple es k pos) (BR K n t):=by subst hK;exact Im hc h hn hst
theorem wy {o : Expr} {to : TE} {name : Str} {apos cpos : Pos} {T id : String} {r : V → List V → Hp → VK → Prop} (h : X.K = K) (pa : PlainAttrs T) (slot : Slot T name id) (hty : typeOf (.builtin id) = pure (.type "method_descriptor")) (hm : yl X id r) (ho : PE X o to)
   (hbase:attributeBase o name X.env (eval o X.env) = eval o X.env:=by rfl) (hline:(apos.endLine == cpos.line) = true:=by rfl):PE X (.Call (.Attribute o name apos) [] [] cpos) (yf K T r to):=by subst h;exact J6 pa slot hty hm ho hbase hline
theorem g_ {o e : Expr} {es : List Expr} {to : TE} {t : TA} {name : Str} {apos cpos : Pos} {T id : String} {r : V → List V → Hp → VK → Prop} (h : X.K = K) (pa : PlainAttrs T) (slot : Slot T name id) (hty : typeOf (.builtin id) = pure (.type "method_descriptor")) (hm : yl X id r) (ho : PE X o to) (ha : PA X (e :: es) t)
   (hbase:attributeBase o name X.env (eval o X.env) = eval o X.env:=by rfl)
   (hfew : ((backTo cpos (starEach (e :: es) X.env)).all (fun x => !x.1) && (backToKw cpos (keywordEach [] X.env)).all (fun x => x.1.isSome)
     && decide ((e :: es).length + ([]:List Keyword).length + (if ([]:List Keyword).isEmpty then 0 else 1) < 30)) = true:=by rfl)
   (hline:(apos.endLine == cpos.line) = true:=by rfl) (hs:starEach (e :: es) X.env = (false,eval e X.env) :: starEach es X.env:=by rfl) (hplain:(backTo cpos (starEach es X.env)).any (·.1) = false:=by rfl) :
   PE X (.Call (.Attribute o name apos) (e :: es) [] cpos) (Ir K T r to t):=by subst h;exact Ln pa slot hty hm ho ha hbase hfew hline hs hplain
end
section
variable {X:Cx} {P:Program} {w:World} {K:PySem.W.Frag} {mg:Str→Option Value} {base:Heap} {CX:eW} {k:Nat} {E:XK} {m:Str} {pos apos:Pos} {e o:Expr} {es:List Expr} {ta:TE} {t:TA}
theorem fS {pl : Sem Bool} (hP : X.prog = P ∧ X.w = w ∧ X.K = K ∧ X.mg = mg ∧ X.base = base) (he : PE X o ta) (hr : bS k X.A) (hx : ei CX X E) (ha : PA X (e :: es) t)
   (hst:starEach (e :: es) X.env = (false,eval e X.env) :: starEach es X.env:=by rfl) (hpl:(backTo pos (starEach es X.env)).any (·.1) = false:=by rfl)
   (ht : eval (.Call (.Attribute o m apos) (e :: es) [] pos) X.env = (do
     let ov ← eval o X.env
     standAt apos.atName
     let (f,first) ← holding [ov] (getMethod ov m pl)
     callWith pos f first (backTo pos (starEach (e :: es) X.env)) (backToKw pos (keywordEach [] X.env))):=by rfl) :
   PE X (.Call (.Attribute o m apos) (e :: es) [] pos) (mr P w K mg base CX k m E ta t):=by
 obtain ⟨rfl,rfl,rfl,rfl,rfl⟩:=hP
 exact Bg (pl:=pl) he hr hx ha hst hpl ht
theorem rV {pl : Sem Bool} (hP : X.prog = P ∧ X.w = w ∧ X.K = K ∧ X.mg = mg ∧ X.base = base) (he : PE X o ta) (hr : bS k X.A) (hx : ei CX X E)
   (ht : eval (.Call (.Attribute o m apos) [] [] pos) X.env = (do
     let ov ← eval o X.env
     standAt apos.atName
     let (f,first) ← holding [ov] (getMethod ov m pl)
     callWith pos f first (backTo pos (starEach [] X.env)) (backToKw pos (keywordEach [] X.env))):=by rfl) :
   PE X (.Call (.Attribute o m apos) [] [] pos) (mr P w K mg base CX k m E ta gc):=by
 obtain ⟨rfl,rfl,rfl,rfl,rfl⟩:=hP
 exact y9 (pl:=pl) he hr hx ht
end
end L3
namespace L3
open PySem PySem.Spec PyProof.Rows L2 PySem.SeqAt
theorem Gm {H:Hp} {R:Addr→Prop} (q:∀ p,H p = none→R p):∀ p,H p = none→R p:=q
theorem FQ {n:Nat} {R:Prop} (h:n ≤ sizeLine) (q:R):n ≤ sizeLine∧R:=⟨h,q⟩
theorem aU {H H' : Hp} {q : Addr} (s : ar H H') (h : H' q = none) : H q = none := by
 cases e:H q with
 | none=>rfl
 | some u=>rw [s _ _ e] at h;cases h
theorem same_none {H H1:Hp} {p:Addr} {o:HO} (s:ar H H1) (h:H1 p = none):ar H (upd H1 p o):=s.trans (aq h)
def iV {α : Type} (xs:List α) (f : α→V) (Sg:St→Prop) (H:Hp) (i:Nat) (ys:List V) (σ : St) (H1:Hp):Prop:=ar H H1∧Sg σ∧ys = (xs.take i).map f
theorem iV.next {α : Type} {xs : List α} {f : α → V} {Sg : St → Prop} {H H1 H5 : Hp} {i : Nat} {ys : List V} {σ σ3 : St} {x : α} {y : V} (c : iV xs f Sg H i ys σ H1) (hx : xs[i]? = some x) (e : y = f x) (s : ar H H5) (sg : Sg σ3) : iV xs f Sg H (i + 1) (ys ++ [y]) σ3 H5 := by
 obtain ⟨_,_,rfl⟩:=c
 refine ⟨s,sg,?_⟩
 subst e
 rw [List.take_add_one,hx,Option.toList_some,List.map_append];rfl
theorem C_ {b : Bool} {A B : Prop} (h1 : b = true → A) (h2 : b = false → B) : if b = true then A else B := by
 cases b with
 | true=>exact h1 rfl
 | false=>exact h2 rfl
theorem MA {j:Int} {R:Prop} (h1 : -(2 ^ 62) ≤ j) (h2:j < 2 ^ 62) (q:R) : -(2 ^ 62) ≤ j∧j < 2 ^ 62∧R:=⟨h1,h2,q⟩
theorem LA {K:PySem.W.Frag} {H:Hp} {a:Addr} {xs:List V} {A B:Prop} (h:az K H a xs) (q:A):((∃ xs,az K H a xs)∧A)∨((∃ xs,aW K H a xs)∧B):=.inl ⟨⟨xs,h⟩,q⟩
theorem K4 {K:PySem.W.Frag} {H:Hp} {a:Addr} {xs:List V} {A B:Prop} (h:aW K H a xs) (q:B):((∃ xs,az K H a xs)∧A)∨((∃ xs,aW K H a xs)∧B):=.inr ⟨⟨xs,h⟩,q⟩
theorem Ll {K:PySem.W.Frag} {H:Hp} {p:Addr} {xs:List V} {R:Prop} (h:H p = some (.lst xs)) (q:R):rQ K "list" (.ref p) H∧R:=⟨ty_list h,q⟩
theorem wN {K:PySem.W.Frag} {H:Hp}:Dp K H .none .aH:=by rw [Dp]
theorem Mw {i:Nat} {v:V} {σ σ':St} {H:Hp} {Q:St→Hp→Prop} (h : σ.set i (some v) = σ') (q:Q σ' H):dW i v σ H Q:=by subst h;exact q
theorem a_ {N:List Str} {vs:List V} {σ':St} {t:TS} {D:Ends} {H:Hp} (h:start N vs = σ') (q:t D σ' H):t D (start N vs) H:=by subst h;exact q
theorem BL {i:Nat} {own:List Str} {fr:List (Str×Nat)} {wi:TI} {g:TG} {tc:TT} {te:TE} {D:Ends} {σ σi:St} {H:Hp} (h:lU own fr σ = σi) (q:wi σ H fun J H1=>jN J g tc te (fun ys H3=>∀ p,H3 p = none→dW i (.ref p) σ (upd H3 p (.lst ys)) D.nx) σi H1):Ab i own fr wi g tc te D σ H:=by subst h;exact q
theorem Bm {own:List Str} {fr:List (Str×Nat)} {wi:TI} {g:TG} {tc:TT} {te:TE} {σ σi:St} {H:Hp} {Q:VK} (h:lU own fr σ = σi) (q:wi σ H fun J H1=>jN J g tc te (fun ys H3=>∀ p,H3 p = none→Q (.ref p) (upd H3 p (.lst ys))) σi H1):tT own fr wi g tc te σ H Q:=by subst h;exact q
def kJ:R2:=fun x y H Q=>y = .aH∧Q (.bl (decide (x = .aH))) H
def iH:R2:=fun x y H Q=>y = .aH∧Q (.bl (!decide (x = .aH))) H
theorem cU {X:Cx}:bJ X (compareOp .Is) kJ:=JY
theorem jD {X:Cx}:bJ X (compareOp .IsNot) iH:=Gz
theorem KU {p:Addr} {H:Hp} {Q:VK} (q:Q (.bl false) H):kJ (.ref p) .aH H Q:=⟨rfl,q⟩
theorem Kp {H:Hp} {Q:VK} (q:Q (.bl true) H):kJ .aH .aH H Q:=⟨rfl,q⟩
theorem IP {i:Int} {H:Hp} {Q:VK} (q:Q (.bl false) H):kJ (.int i) .aH H Q:=⟨rfl,q⟩
theorem GC {p:Addr} {H:Hp} {Q:VK} (q:Q (.bl true) H):iH (.ref p) .aH H Q:=⟨rfl,q⟩
theorem Gq {H:Hp} {Q:VK} (q:Q (.bl false) H):iH .aH .aH H Q:=⟨rfl,q⟩
def Kb (i j:Int):Prop:=0 ≤ j∧j ≤ 1000000∧∃ k:Nat,k ≤ 1000000∧i.natAbs < 2 ^ k
theorem Ge {X : Cx} : bJ X (binaryOp .LShift) (rI Kb fun i j => .int (i * 2 ^ j.toNat)) := Ah fun i j _ _ _ _ _ hc q => by
 obtain ⟨h0,h1,k,hk,hb⟩:=hc
 have:=PySem.intBits_le_iff.mpr hb
 exact lshift_int h0 (by have e:(2:Int) ^ 27 = 134217728:=rfl;rw [e];omega) q
theorem Gr {j:Int} (h0 : 0 ≤ j) (h1:j ≤ 1000000):Kb 1 j:=⟨h0,h1,1,by decide,by decide⟩
theorem F6 (j:Nat):(1:Int) * 2 ^ j = ((2 ^ j:Nat):Int):=by rw [Int.one_mul];exact (Int.natCast_pow 2 j).symm
theorem xg (s t : Nat) : Builtin.bitAnd (s : Int) (t : Int) = ((s &&& t : Nat) : Int) := by
 unfold Builtin.bitAnd
 rw [decide_eq_true (Int.natCast_nonneg s),decide_eq_true (Int.natCast_nonneg t)]
 show ((((s:Int).toNat &&& (t:Int).toNat:Nat)):Int) = _
 rw [Int.toNat_natCast,Int.toNat_natCast]
theorem iM (s t : Nat) : Builtin.bitAnd (s : Int) (Builtin.bitNot (t : Int)) = ((Bt.wo s t : Nat) : Int) := by
 have hn : ¬ (0:Int) ≤ Builtin.bitNot (t:Int):=by unfold Builtin.bitNot;omega
 have e:(Builtin.bitNot (Builtin.bitNot (t:Int))).toNat = t:=by unfold Builtin.bitNot;omega
 unfold Builtin.bitAnd
 rw [decide_eq_true (Int.natCast_nonneg s),decide_eq_false hn]
 show (s:Int) - (((s:Int).toNat &&& (Builtin.bitNot (Builtin.bitNot (t:Int))).toNat:Nat):Int) = _
 rw [Int.toNat_natCast,e]
 have:(s &&& t) ≤ s:=Nat.and_le_left
 unfold Bt.wo;omega
end L3
namespace L3
open PySem PySem.Spec PyProof.Rows L2 PySem.SeqAt
def xi:List V→Hp→VK→Prop:=fun xs H Q=>∃ a kvs,xs = [.ref a]∧Rd H a (.dK kvs)∧∀ p,H p = none→Q (.ref p) (upd H p (.dK kvs))
theorem pT {X : Cx} : cJ X (.type "dict") xi := by
 intro pins s σ H xs us Q I r h
 obtain ⟨a,kvs,rfl,e,q⟩:=h
 obtain ⟨u,rfl,rx⟩:=vals1 r
 cases rx
 exact A_ I e fun p s' hp I'=>⟨.ref p,_,I',rfl,q p hp⟩
def xx (kvs:List (Key×V)):Prop:=∀ p ∈ kvs,∃ i:Int,p.2 = .int i∧dX kvs p.1 = some (.int i)
theorem FN {A : Around} {s : Shared} {kvs : List (Key × V)} {vs' : List (Key × Value)} (r' : KV kvs vs') : ∀ {part : List (Key × V)} {us : List (Key × Value)}, KV part us → (∀ p ∈ part, ∃ i : Int, p.2 = .int i ∧ dX kvs p.1 = some (.int i)) → PySem.W.KeqHits A s vs' us true := by
 intro part us r
 unfold KV at r
 induction r with
 | nil=>intro _;exact .nil
 | @cons p q part us r1 r2 ih =>
   intro h
   obtain ⟨k,v⟩:=p
   obtain ⟨k2,u⟩:=q
   obtain ⟨e1,e2⟩:=r1
   have e1:k = k2:=e1
   subst e1
   obtain ⟨i,e3,e4⟩:=h (k,v) List.mem_cons_self
   have e3:v = .int i:=e3
   subst e3
   obtain ⟨t,e5⟩:=(show ∃ t,u = Value.int i t from e2)
   subst e5
   have r3:=r'.val k
   rw [e4] at r3
   obtain ⟨u',e6,e7⟩:=fQ.some_of r3
   obtain ⟨t',e8⟩:=(show ∃ t,u' = Value.int i t from e7)
   subst e8
   have z : EqAt A s (Value.int i t) (Value.int i t') true := by
     have:=EqAt.int_int (A:=A) (s:=s) i t i t'
     rw [beq_self_eq_true] at this;exact this
   exact PySem.W.KeqHits.hit (e:=true) (b:=true) e6 z (ih fun p hp=>h p (List.mem_cons_of_mem _ hp))
def pC:R2:=fun x y H Q=>∃ a b kvs,x = .ref a∧y = .ref b∧Rd H a (.dK kvs)∧Rd H b (.dK kvs)∧xx kvs∧Q (.bl false) H
theorem uJ {X : Cx} (hu : X.A.units + 64 < cLine) : bJ X (compareOp .NotEq) pC := by
 intro pins s σ H x y v u Q I rx ry h
 obtain ⟨a,b,kvs,rfl,rfl,ha,hb,hs,q⟩:=h
 cases rx
 cases ry
 obtain ⟨z,hd,vs,rel,dd⟩:=iE I.ay ha
 obtain ⟨z',hd',vs',rel',dd'⟩:=iE I.ay hb
 refine PySem.W.keq_ne (r:=true) hd hd' dd dd' (by omega) (fun _=>FN rel' rel hs) ?_
 rw [← rel.length,← rel'.length,beq_self_eq_true]
 exact ⟨.bl _,H,I,rfl,q⟩
theorem G7 {a:Addr} {kvs:List (Key×V)} {H:Hp} {Q:VK} (h:H a = some (.dK kvs)) (q:∀ p,H p = none→Q (.ref p) (upd H p (.dK kvs))):xi [.ref a] H Q:=⟨a,kvs,rfl,.inl h,q⟩
theorem vJ {a b:Addr} {kvs:List (Key×V)} {H:Hp} {Q:VK} (ha:H a = some (.dK kvs)) (hb:H b = some (.dK kvs)) (hs:xx kvs) (q:Q (.bl false) H):pC (.ref a) (.ref b) H Q:=⟨a,b,kvs,rfl,rfl,.inl ha,.inl hb,hs,q⟩
theorem GP {σ : St} {H:Hp} {Q:VK} (q:∀ p,H p = none→Q (.ref p) (upd H p (.dK []))):zU σ H Q:=q
theorem HU {td ty tv:TE} {D:Ends} {σ : St} {H:Hp} (q:tv σ H fun v H1=>td σ H1 fun x H2=>ty σ H2 fun y H3=>∃ a H4,x = .ref a∧om H3 a y v H4∧D.nx σ H4):EW td ty tv D σ H:=q
theorem kh {p : Addr} {kvs : List (Key × V)} {k : Int} {v : V} {H : Hp} {R : Hp → Prop} (h : H p = some (.dK kvs)) (hl : kvs.length < sizeLine) (q : R (upd H p (.dK (putK kvs (.inl k) v)))) : ∃ a H4, V.ref p = .ref a ∧ om H a (.int k) v H4 ∧ R H4 :=
 ⟨p,_,rfl,om.k (k:=.inl k) h hl,q⟩
theorem tR {td ty:TE} {σ : St} {H:Hp} {Q:VK} (q:td σ H fun x H1=>ty σ H1 fun y H2=>∃ a v,x = .ref a∧gF H2 a y (some v)∧Q v H2):DV td ty σ H Q:=q
theorem F0 {p : Addr} {kvs : List (Key × V)} {k : Int} {v : V} {H : Hp} {Q : VK} (h : H p = some (.dK kvs)) (e : dX kvs (.inl k) = some v) (q : Q v H) : ∃ a v, V.ref p = .ref a ∧ gF H a (.int k) (some v) ∧ Q v H :=
 ⟨p,v,rfl,e ▸ gF.k (k:=.inl k) h,q⟩
theorem Cf {td ty:TE} {σ : St} {H:Hp} {Q:VK} (q:ty σ H fun y H1=>td σ H1 fun x H2=>∃ a o,x = .ref a∧gF H2 a y o∧Q (.bl o.isSome) H2):G6 ty td σ H Q:=q
theorem AI {p:Addr} {kvs:List (Key×V)} {k:Int} {H:Hp} {R:Option V→Prop} (h:H p = some (.dK kvs)) (q:R (dX kvs (.inl k))):∃ a o,V.ref p = .ref a∧gF H a (.int k) o∧R o:=⟨p,_,rfl,gF.k (k:=.inl k) h,q⟩
theorem Jg {t:TE} {σ : St} {H:Hp} {Q:Bool→Hp→Prop} (q:t σ H fun x H'=>∃ b,x = .bl b∧Q b H'):tB t σ H Q:=q
structure gA (K : PySem.W.Frag) (x qual : Str) (st : Stmt) (f : Addr) (fd : FuncData) : Prop where
 ex : ∃ (oc : Value) (od : Option Addr) (da : Addr) (kV doc pm : Value) (an : Option Addr) (cdv ct : Value) (osl : Array (Option Value)) (o : Obj) (n : Nat),
   fd = PySem.W.fnOf x qual (ax st) (au st) (ae st) (.ref da) kV doc pm an cdv ct∧K.lookup f = some ⟨oc,od,.func fd,osl⟩∧PySem.W.codeIn K cdv qual = true∧K.lookup da = some o∧o.data = .seq #[.none] n
 kp:PySem.W.keepIn K (.ref f) = true
theorem FU {K : PySem.W.Frag} {x qual : Str} {st : Stmt} {f da : Addr} {o : Obj} {oc : Value} {od an : Option Addr} {osl : Array (Option Value)} {kV doc pm cdv ct : Value} (l : K.lookup f = some ⟨oc, od, .func (PySem.W.fnOf x qual (ax st) (au st) (ae st) (.ref da) kV doc pm an cdv ct), osl⟩)
   (d:K.lookup da = some o∧∃ n,o.data = .seq #[.none] n) (c:PySem.W.codeIn K cdv qual = true) (k:PySem.W.keepIn K (.ref f) = true):gA K x qual st f (PySem.W.fnOf x qual (ax st) (au st) (ae st) (.ref da) kV doc pm an cdv ct) :=
 let ⟨n,e⟩:=d.2;⟨⟨oc,od,da,kV,doc,pm,an,cdv,ct,osl,o,n,rfl,l,c,d.1,e⟩,k⟩
section
variable {P:Program} {w:World} {K:PySem.W.Frag} {mg:Str→Option Value} {base:Heap}
theorem gA.ok {x qual : Str} {st : Stmt} {f : Addr} {fd : FuncData} {N ps : List Str} {k : Nat} {sp : Sp} (F : gA K x qual st f fd) (S : aA N ps (ae st)) (len : ∀ vs H Q E, sp vs H Q E → vs.length = ps.length)
   (hbody : ∀ (cdv : Value) (A : Around) (outer : List Env) (s : Shared) (H : Hp) (vs : List V) (Q : VK) (E : XK), bS k (A.deeper (envOfC qual (ae st) s.heap.objs.size f cdv)) → sp vs H Q E →
     ∃ t,iO (fN ba P w K mg base N qual (ae st) f cdv A outer s H E).cw (au st) t∧t { nx:=fun _ H'=>Q .aH H',rt:=Q } (start N vs) H):ez P w K mg base ba (k + 1) f fd ps sp:=by
 obtain ⟨oc,od,da,kV,doc,pm,an,cdv,ct,osl,o,n,rfl,lk,hcd,_,_⟩:=F.ex
 refine tf lk hcd S len fun A outer s H vs Q E hr hsp=>?_
 obtain ⟨t,h,q⟩:=hbody cdv A outer s H vs Q E hr hsp
 exact ⟨t,h.cw,q⟩
theorem gA.yV {x qual : Str} {st : Stmt} {f : Addr} {fd : FuncData} {ps : List Str} (F : gA K x qual st f fd)
   (h:∀ (da:Addr) (kV doc pm:Value) (an:Option Addr) (cdv ct:Value) (us:List Value),us.length + 1 = ps.length→∃ k:Option (Array Value)→Sem (List (Str×Value)),bindArgs (PySem.W.fnOf x qual (ax st) (au st) (ae st) (.ref da) kV doc pm an cdv ct) ⟨us,[]⟩ = seqItems? (.ref da) >>= k∧k (some #[.none]) = pure (ps.zip (us ++ [.none]))):Binds K fd ps [.none]:=by
 obtain ⟨oc,od,da,kV,doc,pm,an,cdv,ct,osl,o,n,rfl,lk,hcd,ld,ed⟩:=F.ex
 intro s us KX hl
 obtain ⟨k,h1,h2⟩:=h da kV doc pm an cdv ct us (by rw [List.length_append] at hl;exact hl)
 exact .of_defaults rfl (KX _ _ ld) ed h1 h2
end
structure L_ (P : Program) (w : World) (K : PySem.W.Frag) (mg : Str → Option Value) (base : Heap) (CX : eW) (k : Nat) (x : Str) (C : Addr) (sp : Sp) : Prop where
 ex:∃ (f:Addr) (fd:FuncData) (ps:List Str),Mk K C f∧ez P w K mg base CX k f fd ps sp∧mg x = some (.ref C)∧Binds K fd ps [.none]
section
variable {X:Cx} {CX:eW} {k:Nat} {C:Addr} {sp:Sp} {E:XK} {x m:Str} {p pos apos:Pos} {e o:Expr} {es:List Expr} {ta:TE} {t:TA}
end
section
variable {P:Program} {w:World} {K:PySem.W.Frag} {mg:Str→Option Value} {base:Heap} {x qual:Str} {st:Stmt} {N ps:List Str} {sp:Sp} {C:Addr}
theorem Gu {y : Str} (k : Nat) (hy : mg y = some (.ref C)) (h : ∃ f fd, gA K "__init__" qual st f fd ∧ Mk K C f ∧ Binds K fd ps [] ∧ Binds K fd ps [.none]) (S : aA N ps (ae st)) (len : ∀ vs H Q E, sp vs H Q E → vs.length = ps.length)
   (hbody:BodyOk P w K mg base k qual st N sp):lA P w K mg base ba (k + 1) y C sp∧L_ P w K mg base ba (k + 1) y C sp:=by
 obtain ⟨f,fd,F,hm,hb,hb2⟩:=h
 exact ⟨⟨f,fd,ps,hm,F.ok S len (hbody f),hy,hb⟩,⟨f,fd,ps,hm,F.ok S len (hbody f),hy,hb2⟩⟩
end
theorem nA {K:PySem.W.Frag} {neg:Bool} {x:V} {p:Addr} {xs:List V} {H:Hp} {Q:VK} (h:az K H p xs) (hx:hU x = true) (hs:xs.all hU = true) (q:Q (.bl (if neg then !wR x xs else wR x xs)) H):vV K neg x (.ref p) H Q:=⟨p,xs,rfl,.inl h,hx,hs,q⟩
section
variable {K:PySem.W.Frag} {a:Addr} {xs:List V} {g:TG} {tc:TT} {te:TE} {fin:List V→Hp→Prop} {H:Hp}
theorem vk {σ0 : St} (Pv : Nat → List V → St → Hp → Prop) (h0 : Pv 0 [] σ0 H) (hl : ∀ i ys σ H, i ≤ xs.length → Pv i ys σ H → aW K H a xs ∧ ys.length ≤ sizeLine)
   (hs:∀ i x ys σ H,xs[i]? = some x→Pv i ys σ H→g x σ H fun σ3 H3=>tc σ3 H3 fun b H4=>if b = true then te σ3 H4 fun y H5=>Pv (i + 1) (ys ++ [y]) σ3 H5 else Pv (i + 1) ys σ3 H4)
   (hd:∀ ys σ H,Pv xs.length ys σ H→fin ys H):jN (zm K a) g tc te fin σ0 H:=by
 refine ⟨fun i m ys σ H=>m = xs.length - i∧i ≤ xs.length∧Pv i ys σ H,⟨xs.length,by simp,Nat.zero_le _,h0⟩,?_⟩
 rintro i m ys σ H ⟨rfl,hi,p⟩
 obtain ⟨q,hz⟩:=hl i ys σ H hi p
 by_cases hlt:i < xs.length
 · refine .inr ⟨⟨xs, xs[i], q, by simp [hlt]⟩, Pv (i + 1), fun ys2 σ2 H2 p' => ⟨(hl (i + 1) ys2 σ2 H2 hlt p').2, xs.length - (i + 1), by omega, rfl, hlt, p'⟩, fun x H2 y => ?_⟩
   obtain ⟨e,y⟩:=y
   subst e
   exact hs i x ys σ _ (y xs q) p
 · have e : i = xs.length := by omega
   subst e
   exact .inl ⟨⟨xs,q,Nat.le_refl _⟩,hz,hd ys σ H p⟩
theorem AQ {α : Type} {xs : List α} {emb : α → V} {σ0 : St} (f : α → V) (Sg : St → Prop) (hl : aW K H a (xs.map emb)) (hz : xs.length ≤ sizeLine) (h0 : Sg σ0)
   (hs : ∀ (i : Nat) (x : α) (ys : List V) (σ : St) (H1 : Hp), xs[i]? = some x → iV xs f Sg H i ys σ H1 → ar H H1 → Sg σ →
     g (emb x) σ H1 fun σ3 H3=>tc σ3 H3 fun b H4=>if b = true then te σ3 H4 fun y H5=>iV xs f Sg H (i + 1) (ys ++ [y]) σ3 H5 else iV xs f Sg H (i + 1) ys σ3 H4)
   (hd:∀ H1,ar H H1→fin (xs.map f) H1):jN (zm K a) g tc te fin σ0 H:=by
 refine vk (xs:=xs.map emb) (iV xs f Sg H) ⟨ar.refl _,h0,rfl⟩ ?_ ?_ ?_
 · rintro i ys σ H1 hi ⟨s, _, rfl⟩
   refine ⟨bG s hl,?_⟩
   rw [List.length_map,List.length_take];omega
 · intro i x ys σ H1 hx c
   rw [List.getElem?_map] at hx
   obtain ⟨z,hz,rfl⟩:=Option.map_eq_some_iff.mp hx
   exact hs i z ys σ H1 hz c c.1 c.2.1
 · rintro ys σ H1 ⟨s, _, rfl⟩
   rw [List.length_map,List.take_length]
   exact hd H1 s
end
theorem Gh (xs : List Int) : PyData.eqv (.list (xs.map PyData.int)) (.list []) = xs.isEmpty := by
 cases xs <;> simp [PyData.eqv,PyData.eqvAll]
theorem xo:shaped (.list []) = true:=shaped_ints []
theorem wb {K : PySem.W.Frag} {a b : Addr} {xs : List Int} {H : Hp} {Q : VK} (ha : az K H a (xs.map V.int)) (hb : az K H b []) (q : Q (.bl xs.isEmpty) H) : oo K (.ref a) (.ref b) H Q :=
 .inr ⟨_,.list [],vR ha,AH hb gM,shaped_ints xs,xo,by rw [Gh];exact q⟩
end L3
namespace L3
open PySem PySem.Spec PyProof.Rows
section
variable {prog:Program} {w:World} {A:Around} {E:Value→Shared→Prop} {s:Shared}
theorem mq {it t : Addr} {i : Nat} {its : Array Value} {Q : Value → Shared → Prop} (hi : s.heap.IsTupleIter it t i) (ht : s.heap.IsTuple t its)
   (q1:∀ x,its[i]? = some x→∀ h',h'.IsTupleIter it t (i + 1)→Heap.SameBut it s.heap h'→Q x { s with heap:=h' })
   (q2:its[i]? = none→A.handled = none∧∀ h' e,Heap.ExtBut it s.heap h'→(∃ o,h'.get? e = some o∧o.cls = .type "StopIteration")→E (.ref e) { s with heap:=h' }) :
   wpAny (model prog w) A (Builtin.SmallTypes.nextOf (.ref it)) Q E s:=by
 obtain ⟨o,ho,hc,hd⟩:=id hi
 obtain ⟨ot,hot,_,nt,hdt⟩:=ht
 unfold Builtin.SmallTypes.nextOf
 refine wpAny_bind (wpAny_callSpecial?_slot (name:=Str.ofString "__next__") hi.typeIs F.slot_tuple_iterator_next (wpAny_call_entry F.slot_tuple_iterator_next hi.typeIs F.entry_tuple_iterator_next ?_ (F.args_tuple_iterator_next_1 _)))
 show wpAny _ _ (field (.ref it) 0 >>= _) _ _ _;refine wpAny_bind (wpAny_field ho hd (x:=.ref t) rfl ?_)
 show wpAny _ _ (if (Value.ref t == Value.none) = true then _ else _) _ _ _;rw [if_neg (show ¬ (Value.ref t == Value.none) = true from fun z=>Bool.false_ne_true z)]
 show wpAny _ _ (field (.ref it) 1 >>= _) _ _ _;refine wpAny_bind (wpAny_field ho hd (x:=.int i 0) rfl ?_)
 show wpAny _ _ (seqItems? (.ref t) >>= _) _ _ _;refine wpAny_bind (wpAny_seqItems hot hdt ?_)
 cases hx:its[i]? with
 | some x =>
   simp only [Int.toNat_natCast,hx];refine wpAny_bind (wpAny_setField ho hd (by simp) (wpAny_pure ⟨x,rfl,wpAny_pure (q1 x hx _ ?_ (Heap.SameBut.update ..))⟩))
   refine ⟨_,Heap.get?_update_self _ ho (Obj.isFreed_of_fields (Obj.data_mapFields hd _)),(Obj.cls_mapFields ..).trans hc,?_⟩
   rw [Obj.data_mapFields hd];simp [rawInt]
 | none =>
   obtain ⟨hh,q2⟩:=q2 hx
   simp only [Int.toNat_natCast,hx];refine wpAny_bind (wpAny_rule (wpAny_bind (wpAny_setField ho hd (by simp) ?_)))
   show wpAny _ _ (newExc (.type "StopIteration") [] >>= _) _ _ _;refine wpAny_bind ?_
   simp only [newExc,newTuple];refine wpAny_bind (wpAny_newObj_type ?_ (by size_fits))
   refine wpAny_bind (m:=firstArgMember _ _) (wpAny_of_eq (a:=Value.none) (by first | rfl | (simp only [firstArgMember];rfl)) (wpAny_newObj_type ?_ (by size_fits)))
   simp only [raiseNew];refine wpAny_bind (wpAny_handled ?_)
   rw [show A.in1.handled = none from hh];refine wpAny_bind (wpAny_pure (wpAny_throw ?_))
   exact q2 _ _ (((Heap.SameBut.update ..).extBut.push _).push _) ⟨_,Heap.get?_push_size _ rfl,rfl⟩
theorem Mh {z TI TO i1 i2 t1 t2 : Addr} {k : Nat} {xs ys : Array Value} {a b : Value} {Q : Fin → Shared → Prop} (D : ZipApart z TI TO i1 i2 t1 t2) (hz : IsZip s.heap z TI TO .none) (hTI : IsPair s.heap TI (.ref i1) (.ref i2)) (hTO : IsPair s.heap TO a b)
   (h1:s.heap.IsTupleIter i1 t1 k) (h2:s.heap.IsTupleIter i2 t2 k) (ht1:s.heap.IsTuple t1 xs) (ht2:s.heap.IsTuple t2 ys)
   (q1 : ∀ x y, xs[k]? = some x → ys[k]? = some y → ∀ h', IsZip h' z TI TO (rawInt s.heap.objs.size) → IsPair h' TO x y → h'.IsTupleIter i1 t1 (k + 1) → h'.IsTupleIter i2 t2 (k + 1) → IsPair h' s.heap.objs.size x y →
     (∀ c o,c ≠ z→c ≠ TO→c ≠ i1→c ≠ i2→s.heap.get? c = some o→h'.get? c = some o)→Q (.done (.ret (.ref s.heap.objs.size))) { s with heap:=h' })
   (q2:(xs[k]? = none∨ys[k]? = none)→A.handled = none∧∀ h' e,(∀ c o,c ≠ z→c ≠ TO→c ≠ i1→c ≠ i2→s.heap.get? c = some o→h'.get? c = some o)→(∃ o,h'.get? e = some o∧o.cls = .type "StopIteration")→E (.ref e) { s with heap:=h' }) :
   wpAny (model prog w) A (Builtin.«zip.__next__» ⟨[.ref z],[]⟩) Q E s:=by
 show wpAny _ _ (field (.ref z) 2 >>= _) _ _ _;refine wpAny_bind (wpAny_field hz rfl (x:=.bool false) rfl ?_)
 show wpAny _ _ (field (.ref z) 3 >>= _) _ _ _;refine wpAny_bind (wpAny_field hz rfl (x:=.ref TI) rfl (wpAny_bind (wpAny_seqItems hTI rfl ?_)))
 show wpAny _ _ (Builtin.SmallTypes.ownedTupleIsFree (.ref z) >>= _) _ _ _;refine wpAny_bind ?_
 unfold Builtin.SmallTypes.ownedTupleIsFree;refine wpAny_bind (wpAny_field hz rfl (x:=.none) rfl (wpAny_pure ?_))
 simp only [if_true];refine wpAny_bind (wpAny_rule (wpAny_bind (wpAny_field hz rfl (x:=.ref TO) rfl ?_)))
 refine wpAny_bind (wpAny_setField_rec hz (by simp) fun g1 hz1 s1=>?_);replace hz1:IsZip g1 z TI TO .ellipsis:=hz1
 refine wpAny_bind ?_;simp only [List.zipIdx_cons,List.zipIdx_nil,List.forIn_cons,List.forIn_nil]
 refine wpAny_bind (wpAny_bind (wpAny_onRaise ?_));show wpAny _ _ (Builtin.SmallTypes.nextOf (.ref i1) >>= _) _ _ _
 refine wpAny_bind (mq (h1.at fun o e=>s1.extBut _ o D.i1z e) (ht1.extBut s1.extBut D.l1z) (fun x hx g2 h12 s2=>wpAny_pure ?_) fun hx=>?_)
 · have hO2 : IsPair g2 TO a b := s2.extBut _ _ D.TOi1 (s1.extBut _ _ D.TOz hTO)
   refine wpAny_bind (wpAny_seqItems hO2 rfl (wpAny_bind (wpAny_updateSeq_pair hO2 fun g3 hO3 s3=>?_)));replace hO3:IsPair g3 TO x b:=hO3
   refine wpAny_bind (wpAny_letGo (wpAny_pure ?_));refine wpAny_bind (wpAny_bind (wpAny_onRaise ?_))
   show wpAny _ _ (Builtin.SmallTypes.nextOf (.ref i2) >>= _) _ _ _
   have k3:∀ c o,c ≠ z→c ≠ TO→c ≠ i1→s.heap.get? c = some o→g3.get? c = some o:=fun c o c1 c2 c3 e=>s3.extBut _ _ c2 (s2.extBut _ _ c3 (s1.extBut _ _ c1 e))
   have hz3:IsZip g3 z TI TO .ellipsis:=s3.extBut _ _ D.TOz.symm (s2.extBut _ _ D.i1z.symm hz1)
   refine wpAny_bind (mq (h2.at fun o e=>k3 _ o D.i2z D.TOi2.symm D.i12.symm e) (ht2.at fun o e=>k3 _ o D.l2z D.l2TO D.l2i1 e) (fun y hy g4 h24 s4=>wpAny_pure ?_) fun hy=>?_)
   · have hO4 : IsPair g4 TO x b := s4.extBut _ _ D.TOi2 hO3
     refine wpAny_bind (wpAny_seqItems hO4 rfl (wpAny_bind (wpAny_updateSeq_pair hO4 fun g5 hO5 s5=>?_)));replace hO5:IsPair g5 TO x y:=hO5
     refine wpAny_bind (wpAny_letGo (wpAny_pure (wpAny_pure ?_)));refine wpAny_bind (wpAny_seqItems hO5 rfl (wpAny_bind (wpAny_newTuple ?_)))
     have z5:g5.objs.size = s.heap.objs.size:=by rw [s5.1,s4.1,s3.1,s2.1,s1.1]
     have hz5:IsZip g5 z TI TO .ellipsis:=s5.extBut _ _ D.TOz.symm (s4.extBut _ _ D.i2z.symm hz3)
     have k5:∀ c o,c ≠ z→c ≠ TO→c ≠ i1→c ≠ i2→s.heap.get? c = some o→g5.get? c = some o:=fun c o c1 c2 c3 c4 e=>s5.extBut _ _ c2 (s4.extBut _ _ c4 (k3 c o c1 c2 c3 e))
     have h15:g5.IsTupleIter i1 t1 (k + 1):=h12.at fun o e=>s5.extBut _ _ D.TOi1.symm (s4.extBut _ _ D.i12 (s3.extBut _ _ D.TOi1.symm e))
     have h25:g5.IsTupleIter i2 t2 (k + 1):=h24.at fun o e=>s5.extBut _ _ D.TOi2.symm e
     have zlt:z < g5.objs.size:=Heap.lt_size hz5
     show wpAny _ _ (Builtin.SmallTypes.ownedTupleHandOut (.ref z) (.ref g5.objs.size) >>= _) _ _ _;refine wpAny_bind ?_
     unfold Builtin.SmallTypes.ownedTupleHandOut
     have hz6:IsZip (g5.push { cls:=.type "tuple",data:=.seq #[x,y] }) z TI TO .ellipsis:=Heap.get?_push_of_some _ hz5
     refine wpAny_bind (wpAny_setField_rec hz6 (by simp) fun g7 hz7 s7=>?_);replace hz7:IsZip g7 z TI TO (rawInt g5.objs.size):=hz7
     refine wpAny_setField_rec hz7 (by simp) fun g8 hz8 s8=>?_;replace hz8:IsZip g8 z TI TO (rawInt g5.objs.size):=hz8
     have up:∀ c o,c ≠ z→g5.get? c = some o→g8.get? c = some o:=fun c o c1 e=>s8.extBut _ _ c1 (s7.extBut _ _ c1 (Heap.get?_push_of_some _ e))
     have hT8:IsPair g8 g5.objs.size x y:=s8.extBut _ _ (Nat.ne_of_gt zlt) (s7.extBut _ _ (Nat.ne_of_gt zlt) (Heap.get?_push_size _ rfl))
     rw [z5] at hz8 hT8;refine wpAny_pure ?_
     show Q (.done (.ret (.ref g5.objs.size))) _;rw [z5]
     exact q1 x y hx hy g8 hz8 (up _ _ D.TOz hO5) (h15.at fun o e=>up _ o D.i1z e) (h25.at fun o e=>up _ o D.i2z e) hT8 fun c o c1 c2 c3 c4 e=>up c o c1 (k5 c o c1 c2 c3 c4 e)
   · obtain ⟨hh, q2⟩ := q2 (.inr hy)
     refine ⟨hh,fun g4 e s4 he=>?_⟩
     obtain ⟨oe,hoe,hce⟩:=he
     have hz4:IsZip g4 z TI TO .ellipsis:=s4 _ _ D.i2z.symm hz3
     have hez:e ≠ z:=fun v=>by subst v;rw [hz4] at hoe;cases hoe;simp at hce
     exact wpAny_setField_rec hz4 (by simp) fun g5 _ s5=>q2 g5 e (fun c o c1 c2 c3 c4 v=>s5.extBut _ _ c1 (s4 _ _ c4 (k3 c o c1 c2 c3 v))) ⟨oe,s5.extBut _ _ hez hoe,hce⟩
 · obtain ⟨hh, q2⟩ := q2 (.inl hx)
   refine ⟨hh,fun g2 e s2 he=>?_⟩
   obtain ⟨oe,hoe,hce⟩:=he
   have hz2:IsZip g2 z TI TO .ellipsis:=s2 _ _ D.i1z.symm hz1
   have hez:e ≠ z:=fun v=>by subst v;rw [hz2] at hoe;cases hoe;simp at hce
   exact wpAny_setField_rec hz2 (by simp) fun g3 _ s3=>q2 g3 e (fun c o c1 _ c3 _ v=>s3.extBut _ _ c1 (s2 _ _ c3 (s1.extBut _ _ c1 v))) ⟨oe,s3.extBut _ _ hez hoe,hce⟩
end
abbrev ub (t:Addr):Obj:={ cls:=.type "tuple_iterator",data:=.fields #[.ref t,.int 0 0] }
abbrev Ma (a b:Value):Obj:={ cls:=.type "tuple",data:=.seq #[a,b] }
abbrev mj (h:Heap) (t:Addr):Heap:=h.push (ub t)
abbrev lF (h:Heap) (t u:Addr):Heap:=(mj h t).push (ub u)
abbrev vS (h:Heap) (t u:Addr):Heap:=(lF h t u).push (Ma (.ref h.objs.size) (.ref (mj h t).objs.size))
abbrev wt (h:Heap) (t u:Addr):Heap:=(vS h t u).push (Ma .none .none)
abbrev wD (h:Heap) (t u:Addr):Heap:=(wt h t u).push { cls:=.type "zip",data:=.fields #[.none,.bool false,.bool false,.ref (lF h t u).objs.size,.ref (vS h t u).objs.size] }
theorem BP (t u : Addr) (xs ys : Array Value) : Meets (Builtin.«zip.__new__» ⟨[.type "zip", .ref t, .ref u], []⟩) (fun _ R s => s.heap.IsTuple t xs ∧ s.heap.IsTuple u ys ∧ R (.ok (.ret (.ref (wt s.heap t u).objs.size))) { s with heap := wD s.heap t u }) :=
 .of_wp fun prog w A R s h => by
   obtain ⟨hp,g,d,tk,os⟩:=s;obtain ⟨hl1,hl2,h⟩:=h
   have hsub:=sub_zip;have hL1:Heap.IsTuple (Shared.heap ⟨hp,g,d,tk,os⟩) t xs:=hl1
   have hL2:Heap.IsTuple (Shared.heap ⟨hp.push (ub t),g,d,tk,os⟩) u ys:=hl2.at fun o e=>Heap.get?_push_of_some _ e
   wp_walk using wpAny_pyIter_tuple hL1,wpAny_pyIter_tuple hL2
   exact ⟨_,rfl,h⟩
section
variable {prog:Program} {w:World} {A:Around} {E:Value→Shared→Prop} {s:Shared}
theorem F5 {t u : Addr} {xs ys : Array Value} {Q : Value → Shared → Prop} (h1 : s.heap.IsTuple t xs) (h2 : s.heap.IsTuple u ys)
   (q : ∀ h' n, n = s.heap.objs.size → IsZip h' (n + 4) (n + 2) (n + 3) .none → IsPair h' (n + 2) (.ref n) (.ref (n + 1)) → IsPair h' (n + 3) .none .none → h'.IsTupleIter n t 0 → h'.IsTupleIter (n + 1) u 0 →
     (∀ c o,s.heap.get? c = some o→h'.get? c = some o)→Q (.ref (n + 4)) { s with heap:=h' }):wpAny (model prog w) A (call (.type "zip") [.ref t,.ref u]) Q E s:=by
 refine callType_new F.called_zip (by decide) (F.typeCall_zip_2 _ _) (F.newCall_zip_2 _ _) (fun obj=>F.args_object_init_3 obj _ _) F.entry_zip_new (BP t u xs ys) ⟨h1,h2,?_⟩
 have z1:(mj s.heap t).objs.size = s.heap.objs.size + 1:=Heap.size_push ..
 have z2:(lF s.heap t u).objs.size = s.heap.objs.size + 2:=by rw [Heap.size_push,z1]
 have z3:(vS s.heap t u).objs.size = s.heap.objs.size + 3:=by rw [Heap.size_push,z2]
 have z4:(wt s.heap t u).objs.size = s.heap.objs.size + 4:=by rw [Heap.size_push,z3]
 have p5:∀ c o,(wt s.heap t u).get? c = some o→(wD s.heap t u).get? c = some o:=fun c o e=>Heap.get?_push_of_some _ e
 have p4:∀ c o,(vS s.heap t u).get? c = some o→(wD s.heap t u).get? c = some o:=fun c o e=>p5 c o (Heap.get?_push_of_some _ e)
 have p3:∀ c o,(lF s.heap t u).get? c = some o→(wD s.heap t u).get? c = some o:=fun c o e=>p4 c o (Heap.get?_push_of_some _ e)
 have p2:∀ c o,(mj s.heap t).get? c = some o→(wD s.heap t u).get? c = some o:=fun c o e=>p3 c o (Heap.get?_push_of_some _ e)
 have e5:(wD s.heap t u).get? (wt s.heap t u).objs.size = some _:=Heap.get?_push_size _ rfl
 have e4:=p5 _ _ (show (wt s.heap t u).get? (vS s.heap t u).objs.size = some _ from Heap.get?_push_size _ rfl)
 have e3:=p4 _ _ (show (vS s.heap t u).get? (lF s.heap t u).objs.size = some _ from Heap.get?_push_size _ rfl)
 have e2:=p3 _ _ (show (lF s.heap t u).get? (mj s.heap t).objs.size = some _ from Heap.get?_push_size _ rfl)
 have e1:=p2 _ _ (show (mj s.heap t).get? s.heap.objs.size = some _ from Heap.get?_push_size _ rfl)
 rw [z2,z3,z4] at e5
 rw [z2,z1] at e3
 rw [z3] at e4
 rw [z1] at e2
 show _∧_
 rw [z4]
 exact ⟨⟨_,e5,rfl⟩,q _ _ rfl e5 e3 e4 ⟨_,e1,rfl,rfl⟩ ⟨_,e2,rfl,rfl⟩ fun c o x=>p2 c o (Heap.get?_push_of_some _ x)⟩
theorem vO {z TI TO i1 i2 t1 t2 : Addr} {k : Nat} {xs ys : Array Value} {a b : Value} {Q : Option Value → Shared → Prop} (D : ZipApart z TI TO i1 i2 t1 t2) (hz : IsZip s.heap z TI TO .none) (hTI : IsPair s.heap TI (.ref i1) (.ref i2)) (hTO : IsPair s.heap TO a b)
   (h1:s.heap.IsTupleIter i1 t1 k) (h2:s.heap.IsTupleIter i2 t2 k) (ht1:s.heap.IsTuple t1 xs) (ht2:s.heap.IsTuple t2 ys)
   (q1 : ∀ x y, xs[k]? = some x → ys[k]? = some y → ∀ h', IsZip h' z TI TO (rawInt s.heap.objs.size) → IsPair h' TO x y → h'.IsTupleIter i1 t1 (k + 1) → h'.IsTupleIter i2 t2 (k + 1) → IsPair h' s.heap.objs.size x y →
     (∀ c o,c ≠ z→c ≠ TO→c ≠ i1→c ≠ i2→s.heap.get? c = some o→h'.get? c = some o)→Q (some (.ref s.heap.objs.size)) { s with heap:=h' })
   (q2:(xs[k]? = none∨ys[k]? = none)→A.handled = none∧∀ h',(∀ c o,c ≠ z→c ≠ TO→c ≠ i1→c ≠ i2→s.heap.get? c = some o→h'.get? c = some o)→Q none { s with heap:=h' }) :
   wpAny (model prog w) A (pyNext (.ref z)) Q E s:=by
 have hT:s.TypeIs (.ref z) "zip":=⟨_,hz,rfl⟩;unfold pyNext
 refine wpAny_bind (wpAny_attempt (wpAny_callSpecial?_slot (name:=Str.ofString "__next__") hT F.slot_zip_next (wpAny_call_entry F.slot_zip_next hT F.entry_zip_next ?_ (F.args_zip_next_1 _))))
 refine Mh D hz hTI hTO h1 h2 ht1 ht2 (fun x y hx hy h' a1 a2 a3 a4 a5 a6=>⟨_,rfl,wpAny_pure (q1 x y hx hy h' a1 a2 a3 a4 a5 a6)⟩) fun he=>⟨(q2 he).1,fun h' e kk ho=>?_⟩
 obtain ⟨o,ho,hc⟩:=ho
 exact wpAny_bind (wpAny_isInstance (T:="StopIteration") (b:=true) ⟨o,ho,hc⟩ isSubtype_stop (wpAny_pure ((q2 he).2 _ kk)))
end
end L3
namespace L3
open PySem PySem.Spec PyProof.Rows L2
def E8 (K : PySem.W.Frag) (a b : Addr) : It :=
 ⟨fun i H => ∃ xs ys x y, aW K H a xs ∧ aW K H b ys ∧ xs[i]? = some x ∧ ys[i]? = some y,
  fun i H v H'=>∃ T x y,v = .ref T∧H T = none∧H' = upd H T (.tup [x,y])∧∀ xs ys,aW K H a xs→aW K H b ys→xs[i]? = some x∧ys[i]? = some y,
  fun i H=>∃ xs ys,aW K H a xs∧aW K H b ys∧(xs.length ≤ i∨ys.length ≤ i)⟩
theorem lT {X : Cx} {pins : List (Addr × Obj)} {σ : St} {H : Hp} {s : Shared} {h' : Heap} {ch : List Addr} {T : Addr} {xs : List V} (I : Inv X pins σ H s) (hf : ∀ b ∈ ch, l7 X pins H b) (hT : s.heap.objs.size ≤ T)
   (k:∀ b o,b ∉ ch→s.heap.get? b = some o→h'.get? b = some o) (kc:∀ b ∈ ch,∃ o,h'.get? b = some o) (new:bQ X.prog X.w (upd H T (.tup xs)) h' T (.tup xs)):Inv X pins σ (upd H T (.tup xs)) { s with heap:=h' }:=by
 have hn:H T = none:=I.ay.fresh hT
 have nc:∀ b u,H b = some u→b ∉ ch:=fun b u e hb=>by rw [(hf b hb).1] at e;cases e
 have nT:∀ b o,s.heap.get? b = some o→b ≠ T:=fun b o e z=>absurd (Heap.lt_size e) (by rw [z];exact Nat.not_lt.mpr hT)
 refine I.nu (ch:=ch) rfl ⟨fun b o e _ _ hc=>k b o hc e,fun b o e _ _ hc=>⟨o.slots,k b o hc e⟩,fun b o e n _=>by rw [ao (nT b o e)];exact n,fun b o e hc=>⟨o,k b o hc e⟩,fun b xs e=>?_,fun b o u e=>?_,fun b ps e=>⟨#[],?_⟩⟩ ?_ I.bare ?_
 · rw [ao (av e hn)];exact e
 · rw [ao (av e hn)];exact e
 · rw [ao (av e hn),e];simp
 · intro b u e
   by_cases hb:b = T
   · subst hb
     rw [ah] at e
     cases e
     exact new
   · rw [ao hb] at e
     refine (I.ay b u e).iA (fun c v hc q=>k c v ?_ q) (fun c q=>by rw [ao (av q hn)];exact q) fun c ys q=>by rw [ao (av q hn)];exact q
     rcases hc with z | z
     · rw [z];exact nc b u e
     · exact nc c _ z
 · intro b hb
   obtain ⟨f0,f1,f2,f3,f4,f5⟩:=hf b hb
   exact ⟨f3,f1,f4,f5⟩
theorem BK {P : Program} {w : World} {K : PySem.W.Frag} {es : List Expr} {n : Nat} {pos : Pos} {a b z TI TO i1 i2 : Addr} (D : ZipApart z TI TO i1 i2 a b) :
   Turn P w K (.Tuple es n pos) (E8 K a b) [z,TI,TO,i1,i2] z (fun i h=>IsZip h z TI TO .none∧IsPair h TI (.ref i1) (.ref i2)∧(∃ x y,IsPair h TO x y)∧h.IsTupleIter i1 a i∧h.IsTupleIter i2 b i) where
 mem:=by simp
 obj := fun i h st c hc => by
   obtain ⟨hz,hI,⟨x,y,hO⟩,⟨o1,e1,_,d1⟩,⟨o2,e2,_,d2⟩⟩:=st
   have hc:c = z∨c = TI∨c = TO∨c = i1∨c = i2:=by simpa using hc
   rcases hc with rfl | rfl | rfl | rfl | rfl
   · exact ⟨_,hz,fun v e=>by cases e⟩
   · exact ⟨_,hI,fun v e=>by cases e⟩
   · exact ⟨_,hO,fun v e=>by cases e⟩
   · exact ⟨_,e1,fun v e=>by rw [d1] at e;cases e⟩
   · exact ⟨_,e2,fun v e=>by rw [d2] at e;cases e⟩
 keep := fun i h h' st k => by
   obtain ⟨hz,hI,⟨x,y,hO⟩,h1,h2⟩:=st
   exact ⟨k z (by simp) _ hz,k TI (by simp) _ hI,⟨x,y,k TO (by simp) _ hO⟩,h1.at fun o e=>k i1 (by simp) o e,h2.at fun o e=>k i2 (by simp) o e⟩
 item := by
   intro X hP hw hK hc i pins s σ H E I hf st hg
   subst hP hw hK
   obtain ⟨hz,hI,⟨x0,y0,hO⟩,h1,h2⟩:=st
   obtain ⟨xs,ys,x,y,hq1,hq2,hx,hy⟩:=hg
   obtain ⟨its1,rv1,p1,_⟩:=I.tuple hq1
   obtain ⟨its2,rv2,p2,_⟩:=I.tuple hq2
   obtain ⟨u,hu,ru⟩:=rv1.get hx
   obtain ⟨v,hv,rv⟩:=rv2.get hy
   refine vO D hz hI hO h1 h2 (show s.heap.IsTuple a its1.toArray from p1) (show s.heap.IsTuple b its2.toArray from p2) (fun u' v' hu' hv' h' z1 z2 z3 z4 z5 kk=>?_) fun he=>?_
   · have e1 : u' = u := by simpa [hu] using hu'.symm
     have e2:v' = v:=by simpa [hv] using hv'.symm
     subst e1 e2
     refine ⟨_,rfl,wpAny_letOwnedTupleGo_zip z1 fun h2' hz2 s2=>?_⟩
     have T0:H s.heap.objs.size = none:=I.ay.fresh (Nat.le_refl _)
     have tz:s.heap.objs.size ≠ z:=Nat.ne_of_gt (Heap.lt_size hz)
     have J : Inv X pins σ (upd H s.heap.objs.size (.tup [x, y])) { s with heap := h2' } := by
       refine lT (ch:=[z,TI,TO,i1,i2]) I hf (Nat.le_refl _) (fun c o hc e=>?_) (fun c hc=>?_) ?_
       · have c1 : c ≠ z := fun q => hc (by simp [q])
         exact s2.extBut _ _ c1 (kk c o c1 (fun q=>hc (by simp [q])) (fun q=>hc (by simp [q])) (fun q=>hc (by simp [q])) e)
       · have hc : c = z ∨ c = TI ∨ c = TO ∨ c = i1 ∨ c = i2 := by simpa using hc
         rcases hc with rfl | rfl | rfl | rfl | rfl
         · exact ⟨_,hz2⟩
         · exact ⟨_,s2.extBut _ _ D.TIz (kk _ _ D.TIz D.TITO D.TIi1 D.TIi2 hI)⟩
         · exact ⟨_,s2.extBut _ _ D.TOz z2⟩
         · obtain ⟨o,e,_⟩:=z3;exact ⟨o,s2.extBut _ _ D.i1z e⟩
         · obtain ⟨o,e,_⟩:=z4;exact ⟨o,s2.extBut _ _ D.i2z e⟩
       · exact ⟨by show 2 ≤ sizeLine;decide,[u',v'],.cons ru (.cons rv .nil),⟨_,s2.extBut _ _ tz z5,rfl,_,rfl⟩⟩
     refine ⟨.ref s.heap.objs.size,_,J,rfl,⟨_,x,y,rfl,T0,rfl,fun xs' ys' q1 q2=>?_⟩,⟨hz2,s2.extBut _ _ D.TIz (kk _ _ D.TIz D.TITO D.TIi1 D.TIi2 hI),⟨_,_,s2.extBut _ _ D.TOz z2⟩,z3.at fun o e=>s2.extBut _ _ D.i1z e,z4.at fun o e=>s2.extBut _ _ D.i2z e⟩,fun c hc=>?_⟩
     · rw [I.gQ q1 hq1,I.gQ q2 hq2];exact ⟨hx,hy⟩
     · have hlt : c < s.heap.objs.size := by
         have hc:c = z∨c = TI∨c = TO∨c = i1∨c = i2:=by simpa using hc
         rcases hc with e | e | e | e | e <;> rw [e]
         · exact Heap.lt_size hz
         · exact Heap.lt_size hI
         · exact Heap.lt_size hO
         · obtain ⟨o,e,_⟩:=h1;exact Heap.lt_size e
         · obtain ⟨o,e,_⟩:=h2;exact Heap.lt_size e
       rw [ao (Nat.ne_of_lt hlt)];exact (hf c hc).1
   · exfalso
     rcases he with he | he
     · simp [hu] at he
     · simp [hv] at he
 done := by
   intro X hP hw hK hc i pins s σ H E I hf st hg
   subst hP hw hK
   obtain ⟨hz,hI,⟨x0,y0,hO⟩,h1,h2⟩:=st
   obtain ⟨xs,ys,hq1,hq2,hl⟩:=hg
   obtain ⟨its1,rv1,p1,_⟩:=I.tuple hq1
   obtain ⟨its2,rv2,p2,_⟩:=I.tuple hq2
   have l1:=rv1.length
   have l2:=rv2.length
   refine vO D hz hI hO h1 h2 (show s.heap.IsTuple a its1.toArray from p1) (show s.heap.IsTuple b its2.toArray from p2) (fun u' v' hu' hv' h' z1 z2 z3 z4 z5 kk=>?_) fun he=>⟨I.ok.hd hc,fun h' kk=>⟨rfl,?_⟩⟩
   · exfalso
     have g1:i < its1.length:=by simpa using (Array.getElem?_eq_some_iff.mp hu').1
     have g2:i < its2.length:=by simpa using (Array.getElem?_eq_some_iff.mp hv').1
     omega
   · have hnc : ∀ c o, c ∉ [z, TI, TO, i1, i2] → s.heap.get? c = some o → h'.get? c = some o := fun c o hc e => kk c o (fun q => hc (by simp [q])) (fun q => hc (by simp [q])) (fun q => hc (by simp [q])) (fun q => hc (by simp [q])) e
     refine I.nu (s':={ s with heap:=h' }) (ch:=[z,TI,TO,i1,i2]) rfl ⟨fun b o e _ _ hc=>hnc b o hc e,fun b o e _ _ hc=>⟨o.slots,hnc b o hc e⟩,fun b o e n _=>n,fun b o e hc=>⟨o,hnc b o hc e⟩,fun _ _ e=>e,fun _ _ _ e=>e,fun b ps e=>⟨#[],by rw [e];simp⟩⟩ (fun b u e=>?_) I.bare ?_
     · have nc : ∀ b u, H b = some u → b ∉ [z, TI, TO, i1, i2] := fun b u e hb => by rw [(hf b hb).1] at e; cases e
       refine (I.ay b u e).iA (fun c v hc q=>hnc c v ?_ q) (fun _ q=>q) fun _ _ q=>q
       rcases hc with q | q
       · rw [q];exact nc b u e
       · exact nc c _ q
     · intro b hb
       obtain ⟨f0,f1,f2,f3,f4,f5⟩:=hf b hb
       exact ⟨f3,f1,f4,f5⟩
 self:=fun _ _ _ _ _ st h=>wpAny_pyIter_zip st.1 h
theorem xj:bootBuiltins "zip" = some (.type "zip"):=by decide +kernel
def KW (K:PySem.W.Frag) (ta:TA):TI:=fun σ H R=>ta σ H fun vs H1=>∃ a b xs ys,vs = [.ref a,.ref b]∧aW K H1 a xs∧aW K H1 b ys∧R (E8 K a b) H1
theorem GA {X : Cx} {K : PySem.W.Frag} {es : List Expr} {n : Nat} {tpos : Pos} {a b : Expr} {ta : TA} {p pos : Pos} (hK : X.K = K) (hg : Gl X "zip") (hm : X.mg "zip" = none) (ha : PA X [a, b] ta) (hs : starEach [a, b] X.env = [(false, eval a X.env), (false, eval b X.env)] := by rfl) (hs2 : starEach [b] X.env = [(false, eval b X.env)] := by rfl) :
   PI X (.Tuple es n tpos) (.Call (.Name "zip" p) [a,b] [] pos) (KW K ta):=by
 subst hK
 intro pins s σ H R I h
 refine Call_ (jh I hg hm xj (PyProof.Rows.callWith_type1 (a9 (ha pos pins s σ H _ I h) fun us s1 ⟨vs,H1,I1,r1,q1⟩=>?_) (by rw [hs,hs2]) (by rw [hs2];rfl)))
 obtain ⟨x,y,xs,ys,e,hx,hy,q⟩:=q1
 subst e
 cases r1 with
 | cons r rr =>
   cases rr with
   | cons r' rr =>
     cases rr
     cases r
     cases r'
     obtain ⟨its1,rv1,p1,_⟩:=I1.tuple hx
     obtain ⟨its2,rv2,p2,_⟩:=I1.tuple hy
     have lx:x < s1.heap.objs.size:=p1.lt
     have ly:y < s1.heap.objs.size:=p2.lt
     refine F5 (show s1.heap.IsTuple x its1.toArray from p1) (show s1.heap.IsTuple y its2.toArray from p2) fun h' m hm' z1 z2 z3 z4 z5 kk=>?_
     subst hm'
     refine wpAny_pyIter_zip z1 ⟨_,[s1.heap.objs.size + 4,s1.heap.objs.size + 2,s1.heap.objs.size + 3,s1.heap.objs.size,s1.heap.objs.size + 1],_,_,H1,rfl,I1.kept (t':=s1.toks) kk,BK ⟨?_,?_,?_,?_,?_,?_,?_,?_,?_,?_,?_,?_,?_,?_,?_,?_,?_,?_⟩,⟨z1,z2,⟨_,_,z3⟩,z4,z5⟩,fun c hc=>?last,q⟩
     case last =>
       have hc:c = s1.heap.objs.size + 4∨c = s1.heap.objs.size + 2∨c = s1.heap.objs.size + 3∨c = s1.heap.objs.size∨c = s1.heap.objs.size + 1:=by simpa using hc
       have hge:s1.heap.objs.size ≤ c:=by rcases hc with e | e | e | e | e <;> rw [e] <;> first | exact Nat.le_add_right _ _ | exact Nat.le_refl _
       exact I1.kH hge (I1.ay.fresh hge)
     all_goals (intro e;have e' : @Eq Nat _ _:=e;have lx' : @LT.lt Nat _ _ _:=lx;have ly' : @LT.lt Nat _ _ _:=ly;omega)
theorem Lh {K:PySem.W.Frag} {ta:TA} {σ : St} {H:Hp} {R:It→Hp→Prop} (q:ta σ H fun vs H1=>∃ a b xs ys,vs = [.ref a,.ref b]∧aW K H1 a xs∧aW K H1 b ys∧R (E8 K a b) H1):KW K ta σ H R:=q
theorem yj {K : PySem.W.Frag} {a b : Addr} {α : Type} {xs : List α} {e1 e2 : α → V} {g : TG} {tc : TT} {te : TE} {fin : List V → Hp → Prop} {σ0 : St} {H : Hp} (f : α → V) (Sg : St → Prop) (ha : aW K H a (xs.map e1)) (hb : aW K H b (xs.map e2)) (hz : xs.length ≤ sizeLine) (h0 : Sg σ0)
   (hs : ∀ (i : Nat) (x : α) (ys : List V) (σ : St) (H1 : Hp) (T : Addr), xs[i]? = some x → iV xs f Sg H i ys σ H1 → ar H H1 → Sg σ → H1 T = none →
     g (.ref T) σ (upd H1 T (.tup [e1 x,e2 x])) fun σ3 H3=>tc σ3 H3 fun b H4=>if b = true then te σ3 H4 fun y H5=>iV xs f Sg H (i + 1) (ys ++ [y]) σ3 H5 else iV xs f Sg H (i + 1) ys σ3 H4)
   (hd:∀ H1,ar H H1→fin (xs.map f) H1):jN (E8 K a b) g tc te fin σ0 H:=by
 refine ⟨fun i m ys σ H1=>m = xs.length - i∧i ≤ xs.length∧iV xs f Sg H i ys σ H1,⟨xs.length,by simp,Nat.zero_le _,ar.refl _,h0,rfl⟩,?_⟩
 rintro i m ys σ H1 ⟨rfl,hi,c⟩
 obtain ⟨s,sg,rfl⟩:=id c
 by_cases hlt:i < xs.length
 · refine .inr ⟨⟨_, _, e1 xs[i], e2 xs[i], bG s ha, bG s hb, by simp [hlt], by simp [hlt]⟩, iV xs f Sg H (i + 1), fun ys2 σ2 H2 p' => ⟨?_, xs.length - (i + 1), by omega, rfl, hlt, p'⟩, fun v H2 y => ?_⟩
   · obtain ⟨_, _, rfl⟩ := p'
     rw [List.length_map,List.length_take];omega
   · obtain ⟨T, x, y', rfl, hT, rfl, hxy⟩ := y
     obtain ⟨q1,q2⟩:=hxy _ _ (bG s ha) (bG s hb)
     have e1':e1 xs[i] = x:=by simpa [hlt] using q1
     have e2':e2 xs[i] = y':=by simpa [hlt] using q2
     rw [← e1',← e2']
     exact hs i xs[i] _ σ H1 T (by simp [hlt]) c s sg hT
 · have e : i = xs.length := by omega
   subst e
   refine .inl ⟨⟨_,_,bG s ha,bG s hb,.inl (by simp)⟩,?_,?_⟩
   · rw [List.length_map,List.length_take];omega
   · rw [List.take_length];exact hd H1 s
end L3
namespace L3
open PySem PySem.Spec PyProof.Rows L2
theorem xB {K:PySem.W.Frag} {a:Addr} {xs:List V} {its:Array Value} {n:Nat} {od:Option Addr} {sl:Array (Option Value)} (l:K.lookup a = some ⟨.type "tuple",od,.seq its n,sl⟩) (hz:its.size ≤ sizeLine) (v:aP xs its.toList):∀ H,aW K H a xs:=fun H=>.inr ⟨_,its,n,l,rfl,rfl,hz,v⟩
theorem LL {l : Addr} {xs : List V} {y : V} {H : Hp} {Q : VK} (h : H l = some (.lst (xs ++ [y]))) (q : Q y (upd H l (.lst xs))) : Iy (.ref l) [] H Q := by
 refine ⟨l,xs ++ [y],y,rfl,rfl,h,?_,?_⟩
 · simp
 · simpa using q
theorem BW {l b:Addr} {xs zs:List V} {H:Hp} {Q:VK} (h:H l = some (.lst xs)) (hb:H b = some (.lst zs)) (hz:xs.length + zs.length ≤ sizeLine) (q:Q .aH (upd H l (.lst (xs ++ zs)))):wF (.ref l) [.ref b] H Q:=⟨l,b,xs,zs,rfl,rfl,h,hb,hz,q⟩
end L3
namespace L3
open PySem PySem.Spec PyProof.Rows L2 PySem.SeqAt
theorem PS.cw {X : Cx} {st : Stmt} {t : TS} (h : PS X.cw st t) : PS X st t := fun pins s σ H D I hw =>
 wpAny_mono (h pins s σ H D (I.hJ _) hw) (fun _ _ q=>q.fF) fun _ _ z=>z.elim
theorem PA.cw {X : Cx} {es : List Expr} {t : TA} (h : PA X.cw es t) : PA X es t := fun pos pins s σ H Q I hw =>
 wpAny_mono (h pos pins s σ H Q (I.hJ _) hw) (fun _ _ ⟨v,H',I',r,q⟩=>⟨v,H',I'.fF,r,q⟩) fun _ _ z=>z.elim
theorem Ay {P : Program} {w : World} {H : Hp} {h0 h5 : Heap} {l : List Addr} (x : cW P w H h0) (hl : ∀ b ∈ l, H b = none) (k : (PySem.W.hideAll h0 l).StaysIn h5) : cW P w H h5 := fun a o e => by
 refine (x a o e).iA (fun b u hb q=>k b u (PySem.W.hideAll_get _ q fun hm=>?_)) (fun _ q=>q) fun _ _ q=>q
 have hn:=hl b hm
 rcases hb with rfl | hb
 · rw [e] at hn;cases hn
 · rw [hb] at hn;cases hn
theorem Bh {fs : List Addr} {H H' : Hp} {h h0 h5 : Heap} {l : List Addr} (u : Un fs [] H H' h h0) (hl : ∀ b ∈ l, b ∈ fs ∨ h.objs.size ≤ b) (k : (PySem.W.hideAll h0 l).StaysIn h5) (up : h0.UpToSlots h5)
   (hf:∀ b ∈ fs,H b = none∧∀ o,h.get? b = some o→∀ vs,o.data ≠ .fields vs):Un fs [] H H' h h5:=by
 have nl : ∀ b o, h.get? b = some o → b ∉ fs → b ∉ l := fun b o q hb hm => by
   rcases hl b hm with z | z
   · exact hb z
   · exact absurd (Nat.lt_of_lt_of_le (Heap.lt_size q) z) (Nat.lt_irrefl _)
 have sl : ∀ b o, h.get? b = some o → b ∈ fs → ∃ sl, h5.get? b = some { o with slots := sl } := fun b o q hb => by
   obtain ⟨s1,e1⟩:=u.slot b o q (hf b hb).1 hb (by simp)
   obtain ⟨s2,e2⟩:=up b _ e1 ((hf b hb).2 o q)
   exact ⟨s2,e2⟩
 refine ⟨fun b o q n hb hx=>k b o (PySem.W.hideAll_get _ (u.keep b o q n hb hx) (nl b o q hb)),fun b o q _ hb _=>sl b o q hb,u.free,fun b o q hx=>?_,u.iR,u.gZ,u.iS⟩
 by_cases hb:b ∈ fs
 · obtain ⟨s2, e2⟩ := sl b o q hb
   exact ⟨_,e2⟩
 · obtain ⟨o', e'⟩ := u.there b o q hx
   exact ⟨o',k b o' (PySem.W.hideAll_get _ e' (nl b o q hb))⟩
structure uM (P : Program) (w : World) (outer : List Env) (H : Hp) (s : Shared) (ea C : Addr) (H' : Hp) (s' : Shared) : Prop where
 os:s'.os = s.os
 bare:AllBare s'.gens
 ex : ∃ (h0 : Heap) (l : List Addr) (a0 : Value), Un (eh outer) [] H H' s.heap h0 ∧ cW P w H' h0 ∧ (∀ b ∈ l, H' b = none ∧ (b ∈ eh outer ∨ s.heap.objs.size ≤ b)) ∧ h0.get? ea = none ∧
   Heap.FlyingW (PySem.W.hideAll h0 l) outer ea (.ref C) a0 s'.heap∧h0.UpToSlots s'.heap
def e_ (P:Program) (w:World):eW:=fun outer H s E e s'=>∃ (ea C:Addr) (H':Hp),e = .ref ea∧uM P w outer H s ea C H' s'∧E (.ref C) none H'
structure uY (K : PySem.W.Frag) (mg : Str → Option Value) (x : Str) (C : Addr) : Prop where
 glob:mg x = some (.ref C)
 ex:PySem.W.excIn K C [.type "ValueError",.type "Exception",.type "BaseException",.type "object"] "ValueError.__new__" = true
theorem uY.obj {K : PySem.W.Frag} {mg : Str → Option Value} {x : Str} {C : Addr} {h : Heap} (c : uY K mg x C) (X : K.In h) :
   ∃ (bm : List Value) (N : Addr) (nm qn : Str) (bs : List Value) (hd : Bool) (sn : List Str) (sub : List Value) (ab : Bool) (col : Option Bool) (dd : Option Addr) (k0 k1 k2 k3 k5 : Option Value) (mN : Str → Option Value),
     h.get? C = some (excClassObj nm qn C N bs bm hd sn sub ab col dd k0 k1 k2 k3 k5 "ValueError.__new__")∧h.Ns N mN∧mN "__init__" = none ∧
     OwnTail h [.type "ValueError",.type "Exception",.type "BaseException",.type "object"] bm:=by
 have hq:=c.ex
 unfold PySem.W.excIn at hq
 split at hq
 · rename_i dd cd sl hlk
   split at hq
   · rename_i C' bm k0 k1 k2 k3 id k5 hmro hsl
     simp only [Bool.and_eq_true,Bool.not_eq_true',beq_iff_eq] at hq
     obtain ⟨⟨⟨⟨⟨e1,e2⟩,e3⟩,e4⟩,e5⟩,e6⟩:=hq
     subst e1 e2
     obtain ⟨nm,bs,mro,ns,qn,hd,sn,sub,ab,col,del⟩:=cd
     dsimp only at hmro e3 e5 e6
     subst hmro e3
     obtain ⟨sl⟩:=sl
     dsimp only at hsl
     subst hsl
     exact ⟨bm,ns,nm,qn,bs,hd,sn,sub,ab,col,dd,k0,k1,k2,k3,k5,_,X _ _ hlk,.of_isNs (PySem.W.isNs_of_in X e5),PySem.W.nsMap_none_of_in X e5 e6,PySem.W.tail_of_in X e4⟩
   · cases hq
 · cases hq
end L3
namespace L3
open PySem PySem.Spec PyProof.Rows L2 PySem.SeqAt
def yG (C:Addr) (E:XK) (t:TA):TS:=fun _ σ H=>t σ H fun vs H1=>vs.length ≤ 1000∧E (.ref C) none H1
theorem BH {X : Cx} (hst : X.stack = X.env :: X.outer) (hfr : X.env.frame = some X.env.locals) : eh X.stack = X.env.locals :: eh X.outer := by
 rw [hst];unfold eh;rw [List.filterMap_cons,hfr]
theorem tL {X : Cx} {pins : List (Addr × Obj)} {σ : St} {H : Hp} {s : Shared} {h' : Heap} {e C : Addr} {args : List Value} {Q : Unit → Shared → Prop} {Ex : Value → Shared → Prop} (I : Inv X pins σ H s)
   (hst:X.stack = X.env :: X.outer) (hfr:X.env.frame = some X.env.locals) (hex:X.ex = []) (hx:Heap.MadeExcOf s.heap h' e (.ref C) args)
   (hQ:∀ s',uM X.prog X.w X.outer X.H₀ X.s₀ e C H s'→Q () s'):wpAny (model X.prog X.w) X.A (leaving X.env (.ref e)) Q Ex { s with heap:=h' }:=by
 have hfs:=BH hst hfr
 have hin:∀ env ∈ X.stack,∀ a,env.frame = some a→a ∈ eh X.stack:=fun env he b hb=>List.mem_filterMap.mpr ⟨env,he,hb⟩
 have hl : s.heap.FunFrames (PySem.W.hideAll s.heap (eh X.stack)) (X.env :: X.outer) := by
   have z:=PySem.W.funFrames_hide I.stack hin
   rw [hst] at z ⊢;exact z
 refine wpAny_leaves_madeW (s:={ s with heap:=h' }) (by rw [← hst];exact I.ok.frames) hfr (fun b o q=>PySem.W.of_hideAll _ q) hl hx fun h2 t x1 _ _ x4=>hQ _ ⟨I.os,I.bare,?_⟩
 have hb:=I.base
 rw [hex] at hb
 refine ⟨s.heap,eh X.stack,.ref t,hb,I.ay,fun b hm=>⟨I.nj b hm,?_⟩,hx.new,x1,(Heap.UpToSlots.of_keeps hx.keeps).trans x4⟩
 rw [hfs] at hm
 rcases List.mem_cons.mp hm with rfl | hm
 · exact .inr I.ok.above
 · exact .inl hm
theorem kK {P : Program} {w : World} {K : PySem.W.Frag} {mg : Str → Option Value} {base : Heap} {N : List Str} {qual : Str} {scope : Scope} {f : Addr} {cd : Value} {A : Around} {outer : List Env} {s0 : Shared} {H0 : Hp} {E : XK}
   {C:Addr} {x:Str} {np cpos pos:Pos} {e0:Expr} {es:List Expr} {t:TA} (c:uY K mg x C) (hg:Gl (fN (e_ P w) P w K mg base N qual scope f cd A outer s0 H0 E) x)
   (ha:PA (fN (e_ P w) P w K mg base N qual scope f cd A outer s0 H0 E).cw (e0 :: es) t) (hdb:(x == ("__debug__" : Str)) = false:=by decide)
   (he:starEach (e0 :: es) (fN (e_ P w) P w K mg base N qual scope f cd A outer s0 H0 E).env = (false,eval e0 (fN (e_ P w) P w K mg base N qual scope f cd A outer s0 H0 E).env) :: starEach es (fN (e_ P w) P w K mg base N qual scope f cd A outer s0 H0 E).env:=by rfl)
   (hpl:(backTo cpos (starEach es (fN (e_ P w) P w K mg base N qual scope f cd A outer s0 H0 E).env)).any (·.1) = false:=by rfl) :
   PS (fN (e_ P w) P w K mg base N qual scope f cd A outer s0 H0 E) (.Raise (some (.Call (.Name x np) (e0 :: es) [] cpos)) none pos) (yG C E t):=by
 intro pins s σ H D I h
 obtain ⟨bm,N',nm,qn,bs,hd,sn,sub,ab,col,dd,k0,k1,k2,k3,k5,mN,hC,hN,hni,TL⟩:=c.obj I.ok.mod.uU
 refine wpAny_Raise_call_subU (C := C) (mN := mN) (N := N') (nm := nm) (q := qn) (bs := bs) (bm := bm) (hdct := hd) (sn := sn) (sub := sub) (ab := ab) (col := col) (dd := dd) (k0 := k0) (k1 := k1) (k2 := k2) (k3 := k3) (k5 := k5)
   PySem.F.excBase_ValueError (by decide +kernel) PySem.F.excBase_ValueError (TL.hasType (by decide +kernel)) (I.ok.hd rfl) (by rw [he];show (false || (backTo cpos (starEach es _)).any (·.1)) = false;rw [hpl];rfl) hni ?_
 refine jb I hg c.glob ⟨rfl,?_⟩ hdb
 have hargs:=(L3.PA.cw ha) cpos pins s σ H _ I h
 rw [he] at hargs ⊢
 refine Calls.evalArgs_plain (a9 hargs fun us s1 ⟨vs,H1,I1,r,hlen,q⟩=>?_)
 refine ⟨rfl,?_,I1.bk _ _ hC,hN.keeps I1.bk,TL.keeps I1.bk,fun h' e hm=>?_⟩
 · show us.length ≤ sizeLine
   rw [← r.length]
   exact Nat.le_trans hlen (by decide +kernel)
 · exact tL (X:=fN (e_ P w) P w K mg base N qual scope f cd A outer s0 H0 E) I1 rfl rfl rfl hm fun s' th=>⟨e,C,H1,rfl,th,q⟩
theorem kn {P : Program} {w : World} {K : PySem.W.Frag} {mg : Str → Option Value} {base : Heap} {N : List Str} {qual : Str} {scope : Scope} {f : Addr} {cd : Value} {A : Around} {outer : List Env} {s0 : Shared} {H0 : Hp} {E : XK} :
   ei (e_ P w) (fN (e_ P w) P w K mg base N qual scope f cd A outer s0 H0 E) E:=by
 intro pins σ H s e s' I h
 obtain ⟨ea,C,H',rfl,⟨os,bare,h0,l,a0,u,ay,hl,hn,fl,up⟩,q⟩:=h
 show wpAny _ _ (leaving _ (.ref ea)) _ _ s'
 refine wpAny_leaves_onW (outer:=outer) I.ok.frames rfl fl fun h2 fl2 up2=>⟨ea,C,H',rfl,⟨os.trans I.os,bare,h0,l,a0,?_,ay,fun b hb=>⟨(hl b hb).1,?_⟩,hn,fl2,up.trans up2⟩,q⟩
 · have J := I.call (h' := h0) (g' := s'.gens) (d' := s'.drawn) (t' := s'.toks) (ch := []) u ay bare (fun b z => absurd z (by simp))
   exact J.base
 · rcases (hl b hb).2 with z | z
   · have z' : b ∈ eh (envOfC qual scope s0.heap.objs.size f cd :: outer) := z
     have e1:eh (envOfC qual scope s0.heap.objs.size f cd :: outer) = s0.heap.objs.size :: eh outer:=by unfold eh;rw [List.filterMap_cons];rfl
     rw [e1] at z'
     rcases List.mem_cons.mp z' with rfl | z'
     · exact .inr (Nat.le_refl _)
     · exact .inl z'
   · exact .inr (Nat.le_trans I.sz z)
end L3
namespace L3
open PySem PySem.Spec PyProof.Rows L2 PySem.SeqAt
section
variable {P:Program} {w:World} {K:PySem.W.Frag} {mg:Str→Option Value} {base:Heap} {x qual:Str} {st:Stmt} {N ps:List Str} {sp:Sp} {C:Addr} {k:Nat}
def sW (P : Program) (w : World) (K : PySem.W.Frag) (mg : Str → Option Value) (base : Heap) (k : Nat) (qual : Str) (st : Stmt) (N : List Str) (sp : Sp) : Prop :=
 ∀ (f : Addr) (cdv : Value) (A : Around) (outer : List Env) (s : Shared) (H : Hp) (vs : List V) (Q : VK) (E : XK), bS k (A.deeper (envOfC qual (ae st) s.heap.objs.size f cdv)) → sp vs H Q E →
   ∃ t,iO (fN (e_ P w) P w K mg base N qual (ae st) f cdv A outer s H E) (au st) t∧t { nx:=fun _ H'=>Q .aH H',rt:=Q } (start N vs) H
theorem bc.Dw {f : Addr} {fd : FuncData} (F : bc K x qual st f fd) (S : aA N ps (ae st)) (len : ∀ vs H Q E, sp vs H Q E → vs.length = ps.length) (hbody : sW P w K mg base k qual st N sp) : ez P w K mg base (e_ P w) (k + 1) f fd ps sp := by
 obtain ⟨oc,od,kV,doc,pm,an,cdv,ct,osl,rfl,lk,hcd⟩:=F.ex
 exact tf lk hcd S len fun A outer s H vs Q E hr hsp=>hbody f cdv A outer s H vs Q E hr hsp
theorem uk (k : Nat) (h : ∃ f fd, bc K x qual st f fd ∧ mg x = some (.ref f) ∧ Binds K fd ps []) (S : aA N ps (ae st)) (len : ∀ vs H Q E, sp vs H Q E → vs.length = ps.length)
   (hbody:sW P w K mg base k qual st N sp):cV P w K mg base (e_ P w) (k + 1) x sp:=by
 obtain ⟨f,fd,F,hm,hb⟩:=h
 exact ⟨f,fd,ps,bc.Dw F S len hbody,hm,F.kp,hb⟩
end
section
variable {X:Cx} {pins:List (Addr×Obj)} {σ : St} {H:Hp} {s:Shared}
theorem Gv {M : Model} {A : Around} {E : Value → Shared → Prop} {i : Nat} {n : Str} {pos : Pos} {Q : Unit → Shared → Prop} (I : Inv X pins σ H s) (hN : X.N.Nodup) (hi : X.N[i]? = some n) (hk : X.env.scope.names.lookup n = some .local)
   (h:∀ s',Inv X pins (σ.set i none) H s'→Q () s'):wpAny M A (do bindName X.env n .none;unbindBehindTheSuite X.env n pos) Q E s:=by
 obtain ⟨m,hn,hl⟩:=id I.loc
 have hiσ : i < σ.length:=by rw [I.len];exact (List.getElem?_eq_some_iff.mp hi).1
 have mS:=I.mS
 obtain ⟨oL,_,_,hoL,_⟩:=id hn
 refine wpAny_nameGoes_keeps hk hn (by rw [I.ok.kind];rfl) fun h' v hn' hs=>h _ ?_
 have lo:∀ b o,X.s₀.heap.get? b = some o→h'.get? b = s.heap.get? b:=fun b o e=>hs.2 b (Nat.ne_of_lt (Nat.lt_of_lt_of_le (Heap.lt_size e) I.ok.above))
 refine ⟨I.ok,I.os,I.bare,⟨fun b o e n hb hx=>?_,fun b o e n hb hx=>?_,I.base.free,fun b o e hx=>?_,I.base.iR,I.base.gZ,I.base.iS⟩,⟨_,hn',fun j y v' e1 e2 e3=>?_⟩,fun y c e=>?_,I.free,I.fC,fun p hp=>?_,fun b ob e=>?_,by simpa using I.len⟩
 · rw [lo b o e];exact I.base.keep b o e n hb hx
 · rw [lo b o e];exact I.base.slot b o e n hb hx
 · rw [lo b o e];exact I.base.there b o e hx
 · by_cases hj : j = i
   · subst hj
     rw [List.getElem?_set_self hiσ] at e2
     cases e2
   · rw [List.getElem?_set_ne (Ne.symm hj)] at e2
     obtain ⟨u',r',q⟩:=hl j y v' e1 e2 e3
     refine ⟨u',r',?_⟩
     rcases q with ⟨k,e⟩ | ⟨k,c,e,z⟩
     · have ne : y ≠ n := fun e => hj (oN hN e1 (e ▸ hi))
       exact .inl ⟨k,by simp [ne,e]⟩
     · exact .inr ⟨k,c,e,z.sameBut hs (mS y c e)⟩
 · obtain ⟨w', z⟩ := I.cell y c e
   exact ⟨w',z.sameBut hs (mS y c e)⟩
 · obtain ⟨e, n, ne, nf, d⟩ := I.pin p hp
   exact ⟨(hs.2 p.1 ne).trans e,n,ne,nf,d⟩
 · refine (I.ay b ob e).iA (fun c w' hc q => (hs.2 c ?_).trans q) (fun _ q => q) fun _ _ q => q
   rintro rfl
   have hf:=I.free
   rcases hc with hc | hc
   · rw [hc,e] at hf;cases hf
   · rw [hc] at hf;cases hf
abbrev Cx.sup (X:Cx) (e:Addr) (pl:List (Addr×Obj)):Cx:={ X with A:=X.A.mark (some (.ref e)),calm:=false,xe:=fun _ _=>False,pn:=X.pn ++ pl }
theorem Cx.Ok.sup {e : Addr} {pl : List (Addr × Obj)} (ok : X.Ok) : (Cx.sup X e pl).Ok :=
 ⟨ok.mod,ok.kind,ok.glob,ok.blt,ok.above,ok.inj,ok.has,ok.ua,(fun z=>by cases z),ok.frames,ok.vK,ok.D6,ok.bs,ok.nY,ok.oi,ok.qz,ok.gH,ok.pI⟩
theorem Cx.Ok.wX {e : Addr} {pl : List (Addr × Obj)} (ok : (Cx.sup X e pl).Ok) (h : X.calm = true → X.A.handled = none) : X.Ok :=
 ⟨ok.mod,ok.kind,ok.glob,ok.blt,ok.above,ok.inj,ok.has,ok.ua,h,ok.frames,ok.vK,ok.D6,ok.bs,ok.nY,ok.oi,ok.qz,ok.gH,ok.pI⟩
theorem Inv.sup {e : Addr} {pl : List (Addr × Obj)} (I : Inv X pins σ H s) (h : ∀ p ∈ pl, s.heap.get? p.1 = some p.2 ∧ H p.1 = none ∧ p.1 ≠ X.env.locals ∧ p.1 ∉ X.fs ∧ ∀ v, p.2.data ≠ .cell v) : Inv (Cx.sup X e pl) pins σ H s :=
 ⟨Cx.Ok.sup I.ok, I.os, I.bare, I.base, I.loc, I.cell, I.free, I.fC, fun p hp => by
   rcases List.mem_append.mp hp with hp | hp
   · rcases List.mem_append.mp hp with hp | hp
     · exact I.pin p (List.mem_append_left _ hp)
     · exact h p hp
   · exact I.pin p (List.mem_append_right _ hp),I.ay,I.len⟩
theorem Inv.wX {e : Addr} {pl : List (Addr × Obj)} (I : Inv (Cx.sup X e pl) pins σ H s) (h : X.calm = true → X.A.handled = none) : Inv X pins σ H s :=
 ⟨Cx.Ok.wX I.ok h, I.os, I.bare, I.base, I.loc, I.cell, I.free, I.fC, fun p hp => by
   rcases List.mem_append.mp hp with hp | hp
   · exact I.pin p (List.mem_append_left _ (List.mem_append_left _ hp))
   · exact I.pin p (List.mem_append_right _ hp),I.ay,I.len⟩
end
end L3
namespace L3
open PySem PySem.Spec PyProof.Rows L2 PySem.SeqAt
def Ea (X : Cx) (pins : List (Addr × Obj)) (σ : St) (Ew : XK) (ex : Value) (s' : Shared) : Prop :=
 ∃ (ea C:Addr) (H1:Hp) (s1:Shared) (H':Hp),ex = .ref ea∧Inv X pins σ H1 s1∧uM X.prog X.w X.stack H1 s1 ea C H' s'∧Ew (.ref C) none H'
abbrev TB:=Ends→XK→St→Hp→Prop
def PB (X : Cx) (body : List Stmt) (tb : TB) : Prop :=
 ∀ (pins:List (Addr×Obj)) (s:Shared) (σ : St) (H:Hp) (D:Ends) (Ew:XK),Inv X pins σ H s→tb D Ew σ H→wpAny (model X.prog X.w) X.A (execs body X.env) (SP X pins D) (Ea X pins σ Ew) s
section
variable {X:Cx} {pins:List (Addr×Obj)} {σ : St} {H:Hp} {s:Shared} {k:Nat} {g x n:Str} {sp:Sp} {e:Expr} {es:List Expr} {t:TA} {gp cpos pos py:Pos}
theorem vx {Q : VK} {Ew : XK} (G : cV X.prog X.w X.K X.mg X.base (e_ X.prog X.w) k g sp) (hr : bS k X.A) (hg : Gl X g) (ha : PA X.cw (e :: es) t) (I : Inv X pins σ H s) (h : t σ H fun vs H1 => sp vs H1 Q Ew)
   (hdb:(g == ("__debug__" : Str)) = false) (he:starEach (e :: es) X.env = (false,eval e X.env) :: starEach es X.env) (hpl:(backTo cpos (starEach es X.env)).any (·.1) = false) :
   wpAny (model X.prog X.w) X.A (eval (.Call (.Name g gp) (e :: es) [] cpos) X.env) (EP X pins σ Q) (Ea X pins σ Ew) s:=by
 obtain ⟨f,fd,ps,F,hm,hk,hb⟩:=G.ex
 refine wpAny_Call_Name_kw (jb I hg hm ?_ hdb)
 refine PySem.W.callWith_K (h₀:=X.base) I.ok.mod.uU hk (wpAny_mono (ha cpos pins s σ H _ (I.hJ _) h) (fun us s1 ⟨vs,H1,I1,r,q⟩=>⟨I1.ee,?_⟩) fun _ _ z=>z.elim) he hpl
 have J:Inv X pins σ H1 s1:=I1.fF
 have hl:us.length = ps.length:=by rw [← r.length];exact F.len _ _ _ _ q
 have hbd:=hb s1 us J.ee (by rw [List.append_nil];exact hl)
 rw [List.append_nil] at hbd
 refine wpAny_call (codeAny_mono (F.run X.A X.stack s1 H1 ⟨us,[]⟩ us vs Q Ew hr J.Bs hbd r q) fun r2 s' hq=>?_)
 cases r2 with
 | error ex =>
   obtain ⟨ea,C,H',rfl,th,q2⟩:=(show e_ X.prog X.w X.stack H1 s1 Ew ex s' from hq)
   exact ⟨ea,C,H1,s1,H',rfl,J,th,q2⟩
 | ok fl =>
   cases fl with
   | ret u=>exact J.after hq
   | next=>exact False.elim hq
   | brk=>exact False.elim hq
   | cont=>exact False.elim hq
def Ff (sp:Sp) (i:Nat) (t:TA):TB:=fun D Ew σ H=>t σ H fun vs H1=>sp vs H1 (fun v H2=>D.nx (σ.set i (some v)) H2) Ew
theorem Ho {i : Nat} (hN : X.N.Nodup) (hi : X.N[i]? = some x) (hx : Loc X.env.scope x) (G : cV X.prog X.w X.K X.mg X.base (e_ X.prog X.w) k g sp) (hr : bS k X.A) (hg : Gl X g) (ha : PA X.cw (e :: es) t)
   (hf:X.fn x = true∨X.env.scope.names.lookup x = some .local:=by first | exact .inl rfl | exact .inr rfl | assumption) (hdb:(g == ("__debug__" : Str)) = false:=by decide)
   (he:starEach (e :: es) X.env = (false,eval e X.env) :: starEach es X.env:=by rfl) (hpl:(backTo cpos (starEach es X.env)).any (·.1) = false:=by rfl) :
   PB X [.Assign [.Name x py] (.Call (.Name g gp) (e :: es) [] cpos) pos] (Ff sp i t):=by
 intro pins s σ H D Ew I h
 refine wpAny_execs_cons (wpAny_Assign_Name (wpAny_mono (vx G hr hg ha I h hdb he hpl) (fun v s1 ⟨y,H1,I1,r1,q1⟩=>?_) fun _ _ z=>z) rfl)
 exact kR I1 hN hi hx r1 (fun s2 I2=>wpAny_execs_nil ⟨_,H1,I2,q1⟩) hf
end
end L3
namespace L3
open PySem PySem.Spec PyProof.Rows L2 PySem.SeqAt
section
variable {X:Cx} {pins:List (Addr×Obj)} {σ : St} {H H1 H':Hp} {s s1 s':Shared} {ea C:Addr}
theorem r9 {h0 h5 : Heap} {l : List Addr} (I : Inv X pins σ H1 s1) (os : s'.os = s1.os) (bare : AllBare s'.gens) (u : Un (eh X.stack) [] H1 H' s1.heap h0) (ay : cW X.prog X.w H' h0)
   (hl:∀ b ∈ l,H' b = none∧(b ∈ eh X.stack∨s1.heap.objs.size ≤ b)) (k:(PySem.W.hideAll h0 l).StaysIn h5) (up:h0.UpToSlots h5):Inv X pins σ H' { s' with heap:=h5 } :=
 I.nu (s' := { s' with heap := h5 }) os (Bh u (fun b hb => (hl b hb).2) k up fun b hb => ⟨I.nj b hb, fun o q => by
   obtain ⟨_,o',q',d⟩:=I.stack.mem hb
   rw [q] at q';cases q';exact d⟩) (Ay ay (fun b hb=>(hl b hb).1) k) bare (fun b z=>absurd z (by simp))
theorem BX (I : Inv X pins σ H' s') (hn : s'.heap.get? ea = none) : H' ea = none ∧ ea ≠ X.env.locals ∧ ea ∉ X.fs := by
 refine ⟨?_,fun z=>?_,fun z=>?_⟩
 · cases q : H' ea with
   | none=>rfl
   | some o =>
     obtain ⟨o', e'⟩ : ∃ o', s'.heap.get? ea = some o' := by
       have z:=I.ay ea o q
       clear q
       induction o with
       | lst xs=>obtain ⟨_,_,_,_,e⟩:=z;exact ⟨_,e⟩
       | tup xs=>obtain ⟨_,_,_,ob,e,_⟩:=z;exact ⟨_,e⟩
       | dK kvs=>obtain ⟨_,_,_,_,ob,_,_,e,_⟩:=z;exact ⟨_,e⟩
       | dT kvs=>obtain ⟨_,_,_,_,ob,_,_,e,_⟩:=z;exact ⟨_,e⟩
       | set S n=>obtain ⟨ob,_,_,_,e,_⟩:=z;exact ⟨_,e⟩
       | ins C dx fs=>obtain ⟨_,_,_,e,_⟩:=z;exact ⟨_,e⟩
       | own y=>obtain ⟨_,e⟩:=z;exact ⟨_,e⟩
       | xd fs=>obtain ⟨_,⟨od,_,_,e,_⟩,_⟩:=z;exact ⟨_,e⟩
       | DW lo hi=>obtain ⟨_,_,_,e⟩:=z;exact ⟨_,e⟩
       | dj ob u=>obtain ⟨e,_⟩:=z;exact ⟨_,e⟩
       | pO ps=>exact ⟨_,z⟩
       | met f y=>exact ⟨_,z⟩
       | ext φ=>obtain ⟨_,⟨_,e⟩,_⟩:=z;exact ⟨_,e⟩
     rw [hn] at e';cases e'
 · obtain ⟨m, ⟨o, _, _, e, _⟩, _⟩ := I.loc
   rw [← z,hn] at e;cases e
 · obtain ⟨_, o, e, _⟩ := I.gH.mem z
   rw [hn] at e;cases e
def IM (tb : TB) (C : Addr) (i : Nat) (th : Addr → TS) : TS := fun D σ H =>
 tb D (fun c _ H2=>c = .ref C∧∀ ea,H2 ea = none→th ea { nx:=fun σ' H'=>D.nx (σ'.set i none) H',rt:=fun _ _=>False } (σ.set i (some (.ref ea))) H2) σ H
theorem J7 {body : List Stmt} {tb : TB} {x n : Str} {np hpos pos : Pos} {b0 : Stmt} {suite : List Stmt} {i : Nat} {th : Addr → TS} (hst : X.stack = X.env :: X.outer) (hfr : X.env.frame = some X.env.locals) (hc : X.calm = true)
   (hb:PB X body tb) (c:uY X.K X.mg x C) (hg:Gl X x) (hN:X.N.Nodup) (hi:X.N[i]? = some n) (hn:X.env.scope.names.lookup n = some .local)
   (hs:∀ ea oe,oe.cls = .ref C→(∃ vs,oe.data = .fields vs)→iO (Cx.sup X ea [(ea,oe)]) (b0 :: suite) (th ea)) (hdb:(x == ("__debug__" : Str)) = false:=by decide) :
   PS X (.Try body [.ExceptHandler (some (.Name x np)) (some n) (b0 :: suite) hpos] [] [] pos) (IM tb C i th):=by
 intro pins s σ H D I0 h
 refine wpAny_Try_except (wpAny_mono (hb pins s σ H D _ I0 h) (fun f s1 q=>?_) fun ex s' q=>?_)
 · cases f with
   | next=>exact wpAny_execs_nil q
   | brk=>exact q
   | cont=>exact q
   | ret u=>exact q
 obtain ⟨ea,C',H1,s1,H',rfl,I,⟨os,bare,h0,l,a0,u,ay,hl,hnew,fl,up⟩,ec,q⟩:=q
 cases ec
 have hh:X.calm = true→X.A.handled = none:=I.ok.hd
 have fl':Heap.FlyingW (PySem.W.hideAll h0 l) (X.env :: X.outer) ea (.ref C) a0 s'.heap:=by rw [← hst];exact fl
 have ap:=BX (I.call (h':=h0) (g':=s'.gens) (d':=s'.drawn) (t':=s'.toks) (ch:=[]) u ay bare (fun b z=>absurd z (by simp))) hnew
 refine wpAny_looks_onW (by rw [← hst];exact I.ok.frames) hfr fl' fun h4 held4 up4=>?_
 refine wpAny_landsW held4 fun h5 fl5 up5=>?_
 have I5:Inv X pins σ H' { s' with heap:=h5 }:=r9 I os bare u ay hl fl5.1 ((up.trans up4).trans up5)
 obtain ⟨oe,hoe,hoec⟩:=fl5.there
 refine wpAny_handleBy_cons (codeAny_handlers_test (jb (X:=Cx.sup X ea []) (Inv.sup I5 (fun p hp=>nomatch hp)) hg c.glob ?_ hdb)) (by intro z;cases z)
 obtain ⟨bm,N',nm,qn,bs,hd,sn,sub,ab,col,dd,k0,k1,k2,k3,k5,mN,hC,hNs,hni,TL⟩:=c.obj I5.ee
 refine wpAny_excMatches_sub_self hC hoe hoec (TL.hasType (by decide +kernel)) (codeAny_handlers_suite_as ?_)
 refine lands_againW fl5 fun h6 fl6 up6=>?_
 have I6:Inv X pins σ H' { s' with heap:=h6 }:=r9 I os bare u ay hl fl6.1 (((up.trans up4).trans up5).trans up6)
 obtain ⟨oe6,vs6,hoe6,hoec6,hoed6,_⟩:=fl6.first
 have I6p : Inv (Cx.sup X ea [(ea, oe6)]) pins σ H' { s' with heap := h6 } := Inv.sup I6 fun p hp => by
   have e:p = (ea,oe6):=by simpa using hp
   subst e
   exact ⟨hoe6,ap.1,ap.2.1,ap.2.2,fun v z=>by rw [hoed6] at z;cases z⟩
 refine kR (X:=Cx.sup X ea [(ea,oe6)]) I6p hN hi (.inl hn) (show RelV (.ref ea) (.ref ea) from rfl) (fun s7 I7=>?_) (.inr hn)
 refine wpAny_mono (hs ea oe6 hoec6 ⟨vs6,hoed6⟩ pins s7 _ H' _ I7 (q ea ap.1)) (fun f s8 q8=>?_) fun _ _ z=>z.elim
 cases f with
 | next =>
   obtain ⟨σ',H'',I8,q9⟩:=q8
   exact Gv (Inv.wX I8 hh) hN hi hn fun s9 I9=>⟨_,H'',I9,q9⟩
 | brk=>obtain ⟨_,_,_,z⟩:=q8;exact z.elim
 | cont=>obtain ⟨_,_,_,z⟩:=q8;exact z.elim
 | ret v=>obtain ⟨_,_,_,_,_,z⟩:=q8;exact z.elim
end
end L3
namespace L3
open PySem PySem.Spec PyProof.Rows L2 PySem.SeqAt PySem.W Builtin Builtin.ObjectAttr Builtin.Getset_descriptor
structure k6 (K : PySem.W.Frag) (C : Addr) : Prop where
 cl:(PySem.W.clsIn K C).isSome = true
 ga:PySem.W.findIn K (.ref C) "__getattribute__" = some (some (.builtin "BaseException.__getattribute__"))
 gt:PySem.W.findIn K (.ref C) "__getattr__" = some none
 co:PySem.W.findIn K (.ref C) "__class__" = some (some (.builtin "object.__class__"))
 gs:PySem.W.specialIn K (.builtin "object.__class__") "__get__" = some (some (.builtin "getset_descriptor.__get__"))
 tk:PySem.W.takesIn K (.builtin "object.__class__") = some true
 mo:PySem.W.mroIn K C (.type "object") = some true
 mb:PySem.W.mroIn K C (.type "BaseException") = some true
section
variable {prog:Program} {w:World} {A:Around} {E:Value→Shared→Prop} {s:Shared} {K:PySem.W.Frag} {x C:Addr} {ox:Obj}
theorem jg {M : Model} {h : Heap} (hx : h.get? x = some ox) (hc : ox.cls = .ref C) : Looks M h (typeOf (.ref x)) (.ref C) := by
 rw [← hc];exact (Looks.ld hx).andThen .now
theorem F9 {R : Result → Shared → Prop} {tp : Value} (X : K.In s.heap) (hx : s.heap.get? x = some ox) (hc : ox.cls = .ref C) (F : k6 K C) (h : R (.ok (.ret (.ref C))) s) :
   codeAny (model prog w) A (.call (.builtin "getset_descriptor.__get__") ⟨[.builtin "object.__class__",.ref x,tp],[]⟩) R s:=by
 obtain ⟨hh,g,dr,t,os⟩:=s
 have LT:=jg (M:=model prog w) hx hc
 have LM:=looks_mroIn (M:=model prog w) X F.mo
 have hty:Shared.TypeIs ⟨hh,g,dr,t,os⟩ (.builtin "object.__class__") "getset_descriptor":=KF.type_class
 refine codeAny_call_builtin KF.slot_gs.plain KF.entry_gs ?_
 refine KF.slot_gs.check _ _ _ _ _ _ _ _ hty (KF.args_gs _ _ _) ?_
 unfold Builtin.«getset_descriptor.__get__» descrGet
 rw [dga_obj]
 refine wpAny_bind (wpAny_pure ?_)
 unfold descrGetter descrCheckInstance descrNameAndClass PySem.isInstance
 simp only [KF.owner_class]
 repeat lk
 refine ⟨Code.quiet_builtin _ (by decide +kernel),codeAny_builtin KF.entry_class ?_⟩
 unfold Builtin.«object.__class__» PySem.shownTypeOf
 repeat lk
 exact h
theorem BF {M : Model} {h : Heap} (X : K.In h) (F : k6 K C) : Looks M h (find (.ref x) (.ref C) "__class__") (.bind (.builtin "getset_descriptor.__get__") (.builtin "object.__class__")) := by
 refine (looks_findIn (M:=M) X F.co).andThen ?_
 refine (show Looks M h (getOf (some (.builtin "object.__class__"))) (some (.builtin "getset_descriptor.__get__")) from looks_specialIn X F.gs).andThen ?_
 have L3:=looks_takesIn (M:=M) X F.tk
 exact (show Looks M h (dataDescriptor? (some (.builtin "object.__class__")) (some (.builtin "getset_descriptor.__get__"))) (some (.builtin "getset_descriptor.__get__",.builtin "object.__class__")) from L3.andThen .now).andThen (Looks.tag .now)
end
end L3
namespace L3
open PySem PySem.Spec PyProof.Rows L2 PySem.SeqAt PySem.W Builtin Builtin.ObjectAttr Builtin.Getset_descriptor
section
variable {prog:Program} {w:World} {A:Around} {E:Value→Shared→Prop} {s:Shared} {K:PySem.W.Frag} {x C:Addr} {ox:Obj}
theorem yO {Q : Fin → Shared → Prop} {tk : Tok} (X : K.In s.heap) (hx : s.heap.get? x = some ox) (hc : ox.cls = .ref C) (F : k6 K C) (h : Q (.done (.ret (.ref C))) s) :
   wpAny (model prog w) A (Builtin.«object.__getattribute__» ⟨[.ref x,.str "__class__" tk],[]⟩) Q E s:=by
 obtain ⟨hh,g,dr,t,os⟩:=s
 have LT:=jg (M:=model prog w) hx hc
 have LF:=BF (M:=model prog w) (x:=x) X F
 unfold Builtin.«object.__getattribute__»
 repeat (first | with_reducible refine wpAny_call ?_ | lk)
 refine F9 X hx hc F ?_
 repeat lk
 exact h
theorem Ao {M : Model} {nameV : Value} {Q : Unit → Shared → Prop} (X : K.In s.heap) (hx : s.heap.get? x = some ox) (hc : ox.cls = .ref C) (F : k6 K C) (h : Q () s) :
   wpAny M A (checkBuiltinCall "BaseException.__getattribute__" ⟨[.ref x,nameV],[]⟩) Q E s:=by
 obtain ⟨hh,g,dr,t,os⟩:=s
 have LT:=jg (M:=M) hx hc
 have LM:=looks_mroIn (M:=M) X F.mb
 have k1:builtinKind "BaseException.__getattribute__" = some .slot:=by decide +kernel
 have k2:splitId "BaseException.__getattribute__" = some ("BaseException","__getattribute__"):=by decide +kernel
 have k3:=PySem.F.args_bexc_ga (.ref x) nameV
 simp only [checkBuiltinCall,k1,k2]
 refine wpAny_bind ?_
 unfold PySem.isInstance
 repeat lk
 exact h
theorem zg {Q : Option Value → Shared → Prop} (X : K.In s.heap) (hx : s.heap.get? x = some ox) (hc : ox.cls = .ref C) (F : k6 K C) (h : Q (some (.ref C)) { s with toks := s.toks + 1 }) :
   wpAny (model prog w) A (getAttr? (.ref x) "__class__") Q E s:=by
 obtain ⟨hh,g,dr,t,os⟩:=s
 have LT:=jg (M:=model prog w) hx hc
 have LG:=looks_findIn (M:=model prog w) X F.ga
 have LH:=looks_findIn (M:=model prog w) X F.gt
 unfold getAttr? getAttrBy? getAttrBy
 refine wpAny_bind (wpAny_mkText (wpAny_bind (wpAny_attempt (wpAny_holding (wpAny_bind (LT.at ?_))))))
 refine wpAny_bind (LG.at ?_)
 have n1 : (onTheHeap (.ref C) && Value.builtin "BaseException.__getattribute__" == Value.builtin "object.__getattribute__") = false := by
   show (true && Value.builtin "BaseException.__getattribute__" == Value.builtin "object.__getattribute__") = false
   decide +kernel
 show wpAny _ _ (if (onTheHeap (.ref C) && Value.builtin "BaseException.__getattribute__" == Value.builtin "object.__getattribute__") = true then _ else getAttrByItsOwn _ _ _ _ _ _) _ _ _
 rw [n1,if_neg Bool.false_ne_true]
 unfold getAttrByItsOwn hookBefore
 refine wpAny_bind (LH.at ?_)
 refine wpAny_bind (wpAny_attempt (wpAny_holding ?_))
 have b1:=PySem.F.excAttr_ValueError.ga.bind (.ref x)
 show wpAny _ _ (boundAndCalled _ _ _) _ _ _
 unfold boundAndCalled
 rw [b1]
 refine wpAny_bind (wpAny_pure ?_)
 refine wpAny_call (codeAny_call_builtin PySem.F.excAttr_ValueError.ga.plain PySem.F.entry_bexc_ga (Ao (s:=⟨hh,g,dr,t + 1,os⟩) X hx hc F (yO (s:=⟨hh,g,dr,t + 1,os⟩) X hx hc F ?_)))
 exact handed_on rfl (wpAny_pure h)
theorem Gk (hc : ox.cls = .ref C) (F : k6 K C) : KitX K (.ref x) (.ref C) (fun h => h.get? x = some ox) where
 ty:=fun _ _ _ p=>jg p hc
 it := fun _ _ X _ => by
   obtain ⟨cd,hcd⟩:=Option.isSome_iff_exists.mp F.cl
   unfold clsIn at hcd
   split at hcd
   · rename_i hlk
     intro A' Q' E' s' k q
     unfold isType loadHead
     exact wpAny_bind (wpAny_loadPart (k _ _ (X _ _ hlk)) (wpAny_pure q))
   · cases hcd
 ne := fun h tp dd its n sl X htp => by
   obtain ⟨cd,hcd⟩:=Option.isSome_iff_exists.mp F.cl
   refine Bool.eq_false_iff.mpr fun q=>?_
   have e:C = tp:=Value.ref.inj (beq_iff_eq.mp q)
   subst e
   unfold clsIn at hcd
   split at hcd
   · rename_i hlk
     have z:=(X _ _ hlk).symm.trans htp
     cases z
   · cases hcd
 ca:=fun X p k=>zg X p hc F k
def yb (K:PySem.W.Frag) (ea C:Addr):List V→Hp→VK→Prop:=fun xs H Q=>∃ c b,xs = [.ref ea,c]∧iJ c ≠ .none∧kitOne K (.ref C) (iJ c) = some b∧Q (.bl b) H
theorem zJ {X : Cx} {ea : Addr} {oe : Obj} (hp : (ea, oe) ∈ X.pn) (hc : oe.cls = .ref C) (F : k6 X.K C) : cJ X (.builtin "isinstance") (yb X.K ea C) := by
 intro pins s σ H xs us Q I r h
 obtain ⟨c,b,rfl,hn,e,q⟩:=h
 obtain ⟨u,w',rfl,rx,rc⟩:=vals2 r
 cases tP rc hn
 cases (show u = Value.ref ea from rx)
 exact kia_one (Gk hc F) I.ee (I.pin (ea,oe) (List.mem_append_left _ hp)).1 e (fun z=>nomatch z) fun tk=>⟨.bl b,H,I.tok _,rfl,q⟩
theorem J2 {K:PySem.W.Frag} {ea C:Addr} {c:V} {H:Hp} {Q:VK} {b:Bool} (hc:iJ c ≠ .none) (e:kitOne K (.ref C) (iJ c) = some b) (q:Q (.bl b) H):yb K ea C [.ref ea,c] H Q:=⟨c,b,rfl,hc,e,q⟩
theorem x_ {X:Cx} {K:PySem.W.Frag} {ea C:Addr} {oe:Obj} (h:X.K = K) (hp:(ea,oe) ∈ X.pn) (hc:oe.cls = .ref C) (F:k6 K C):cJ X (.builtin "isinstance") (yb K ea C):=by subst h;exact zJ hp hc F
theorem i_ {C:Addr} {E:XK} {t:TA} {D:Ends} {σ : L2.St} {H:Hp} (h:t σ H fun vs H1=>vs.length ≤ 1000∧E (.ref C) none H1):yG C E t D σ H:=h
theorem AK {sp : Sp} {j i : Nat} {t : TA} {C : Addr} {th : Addr → TS} {D : Ends} {σ : L2.St} {H : Hp}
   (h:t σ H fun vs H1=>sp vs H1 (fun v H2=>D.nx (σ.set j (some v)) H2) fun c _ H2=>c = .ref C∧∀ ea,H2 ea = none→th ea { nx:=fun σ' H'=>D.nx (σ'.set i none) H',rt:=fun _ _=>False } (σ.set i (some (.ref ea))) H2) :
   IM (Ff sp j t) C i th D σ H:=h
end
end L3
namespace L3
open PySem PySem.Spec PyProof.Rows L2 PySem.SeqAt
section
variable {X:Cx} {k:Nat} {g:Str} {sp:Sp} {e c:Expr} {es:List Expr} {t:TA} {gp cpos pos:Pos} {b1 b2:List Stmt} {tc:TT} {t1 t2:TB}
end
section
variable {X:Cx} {v:Expr} {tv:TE} {x y:Str} {j1 j2:Nat} {p0 p1 p2 p3:Pos}
end
end L3
namespace L3
open PySem PySem.Spec PyProof.Rows
abbrev gO (h:Heap) (T:Addr) (a b c:Value):Prop:=h.get? T = some { cls:=.type "tuple",data:=.seq #[a,b,c] }
structure ud (z TI TO i1 i2 i3 t1 t2 t3 : Addr) : Prop where
 TIz:TI ≠ z
 TOz:TO ≠ z
 i1z:i1 ≠ z
 i2z:i2 ≠ z
 ke:i3 ≠ z
 TITO:TI ≠ TO
 TIi1:TI ≠ i1
 TIi2:TI ≠ i2
 uO:TI ≠ i3
 TOi1:TO ≠ i1
 TOi2:TO ≠ i2
 kN:TO ≠ i3
 i12:i1 ≠ i2
 z_:i1 ≠ i3
 pA:i2 ≠ i3
 J1:t1 ≠ z
 Kh:t2 ≠ z
 Bo:t2 ≠ TO
 Bb:t2 ≠ i1
 Hk:t3 ≠ z
 BO:t3 ≠ TO
 Bk:t3 ≠ i1
 Bw:t3 ≠ i2
section
variable {prog:Program} {w:World} {A:Around} {E:Value→Shared→Prop} {s:Shared}
theorem oC {T : Addr} {a b c x : Value} {k : Nat} {Q : Unit → Shared → Prop} (hT : gO s.heap T a b c)
   (h:∀ h',h'.get? T = some { cls:=.type "tuple",data:=.seq ((#[a,b,c]:Array Value).setIfInBounds k x) }→Heap.SameBut T s.heap h'→Q () { s with heap:=h' }) :
   wpAny (model prog w) A (updateSeq T (·.setIfInBounds k x)) Q E s:=by
 refine wpAny_updateSeq hT rfl (h _ ?_ (Heap.SameBut.update ..))
 rw [Heap.get?_update_self _ hT rfl]
 simp [Obj.mapSeq]
theorem Mx {z TI TO i1 i2 i3 t1 t2 t3 : Addr} {k : Nat} {xs ys zs : Array Value} {a b c : Value} {Q : Fin → Shared → Prop} (D : ud z TI TO i1 i2 i3 t1 t2 t3) (hz : IsZip s.heap z TI TO .none) (hTI : gO s.heap TI (.ref i1) (.ref i2) (.ref i3)) (hTO : gO s.heap TO a b c)
   (h1:s.heap.IsTupleIter i1 t1 k) (h2:s.heap.IsTupleIter i2 t2 k) (h3:s.heap.IsTupleIter i3 t3 k) (ht1:s.heap.IsTuple t1 xs) (ht2:s.heap.IsTuple t2 ys) (ht3:s.heap.IsTuple t3 zs)
   (q1 : ∀ x y u, xs[k]? = some x → ys[k]? = some y → zs[k]? = some u → ∀ h', IsZip h' z TI TO (rawInt s.heap.objs.size) → gO h' TO x y u → h'.IsTupleIter i1 t1 (k + 1) → h'.IsTupleIter i2 t2 (k + 1) → h'.IsTupleIter i3 t3 (k + 1) → gO h' s.heap.objs.size x y u →
     (∀ c o,c ≠ z→c ≠ TO→c ≠ i1→c ≠ i2→c ≠ i3→s.heap.get? c = some o→h'.get? c = some o)→Q (.done (.ret (.ref s.heap.objs.size))) { s with heap:=h' })
   (q2:(xs[k]? = none∨ys[k]? = none∨zs[k]? = none)→A.handled = none∧∀ h' e,(∀ c o,c ≠ z→c ≠ TO→c ≠ i1→c ≠ i2→c ≠ i3→s.heap.get? c = some o→h'.get? c = some o)→(∃ o,h'.get? e = some o∧o.cls = .type "StopIteration")→E (.ref e) { s with heap:=h' }) :
   wpAny (model prog w) A (Builtin.«zip.__next__» ⟨[.ref z],[]⟩) Q E s:=by
 show wpAny _ _ (field (.ref z) 2 >>= _) _ _ _;refine wpAny_bind (wpAny_field hz rfl (x:=.bool false) rfl ?_)
 show wpAny _ _ (field (.ref z) 3 >>= _) _ _ _;refine wpAny_bind (wpAny_field hz rfl (x:=.ref TI) rfl (wpAny_bind (wpAny_seqItems hTI rfl ?_)))
 show wpAny _ _ (Builtin.SmallTypes.ownedTupleIsFree (.ref z) >>= _) _ _ _;refine wpAny_bind ?_
 unfold Builtin.SmallTypes.ownedTupleIsFree;refine wpAny_bind (wpAny_field hz rfl (x:=.none) rfl (wpAny_pure ?_))
 simp only [if_true];refine wpAny_bind (wpAny_rule (wpAny_bind (wpAny_field hz rfl (x:=.ref TO) rfl ?_)))
 refine wpAny_bind (wpAny_setField_rec hz (by simp) fun g1 hz1 s1=>?_);replace hz1:IsZip g1 z TI TO .ellipsis:=hz1
 refine wpAny_bind ?_;simp only [List.zipIdx_cons,List.zipIdx_nil,List.forIn_cons,List.forIn_nil]
 refine wpAny_bind (wpAny_bind (wpAny_onRaise ?_));show wpAny _ _ (Builtin.SmallTypes.nextOf (.ref i1) >>= _) _ _ _
 refine wpAny_bind (mq (h1.at fun o e=>s1.extBut _ o D.i1z e) (ht1.extBut s1.extBut D.J1) (fun x hx g2 h12 s2=>wpAny_pure ?_) fun hx=>?_)
 · have hO2 : gO g2 TO a b c := s2.extBut _ _ D.TOi1 (s1.extBut _ _ D.TOz hTO)
   refine wpAny_bind (wpAny_seqItems hO2 rfl (wpAny_bind (oC hO2 fun g3 hO3 s3=>?_)));replace hO3:gO g3 TO x b c:=hO3
   refine wpAny_bind (wpAny_letGo (wpAny_pure ?_));refine wpAny_bind (wpAny_bind (wpAny_onRaise ?_))
   show wpAny _ _ (Builtin.SmallTypes.nextOf (.ref i2) >>= _) _ _ _
   have k3:∀ c o,c ≠ z→c ≠ TO→c ≠ i1→s.heap.get? c = some o→g3.get? c = some o:=fun c o c1 c2 c3 e=>s3.extBut _ _ c2 (s2.extBut _ _ c3 (s1.extBut _ _ c1 e))
   have hz3:IsZip g3 z TI TO .ellipsis:=s3.extBut _ _ D.TOz.symm (s2.extBut _ _ D.i1z.symm hz1)
   refine wpAny_bind (mq (h2.at fun o e=>k3 _ o D.i2z D.TOi2.symm D.i12.symm e) (ht2.at fun o e=>k3 _ o D.Kh D.Bo D.Bb e) (fun y hy g4 h24 s4=>wpAny_pure ?_) fun hy=>?_)
   · have hO4 : gO g4 TO x b c := s4.extBut _ _ D.TOi2 hO3
     refine wpAny_bind (wpAny_seqItems hO4 rfl (wpAny_bind (oC hO4 fun g5 hO5 s5=>?_)));replace hO5:gO g5 TO x y c:=hO5
     refine wpAny_bind (wpAny_letGo (wpAny_pure ?_));refine wpAny_bind (wpAny_bind (wpAny_onRaise ?_))
     show wpAny _ _ (Builtin.SmallTypes.nextOf (.ref i3) >>= _) _ _ _
     have k5:∀ c o,c ≠ z→c ≠ TO→c ≠ i1→c ≠ i2→s.heap.get? c = some o→g5.get? c = some o:=fun c o c1 c2 c3 c4 e=>s5.extBut _ _ c2 (s4.extBut _ _ c4 (k3 c o c1 c2 c3 e))
     have hz5:IsZip g5 z TI TO .ellipsis:=s5.extBut _ _ D.TOz.symm (s4.extBut _ _ D.i2z.symm hz3)
     refine wpAny_bind (mq (h3.at fun o e=>k5 _ o D.ke D.kN.symm D.z_.symm D.pA.symm e) (ht3.at fun o e=>k5 _ o D.Hk D.BO D.Bk D.Bw e) (fun u hu g6 h36 s6=>wpAny_pure ?_) fun hu=>?_)
     · have hO6 : gO g6 TO x y c := s6.extBut _ _ D.kN hO5
       refine wpAny_bind (wpAny_seqItems hO6 rfl (wpAny_bind (oC hO6 fun g7 hO7 s7=>?_)));replace hO7:gO g7 TO x y u:=hO7
       refine wpAny_bind (wpAny_letGo (wpAny_pure (wpAny_pure ?_)));refine wpAny_bind (wpAny_seqItems hO7 rfl (wpAny_bind (wpAny_newTuple ?_)))
       have z7:g7.objs.size = s.heap.objs.size:=by rw [s7.1,s6.1,s5.1,s4.1,s3.1,s2.1,s1.1]
       have hz7:IsZip g7 z TI TO .ellipsis:=s7.extBut _ _ D.TOz.symm (s6.extBut _ _ D.ke.symm hz5)
       have k7:∀ c o,c ≠ z→c ≠ TO→c ≠ i1→c ≠ i2→c ≠ i3→s.heap.get? c = some o→g7.get? c = some o:=fun c o c1 c2 c3 c4 c5 e=>s7.extBut _ _ c2 (s6.extBut _ _ c5 (k5 c o c1 c2 c3 c4 e))
       have h17:g7.IsTupleIter i1 t1 (k + 1):=h12.at fun o e=>s7.extBut _ _ D.TOi1.symm (s6.extBut _ _ D.z_ (s5.extBut _ _ D.TOi1.symm (s4.extBut _ _ D.i12 (s3.extBut _ _ D.TOi1.symm e))))
       have h27:g7.IsTupleIter i2 t2 (k + 1):=h24.at fun o e=>s7.extBut _ _ D.TOi2.symm (s6.extBut _ _ D.pA (s5.extBut _ _ D.TOi2.symm e))
       have h37:g7.IsTupleIter i3 t3 (k + 1):=h36.at fun o e=>s7.extBut _ _ D.kN.symm e
       have zlt:z < g7.objs.size:=Heap.lt_size hz7
       show wpAny _ _ (Builtin.SmallTypes.ownedTupleHandOut (.ref z) (.ref g7.objs.size) >>= _) _ _ _;refine wpAny_bind ?_
       unfold Builtin.SmallTypes.ownedTupleHandOut
       have hz8:IsZip (g7.push { cls:=.type "tuple",data:=.seq #[x,y,u] }) z TI TO .ellipsis:=Heap.get?_push_of_some _ hz7
       refine wpAny_bind (wpAny_setField_rec hz8 (by simp) fun g9 hz9 s9=>?_);replace hz9:IsZip g9 z TI TO (rawInt g7.objs.size):=hz9
       refine wpAny_setField_rec hz9 (by simp) fun ga hza sa=>?_;replace hza:IsZip ga z TI TO (rawInt g7.objs.size):=hza
       have up:∀ c o,c ≠ z→g7.get? c = some o→ga.get? c = some o:=fun c o c1 e=>sa.extBut _ _ c1 (s9.extBut _ _ c1 (Heap.get?_push_of_some _ e))
       have hTa:gO ga g7.objs.size x y u:=sa.extBut _ _ (Nat.ne_of_gt zlt) (s9.extBut _ _ (Nat.ne_of_gt zlt) (Heap.get?_push_size _ rfl))
       rw [z7] at hza hTa;refine wpAny_pure ?_
       show Q (.done (.ret (.ref g7.objs.size))) _;rw [z7]
       exact q1 x y u hx hy hu ga hza (up _ _ D.TOz hO7) (h17.at fun o e=>up _ o D.i1z e) (h27.at fun o e=>up _ o D.i2z e) (h37.at fun o e=>up _ o D.ke e) hTa fun c o c1 c2 c3 c4 c5 e=>up c o c1 (k7 c o c1 c2 c3 c4 c5 e)
     · obtain ⟨hh, q2⟩ := q2 (.inr (.inr hu))
       refine ⟨hh,fun g6 e s6 he=>?_⟩
       obtain ⟨oe,hoe,hce⟩:=he
       have hz6:IsZip g6 z TI TO .ellipsis:=s6 _ _ D.ke.symm hz5
       have hez:e ≠ z:=fun v=>by subst v;rw [hz6] at hoe;cases hoe;simp at hce
       exact wpAny_setField_rec hz6 (by simp) fun g7 _ s7=>q2 g7 e (fun c o c1 c2 c3 c4 c5 v=>s7.extBut _ _ c1 (s6 _ _ c5 (k5 c o c1 c2 c3 c4 v))) ⟨oe,s7.extBut _ _ hez hoe,hce⟩
   · obtain ⟨hh, q2⟩ := q2 (.inr (.inl hy))
     refine ⟨hh,fun g4 e s4 he=>?_⟩
     obtain ⟨oe,hoe,hce⟩:=he
     have hz4:IsZip g4 z TI TO .ellipsis:=s4 _ _ D.i2z.symm hz3
     have hez:e ≠ z:=fun v=>by subst v;rw [hz4] at hoe;cases hoe;simp at hce
     exact wpAny_setField_rec hz4 (by simp) fun g5 _ s5=>q2 g5 e (fun c o c1 c2 c3 c4 _ v=>s5.extBut _ _ c1 (s4 _ _ c4 (k3 c o c1 c2 c3 v))) ⟨oe,s5.extBut _ _ hez hoe,hce⟩
 · obtain ⟨hh, q2⟩ := q2 (.inl hx)
   refine ⟨hh,fun g2 e s2 he=>?_⟩
   obtain ⟨oe,hoe,hce⟩:=he
   have hz2:IsZip g2 z TI TO .ellipsis:=s2 _ _ D.i1z.symm hz1
   have hez:e ≠ z:=fun v=>by subst v;rw [hz2] at hoe;cases hoe;simp at hce
   exact wpAny_setField_rec hz2 (by simp) fun g3 _ s3=>q2 g3 e (fun c o c1 _ c3 _ _ v=>s3.extBut _ _ c1 (s2 _ _ c3 (s1.extBut _ _ c1 v))) ⟨oe,s3.extBut _ _ hez hoe,hce⟩
end
abbrev L8 (a b c:Value):Obj:={ cls:=.type "tuple",data:=.seq #[a,b,c] }
abbrev vW (h:Heap) (t u v:Addr):Heap:=(lF h t u).push (ub v)
abbrev v8 (h:Heap) (t u v:Addr):Heap:=(vW h t u v).push (L8 (.ref h.objs.size) (.ref (mj h t).objs.size) (.ref (lF h t u).objs.size))
abbrev vL (h:Heap) (t u v:Addr):Heap:=(v8 h t u v).push (L8 .none .none .none)
abbrev uf (h:Heap) (t u v:Addr):Heap:=(vL h t u v).push { cls:=.type "zip",data:=.fields #[.none,.bool false,.bool false,.ref (vW h t u v).objs.size,.ref (v8 h t u v).objs.size] }
set_option maxHeartbeats 4000000 in
theorem Bi (t u v : Addr) (xs ys zs : Array Value) : Meets (Builtin.«zip.__new__» ⟨[.type "zip", .ref t, .ref u, .ref v], []⟩) (fun _ R s => s.heap.IsTuple t xs ∧ s.heap.IsTuple u ys ∧ s.heap.IsTuple v zs ∧ R (.ok (.ret (.ref (vL s.heap t u v).objs.size))) { s with heap := uf s.heap t u v }) :=
 .of_wp fun prog w A R s h => by
   obtain ⟨hp,g,d,tk,os⟩:=s;obtain ⟨hl1,hl2,hl3,h⟩:=h
   have hsub:=sub_zip;have hL1:Heap.IsTuple (Shared.heap ⟨hp,g,d,tk,os⟩) t xs:=hl1
   have hL2:Heap.IsTuple (Shared.heap ⟨hp.push (ub t),g,d,tk,os⟩) u ys:=hl2.at fun o e=>Heap.get?_push_of_some _ e
   have hL3:Heap.IsTuple (Shared.heap ⟨(hp.push (ub t)).push (ub u),g,d,tk,os⟩) v zs:=hl3.at fun o e=>Heap.get?_push_of_some _ (Heap.get?_push_of_some _ e)
   wp_walk using wpAny_pyIter_tuple hL1,wpAny_pyIter_tuple hL2,wpAny_pyIter_tuple hL3
   exact ⟨_,rfl,h⟩
theorem yz (a b c:Value):checkTypeCall "zip" ⟨[a,b,c],[]⟩ = pure ():=by kernel_rfl
theorem zo (a b c:Value):checkBuiltinCall "zip.__new__" ⟨[.type "zip",a,b,c],[]⟩ = pure ():=by kernel_rfl
theorem zl (a b c d:Value):argsOk "object.__init__" ⟨[a,b,c,d],[]⟩:=by unfold argsOk;rw [signature?_of (id:="object.__init__") (n:=['_','_','t','i','n','i','_','_']) (o:=['t','c','e','j','b','o']) (by kernel_rfl) PySem.F.owner_object];kernel_rfl
section
variable {prog:Program} {w:World} {A:Around} {E:Value→Shared→Prop} {s:Shared}
theorem Bj {t u v : Addr} {xs ys zs : Array Value} {Q : Value → Shared → Prop} (h1 : s.heap.IsTuple t xs) (h2 : s.heap.IsTuple u ys) (h3 : s.heap.IsTuple v zs)
   (q : ∀ h' n, n = s.heap.objs.size → IsZip h' (n + 5) (n + 3) (n + 4) .none → gO h' (n + 3) (.ref n) (.ref (n + 1)) (.ref (n + 2)) → gO h' (n + 4) .none .none .none → h'.IsTupleIter n t 0 → h'.IsTupleIter (n + 1) u 0 → h'.IsTupleIter (n + 2) v 0 →
     (∀ c o,s.heap.get? c = some o→h'.get? c = some o)→Q (.ref (n + 5)) { s with heap:=h' }):wpAny (model prog w) A (call (.type "zip") [.ref t,.ref u,.ref v]) Q E s:=by
 refine callType_new F.called_zip (by decide) (yz _ _ _) (zo _ _ _) (fun obj=>zl obj _ _ _) F.entry_zip_new (Bi t u v xs ys zs) ⟨h1,h2,h3,?_⟩
 have z1:(mj s.heap t).objs.size = s.heap.objs.size + 1:=Heap.size_push ..
 have z2:(lF s.heap t u).objs.size = s.heap.objs.size + 2:=by rw [Heap.size_push,z1]
 have z3:(vW s.heap t u v).objs.size = s.heap.objs.size + 3:=by rw [Heap.size_push,z2]
 have z4:(v8 s.heap t u v).objs.size = s.heap.objs.size + 4:=by rw [Heap.size_push,z3]
 have z5:(vL s.heap t u v).objs.size = s.heap.objs.size + 5:=by rw [Heap.size_push,z4]
 have p6:∀ c o,(vL s.heap t u v).get? c = some o→(uf s.heap t u v).get? c = some o:=fun c o e=>Heap.get?_push_of_some _ e
 have p5:∀ c o,(v8 s.heap t u v).get? c = some o→(uf s.heap t u v).get? c = some o:=fun c o e=>p6 c o (Heap.get?_push_of_some _ e)
 have p4:∀ c o,(vW s.heap t u v).get? c = some o→(uf s.heap t u v).get? c = some o:=fun c o e=>p5 c o (Heap.get?_push_of_some _ e)
 have p3:∀ c o,(lF s.heap t u).get? c = some o→(uf s.heap t u v).get? c = some o:=fun c o e=>p4 c o (Heap.get?_push_of_some _ e)
 have p2:∀ c o,(mj s.heap t).get? c = some o→(uf s.heap t u v).get? c = some o:=fun c o e=>p3 c o (Heap.get?_push_of_some _ e)
 have e6:(uf s.heap t u v).get? (vL s.heap t u v).objs.size = some _:=Heap.get?_push_size _ rfl
 have e5:=p6 _ _ (show (vL s.heap t u v).get? (v8 s.heap t u v).objs.size = some _ from Heap.get?_push_size _ rfl)
 have e4:=p5 _ _ (show (v8 s.heap t u v).get? (vW s.heap t u v).objs.size = some _ from Heap.get?_push_size _ rfl)
 have e3:=p4 _ _ (show (vW s.heap t u v).get? (lF s.heap t u).objs.size = some _ from Heap.get?_push_size _ rfl)
 have e2:=p3 _ _ (show (lF s.heap t u).get? (mj s.heap t).objs.size = some _ from Heap.get?_push_size _ rfl)
 have e1:=p2 _ _ (show (mj s.heap t).get? s.heap.objs.size = some _ from Heap.get?_push_size _ rfl)
 rw [z3,z4,z5] at e6
 rw [z4] at e5
 rw [z3,z1,z2] at e4
 rw [z2] at e3
 rw [z1] at e2
 show _∧_
 rw [z5]
 exact ⟨⟨_,e6,rfl⟩,q _ _ rfl e6 e4 e5 ⟨_,e1,rfl,rfl⟩ ⟨_,e2,rfl,rfl⟩ ⟨_,e3,rfl,rfl⟩ fun c o x=>p2 c o (Heap.get?_push_of_some _ x)⟩
theorem uv {z TI TO i1 i2 i3 t1 t2 t3 : Addr} {k : Nat} {xs ys zs : Array Value} {a b c : Value} {Q : Option Value → Shared → Prop} (D : ud z TI TO i1 i2 i3 t1 t2 t3) (hz : IsZip s.heap z TI TO .none) (hTI : gO s.heap TI (.ref i1) (.ref i2) (.ref i3)) (hTO : gO s.heap TO a b c)
   (h1:s.heap.IsTupleIter i1 t1 k) (h2:s.heap.IsTupleIter i2 t2 k) (h3:s.heap.IsTupleIter i3 t3 k) (ht1:s.heap.IsTuple t1 xs) (ht2:s.heap.IsTuple t2 ys) (ht3:s.heap.IsTuple t3 zs)
   (q1 : ∀ x y u, xs[k]? = some x → ys[k]? = some y → zs[k]? = some u → ∀ h', IsZip h' z TI TO (rawInt s.heap.objs.size) → gO h' TO x y u → h'.IsTupleIter i1 t1 (k + 1) → h'.IsTupleIter i2 t2 (k + 1) → h'.IsTupleIter i3 t3 (k + 1) → gO h' s.heap.objs.size x y u →
     (∀ c o,c ≠ z→c ≠ TO→c ≠ i1→c ≠ i2→c ≠ i3→s.heap.get? c = some o→h'.get? c = some o)→Q (some (.ref s.heap.objs.size)) { s with heap:=h' })
   (q2:(xs[k]? = none∨ys[k]? = none∨zs[k]? = none)→A.handled = none∧∀ h',(∀ c o,c ≠ z→c ≠ TO→c ≠ i1→c ≠ i2→c ≠ i3→s.heap.get? c = some o→h'.get? c = some o)→Q none { s with heap:=h' }) :
   wpAny (model prog w) A (pyNext (.ref z)) Q E s:=by
 have hT:s.TypeIs (.ref z) "zip":=⟨_,hz,rfl⟩;unfold pyNext
 refine wpAny_bind (wpAny_attempt (wpAny_callSpecial?_slot (name:=Str.ofString "__next__") hT F.slot_zip_next (wpAny_call_entry F.slot_zip_next hT F.entry_zip_next ?_ (F.args_zip_next_1 _))))
 refine Mx D hz hTI hTO h1 h2 h3 ht1 ht2 ht3 (fun x y u hx hy hu h' a1 a2 a3 a4 a5 a6 a7=>⟨_,rfl,wpAny_pure (q1 x y u hx hy hu h' a1 a2 a3 a4 a5 a6 a7)⟩) fun he=>⟨(q2 he).1,fun h' e kk ho=>?_⟩
 obtain ⟨o,ho,hc⟩:=ho
 exact wpAny_bind (wpAny_isInstance (T:="StopIteration") (b:=true) ⟨o,ho,hc⟩ isSubtype_stop (wpAny_pure ((q2 he).2 _ kk)))
end
end L3
namespace L3
open PySem PySem.Spec PyProof.Rows L2
def x9 (K : PySem.W.Frag) (a b c : Addr) : It :=
 ⟨fun i H => ∃ xs ys zs x y u, aW K H a xs ∧ aW K H b ys ∧ aW K H c zs ∧ xs[i]? = some x ∧ ys[i]? = some y ∧ zs[i]? = some u,
  fun i H v H'=>∃ T x y u,v = .ref T∧H T = none∧H' = upd H T (.tup [x,y,u])∧∀ xs ys zs,aW K H a xs→aW K H b ys→aW K H c zs→xs[i]? = some x∧ys[i]? = some y∧zs[i]? = some u,
  fun i H=>∃ xs ys zs,aW K H a xs∧aW K H b ys∧aW K H c zs∧(xs.length ≤ i∨ys.length ≤ i∨zs.length ≤ i)⟩
theorem AM {P : Program} {w : World} {K : PySem.W.Frag} {es : List Expr} {n : Nat} {pos : Pos} {a b c z TI TO i1 i2 i3 : Addr} (D : ud z TI TO i1 i2 i3 a b c) :
   Turn P w K (.Tuple es n pos) (x9 K a b c) [z,TI,TO,i1,i2,i3] z (fun i h=>IsZip h z TI TO .none∧gO h TI (.ref i1) (.ref i2) (.ref i3)∧(∃ x y u,gO h TO x y u)∧h.IsTupleIter i1 a i∧h.IsTupleIter i2 b i∧h.IsTupleIter i3 c i) where
 mem:=by simp
 obj := fun i h st d hd => by
   obtain ⟨hz,hI,⟨x,y,u,hO⟩,⟨o1,e1,_,d1⟩,⟨o2,e2,_,d2⟩,⟨o3,e3,_,d3⟩⟩:=st
   have hd:d = z∨d = TI∨d = TO∨d = i1∨d = i2∨d = i3:=by simpa using hd
   rcases hd with rfl | rfl | rfl | rfl | rfl | rfl
   · exact ⟨_,hz,fun v e=>by cases e⟩
   · exact ⟨_,hI,fun v e=>by cases e⟩
   · exact ⟨_,hO,fun v e=>by cases e⟩
   · exact ⟨_,e1,fun v e=>by rw [d1] at e;cases e⟩
   · exact ⟨_,e2,fun v e=>by rw [d2] at e;cases e⟩
   · exact ⟨_,e3,fun v e=>by rw [d3] at e;cases e⟩
 keep := fun i h h' st k => by
   obtain ⟨hz,hI,⟨x,y,u,hO⟩,h1,h2,h3⟩:=st
   exact ⟨k z (by simp) _ hz,k TI (by simp) _ hI,⟨x,y,u,k TO (by simp) _ hO⟩,h1.at fun o e=>k i1 (by simp) o e,h2.at fun o e=>k i2 (by simp) o e,h3.at fun o e=>k i3 (by simp) o e⟩
 item := by
   intro X hP hw hK hc i pins s σ H E I hf st hg
   subst hP hw hK
   obtain ⟨hz,hI,⟨x0,y0,u0,hO⟩,h1,h2,h3⟩:=st
   obtain ⟨xs,ys,zs,x,y,u,hq1,hq2,hq3,hx,hy,hu⟩:=hg
   obtain ⟨its1,rv1,p1,_⟩:=I.tuple hq1
   obtain ⟨its2,rv2,p2,_⟩:=I.tuple hq2
   obtain ⟨its3,rv3,p3,_⟩:=I.tuple hq3
   obtain ⟨ux,hux,rx⟩:=rv1.get hx
   obtain ⟨uy,huy,ry⟩:=rv2.get hy
   obtain ⟨uu,huu,ru⟩:=rv3.get hu
   refine uv D hz hI hO h1 h2 h3 (show s.heap.IsTuple a its1.toArray from p1) (show s.heap.IsTuple b its2.toArray from p2) (show s.heap.IsTuple c its3.toArray from p3) (fun x' y' u' hx' hy' hu' h' z1 z2 z3 z4 z5 z6 kk=>?_) fun he=>?_
   · have e1 : x' = ux := by simpa [hux] using hx'.symm
     have e2:y' = uy:=by simpa [huy] using hy'.symm
     have e3:u' = uu:=by simpa [huu] using hu'.symm
     subst e1 e2 e3
     refine ⟨_,rfl,wpAny_letOwnedTupleGo_zip z1 fun h2' hz2 s2=>?_⟩
     have T0:H s.heap.objs.size = none:=I.ay.fresh (Nat.le_refl _)
     have tz:s.heap.objs.size ≠ z:=Nat.ne_of_gt (Heap.lt_size hz)
     have J : Inv X pins σ (upd H s.heap.objs.size (.tup [x, y, u])) { s with heap := h2' } := by
       refine lT (ch:=[z,TI,TO,i1,i2,i3]) I hf (Nat.le_refl _) (fun d o hd e=>?_) (fun d hd=>?_) ?_
       · have c1 : d ≠ z := fun q => hd (by simp [q])
         exact s2.extBut _ _ c1 (kk d o c1 (fun q=>hd (by simp [q])) (fun q=>hd (by simp [q])) (fun q=>hd (by simp [q])) (fun q=>hd (by simp [q])) e)
       · have hd : d = z ∨ d = TI ∨ d = TO ∨ d = i1 ∨ d = i2 ∨ d = i3 := by simpa using hd
         rcases hd with rfl | rfl | rfl | rfl | rfl | rfl
         · exact ⟨_,hz2⟩
         · exact ⟨_,s2.extBut _ _ D.TIz (kk _ _ D.TIz D.TITO D.TIi1 D.TIi2 D.uO hI)⟩
         · exact ⟨_,s2.extBut _ _ D.TOz z2⟩
         · obtain ⟨o,e,_⟩:=z3;exact ⟨o,s2.extBut _ _ D.i1z e⟩
         · obtain ⟨o,e,_⟩:=z4;exact ⟨o,s2.extBut _ _ D.i2z e⟩
         · obtain ⟨o,e,_⟩:=z5;exact ⟨o,s2.extBut _ _ D.ke e⟩
       · exact ⟨by show 3 ≤ sizeLine;decide,[x',y',u'],.cons rx (.cons ry (.cons ru .nil)),⟨_,s2.extBut _ _ tz z6,rfl,_,rfl⟩⟩
     refine ⟨.ref s.heap.objs.size,_,J,rfl,⟨_,x,y,u,rfl,T0,rfl,fun xs' ys' zs' q1 q2 q3=>?_⟩,⟨hz2,s2.extBut _ _ D.TIz (kk _ _ D.TIz D.TITO D.TIi1 D.TIi2 D.uO hI),⟨_,_,_,s2.extBut _ _ D.TOz z2⟩,z3.at fun o e=>s2.extBut _ _ D.i1z e,z4.at fun o e=>s2.extBut _ _ D.i2z e,z5.at fun o e=>s2.extBut _ _ D.ke e⟩,fun d hd=>?_⟩
     · rw [I.gQ q1 hq1,I.gQ q2 hq2,I.gQ q3 hq3];exact ⟨hx,hy,hu⟩
     · have hlt : d < s.heap.objs.size := by
         have hd:d = z∨d = TI∨d = TO∨d = i1∨d = i2∨d = i3:=by simpa using hd
         rcases hd with e | e | e | e | e | e <;> rw [e]
         · exact Heap.lt_size hz
         · exact Heap.lt_size hI
         · exact Heap.lt_size hO
         · obtain ⟨o,e,_⟩:=h1;exact Heap.lt_size e
         · obtain ⟨o,e,_⟩:=h2;exact Heap.lt_size e
         · obtain ⟨o,e,_⟩:=h3;exact Heap.lt_size e
       rw [ao (Nat.ne_of_lt hlt)];exact (hf d hd).1
   · exfalso
     rcases he with he | he | he
     · simp [hux] at he
     · simp [huy] at he
     · simp [huu] at he
 done := by
   intro X hP hw hK hc i pins s σ H E I hf st hg
   subst hP hw hK
   obtain ⟨hz,hI,⟨x0,y0,u0,hO⟩,h1,h2,h3⟩:=st
   obtain ⟨xs,ys,zs,hq1,hq2,hq3,hl⟩:=hg
   obtain ⟨its1,rv1,p1,_⟩:=I.tuple hq1
   obtain ⟨its2,rv2,p2,_⟩:=I.tuple hq2
   obtain ⟨its3,rv3,p3,_⟩:=I.tuple hq3
   have l1:=rv1.length
   have l2:=rv2.length
   have l3:=rv3.length
   refine uv D hz hI hO h1 h2 h3 (show s.heap.IsTuple a its1.toArray from p1) (show s.heap.IsTuple b its2.toArray from p2) (show s.heap.IsTuple c its3.toArray from p3) (fun x' y' u' hx' hy' hu' h' z1 z2 z3 z4 z5 z6 kk=>?_) fun he=>⟨I.ok.hd hc,fun h' kk=>⟨rfl,?_⟩⟩
   · exfalso
     have g1:i < its1.length:=by simpa using (Array.getElem?_eq_some_iff.mp hx').1
     have g2:i < its2.length:=by simpa using (Array.getElem?_eq_some_iff.mp hy').1
     have g3:i < its3.length:=by simpa using (Array.getElem?_eq_some_iff.mp hu').1
     omega
   · have hnc : ∀ d o, d ∉ [z, TI, TO, i1, i2, i3] → s.heap.get? d = some o → h'.get? d = some o := fun d o hd e => kk d o (fun q => hd (by simp [q])) (fun q => hd (by simp [q])) (fun q => hd (by simp [q])) (fun q => hd (by simp [q])) (fun q => hd (by simp [q])) e
     refine I.nu (s':={ s with heap:=h' }) (ch:=[z,TI,TO,i1,i2,i3]) rfl ⟨fun b o e _ _ hc=>hnc b o hc e,fun b o e _ _ hc=>⟨o.slots,hnc b o hc e⟩,fun b o e n _=>n,fun b o e hc=>⟨o,hnc b o hc e⟩,fun _ _ e=>e,fun _ _ _ e=>e,fun b ps e=>⟨#[],by rw [e];simp⟩⟩ (fun b u e=>?_) I.bare ?_
     · have nc : ∀ b u, H b = some u → b ∉ [z, TI, TO, i1, i2, i3] := fun b u e hb => by rw [(hf b hb).1] at e; cases e
       refine (I.ay b u e).iA (fun d v hd q=>hnc d v ?_ q) (fun _ q=>q) fun _ _ q=>q
       rcases hd with q | q
       · rw [q];exact nc b u e
       · exact nc d _ q
     · intro b hb
       obtain ⟨f0,f1,f2,f3,f4,f5⟩:=hf b hb
       exact ⟨f3,f1,f4,f5⟩
 self:=fun _ _ _ _ _ st h=>wpAny_pyIter_zip st.1 h
def Fx (K:PySem.W.Frag) (ta:TA):TI:=fun σ H R=>ta σ H fun vs H1=>∃ a b c xs ys zs,vs = [.ref a,.ref b,.ref c]∧aW K H1 a xs∧aW K H1 b ys∧aW K H1 c zs∧R (x9 K a b c) H1
theorem JA {K:PySem.W.Frag} {ta:TA} {σ : St} {H:Hp} {R:It→Hp→Prop} (q:ta σ H fun vs H1=>∃ a b c xs ys zs,vs = [.ref a,.ref b,.ref c]∧aW K H1 a xs∧aW K H1 b ys∧aW K H1 c zs∧R (x9 K a b c) H1):Fx K ta σ H R:=q
theorem F4 {X : Cx} {K : PySem.W.Frag} {es : List Expr} {n : Nat} {tpos : Pos} {a b c : Expr} {ta : TA} {p pos : Pos} (hK : X.K = K) (hg : Gl X "zip") (hm : X.mg "zip" = none) (ha : PA X [a, b, c] ta)
   (hs:starEach [a,b,c] X.env = [(false,eval a X.env),(false,eval b X.env),(false,eval c X.env)]:=by rfl) (hs2:starEach [b,c] X.env = [(false,eval b X.env),(false,eval c X.env)]:=by rfl) :
   PI X (.Tuple es n tpos) (.Call (.Name "zip" p) [a,b,c] [] pos) (Fx K ta):=by
 subst hK
 intro pins s σ H R I h
 refine Call_ (jh I hg hm xj (PyProof.Rows.callWith_type1 (a9 (ha pos pins s σ H _ I h) fun us s1 ⟨vs,H1,I1,r1,q1⟩=>?_) (by rw [hs,hs2]) (by rw [hs2];rfl)))
 obtain ⟨x,y,u,xs,ys,zs,e,hx,hy,hu,q⟩:=q1
 subst e
 cases r1 with
 | cons r rr =>
   cases rr with
   | cons r' rr =>
     cases rr with
     | cons r'' rr =>
       cases rr
       cases r
       cases r'
       cases r''
       obtain ⟨its1,rv1,p1,_⟩:=I1.tuple hx
       obtain ⟨its2,rv2,p2,_⟩:=I1.tuple hy
       obtain ⟨its3,rv3,p3,_⟩:=I1.tuple hu
       have lx:x < s1.heap.objs.size:=p1.lt
       have ly:y < s1.heap.objs.size:=p2.lt
       have lu:u < s1.heap.objs.size:=p3.lt
       refine Bj (show s1.heap.IsTuple x its1.toArray from p1) (show s1.heap.IsTuple y its2.toArray from p2) (show s1.heap.IsTuple u its3.toArray from p3) fun h' m hm' z1 z2 z3 z4 z5 z6 kk=>?_
       subst hm'
       refine wpAny_pyIter_zip z1 ⟨_,[s1.heap.objs.size + 5,s1.heap.objs.size + 3,s1.heap.objs.size + 4,s1.heap.objs.size,s1.heap.objs.size + 1,s1.heap.objs.size + 2],_,_,H1,rfl,I1.kept (t':=s1.toks) kk,AM ⟨?_,?_,?_,?_,?_,?_,?_,?_,?_,?_,?_,?_,?_,?_,?_,?_,?_,?_,?_,?_,?_,?_,?_⟩,⟨z1,z2,⟨_,_,_,z3⟩,z4,z5,z6⟩,fun d hd=>?last,q⟩
       case last =>
         have hd:d = s1.heap.objs.size + 5∨d = s1.heap.objs.size + 3∨d = s1.heap.objs.size + 4∨d = s1.heap.objs.size∨d = s1.heap.objs.size + 1∨d = s1.heap.objs.size + 2:=by simpa using hd
         have hge:s1.heap.objs.size ≤ d:=by rcases hd with e | e | e | e | e | e <;> rw [e] <;> first | exact Nat.le_add_right _ _ | exact Nat.le_refl _
         exact I1.kH hge (I1.ay.fresh hge)
       all_goals (intro e;have e' : @Eq Nat _ _:=e;have lx' : @LT.lt Nat _ _ _:=lx;have ly' : @LT.lt Nat _ _ _:=ly;have lu' : @LT.lt Nat _ _ _:=lu;omega)
theorem AX {K : PySem.W.Frag} {a b c : Addr} {xs ys zs : List V} {g : TG} {tb : TS} {D : Ends} {σ : St} {H : Hp} (hy : ys.length = xs.length) (hz : zs.length = xs.length) (Pv : Nat → St → Hp → Prop) (h0 : Pv 0 σ H) (hl : ∀ i σ H, i ≤ xs.length → Pv i σ H → aW K H a xs ∧ aW K H b ys ∧ aW K H c zs)
   (hs:∀ i x y u T σ H,xs[i]? = some x→ys[i]? = some y→zs[i]? = some u→Pv i σ H→H T = none→g (.ref T) σ (upd H T (.tup [x,y,u])) fun σ2 H2=>tb { D with nx:=Pv (i + 1),ct:=Pv (i + 1),bk:=D.nx } σ2 H2) (hd:∀ σ H,Pv xs.length σ H→D.nx σ H):x6 (x9 K a b c) g tb D σ H:=by
 refine ⟨fun i m σ H=>m = xs.length - i∧i ≤ xs.length∧Pv i σ H,⟨xs.length,by simp,Nat.zero_le _,h0⟩,?_⟩
 rintro i m σ H ⟨rfl,hi,p⟩
 obtain ⟨q1,q2,q3⟩:=hl i σ H hi p
 by_cases hlt:i < xs.length
 · refine .inr ⟨⟨xs, ys, zs, xs[i], ys[i], zs[i], q1, q2, q3, by simp [hlt], by simp [hy, hlt], by simp [hz, hlt]⟩, Pv (i + 1), fun σ' H' p' => ⟨xs.length - (i + 1), by omega, rfl, hlt, p'⟩, fun x H' y => ?_⟩
   obtain ⟨T,x',y',u',rfl,hT,rfl,hxy⟩:=y
   obtain ⟨r1,r2,r3⟩:=hxy _ _ _ q1 q2 q3
   exact hs i x' y' u' T σ H r1 r2 r3 p hT
 · have e : i = xs.length := by omega
   subst e
   exact .inl ⟨⟨xs,ys,zs,q1,q2,q3,.inl (Nat.le_refl _)⟩,hd σ H p⟩
end L3
namespace L3
open PySem PySem.Spec PyProof.Rows L2 PySem.SeqAt
theorem me : ∀ {vs : List Value} {ns : List Int}, IntsAre vs ns → aP (ns.map V.int) vs
 | [],_,h=>by cases h;exact .nil
 | _ :: _,_,h=>by cases h with | cons n t h=>exact .cons ⟨_,rfl⟩ (me h)
theorem rL : ∀ {vs : List Value} {ns : List Int}, vs.length = ns.length → (∀ (j : Nat) (v : Value), vs[j]? = some v → ∃ n t, ns[j]? = some n ∧ v = .int n t) → IntsAre vs ns
 | [],[],_,_=>.nil
 | [],_ :: _,h,_=>by simp at h
 | _ :: _,[],h,_=>by simp at h
 | v :: vs, n :: ns, hl, h => by
   obtain ⟨n',t,e1,e2⟩:=h 0 v rfl
   simp only [List.getElem?_cons_zero,Option.some.injEq] at e1
   subst e1 e2
   exact .cons _ _ (rL (by simpa using hl) fun j u hu => by
     obtain ⟨n2,t2,e3,e4⟩:=h (j + 1) u (by simpa using hu)
     exact ⟨n2,t2,by simpa using e3,e4⟩)
def yL : List V → Hp → VK → Prop := fun xs H Q => ∃ (a : Addr) (kvs : List (Key × V)) (ks : List Int), xs = [.ref a] ∧ Rd H a (.dK kvs) ∧ kvs.map (·.1) = ks.map Sum.inl ∧ ks.length < 64 ∧
 ∀ (ks':List Int) (p:Addr),ks'.Perm ks→ks'.Pairwise (· ≤ ·)→H p = none→Q (.ref p) (upd H p (.lst (ks'.map V.int)))
theorem tu {X : Cx} (hc : X.calm = true) : cJ X (.builtin "sorted") yL := by
 intro pins s σ H xs us Q I r h
 obtain ⟨a,kvs,ks,rfl,e,hk,h64,q⟩:=h
 obtain ⟨u,rfl,rx⟩:=vals1 r
 cases rx
 have hh:X.A.handled = none:=I.ok.hd hc
 obtain ⟨z,hd,vs,rel,dd⟩:=iE I.ay e
 obtain ⟨ep,hat⟩:=dd.dictAt
 have hlv:vs.length = ks.length:=by rw [← rel.length,← List.length_map (f:=(·.1)) (as:=kvs),hk,List.length_map]
 refine Calls.call_function_entry kind_sorted plain_sorted entry_sorted (args_sorted1 _) ?_
 unfold Builtin.«sorted»
 refine wpAny_bind (m:=checkCount "sorted" 1 1 _) (wpAny_pure ?_)
 refine wpAny_bind (PySem.W.kdu_collect (A:=X.A.in1) (PySem.W.kdl_dict (knd:=bK X.prog X.w) (kvs:=vs) (ep:=ep) hd) hh hat (by rw [hlv,sizeLine_eq];omega) fun h' tk acc hk' hacc=>?_)
 have hl:acc.toList.length = ks.length:=by rw [Array.length_toList,← hlv];exact hacc.1
 have hI : IntsAre acc.toList ks := rL hl fun j v hv => by
   obtain ⟨k,x,e1,e2⟩:=hacc.2 j v (by rw [← Array.getElem?_toList];exact hv)
   have e3 : (kvs.map (·.1))[j]? = some k := by
     have e4 : ∀ {kvs : List (Key × V)} {vs : List (Key × Value)}, KV kvs vs → kvs.map (·.1) = vs.map (·.1) := fun r => by
       unfold KV at r
       induction r with
       | nil=>rfl
       | cons r1 r2 ih=>rw [List.map_cons,List.map_cons,r1.1,ih]
     rw [e4 rel,List.getElem?_map,e1];rfl
   rw [hk,List.getElem?_map] at e3
   obtain ⟨n,e5,e6⟩:=Option.map_eq_some_iff.mp e3
   rcases bU e2 with ⟨i,t,e7,e8⟩ | ⟨x,t,e7,e8⟩
   · rw [e7] at e6
     cases e6
     exact ⟨_,t,e5,e8⟩
   · rw [e7] at e6;cases e6
 refine wpAny_bind (wpAny_newList ?_ (by rw [hl,sizeLine_eq];omega))
 have hoL:(h'.push (seqObj "list" acc.toList.toArray 0)).get? h'.objs.size = some (seqObj "list" acc.toList.toArray 0):=Heap.get?_push_size _ rfl
 show wpAny _ _ _ _ _ { s with heap:=h'.push (seqObj "list" acc.toList.toArray 0),toks:=tk }
 refine wpAny_bind (wpAny_holding (wpAny_call_entry slot_list_sort ⟨_,hoL,rfl⟩ entry_list_sort (list_sort_tree hoL hI (by omega) fun out ns' a1 a2 a3=>⟨_,rfl,?_⟩) (args_list_sort _)))
 have I1:Inv X pins σ H { s with heap:=h',toks:=tk }:=I.un (Un.kept hk') (I.ay.kept hk')
 obtain ⟨e9,he⟩:=sortedHeap_at (out:=out) hoL
 have hn:H h'.objs.size = none:=I1.ay.fresh (Nat.le_refl _)
 refine wpAny_pure ⟨_,rfl,.ref h'.objs.size,_,I1.laid (o:=.lst (ns'.map V.int)) (fun b o hb'=>?_) (Nat.le_refl _) ⟨?_,out.toList,e9,me a1,?_⟩,rfl,q ns' _ a2 a3 hn⟩
 · have hlt := Heap.lt_size hb'
   rw [sortedHeap_old (Nat.ne_of_lt hlt) (by rw [size_push'];exact Nat.lt_succ_of_lt hlt)]
   exact Heap.get?_push_of_some _ hb'
 · rw [List.length_map,a2.length_eq,sizeLine_eq];omega
 · exact he
theorem FZ {a : Addr} {kvs : List (Key × V)} {ks : List Int} {H : Hp} {Q : VK} (h : H a = some (.dK kvs)) (hk : kvs.map (·.1) = ks.map Sum.inl) (hl : ks.length < 64)
   (q:∀ (ks':List Int) (p:Addr),ks'.Perm ks→ks'.Pairwise (· ≤ ·)→H p = none→Q (.ref p) (upd H p (.lst (ks'.map V.int)))):yL [.ref a] H Q:=⟨a,kvs,ks,rfl,.inl h,hk,hl,q⟩
end L3
namespace L3
open PySem PySem.Spec PyProof.Rows L2 PySem.SeqAt
section
variable {P:Program} {w:World} {K:PySem.W.Frag} {mg:Str→Option Value} {base:Heap} {dv:Value}
end
section
variable {X:Cx} {CX:eW} {k:Nat} {C:Addr} {dV:V} {sp:Sp} {E:XK} {x m:Str} {p pos apos:Pos} {e o:Expr} {es:List Expr} {ta:TE} {t:TA}
end
section
variable {P:Program} {w:World} {K:PySem.W.Frag} {mg:Str→Option Value} {base:Heap} {x qual:Str} {st:Stmt} {N ps:List Str} {sp:Sp} {C:Addr}
end
theorem Gs {P : Program} {w : World} {X : Cx} : ei (e_ P w) X (fun _ _ _ => False) := fun _ _ _ _ _ _ _ h => by
 obtain ⟨ea,C,H',_,_,z⟩:=h
 exact z.elim
end L3
namespace FB
open PySem PySem.Spec PyProof.Rows L2 L3 PySem.SeqAt
inductive Rw where
 | set (b n:Int) | copy (b o:Int) | add (b o t:Int) | sub (b o t:Int) | mul (b o t:Int) | less (b o t:Int)
 | grow (m:Int) | shrink (m:Int) | put (b c:Int) | get (b c:Int)
 | gv (t:Int) | branch (b t:Int) | call (t:Int) | back (b:Int) | drop (b:Int)
def gn (b:Int):Prop:=0 ≤ b∧b ≤ 7
def isVal (n:Int):Prop:=0 ≤ n∧n ≤ 4294967295
def jm (n:Int):Prop:=0 ≤ n∧n ≤ 4000
def xP (n:Int):Prop:=0 ≤ n∧n ≤ 2000
def Rw.ok : Rw → Prop
 | .set b n=>gn b∧isVal n
 | .copy b o=>gn b∧gn o
 | .add b o t | .sub b o t | .mul b o t | .less b o t=>gn b∧gn o∧gn t
 | .grow m | .shrink m=>jm m
 | .put b c | .get b c=>gn b∧jm c
 | .gv t | .call t=>xP t
 | .branch b t=>gn b∧xP t
 | .back b | .drop b=>gn b
def gI (xs:List Int) (i:Int):Int:=xs.getD i.toNat 0
def sI (xs:List Int) (i v:Int):List Int:=xs.set i.toNat v
theorem yo (xs:List Int) (i v:Int):(sI xs i v).length = xs.length:=by unfold sI;exact List.length_set ..
theorem Lp {xs : List Int} {i : Int} (h0 : 0 ≤ i) (h1 : i < xs.length) : cD (xs.map V.int) i = some (.int (gI xs i)) := by
 have e:i = ((i.toNat:Nat):Int):=by omega
 have hl:i.toNat < xs.length:=by omega
 have z : cD (xs.map V.int) ((i.toNat : Nat) : Int) = some (.int (gI xs i)) := bL (by
   rw [List.getElem?_map,List.getElem?_eq_getElem hl]
   simp [gI,List.getD,List.getElem?_eq_getElem hl])
 rw [← e] at z;exact z
theorem Hh {K:PySem.W.Frag} {p:Addr} {xs:List Int} {H:Hp} {Q:VK} (h:az K H p (xs.map V.int)) (q:Q (.int xs.length) H):rD K [.ref p] H Q:=cx h (by rw [List.length_map];exact q)
theorem AW {K : PySem.W.Frag} {a b : Addr} {xs ys : List Int} {H : Hp} {Q : VK} (ha : H a = some (.lst (xs.map V.int))) (hb : H b = some (.lst (ys.map V.int))) (hz : xs.length + ys.length ≤ sizeLine) (q : ∀ p, H p = none → Q (.ref p) (upd H p (.lst ((xs ++ ys).map V.int)))) :
   px K (.ref a) (.ref b) H Q:=v7 ha hb (by rw [List.length_map,List.length_map];exact hz) (by rw [← List.map_append];exact q)
def oK (xs:List Int) (lo hi:Option Int):List Int:=(xs.drop (HT.bB xs.length 0 lo)).take (HT.bB xs.length xs.length hi - HT.bB xs.length 0 lo)
theorem BB (xs : List Int) (lo hi : Option Int) : kZ (xs.map V.int) lo hi = (oK xs lo hi).map V.int := by
 unfold kZ oK;rw [List.length_map,List.map_take,List.map_drop]
theorem Ls {K : PySem.W.Frag} {p : Addr} {xs : List Int} {lo hi : Option Int} {H : Hp} {Q : VK} (h : az K H p (xs.map V.int)) (q : ∀ l, H l = none → Q (.ref l) (upd H l (.lst ((oK xs lo hi).map V.int)))) : xU K (.ref p) lo hi H Q :=
 C9 h (by rw [BB];exact q)
def Rw.bq : Rw → Int → List Int
 | .gv t,_=>[t]
 | .branch _ t,a=>[a + 1,t]
 | .back _,_=>[]
 | .drop _,_=>[]
 | _,a=>[a + 1]
theorem tY (r:Rw) (n:Int):(r.bq n).length ≤ 2:=by cases r <;> simp [Rw.bq]
def Rw.bj : Rw → Int → Option Int
 | .grow m,h=>if h + m > 4000 then none else some (h + m)
 | .shrink m,h=>if h < m then none else some (h - m)
 | .put _ c,h=>if h ≤ c then none else some h
 | .get _ c,h=>if h ≤ c then none else some h
 | _,h=>some h
def jO (s p src:Nat):Nat:=if s &&& src = 0 then Bt.wo s p else s ||| p
def Rw.keep : Rw → Nat → Int → Nat
 | .set b _,s,_ | .add b _ _,s,_ | .sub b _ _,s,_ | .mul b _ _,s,_ | .less b _ _,s,_=>Bt.wo s (2 ^ b.toNat)
 | .copy b o,s,_=>jO s (2 ^ b.toNat) (2 ^ o.toNat)
 | .shrink m,s,h=>Bt.wo s ((2 ^ m.toNat - 1) * 2 ^ (8 + h - m).toNat)
 | .put b c,s,h=>jO s (2 ^ (8 + h - 1 - c).toNat) (2 ^ b.toNat)
 | .get b c,s,h=>jO s (2 ^ b.toNat) (2 ^ (8 + h - 1 - c).toNat)
 | .call _,s,_=>Bt.wo s 143
 | _,s,_=>s
def Rw.mV : Rw → Str × List Int
 | .set b n=>("set",[b,n])
 | .copy b o=>("copy",[b,o])
 | .add b o t=>("add",[b,o,t])
 | .sub b o t=>("sub",[b,o,t])
 | .mul b o t=>("mul",[b,o,t])
 | .less b o t=>("less",[b,o,t])
 | .grow m=>("grow",[m])
 | .shrink m=>("shrink",[m])
 | .put b c=>("put",[b,c])
 | .get b c=>("get",[b,c])
 | .gv t=>("jump",[t])
 | .branch b t=>("branch",[b,t])
 | .call t=>("call",[t])
 | .back b=>("back",[b])
 | .drop b=>("drop",[b])
def Rw.mM : Rw → List (Str × V)
 | .set b n=>aN "number" (.int n) (aN "box" (.int b) [])
 | .copy b o=>aN "one" (.int o) (aN "box" (.int b) [])
 | .add b o t | .sub b o t | .mul b o t | .less b o t=>aN "other" (.int t) (aN "one" (.int o) (aN "box" (.int b) []))
 | .grow m | .shrink m=>aN "many" (.int m) []
 | .put b c | .get b c=>aN "cell" (.int c) (aN "box" (.int b) [])
 | .gv t | .call t=>aN "target" (.int t) []
 | .branch b t=>aN "target" (.int t) (aN "box" (.int b) [])
 | .back b | .drop b=>aN "box" (.int b) []
structure cp where
 M5:Addr
 bf:Addr
 Hq:Addr
 Ld:Addr
 La:Addr
 LB:Addr
 II:Addr
 aY:Addr
 BE:Addr
 Lc:Addr
 LJ:Addr
 aZ:Addr
 aJ:Addr
 aD:Addr
 aK:Addr
 a8:Addr
 K0:Addr
 Lu:Addr
 dS:Addr
 nq:Addr
 bx:Addr
 MD:Addr
 bw:Addr
 LY:Addr
 Mb:Addr
 Mf:Addr
 KZ:Addr
 Mc:Addr
 Mp:Addr
 d7:Addr
 MS:Addr
 MP:Addr
 cQ:Addr
 di:Addr
 MR:Addr
 KY:Addr
def Rw.cls (a : cp) : Rw → Addr
 | .set ..=>a.bf
 | .copy ..=>a.Hq
 | .add ..=>a.Ld
 | .sub ..=>a.La
 | .mul ..=>a.LB
 | .less ..=>a.II
 | .grow ..=>a.aY
 | .shrink ..=>a.BE
 | .put ..=>a.Lc
 | .get ..=>a.LJ
 | .gv ..=>a.aZ
 | .branch ..=>a.aJ
 | .call ..=>a.aD
 | .back ..=>a.aK
 | .drop ..=>a.a8
def cK (a:cp) (H:Hp) (p:Addr) (r:Rw):Prop:=∃ dx,H p = some (.ins (r.cls a) dx r.mM)
theorem cK.same {a:cp} {H H':Hp} {p:Addr} {r:Rw} (h:cK a H p r) (s:ar H H'):cK a H' p r:=let ⟨dx,e⟩:=h;⟨dx,s _ _ e⟩
def ma:Sp:=fun vs H Q _=>∃ n top:Int,vs = [.int n,.int top]∧0 ≤ n∧n ≤ top∧Q (.int n) H
def tV (H:Hp) (x dx C:Addr) (fs:List (Str×V)) (Q:VK):Prop:=H x = some (.ins C dx [])∧∀ H',(∀ b o,H b = some o→b ≠ x→H' b = some o)→H' x = some (.ins C dx fs)→Q .aH H'
def fH (C:Addr) (mk:Int→Rw):Sp:=fun vs H Q _=>∃ (x dx:Addr) (i:Int),vs = [.ref x,.int i]∧(mk i).ok∧tV H x dx C (mk i).mM Q
def j8 (C:Addr) (mk:Int→Int→Rw):Sp:=fun vs H Q _=>∃ (x dx:Addr) (i j:Int),vs = [.ref x,.int i,.int j]∧(mk i j).ok∧tV H x dx C (mk i j).mM Q
theorem wA {C : Addr} {a : cp} {r : Rw} {H : Hp} {Q : VK} (hc : r.cls a = C) (q : ∀ p H', ar H H' → H p = none → cK a H' p r → Q (.ref p) H') {x dx : Addr} (hx : H x = none) (hdx : H dx = none) :
   tV (upd (upd H dx (.own x)) x (.ins C dx [])) x dx C r.mM (fun v H2=>v = .aH∧Q (.ref x) H2):=by
 refine ⟨ah,fun H' kp hH'=>⟨rfl,q x H' (fun b o e=>?_) hx ⟨dx,by rw [hc];exact hH'⟩⟩⟩
 exact kp b o (by rw [ao (av e hx),ao (av e hdx)];exact e) (av e hx)
theorem ka {C : Addr} {mk : Int → Rw} {a : cp} {i : Int} {H : Hp} {Q : VK} {E : XK} (hk : (mk i).ok) (hc : (mk i).cls a = C) (q : ∀ p H', ar H H' → H p = none → cK a H' p (mk i) → Q (.ref p) H') :
   ∀ x dx,H x = none→H dx = none→dx ≠ x→fH C mk (.ref x :: [.int i]) (upd (upd H dx (.own x)) x (.ins C dx [])) (fun v H2=>v = .aH∧Q (.ref x) H2) E:=fun x dx hx hdx _=>⟨x,dx,i,rfl,hk,wA hc q hx hdx⟩
theorem uI {C : Addr} {mk : Int → Int → Rw} {a : cp} {i j : Int} {H : Hp} {Q : VK} {E : XK} (hk : (mk i j).ok) (hc : (mk i j).cls a = C) (q : ∀ p H', ar H H' → H p = none → cK a H' p (mk i j) → Q (.ref p) H') :
   ∀ x dx,H x = none→H dx = none→dx ≠ x→j8 C mk (.ref x :: [.int i,.int j]) (upd (upd H dx (.own x)) x (.ins C dx [])) (fun v H2=>v = .aH∧Q (.ref x) H2) E:=fun x dx hx hdx _=>⟨x,dx,i,j,rfl,hk,wA hc q hx hdx⟩
theorem zW {H:Hp} {x:Addr} {o1 o2:HO}:∀ b o,H b = some o→b ≠ x→upd (upd H x o1) x o2 b = some o:=fun b o e ne=>by rw [ao ne,ao ne];exact e
theorem mB {H:Hp} {x:Addr} {o1:HO}:∀ b o,H b = some o→b ≠ x→upd H x o1 b = some o:=fun b o e ne=>by rw [ao ne];exact e
def dR (a:cp) (r:Rw):Sp:=fun vs H Q _=>∃ (x:Addr) (n:Int),vs = [.ref x,.int n]∧cK a H x r∧∀ p,H p = none→Q (.ref p) (upd H p (.lst ((r.bq n).map V.int)))
def bW : Option Int → V
 | none=>.aH
 | some i=>.int i
def cf (a:cp) (r:Rw):Sp:=fun vs H Q _=>∃ (x:Addr) (h:Int),vs = [.ref x,.int h]∧cK a H x r∧Q (bW (r.bj h)) H
def dM (a:cp) (r:Rw):Sp:=fun vs H Q _=>∃ (x:Addr),vs = [.ref x]∧cK a H x r∧∀ p,H p = none→Q (.ref p) (upd H p (.tup (.str r.mV.1 :: r.mV.2.map V.int)))
def cH (a:cp) (r:Rw):Sp:=fun vs H Q _=>∃ (x:Addr) (s:Nat) (h:Int),vs = [.ref x,.int (s:Int),.int h]∧cK a H x r∧r.ok∧0 ≤ h∧h ≤ 4000∧(r.bj h).isSome = true∧Q (.int (r.keep s h:Nat)) H
def qC:Sp:=fun vs H Q _=>∃ b:Int,vs = [.int b]∧0 ≤ b∧b ≤ 7∧Q (.int ((2 ^ b.toNat:Nat):Int)) H
def mF:Sp:=fun vs H Q _=>∃ s p:Nat,vs = [.int (s:Int),.int (p:Int)]∧Q (.int (Bt.wo s p:Nat)) H
theorem F8 {b:Int} {H:Hp} {Q:VK} {E:XK} (h0 : 0 ≤ b) (h1:b ≤ 7) (q:Q (.int ((2 ^ b.toNat:Nat):Int)) H):qC [.int b] H Q E:=⟨b,rfl,h0,h1,q⟩
theorem sr {s p:Nat} {H:Hp} {Q:VK} {E:XK} (q:Q (.int (Bt.wo s p:Nat)) H):mF [.int (s:Int),.int (p:Int)] H Q E:=⟨s,p,rfl,q⟩
theorem zQ {n top:Int} {H:Hp} {Q:VK} {E:XK} (h0 : 0 ≤ n) (h1:n ≤ top) (q:Q (.int n) H):ma [.int n,.int top] H Q E:=⟨n,top,rfl,h0,h1,q⟩
def cellAt (ns:List Int) (k:Int):Int:=ns.getD k.toNat 0
def oI (K:PySem.W.Frag):Sp:=fun vs H Q _=>∃ (p:Addr) (ns:List Int) (k:Int),vs = [.ref p,.int k]∧az K H p (ns.map V.int)∧0 ≤ k∧Q (.int (cellAt ns k)) H
theorem B5 {K:PySem.W.Frag} {p:Addr} {ns:List Int} {k:Int} {H:Hp} {Q:VK} {E:XK} (h:az K H p (ns.map V.int)) (h0 : 0 ≤ k) (q:Q (.int (cellAt ns k)) H):oI K [.ref p,.int k] H Q E:=⟨p,ns,k,rfl,h,h0,q⟩
theorem xk {ns : List Int} {k : Int} (h0 : 0 ≤ k) (h : ¬ k < ns.length) : cellAt ns k = 0 := by
 unfold cellAt
 rw [List.getD_eq_getElem?_getD,List.getElem?_eq_none (by omega)]
 rfl
def yg (K:PySem.W.Frag):Sp:=fun vs H Q _=>∃ (a:Addr) (ns:List Int),vs = [.ref a]∧az K H a (ns.map V.int)∧ns.length ≤ 63∧∀ H',Q (.bl true) H'
theorem FG {fs:List (Str×V)} {f g:Str} {v w:V} (h:f ≠ g) (e:fs.lookup f = some w):(aN g v fs).lookup f = some w:=by rw [gx,if_neg h];exact e
theorem uT {fs:List (Str×V)} {f:Str} {v:V}:(aN f v fs).lookup f = some v:=by rw [gx,if_pos rfl]
theorem Gn {fs:List (Str×V)} {f g:Str} {v:V} (h:f ≠ g) (e:fs.lookup f = none):(aN g v fs).lookup f = none:=by rw [gx,if_neg h];exact e
theorem ku {fs:List (Str×V)} {f:Str} {v:V} {n:Nat} (e:fs.length ≤ n):(aN f v fs).length ≤ n + 1:=Nat.le_trans (jW _ _ _) (Nat.succ_le_succ e)
end FB
namespace L3
open PySem PySem.Spec PyProof.Rows L2 PySem.SeqAt
section
variable {prog:Program} {w:World} {A:Around} {E:Value→Shared→Prop} {h:Heap} {g:Array GenState} {d:Drawn} {t:Nat} {os:OsState}
variable {nm q:Str} {C N:Addr} {bs bm bmB:List Value} {hdct:Bool} {sn:List Str} {sub:List Value} {ab:Bool} {col:Option Bool} {dd:Option Addr} {k0 k1 k2 k3 k5:Option Value} {B Bn newId nid initId inN:String} {bmN:List Value}
end
end L3
namespace L3
open PySem PySem.Spec PyProof.Rows L2 PySem.SeqAt
end L3
namespace L3
open PySem PySem.Spec PyProof.Rows L2 PySem.SeqAt PySem.W Builtin Builtin.ObjectAttr
section
variable {prog:Program} {w:World} {A:Around} {E:Value→Shared→Prop} {s:Shared} {K:PySem.W.Frag} {x C t:Addr} {name:Str} {v:Value}
end
end L3
namespace L3
open PySem PySem.Spec PyProof.Rows L2 PySem.SeqAt
section
variable {X:Cx} {pins:List (Addr×Obj)} {σ : L2.St} {H:Hp} {s:Shared} {a C:Addr} {f:Str} {A:Around} {E:Value→Shared→Prop}
end
end L3
namespace L3
open PySem PySem.Spec PyProof.Rows L2 PySem.SeqAt
section
variable {M:Model} {A:Around} {E:Value→Shared→Prop} {s:Shared}
end
end L3
namespace L3
open PySem PySem.Spec PyProof.Rows L2 PySem.SeqAt
section
variable {M:Model} {A:Around} {E:Value→Shared→Prop} {env:Env}
variable {nm q:Str} {C N:Addr} {bs bm:List Value} {hdct:Bool} {sn:List Str} {sub:List Value} {ab:Bool} {col:Option Bool} {dd:Option Addr} {k0 k1 k2 k3 k5:Option Value} {newId:String}
end
section
variable {prog:Program} {w:World} {A:Around} {E:Value→Shared→Prop} {s:Shared} {env:Env}
variable {nm q:Str} {C N:Addr} {bs bm bmB:List Value} {hdct:Bool} {sn:List Str} {sub:List Value} {ab:Bool} {col:Option Bool} {dd:Option Addr} {k0 k1 k2 k3 k5:Option Value} {B Bn newId nid initId inN:String} {bmN:List Value}
end
end L3
namespace L3
open PySem PySem.Spec PyProof.Rows L2 PySem.SeqAt
section
variable {P:Program} {w:World} {K:PySem.W.Frag} {mg:Str→Option Value} {base:Heap} {x qual:Str} {st:Stmt} {N ps:List Str} {sp:Sp} {C:Addr} {k:Nat}
end
section
variable {X:Cx} {pins:List (Addr×Obj)} {σ : L2.St} {H:Hp} {s:Shared} {k:Nat} {g x n:Str} {sp:Sp} {e:Expr} {es:List Expr} {t:TA} {tx:TEX} {ta:TAX} {te:TE} {gp cpos pos py:Pos}
end
end L3
namespace L3
open PySem PySem.Spec PyProof.Rows L2 PySem.SeqAt PySem.W Builtin Builtin.ObjectAttr
section
variable {prog:Program} {w:World} {A:Around} {E:Value→Shared→Prop} {s:Shared} {K:PySem.W.Frag} {x C dx:Addr} {ox od:Obj} {name:Str} {v:Value}
end
section
variable {X:Cx} {pins:List (Addr×Obj)} {σ : L2.St} {C fI:Addr}
end
end L3
namespace L3
open PySem PySem.Spec PyProof.Rows L2 PySem.SeqAt
def Et (x:Str) (tv:TE):TE:=fun σ H Q=>tv σ H fun u H1=>∃ i,u = .int i∧i.natAbs.log2 < 1900∧Q (.str (Str.empty ++ x ++ Str.ofString (toString i))) H1
theorem rq {X : Cx} {v : Expr} {tv : TE} {x : Str} {j1 : Nat} {p0 p1 p2 : Pos} (hv : PE X v tv) (hx : (Str.empty ++ x).length ≤ 1000 := by decide +kernel) : PE X (.JoinedStr [.Constant (.str x) j1 p1, .FormattedValue v (-1) none p2] p0) (Et x tv) := by
 intro pins s σ H Q I h
 refine JoinedStr_many (joinParts_cons (a9 (cm (X:=X) pins s σ H (fun u H'=>u = .str x∧H' = H) I ⟨rfl,rfl⟩) fun u1 s1 ⟨v1,H1,I1,r1,e1,e2⟩=>?_))
 subst e1 e2
 obtain ⟨t1,rfl⟩:=r1
 refine ⟨by rw [sizeLine_eq];omega,joinParts_cons (FormattedValue_plain (a9 (hv pins s1 σ H1 _ I1 h) fun u2 s2 ⟨v2,H2,I2,r2,i,e,hd,q⟩=>?_))⟩
 subst e
 obtain ⟨t2,rfl⟩:=r2
 have hl:=int_text_len_1921 (i:=i) (by omega)
 have hz : (Str.empty ++ x ++ Str.ofString (toString i)).length ≤ sizeLine := by
   rw [sizeLine_eq]
   have : (Str.empty ++ x ++ Str.ofString (toString i)).length = (Str.empty ++ x).length + (Str.ofString (toString i)).length := by
     show Array.size _ = Array.size _ + Array.size _
     exact Array.size_append
   omega
 refine formatField_int_small (by omega) ?_
 exact ⟨hz,joinParts_nil ⟨.str _,_,(I2.tok _).tok _,⟨_,rfl⟩,q⟩ hz⟩
theorem oX {x:Str} {tv:TE} {σ : L2.St} {H:Hp} {Q:VK} (h:tv σ H fun u H1=>∃ i,u = .int i∧i.natAbs.log2 < 1900∧Q (.str (Str.empty ++ x ++ Str.ofString (toString i))) H1):Et x tv σ H Q:=h
end L3
namespace L3
open PySem PySem.Spec PyProof.Rows L2 PySem.SeqAt
end L3
namespace L3
open PySem PySem.Spec PyProof.Rows L2 PySem.SeqAt
section
variable {prog:Program} {w:World} {A:Around} {E:Value→Shared→Prop} {s:Shared}
end
end L3
namespace L3
open PySem PySem.Spec PyProof.Rows L2 PySem.SeqAt
section
variable {M:Model} {A:Around} {E:Value→Shared→Prop}
variable {nm q:Str} {D N:Addr} {bs bm:List Value} {hdct:Bool} {sn:List Str} {sub:List Value} {ab:Bool} {col:Option Bool} {dd:Option Addr} {k0 k1 k2 k3 k5:Option Value} {newId:String}
end
section
variable {X:Cx} {pins:List (Addr×Obj)} {σ : St} {H H1 H':Hp} {s s1 s':Shared} {ea C:Addr}
end
end L3
namespace L3
open PySem PySem.Spec PyProof.Rows L2
section
variable {prog:Program} {w:World} {A:Around} {E:Value→Shared→Prop} {s:Shared}
end
end L3
namespace L3
open PySem PySem.Spec PyProof.Rows L2
theorem GD {r r':R2} {ta tb tc:TE} {σ : L2.St} {H:Hp} {Q:VK} (h:ta σ H fun x H1=>tb σ H1 fun y H2=>r x y H2 fun z H3=>∃ k,z = .bl k∧(if k then tc σ H3 fun u H4=>r' y u H4 Q else Q (.bl false) H3)):tM r r' ta tb tc σ H Q:=h
end L3
namespace L3
open PySem PySem.Spec PyProof.Rows L2 PySem.SeqAt
section
variable {X:Cx} {k:Nat} {x m:Str} {e o:Expr} {es:List Expr} {ta:TE} {t:TA} {apos cpos pos py:Pos}
end
end L3
namespace L3
open PySem PySem.Spec PyProof.Rows L2 PySem.SeqAt
section
variable {X:Cx} {pins:List (Addr×Obj)} {σ : L2.St} {C fI:Addr}
end
end L3
namespace L3
open PySem PySem.Spec PyProof.Rows L2 PySem.SeqAt
section
variable {prog:Program} {w:World} {A:Around} {E:Value→Shared→Prop} {s:Shared}
end
section
variable {M:Model} {A:Around} {E:Value→Shared→Prop} {s:Shared}
end
end L3
namespace L3
open PySem PySem.Spec PyProof.Rows L2 PySem.SeqAt
section
variable {X:Cx} {pins:List (Addr×Obj)} {σ : L2.St} {H:Hp} {s:Shared}
theorem ui {d : Addr} {o o' : HO} (I : Inv X pins σ H s) (hd : H d = some o) (n1 : ∀ y, o ≠ .own y) (n2 : ∀ xs, o ≠ .tup xs) (n3 : ∀ ps, o ≠ .pO ps) (n4 : ∀ u v, X.H₀ d = some (.dj u v) → o' = .dj u v)
   (ok:bQ X.prog X.w (upd H d o') s.heap d o'):Inv X pins σ (upd H d o') s:=by
 have nd:∀ {b:Addr},H b = none→b ≠ d:=fun {b} e z=>by rw [z,hd] at e;cases e
 refine ⟨I.ok,I.os,I.bare,⟨I.base.keep,I.base.slot,fun b ob q n hx=>?_,I.base.there,fun b xs e=>?_,fun b u v e=>?_,fun b ps e=>?_⟩,I.loc,I.cell,?_,fun x c e=>?_,fun p hp=>?_,fun b u e=>?_,I.len⟩
 · have z := I.base.free b ob q n hx
   rw [ao (nd z)];exact z
 · have z := I.base.iR b xs e
   rw [ao (fun y=>by rw [y,hd] at z;exact n2 xs (Option.some.inj z))];exact z
 · by_cases hb : b = d
   · subst hb;rw [ah,n4 u v e]
   · rw [ao hb];exact I.base.gZ b u v e
 · obtain ⟨more, z⟩ := I.base.iS b ps e
   exact ⟨more,by rw [ao (fun y=>by rw [y,hd] at z;exact n3 _ (Option.some.inj z))];exact z⟩
 · rw [ao (nd I.free)];exact I.free
 · rw [ao (nd (I.fC x c e))];exact I.fC x c e
 · obtain ⟨h1, h2, h3⟩ := I.pin p hp
   exact ⟨h1,by rw [ao (nd h2)];exact h2,h3⟩
 · by_cases hb : b = d
   · subst hb
     rw [ah] at e
     cases e
     exact ok
   · rw [ao hb] at e
     refine (I.ay b u e).iA (fun _ _ _ q=>q) (fun c q=>?_) fun c xs q=>?_
     · rw [ao (fun y=>by rw [y,hd] at q;exact n1 _ (Option.some.inj q))];exact q
     · rw [ao (fun y=>by rw [y,hd] at q;exact n2 _ (Option.some.inj q))];exact q
def ya (P:Program) (w:World) (ob:Obj) (vs:List (Key×Value)) (ep:Nat):Prop:=∃ es,ob.ExactDict∧ob.data = .dict es ep∧KeysOf (bK P w) es∧Pairs (bK P w) es.toList vs∧(vs.map (·.1)).Nodup
theorem ya.at {P:Program} {w:World} {ob:Obj} {vs:List (Key×Value)} {ep:Nat} {h:Heap} {d:Addr} (x:ya P w ob vs ep) (e:h.get? d = some ob):h.DictAt (bK P w) d vs ep:=let ⟨es,r⟩:=x;⟨ob,es,e,r⟩
theorem xr {d : Addr} {kvs : List (Key × V)} (I : Inv X pins σ H s) (hd : H d = some (.dK kvs)) : ∃ ob vs ep, s.heap.get? d = some ob ∧ (d == sysModules) = false ∧ KV kvs vs ∧ ya X.prog X.w ob vs ep ∧ Inv X pins σ (upd H d (.dj ob (.dK kvs))) s := by
 obtain ⟨z,y,vs,r,ob,es,ep,e,c⟩:=id (I.ay d _ hd)
 refine ⟨ob,vs,ep,e,y,r,⟨es,c⟩,ui I hd (fun _ q=>by cases q) (fun _ q=>by cases q) (fun _ q=>by cases q) (fun u v q=>?_) ⟨e,z,y,vs,r,ob,es,ep,e,c⟩⟩
 have:=I.base.gZ d u v q
 rw [hd] at this;cases this
theorem kT {d : Addr} {ob : Obj} {kvs : List (Key × V)} (I : Inv X pins σ H s) (hd : H d = some (.dj ob (.dK kvs))) (h0 : ∀ u v, X.H₀ d ≠ some (.dj u v)) : Inv X pins σ (upd H d (.dK kvs)) s := by
 obtain ⟨_,z,y,vs,r,q⟩:=id (I.ay d _ hd)
 exact ui I hd (fun _ q=>by cases q) (fun _ q=>by cases q) (fun _ q=>by cases q) (fun u v q=>absurd q (h0 u v)) ⟨z,y,vs,r,q⟩
end
theorem KV.at {κ : Type} : ∀ {kvs : List (κ × V)} {vs : List (κ × Value)} {i : Nat} {k : κ} {v : V}, KV kvs vs → kvs[i]? = some (k, v) → ∃ u, vs[i]? = some (k, u) ∧ RelV v u
 | _,_,_,_,_,.nil,e=>by simp at e
 | _, _, 0, _, _, .cons (b := q) h r, e => by
   obtain ⟨k',u⟩:=q
   cases e
   obtain ⟨h1,h2⟩:=h
   cases h1
   exact ⟨u,rfl,h2⟩
 | _, _, i + 1, _, _, .cons h r, e => by
   obtain ⟨u,h1,h2⟩:=KV.at (i:=i) r (by simpa using e)
   exact ⟨u,by simpa using h1,h2⟩
theorem KV.len {κ : Type} {kvs:List (κ×V)} {vs:List (κ×Value)} (h:KV kvs vs):kvs.length = vs.length:=Paired.length h
theorem FP {P : Program} {w : World} {k : Key} {key : Value} (h : (bK P w).is k key = true) : RelV (kV k) key := by
 rcases bU h with ⟨i,t,rfl,rfl⟩ | ⟨x,t,rfl,rfl⟩
 · exact ⟨t,rfl⟩
 · exact ⟨t,rfl⟩
def E_ (d : Addr) (ob : Obj) (kvs : List (Key × V)) : It :=
 ⟨fun i H=>H d = some (.dj ob (.dK kvs))∧∃ k v,kvs[i]? = some (k,v),fun i H x H'=>H' = H∧∃ k v,kvs[i]? = some (k,v)∧x = kV k,fun i H=>H d = some (.dj ob (.dK kvs))∧kvs.length ≤ i⟩
theorem AJ {P : Program} {w : World} {K : PySem.W.Frag} {tg : Expr} {d it : Addr} {ob : Obj} {kvs : List (Key × V)} {vs : List (Key × Value)} {ep : Nat} (hD : ya P w ob vs ep) (hkv : KV kvs vs) :
   Turn P w K tg (E_ d ob kvs) [it] it (fun i h=>h.IsKeyIter it d i vs.length ep) where
 mem:=by simp
 obj := fun i h st b hb => by
   have e:b = it:=by simpa using hb
   subst e
   obtain ⟨o,e,c,dd⟩:=st
   exact ⟨o,e,fun v z=>by rw [dd] at z;cases z⟩
 keep:=fun i h h' st k=>st.at fun o e=>k it (by simp) o e
 item := by
   intro X hP hw hK hc i pins s σ H E I hf st hg
   subst hP hw hK
   obtain ⟨hd,k,v,hx⟩:=hg
   obtain ⟨e,_⟩:=id (I.ay d _ hd)
   obtain ⟨u,hu,ru⟩:=KV.at hkv hx
   obtain ⟨f0,f1,f2,f3,f4,f5⟩:=hf it (by simp)
   refine wpAny_pyNext_dict_item st (hD.at e) hu fun key h' hkey st' sb=>?_
   have I1:Inv X pins σ H { s with heap:=h' }:=I.turned (t':=s.toks) (fun b o hb e=>(sb.2 b hb).trans e) f0 f1 f3 f4 f5
   exact ⟨key,rfl,letGo_keyiter (s':={ s with heap:=h' }) st' ⟨kV k,H,I1,FP hkey,⟨rfl,k,v,hx,rfl⟩,st',fun b hb=>(hf b hb).1⟩⟩
 done := by
   intro X hP hw hK hc i pins s σ H E I hf st hg
   subst hP hw hK
   obtain ⟨hd,hl⟩:=hg
   obtain ⟨e,_⟩:=id (I.ay d _ hd)
   obtain ⟨f0,f1,f2,f3,f4,f5⟩:=hf it (by simp)
   have hlen:=KV.len hkv
   exact wpAny_pyNext_dict_end (I.ok.hd hc) st (hD.at e) (by simp;omega) fun h' eb=>⟨rfl,I.turned (t':=s.toks) (fun b o hb e=>eb b o hb e) f0 f1 f3 f4 f5⟩
 self:=fun _ _ _ _ _ st h=>wpAny_pyIter_keyiter st h
def xb (td:TE):TI:=fun σ H R=>td σ H fun x H1=>∃ d kvs,x = .ref d∧H1 d = some (.dK kvs)∧∀ ob,R (E_ d ob kvs) (upd H1 d (.dj ob (.dK kvs)))
theorem FV {X : Cx} {tg e : Expr} {td : TE} (he : PE X e td) : PI X tg e (xb td) := by
 intro pins s σ H R I h
 refine a9 (he pins s σ H _ I h) fun v s1 ⟨x,H1,I1,r1,q1⟩=>?_
 obtain ⟨d,kvs,rfl,hd,q⟩:=q1
 cases r1
 obtain ⟨ob,vs,ep,eo,hsm,hkv,hD,I2⟩:=xr I1 hd
 refine wpAny_pyIter_dict hsm (hD.at eo) ?_
 refine ⟨s1.heap.objs.size,[s1.heap.objs.size],_,_,_,rfl,I2.kept (t':=s1.toks) fun b o e=>Heap.get?_push_of_some _ e,AJ hD hkv,⟨_,Heap.get?_push_size _ rfl,rfl,rfl⟩,fun b hb=>?_,q ob⟩
 have e:b = s1.heap.objs.size:=by simpa using hb
 subst e
 exact I2.kH (Nat.le_refl _) (I2.ay.fresh (Nat.le_refl _))
end L3
namespace L3
open PySem PySem.Spec PyProof.Rows L2 PySem.SeqAt
def Th (H0:Hp) (q:Hp→Prop) (H':Hp):Prop:=q H'∨∃ d ob kvs,H' d = some (.dj ob (.dK kvs))∧(∀ u v,H0 d ≠ some (.dj u v))∧q (upd H' d (.dK kvs))
def yd (H0:Hp) (t:TS):TS:=fun D σ H=>t { nx:=fun σ' H'=>Th H0 (D.nx σ') H',rt:=fun v H'=>Th H0 (D.rt v) H',bk:=fun σ' H'=>Th H0 (D.bk σ') H',ct:=fun σ' H'=>Th H0 (D.ct σ') H' } σ H
theorem FT {X : Cx} {st : Stmt} {t : TS} (h : PS X st t) : PS X st (yd X.H₀ t) := by
 intro pins s σ H D I hh
 refine wpAny_mono (h pins s σ H _ I hh) (fun f s1 q=>?_) fun _ _ z=>z
 cases f with
 | next =>
   obtain ⟨σ',H',I',q⟩:=q
   rcases q with q | ⟨d,ob,kvs,e,h0,q⟩
   · exact ⟨σ',H',I',q⟩
   · exact ⟨σ',_,kT I' e h0,q⟩
 | brk =>
   obtain ⟨σ',H',I',q⟩:=q
   rcases q with q | ⟨d,ob,kvs,e,h0,q⟩
   · exact ⟨σ',H',I',q⟩
   · exact ⟨σ',_,kT I' e h0,q⟩
 | cont =>
   obtain ⟨σ',H',I',q⟩:=q
   rcases q with q | ⟨d,ob,kvs,e,h0,q⟩
   · exact ⟨σ',H',I',q⟩
   · exact ⟨σ',_,kT I' e h0,q⟩
 | ret u =>
   obtain ⟨v,σ',H',I',r,q⟩:=q
   rcases q with q | ⟨d,ob,kvs,e,h0,q⟩
   · exact ⟨v,σ',H',I',r,q⟩
   · exact ⟨v,σ',_,kT I' e h0,r,q⟩
theorem Ia {H0:Hp} {t:TS} {D:Ends} {σ : L2.St} {H:Hp} (h:t { nx:=fun σ' H'=>Th H0 (D.nx σ') H',rt:=fun v H'=>Th H0 (D.rt v) H',bk:=fun σ' H'=>Th H0 (D.bk σ') H',ct:=fun σ' H'=>Th H0 (D.ct σ') H' } σ H):yd H0 t D σ H:=h
theorem Ji {td:TE} {σ : L2.St} {H:Hp} {R:It→Hp→Prop} (q:td σ H fun x H1=>∃ d kvs,x = .ref d∧H1 d = some (.dK kvs)∧∀ ob,R (E_ d ob kvs) (upd H1 d (.dj ob (.dK kvs)))):xb td σ H R:=q
theorem AV {d : Addr} {ob : Obj} {kvs : List (Key × V)} {g : TG} {tb : TS} {D : Ends} {σ : L2.St} {H : Hp} (Pv : Nat → L2.St → Hp → Prop) (h0 : Pv 0 σ H) (hl : ∀ i σ H, i ≤ kvs.length → Pv i σ H → H d = some (.dj ob (.dK kvs)))
   (hs:∀ i k v σ H,kvs[i]? = some (k,v)→Pv i σ H→g (kV k) σ H fun σ2 H2=>tb { D with nx:=Pv (i + 1),ct:=Pv (i + 1),bk:=D.nx } σ2 H2) (hd:∀ σ H,Pv kvs.length σ H→D.nx σ H):x6 (E_ d ob kvs) g tb D σ H:=by
 refine ⟨fun i m σ H=>m = kvs.length - i∧i ≤ kvs.length∧Pv i σ H,⟨kvs.length,by simp,Nat.zero_le _,h0⟩,?_⟩
 rintro i m σ H ⟨rfl,hi,p⟩
 have q1:=hl i σ H hi p
 by_cases hlt:i < kvs.length
 · refine .inr ⟨⟨q1, kvs[i].1, kvs[i].2, by simp [hlt]⟩, Pv (i + 1), fun σ' H' p' => ⟨kvs.length - (i + 1), by omega, rfl, hlt, p'⟩, fun x H' y => ?_⟩
   obtain ⟨rfl,k,v,hk,rfl⟩:=y
   exact hs i k v σ H' hk p
 · have e : i = kvs.length := by omega
   subst e
   exact .inl ⟨⟨q1,Nat.le_refl _⟩,hd σ H p⟩
end L3
namespace L3
open PySem PySem.Spec PyProof.Rows L2 PySem.SeqAt
end L3
namespace L3
open PySem PySem.Spec PyProof.Rows L2 PySem.SeqAt
def xn (K:PySem.W.Frag):List V→Hp→VK→Prop:=fun xs H Q=>∃ (p:Addr) (ns:List Int),xs = [.ref p]∧az K H p (ns.map V.int)∧Q (.bl (ns.all fun n=>n != 0)) H
theorem xh (ns : List Int) : (List.range ns.length).all (fun i => ns.getD i 0 != 0) = ns.all fun n => n != 0 := by
 induction ns with
 | nil=>rfl
 | cons b r ih =>
   rw [List.length_cons,List.range_succ_eq_map,List.all_cons,List.all_cons,List.all_map,← ih]
   rfl
theorem y6 {X : Cx} (hc : X.calm = true) : cJ X (.builtin "all") (xn X.K) := by
 intro pins s σ H xs us Q I r h
 obtain ⟨p,bs,rfl,hq,q⟩:=h
 obtain ⟨u,rfl,rx⟩:=vals1 r
 cases rx
 obtain ⟨its,rv,pl,hz⟩:=I.list hq
 have hlen:=rv.length
 rw [List.length_map] at hlen
 have hlt:p < s.heap.objs.size:=by obtain ⟨o,e,_⟩:=pl.isList;exact Heap.lt_size e
 refine call_all_walk (wpAny_pyIter_list pl.isList ?_)
 refine ⟨s.heap.objs.size,_,_,_,_,_,fun i=>bs.getD i 0 != 0,rfl,Walks.list (by exact I.ok.hd hc) s.heap.objs.size p (Nat.ne_of_lt hlt) its.toArray,⟨⟨_,Heap.get?_push_size _ rfl,rfl,rfl⟩,pl.isList.push _⟩,?_,?_⟩
 · intro i v s' Q' E' hP hQ'
   have hP':its[i]? = some v:=by simpa using hP
   have hi:i < its.length:=(List.getElem?_eq_some_iff.mp hP').1
   have hb : (bs.map V.int)[i]? = some (V.int (bs.getD i 0)) := by
     rw [List.getElem?_map,List.getElem?_eq_getElem (by omega)]
     simp [List.getD,List.getElem?_eq_getElem (show i < bs.length by omega)]
   obtain ⟨u',hu',ru'⟩:=rv.get hb
   rw [hP'] at hu'
   cases hu'
   obtain ⟨t,rfl⟩:=(show ∃ t,v = Value.int _ t from ru')
   exact PySem.P.truthy_int hQ'
 · intro h' tk kk
   have e : (List.range its.toArray.size).all (fun i => bs.getD i 0 != 0) = bs.all fun n => n != 0 := by
     rw [List.size_toArray,← hlen];exact xh bs
   rw [e]
   refine ⟨.bl _,H,?_,rfl,q⟩
   have I1:Inv X pins σ H { s with heap:=s.heap.push { cls:=.type "list_iterator",data:=.fields #[.ref p,.int 0 0] } }:=I.kept (t':=s.toks) fun b o e=>Heap.get?_push_of_some _ e
   have f:=I.kH (H':=H) (Nat.le_refl _) I.fresh
   exact I1.turned (it:=s.heap.objs.size) (h':=h') (t':=tk) (fun b o hb e=>kk b o (by simpa using hb) e) f.1 f.2.1 f.2.2.2.1 f.2.2.2.2.1 f.2.2.2.2.2
theorem xT {X:Cx} {K:PySem.W.Frag} (h:X.K = K) (hc:X.calm = true):cJ X (.builtin "all") (xn K):=by subst h;exact y6 hc
theorem Kr {K:PySem.W.Frag} {p:Addr} {ns:List Int} {H:Hp} {Q:VK} (h:az K H p (ns.map V.int)) (q:Q (.bl (ns.all fun n=>n != 0)) H):xn K [.ref p] H Q:=⟨p,ns,rfl,h,q⟩
end L3
namespace L3
open PySem PySem.Spec PyProof.Rows L2 PySem.SeqAt
def BA (K:PySem.W.Frag):List V→Hp→VK→Prop:=fun xs H Q=>∃ (p:Addr) (bs:List Bool),xs = [.ref p]∧az K H p (bs.map V.bl)∧Q (.bl (bs.any id)) H
theorem any_range (bs : List Bool) : (List.range bs.length).any (fun i => bs.getD i false) = bs.any id := by
 induction bs with
 | nil=>rfl
 | cons b r ih =>
   rw [List.length_cons,List.range_succ_eq_map,List.any_cons,List.any_cons,List.any_map,← ih]
   rfl
theorem yK {X : Cx} (hc : X.calm = true) : cJ X (.builtin "any") (BA X.K) := by
 intro pins s σ H xs us Q I r h
 obtain ⟨p,bs,rfl,hq,q⟩:=h
 obtain ⟨u,rfl,rx⟩:=vals1 r
 cases rx
 obtain ⟨its,rv,pl,hz⟩:=I.list hq
 have hlen:=rv.length
 rw [List.length_map] at hlen
 have hlt:p < s.heap.objs.size:=by obtain ⟨o,e,_⟩:=pl.isList;exact Heap.lt_size e
 refine call_any_walk (wpAny_pyIter_list pl.isList ?_)
 refine ⟨s.heap.objs.size,_,_,_,_,_,fun i=>bs.getD i false,rfl,Walks.list (by exact I.ok.hd hc) s.heap.objs.size p (Nat.ne_of_lt hlt) its.toArray,⟨⟨_,Heap.get?_push_size _ rfl,rfl,rfl⟩,pl.isList.push _⟩,?_,?_⟩
 · intro i v s' Q' E' hP hQ'
   have hP':its[i]? = some v:=by simpa using hP
   have hi:i < its.length:=(List.getElem?_eq_some_iff.mp hP').1
   have hb : (bs.map V.bl)[i]? = some (V.bl (bs.getD i false)) := by
     rw [List.getElem?_map,List.getElem?_eq_getElem (by omega)]
     simp [List.getD,List.getElem?_eq_getElem (show i < bs.length by omega)]
   obtain ⟨u',hu',ru'⟩:=rv.get hb
   rw [hP'] at hu'
   cases hu'
   cases (show v = Value.bool _ from ru')
   exact wpAny_truthy_bool hQ'
 · intro h' tk kk
   have e : (List.range its.toArray.size).any (fun i => bs.getD i false) = bs.any id := by
     rw [List.size_toArray,← hlen];exact any_range bs
   rw [e]
   refine ⟨.bl _,H,?_,rfl,q⟩
   have I1:Inv X pins σ H { s with heap:=s.heap.push { cls:=.type "list_iterator",data:=.fields #[.ref p,.int 0 0] } }:=I.kept (t':=s.toks) fun b o e=>Heap.get?_push_of_some _ e
   have f:=I.kH (H':=H) (Nat.le_refl _) I.fresh
   exact I1.turned (it:=s.heap.objs.size) (h':=h') (t':=tk) (fun b o hb e=>kk b o (by simpa using hb) e) f.1 f.2.1 f.2.2.2.1 f.2.2.2.2.1 f.2.2.2.2.2
theorem zw {X:Cx} {K:PySem.W.Frag} (h:X.K = K) (hc:X.calm = true):cJ X (.builtin "any") (BA K):=by subst h;exact yK hc
theorem Io {K:PySem.W.Frag} {p:Addr} {bs:List Bool} {H:Hp} {Q:VK} (h:az K H p (bs.map V.bl)) (q:Q (.bl (bs.any id)) H):BA K [.ref p] H Q:=⟨p,bs,rfl,h,q⟩
end L3
namespace L3
open PySem PySem.Spec PyProof.Rows L2 PySem.SeqAt
end L3
namespace L3
open PySem PySem.Spec PyProof.Rows L2 PySem.SeqAt
section
variable {X:Cx} {C:Addr}
end
end L3
namespace L3
open PySem PySem.Spec PyProof.Rows L2 PySem.SeqAt
end L3
namespace L3
open PySem PySem.Spec PyProof.Rows L2 PySem.SeqAt
end L3
namespace L3
open PySem PySem.Spec PyProof.Rows L2 PySem.SeqAt
end L3
namespace L3
open PySem PySem.Spec PyProof.Rows L2 PySem.SeqAt PySem.Builtin PySem.Builtin.Str
end L3
namespace L3
open PySem PySem.Spec PyProof.Rows L2 PySem.SeqAt PySem.Builtin PySem.Builtin.Str PySem.StrLaws
end L3
namespace L3
open PySem PySem.Spec PyProof.Rows L2 PySem.SeqAt
end L3
namespace L3
open PySem PySem.Spec PyProof.Rows L2 PySem.SeqAt PySem.NumText
section
variable {g:TG} {tc:TT} {te:TE} {fin:List V→Hp→Prop} {H:Hp}
end
end L3
namespace HT
open PySem PyProof.Rows
section
variable {prog:Program} {w:World} {A:Around} {E:Value→Shared→Prop} {s:Shared}
end
end HT
namespace L3
open PySem PySem.Spec PyProof.Rows L2 PySem.SeqAt
end L3
namespace L3
open PySem PySem.Spec PyProof.Rows L2 PySem.SeqAt
structure C4 (P : Program) (w : World) (K : PySem.W.Frag) (mg : Str → Option Value) (base : Heap) (CX : eW) (k : Nat) (x : Str) (sp : Sp) : Prop where
 ex:∃ (f:Addr) (fd:FuncData) (ps:List Str),ez P w K mg base CX k f fd ps sp∧mg x = some (.ref f)∧PySem.W.keepIn K (.ref f) = true∧Binds K fd ps [.none]
def AB (sp:Sp) (E:XK) (t:TA):TE:=fun σ H Q=>t σ H fun vs H1=>sp (vs ++ [.aH]) H1 Q E
section
variable {X:Cx} {CX:eW} {k:Nat} {sp:Sp} {E:XK} {x:Str} {p pos:Pos} {e:Expr} {es:List Expr} {t:TA}
theorem AY (G : C4 X.prog X.w X.K X.mg X.base CX k x sp) (hr : bS k X.A) (hx : ei CX X E) (hg : Gl X x) (ha : PA X (e :: es) t) (hdb : (x == ("__debug__" : Str)) = false := by decide)
   (he:starEach (e :: es) X.env = (false,eval e X.env) :: starEach es X.env:=by rfl) (hpl:(backTo pos (starEach es X.env)).any (·.1) = false:=by rfl):PE X (.Call (.Name x p) (e :: es) [] pos) (AB sp E t):=by
 obtain ⟨f,fd,ps,F,hm,hk,hb⟩:=G.ex
 exact v_ (p:=p) (pos:=pos) F hr hg hm hk hb (.cons (show RelV .aH _ from rfl) .nil) hx ha hdb he hpl
theorem FR {σ : L2.St} {H:Hp} {Q:VK} (q:t σ H fun vs H1=>sp (vs ++ [.aH]) H1 Q E):AB sp E t σ H Q:=q
end
section
variable {P:Program} {w:World} {K:PySem.W.Frag} {mg:Str→Option Value} {base:Heap} {x qual:Str} {st:Stmt} {N ps:List Str} {sp:Sp}
theorem gA.Dw {f : Addr} {fd : FuncData} {k : Nat} (F : gA K x qual st f fd) (S : aA N ps (ae st)) (len : ∀ vs H Q E, sp vs H Q E → vs.length = ps.length) (hbody : sW P w K mg base k qual st N sp) : ez P w K mg base (e_ P w) (k + 1) f fd ps sp := by
 obtain ⟨oc,od,da,kV,doc,pm,an,cdv,ct,osl,o,n,rfl,lk,hcd,_,_⟩:=F.ex
 exact tf lk hcd S len fun A outer s H vs Q E hr hsp=>hbody f cdv A outer s H vs Q E hr hsp
theorem Gp (k : Nat) (h : ∃ f fd, gA K x qual st f fd ∧ mg x = some (.ref f) ∧ Binds K fd ps [] ∧ Binds K fd ps [.none]) (S : aA N ps (ae st)) (len : ∀ vs H Q E, sp vs H Q E → vs.length = ps.length)
   (hbody:sW P w K mg base k qual st N sp):cV P w K mg base (e_ P w) (k + 1) x sp∧C4 P w K mg base (e_ P w) (k + 1) x sp:=by
 obtain ⟨f,fd,F,hm,hb,hb2⟩:=h
 exact ⟨⟨f,fd,ps,gA.Dw F S len hbody,hm,F.kp,hb⟩,⟨f,fd,ps,gA.Dw F S len hbody,hm,F.kp,hb2⟩⟩
end
def zF:List V→Hp→VK→Prop:=fun xs H Q=>∃ (a:Addr) (kvs:List (Key×V)) (ks:List Int),xs = [.ref a]∧Rd H a (.dK kvs)∧kvs.map (·.1) = ks.map Sum.inl∧∀ p,H p = none→Q (.ref p) (upd H p (.lst (ks.map V.int)))
theorem yh {X : Cx} (hc : X.calm = true) : cJ X (.type "list") zF := by
 intro pins s σ H xs us Q I r h
 obtain ⟨a,kvs,ks,rfl,e,hk,q⟩:=h
 obtain ⟨u,rfl,rx⟩:=vals1 r
 cases rx
 have hh:X.A.handled = none:=I.ok.hd hc
 obtain ⟨z,hd,vs,rel,dd⟩:=iE I.ay e
 obtain ⟨ep,hat⟩:=dd.dictAt
 have hlk:kvs.length = ks.length:=by rw [← List.length_map (f:=(·.1)) (as:=kvs),hk,List.length_map]
 have hlv:vs.length = ks.length:=by rw [← rel.length,hlk]
 refine PySem.W.kdl_call (PySem.W.kdl_dict (knd:=bK X.prog X.w) (kvs:=vs) (ep:=ep) hd) hh hat (by rw [hlv,← hlk];exact z) fun h' tk acc c' hk' hS hacc=>?_
 have hl:acc.toList.length = ks.length:=by rw [Array.length_toList,← hlv];exact hacc.1
 have hI : IntsAre acc.toList ks := rL hl fun j v hv => by
   obtain ⟨k,x,e1,e2⟩:=hacc.2 j v (by rw [← Array.getElem?_toList];exact hv)
   have e3 : (kvs.map (·.1))[j]? = some k := by
     have e4 : ∀ {kvs : List (Key × V)} {vs : List (Key × Value)}, KV kvs vs → kvs.map (·.1) = vs.map (·.1) := fun r => by
       unfold KV at r
       induction r with
       | nil=>rfl
       | cons r1 r2 ih=>rw [List.map_cons,List.map_cons,r1.1,ih]
     rw [e4 rel,List.getElem?_map,e1];rfl
   rw [hk,List.getElem?_map] at e3
   obtain ⟨n,e5,e6⟩:=Option.map_eq_some_iff.mp e3
   rcases bU e2 with ⟨i,t,e7,e8⟩ | ⟨x,t,e7,e8⟩
   · rw [e7] at e6
     cases e6
     exact ⟨_,t,e5,e8⟩
   · rw [e7] at e6;cases e6
 have hn:H s.heap.objs.size = none:=I.ay.fresh (Nat.le_refl _)
 exact ⟨.ref s.heap.objs.size,_,I.laid (t':=tk) (o:=.lst (ks.map V.int)) hk' (Nat.le_refl _) ⟨by rw [List.length_map,← hlk];exact z,acc.toList,c',me hI,hS⟩,rfl,q _ hn⟩
theorem Gg {a:Addr} {kvs:List (Key×V)} {ks:List Int} {H:Hp} {Q:VK} (h:H a = some (.dK kvs)) (hk:kvs.map (·.1) = ks.map Sum.inl) (q:∀ p,H p = none→Q (.ref p) (upd H p (.lst (ks.map V.int)))):zF [.ref a] H Q:=⟨a,kvs,ks,rfl,.inl h,hk,q⟩
end L3
namespace L3
open PySem PySem.Spec PyProof.Rows
abbrev cS (h:Heap) (T:Addr) (a b c d e:Value):Prop:=h.get? T = some { cls:=.type "tuple",data:=.seq #[a,b,c,d,e] }
structure vd (z TI TO i1 i2 i3 i4 i5 t1 t2 t3 t4 t5 : Addr) : Prop where
 TIz:TI ≠ z
 TOz:TO ≠ z
 i1z:i1 ≠ z
 i2z:i2 ≠ z
 ke:i3 ≠ z
 wB:i4 ≠ z
 wa:i5 ≠ z
 TITO:TI ≠ TO
 TIi1:TI ≠ i1
 TIi2:TI ≠ i2
 uO:TI ≠ i3
 G3:TI ≠ i4
 JT:TI ≠ i5
 TOi1:TO ≠ i1
 TOi2:TO ≠ i2
 kN:TO ≠ i3
 xR:TO ≠ i4
 Bz:TO ≠ i5
 i12:i1 ≠ i2
 z_:i1 ≠ i3
 L5:i1 ≠ i4
 LQ:i1 ≠ i5
 pA:i2 ≠ i3
 wk:i2 ≠ i4
 vZ:i2 ≠ i5
 wL:i3 ≠ i4
 wH:i3 ≠ i5
 wx:i4 ≠ i5
 J1:t1 ≠ z
 Kh:t2 ≠ z
 Hk:t3 ≠ z
 MV:t4 ≠ z
 M1:t5 ≠ z
 Bo:t2 ≠ TO
 BO:t3 ≠ TO
 Mr:t4 ≠ TO
 Mq:t5 ≠ TO
 Bb:t2 ≠ i1
 Bk:t3 ≠ i1
 Bw:t3 ≠ i2
 ME:t4 ≠ i1
 Mn:t4 ≠ i2
 MI:t4 ≠ i3
 MO:t5 ≠ i1
 MB:t5 ≠ i2
 MK:t5 ≠ i3
 Mo:t5 ≠ i4
section
variable {prog:Program} {w:World} {A:Around} {E:Value→Shared→Prop} {s:Shared}
theorem mZ {it t : Addr} {i : Nat} {its : Array Value} {Q : Value → Shared → Prop} (hi : s.heap.IsListIter it t i) (ht : s.heap.IsList t its)
   (q1:∀ x,its[i]? = some x→∀ h',h'.IsListIter it t (i + 1)→Heap.SameBut it s.heap h'→Q x { s with heap:=h' })
   (q2:its[i]? = none→A.handled = none∧∀ h' e,Heap.ExtBut it s.heap h'→(∃ o,h'.get? e = some o∧o.cls = .type "StopIteration")→E (.ref e) { s with heap:=h' }) :
   wpAny (model prog w) A (Builtin.SmallTypes.nextOf (.ref it)) Q E s:=by
 cases hx:its[i]? with
 | some x=>exact wpAny_nextOf_list_item hi ht hx fun h' k1 k2=>q1 x hx h' k1 k2
 | none =>
   obtain ⟨hh,q⟩:=q2 hx
   exact wpAny_nextOf_list_end hh hi ht hx fun h' e k1 k2=>q h' e k1 k2
theorem jr {T : Addr} {a b c d e x : Value} {k : Nat} {Q : Unit → Shared → Prop} (hT : cS s.heap T a b c d e)
   (h:∀ h',h'.get? T = some { cls:=.type "tuple",data:=.seq ((#[a,b,c,d,e]:Array Value).setIfInBounds k x) }→Heap.SameBut T s.heap h'→Q () { s with heap:=h' }) :
   wpAny (model prog w) A (updateSeq T (·.setIfInBounds k x)) Q E s:=by
 refine wpAny_updateSeq hT rfl (h _ ?_ (Heap.SameBut.update ..))
 rw [Heap.get?_update_self _ hT rfl]
 simp [Obj.mapSeq]
set_option maxHeartbeats 8000000 in
theorem Md {z TI TO i1 i2 i3 i4 i5 t1 t2 t3 t4 t5 : Addr} {k : Nat} {X1 X2 X3 X4 X5 : Array Value} {a1 a2 a3 a4 a5 : Value} {Q : Fin → Shared → Prop} (D : vd z TI TO i1 i2 i3 i4 i5 t1 t2 t3 t4 t5) (hz : IsZip s.heap z TI TO .none) (hTI : cS s.heap TI (.ref i1) (.ref i2) (.ref i3) (.ref i4) (.ref i5)) (hTO : cS s.heap TO a1 a2 a3 a4 a5)
   (h1:s.heap.IsListIter i1 t1 k) (h2:s.heap.IsListIter i2 t2 k) (h3:s.heap.IsListIter i3 t3 k) (h4:s.heap.IsListIter i4 t4 k) (h5:s.heap.IsListIter i5 t5 k) (ht1:s.heap.IsList t1 X1) (ht2:s.heap.IsList t2 X2) (ht3:s.heap.IsList t3 X3) (ht4:s.heap.IsList t4 X4) (ht5:s.heap.IsList t5 X5)
   (q1 : ∀ x1 x2 x3 x4 x5, X1[k]? = some x1 → X2[k]? = some x2 → X3[k]? = some x3 → X4[k]? = some x4 → X5[k]? = some x5 → ∀ h', IsZip h' z TI TO (rawInt s.heap.objs.size) → cS h' TO x1 x2 x3 x4 x5 → h'.IsListIter i1 t1 (k + 1) → h'.IsListIter i2 t2 (k + 1) → h'.IsListIter i3 t3 (k + 1) → h'.IsListIter i4 t4 (k + 1) → h'.IsListIter i5 t5 (k + 1) → cS h' s.heap.objs.size x1 x2 x3 x4 x5 →
     (∀ c o,c ≠ z→c ≠ TO→c ≠ i1→c ≠ i2→c ≠ i3→c ≠ i4→c ≠ i5→s.heap.get? c = some o→h'.get? c = some o)→Q (.done (.ret (.ref s.heap.objs.size))) { s with heap:=h' })
   (q2:(X1[k]? = none∨X2[k]? = none∨X3[k]? = none∨X4[k]? = none∨X5[k]? = none)→A.handled = none∧∀ h' e,(∀ c o,c ≠ z→c ≠ TO→c ≠ i1→c ≠ i2→c ≠ i3→c ≠ i4→c ≠ i5→s.heap.get? c = some o→h'.get? c = some o)→(∃ o,h'.get? e = some o∧o.cls = .type "StopIteration")→E (.ref e) { s with heap:=h' }) :
   wpAny (model prog w) A (Builtin.«zip.__next__» ⟨[.ref z],[]⟩) Q E s:=by
 show wpAny _ _ (field (.ref z) 2 >>= _) _ _ _;refine wpAny_bind (wpAny_field hz rfl (x:=.bool false) rfl ?_)
 show wpAny _ _ (field (.ref z) 3 >>= _) _ _ _;refine wpAny_bind (wpAny_field hz rfl (x:=.ref TI) rfl (wpAny_bind (wpAny_seqItems hTI rfl ?_)))
 show wpAny _ _ (Builtin.SmallTypes.ownedTupleIsFree (.ref z) >>= _) _ _ _;refine wpAny_bind ?_
 unfold Builtin.SmallTypes.ownedTupleIsFree;refine wpAny_bind (wpAny_field hz rfl (x:=.none) rfl (wpAny_pure ?_))
 simp only [if_true];refine wpAny_bind (wpAny_rule (wpAny_bind (wpAny_field hz rfl (x:=.ref TO) rfl ?_)))
 refine wpAny_bind (wpAny_setField_rec hz (by simp) fun g1 hz1 s1=>?_);replace hz1:IsZip g1 z TI TO .ellipsis:=hz1
 refine wpAny_bind ?_;simp only [List.zipIdx_cons,List.zipIdx_nil,List.forIn_cons,List.forIn_nil]
 refine wpAny_bind (wpAny_bind (wpAny_onRaise ?_));show wpAny _ _ (Builtin.SmallTypes.nextOf (.ref i1) >>= _) _ _ _
 have k1:∀ c o,c ≠ z→s.heap.get? c = some o→g1.get? c = some o:=fun c o c1 e=>s1.extBut _ _ c1 e
 have hO1:cS g1 TO a1 a2 a3 a4 a5:=s1.extBut _ _ D.TOz hTO
 refine wpAny_bind (mZ (h1.at fun o e=>k1 _ o D.i1z e) (ht1.at fun o e=>k1 _ o D.J1 e) (fun x1 hx1 g2 w1 s2=>wpAny_pure ?_) fun hx1=>?_)
 · have hO2 : cS g2 TO a1 a2 a3 a4 a5 := s2.extBut _ _ D.TOi1 hO1
   refine wpAny_bind (wpAny_seqItems hO2 rfl (wpAny_bind (jr hO2 fun g3 hO3 s3=>?_)));replace hO3:cS g3 TO x1 a2 a3 a4 a5:=hO3
   refine wpAny_bind (wpAny_letGo (wpAny_pure ?_));refine wpAny_bind (wpAny_bind (wpAny_onRaise ?_))
   show wpAny _ _ (Builtin.SmallTypes.nextOf (.ref i2) >>= _) _ _ _
   have k3:∀ c o,c ≠ z→c ≠ TO→c ≠ i1→s.heap.get? c = some o→g3.get? c = some o:=fun c o cz cT c1 e=>s3.extBut _ _ cT (s2.extBut _ _ c1 (k1 c o cz e))
   have hz3:IsZip g3 z TI TO .ellipsis:=s3.extBut _ _ D.TOz.symm (s2.extBut _ _ D.i1z.symm hz1)
   refine wpAny_bind (mZ (h2.at fun o e=>k3 _ o D.i2z D.TOi2.symm D.i12.symm e) (ht2.at fun o e=>k3 _ o D.Kh D.Bo D.Bb e) (fun x2 hx2 g4 w2 s4=>wpAny_pure ?_) fun hx2=>?_)
   · have hO4 : cS g4 TO x1 a2 a3 a4 a5 := s4.extBut _ _ D.TOi2 hO3
     refine wpAny_bind (wpAny_seqItems hO4 rfl (wpAny_bind (jr hO4 fun g5 hO5 s5=>?_)));replace hO5:cS g5 TO x1 x2 a3 a4 a5:=hO5
     refine wpAny_bind (wpAny_letGo (wpAny_pure ?_));refine wpAny_bind (wpAny_bind (wpAny_onRaise ?_))
     show wpAny _ _ (Builtin.SmallTypes.nextOf (.ref i3) >>= _) _ _ _
     have k5:∀ c o,c ≠ z→c ≠ TO→c ≠ i1→c ≠ i2→s.heap.get? c = some o→g5.get? c = some o:=fun c o cz cT c1 c2 e=>s5.extBut _ _ cT (s4.extBut _ _ c2 (k3 c o cz cT c1 e))
     have hz5:IsZip g5 z TI TO .ellipsis:=s5.extBut _ _ D.TOz.symm (s4.extBut _ _ D.i2z.symm hz3)
     refine wpAny_bind (mZ (h3.at fun o e=>k5 _ o D.ke D.kN.symm D.z_.symm D.pA.symm e) (ht3.at fun o e=>k5 _ o D.Hk D.BO D.Bk D.Bw e) (fun x3 hx3 g6 w3 s6=>wpAny_pure ?_) fun hx3=>?_)
     · have hO6 : cS g6 TO x1 x2 a3 a4 a5 := s6.extBut _ _ D.kN hO5
       refine wpAny_bind (wpAny_seqItems hO6 rfl (wpAny_bind (jr hO6 fun g7 hO7 s7=>?_)));replace hO7:cS g7 TO x1 x2 x3 a4 a5:=hO7
       refine wpAny_bind (wpAny_letGo (wpAny_pure ?_));refine wpAny_bind (wpAny_bind (wpAny_onRaise ?_))
       show wpAny _ _ (Builtin.SmallTypes.nextOf (.ref i4) >>= _) _ _ _
       have k7:∀ c o,c ≠ z→c ≠ TO→c ≠ i1→c ≠ i2→c ≠ i3→s.heap.get? c = some o→g7.get? c = some o:=fun c o cz cT c1 c2 c3 e=>s7.extBut _ _ cT (s6.extBut _ _ c3 (k5 c o cz cT c1 c2 e))
       have hz7:IsZip g7 z TI TO .ellipsis:=s7.extBut _ _ D.TOz.symm (s6.extBut _ _ D.ke.symm hz5)
       refine wpAny_bind (mZ (h4.at fun o e=>k7 _ o D.wB D.xR.symm D.L5.symm D.wk.symm D.wL.symm e) (ht4.at fun o e=>k7 _ o D.MV D.Mr D.ME D.Mn D.MI e) (fun x4 hx4 g8 w4 s8=>wpAny_pure ?_) fun hx4=>?_)
       · have hO8 : cS g8 TO x1 x2 x3 a4 a5 := s8.extBut _ _ D.xR hO7
         refine wpAny_bind (wpAny_seqItems hO8 rfl (wpAny_bind (jr hO8 fun g9 hO9 s9=>?_)));replace hO9:cS g9 TO x1 x2 x3 x4 a5:=hO9
         refine wpAny_bind (wpAny_letGo (wpAny_pure ?_));refine wpAny_bind (wpAny_bind (wpAny_onRaise ?_))
         show wpAny _ _ (Builtin.SmallTypes.nextOf (.ref i5) >>= _) _ _ _
         have k9:∀ c o,c ≠ z→c ≠ TO→c ≠ i1→c ≠ i2→c ≠ i3→c ≠ i4→s.heap.get? c = some o→g9.get? c = some o:=fun c o cz cT c1 c2 c3 c4 e=>s9.extBut _ _ cT (s8.extBut _ _ c4 (k7 c o cz cT c1 c2 c3 e))
         have hz9:IsZip g9 z TI TO .ellipsis:=s9.extBut _ _ D.TOz.symm (s8.extBut _ _ D.wB.symm hz7)
         refine wpAny_bind (mZ (h5.at fun o e=>k9 _ o D.wa D.Bz.symm D.LQ.symm D.vZ.symm D.wH.symm D.wx.symm e) (ht5.at fun o e=>k9 _ o D.M1 D.Mq D.MO D.MB D.MK D.Mo e) (fun x5 hx5 g10 w5 s10=>wpAny_pure ?_) fun hx5=>?_)
         · have hO10 : cS g10 TO x1 x2 x3 x4 a5 := s10.extBut _ _ D.Bz hO9
           refine wpAny_bind (wpAny_seqItems hO10 rfl (wpAny_bind (jr hO10 fun g11 hO11 s11=>?_)));replace hO11:cS g11 TO x1 x2 x3 x4 x5:=hO11
           refine wpAny_bind (wpAny_letGo (wpAny_pure (wpAny_pure ?_)));refine wpAny_bind (wpAny_seqItems hO11 rfl (wpAny_bind (wpAny_newTuple ?_)))
           have zL:g11.objs.size = s.heap.objs.size:=s11.1.trans (s10.1.trans (s9.1.trans (s8.1.trans (s7.1.trans (s6.1.trans (s5.1.trans (s4.1.trans (s3.1.trans (s2.1.trans (s1.1))))))))))
           have k11:∀ c o,c ≠ z→c ≠ TO→c ≠ i1→c ≠ i2→c ≠ i3→c ≠ i4→c ≠ i5→s.heap.get? c = some o→g11.get? c = some o:=fun c o cz cT c1 c2 c3 c4 c5 e=>s11.extBut _ _ cT (s10.extBut _ _ c5 (k9 c o cz cT c1 c2 c3 c4 e))
           have hz11:IsZip g11 z TI TO .ellipsis:=s11.extBut _ _ D.TOz.symm (s10.extBut _ _ D.wa.symm hz9)
           have f1:g11.IsListIter i1 t1 (k + 1):=w1.at fun o e=>s11.extBut _ _ D.TOi1.symm (s10.extBut _ _ D.LQ (s9.extBut _ _ D.TOi1.symm (s8.extBut _ _ D.L5 (s7.extBut _ _ D.TOi1.symm (s6.extBut _ _ D.z_ (s5.extBut _ _ D.TOi1.symm (s4.extBut _ _ D.i12 (s3.extBut _ _ D.TOi1.symm e))))))))
           have f2:g11.IsListIter i2 t2 (k + 1):=w2.at fun o e=>s11.extBut _ _ D.TOi2.symm (s10.extBut _ _ D.vZ (s9.extBut _ _ D.TOi2.symm (s8.extBut _ _ D.wk (s7.extBut _ _ D.TOi2.symm (s6.extBut _ _ D.pA (s5.extBut _ _ D.TOi2.symm e))))))
           have f3:g11.IsListIter i3 t3 (k + 1):=w3.at fun o e=>s11.extBut _ _ D.kN.symm (s10.extBut _ _ D.wH (s9.extBut _ _ D.kN.symm (s8.extBut _ _ D.wL (s7.extBut _ _ D.kN.symm e))))
           have f4:g11.IsListIter i4 t4 (k + 1):=w4.at fun o e=>s11.extBut _ _ D.xR.symm (s10.extBut _ _ D.wx (s9.extBut _ _ D.xR.symm e))
           have f5:g11.IsListIter i5 t5 (k + 1):=w5.at fun o e=>s11.extBut _ _ D.Bz.symm e
           have zlt:z < g11.objs.size:=Heap.lt_size hz11
           show wpAny _ _ (Builtin.SmallTypes.ownedTupleHandOut (.ref z) (.ref g11.objs.size) >>= _) _ _ _;refine wpAny_bind ?_
           unfold Builtin.SmallTypes.ownedTupleHandOut
           have hzA:IsZip (g11.push { cls:=.type "tuple",data:=.seq #[x1,x2,x3,x4,x5] }) z TI TO .ellipsis:=Heap.get?_push_of_some _ hz11
           refine wpAny_bind (wpAny_setField_rec hzA (by simp) fun gB hzB sB=>?_);replace hzB:IsZip gB z TI TO (rawInt g11.objs.size):=hzB
           refine wpAny_setField_rec hzB (by simp) fun gC hzC sC=>?_;replace hzC:IsZip gC z TI TO (rawInt g11.objs.size):=hzC
           have up:∀ c o,c ≠ z→g11.get? c = some o→gC.get? c = some o:=fun c o c1 e=>sC.extBut _ _ c1 (sB.extBut _ _ c1 (Heap.get?_push_of_some _ e))
           have hTa:cS gC g11.objs.size x1 x2 x3 x4 x5:=sC.extBut _ _ (Nat.ne_of_gt zlt) (sB.extBut _ _ (Nat.ne_of_gt zlt) (Heap.get?_push_size _ rfl))
           replace hzC:=(congrArg (fun n:Nat=>IsZip gC z TI TO (rawInt n)) zL).mp hzC
           replace hTa:=(congrArg (fun n:Nat=>cS gC n x1 x2 x3 x4 x5) zL).mp hTa
           refine wpAny_pure ((congrArg (fun n:Nat=>Q (.done (.ret (.ref n))) { s with heap:=gC }) zL).mpr ?_)
           exact q1 x1 x2 x3 x4 x5 hx1 hx2 hx3 hx4 hx5 gC hzC (up _ _ D.TOz hO11) (f1.at fun o e=>up _ o D.i1z e) (f2.at fun o e=>up _ o D.i2z e) (f3.at fun o e=>up _ o D.ke e) (f4.at fun o e=>up _ o D.wB e) (f5.at fun o e=>up _ o D.wa e) hTa fun c o cz cT c1 c2 c3 c4 c5 e=>up c o cz (k11 c o cz cT c1 c2 c3 c4 c5 e)
         · obtain ⟨hh, q2⟩ := q2 (.inr (.inr (.inr (.inr hx5))))
           refine ⟨hh,fun g10 e s10 he=>?_⟩
           obtain ⟨oe,hoe,hce⟩:=he
           have hz10:IsZip g10 z TI TO .ellipsis:=s10 _ _ D.wa.symm hz9
           have hez:e ≠ z:=fun v=>by subst v;rw [hz10] at hoe;cases hoe;simp at hce
           exact wpAny_setField_rec hz10 (by simp) fun gE _ sE=>q2 gE e (fun c o cz cT c1 c2 c3 c4 c5 v=>sE.extBut _ _ cz (s10 _ _ c5 (k9 c o cz cT c1 c2 c3 c4 v))) ⟨oe,sE.extBut _ _ hez hoe,hce⟩
       · obtain ⟨hh, q2⟩ := q2 (.inr (.inr (.inr (.inl hx4))))
         refine ⟨hh,fun g8 e s8 he=>?_⟩
         obtain ⟨oe,hoe,hce⟩:=he
         have hz8:IsZip g8 z TI TO .ellipsis:=s8 _ _ D.wB.symm hz7
         have hez:e ≠ z:=fun v=>by subst v;rw [hz8] at hoe;cases hoe;simp at hce
         exact wpAny_setField_rec hz8 (by simp) fun gE _ sE=>q2 gE e (fun c o cz cT c1 c2 c3 c4 c5 v=>sE.extBut _ _ cz (s8 _ _ c4 (k7 c o cz cT c1 c2 c3 v))) ⟨oe,sE.extBut _ _ hez hoe,hce⟩
     · obtain ⟨hh, q2⟩ := q2 (.inr (.inr (.inl hx3)))
       refine ⟨hh,fun g6 e s6 he=>?_⟩
       obtain ⟨oe,hoe,hce⟩:=he
       have hz6:IsZip g6 z TI TO .ellipsis:=s6 _ _ D.ke.symm hz5
       have hez:e ≠ z:=fun v=>by subst v;rw [hz6] at hoe;cases hoe;simp at hce
       exact wpAny_setField_rec hz6 (by simp) fun gE _ sE=>q2 gE e (fun c o cz cT c1 c2 c3 c4 c5 v=>sE.extBut _ _ cz (s6 _ _ c3 (k5 c o cz cT c1 c2 v))) ⟨oe,sE.extBut _ _ hez hoe,hce⟩
   · obtain ⟨hh, q2⟩ := q2 (.inr (.inl hx2))
     refine ⟨hh,fun g4 e s4 he=>?_⟩
     obtain ⟨oe,hoe,hce⟩:=he
     have hz4:IsZip g4 z TI TO .ellipsis:=s4 _ _ D.i2z.symm hz3
     have hez:e ≠ z:=fun v=>by subst v;rw [hz4] at hoe;cases hoe;simp at hce
     exact wpAny_setField_rec hz4 (by simp) fun gE _ sE=>q2 gE e (fun c o cz cT c1 c2 c3 c4 c5 v=>sE.extBut _ _ cz (s4 _ _ c2 (k3 c o cz cT c1 v))) ⟨oe,sE.extBut _ _ hez hoe,hce⟩
 · obtain ⟨hh, q2⟩ := q2 (.inl hx1)
   refine ⟨hh,fun g2 e s2 he=>?_⟩
   obtain ⟨oe,hoe,hce⟩:=he
   have hz2:IsZip g2 z TI TO .ellipsis:=s2 _ _ D.i1z.symm hz1
   have hez:e ≠ z:=fun v=>by subst v;rw [hz2] at hoe;cases hoe;simp at hce
   exact wpAny_setField_rec hz2 (by simp) fun gE _ sE=>q2 gE e (fun c o cz cT c1 c2 c3 c4 c5 v=>sE.extBut _ _ cz (s2 _ _ c1 (k1 c o cz v))) ⟨oe,sE.extBut _ _ hez hoe,hce⟩
end
abbrev js (t:Addr):Obj:={ cls:=.type "list_iterator",data:=.fields #[.ref t,.int 0 0] }
abbrev LU (a b c d e:Value):Obj:={ cls:=.type "tuple",data:=.seq #[a,b,c,d,e] }
def vY (h:Heap) (t1 t2 t3 t4 t5:Addr):Heap:=h.push (js t1)
def wI (h:Heap) (t1 t2 t3 t4 t5:Addr):Heap:=(vY h t1 t2 t3 t4 t5).push (js t2)
def vI (h:Heap) (t1 t2 t3 t4 t5:Addr):Heap:=(wI h t1 t2 t3 t4 t5).push (js t3)
def wO (h:Heap) (t1 t2 t3 t4 t5:Addr):Heap:=(vI h t1 t2 t3 t4 t5).push (js t4)
def vN (h:Heap) (t1 t2 t3 t4 t5:Addr):Heap:=(wO h t1 t2 t3 t4 t5).push (js t5)
def wM (h:Heap) (t1 t2 t3 t4 t5:Addr):Heap:=(vN h t1 t2 t3 t4 t5).push (LU (.ref h.objs.size) (.ref (vY h t1 t2 t3 t4 t5).objs.size) (.ref (wI h t1 t2 t3 t4 t5).objs.size) (.ref (vI h t1 t2 t3 t4 t5).objs.size) (.ref (wO h t1 t2 t3 t4 t5).objs.size))
def vX (h:Heap) (t1 t2 t3 t4 t5:Addr):Heap:=(wM h t1 t2 t3 t4 t5).push (LU .none .none .none .none .none)
def pR (h:Heap) (t1 t2 t3 t4 t5:Addr):Heap:=(vX h t1 t2 t3 t4 t5).push { cls:=.type "zip",data:=.fields #[.none,.bool false,.bool false,.ref (vN h t1 t2 t3 t4 t5).objs.size,.ref (wM h t1 t2 t3 t4 t5).objs.size] }
set_option maxHeartbeats 8000000 in
theorem B3 (t1 t2 t3 t4 t5 : Addr) (X1 X2 X3 X4 X5 : Array Value) : Meets (Builtin.«zip.__new__» ⟨[.type "zip", .ref t1, .ref t2, .ref t3, .ref t4, .ref t5], []⟩) (fun _ R s => s.heap.IsList t1 X1 ∧ s.heap.IsList t2 X2 ∧ s.heap.IsList t3 X3 ∧ s.heap.IsList t4 X4 ∧ s.heap.IsList t5 X5 ∧ R (.ok (.ret (.ref (vX s.heap t1 t2 t3 t4 t5).objs.size))) { s with heap := pR s.heap t1 t2 t3 t4 t5 }) :=
 .of_wp fun prog w A R s h => by
   obtain ⟨hp,g,d,tk,os⟩:=s;obtain ⟨hl1,hl2,hl3,hl4,hl5,h⟩:=h
   have hsub:=sub_zip
   have hL1:Heap.IsList (Shared.heap ⟨hp,g,d,tk,os⟩) t1 X1:=hl1
   have hL2:Heap.IsList (Shared.heap ⟨(hp.push (js t1)),g,d,tk,os⟩) t2 X2:=hl2.at fun o e=>Heap.get?_push_of_some _ (e)
   have hL3:Heap.IsList (Shared.heap ⟨((hp.push (js t1)).push (js t2)),g,d,tk,os⟩) t3 X3:=hl3.at fun o e=>Heap.get?_push_of_some _ (Heap.get?_push_of_some _ (e))
   have hL4:Heap.IsList (Shared.heap ⟨(((hp.push (js t1)).push (js t2)).push (js t3)),g,d,tk,os⟩) t4 X4:=hl4.at fun o e=>Heap.get?_push_of_some _ (Heap.get?_push_of_some _ (Heap.get?_push_of_some _ (e)))
   have hL5:Heap.IsList (Shared.heap ⟨((((hp.push (js t1)).push (js t2)).push (js t3)).push (js t4)),g,d,tk,os⟩) t5 X5:=hl5.at fun o e=>Heap.get?_push_of_some _ (Heap.get?_push_of_some _ (Heap.get?_push_of_some _ (Heap.get?_push_of_some _ (e))))
   wp_walk using wpAny_pyIter_list hL1,wpAny_pyIter_list hL2,wpAny_pyIter_list hL3,wpAny_pyIter_list hL4,wpAny_pyIter_list hL5
   exact ⟨_,rfl,h⟩
theorem Ax (y1 y2 y3 y4 y5:Value):checkTypeCall "zip" ⟨[y1,y2,y3,y4,y5],[]⟩ = pure ():=by kernel_rfl
theorem Au (y1 y2 y3 y4 y5:Value):checkBuiltinCall "zip.__new__" ⟨[.type "zip",y1,y2,y3,y4,y5],[]⟩ = pure ():=by kernel_rfl
theorem y7 (y0 y1 y2 y3 y4 y5:Value):argsOk "object.__init__" ⟨[y0,y1,y2,y3,y4,y5],[]⟩:=by unfold argsOk;rw [signature?_of (id:="object.__init__") (n:=['_','_','t','i','n','i','_','_']) (o:=['t','c','e','j','b','o']) (by kernel_rfl) PySem.F.owner_object];kernel_rfl
section
variable {prog:Program} {w:World} {A:Around} {E:Value→Shared→Prop} {s:Shared}
theorem A9 {t1 t2 t3 t4 t5 : Addr} {X1 X2 X3 X4 X5 : Array Value} {Q : Value → Shared → Prop} (h1 : s.heap.IsList t1 X1) (h2 : s.heap.IsList t2 X2) (h3 : s.heap.IsList t3 X3) (h4 : s.heap.IsList t4 X4) (h5 : s.heap.IsList t5 X5)
   (q : ∀ h' n, n = s.heap.objs.size → IsZip h' (n + 7) (n + 5) (n + 6) .none → cS h' (n + 5) (.ref n) (.ref (n + 1)) (.ref (n + 2)) (.ref (n + 3)) (.ref (n + 4)) → cS h' (n + 6) .none .none .none .none .none → h'.IsListIter n t1 0 → h'.IsListIter (n + 1) t2 0 → h'.IsListIter (n + 2) t3 0 → h'.IsListIter (n + 3) t4 0 → h'.IsListIter (n + 4) t5 0 →
     (∀ c o,s.heap.get? c = some o→h'.get? c = some o)→Q (.ref (n + 7)) { s with heap:=h' }):wpAny (model prog w) A (call (.type "zip") [.ref t1,.ref t2,.ref t3,.ref t4,.ref t5]) Q E s:=by
 refine callType_new F.called_zip (by decide) (Ax _ _ _ _ _) (Au _ _ _ _ _) (fun obj=>y7 obj _ _ _ _ _) F.entry_zip_new (B3 t1 t2 t3 t4 t5 X1 X2 X3 X4 X5) ⟨h1,h2,h3,h4,h5,?_⟩
 have z1:(vY s.heap t1 t2 t3 t4 t5).objs.size = s.heap.objs.size + 1:=Heap.size_push ..
 have z2:(wI s.heap t1 t2 t3 t4 t5).objs.size = s.heap.objs.size + 2:=(Heap.size_push ..).trans (congrArg (· + 1) z1)
 have z3:(vI s.heap t1 t2 t3 t4 t5).objs.size = s.heap.objs.size + 3:=(Heap.size_push ..).trans (congrArg (· + 1) z2)
 have z4:(wO s.heap t1 t2 t3 t4 t5).objs.size = s.heap.objs.size + 4:=(Heap.size_push ..).trans (congrArg (· + 1) z3)
 have z5:(vN s.heap t1 t2 t3 t4 t5).objs.size = s.heap.objs.size + 5:=(Heap.size_push ..).trans (congrArg (· + 1) z4)
 have z6:(wM s.heap t1 t2 t3 t4 t5).objs.size = s.heap.objs.size + 6:=(Heap.size_push ..).trans (congrArg (· + 1) z5)
 have z7:(vX s.heap t1 t2 t3 t4 t5).objs.size = s.heap.objs.size + 7:=(Heap.size_push ..).trans (congrArg (· + 1) z6)
 have p8:∀ c o,(vX s.heap t1 t2 t3 t4 t5).get? c = some o→(pR s.heap t1 t2 t3 t4 t5).get? c = some o:=fun c o e=>Heap.get?_push_of_some _ e
 have p7:∀ c o,(wM s.heap t1 t2 t3 t4 t5).get? c = some o→(pR s.heap t1 t2 t3 t4 t5).get? c = some o:=fun c o e=>p8 c o (Heap.get?_push_of_some _ e)
 have p6:∀ c o,(vN s.heap t1 t2 t3 t4 t5).get? c = some o→(pR s.heap t1 t2 t3 t4 t5).get? c = some o:=fun c o e=>p7 c o (Heap.get?_push_of_some _ e)
 have p5:∀ c o,(wO s.heap t1 t2 t3 t4 t5).get? c = some o→(pR s.heap t1 t2 t3 t4 t5).get? c = some o:=fun c o e=>p6 c o (Heap.get?_push_of_some _ e)
 have p4:∀ c o,(vI s.heap t1 t2 t3 t4 t5).get? c = some o→(pR s.heap t1 t2 t3 t4 t5).get? c = some o:=fun c o e=>p5 c o (Heap.get?_push_of_some _ e)
 have p3:∀ c o,(wI s.heap t1 t2 t3 t4 t5).get? c = some o→(pR s.heap t1 t2 t3 t4 t5).get? c = some o:=fun c o e=>p4 c o (Heap.get?_push_of_some _ e)
 have p2:∀ c o,(vY s.heap t1 t2 t3 t4 t5).get? c = some o→(pR s.heap t1 t2 t3 t4 t5).get? c = some o:=fun c o e=>p3 c o (Heap.get?_push_of_some _ e)
 have e8:(pR s.heap t1 t2 t3 t4 t5).get? (vX s.heap t1 t2 t3 t4 t5).objs.size = some _:=Heap.get?_push_size _ rfl
 have e7:=p8 _ _ (show (vX s.heap t1 t2 t3 t4 t5).get? (wM s.heap t1 t2 t3 t4 t5).objs.size = some _ from Heap.get?_push_size _ rfl)
 have e6:=p7 _ _ (show (wM s.heap t1 t2 t3 t4 t5).get? (vN s.heap t1 t2 t3 t4 t5).objs.size = some _ from Heap.get?_push_size _ rfl)
 have e5:=p6 _ _ (show (vN s.heap t1 t2 t3 t4 t5).get? (wO s.heap t1 t2 t3 t4 t5).objs.size = some _ from Heap.get?_push_size _ rfl)
 have e4:=p5 _ _ (show (wO s.heap t1 t2 t3 t4 t5).get? (vI s.heap t1 t2 t3 t4 t5).objs.size = some _ from Heap.get?_push_size _ rfl)
 have e3:=p4 _ _ (show (vI s.heap t1 t2 t3 t4 t5).get? (wI s.heap t1 t2 t3 t4 t5).objs.size = some _ from Heap.get?_push_size _ rfl)
 have e2:=p3 _ _ (show (wI s.heap t1 t2 t3 t4 t5).get? (vY s.heap t1 t2 t3 t4 t5).objs.size = some _ from Heap.get?_push_size _ rfl)
 have e1:=p2 _ _ (show (vY s.heap t1 t2 t3 t4 t5).get? s.heap.objs.size = some _ from Heap.get?_push_size _ rfl)
 rw [z5,z6,z7] at e8
 rw [z6] at e7
 rw [z5,z1,z2,z3,z4] at e6
 rw [z4] at e5
 rw [z3] at e4
 rw [z2] at e3
 rw [z1] at e2
 show _∧_
 rw [z7]
 exact ⟨⟨_,e8,rfl⟩,q _ _ rfl e8 e6 e7 ⟨_,e1,rfl,rfl⟩ ⟨_,e2,rfl,rfl⟩ ⟨_,e3,rfl,rfl⟩ ⟨_,e4,rfl,rfl⟩ ⟨_,e5,rfl,rfl⟩ fun c o x=>p2 c o (Heap.get?_push_of_some _ x)⟩
theorem uF {z TI TO i1 i2 i3 i4 i5 t1 t2 t3 t4 t5 : Addr} {k : Nat} {X1 X2 X3 X4 X5 : Array Value} {a1 a2 a3 a4 a5 : Value} {Q : Option Value → Shared → Prop} (D : vd z TI TO i1 i2 i3 i4 i5 t1 t2 t3 t4 t5) (hz : IsZip s.heap z TI TO .none) (hTI : cS s.heap TI (.ref i1) (.ref i2) (.ref i3) (.ref i4) (.ref i5)) (hTO : cS s.heap TO a1 a2 a3 a4 a5)
   (h1:s.heap.IsListIter i1 t1 k) (h2:s.heap.IsListIter i2 t2 k) (h3:s.heap.IsListIter i3 t3 k) (h4:s.heap.IsListIter i4 t4 k) (h5:s.heap.IsListIter i5 t5 k) (ht1:s.heap.IsList t1 X1) (ht2:s.heap.IsList t2 X2) (ht3:s.heap.IsList t3 X3) (ht4:s.heap.IsList t4 X4) (ht5:s.heap.IsList t5 X5)
   (q1 : ∀ x1 x2 x3 x4 x5, X1[k]? = some x1 → X2[k]? = some x2 → X3[k]? = some x3 → X4[k]? = some x4 → X5[k]? = some x5 → ∀ h', IsZip h' z TI TO (rawInt s.heap.objs.size) → cS h' TO x1 x2 x3 x4 x5 → h'.IsListIter i1 t1 (k + 1) → h'.IsListIter i2 t2 (k + 1) → h'.IsListIter i3 t3 (k + 1) → h'.IsListIter i4 t4 (k + 1) → h'.IsListIter i5 t5 (k + 1) → cS h' s.heap.objs.size x1 x2 x3 x4 x5 →
     (∀ c o,c ≠ z→c ≠ TO→c ≠ i1→c ≠ i2→c ≠ i3→c ≠ i4→c ≠ i5→s.heap.get? c = some o→h'.get? c = some o)→Q (some (.ref s.heap.objs.size)) { s with heap:=h' })
   (q2:(X1[k]? = none∨X2[k]? = none∨X3[k]? = none∨X4[k]? = none∨X5[k]? = none)→A.handled = none∧∀ h',(∀ c o,c ≠ z→c ≠ TO→c ≠ i1→c ≠ i2→c ≠ i3→c ≠ i4→c ≠ i5→s.heap.get? c = some o→h'.get? c = some o)→Q none { s with heap:=h' }) :
   wpAny (model prog w) A (pyNext (.ref z)) Q E s:=by
 have hT:s.TypeIs (.ref z) "zip":=⟨_,hz,rfl⟩;unfold pyNext
 refine wpAny_bind (wpAny_attempt (wpAny_callSpecial?_slot (name:=Str.ofString "__next__") hT F.slot_zip_next (wpAny_call_entry F.slot_zip_next hT F.entry_zip_next ?_ (F.args_zip_next_1 _))))
 refine Md D hz hTI hTO h1 h2 h3 h4 h5 ht1 ht2 ht3 ht4 ht5 (fun x1 x2 x3 x4 x5 hx1 hx2 hx3 hx4 hx5 h' y1 y2 b1 b2 b3 b4 b5 y3 y4=>⟨_,rfl,wpAny_pure (q1 x1 x2 x3 x4 x5 hx1 hx2 hx3 hx4 hx5 h' y1 y2 b1 b2 b3 b4 b5 y3 y4)⟩) fun he=>⟨(q2 he).1,fun h' e kk ho=>?_⟩
 obtain ⟨o,ho,hc⟩:=ho
 exact wpAny_bind (wpAny_isInstance (T:="StopIteration") (b:=true) ⟨o,ho,hc⟩ isSubtype_stop (wpAny_pure ((q2 he).2 _ kk)))
end
end L3
namespace L3
open PySem PySem.Spec PyProof.Rows L2
def xS (K : PySem.W.Frag) (l1 l2 l3 l4 l5 : Addr) : It :=
 ⟨fun i H => ∃ X1 X2 X3 X4 X5 x1 x2 x3 x4 x5, az K H l1 X1 ∧ az K H l2 X2 ∧ az K H l3 X3 ∧ az K H l4 X4 ∧ az K H l5 X5 ∧ X1[i]? = some x1 ∧ X2[i]? = some x2 ∧ X3[i]? = some x3 ∧ X4[i]? = some x4 ∧ X5[i]? = some x5,
  fun i H v H'=>∃ T x1 x2 x3 x4 x5,v = .ref T∧H T = none∧H' = upd H T (.tup [x1,x2,x3,x4,x5])∧∀ X1 X2 X3 X4 X5,az K H l1 X1→az K H l2 X2→az K H l3 X3→az K H l4 X4→az K H l5 X5→X1[i]? = some x1∧X2[i]? = some x2∧X3[i]? = some x3∧X4[i]? = some x4∧X5[i]? = some x5,
  fun i H=>∃ X1 X2 X3 X4 X5,az K H l1 X1∧az K H l2 X2∧az K H l3 X3∧az K H l4 X4∧az K H l5 X5∧(X1.length ≤ i∨X2.length ≤ i∨X3.length ≤ i∨X4.length ≤ i∨X5.length ≤ i)⟩
theorem yT {P : Program} {w : World} {K : PySem.W.Frag} {es : List Expr} {n : Nat} {pos : Pos} {l1 l2 l3 l4 l5 z TI TO i1 i2 i3 i4 i5 : Addr} (D : vd z TI TO i1 i2 i3 i4 i5 l1 l2 l3 l4 l5) :
   Turn P w K (.Tuple es n pos) (xS K l1 l2 l3 l4 l5) [z,TI,TO,i1,i2,i3,i4,i5] z (fun i h=>IsZip h z TI TO .none∧cS h TI (.ref i1) (.ref i2) (.ref i3) (.ref i4) (.ref i5)∧(∃ x1 x2 x3 x4 x5,cS h TO x1 x2 x3 x4 x5)∧h.IsListIter i1 l1 i∧h.IsListIter i2 l2 i∧h.IsListIter i3 l3 i∧h.IsListIter i4 l4 i∧h.IsListIter i5 l5 i) where
 mem:=by simp
 obj := fun i h st d hd => by
   obtain ⟨hz,hI,⟨x1,x2,x3,x4,x5,hO⟩,⟨o1,e1,_,d1⟩,⟨o2,e2,_,d2⟩,⟨o3,e3,_,d3⟩,⟨o4,e4,_,d4⟩,⟨o5,e5,_,d5⟩⟩:=st
   have hd:d = z∨d = TI∨d = TO∨d = i1∨d = i2∨d = i3∨d = i4∨d = i5:=by simpa using hd
   rcases hd with rfl | rfl | rfl | rfl | rfl | rfl | rfl | rfl
   · exact ⟨_,hz,fun v e=>by cases e⟩
   · exact ⟨_,hI,fun v e=>by cases e⟩
   · exact ⟨_,hO,fun v e=>by cases e⟩
   · exact ⟨_,e1,fun v e=>by rw [d1] at e;cases e⟩
   · exact ⟨_,e2,fun v e=>by rw [d2] at e;cases e⟩
   · exact ⟨_,e3,fun v e=>by rw [d3] at e;cases e⟩
   · exact ⟨_,e4,fun v e=>by rw [d4] at e;cases e⟩
   · exact ⟨_,e5,fun v e=>by rw [d5] at e;cases e⟩
 keep := fun i h h' st k => by
   obtain ⟨hz,hI,⟨x1,x2,x3,x4,x5,hO⟩,h1,h2,h3,h4,h5⟩:=st
   exact ⟨k z (by simp) _ hz,k TI (by simp) _ hI,⟨x1,x2,x3,x4,x5,k TO (by simp) _ hO⟩,h1.at fun o e=>k i1 (by simp) o e,h2.at fun o e=>k i2 (by simp) o e,h3.at fun o e=>k i3 (by simp) o e,h4.at fun o e=>k i4 (by simp) o e,h5.at fun o e=>k i5 (by simp) o e⟩
 item := by
   intro X hP hw hK hc i pins s σ H E I hf st hg
   subst hP hw hK
   obtain ⟨hz,hI,⟨w1,w2,w3,w4,w5,hO⟩,h1,h2,h3,h4,h5⟩:=st
   obtain ⟨X1,X2,X3,X4,X5,x1,x2,x3,x4,x5,hq1,hq2,hq3,hq4,hq5,hx1,hx2,hx3,hx4,hx5⟩:=hg
   obtain ⟨its1,rv1,p1,_⟩:=I.list hq1
   obtain ⟨its2,rv2,p2,_⟩:=I.list hq2
   obtain ⟨its3,rv3,p3,_⟩:=I.list hq3
   obtain ⟨its4,rv4,p4,_⟩:=I.list hq4
   obtain ⟨its5,rv5,p5,_⟩:=I.list hq5
   obtain ⟨u1,hu1,r1⟩:=rv1.get hx1
   obtain ⟨u2,hu2,r2⟩:=rv2.get hx2
   obtain ⟨u3,hu3,r3⟩:=rv3.get hx3
   obtain ⟨u4,hu4,r4⟩:=rv4.get hx4
   obtain ⟨u5,hu5,r5⟩:=rv5.get hx5
   refine uF D hz hI hO h1 h2 h3 h4 h5 p1.isList p2.isList p3.isList p4.isList p5.isList (fun v1 v2 v3 v4 v5 hv1 hv2 hv3 hv4 hv5 h' z1 z2 y1 y2 y3 y4 y5  z9 kk=>?_) fun he=>?_
   · have eq1 : v1 = u1 := by simpa [hu1] using hv1.symm
     have eq2:v2 = u2:=by simpa [hu2] using hv2.symm
     have eq3:v3 = u3:=by simpa [hu3] using hv3.symm
     have eq4:v4 = u4:=by simpa [hu4] using hv4.symm
     have eq5:v5 = u5:=by simpa [hu5] using hv5.symm
     subst eq1 eq2 eq3 eq4 eq5
     refine ⟨_,rfl,wpAny_letOwnedTupleGo_zip z1 fun h2' hz2 s2=>?_⟩
     have T0:H s.heap.objs.size = none:=I.ay.fresh (Nat.le_refl _)
     have tz:s.heap.objs.size ≠ z:=Nat.ne_of_gt (Heap.lt_size hz)
     have J : Inv X pins σ (upd H s.heap.objs.size (.tup [x1, x2, x3, x4, x5])) { s with heap := h2' } := by
       refine lT (ch:=[z,TI,TO,i1,i2,i3,i4,i5]) I hf (Nat.le_refl _) (fun d o hd e=>?_) (fun d hd=>?_) ?_
       · have c1 : d ≠ z := fun q => hd (by simp [q])
         exact s2.extBut _ _ c1 (kk d o c1 (fun q=>hd (by simp [q])) (fun q=>hd (by simp [q])) (fun q=>hd (by simp [q])) (fun q=>hd (by simp [q])) (fun q=>hd (by simp [q])) (fun q=>hd (by simp [q])) e)
       · have hd : d = z ∨ d = TI ∨ d = TO ∨ d = i1 ∨ d = i2 ∨ d = i3 ∨ d = i4 ∨ d = i5 := by simpa using hd
         rcases hd with rfl | rfl | rfl | rfl | rfl | rfl | rfl | rfl
         · exact ⟨_,hz2⟩
         · exact ⟨_,s2.extBut _ _ D.TIz (kk _ _ D.TIz D.TITO D.TIi1 D.TIi2 D.uO D.G3 D.JT hI)⟩
         · exact ⟨_,s2.extBut _ _ D.TOz z2⟩
         · obtain ⟨o,e,_⟩:=y1;exact ⟨o,s2.extBut _ _ D.i1z e⟩
         · obtain ⟨o,e,_⟩:=y2;exact ⟨o,s2.extBut _ _ D.i2z e⟩
         · obtain ⟨o,e,_⟩:=y3;exact ⟨o,s2.extBut _ _ D.ke e⟩
         · obtain ⟨o,e,_⟩:=y4;exact ⟨o,s2.extBut _ _ D.wB e⟩
         · obtain ⟨o,e,_⟩:=y5;exact ⟨o,s2.extBut _ _ D.wa e⟩
       · exact ⟨by show 5 ≤ sizeLine;decide,[v1,v2,v3,v4,v5],(.cons r1 (.cons r2 (.cons r3 (.cons r4 (.cons r5 .nil))))),⟨_,s2.extBut _ _ tz z9,rfl,_,rfl⟩⟩
     refine ⟨.ref s.heap.objs.size,_,J,rfl,⟨_,x1,x2,x3,x4,x5,rfl,T0,rfl,fun Y1 Y2 Y3 Y4 Y5 q1 q2 q3 q4 q5=>?_⟩,⟨hz2,s2.extBut _ _ D.TIz (kk _ _ D.TIz D.TITO D.TIi1 D.TIi2 D.uO D.G3 D.JT hI),⟨_,_,_,_,_,s2.extBut _ _ D.TOz z2⟩,y1.at fun o e=>s2.extBut _ _ D.i1z e,y2.at fun o e=>s2.extBut _ _ D.i2z e,y3.at fun o e=>s2.extBut _ _ D.ke e,y4.at fun o e=>s2.extBut _ _ D.wB e,y5.at fun o e=>s2.extBut _ _ D.wa e⟩,fun d hd=>?_⟩
     · rw [I.ip q1 hq1,I.ip q2 hq2,I.ip q3 hq3,I.ip q4 hq4,I.ip q5 hq5];exact ⟨hx1,hx2,hx3,hx4,hx5⟩
     · have hlt : d < s.heap.objs.size := by
         have hd:d = z∨d = TI∨d = TO∨d = i1∨d = i2∨d = i3∨d = i4∨d = i5:=by simpa using hd
         rcases hd with e | e | e | e | e | e | e | e <;> rw [e]
         · exact Heap.lt_size hz
         · exact Heap.lt_size hI
         · exact Heap.lt_size hO
         · obtain ⟨o,e,_⟩:=h1;exact Heap.lt_size e
         · obtain ⟨o,e,_⟩:=h2;exact Heap.lt_size e
         · obtain ⟨o,e,_⟩:=h3;exact Heap.lt_size e
         · obtain ⟨o,e,_⟩:=h4;exact Heap.lt_size e
         · obtain ⟨o,e,_⟩:=h5;exact Heap.lt_size e
       rw [ao (Nat.ne_of_lt hlt)];exact (hf d hd).1
   · exfalso
     rcases he with he | he | he | he | he
     · simp [hu1] at he
     · simp [hu2] at he
     · simp [hu3] at he
     · simp [hu4] at he
     · simp [hu5] at he
 done := by
   intro X hP hw hK hc i pins s σ H E I hf st hg
   subst hP hw hK
   obtain ⟨hz,hI,⟨w1,w2,w3,w4,w5,hO⟩,h1,h2,h3,h4,h5⟩:=st
   obtain ⟨X1,X2,X3,X4,X5,hq1,hq2,hq3,hq4,hq5,hl⟩:=hg
   obtain ⟨its1,rv1,p1,_⟩:=I.list hq1
   have ln1:=rv1.length
   obtain ⟨its2,rv2,p2,_⟩:=I.list hq2
   have ln2:=rv2.length
   obtain ⟨its3,rv3,p3,_⟩:=I.list hq3
   have ln3:=rv3.length
   obtain ⟨its4,rv4,p4,_⟩:=I.list hq4
   have ln4:=rv4.length
   obtain ⟨its5,rv5,p5,_⟩:=I.list hq5
   have ln5:=rv5.length
   refine uF D hz hI hO h1 h2 h3 h4 h5 p1.isList p2.isList p3.isList p4.isList p5.isList (fun v1 v2 v3 v4 v5 hv1 hv2 hv3 hv4 hv5 h' z1 z2 y1 y2 y3 y4 y5 z9 kk=>?_) fun he=>⟨I.ok.hd hc,fun h' kk=>⟨rfl,?_⟩⟩
   · exfalso
     have g1:i < its1.length:=by simpa using (Array.getElem?_eq_some_iff.mp hv1).1
     have g2:i < its2.length:=by simpa using (Array.getElem?_eq_some_iff.mp hv2).1
     have g3:i < its3.length:=by simpa using (Array.getElem?_eq_some_iff.mp hv3).1
     have g4:i < its4.length:=by simpa using (Array.getElem?_eq_some_iff.mp hv4).1
     have g5:i < its5.length:=by simpa using (Array.getElem?_eq_some_iff.mp hv5).1
     omega
   · have hnc : ∀ d o, d ∉ [z, TI, TO, i1, i2, i3, i4, i5] → s.heap.get? d = some o → h'.get? d = some o := fun d o hd e => kk d o (fun q => hd (by simp [q])) (fun q => hd (by simp [q])) (fun q => hd (by simp [q])) (fun q => hd (by simp [q])) (fun q => hd (by simp [q])) (fun q => hd (by simp [q])) (fun q => hd (by simp [q])) e
     refine I.nu (s':={ s with heap:=h' }) (ch:=[z,TI,TO,i1,i2,i3,i4,i5]) rfl ⟨fun b o e _ _ hc=>hnc b o hc e,fun b o e _ _ hc=>⟨o.slots,hnc b o hc e⟩,fun b o e n _=>n,fun b o e hc=>⟨o,hnc b o hc e⟩,fun _ _ e=>e,fun _ _ _ e=>e,fun b ps e=>⟨#[],by rw [e];simp⟩⟩ (fun b u e=>?_) I.bare ?_
     · have nc : ∀ b u, H b = some u → b ∉ [z, TI, TO, i1, i2, i3, i4, i5] := fun b u e hb => by rw [(hf b hb).1] at e; cases e
       refine (I.ay b u e).iA (fun d v hd q=>hnc d v ?_ q) (fun _ q=>q) fun _ _ q=>q
       rcases hd with q | q
       · rw [q];exact nc b u e
       · exact nc d _ q
     · intro b hb
       obtain ⟨f0,f1,f2,f3,f4,f5⟩:=hf b hb
       exact ⟨f3,f1,f4,f5⟩
 self:=fun _ _ _ _ _ st h=>wpAny_pyIter_zip st.1 h
def Dq (K:PySem.W.Frag) (ta:TA):TI:=fun σ H R=>ta σ H fun vs H1=>∃ l1 l2 l3 l4 l5 X1 X2 X3 X4 X5,vs = [.ref l1,.ref l2,.ref l3,.ref l4,.ref l5]∧az K H1 l1 X1∧az K H1 l2 X2∧az K H1 l3 X3∧az K H1 l4 X4∧az K H1 l5 X5∧R (xS K l1 l2 l3 l4 l5) H1
theorem Hl {K:PySem.W.Frag} {ta:TA} {σ : St} {H:Hp} {R:It→Hp→Prop} (q:ta σ H fun vs H1=>∃ l1 l2 l3 l4 l5 X1 X2 X3 X4 X5,vs = [.ref l1,.ref l2,.ref l3,.ref l4,.ref l5]∧az K H1 l1 X1∧az K H1 l2 X2∧az K H1 l3 X3∧az K H1 l4 X4∧az K H1 l5 X5∧R (xS K l1 l2 l3 l4 l5) H1):Dq K ta σ H R:=q
theorem FD {X : Cx} {K : PySem.W.Frag} {es : List Expr} {n : Nat} {tpos : Pos} {m1 m2 m3 m4 m5 : Expr} {ta : TA} {p pos : Pos} (hK : X.K = K) (hg : Gl X "zip") (hm : X.mg "zip" = none) (ha : PA X [m1, m2, m3, m4, m5] ta)
   (hs:starEach [m1,m2,m3,m4,m5] X.env = [(false,eval m1 X.env),(false,eval m2 X.env),(false,eval m3 X.env),(false,eval m4 X.env),(false,eval m5 X.env)]:=by rfl) (hs2:starEach [m2,m3,m4,m5] X.env = [(false,eval m2 X.env),(false,eval m3 X.env),(false,eval m4 X.env),(false,eval m5 X.env)]:=by rfl) :
   PI X (.Tuple es n tpos) (.Call (.Name "zip" p) [m1,m2,m3,m4,m5] [] pos) (Dq K ta):=by
 subst hK
 intro pins s σ H R I h
 refine Call_ (jh I hg hm xj (PyProof.Rows.callWith_type1 (a9 (ha pos pins s σ H _ I h) fun us s1 ⟨vs,H1,I1,r1,q1⟩=>?_) (by rw [hs,hs2]) (by rw [hs2];rfl)))
 obtain ⟨l1,l2,l3,l4,l5,X1,X2,X3,X4,X5,e,hx1,hx2,hx3,hx4,hx5,q⟩:=q1
 subst e
 cases r1 with
 | cons ra1 rr =>
   cases rr with
   | cons ra2 rr =>
     cases rr with
     | cons ra3 rr =>
       cases rr with
       | cons ra4 rr =>
         cases rr with
         | cons ra5 rr =>
           cases rr
           cases ra1
           cases ra2
           cases ra3
           cases ra4
           cases ra5
           obtain ⟨its1,rv1,p1,_⟩:=I1.list hx1
           have lt1:l1 < s1.heap.objs.size:=p1.lt
           obtain ⟨its2,rv2,p2,_⟩:=I1.list hx2
           have lt2:l2 < s1.heap.objs.size:=p2.lt
           obtain ⟨its3,rv3,p3,_⟩:=I1.list hx3
           have lt3:l3 < s1.heap.objs.size:=p3.lt
           obtain ⟨its4,rv4,p4,_⟩:=I1.list hx4
           have lt4:l4 < s1.heap.objs.size:=p4.lt
           obtain ⟨its5,rv5,p5,_⟩:=I1.list hx5
           have lt5:l5 < s1.heap.objs.size:=p5.lt
           refine A9 p1.isList p2.isList p3.isList p4.isList p5.isList fun h' m hm' z1 z2 z3 y1 y2 y3 y4 y5 kk=>?_
           subst hm'
           refine wpAny_pyIter_zip z1 ⟨_,[s1.heap.objs.size + 7,s1.heap.objs.size + 5,s1.heap.objs.size + 6,s1.heap.objs.size,s1.heap.objs.size + 1,s1.heap.objs.size + 2,s1.heap.objs.size + 3,s1.heap.objs.size + 4],_,_,H1,rfl,I1.kept (t':=s1.toks) kk,yT ⟨?_,?_,?_,?_,?_,?_,?_,?_,?_,?_,?_,?_,?_,?_,?_,?_,?_,?_,?_,?_,?_,?_,?_,?_,?_,?_,?_,?_,?_,?_,?_,?_,?_,?_,?_,?_,?_,?_,?_,?_,?_,?_,?_,?_,?_,?_,?_⟩,⟨z1,z2,⟨_,_,_,_,_,z3⟩,y1,y2,y3,y4,y5⟩,fun d hd=>?last,q⟩
           case last =>
             have hd:d = s1.heap.objs.size + 7∨d = s1.heap.objs.size + 5∨d = s1.heap.objs.size + 6∨d = s1.heap.objs.size∨d = s1.heap.objs.size + 1∨d = s1.heap.objs.size + 2∨d = s1.heap.objs.size + 3∨d = s1.heap.objs.size + 4:=by simpa using hd
             have hge:s1.heap.objs.size ≤ d:=by rcases hd with e | e | e | e | e | e | e | e <;> rw [e] <;> first | exact Nat.le_add_right _ _ | exact Nat.le_refl _
             exact I1.kH hge (I1.ay.fresh hge)
           all_goals (intro e;have e' : @Eq Nat _ _:=e;have lt1' : @LT.lt Nat _ _ _:=lt1;have lt2' : @LT.lt Nat _ _ _:=lt2;have lt3' : @LT.lt Nat _ _ _:=lt3;have lt4' : @LT.lt Nat _ _ _:=lt4;have lt5' : @LT.lt Nat _ _ _:=lt5;omega)
theorem A3 {K : PySem.W.Frag} {l1 l2 l3 l4 l5 : Addr} {X1 X2 X3 X4 X5 : List V} {g : TG} {tb : TS} {D : Ends} {σ : St} {H : Hp} (hy2 : X2.length = X1.length) (hy3 : X3.length = X1.length) (hy4 : X4.length = X1.length) (hy5 : X5.length = X1.length) (Pv : Nat → St → Hp → Prop) (h0 : Pv 0 σ H) (hl : ∀ i σ H, i ≤ X1.length → Pv i σ H → az K H l1 X1 ∧ az K H l2 X2 ∧ az K H l3 X3 ∧ az K H l4 X4 ∧ az K H l5 X5)
   (hs:∀ i x1 x2 x3 x4 x5 T σ H,X1[i]? = some x1→X2[i]? = some x2→X3[i]? = some x3→X4[i]? = some x4→X5[i]? = some x5→Pv i σ H→H T = none→g (.ref T) σ (upd H T (.tup [x1,x2,x3,x4,x5])) fun σ2 H2=>tb { D with nx:=Pv (i + 1),ct:=Pv (i + 1),bk:=D.nx } σ2 H2) (hd:∀ σ H,Pv X1.length σ H→D.nx σ H):x6 (xS K l1 l2 l3 l4 l5) g tb D σ H:=by
 refine ⟨fun i m σ H=>m = X1.length - i∧i ≤ X1.length∧Pv i σ H,⟨X1.length,by simp,Nat.zero_le _,h0⟩,?_⟩
 rintro i m σ H ⟨rfl,hi,p⟩
 obtain ⟨q1,q2,q3,q4,q5⟩:=hl i σ H hi p
 by_cases hlt:i < X1.length
 · refine .inr ⟨⟨X1, X2, X3, X4, X5, X1[i], X2[i], X3[i], X4[i], X5[i], q1, q2, q3, q4, q5, by simp [hlt], by simp [hy2, hlt], by simp [hy3, hlt], by simp [hy4, hlt], by simp [hy5, hlt]⟩, Pv (i + 1), fun σ' H' p' => ⟨X1.length - (i + 1), by omega, rfl, hlt, p'⟩, fun x H' y => ?_⟩
   obtain ⟨T,x1,x2,x3,x4,x5,rfl,hT,rfl,hxy⟩:=y
   obtain ⟨r1,r2,r3,r4,r5⟩:=hxy _ _ _ _ _ q1 q2 q3 q4 q5
   exact hs i x1 x2 x3 x4 x5 T σ H r1 r2 r3 r4 r5 p hT
 · have e : i = X1.length := by omega
   subst e
   exact .inl ⟨⟨X1,X2,X3,X4,X5,q1,q2,q3,q4,q5,.inl (Nat.le_refl _)⟩,hd σ H p⟩
end L3
namespace FB
open PySem PySem.Spec PyProof.Rows L2 L3 PySem.SeqAt
local macro_rules | `(tactic| walk_at "clok") => `(tactic| repeat (first | exact True.intro | refine ⟨rfl, ?_⟩))
local macro_rules | `(tactic| walk_at "frok") => `(tactic| repeat (first | exact True.intro | refine ⟨⟨rfl, (by first | exact Or.inl rfl | exact Or.inr rfl), (by first | exact Or.inl rfl | exact Or.inr rfl), rfl⟩, ?_⟩))
local macro_rules | `(tactic| walk_at "hlk") => `(tactic| first | (with_reducible assumption) | (exact ah) | ((with_reducible refine' aC ?x ?y); (case y => with_reducible assumption); (case x => walk_at "hlk")) | ((fail_if_success (((with_reducible refine' aC ?x ?y); (case y => with_reducible assumption)))); (with_reducible refine' qa ?x ?y); (case x => walk_at "ne"); (case y => walk_at "hlk")) | ((with_reducible refine' Gd ?x ?y); (case x => with_reducible assumption); (case y => walk_at "hlk")))
local macro_rules | `(tactic| walk_at "ne") => `(tactic| first | (with_reducible assumption) | (apply Ne.symm; (with_reducible assumption)) | ((with_reducible refine' av ?x ?y); (case y => with_reducible assumption); (case x => walk_at "hlk")) | (apply Ne.symm; (with_reducible refine' av ?x ?y); (case y => with_reducible assumption); (case x => walk_at "hlk")))
local macro_rules | `(tactic| walk_at "sql") => `(tactic| first | (with_reducible assumption) | (refine' az.of ?x; (case x => first | (with_reducible assumption) | (exact ah))) | ((with_reducible refine' vT ?x ?y); (case y => with_reducible assumption); (case x => walk_at "sql")) | ((fail_if_success (((with_reducible refine' vT ?x ?y); (case y => with_reducible assumption)))); first | ((with_reducible refine' sql_upd ?s ?h ?q); (case h => with_reducible assumption); (case s => walk_at "same"); (case q => walk_at "sql")) | (refine' az.of ?x; (case x => (with_reducible refine' qa ?x2 ?y2); (case x2 => walk_at "ne"); (case y2 => walk_at "hlk")))) | ((with_reducible refine' ar.seq ?x ?y); (case x => with_reducible assumption); (case y => walk_at "sql")))
local macro_rules | `(tactic| walk_at "sqt") => `(tactic| first | (with_reducible assumption) | (refine' aW.of ?x; (case x => first | (with_reducible assumption) | (exact ah))) | ((with_reducible refine' wK ?x ?y); (case y => with_reducible assumption); (case x => walk_at "sqt")) | ((fail_if_success (((with_reducible refine' wK ?x ?y); (case y => with_reducible assumption)))); first | ((with_reducible refine' sqt_upd ?s ?h ?q); (case h => with_reducible assumption); (case s => walk_at "same"); (case q => walk_at "sqt")) | (refine' aW.of ?x; (case x => (with_reducible refine' qa ?x2 ?y2); (case x2 => walk_at "ne"); (case y2 => walk_at "hlk")))) | ((with_reducible refine' bG ?x ?y); (case x => with_reducible assumption); (case y => walk_at "sqt")))
local macro_rules | `(tactic| walk_at "lk") => `(tactic| first | (with_reducible exact uT) | (refine' FG ?x ?y; (case x => decide +kernel); (case y => walk_at "lk")) | exact uT)
local macro_rules | `(tactic| walk_at "nolk") => `(tactic| first | (with_reducible rfl) | (refine' Gn ?x ?y; (case x => decide +kernel); (case y => walk_at "nolk")) | rfl)
local macro_rules | `(tactic| walk_at "fewf") => `(tactic| first | exact Nat.lt_of_le_of_lt (Nat.le_refl 0) (by decide) | exact Nat.lt_of_le_of_lt (ku (Nat.le_refl 0)) (by decide) | exact Nat.lt_of_le_of_lt (ku (ku (Nat.le_refl 0))) (by decide) | exact Nat.lt_of_le_of_lt (ku (ku (ku (Nat.le_refl 0)))) (by decide))
local macro_rules | `(tactic| walk_at "small") => `(tactic| first | exact Nat.le_of_ble_eq_true rfl | (show _ ≤ sizeLine; rw [sizeLine_eq]; first | omega | (simp only [List.length_map, List.length_cons, List.length_nil, List.length_append, List.length_replicate, List.length_set, List.length_range]; omega)))
local macro_rules | `(tactic| walk_at "r1") => `(tactic| with_reducible first
 | refine Lr (by with_unfolding_all rfl) ?_
 | refine MU ?_ | refine ML ?_ | refine Ml ?_ | refine FX ?_ | refine Lg ?_ | refine Lm ?_ | (refine' Mw ?x ?_;(case x=>simp only [List.set_cons_succ,List.set_cons_zero];rfl)) | refine K5 ?_ | refine Lw ?_ | refine I_ ?_
 | refine Jw ?_ | refine Lz ?_ | refine MJ ?_ | refine FE ?_ | refine FW ?_ | refine Fz ?_ | refine K7 ?_ | refine Lb ?_ | refine HK ?_ | refine KE ?_
 | refine LC ?_ | refine Lo ?_ | refine MH ?_ | refine HV ?_ | refine JM ?_ | refine JG ?_ | refine r_retN ?_ | refine Mz ?_ | refine M2 ?_ | refine Mi ?_
 | refine Hr ?_ | refine K_ ?_ | refine r_notV ?_ | refine MQ ?_ | refine JN ?_ | refine r_noPart ?_ | refine Mu ?_ | refine Lq ?_ | refine K3 ?_ | refine LI ?_ | refine r_two ?_
 | (refine' Bm ?x ?_;(case x=>with_unfolding_all rfl)) | (refine' BL ?x ?_;(case x=>with_unfolding_all rfl)) | refine LN ?_ | refine Je ?_ | refine G4 ?_ | refine r_rng2 ?_ | refine Jl ?_
 | refine KU ?_ | refine Kp ?_ | refine IP ?_ | refine GC ?_ | refine Gq ?_ | refine r_notNi ?_
 | refine Mg ?_ | refine My ?_ | refine Lf ?_ | refine K2 ?_
 | refine ⟨_,rfl,?_⟩)
local macro_rules | `(tactic| walk_at "r2") => `(tactic| first
 | ((with_reducible refine' zA ?h ?c ?n ?l ?_);(case h=>walk_at "hlk");(case c=>walk_at "cls");(case n=>walk_at "noat");(case l=>walk_at "lk"))
 | ((with_reducible refine' FY ?h ?c ?n ?l ?_);(case h=>walk_at "hlk");(case c=>walk_at "cls");(case n=>walk_at "noat");(case l=>walk_at "fewf"))
 | ((with_reducible refine' Hh ?h ?_);(case h=>walk_at "sql"))
 | ((with_reducible refine' cx ?h ?_);(case h=>walk_at "sql"))
 | ((with_reducible refine' r_lenT ?h ?_);(case h=>walk_at "sqt"))
 | ((with_reducible refine' we ?h ?_);(case h=>walk_at "sql"))
 | ((with_reducible refine' r_listT ?h ?_);(case h=>walk_at "sqt"))
 | ((with_reducible refine' CA ?h ?_);(case h=>rfl))
 | ((with_reducible refine' Cy ?h ?_);(case h=>rfl)))
local macro_rules | `(tactic| walk_at "none") => `(tactic| first | (with_reducible assumption) | ((with_reducible refine' aU ?x ?y); (case y => with_reducible assumption); (case x => walk_at "same")))
local macro_rules | `(tactic| walk_at "same") => `(tactic| first | (with_reducible assumption) | (with_reducible exact ar.refl _) | ((with_reducible refine' same_none ?x ?y); (case y => with_reducible assumption); (case x => walk_at "same")) | ((fail_if_success (((with_reducible refine' same_none ?x ?y); (case y => with_reducible assumption)))); (with_reducible refine' fz ?x ?y); (case y => walk_at "none"); (case x => walk_at "same")) | ((with_reducible refine' ar.trans ?x ?y); (case y => with_reducible assumption); (case x => walk_at "same")))
local macro_rules | `(tactic| walk_at "tt") => `(tactic| first | assumption | omega | with_unfolding_all rfl | decide | (simp only [List.length_map, List.length_cons, List.length_nil, List.length_append, List.length_replicate, List.length_set, yo]; omega))
local macro_rules | `(tactic| walk_at "nn") => `(tactic| first | assumption | omega | decide | (simp only [List.length_map, List.length_cons, List.length_nil, List.length_append, List.length_replicate, List.length_set, yo]; omega))
local macro_rules | `(tactic| walk_at "cond") => `(tactic| first
 | ((with_reducible refine' L6 ?h ?_);(case h=>first | exact ⟨by decide,by decide⟩ | (show (0:Int) < _;first | decide | omega) | (show (0:Int) ≤ _;first | decide | omega)))
 | ((with_reducible refine' C_ ?x ?_);(case x=>intro hh;exact absurd hh (by decide));intro _)
 | ((with_reducible refine' C_ ?_ ?x);(case x=>intro hh;exact absurd hh (by decide));intro _)
 | ((with_reducible refine' iI ?x ?_);(case x=>intro hh;exact absurd hh (by walk_at "nn"));intro _)
 | ((with_reducible refine' iI ?_ ?x);(case x=>intro hh;exact absurd (by walk_at "tt") hh);intro _)
 | ((with_reducible refine' jq ?x ?_);(case x=>intro hh;exact absurd (by walk_at "tt") hh);intro _)
 | ((with_reducible refine' jq ?_ ?x);(case x=>intro hh;exact absurd hh (by walk_at "nn"));intro _)
 | ((with_reducible refine' eY ?x ?_);(case x=>intro hh;exact absurd hh (by walk_at "nn"));intro _)
 | ((with_reducible refine' eY ?_ ?x);(case x=>intro hh;exact absurd (by walk_at "tt") hh);intro _)
 | ((with_reducible refine' o8 ?x ?_);(case x=>intro hh;exact absurd (by walk_at "tt") hh);intro _)
 | ((with_reducible refine' o8 ?_ ?x);(case x=>intro hh;exact absurd hh (by walk_at "nn"));intro _))
local macro_rules | `(tactic| walk_at "at") => `(tactic| first | assumption | ((with_reducible refine' Lp ?x ?y); (case x => walk_at "tt"); (case y => walk_at "tt")) | ((with_reducible refine' gI_neg ?x ?y); (case x => walk_at "tt"); (case y => walk_at "tt")) | rfl)
local macro_rules | `(tactic| walk_at "calls") => `(tactic| first
 | ((with_reducible refine' zQ ?a ?b ?_);(case a=>omega);(case b=>omega))
 | ((with_reducible refine' r_withBox ?h ?a ?b ?_);(case h=>walk_at "sql");(case a=>omega);(case b=>omega))
 | ((with_reducible refine' B5 ?h ?a ?_);(case h=>walk_at "sql");(case a=>omega))
 | (with_reducible refine r_whole ?_) | (with_reducible refine sr ?_) | (with_reducible refine r_filled ?_)
 | ((with_reducible refine' F8 ?a ?b ?_);(case a=>omega);(case b=>omega))
 | ((with_reducible refine' r_cellPl ?a ?b ?c ?_);(case a=>omega);(case b=>omega);(case c=>omega))
 | ((with_reducible refine' r_setI ?x ?y ?z ?_);(case x=>walk_at "hlk");(case y=>walk_at "tt");(case z=>walk_at "tt"))
 | ((with_reducible refine' r_setIN ?x ?y ?z ?_);(case x=>walk_at "hlk");(case y=>walk_at "tt");(case z=>walk_at "tt"))
 | ((with_reducible refine' xJ ?h ?e ?_);(case h=>walk_at "sqt");(case e=>walk_at "at"))
 | ((with_reducible refine' pf ?h ?e ?_);(case h=>walk_at "sql");(case e=>walk_at "at"))
 | (with_reducible refine Hz ?_))
local macro_rules | `(tactic| walk_at "ty") => `(tactic| first | (with_reducible exact eG.int _) | (with_reducible exact eG.bl _) | (with_reducible exact eG.str _) | (with_reducible exact eG.aH) | (refine' eG.lst ?x; (case x => walk_at "hlk")) | (refine' eG.tup ?x; (case x => walk_at "hlk")))
local macro_rules | `(tactic| walk_at "dp") => `(tactic| first | (with_reducible exact gf _) | (with_reducible exact dp_str _) | (with_reducible exact dp_bool _) | (with_reducible exact wN) | ((with_reducible refine' vR ?x); (case x => walk_at "sql")) | ((with_reducible refine' AH ?x ?y); (case x => walk_at "sql"); (case y => walk_at "dps")) | ((with_reducible refine' lW ?x ?y); (case x => walk_at "sqt"); (case y => walk_at "dps")))
local macro_rules | `(tactic| walk_at "dps") => `(tactic| first | (with_reducible exact gM) | ((with_reducible refine' bX ?x ?y); (case x => walk_at "dp"); (case y => walk_at "dps")))
local macro_rules | `(tactic| walk_at "shaped") => `(tactic| first | exact shaped_ints _ | (unfold shaped; simp [PyData.canLay0, PyData.canLayAll0, jX, PyData.depth, PyData.depthAll, kF]))
local macro_rules | `(tactic| walk_at "eqd") => `(tactic| first
 | ((with_reducible refine' r_eqT ?d ?x ?y ?s ?_);(case x=>walk_at "dp");(case y=>walk_at "dp");(case s=>walk_at "shaped"))
 | ((with_reducible refine' r_neT ?d ?x ?y ?s ?_);(case x=>walk_at "dp");(case y=>walk_at "dp");(case s=>walk_at "shaped")))
local macro_rules | `(tactic| walk_at "r3") => `(tactic| first
 | (with_reducible refine Gm (fun _ _=>?_))
 | ((with_reducible refine' FQ ?x ?_);(case x=>walk_at "small"))
 | ((with_reducible refine' MA ?x ?y ?_);(case x=>walk_at "tt");(case y=>walk_at "tt"))
 | ((with_reducible refine' r_62b ?x ?y ?z ?u ?_);(case x=>walk_at "tt");(case y=>walk_at "tt");(case z=>walk_at "tt");(case u=>walk_at "tt"))
 | ((with_reducible refine' LA ?x ?_);(case x=>walk_at "sql"))
 | ((with_reducible refine' K4 ?x ?_);(case x=>walk_at "sqt"))
 | ((with_reducible refine' Ls ?x ?_);(case x=>walk_at "sql"))
 | ((with_reducible refine' C9 ?x ?_);(case x=>walk_at "sql"))
 | ((with_reducible refine' r_timesZ ?x ?y ?z ?_);(case x=>walk_at "hlk");(case y=>walk_at "tt");(case z=>walk_at "tt"))
 | ((with_reducible refine' AW ?x ?y ?z ?_);(case x=>walk_at "hlk");(case y=>walk_at "hlk");(case z=>walk_at "small"))
 | ((with_reducible refine' Ll ?x ?_);(case x=>walk_at "hlk"))
 | ((with_reducible refine' Bu ?h ?_);(case h=>walk_at "cmul"))
 | ((with_reducible refine' r_sum ?h ?_);(case h=>walk_at "sql"))
 | ((with_reducible refine' r_inT ?h ?x ?y ?_);(case h=>walk_at "sqt");(case x=>rfl);(case y=>rfl))
 | ((with_reducible refine' r_clear ?x ?_);(case x=>walk_at "hlk"))
 | ((with_reducible refine' ie ?x ?y ?_);(case x=>walk_at "hlk");(case y=>walk_at "small"))
 | ((with_reducible refine' gk ?c ?t ?e ?_);(case c=>exact fun z=>nomatch z);(case t=>walk_at "ty");(case e=>walk_at "kit")))
local macro_rules | `(tactic| walk_at "rd") => `(tactic| repeat (first | walk_at "r1" | walk_at "r3" | walk_at "r2" | walk_at "cond" | walk_at "calls" | walk_at "mine"))
local macro_rules | `(tactic| walk_at "rds") => `(tactic| repeat' (first | walk_at "r1" | walk_at "r3" | walk_at "r2" | walk_at "cond" | walk_at "calls" | walk_at "mine" | walk_at "cs"))
local macro_rules | `(tactic| walk_at "sp") => `(tactic| (repeat' split) <;> first | assumption | rfl | (exfalso; omega))
local macro_rules | `(tactic| walk_at "rok") => `(tactic| first | assumption | exact ⟨by omega, by omega⟩)
local macro_rules | `(tactic| walk_at "cmul") => `(tactic| first | exact Or.inl ⟨by decide, by decide⟩ | exact Or.inr ⟨by decide, by decide⟩ | exact Or.inl ⟨by omega, by omega⟩ | exact Or.inr ⟨by omega, by omega⟩)
set_option hygiene false
local macro_rules | `(tactic| walk_at "cs") => `(tactic| with_reducible first | refine iI (fun hh => ?_) (fun hh => ?_) | refine jq (fun hh => ?_) (fun hh => ?_) | refine eY (fun hh => ?_) (fun hh => ?_) | refine o8 (fun hh => ?_) (fun hh => ?_) | (refine' r_ixDi ?h (fun hh => ?_) (fun hh => ?_); (case h => walk_at "sql")) | (refine' r_ixD ?h (fun hh => ?_) (fun hh => ?_); (case h => walk_at "sql")))
local macro_rules | `(tactic| walk_at "tf") => `(tactic| (show Q _ _; refine' q _ _ _ _ ?zs ?MY ?MT ?MX ?M3 ?MW ?M0 ?zt ?zb ?zp; (case zt => walk_at "hlk"); (case zb => walk_at "hlk"); (case zp => walk_at "hlk"); (case zs => walk_at "same"); (case MY => walk_at "none"); (case MT => walk_at "none"); (case MX => walk_at "none"); (case M3 => walk_at "ne"); (case MW => walk_at "ne"); (case M0 => walk_at "ne")))
local macro_rules | `(tactic| walk_at "cls") => `(tactic| first | assumption | exact T.tZ | exact T.iq | exact T.jB | exact T.ir | exact T.fZ | exact T.ij | exact T.iz | exact T.iy)
local macro_rules | `(tactic| walk_at "noat") => `(tactic| first | assumption | exact T.cX | exact T.cG | exact T.gi | exact T.gT | exact T.fk | exact T.d0 | exact T.fh | exact T.cY | exact T.d6 | exact T.fM | exact T.gj)
local macro_rules | `(tactic| walk_at "kit") => `(tactic| first | assumption | exact T.fK | exact T.d9 | exact T.gq | exact T.eB | exact T.eP | exact T.dz | exact T.dF | exact T.dJ | exact T.dE | exact T.cF | exact T.cE | exact T.dQ | exact T.dI | exact T.dH | exact T.dO | exact T.dw | exact T.dN)
set_option hygiene true
def top (i:Nat):Stmt:=PySem.Challenge.pw_frameback_k33_where_something_may_come.main.body.getD i (.Pass ⟨0,0,0,0⟩)
abbrev fT:Stmt:=top 10
theorem xl:aA ["number","top"] ["number","top"] (ae fT):=⟨rfl,rfl,rfl,by decide +kernel,rfl,by decide +kernel,by decide +kernel⟩
abbrev eu:Stmt:=top 13
theorem ve:aA ["box"] ["box"] (ae eu):=⟨rfl,rfl,rfl,by decide +kernel,rfl,by decide +kernel,by decide +kernel⟩
abbrev fR:Stmt:=top 14
theorem xH:aA ["places","place"] ["places","place"] (ae fR):=⟨rfl,rfl,rfl,by decide +kernel,rfl,by decide +kernel,by decide +kernel⟩
abbrev bt:Stmt:=inClass (top 15) 0
theorem jU:aA ["self","at"] ["self","at"] (ae bt):=⟨rfl,rfl,rfl,by decide +kernel,rfl,by decide +kernel,by decide +kernel⟩
abbrev aB:Stmt:=inClass (top 15) 1
theorem dY:aA ["self","high"] ["self","high"] (ae aB):=⟨rfl,rfl,rfl,by decide +kernel,rfl,by decide +kernel,by decide +kernel⟩
abbrev aL:Stmt:=inClass (top 15) 2
theorem f_:aA ["self","places","high"] ["self","places","high"] (ae aL):=⟨rfl,rfl,rfl,by decide +kernel,rfl,by decide +kernel,by decide +kernel⟩
abbrev fA:Stmt:=inClass (top 16) 0
theorem vH:aA ["self","box","number"] ["self","box","number"] (ae fA):=⟨rfl,rfl,rfl,by decide +kernel,rfl,by decide +kernel,by decide +kernel⟩
abbrev ek:Stmt:=inClass (top 16) 2
theorem vc:aA ["self","places","high"] ["self","places","high"] (ae ek):=⟨rfl,rfl,rfl,by decide +kernel,rfl,by decide +kernel,by decide +kernel⟩
abbrev fw:Stmt:=inClass (top 16) 3
theorem vC:aA ["self"] ["self"] (ae fw):=⟨rfl,rfl,rfl,by decide +kernel,rfl,by decide +kernel,by decide +kernel⟩
abbrev eK:Stmt:=inClass (top 17) 0
theorem uS:aA ["self","many"] ["self","many"] (ae eK):=⟨rfl,rfl,rfl,by decide +kernel,rfl,by decide +kernel,by decide +kernel⟩
abbrev c_:Stmt:=inClass (top 17) 2
theorem qo:aA ["self","high"] ["self","high"] (ae c_):=⟨rfl,rfl,rfl,by decide +kernel,rfl,by decide +kernel,by decide +kernel⟩
abbrev eA:Stmt:=inClass (top 17) 3
theorem tU:aA ["self"] ["self"] (ae eA):=⟨rfl,rfl,rfl,by decide +kernel,rfl,by decide +kernel,by decide +kernel⟩
abbrev cL:Stmt:=inClass (top 21) 0
theorem sF:aA ["self","entries","landings"] ["self","entries","landings"] (ae cL):=⟨rfl,rfl,rfl,by decide +kernel,rfl,by decide +kernel,by decide +kernel⟩
abbrev fW:Stmt:=top 22
theorem pz:aA ["entry","kept"] ["entry"] (ae fW):=⟨rfl,rfl,rfl,by decide +kernel,rfl,by decide +kernel,by decide +kernel⟩
abbrev eQ:Stmt:=inClass (top 25) 0
theorem vf:aA ["self","target"] ["self","target"] (ae eQ):=⟨rfl,rfl,rfl,by decide +kernel,rfl,by decide +kernel,by decide +kernel⟩
abbrev eE:Stmt:=inClass (top 25) 2
theorem uB:aA ["self","at"] ["self","at"] (ae eE):=⟨rfl,rfl,rfl,by decide +kernel,rfl,by decide +kernel,by decide +kernel⟩
abbrev eN:Stmt:=inClass (top 25) 3
theorem tm:aA ["self"] ["self"] (ae eN):=⟨rfl,rfl,rfl,by decide +kernel,rfl,by decide +kernel,by decide +kernel⟩
abbrev c7:Stmt:=inClass (top 26) 0
theorem qB:aA ["self","box","target"] ["self","box","target"] (ae c7):=⟨rfl,rfl,rfl,by decide +kernel,rfl,by decide +kernel,by decide +kernel⟩
abbrev c6:Stmt:=inClass (top 26) 2
theorem qu:aA ["self","at"] ["self","at"] (ae c6):=⟨rfl,rfl,rfl,by decide +kernel,rfl,by decide +kernel,by decide +kernel⟩
abbrev cZ:Stmt:=inClass (top 26) 3
theorem qH:aA ["self"] ["self"] (ae cZ):=⟨rfl,rfl,rfl,by decide +kernel,rfl,by decide +kernel,by decide +kernel⟩
abbrev el:Stmt:=inClass (top 27) 0
theorem tF:aA ["self","target"] ["self","target"] (ae el):=⟨rfl,rfl,rfl,by decide +kernel,rfl,by decide +kernel,by decide +kernel⟩
abbrev dP:Stmt:=inClass (top 27) 2
theorem sN:aA ["self","places","high"] ["self","places","high"] (ae dP):=⟨rfl,rfl,rfl,by decide +kernel,rfl,by decide +kernel,by decide +kernel⟩
abbrev eO:Stmt:=inClass (top 27) 3
theorem vn:aA ["self"] ["self"] (ae eO):=⟨rfl,rfl,rfl,by decide +kernel,rfl,by decide +kernel,by decide +kernel⟩
abbrev eS:Stmt:=inClass (top 28) 0
theorem tG:aA ["self","box"] ["self","box"] (ae eS):=⟨rfl,rfl,rfl,by decide +kernel,rfl,by decide +kernel,by decide +kernel⟩
abbrev eR:Stmt:=inClass (top 28) 2
theorem uN:aA ["self","at"] ["self","at"] (ae eR):=⟨rfl,rfl,rfl,by decide +kernel,rfl,by decide +kernel,by decide +kernel⟩
abbrev er:Stmt:=inClass (top 28) 3
theorem vq:aA ["self"] ["self"] (ae er):=⟨rfl,rfl,rfl,by decide +kernel,rfl,by decide +kernel,by decide +kernel⟩
abbrev eF:Stmt:=inClass (top 29) 0
theorem ug:aA ["self","box"] ["self","box"] (ae eF):=⟨rfl,rfl,rfl,by decide +kernel,rfl,by decide +kernel,by decide +kernel⟩
abbrev eL:Stmt:=inClass (top 29) 2
theorem uo:aA ["self","at"] ["self","at"] (ae eL):=⟨rfl,rfl,rfl,by decide +kernel,rfl,by decide +kernel,by decide +kernel⟩
abbrev et:Stmt:=inClass (top 29) 3
theorem vi:aA ["self"] ["self"] (ae et):=⟨rfl,rfl,rfl,by decide +kernel,rfl,by decide +kernel,by decide +kernel⟩
abbrev gJ:Stmt:=top 32
theorem Az:aA ["number","entries"] ["number","entries"] (ae gJ):=⟨rfl,rfl,rfl,by decide +kernel,rfl,by decide +kernel,by decide +kernel⟩
abbrev b_:Stmt:=top 33
theorem gh:aA ["entry","high","beyond"] ["entry"] (ae b_):=⟨rfl,rfl,rfl,by decide +kernel,rfl,by decide +kernel,by decide +kernel⟩
abbrev c8:Stmt:=top 34
theorem qc:aA ["row","entry"] ["row","entry"] (ae c8):=⟨rfl,rfl,rfl,by decide +kernel,rfl,by decide +kernel,by decide +kernel⟩
abbrev cy:Stmt:=top 35
theorem oS:aA ["row","entry"] ["row","entry"] (ae cy):=⟨rfl,rfl,rfl,by decide +kernel,rfl,by decide +kernel,by decide +kernel⟩
abbrev cA:Stmt:=top 36
theorem dB:aA ["row","entry","coming","entries","there","name","ours","theirs"] ["row","entry","coming","entries"] (ae cA):=⟨rfl,rfl,rfl,by decide +kernel,rfl,by decide +kernel,by decide +kernel⟩
abbrev bR:Stmt:=top 37
theorem lR:aA ["row","entries"] ["row","entries"] (ae bR):=⟨rfl,rfl,rfl,by decide +kernel,rfl,by decide +kernel,by decide +kernel⟩
abbrev eJ:Stmt:=top 38
theorem jf:aA ["numbers","told","number"] ["numbers"] (ae eJ):=⟨rfl,rfl,rfl,by decide +kernel,rfl,by decide +kernel,by decide +kernel⟩
abbrev ck:Stmt:=top 39
theorem df:aA ["code","entries","at","row","entry","own","found"] ["code","entries","at"] (ae ck):=⟨rfl,rfl,rfl,by decide +kernel,rfl,by decide +kernel,by decide +kernel⟩
abbrev bM:Stmt:=top 40
theorem ia:aA ["code","entries","at","landing","entry"] ["code","entries","at","landing"] (ae bM):=⟨rfl,rfl,rfl,by decide +kernel,rfl,by decide +kernel,by decide +kernel⟩
abbrev f7:Stmt:=top 41
theorem fv:aA ["code","table","entries","complaints","at","landing","what"] ["code","table"] (ae f7):=⟨rfl,rfl,rfl,by decide +kernel,rfl,by decide +kernel,by decide +kernel⟩
abbrev fY:Stmt:=top 43
theorem pS:aA ["code","landings","at","ways"] ["code","landings","at"] (ae fY):=⟨rfl,rfl,rfl,by decide +kernel,rfl,by decide +kernel,by decide +kernel⟩
abbrev ig:Stmt:=top 44
theorem B0:aA ["heights","waiting","at","high"] ["heights","waiting","at","high"] (ae ig):=⟨rfl,rfl,rfl,by decide +kernel,rfl,by decide +kernel,by decide +kernel⟩
abbrev dC:Stmt:=top 45
theorem dZ:aA ["code","ways","heights","waiting","at","behind","coming"] ["code","ways"] (ae dC):=⟨rfl,rfl,rfl,by decide +kernel,rfl,by decide +kernel,by decide +kernel⟩
abbrev gG:Stmt:=top 46
theorem rS:aA ["sets","changed","at","places","left"] ["sets","changed","at","places"] (ae gG):=⟨rfl,rfl,rfl,by decide +kernel,rfl,by decide +kernel,by decide +kernel⟩
abbrev eC:Stmt:=top 47
theorem cM:aA ["code","ways","heights","first","sets","changed","wave","at","kept","coming"] ["code","ways","heights","first"] (ae eC):=⟨rfl,rfl,rfl,by decide +kernel,rfl,by decide +kernel,by decide +kernel⟩
abbrev dA:Stmt:=top 48
theorem bV:aA ["code","landings","ways","heights","found","entries","high","back","four","five","six"] ["code","landings"] (ae dA):=⟨rfl,rfl,rfl,by decide +kernel,rfl,by decide +kernel,by decide +kernel⟩
abbrev gS:Stmt:=top 49
theorem oz:aA ["code","landings","known","table"] ["code","landings"] (ae gS):=⟨rfl,rfl,rfl,by decide +kernel,rfl,by decide +kernel,by decide +kernel⟩
abbrev c9:Stmt:=top 51
theorem q_:aA ["_law_script","_law_k"] ["_law_script","_law_k"] (ae c9):=⟨rfl,rfl,rfl,by decide +kernel,rfl,by decide +kernel,by decide +kernel⟩
abbrev fV:Stmt:=top 52
theorem kD:aA ["_law_cell","_law_many","_law_kind","_law_target"] ["_law_cell","_law_many"] (ae fV):=⟨rfl,rfl,rfl,by decide +kernel,rfl,by decide +kernel,by decide +kernel⟩
abbrev eU:Stmt:=top 53
theorem cP:aA ["_law_code","_law_landings","_law_found","_law_at","_law_row_here","_law_some","_law_one"] ["_law_code","_law_landings"] (ae eU):=⟨rfl,rfl,rfl,by decide +kernel,rfl,by decide +kernel,by decide +kernel⟩
abbrev dU:Stmt:=top 54
theorem sD:aA ["_law_code","_law_comes_here"] ["_law_code","_law_comes_here"] (ae dU):=⟨rfl,rfl,rfl,by decide +kernel,rfl,by decide +kernel,by decide +kernel⟩
abbrev eV:Stmt:=top 55
theorem fi:aA ["_law_code","_law_landings","_law_table","_law_refused","e"] ["_law_code","_law_landings"] (ae eV):=⟨rfl,rfl,rfl,by decide +kernel,rfl,by decide +kernel,by decide +kernel⟩
abbrev fu:Stmt:=top 56
theorem iG:aA ["_law_cell","_law_many","_law_code","_law_entries"] ["_law_cell"] (ae fu):=⟨rfl,rfl,rfl,by decide +kernel,rfl,by decide +kernel,by decide +kernel⟩
abbrev gY:Stmt:=top 57
theorem fU:aA ["_law_script","_law_many","_law_code","_law_landings","_law_cell","_law_at","_law_handed","_law_table","_law_comes_here"] ["_law_script"] (ae gY):=⟨rfl,rfl,rfl,by decide +kernel,rfl,by decide +kernel,by decide +kernel⟩
structure Txt (K : PySem.W.Frag) (mg : Str → Option Value) (a : cp) : Prop where
 nv:mg "all" = none
 nB:mg "any" = none
 jH:mg "dict" = none
 jI:mg "int" = none
 bh:mg "isinstance" = none
 cu:mg "len" = none
 hG:mg "list" = none
 fj:mg "range" = none
 iB:mg "sorted" = none
 jM:mg "zip" = none
 cI:∃ t,mg "FIRST_CELL_BIT" = some (Value.int 8 t)
 mY:mg "KEPT_BOXES" = some (.ref a.cQ)
 je:(∀ H,aW K H a.cQ [.int 4,.int 5,.int 6])
 dq:∃ t,mg "LOST_BY_CALL" = some (Value.int 143 t)
 nQ:mg "SET_NAMES" = some (.ref a.di)
 jS:(∀ H,aW K H a.di [.str "back",.int 4,.int 5,.int 6])
 i9:mg "START" = some (.ref a.d7)
 ki:∃ q0_START:Addr,(∀ H,aW K H a.d7 [.int 0,.int 128,.ref q0_START])∧(∀ H,aW K H q0_START [.int 16,.int 32,.int 64])
 eg:∃ t,mg "TOP_BOX" = some (Value.int 7 t)
 dk:∃ t,mg "TOP_CELLS" = some (Value.int 4000 t)
 cR:∃ t,mg "TOP_TARGET" = some (Value.int 2000 t)
 fL:∃ t,mg "TOP_VALUE" = some (Value.int 4294967295 t)
 jv:mg "Back" = some (.ref a.aK)
 ix:mg "Branch" = some (.ref a.aJ)
 du:mg "Call" = some (.ref a.aD)
 j_:mg "Drop" = some (.ref a.a8)
 fb:mg "FrameError" = some (.ref a.dS)
 j0:mg "Grow" = some (.ref a.aY)
 j5:mg "Jump" = some (.ref a.aZ)
 j3:mg "NoRow" = some (.ref a.nq)
 gU:mg "NoTable" = some (.ref a.bx)
 ni:mg "Set" = some (.ref a.bf)
 i7:mg "Table" = some (.ref a.bw)
 tZ:gr K a.bw
 cX:cb K a.bw "entries"
 cG:cb K a.bw "landings"
 wC:∃ f fd,gA K "__init__" "Table.__init__" cL f fd∧Mk K a.bw f∧Binds K fd ["self","entries","landings"] []∧Binds K fd ["self","entries","landings"] [.none]
 iq:gr K a.aK
 gi:cb K a.aK "box"
 Af:∃ f fd,bc K "__init__" "Back.__init__" eS f fd∧Mk K a.aK f∧Binds K fd ["self","box"] []
 nI:∃ f fd,bc K "goes" "Back.goes" eR f fd∧cj K a.aK "goes" f∧Binds K fd ["self","at"] []
 lM:∃ f fd,bc K "height" "Row.height" aB f fd∧cj K a.aK "height" f∧Binds K fd ["self","high"] []
 mn:∃ f fd,bc K "keeps" "Row.keeps" aL f fd∧cj K a.aK "keeps" f∧Binds K fd ["self","places","high"] []
 n0:∃ f fd,bc K "told" "Back.told" er f fd∧cj K a.aK "told" f∧Binds K fd ["self"] []
 jB:gr K a.bf
 gT:cb K a.bf "box"
 fk:cb K a.bf "number"
 Dc:∃ f fd,bc K "__init__" "Set.__init__" fA f fd∧Mk K a.bf f∧Binds K fd ["self","box","number"] []
 pL:∃ f fd,bc K "goes" "Row.goes" bt f fd∧cj K a.bf "goes" f∧Binds K fd ["self","at"] []
 mh:∃ f fd,bc K "height" "Row.height" aB f fd∧cj K a.bf "height" f∧Binds K fd ["self","high"] []
 nU:∃ f fd,bc K "keeps" "Set.keeps" ek f fd∧cj K a.bf "keeps" f∧Binds K fd ["self","places","high"] []
 pK:∃ f fd,bc K "told" "Set.told" fw f fd∧cj K a.bf "told" f∧Binds K fd ["self"] []
 ir:gr K a.aZ
 d0:cb K a.aZ "target"
 yX:∃ f fd,bc K "__init__" "Jump.__init__" eQ f fd∧Mk K a.aZ f∧Binds K fd ["self","target"] []
 oa:∃ f fd,bc K "goes" "Jump.goes" eE f fd∧cj K a.aZ "goes" f∧Binds K fd ["self","at"] []
 lP:∃ f fd,bc K "height" "Row.height" aB f fd∧cj K a.aZ "height" f∧Binds K fd ["self","high"] []
 mE:∃ f fd,bc K "keeps" "Row.keeps" aL f fd∧cj K a.aZ "keeps" f∧Binds K fd ["self","places","high"] []
 nW:∃ f fd,bc K "told" "Jump.told" eN f fd∧cj K a.aZ "told" f∧Binds K fd ["self"] []
 fZ:gr K a.aJ
 fh:cb K a.aJ "box"
 cY:cb K a.aJ "target"
 uj:∃ f fd,bc K "__init__" "Branch.__init__" c7 f fd∧Mk K a.aJ f∧Binds K fd ["self","box","target"] []
 lO:∃ f fd,bc K "goes" "Branch.goes" c6 f fd∧cj K a.aJ "goes" f∧Binds K fd ["self","at"] []
 jQ:∃ f fd,bc K "height" "Row.height" aB f fd∧cj K a.aJ "height" f∧Binds K fd ["self","high"] []
 kd:∃ f fd,bc K "keeps" "Row.keeps" aL f fd∧cj K a.aJ "keeps" f∧Binds K fd ["self","places","high"] []
 lL:∃ f fd,bc K "told" "Branch.told" cZ f fd∧cj K a.aJ "told" f∧Binds K fd ["self"] []
 ij:gr K a.aD
 d6:cb K a.aD "target"
 zG:∃ f fd,bc K "__init__" "Call.__init__" el f fd∧Mk K a.aD f∧Binds K fd ["self","target"] []
 nM:∃ f fd,bc K "goes" "Row.goes" bt f fd∧cj K a.aD "goes" f∧Binds K fd ["self","at"] []
 lJ:∃ f fd,bc K "height" "Row.height" aB f fd∧cj K a.aD "height" f∧Binds K fd ["self","high"] []
 md:∃ f fd,bc K "keeps" "Call.keeps" dP f fd∧cj K a.aD "keeps" f∧Binds K fd ["self","places","high"] []
 n5:∃ f fd,bc K "told" "Call.told" eO f fd∧cj K a.aD "told" f∧Binds K fd ["self"] []
 iz:gr K a.aY
 fM:cb K a.aY "many"
 AR:∃ f fd,bc K "__init__" "Grow.__init__" eK f fd∧Mk K a.aY f∧Binds K fd ["self","many"] []
 nO:∃ f fd,bc K "goes" "Row.goes" bt f fd∧cj K a.aY "goes" f∧Binds K fd ["self","at"] []
 lD:∃ f fd,bc K "height" "Grow.height" c_ f fd∧cj K a.aY "height" f∧Binds K fd ["self","high"] []
 mD:∃ f fd,bc K "keeps" "Row.keeps" aL f fd∧cj K a.aY "keeps" f∧Binds K fd ["self","places","high"] []
 n9:∃ f fd,bc K "told" "Grow.told" eA f fd∧cj K a.aY "told" f∧Binds K fd ["self"] []
 iy:gr K a.a8
 gj:cb K a.a8 "box"
 Ar:∃ f fd,bc K "__init__" "Drop.__init__" eF f fd∧Mk K a.a8 f∧Binds K fd ["self","box"] []
 nP:∃ f fd,bc K "goes" "Drop.goes" eL f fd∧cj K a.a8 "goes" f∧Binds K fd ["self","at"] []
 lG:∃ f fd,bc K "height" "Row.height" aB f fd∧cj K a.a8 "height" f∧Binds K fd ["self","high"] []
 mJ:∃ f fd,bc K "keeps" "Row.keeps" aL f fd∧cj K a.a8 "keeps" f∧Binds K fd ["self","places","high"] []
 n_:∃ f fd,bc K "told" "Drop.told" et f fd∧cj K a.a8 "told" f∧Binds K fd ["self"] []
 tN:PySem.W.findIn K (.ref a.bf) "__class__" = some (some (.builtin "object.__class__"))∧PySem.W.mroIn K a.bf (.type "object") = some true
 eB:PySem.W.kitOne K (.ref a.bf) (.ref a.aD) = some false
 eP:PySem.W.kitOne K (.ref a.bf) (.ref a.aK) = some false
 rC:PySem.W.findIn K (.ref a.aY) "__class__" = some (some (.builtin "object.__class__"))∧PySem.W.mroIn K a.aY (.type "object") = some true
 dz:PySem.W.kitOne K (.ref a.aY) (.ref a.aD) = some false
 dF:PySem.W.kitOne K (.ref a.aY) (.ref a.aK) = some false
 rH:PySem.W.findIn K (.ref a.aZ) "__class__" = some (some (.builtin "object.__class__"))∧PySem.W.mroIn K a.aZ (.type "object") = some true
 dJ:PySem.W.kitOne K (.ref a.aZ) (.ref a.aD) = some false
 dE:PySem.W.kitOne K (.ref a.aZ) (.ref a.aK) = some false
 lX:PySem.W.findIn K (.ref a.aJ) "__class__" = some (some (.builtin "object.__class__"))∧PySem.W.mroIn K a.aJ (.type "object") = some true
 cF:PySem.W.kitOne K (.ref a.aJ) (.ref a.aD) = some false
 cE:PySem.W.kitOne K (.ref a.aJ) (.ref a.aK) = some false
 ql:PySem.W.findIn K (.ref a.aD) "__class__" = some (some (.builtin "object.__class__"))∧PySem.W.mroIn K a.aD (.type "object") = some true
 dQ:PySem.W.kitOne K (.ref a.aD) (.ref a.aD) = some true
 dI:PySem.W.kitOne K (.ref a.aD) (.ref a.aK) = some false
 qg:PySem.W.findIn K (.ref a.aK) "__class__" = some (some (.builtin "object.__class__"))∧PySem.W.mroIn K a.aK (.type "object") = some true
 dH:PySem.W.kitOne K (.ref a.aK) (.ref a.aD) = some false
 dO:PySem.W.kitOne K (.ref a.aK) (.ref a.aK) = some true
 rz:PySem.W.findIn K (.ref a.a8) "__class__" = some (some (.builtin "object.__class__"))∧PySem.W.mroIn K a.a8 (.type "object") = some true
 dw:PySem.W.kitOne K (.ref a.a8) (.ref a.aD) = some false
 dN:PySem.W.kitOne K (.ref a.a8) (.ref a.aK) = some false
 lB:PySem.W.specialIn K (.builtin "object.__class__") "__get__" = some (some (.builtin "getset_descriptor.__get__"))
 lI:PySem.W.takesIn K (.builtin "object.__class__") = some true
 gK:uY K mg "NoTable" a.bx
 oZ:k6 K a.bx
 bP:PySem.W.kitOne K (.ref a.bx) (.ref a.dS) = some true
 fK:PySem.W.kitOne K (.type "list") (.type "list") = some true
 d9:PySem.W.kitOne K (.type "tuple") (.type "tuple") = some true
 gq:PySem.W.kitOne K (.type "int") (.type "bool") = some false
 pN:∃ f fd,bc K "bounded" "bounded" fT f fd∧mg "bounded" = some (.ref f)∧Binds K fd ["number","top"] []
 mI:∃ f fd,bc K "box_place" "box_place" eu f fd∧mg "box_place" = some (.ref f)∧Binds K fd ["box"] []
 pJ:∃ f fd,bc K "without" "without" fR f fd∧mg "without" = some (.ref f)∧Binds K fd ["places","place"] []
 oW:∃ f fd,bc K "sets_of" "sets_of" fW f fd∧mg "sets_of" = some (.ref f)∧Binds K fd ["entry"] []
 rT:∃ f fd,bc K "is_row" "is_row" gJ f fd∧mg "is_row" = some (.ref f)∧Binds K fd ["number","entries"] []
 iP:∃ f fd,bc K "has_wrong_place" "has_wrong_place" b_ f fd∧mg "has_wrong_place" = some (.ref f)∧Binds K fd ["entry"] []
 kx:∃ f fd,bc K "may_go_back" "may_go_back" c8 f fd∧mg "may_go_back" = some (.ref f)∧Binds K fd ["row","entry"] []
 jG:∃ f fd,bc K "own_complaint" "own_complaint" cy f fd∧mg "own_complaint" = some (.ref f)∧Binds K fd ["row","entry"] []
 jx:∃ f fd,bc K "way_complaint" "way_complaint" cA f fd∧mg "way_complaint" = some (.ref f)∧Binds K fd ["row","entry","coming","entries"] []
 ib:∃ f fd,bc K "target_complaint" "target_complaint" bR f fd∧mg "target_complaint" = some (.ref f)∧Binds K fd ["row","entries"] []
 lS:∃ f fd,bc K "each_once" "each_once" eJ f fd∧mg "each_once" = some (.ref f)∧Binds K fd ["numbers"] []
 iW:∃ f fd,bc K "row_complaints" "row_complaints" ck f fd∧mg "row_complaints" = some (.ref f)∧Binds K fd ["code","entries","at"] []
 hW:∃ f fd,bc K "landing_complaint" "landing_complaint" bM f fd∧mg "landing_complaint" = some (.ref f)∧Binds K fd ["code","entries","at","landing"] []
 pG:∃ f fd,bc K "checked" "checked" f7 f fd∧mg "checked" = some (.ref f)∧Binds K fd ["code","table"] []
 pH:∃ f fd,bc K "ways_on" "ways_on" fY f fd∧mg "ways_on" = some (.ref f)∧Binds K fd ["code","landings","at"] []
 tS:∃ f fd,bc K "reach" "reach" ig f fd∧mg "reach" = some (.ref f)∧Binds K fd ["heights","waiting","at","high"] []
 lE:∃ f fd,bc K "heights_of" "heights_of" dC f fd∧mg "heights_of" = some (.ref f)∧Binds K fd ["code","ways"] []
 r0:∃ f fd,bc K "narrow" "narrow" gG f fd∧mg "narrow" = some (.ref f)∧Binds K fd ["sets","changed","at","places"] []
 mH:∃ f fd,bc K "places_of" "places_of" eC f fd∧mg "places_of" = some (.ref f)∧Binds K fd ["code","ways","heights","first"] []
 lN:∃ f fd,bc K "entries_of" "entries_of" dA f fd∧mg "entries_of" = some (.ref f)∧Binds K fd ["code","landings"] []
 uD:∃ f fd,gA K "guess" "guess" gS f fd∧mg "guess" = some (.ref f)∧Binds K fd ["code","landings"] []∧Binds K fd ["code","landings"] [.none]
 kr:∃ f fd,bc K "_law_cell_at" "_law_cell_at" c9 f fd∧mg "_law_cell_at" = some (.ref f)∧Binds K fd ["_law_script","_law_k"] []
 o9:∃ f fd,bc K "_law_row" "_law_row" fV f fd∧mg "_law_row" = some (.ref f)∧Binds K fd ["_law_cell","_law_many"] []
 l_:∃ f fd,bc K "_law_comes" "_law_comes" eU f fd∧mg "_law_comes" = some (.ref f)∧Binds K fd ["_law_code","_law_landings"] []
 lK:∃ f fd,bc K "_law_starts" "_law_starts" dU f fd∧mg "_law_starts" = some (.ref f)∧Binds K fd ["_law_code","_law_comes_here"] []
 mv:∃ f fd,bc K "_law_guess" "_law_guess" eV f fd∧mg "_law_guess" = some (.ref f)∧Binds K fd ["_law_code","_law_landings"] []
 n6:∃ f fd,bc K "_law_long" "_law_long" fu f fd∧mg "_law_long" = some (.ref f)∧Binds K fd ["_law_cell"] []
 KH:∃ f fd,bc K "law" "law" gY f fd∧mg "law" = some (.ref f)∧Binds K fd ["_law_script"] []
structure Ent where
 h:Int
 b:Int
 v4:Int
 v5:Int
 v6:Int
def Ent.eM (e:Ent):List Int:=[e.b,e.v4,e.v5,e.v6]
def iD (K:PySem.W.Frag) (H:Hp) (p:Addr) (e:Ent):Prop:=∃ q,aW K H p [.int e.h,.int e.b,.ref q]∧aW K H q [.int e.v4,.int e.v5,.int e.v6]
theorem iD.same {K:PySem.W.Frag} {H H':Hp} {p:Addr} {e:Ent} (h:iD K H p e) (s:ar H H'):iD K H' p e:=let ⟨q,h1,h2⟩:=h;⟨q,bG s h1,bG s h2⟩
def oM (K : PySem.W.Frag) (H : Hp) (v : V) : Option Ent → Prop
 | none=>v = .aH
 | some e=>∃ p,v = .ref p∧iD K H p e
theorem oM.same {K : PySem.W.Frag} {H H' : Hp} {v : V} {oe : Option Ent} (h : oM K H v oe) (s : ar H H') : oM K H' v oe := by
 cases oe with
 | none=>exact h
 | some e=>obtain ⟨p,e1,e2⟩:=h;exact ⟨p,e1,e2.same s⟩
def ej (K:PySem.W.Frag) (H:Hp) (vs:List V) (es:List (Option Ent)):Prop:=vs.length = es.length∧∀ (i:Nat) (oe:Option Ent),es[i]? = some oe→∃ v,vs[i]? = some v∧oM K H v oe
theorem ej.same {K : PySem.W.Frag} {H H' : Hp} {vs : List V} {es : List (Option Ent)} (h : ej K H vs es) (s : ar H H') : ej K H' vs es :=
 ⟨h.1,fun i oe e=>let ⟨v,e1,e2⟩:=h.2 i oe e;⟨v,e1,e2.same s⟩⟩
def gw : Option Ent → PyData
 | none=>.none
 | some e=>.tuple [.int e.h,.int e.b,.tuple [.int e.v4,.int e.v5,.int e.v6]]
theorem oM.dp {K : PySem.W.Frag} {H : Hp} {v : V} {oe : Option Ent} (h : oM K H v oe) : Dp K H (gw oe) v := by
 cases oe with
 | none=>cases h;exact wN
 | some e =>
   obtain ⟨p,rfl,q,h1,h2⟩:=h
   exact lW h1 (bX (gf _) (bX (gf _) (bX (lW h2 (bX (gf _) (bX (gf _) (bX (gf _) gM)))) gM)))
theorem iZ (e:Option Ent):shaped (gw e) = true:=by cases e <;> rfl
structure M4 where
 r:Int
 a:Int
 b:Int
 c:Int
 n:Int
def M7 (H:Hp) (v:V) (c:M4):Prop:=∃ t q,v = .ref t∧H t = some (.tup [.int c.r,.ref q,.int c.n])∧H q = some (.tup [.int c.a,.int c.b,.int c.c])
theorem G_ {K:PySem.W.Frag} {p:Addr} {xs:List V} {n:Nat} {t:nS} {σ : L2.St} {H:Hp} {Q:L2.St→Hp→Prop} (h:aW K H p xs) (hl:xs.length = n) (q:t xs σ H Q):BR K n t (.ref p) σ H Q:=⟨p,xs,rfl,h,hl,q⟩
theorem FK {t:TG} {u:nS} {v:V} {r:List V} {σ : L2.St} {H:Hp} {Q:L2.St→Hp→Prop} (q:t v σ H fun σ' H'=>u r σ' H' Q):Dl t u (v :: r) σ H Q:=⟨v,r,rfl,q⟩
theorem HS {σ : L2.St} {H:Hp} {Q:L2.St→Hp→Prop} (q:Q σ H):JU [] σ H Q:=⟨rfl,q⟩
theorem zx:bootBuiltins "dict" = some (.type "dict"):=by decide +kernel
def vv (l d:Addr):List (Str×V):=aN "landings" (.ref d) (aN "entries" (.ref l) [])
def ph (K : PySem.W.Frag) (C : Addr) : Sp := fun vs H Q _ => ∃ (x dx pe : Addr) (lv : V) (xs : List V) (kvs : List (Key × V)), vs = [.ref x, .ref pe, lv] ∧ H x = some (.ins C dx []) ∧ az K H pe xs ∧
 ((lv = .aH∧kvs = [])∨∃ pd,lv = .ref pd∧H pd = some (.dK kvs)) ∧
 ∀ l d H',H l = none→H d = none→l ≠ d→(∀ b o,H b = some o→b ≠ x→H' b = some o)→H' x = some (.ins C dx (vv l d))→H' l = some (.lst xs)→H' d = some (.dK kvs)→Q .aH H'
def yS (K:PySem.W.Frag):Sp:=fun vs H Q _=>∃ (p:Addr) (e:Ent),vs = [.ref p]∧iD K H p e∧∀ t,H t = none→Q (.ref t) (upd H t (.tup (e.eM.map V.int)))
theorem Bd:bootBuiltins "sorted" = some (.builtin "sorted"):=by decide +kernel
def gW (a b:Option Ent):Bool:=PyData.eqv (gw a) (gw b)
theorem ID {a b : Option Ent} (h : gW a b = true) : a = b := by
 cases a with
 | none => cases b with
   | none=>rfl
   | some e=>simp [gW,gw,PyData.eqv] at h
 | some e => cases b with
   | none=>simp [gW,gw,PyData.eqv] at h
   | some f =>
     obtain ⟨h1,h2,h3,h4,h5⟩:=e
     obtain ⟨g1,g2,g3,g4,g5⟩:=f
     simp [gW,gw,PyData.eqv,PyData.eqvAll] at h
     obtain ⟨rfl,rfl,rfl,rfl,rfl⟩:=h
     rfl
def Rw.here : Rw → Prop
 | .set ..=>True
 | .copy ..=>False
 | .add ..=>False
 | .sub ..=>False
 | .mul ..=>False
 | .less ..=>False
 | .grow ..=>True
 | .shrink ..=>False
 | .put ..=>False
 | .get ..=>False
 | .gv ..=>True
 | .branch ..=>True
 | .call ..=>True
 | .back ..=>True
 | .drop ..=>True
def Rw.isCall : Rw → Bool
 | .call _=>true
 | _=>false
def Rw.Iu : Rw → Bool
 | .back _=>true
 | _=>false
def bA (a:cp) (H:Hp) (prs:List Addr) (rs:List Rw):Prop:=prs.length = rs.length∧∀ (i:Nat) (p:Addr) (r:Rw),prs[i]? = some p→rs[i]? = some r→cK a H p r
theorem bA.to {a : cp} {H H' : Hp} {prs : List Addr} {rs : List Rw} (h : bA a H prs rs) (k : ∀ p ∈ prs, ∀ o, H p = some o → H' p = some o) : bA a H' prs rs :=
 ⟨h.1,fun i p r e1 e2=>let ⟨dx,e⟩:=h.2 i p r e1 e2;⟨dx,k p (List.mem_of_getElem? e1) _ e⟩⟩
theorem bA.same {a:cp} {H H':Hp} {prs:List Addr} {rs:List Rw} (h:bA a H prs rs) (s:ar H H'):bA a H' prs rs:=h.to fun _ _ _ e=>s _ _ e
theorem bA.nil {a:cp} {H:Hp}:bA a H [] []:=⟨rfl,fun i p r e=>by simp at e⟩
theorem bA.snoc {a : cp} {H : Hp} {prs : List Addr} {rs : List Rw} {p : Addr} {r : Rw} (h : bA a H prs rs) (q : cK a H p r) : bA a H (prs ++ [p]) (rs ++ [r]) := by
 refine ⟨by rw [List.length_append,List.length_append,h.1];rfl,fun i p' r' e1 e2=>?_⟩
 by_cases hi:i < rs.length
 · rw [List.getElem?_append_left (by rw [h.1]; exact hi)] at e1
   rw [List.getElem?_append_left hi] at e2
   exact h.2 i p' r' e1 e2
 · have hi' : i = rs.length := by
     have:=(List.getElem?_eq_some_iff.mp e2).1
     rw [List.length_append] at this
     simp at this;omega
   subst hi'
   rw [List.getElem?_append_right (by omega)] at e2
   rw [List.getElem?_append_right (by rw [h.1];omega),h.1] at e1
   simp at e1 e2
   subst e1 e2
   exact q
def aR (l:List (Int×Int)):List (Key×V):=l.map fun p=>((Sum.inl p.1:Key),V.int p.2)
theorem A5 {l : List (Int × Int)} {c r : Int} (h : dX (aR l) (.inl c) = none) : putK (aR l) (.inl c) (.int r) = aR (l ++ [(c, r)]) := by
 rw [BN _ h]
 unfold aR
 rw [List.map_append];rfl
def lv (ls:List (Int×Int)) (k:Int):Int:=((ls.find? fun p=>decide (p.1 = k)).map (·.2)).getD 0
theorem iw : ∀ {ls : List (Int × Int)}, (ls.map (·.1)).Nodup → ∀ p ∈ ls, dX (aR ls) (.inl p.1) = some (.int p.2) ∧ lv ls p.1 = p.2
 | [],_,_,h=>nomatch h
 | (c, r) :: ls, hn, p, hp => by
   rw [List.map_cons,List.nodup_cons] at hn
   rcases List.mem_cons.mp hp with rfl | hp
   · refine ⟨?_, ?_⟩
     · show dX ((Sum.inl c, V.int r) :: aR ls) (.inl c) = _
       rw [kM rfl]
     · unfold lv;rw [List.find?_cons,decide_eq_true rfl];rfl
   · have ne : ¬ c = p.1 := fun z => hn.1 (List.mem_map.mpr ⟨p, hp, z.symm⟩)
     obtain ⟨i1,i2⟩:=iw hn.2 p hp
     refine ⟨?_,?_⟩
     · show dX ((Sum.inl c, V.int r) :: aR ls) (.inl p.1) = _
       rw [jt (fun z=>ne (Sum.inl.inj z))];exact i1
     · unfold lv at i2 ⊢;rw [List.find?_cons,decide_eq_false ne];exact i2
theorem jK : ∀ {ls : List (Int × Int)} {c : Int}, c ∉ ls.map (·.1) → dX (aR ls) (.inl c) = none
 | [],_,_=>rfl
 | (d, r) :: ls, c, h => by
   rw [List.map_cons,List.mem_cons,not_or] at h
   show dX ((Sum.inl d,V.int r) :: aR ls) (.inl c) = _
   rw [jt (fun z=>h.1 (Sum.inl.inj z).symm)]
   exact jK h.2
theorem zK (ls : List (Int × Int)) : (aR ls).map (·.1) = (ls.map (·.1)).map Sum.inl := by
 unfold aR;rw [List.map_map,List.map_map];rfl
theorem Lx:bootBuiltins "any" = some (.builtin "any"):=by decide +kernel
inductive Wt where
 | place | bj | back | row | aH | start | call | length | b4 | b5 | b6
def Wt.v : Wt → V
 | .place=>.str "place" | .bj=>.str "height" | .back=>.str "back" | .row=>.str "row" | .aH=>.str "none" | .start=>.str "start" | .call=>.str "call" | .length=>.str "length"
 | .b4=>.int 4 | .b5=>.int 5 | .b6=>.int 6
def oV : Option Wt → V
 | none=>.aH
 | some w=>w.v
def fo:Option Ent:=some ⟨0,128,16,32,64⟩
def ky (h s:Int):Bool:=decide (s ≤ 0) || !decide (s / 2 ^ (8 + h).toNat = 0)
def gg (e:Ent):Bool:=decide (e.h < 0) || (decide (4000 < e.h) || e.eM.any (ky e.h))
def oH (b:Int) (e:Ent):Bool:=decide (e.h = 0) && ((Builtin.bitAnd e.b ((2 ^ b.toNat:Nat):Int) != 0) && ((Builtin.bitAnd e.v4 16 != 0) && ((Builtin.bitAnd e.v5 32 != 0) && (Builtin.bitAnd e.v6 64 != 0))))
def ic (r:Rw) (e:Ent):Option Wt:=if gg e = true then some .place else if r.bj e.h = none then some .bj else match r with | .back b=>if oH b e = true then none else some .back | _=>none
def pW (r:Rw) (e t:Ent):Option Wt:=if Bt.wo t.b.toNat (r.keep e.b.toNat e.h) ≠ 0 then some .back else if Bt.wo t.v4.toNat (r.keep e.v4.toNat e.h) ≠ 0 then some .b4 else if Bt.wo t.v5.toNat (r.keep e.v5.toNat e.h) ≠ 0 then some .b5 else if Bt.wo t.v6.toNat (r.keep e.v6.toNat e.h) ≠ 0 then some .b6 else none
def jl (r:Rw) (e:Ent) (c:Int) (es:List (Option Ent)):Option Wt:=if 0 ≤ c∧c < es.length then (match es[c.toNat]?.join with | none=>some .aH | some t=>if r.bj e.h = some t.h then pW r e t else some .bj) else some .row
def fe (t:Int) (es:List (Option Ent)):Option Wt:=if 0 ≤ t∧t < es.length then (if gW (es[t.toNat]?.join) fo = true then none else some .start) else some .row
def Ent.nn (e:Ent):Prop:=0 ≤ e.b∧0 ≤ e.v4∧0 ≤ e.v5∧0 ≤ e.v6
def wu (K:PySem.W.Frag):Sp:=fun vs H Q _=>∃ (n:Int) (p:Addr) (us:List V),vs = [.int n,.ref p]∧az K H p us∧Q (.bl (decide (0 ≤ n∧n < us.length))) H
def wU (K:PySem.W.Frag):Sp:=fun vs H Q _=>∃ (p:Addr) (e:Ent),vs = [.ref p]∧iD K H p e∧∀ H',ar H H'→Q (.bl (gg e)) H'
def AL (K:PySem.W.Frag) (a:cp):Sp:=fun vs H Q _=>∃ (x p:Addr) (b:Int) (e:Ent),vs = [.ref x,.ref p]∧cK a H x (.back b)∧0 ≤ b∧b ≤ 7∧iD K H p e∧∀ H',ar H H'→Q (.bl (oH b e)) H'
def yM (K:PySem.W.Frag) (a:cp):Sp:=fun vs H Q _=>∃ (x p:Addr) (r:Rw) (e:Ent),vs = [.ref x,.ref p]∧cK a H x r∧r.ok∧r.here∧iD K H p e∧∀ H',ar H H'→Q (oV (ic r e)) H'
def zH (K:PySem.W.Frag) (a:cp):Sp:=fun vs H Q _=>∃ (x p l:Addr) (c:Int) (r:Rw) (e:Ent) (ev:List V) (es:List (Option Ent)),vs = [.ref x,.ref p,.int c,.ref l]∧cK a H x r∧r.ok∧r.here∧iD K H p e∧e.nn∧0 ≤ e.h∧e.h ≤ 4000∧(r.bj e.h).isSome = true∧H l = some (.lst ev)∧ej K H ev es∧(∀ t,some t ∈ es→t.nn)∧∀ H',ar H H'→Q (oV (jl r e c es)) H'
def zu (K:PySem.W.Frag) (a:cp):Sp:=fun vs H Q _=>∃ (x l:Addr) (t:Int) (ev:List V) (es:List (Option Ent)),vs = [.ref x,.ref l]∧cK a H x (.call t)∧H l = some (.lst ev)∧ej K H ev es∧∀ H',ar H H'→Q (oV (fe t es)) H'
def once (ns:List Int):List Int:=ns.foldl (fun t n=>if n ∈ t then t else t ++ [n]) []
def zB (K:PySem.W.Frag):Sp:=fun vs H Q _=>∃ (p:Addr) (ns:List Int),vs = [.ref p]∧az K H p (ns.map V.int)∧ns.length ≤ 4000∧∀ q H',ar H H'→H' q = some (.lst ((once ns).map V.int))→Q (.ref q) H'
theorem gR (ns:List Int):(ns.map V.int).all hU = true:=by rw [List.all_map];exact List.all_eq_true.mpr fun _ _=>rfl
theorem il (n : Int) (ns : List Int) : wR (.int n) (ns.map V.int) = decide (n ∈ ns) := by
 unfold wR
 rw [List.any_map]
 induction ns with
 | nil=>rfl
 | cons p ps ih =>
   rw [List.any_cons,ih]
   show (m7 (.int p) (.int n) || _) = _
   by_cases e:n = p
   · subst e;simp [m7]
   · have : ¬ p = n := fun z => e z.symm
     simp [m7,e,this]
theorem ej.at {K : PySem.W.Frag} {H : Hp} {vs : List V} {es : List (Option Ent)} {c : Int} (h : ej K H vs es) (h0 : 0 ≤ c) (h1 : c < es.length) : ∃ v oe, cD vs c = some v ∧ es[c.toNat]? = some oe ∧ oe ∈ es ∧ oM K H v oe := by
 have hi:c.toNat < es.length:=by omega
 obtain ⟨v,e1,e2⟩:=h.2 c.toNat _ (List.getElem?_eq_getElem hi)
 exact ⟨v,_,by rw [show c = ((c.toNat:Nat):Int) from by omega];exact bL e1,List.getElem?_eq_getElem hi,List.getElem_mem hi,e2⟩
theorem iu {K:PySem.W.Frag} {H:Hp} {s q:Addr} (h1:aW K H s [.int 0,.int 128,.ref q]) (h2:aW K H q [.int 16,.int 32,.int 64]):Dp K H (gw fo) (.ref s):=lW h1 (bX (gf _) (bX (gf _) (bX (lW h2 (bX (gf _) (bX (gf _) (bX (gf _) gM)))) gM)))
theorem LD {K:PySem.W.Frag} {x y:V} {H:Hp} {Q:VK} (a b:Option Ent) (hx:Dp K H (gw a) x) (hy:Dp K H (gw b) y) (q:Q (.bl (gW a b)) H):oo K x y H Q:=.inr ⟨gw a,gw b,hx,hy,iZ a,iZ b,q⟩
theorem xV {K:PySem.W.Frag} {x y:V} {H:Hp} {Q:VK} (a b:Option Ent) (hx:Dp K H (gw a) x) (hy:Dp K H (gw b) y) (q:Q (.bl (!gW a b)) H):k8 K x y H Q:=.inr ⟨gw a,gw b,hx,hy,iZ a,iZ b,q⟩
theorem GQ {w:Wt} {H:Hp} {Q:VK} (q:Q (.bl true) H):iH w.v .aH H Q:=⟨rfl,by rw [decide_eq_false (fun z=>by cases w <;> cases z)];exact q⟩
structure Cm where
 i:Int
 at_:Int
 w:Wt
def Aw (H:Hp) (v:V) (c:Cm):Prop:=∃ q,v = .ref q∧H q = some (.tup [.int c.i,.int c.at_,c.w.v])
def b9 (H:Hp) (vs:List V) (cs:List Cm):Prop:=vs.length = cs.length∧∀ (i:Nat) (c:Cm),cs[i]? = some c→∃ v,vs[i]? = some v∧Aw H v c
theorem Aw.same {H H':Hp} {v:V} {c:Cm} (h:Aw H v c) (s:ar H H'):Aw H' v c:=let ⟨q,e,k⟩:=h;⟨q,e,s _ _ k⟩
theorem b9.same {H H':Hp} {vs:List V} {cs:List Cm} (h:b9 H vs cs) (s:ar H H'):b9 H' vs cs:=⟨h.1,fun i c e=>let ⟨v,e1,e2⟩:=h.2 i c e;⟨v,e1,e2.same s⟩⟩
theorem b9.nil {H:Hp}:b9 H [] []:=⟨rfl,fun i c e=>by simp at e⟩
theorem b9.app {H : Hp} {vs us : List V} {cs ds : List Cm} (h : b9 H vs cs) (k : b9 H us ds) : b9 H (vs ++ us) (cs ++ ds) := by
 refine ⟨by rw [List.length_append,List.length_append,h.1,k.1],fun i o e=>?_⟩
 by_cases hi:i < cs.length
 · rw [List.getElem?_append_left hi] at e
   obtain ⟨u,e1,e2⟩:=h.2 i o e
   exact ⟨u,by rw [List.getElem?_append_left (by rw [h.1];exact hi)];exact e1,e2⟩
 · rw [List.getElem?_append_right (by omega)] at e
   obtain ⟨u,e1,e2⟩:=k.2 _ o e
   exact ⟨u,by rw [List.getElem?_append_right (by rw [h.1];omega),h.1];exact e1,e2⟩
theorem b9.one {H : Hp} {v : V} {c : Cm} (h : Aw H v c) : b9 H [v] [c] := ⟨rfl, fun i c' e => by
 cases i with
 | zero=>simp at e;subst e;exact ⟨v,rfl,h⟩
 | succ i=>simp at e⟩
def qN (r:Rw) (i:Int) (es:List (Option Ent)):List Cm:=match r with | .call t=>((fe t es).map fun w=>Cm.mk i t w).toList | _=>[]
def kQ (r : Rw) (e : Ent) (i : Int) (es : List (Option Ent)) : List Cm := match ic r e with
 | some w=>[⟨i,i,w⟩]
 | none=>((once (r.bq i)).filterMap fun c=>(jl r e c es).map fun w=>Cm.mk i c w) ++ qN r i es
def jP (rs : List Rw) (es : List (Option Ent)) (i : Nat) : List Cm := match rs[i]?, es[i]?.join with
 | some r,some e=>kQ r e i es
 | _,_=>[]
def sU (r:Rw) (oe:Option Ent) (at_:Int) (es:List (Option Ent)):Option Wt:=if r.isCall = true then (match oe with | none=>none | some e=>if (ic r e).isSome = true then none else jl r e at_ es) else some .call
def jJ (rs : List Rw) (es : List (Option Ent)) (i at_ : Int) : Option Wt :=
 if 0 ≤ i ∧ i < es.length then (match rs[i.toNat]?, es[i.toNat]?.join with
   | some r,oe=>sU r oe at_ es
   | none,_=>some .call) else some .call
structure Bl (rs : List Rw) (es : List (Option Ent)) : Prop where
 ok:∀ r ∈ rs,r.ok∧r.here
 nn:∀ t,some t ∈ es→t.nn
 nr:rs.length ≤ 2000
 ne:es.length ≤ 2000
def yU (K : PySem.W.Frag) (a : cp) : Sp := fun vs H Q _ => ∃ (c l : Addr) (i : Nat) (prs : List Addr) (rs : List Rw) (ev : List V) (es : List (Option Ent)), vs = [.ref c, .ref l, .int (i : Int)] ∧ H c = some (.lst (prs.map V.ref)) ∧ bA a H prs rs ∧ H l = some (.lst ev) ∧ ej K H ev es ∧ Bl rs es ∧ i < rs.length ∧ rs.length = es.length ∧
 ∀ p us H',ar H H'→H' p = some (.lst us)→b9 H' us (jP rs es i)→H p = none→Q (.ref p) H'
def wJ (K : PySem.W.Frag) (a : cp) : Sp := fun vs H Q _ => ∃ (c l : Addr) (i z : Int) (prs : List Addr) (rs : List Rw) (ev : List V) (es : List (Option Ent)), vs = [.ref c, .ref l, .int i, .int z] ∧ H c = some (.lst (prs.map V.ref)) ∧ bA a H prs rs ∧ H l = some (.lst ev) ∧ ej K H ev es ∧ Bl rs es ∧ rs.length = es.length ∧
 ∀ H',ar H H'→Q (oV (jJ rs es i z)) H'
def cO (rs:List Rw) (es:List (Option Ent)):List Cm:=if 0 < rs.length then (if gW (es[0]?.join) fo = true then [] else [⟨-1,0,.start⟩]) else []
def jc (rs:List Rw) (es:List (Option Ent)) (ls:List (Int×Int)) (ks:List Int):List Cm:=ks.flatMap fun k=>((jJ rs es k (lv ls k)).map fun w=>Cm.mk k (lv ls k) w).toList
def fX (rs:List Rw) (es:List (Option Ent)) (n:Nat):List Cm:=(List.range n).flatMap fun i=>jP rs es i
def cq (rs : List Rw) (es : List (Option Ent)) (ls : List (Int × Int)) (ks : List Int) : List Cm :=
 if es.length = rs.length then cO rs es ++ fX rs es rs.length ++ jc rs es ls ks else [⟨-1,-1,.length⟩]
theorem nR (rs : List Rw) (es : List (Option Ent)) (n : Nat) : fX rs es (n + 1) = fX rs es n ++ jP rs es n := by
 unfold fX;rw [List.range_succ,List.flatMap_append];simp
theorem BS (r : Rw) (e : Ent) (i : Int) (es : List (Option Ent)) : (kQ r e i es).length ≤ 10 := by
 unfold kQ
 split
 · exact Nat.le_of_ble_eq_true rfl
 · rw [List.length_append]
   have h1:=List.length_filterMap_le (fun c=>(jl r e c es).map fun w=>Cm.mk i c w) (once (r.bq i))
   have h2 : (once (r.bq i)).length ≤ 9 := by
     cases r <;> simp [Rw.bq,once]
     split <;> simp
   have h3 : (qN r i es).length ≤ 1 := by
     unfold qN
     split
     · cases fe _ es <;> exact Nat.le_of_ble_eq_true rfl
     · exact Nat.zero_le _
   omega
theorem rY (rs : List Rw) (es : List (Option Ent)) (i : Nat) : (jP rs es i).length ≤ 10 := by
 unfold jP
 split
 · exact BS _ _ _ _
 · exact Nat.zero_le _
theorem kS (rs : List Rw) (es : List (Option Ent)) : ∀ n, (fX rs es n).length ≤ 10 * n
 | 0=>Nat.le_refl _
 | n + 1 => by
   rw [nR,List.length_append]
   have:=kS rs es n
   have:=rY rs es n
   omega
theorem x8 (rs : List Rw) (es : List (Option Ent)) : (cO rs es).length ≤ 1 := by
 unfold cO
 split
 · split <;> exact Nat.le_of_ble_eq_true rfl
 · exact Nat.zero_le _
def TabOf (K:PySem.W.Frag) (a:cp) (H:Hp) (t:Addr) (ev:List V) (ls:List (Int×Int)):Prop:=∃ dt l d,H t = some (.ins a.bw dt (vv l d))∧H l = some (.lst ev)∧H d = some (.dK (aR ls))
def wq (K : PySem.W.Frag) (a : cp) : Sp := fun vs H Q _ => ∃ (c t : Addr) (prs : List Addr) (rs : List Rw) (ev : List V) (es : List (Option Ent)) (ls : List (Int × Int)), vs = [.ref c, .ref t] ∧ H c = some (.lst (prs.map V.ref)) ∧ bA a H prs rs ∧ TabOf K a H t ev ls ∧ ej K H ev es ∧ Bl rs es ∧ (ls.map (·.1)).Nodup ∧ ls.length < 64 ∧
 ∀ p us ks H',ar H H'→H' p = some (.lst us)→(es.length = rs.length→ks.Perm (ls.map (·.1))∧ks.Pairwise (· ≤ ·))→b9 H' us (cq rs es ls ks)→Q (.ref p) H'
local macro_rules | `(tactic| walk_at "mine") => `(tactic| first | (with_reducible refine GQ ?_) | (with_reducible refine r_isW ?_) | (with_reducible refine GD ?_) | (with_reducible refine Lh ?_) | (with_reducible refine JA ?_) | (with_reducible refine GP ?_) | (with_reducible refine HU ?_) | (with_reducible refine r_makeD _ _ _ ?_) | (with_reducible refine r_bitlen ?_) | (with_reducible refine r_tyI ?_) | (with_reducible refine r_low ?_) | (with_reducible refine FK ?_) | (with_reducible refine HS ?_) | ((with_reducible refine' G_ ?x ?y ?_); (case x => walk_at "sqt"); (case y => with_unfolding_all rfl)) | ((with_reducible refine' G7 ?x ?_); (case x => walk_at "hlk")) | ((with_reducible refine' kh ?x ?y ?_); (case x => walk_at "hlk"); (case y => walk_at "small")) | ((with_reducible refine' v7 ?x ?y ?z ?_); (case x => walk_at "hlk"); (case y => walk_at "hlk"); (case z => walk_at "small")))
local macro_rules | `(tactic| walk_at "rk") => `(tactic| repeat (first | walk_at "r1" | walk_at "r3" | walk_at "cond" | walk_at "calls" | walk_at "mine" | ((with_reducible refine' CA ?h ?_); (case h => rfl)) | ((with_reducible refine' Cy ?h ?_); (case h => rfl)) | ((with_reducible refine' zA ?h ?c ?n ?l ?_); (case h => walk_at "hlk"); (case c => walk_at "cls"); (case n => walk_at "noat"); (case l => walk_at "lk"))))
set_option maxHeartbeats 4000000
section
variable {P:Program} {w:World} {K:PySem.W.Frag} {mg:Str→Option Value} {base:Heap} {a:cp}
theorem gD {A : Hp} {l b : Addr} {x : HO} (h : (upd A l x) b = none) : A b = none ∧ b ≠ l := by
 by_cases e:b = l
 · rw [e,ah] at h;cases h
 · rw [ao e] at h;exact ⟨h,e⟩
def bN (rs : List Rw) (ls : List (Int × Int)) (i : Nat) : List Int := match rs[i]? with
 | some r=>r.bq i ++ (if r.isCall = true∧(i:Int) ∈ ls.map (·.1) then [lv ls i] else [])
 | none=>[]
inductive RH (rs : List Rw) (ls : List (Int × Int)) : Int → Int → Prop
 | start:RH rs ls 0 0
 | way {i:Nat} {h h' w:Int} {r:Rw}:RH rs ls (i:Int) h→rs[i]? = some r→r.bj h = some h'→w ∈ bN rs ls i→RH rs ls w h'
 | call {i:Nat} {h t:Int}:RH rs ls (i:Int) h→rs[i]? = some (.call t)→RH rs ls t 0
def pQ (rs:List Rw) (ls:List (Int×Int)):Prop:=∃ (i h:Int),RH rs ls i h∧(i < 0∨(rs.length:Int) ≤ i∨(∃ r,rs[i.toNat]? = some r∧r.bj h = none)∨∃ h2,RH rs ls i h2∧h2 ≠ h)
structure mi (rs : List Rw) (ls : List (Int × Int)) (hs : List (Option Int)) : Prop where
 len:hs.length = rs.length
 rh:∀ (i:Nat) (h:Int),hs[i]? = some (some h)→RH rs ls (i:Int) h
 start:hs[0]? = some (some 0)
 cl:∀ (i:Nat) (h:Int) (r:Rw),hs[i]? = some (some h)→rs[i]? = some r→∃ h',r.bj h = some h'∧∀ w ∈ bN rs ls i,0 ≤ w∧hs[w.toNat]? = some (some h')
 tg:∀ (i:Nat) (h t:Int),hs[i]? = some (some h)→rs[i]? = some (.call t)→0 ≤ t∧hs[t.toNat]? = some (some 0)
def nV (k:Nat):V:=.int (k:Int)
def nh (H:Hp) (ly:Addr) (rs:List Rw) (ls:List (Int×Int)):Prop:=∃ wps:List Addr,H ly = some (.lst (wps.map V.ref))∧wps.length = rs.length∧∀ (i:Nat) (p:Addr),wps[i]? = some p→H p = some (.lst ((bN rs ls i).map V.int))
theorem nh.same {H H':Hp} {ly:Addr} {rs:List Rw} {ls:List (Int×Int)} (h:nh H ly rs ls) (s:ar H H'):nh H' ly rs ls:=let ⟨wps,h1,h2,h3⟩:=h;⟨wps,s _ _ h1,h2,fun i p e=>s _ _ (h3 i p e)⟩
def uh (K : PySem.W.Frag) (a : cp) : Sp := fun vs H Q _ => ∃ (c d : Addr) (i : Nat) (prs : List Addr) (rs : List Rw) (ls : List (Int × Int)), vs = [.ref c, .ref d, .int (i : Int)] ∧ H c = some (.lst (prs.map V.ref)) ∧ bA a H prs rs ∧ (∀ r ∈ rs, r.ok ∧ r.here) ∧ H d = some (.dK (aR ls)) ∧ (ls.map (·.1)).Nodup ∧ i < rs.length ∧
 ∀ p H',ar H H'→H p = none→H' p = some (.lst ((bN rs ls i).map V.int))→Q (.ref p) H'
def qF (a : cp) : Sp := fun vs H Q E => ∃ (lh lw : Addr) (n high : Int) (hs : List (Option Int)) (ws : List Nat), vs = [.ref lh, .ref lw, .int n, .int high] ∧ H lh = some (.lst (hs.map bW)) ∧ H lw = some (.lst (ws.map nV)) ∧ hs.length ≤ 2000 ∧ ws.length ≤ 2000 ∧ -10000 ≤ n ∧ n ≤ 10000 ∧ lh ≠ lw ∧
 ((n < 0∨(hs.length:Int) ≤ n∨∃ h2,hs[n.toNat]? = some (some h2)∧h2 ≠ high)→E (.ref a.bx) none H)∧(0 ≤ n→hs[n.toNat]? = some (some high)→Q .aH H) ∧
 (0 ≤ n→hs[n.toNat]? = some none→Q .aH (upd (upd H lh (.lst ((hs.set n.toNat (some high)).map bW))) lw (.lst ((ws ++ [n.toNat]).map nV))))
def bF (ks:List Nat):List (Key×V):=ks.map fun k:Nat=>((Sum.inl (k:Int):Key),V.bl true)
def b8 : Option Nat → V
 | none=>.aH
 | some s=>.int (s:Int)
def jn (ks:List Nat) (k:Nat):List Nat:=if k ∈ ks then ks else ks ++ [k]
def iY (o : Option Nat) (p : Nat) : Nat := match o with
 | none=>p
 | some s=>s &&& p
def og : Sp := fun vs H Q _ => ∃ (lsx dc : Addr) (n p : Nat) (ss : List (Option Nat)) (ks : List Nat) (o : Option Nat), vs = [.ref lsx, .ref dc, .int (n : Int), .int (p : Int)] ∧ H lsx = some (.lst (ss.map b8)) ∧ H dc = some (.dK (bF ks)) ∧ ss.length ≤ 2000 ∧ ks.length ≤ 2000 ∧ ks.Nodup ∧ ss[n]? = some o ∧
 (o = some (iY o p)→Q .aH H)∧(o ≠ some (iY o p)→Q .aH (upd (upd H lsx (.lst ((ss.set n (some (iY o p))).map b8))) dc (.dK (bF (jn ks n)))))
theorem xD {n k : Nat} (h : k < n) : nJ n (k : Int) = some k := by
 unfold nJ
 rw [if_pos (by omega),if_pos (by omega)];rfl
theorem Bv {ks : List Nat} (n : Nat) : putK (bF ks) (.inl (n : Int)) (.bl true) = bF (jn ks n) := by
 unfold putK jn
 have e : ((bF ks).any fun kv => decide (kv.1 = (Sum.inl (n : Int) : Key))) = decide (n ∈ ks) := by
   unfold bF
   rw [List.any_map]
   induction ks with
   | nil=>rfl
   | cons k r ih =>
     rw [List.any_cons,ih]
     by_cases h:k = n
     · subst h;simp
     · have h2 : ¬ n = k := fun z => h z.symm
       have h3 : ¬ ((Sum.inl (k:Int):Key) = Sum.inl (n:Int)):=fun z=>h (by have:=Sum.inl.inj z;omega)
       simp only [Function.comp_apply,List.mem_cons,h2,false_or]
       rw [decide_eq_false h3,Bool.false_or]
 rw [e]
 by_cases h:n ∈ ks
 · rw [if_pos (decide_eq_true h), if_pos h]
   unfold bF
   rw [List.map_map]
   refine congrArg (fun f=>ks.map f) (funext fun k=>?_)
   show (if _ then _ else _) = _
   split <;> rfl
 · rw [if_neg (by rw [decide_eq_false h]; exact Bool.false_ne_true), if_neg h]
   unfold bF
   rw [List.map_append];rfl
theorem Ga {ks : List Nat} (h : ks.Nodup) (n : Nat) : (jn ks n).Nodup := by
 unfold jn
 split
 · exact h
 · rename_i hn;exact List.nodup_append.mpr ⟨h,(by simp),fun a ha b hb=>by rw [List.mem_singleton.mp hb];exact fun z=>hn (z ▸ ha)⟩
theorem yB (ks : List Nat) : (bF ks).map (·.1) = (ks.map fun k : Nat => (k : Int)).map Sum.inl := by
 unfold bF
 rw [List.map_map,List.map_map];rfl
theorem ny {α : Type} (f : α→V) (xs:List α) (n:Nat) (x : α):(xs.map f).set n (f x) = (xs.set n x).map f:=by rw [List.map_set]
theorem jL {n : Int} (h1 : -10000 ≤ n) (h2 : n ≤ 10000) : n.natAbs.log2 < 1900 := by
 by_cases h:n.natAbs = 0
 · rw [h];decide
 · exact (Nat.log2_lt h).mpr (Nat.lt_of_lt_of_le (show n.natAbs < 2 ^ 14 by omega) (Nat.pow_le_pow_right (by decide) (by decide)))
def jz (ls:List (Int×Int)):Prop:=(ls.map (·.1)).Nodup∧ls.length < 64∧∀ p ∈ ls,-10000 ≤ p.2∧p.2 ≤ 10000
theorem Hd {ls : List (Int × Int)} {k : Int} (h : k ∈ ls.map (·.1)) : ∃ p ∈ ls, lv ls k = p.2 := by
 unfold lv
 obtain ⟨p,hp,e⟩:=List.mem_map.mp h
 cases hf:ls.find? fun p=>decide (p.1 = k) with
 | none =>
   have:=List.find?_eq_none.mp hf p hp
   rw [decide_eq_true e] at this
   exact absurd rfl this
 | some q=>exact ⟨q,List.mem_of_find?_eq_some hf,rfl⟩
theorem xE {rs : List Rw} {ls : List (Int × Int)} (ay : ∀ r ∈ rs, r.ok ∧ r.here) (hl : jz ls) (hn : rs.length ≤ 2000) {i : Nat} : ∀ w ∈ bN rs ls i, -10000 ≤ w ∧ w ≤ 10000 := by
 intro w hw
 unfold bN at hw
 cases h:rs[i]? with
 | none=>rw [h] at hw;cases hw
 | some r =>
   rw [h] at hw
   have hi:=(List.getElem?_eq_some_iff.mp h).1
   have ho:=(ay r (List.mem_of_getElem? h)).1
   rcases List.mem_append.mp hw with hw | hw
   · cases r <;> simp only [Rw.bq,List.mem_cons,List.not_mem_nil,or_false] at hw <;> simp only [Rw.ok,gn,isVal,jm,xP] at ho <;> omega
   · split at hw
     · rename_i hc
       rw [List.mem_singleton.mp hw]
       obtain ⟨p,hp,e⟩:=Hd hc.2
       rw [e];exact hl.2.2 p hp
     · cases hw
def nN (hs:List (Option Int)):Nat:=(hs.filter fun o=>o.isNone).length
theorem u_ : ∀ {hs : List (Option Int)} {n : Nat} {x : Int}, hs[n]? = some none → nN (hs.set n (some x)) + 1 = nN hs
 | [],n,x,h=>by simp at h
 | o :: r, 0, x, h => by
   have e:o = none:=by simpa using h
   subst e
   rfl
 | o :: r, n + 1, x, h => by
   have ih:=@u_ r n x (by simpa using h)
   unfold nN at ih ⊢
   rw [List.set_cons_succ,List.filter_cons,List.filter_cons]
   split
   · rw [List.length_cons,List.length_cons];omega
   · exact ih
theorem JP (n : Nat) : nN (List.replicate n none) = n := by
 unfold nN
 rw [List.filter_eq_self.mpr (fun a ha=>by rw [List.eq_of_mem_replicate ha];rfl),List.length_replicate]
def G1 (rs : List Rw) (ls : List (Int × Int)) (hs : List (Option Int)) (i : Nat) : Prop := ∀ (h : Int) (r : Rw), hs[i]? = some (some h) → rs[i]? = some r →
 (∃ h',r.bj h = some h'∧∀ w ∈ bN rs ls i,0 ≤ w∧hs[w.toNat]? = some (some h'))∧∀ t,r = .call t→0 ≤ t∧hs[t.toNat]? = some (some 0)
structure HI (rs : List Rw) (ls : List (Int × Int)) (hs : List (Option Int)) (ws : List Nat) (ex : Option Nat) : Prop where
 len:hs.length = rs.length
 rh:∀ (i:Nat) (h:Int),hs[i]? = some (some h)→RH rs ls (i:Int) h
 Fj:∀ k ∈ ws,∃ h,hs[k]? = some (some h)
 cl:∀ i,i ∉ ws→some i ≠ ex→G1 rs ls hs i
 Ft:ws.length + nN hs ≤ hs.length
theorem h_ {hs : List (Option Int)} {n i : Nat} {x h : Int} (e : hs[n]? = some none) (hi : hs[i]? = some (some h)) : (hs.set n (some x))[i]? = some (some h) := by
 have ne:n ≠ i:=fun z=>by rw [z,hi] at e;cases e
 rw [List.getElem?_set_ne ne];exact hi
theorem HI.new {rs : List Rw} {ls : List (Int × Int)} {hs : List (Option Int)} {ws : List Nat} {ex : Option Nat} {n : Nat} {x : Int} (I : HI rs ls hs ws ex) (e : hs[n]? = some none) (r : RH rs ls (n : Int) x) : HI rs ls (hs.set n (some x)) (ws ++ [n]) ex := by
 have hn:=(List.getElem?_eq_some_iff.mp e).1
 refine ⟨by rw [List.length_set];exact I.len,fun i h hi=>?_,fun k hk=>?_,fun i hi hx h r' hh hr'=>?_,?_⟩
 · by_cases z : n = i
   · subst z
     rw [List.getElem?_set_self hn] at hi
     cases hi;exact r
   · rw [List.getElem?_set_ne z] at hi;exact I.rh i h hi
 · rcases List.mem_append.mp hk with hk | hk
   · obtain ⟨h, hh⟩ := I.Fj k hk
     exact ⟨h,h_ e hh⟩
   · rw [List.mem_singleton.mp hk];exact ⟨x,List.getElem?_set_self hn⟩
 · have z : n ≠ i := fun z => hi (List.mem_append_right _ (List.mem_singleton.mpr z.symm))
   rw [List.getElem?_set_ne z] at hh
   obtain ⟨⟨h',a1,a2⟩,a3⟩:=I.cl i (fun hm=>hi (List.mem_append_left _ hm)) hx h r' hh hr'
   exact ⟨⟨h',a1,fun w hw=>⟨(a2 w hw).1,h_ e (a2 w hw).2⟩⟩,fun t ht=>⟨(a3 t ht).1,h_ e (a3 t ht).2⟩⟩
 · have h1 := u_ (x := x) e
   have h2:=I.Ft
   rw [List.length_append,List.length_set];show _ + 1 + _ ≤ _;omega
def DQ (K : PySem.W.Frag) (a : cp) : Sp := fun vs H Q E => ∃ (c ly : Addr) (prs : List Addr) (rs : List Rw) (ls : List (Int × Int)), vs = [.ref c, .ref ly] ∧ H c = some (.lst (prs.map V.ref)) ∧ bA a H prs rs ∧ (∀ r ∈ rs, r.ok ∧ r.here) ∧ 0 < rs.length ∧ rs.length ≤ 2000 ∧ jz ls ∧ nh H ly rs ls ∧
 (pQ rs ls→∀ H',ar H H'→E (.ref a.bx) none H')∧∀ l hs H',ar H H'→H l = none→H' l = some (.lst (hs.map bW))→mi rs ls hs→Q (.ref l) H'
theorem HI.reach {rs : List Rw} {ls : List (Int × Int)} {hs : List (Option Int)} {ws : List Nat} {ex : Option Nat} {n x : Int} (I : HI rs ls hs ws ex) (r : RH rs ls n x) : (n < 0 ∨ (hs.length : Int) ≤ n ∨ ∃ h2, hs[n.toNat]? = some (some h2) ∧ h2 ≠ x) → pQ rs ls := by
 intro hb
 by_cases h0:n < 0
 · exact ⟨n,x,r,.inl h0⟩
 · rcases hb with hb | hb | ⟨h2, e2, n2⟩
   · exact absurd hb h0
   · exact ⟨n,x,r,.inr (.inl (by rw [← I.len];exact hb))⟩
   · have e3 := I.rh _ _ e2
     rw [show ((n.toNat:Nat):Int) = n by omega] at e3
     exact ⟨n,x,r,.inr (.inr (.inr ⟨h2,e3,n2⟩))⟩
theorem HI.close {rs : List Rw} {ls : List (Int × Int)} {hs : List (Option Int)} {ws : List Nat} {k : Nat} (I : HI rs ls hs ws (some k)) (c : G1 rs ls hs k) : HI rs ls hs ws none := ⟨I.len, I.rh, I.Fj, fun i hi _ => by
 by_cases z:i = k
 · rw [z];exact c
 · exact I.cl i hi (fun e=>z (Option.some.inj e)),I.Ft⟩
theorem mO : ∀ (n : Nat) (ks : List Nat), ks.Nodup → (∀ k ∈ ks, k < n) → ks.length ≤ n
 | 0, ks, _, h => by
   cases ks with
   | nil=>exact Nat.le_refl _
   | cons k r=>exact absurd (h k (List.mem_cons_self ..)) (Nat.not_lt_zero k)
 | n + 1, ks, hnd, h => by
   by_cases hm:n ∈ ks
   · have := mO n (ks.erase n) (hnd.erase n) fun k hk => by
       have h1:=hnd.mem_erase_iff.mp hk
       have:=h k h1.2
       have:=h1.1
       omega
     rw [List.length_erase_of_mem hm] at this;omega
   · have := mO n ks hnd fun k hk => by
       have h1:=h k hk
       have h2:k ≠ n:=fun z=>hm (z ▸ hk)
       omega
     omega
def Sub (x y:Nat):Prop:=x &&& y = x
theorem Sub.iff {x y : Nat} : Sub x y ↔ ∀ i, x.testBit i = true → y.testBit i = true := by
 unfold Sub
 constructor
 · intro h i hi
   have:=congrArg (fun z=>z.testBit i) h
   simp only [Nat.testBit_and,hi,Bool.true_and] at this
   exact this
 · intro h
   apply Nat.eq_of_testBit_eq;intro i
   rw [Nat.testBit_and]
   cases hx:x.testBit i with
   | false=>rfl
   | true=>rw [h i hx];rfl
theorem Sub.refl (x:Nat):Sub x x:=Nat.and_self x
theorem Sub.trans {x y z:Nat} (h:Sub x y) (k:Sub y z):Sub x z:=Sub.iff.mpr fun i hi=>Sub.iff.mp k i (Sub.iff.mp h i hi)
theorem Sub.left (x y:Nat):Sub (x &&& y) x:=Sub.iff.mpr fun i hi=>by rw [Nat.testBit_and,Bool.and_eq_true] at hi;exact hi.1
theorem Sub.right (x y:Nat):Sub (x &&& y) y:=Sub.iff.mpr fun i hi=>by rw [Nat.testBit_and,Bool.and_eq_true] at hi;exact hi.2
theorem Sub.both {g x y:Nat} (h:Sub g x) (k:Sub g y):Sub g (x &&& y):=Sub.iff.mpr fun i hi=>by rw [Nat.testBit_and,Sub.iff.mp h i hi,Sub.iff.mp k i hi];rfl
theorem Ac {x y p : Nat} (h : Sub x y) : Sub (Bt.wo x p) (Bt.wo y p) := Sub.iff.mpr fun i hi => by
 rw [Bt.o_,Bool.and_eq_true] at hi ⊢
 exact ⟨Sub.iff.mp h i hi.1,hi.2⟩
theorem zv {x y p q : Nat} (h : Sub x y) : Sub (jO x p q) (jO y p q) := by
 unfold jO
 by_cases hx:x &&& q = 0
 · rw [if_pos hx]
   by_cases hy:y &&& q = 0
   · rw [if_pos hy];exact Ac h
   · rw [if_neg hy]
     refine Sub.iff.mpr fun i hi=>?_
     rw [Bt.o_,Bool.and_eq_true] at hi
     rw [Nat.testBit_or,Sub.iff.mp h i hi.1];rfl
 · have hy : ¬ y &&& q = 0 := fun z => hx (by
     apply Nat.eq_of_testBit_eq;intro i
     have:=congrArg (fun z=>z.testBit i) z
     simp only [Nat.testBit_and,Nat.zero_testBit] at this ⊢
     cases hxi:x.testBit i with
     | false=>rfl
     | true=>rw [Sub.iff.mp h i hxi] at this;exact this)
   rw [if_neg hx,if_neg hy]
   refine Sub.iff.mpr fun i hi=>?_
   rw [Nat.testBit_or,Bool.or_eq_true] at hi ⊢
   rcases hi with hi | hi
   · exact .inl (Sub.iff.mp h i hi)
   · exact .inr hi
theorem A0 {x y : Nat} (r : Rw) (h : Int) (k : Sub x y) : Sub (r.keep x h) (r.keep y h) := by
 cases r
 all_goals first | exact k | exact Ac k | exact zv k
theorem C5 (x p : Nat) : Bt.wo x p ≤ x := by
 have:Sub (Bt.wo x p) x:=Sub.iff.mpr fun i hi=>by rw [Bt.o_,Bool.and_eq_true] at hi;exact hi.1
 rw [← this];exact Nat.and_le_right
theorem oQ {x p q n : Nat} (h : x < 2 ^ n) (k : p < 2 ^ n) : jO x p q < 2 ^ n := by
 unfold jO
 split
 · exact Nat.lt_of_le_of_lt (C5 _ _) h
 · exact Nat.or_lt_two_pow h k
theorem FO {r : Rw} {x : Nat} {h : Int} (ho : r.ok) (h0 : 0 ≤ h) (h1 : h ≤ 4000) (hx : x < 2 ^ 4100) : r.keep x h < 2 ^ 4100 := by
 have t8:∀ m:Nat,m < 4100→2 ^ m < 2 ^ 4100:=fun m hm=>Nat.pow_lt_pow_right (by decide) hm
 cases r
 case copy=>exact oQ hx (t8 _ (by simp only [Rw.ok,gn] at ho;omega))
 case put=>exact oQ hx (t8 _ (by simp only [Rw.ok,gn,jm] at ho;omega))
 case get=>exact oQ hx (t8 _ (by simp only [Rw.ok,gn,jm] at ho;omega))
 all_goals first | exact hx | exact Nat.lt_of_le_of_lt (C5 _ _) hx
theorem Ae {r : Rw} {h h' : Int} (ho : r.ok) (hb : 0 ≤ h ∧ h ≤ 4000) (hh : r.bj h = some h') : 0 ≤ h' ∧ h' ≤ 4000 := by
 cases r
 case grow m =>
   simp only [Rw.bj] at hh
   simp only [Rw.ok,jm] at ho
   split at hh
   · cases hh
   · have:=Option.some.inj hh;omega
 case shrink m =>
   simp only [Rw.bj] at hh
   simp only [Rw.ok,jm] at ho
   split at hh
   · cases hh
   · have:=Option.some.inj hh;omega
 case put b c =>
   simp only [Rw.bj] at hh
   split at hh
   · cases hh
   · have:=Option.some.inj hh;omega
 case get b c =>
   simp only [Rw.bj] at hh
   split at hh
   · cases hh
   · have:=Option.some.inj hh;omega
 all_goals (have:=Option.some.inj (show some h = some h' from hh);omega)
theorem LK {rs : List Rw} {ls : List (Int × Int)} (ay : ∀ r ∈ rs, r.ok ∧ r.here) {i h : Int} (r : RH rs ls i h) : 0 ≤ h ∧ h ≤ 4000 := by
 induction r with
 | start=>exact ⟨by decide,by decide⟩
 | way _ hr hh _ ih=>exact Ae (ay _ (List.mem_of_getElem? hr)).1 ih hh
 | call=>exact ⟨by decide,by decide⟩
def Cons (rs:List Rw) (ls:List (Int×Int)) (hs:List (Option Int)) (first:Nat) (g:Nat→Nat):Prop:=Sub (g 0) first∧∀ (i:Nat) (h:Int) (r:Rw),hs[i]? = some (some h)→rs[i]? = some r→(∀ w ∈ bN rs ls i,Sub (g w.toNat) (r.keep (g i) h))∧∀ t,r = .call t→Sub (g t.toNat) first
def GR (rs : List Rw) (ls : List (Int × Int)) (hs : List (Option Int)) (first : Nat) (ss : List (Option Nat)) (i : Nat) : Prop := ∀ (s : Nat) (h : Int) (r : Rw), ss[i]? = some (some s) → hs[i]? = some (some h) → rs[i]? = some r →
 (∀ w ∈ bN rs ls i,∃ s',ss[w.toNat]? = some (some s')∧Sub s' (r.keep s h))∧∀ t,r = .call t→∃ s',ss[t.toNat]? = some (some s')∧Sub s' first
structure PI (rs : List Rw) (ls : List (Int × Int)) (hs : List (Option Int)) (first : Nat) (ss : List (Option Nat)) (pend : Nat → Prop) : Prop where
 len:ss.length = rs.length
 rd:∀ (i s:Nat),ss[i]? = some (some s)→∃ h,hs[i]? = some (some h)
 bd:∀ (i s:Nat),ss[i]? = some (some s)→s < 2 ^ 4100
 cl:∀ i,¬ pend i→GR rs ls hs first ss i
 up:∀ g,Cons rs ls hs first g→∀ (i s:Nat),ss[i]? = some (some s)→Sub (g i) s
def gu (ss ss':List (Option Nat)):Prop:=∀ (i s:Nat),ss[i]? = some (some s)→∃ s',ss'[i]? = some (some s')∧Sub s' s
theorem gu.refl (ss:List (Option Nat)):gu ss ss:=fun i s h=>⟨s,h,Sub.refl s⟩
theorem gu.trans {a b c : List (Option Nat)} (h : gu a b) (k : gu b c) : gu a c := fun i s e => by
 obtain ⟨s1,e1,q1⟩:=h i s e
 obtain ⟨s2,e2,q2⟩:=k i s1 e1
 exact ⟨s2,e2,q2.trans q1⟩
def bO : List (Option Nat) → Nat
 | []=>0
 | none :: r=>2 ^ 4200 + bO r
 | some s :: r=>s + bO r
theorem oR : ∀ {ss : List (Option Nat)} {n : Nat} {o : Option Nat} {x : Nat}, ss[n]? = some o → (∀ s, o = some s → x < s) → x < 2 ^ 4200 → bO (ss.set n (some x)) < bO ss
 | [],n,o,x,h,_,_=>by simp at h
 | none :: r,0,o,x,h,_,hx=>by show x + bO r < 2 ^ 4200 + bO r;omega
 | some s :: r, 0, o, x, h, k, _ => by
   have:=k s (by simpa using h.symm)
   show x + bO r < s + bO r;omega
 | none :: r, n + 1, o, x, h, k, hx => by
   have:=oR (ss:=r) (n:=n) (o:=o) (x:=x) (by simpa using h) k hx
   show 2 ^ 4200 + bO (r.set n (some x)) < 2 ^ 4200 + bO r;omega
 | some s :: r, n + 1, o, x, h, k, hx => by
   have:=oR (ss:=r) (n:=n) (o:=o) (x:=x) (by simpa using h) k hx
   show s + bO (r.set n (some x)) < s + bO r;omega
section
variable {rs:List Rw} {ls:List (Int×Int)} {hs:List (Option Int)} {first:Nat} {ss:List (Option Nat)} {pend:Nat→Prop} {n p:Nat} {o:Option Nat}
theorem uG (ho : ss[n]? = some o) : gu ss (ss.set n (some (iY o p))) := fun i s e => by
 have hn:=(List.getElem?_eq_some_iff.mp ho).1
 by_cases z:n = i
 · subst z
   rw [ho] at e
   cases e
   exact ⟨_,List.getElem?_set_self hn,Sub.left s p⟩
 · exact ⟨s,by rw [List.getElem?_set_ne z];exact e,Sub.refl s⟩
theorem vQ (ho : ss[n]? = some o) (hne : o ≠ some (iY o p)) (hb : p < 2 ^ 4100) : bO (ss.set n (some (iY o p))) < bO ss := by
 have t8:(2:Nat) ^ 4100 < 2 ^ 4200:=Nat.pow_lt_pow_right (by decide) (by decide)
 refine oR ho (fun s e=>?_) ?_
 · subst e
   have h1:s &&& p ≤ s:=Nat.and_le_left
   have h2:s &&& p ≠ s:=fun z=>hne (by show some s = some (s &&& p);rw [z])
   show s &&& p < s;omega
 · cases o with
   | none=>show p < _;omega
   | some s=>exact Nat.lt_of_le_of_lt (show s &&& p ≤ p from Nat.and_le_right) (by omega)
theorem PI.narrow (I : PI rs ls hs first ss pend) (ho : ss[n]? = some o) (hh : ∃ h, hs[n]? = some (some h)) (hb : p < 2 ^ 4100) (hg : ∀ g, Cons rs ls hs first g → Sub (g n) p) : PI rs ls hs first (ss.set n (some (iY o p))) (fun i => pend i ∨ i = n) := by
 have hn:=(List.getElem?_eq_some_iff.mp ho).1
 have hl:=uG (p:=p) ho
 have hleft:Sub (iY o p) p:=by cases o with | none=>exact Sub.refl p | some s=>exact Sub.right s p
 refine ⟨by rw [List.length_set];exact I.len,fun i s e=>?_,fun i s e=>?_,fun i hi s h r e1 e2 e3=>?_,fun g cg i s e=>?_⟩
 · by_cases z : n = i
   · subst z;exact hh
   · rw [List.getElem?_set_ne z] at e;exact I.rd i s e
 · by_cases z : n = i
   · subst z
     rw [List.getElem?_set_self hn] at e
     cases e
     cases o with
     | none=>exact hb
     | some s=>exact Nat.lt_of_le_of_lt (show s &&& p ≤ p from Nat.and_le_right) hb
   · rw [List.getElem?_set_ne z] at e;exact I.bd i s e
 · have z : n ≠ i := fun z => hi (.inr z.symm)
   rw [List.getElem?_set_ne z] at e1
   obtain ⟨a1,a2⟩:=I.cl i (fun k=>hi (.inl k)) s h r e1 e2 e3
   refine ⟨fun w hw=>?_,fun t ht=>?_⟩
   · obtain ⟨s', b1, b2⟩ := a1 w hw
     obtain ⟨s2,c1,c2⟩:=hl _ _ b1
     exact ⟨s2,c1,c2.trans b2⟩
   · obtain ⟨s', b1, b2⟩ := a2 t ht
     obtain ⟨s2,c1,c2⟩:=hl _ _ b1
     exact ⟨s2,c1,c2.trans b2⟩
 · by_cases z : n = i
   · subst z
     rw [List.getElem?_set_self hn] at e
     cases e
     cases o with
     | none=>exact hg g cg
     | some s0=>exact (I.up g cg n s0 ho).both (hg g cg)
   · rw [List.getElem?_set_ne z] at e;exact I.up g cg i s e
theorem PI.weak {pend':Nat→Prop} (I:PI rs ls hs first ss pend) (h:∀ i,pend i→pend' i):PI rs ls hs first ss pend':=⟨I.len,I.rd,I.bd,fun i hi=>I.cl i fun k=>hi (h i k),I.up⟩
theorem PI.done {pend' : Nat → Prop} (I : PI rs ls hs first ss pend) (h : ∀ i, ¬ pend' i → ¬ pend i ∨ GR rs ls hs first ss i) : PI rs ls hs first ss pend' := ⟨I.len, I.rd, I.bd, fun i hi => by
 rcases h i hi with k | k
 · exact I.cl i k
 · exact k,I.up⟩
end
structure kO (rs : List Rw) (ls : List (Int × Int)) (hs : List (Option Int)) (first : Nat) (ss : List (Option Nat)) : Prop where
 pi:PI rs ls hs first ss (fun _=>False)
 st:∃ s0,ss[0]? = some (some s0)∧Sub s0 first
def CP (K : PySem.W.Frag) (a : cp) : Sp := fun vs H Q _ => ∃ (c ly lh : Addr) (prs : List Addr) (rs : List Rw) (ls : List (Int × Int)) (hs : List (Option Int)) (first : Nat), vs = [.ref c, .ref ly, .ref lh, .int (first : Int)] ∧ H c = some (.lst (prs.map V.ref)) ∧ bA a H prs rs ∧ (∀ r ∈ rs, r.ok ∧ r.here) ∧ 0 < rs.length ∧ rs.length ≤ 2000 ∧ jz ls ∧ nh H ly rs ls ∧ H lh = some (.lst (hs.map bW)) ∧ mi rs ls hs ∧ first < 2 ^ 4100 ∧
 ∀ l ss H',ar H H'→H l = none→H' l = some (.lst (ss.map b8))→kO rs ls hs first ss→Q (.ref l) H'
theorem Ko {rs : List Rw} {ls : List (Int × Int)} {hs : List (Option Int)} {first : Nat} {ss : List (Option Nat)} (P : kO rs ls hs first ss) {i h : Int} (r : RH rs ls i h) : ∃ s, ss[i.toNat]? = some (some s) := by
 induction r with
 | start=>obtain ⟨s0,e,_⟩:=P.st;exact ⟨s0,e⟩
 | way _ hr hh hw ih =>
   obtain ⟨s,e⟩:=ih
   rw [Int.toNat_natCast] at e
   obtain ⟨h0,e0⟩:=P.pi.rd _ _ e
   obtain ⟨s',e',_⟩:=(P.pi.cl _ (fun z=>z) s h0 _ e e0 hr).1 _ hw
   exact ⟨s',e'⟩
 | call _ hr ih =>
   obtain ⟨s,e⟩:=ih
   rw [Int.toNat_natCast] at e
   obtain ⟨h0,e0⟩:=P.pi.rd _ _ e
   obtain ⟨s',e',_⟩:=(P.pi.cl _ (fun z=>z) s h0 _ e e0 hr).2 _ rfl
   exact ⟨s',e'⟩
theorem sV {rs : List Rw} {ls : List (Int × Int)} {hs : List (Option Int)} {first : Nat} {ss : List (Option Nat)} (O : mi rs ls hs) (P : kO rs ls hs first ss) {i : Nat} {h : Int} (e : hs[i]? = some (some h)) : ∃ s, ss[i]? = some (some s) := by
 obtain ⟨s,e1⟩:=Ko P (O.rh i h e)
 rw [Int.toNat_natCast] at e1
 exact ⟨s,e1⟩
structure MZ (rs : List Rw) (ls : List (Int × Int)) (hs : List (Option Int)) (sb s4 s5 s6 : List (Option Nat)) : Prop where
 ht:mi rs ls hs
 pb:kO rs ls hs 128 sb
 p4:kO rs ls hs 16 s4
 p5:kO rs ls hs 32 s5
 p6:kO rs ls hs 64 s6
def gN (ss:List (Option Nat)) (i:Nat):Int:=(((ss[i]?).join).getD 0:Nat)
def d_ (hs:List (Option Int)) (sb s4 s5 s6:List (Option Nat)) (i:Nat):Option Ent:=((hs[i]?).join).map fun h=>⟨h,gN sb i,gN s4 i,gN s5 i,gN s6 i⟩
structure oU (rs : List Rw) (ls : List (Int × Int)) (es : List (Option Ent)) : Prop where
 len:es.length = rs.length
 of : 0 < rs.length→∃ (hs:List (Option Int)) (sb s4 s5 s6:List (Option Nat)),MZ rs ls hs sb s4 s5 s6∧∀ i,i < rs.length→es[i]? = some (d_ hs sb s4 s5 s6 i)
def yy (K : PySem.W.Frag) (a : cp) : Sp := fun vs H Q E => ∃ (c d : Addr) (prs : List Addr) (rs : List Rw) (ls : List (Int × Int)), vs = [.ref c, .ref d] ∧ H c = some (.lst (prs.map V.ref)) ∧ bA a H prs rs ∧ (∀ r ∈ rs, r.ok ∧ r.here) ∧ rs.length ≤ 2000 ∧ jz ls ∧ H d = some (.dK (aR ls)) ∧
 ((0 < rs.length∧pQ rs ls)→∀ H',ar H H'→E (.ref a.bx) none H')∧∀ l ev es H',ar H H'→H l = none→H' l = some (.lst ev)→ej K H' ev es→oU rs ls es→Q (.ref l) H'
def IU (K:PySem.W.Frag) (a:cp) (H H':Hp) (t:Addr) (ev:List V) (ls:List (Int×Int)):Prop:=∃ dt l d,H l = none∧H d = none∧H' t = some (.ins a.bw dt (vv l d))∧H' l = some (.lst ev)∧H' d = some (.dK (aR ls))
def kq (K : PySem.W.Frag) (a : cp) : Sp := fun vs H Q E => ∃ (c : Addr) (lvv : V) (prs : List Addr) (rs : List Rw) (ls : List (Int × Int)), vs = [.ref c, lvv] ∧ H c = some (.lst (prs.map V.ref)) ∧ bA a H prs rs ∧ (∀ r ∈ rs, r.ok ∧ r.here) ∧ rs.length ≤ 2000 ∧ jz ls ∧ ((lvv = .aH ∧ ls = []) ∨ ∃ d, lvv = .ref d ∧ H d = some (.dK (aR ls))) ∧
 (((0 < rs.length∧pQ rs ls)∨∃ es ks,oU rs ls es∧ks.Perm (ls.map (·.1))∧cq rs es ls ks ≠ [])→∀ H',ar H H'→E (.ref a.bx) none H') ∧
 ∀ t ev es ks H',ar H H'→H t = none→IU K a H H' t ev ls→ej K H' ev es→oU rs ls es→ks.Perm (ls.map (·.1))→cq rs es ls ks = []→Q (.ref t) H'
theorem CF {rs : List Rw} {ls : List (Int × Int)} {es : List (Option Ent)} (G : oU rs ls es) : ∀ t, some t ∈ es → t.nn := by
 intro t ht
 obtain ⟨i,hi,e⟩:=List.getElem_of_mem ht
 have hn:i < rs.length:=by rw [← G.len];exact hi
 obtain ⟨hs,sb,s4,s5,s6,_,he⟩:=G.of (by omega)
 have e1:=he i hn
 rw [List.getElem?_eq_getElem hi,e] at e1
 have e2:d_ hs sb s4 s5 s6 i = some t:=(Option.some.inj e1).symm
 unfold d_ at e2
 obtain ⟨h,_,e3⟩:=Option.map_eq_some_iff.mp e2
 rw [← e3]
 exact ⟨Int.natCast_nonneg _,Int.natCast_nonneg _,Int.natCast_nonneg _,Int.natCast_nonneg _⟩
def Jn (H : Hp) (v : V) : Option Ent → Prop
 | none=>v = .aH
 | some e=>∃ p q,v = .ref p∧H p = some (.tup [.int e.h,.int e.b,.ref q])∧H q = some (.tup [.int e.v4,.int e.v5,.int e.v6])
def lC (H:Hp) (vs:List V) (es:List (Option Ent)):Prop:=vs.length = es.length∧∀ (i:Nat) (oe:Option Ent),es[i]? = some oe→∃ v,vs[i]? = some v∧Jn H v oe
theorem lC.to {H H' : Hp} {vs : List V} {es : List (Option Ent)} (h : lC H vs es) (k : ∀ b xs, H b = some (.tup xs) → H' b = some (.tup xs)) : lC H' vs es := ⟨h.1, fun i oe e => by
 obtain ⟨v,e1,e2⟩:=h.2 i oe e
 refine ⟨v,e1,?_⟩
 cases oe with
 | none=>exact e2
 | some en=>obtain ⟨p,q,a1,a2,a3⟩:=e2;exact ⟨p,q,a1,k _ _ a2,k _ _ a3⟩⟩
theorem lC.nil {H:Hp}:lC H [] []:=⟨rfl,fun i oe e=>by simp at e⟩
theorem lC.snoc {H : Hp} {vs : List V} {es : List (Option Ent)} {v : V} {o : Option Ent} (h : lC H vs es) (q : Jn H v o) : lC H (vs ++ [v]) (es ++ [o]) := by
 refine ⟨by rw [List.length_append,List.length_append,h.1];rfl,fun i oe e=>?_⟩
 by_cases hi:i < es.length
 · rw [List.getElem?_append_left hi] at e
   obtain ⟨v',e1,e2⟩:=h.2 i oe e
   exact ⟨v',by rw [List.getElem?_append_left (by rw [h.1];exact hi)];exact e1,e2⟩
 · rw [List.getElem?_append_right (by omega)] at e
   cases hj:i - es.length with
   | zero =>
     rw [hj] at e
     have:o = oe:=by simpa using e
     subst this
     exact ⟨v,by rw [List.getElem?_append_right (by rw [h.1];omega),h.1,hj];rfl,q⟩
   | succ j=>rw [hj] at e;simp at e
theorem lC.ents {K : PySem.W.Frag} {H : Hp} {vs : List V} {es : List (Option Ent)} (h : lC H vs es) : ej K H vs es := ⟨h.1, fun i oe e => by
 obtain ⟨v,e1,e2⟩:=h.2 i oe e
 refine ⟨v,e1,?_⟩
 cases oe with
 | none=>exact e2
 | some en=>obtain ⟨p,q,a1,a2,a3⟩:=e2;exact ⟨p,a1,q,aW.of a2,aW.of a3⟩⟩
theorem m8 {H : Hp} {l : Addr} {ys : List V} {o : HO} (h : H l = some (.lst ys)) (b : Addr) (xs : List V) (e : H b = some (.tup xs)) : (upd H l o) b = some (.tup xs) := by
 rw [ao (fun z=>by subst z;rw [h] at e;cases e)];exact e
def firstsD:List Nat:=[128,16,32,64]
theorem Cv {K : PySem.W.Frag} {C pe x dx : Addr} {lv : V} {xs : List V} {kvs : List (Key × V)} {H : Hp} {R : VK} {E : XK} (hx : H x = none) (hdx : H dx = none) (h1 : az K H pe xs) (h2 : (lv = .aH ∧ kvs = []) ∨ ∃ pd, lv = .ref pd ∧ H pd = some (.dK kvs))
   (q:∀ l d H',ar H H'→H l = none→H d = none→l ≠ d→x ≠ l→x ≠ d→H' x = some (.ins C dx (aN "landings" (.ref d) (aN "entries" (.ref l) [])))→H' l = some (.lst xs)→H' d = some (.dK kvs)→R .aH H') :
   ph K C [.ref x,.ref pe,lv] (upd (upd H dx (.own x)) x (.ins C dx [])) R E:=by
 have s1:ar H (upd (upd H dx (.own x)) x (.ins C dx [])):=fun b o e=>by rw [ao (av e hx),ao (av e hdx)];exact e
 refine ⟨x,dx,pe,lv,xs,kvs,rfl,ah,ar.seq s1 h1,?_,fun l d H' nl nd nld kp hx' hl' hd'=>?_⟩
 · rcases h2 with h2 | ⟨pd, e, h2⟩
   · exact .inl h2
   · exact .inr ⟨pd,e,s1 _ _ h2⟩
 · have nl1 := f6 nl
   have nd1:=f6 nd
   exact q l d H' (fun b o e=>kp b o (s1 b o e) (av e hx)) (f6 nl1.1).1 (f6 nd1.1).1 nld nl1.2.symm nd1.2.symm hx' hl' hd'
def wd (a:cp):Sp:=fun vs H Q _=>∃ c m:Int,vs = [.int c,.int m]∧0 < m∧m ≤ 10∧∀ p r H',ar H H'→H p = none→cK a H' p r→r.ok→r.here→Q (.ref p) H'
structure uc (rs : List Rw) (ls : List (Int × Int)) (hs : List (Option Int)) (fs : List Int) : Prop where
 st:(0:Int) ∈ fs
 rd:∀ w ∈ fs,0 ≤ w∧∃ h,hs[w.toNat]? = some (some h)
 nd:fs.Nodup
def L7 (rs:List Rw) (ls:List (Int×Int)) (fs:List Int) (w:Int):Prop:=(∀ v ∈ bN rs ls w.toNat,v ∈ fs)∧∀ t,rs[w.toNat]? = some (.call t)→t ∈ fs
theorem ja {rs : List Rw} {ls : List (Int × Int)} {hs : List (Option Int)} {fs : List Int} (F : uc rs ls hs fs) : fs.length ≤ hs.length := by
 have h1:(fs.map Int.toNat).Nodup:=List.pairwise_map.mpr (List.Pairwise.imp_of_mem (fun {a b} ha hb hab e=>hab (by have:=(F.rd a ha).1;have:=(F.rd b hb).1;omega)) F.nd)
 have := mO hs.length _ h1 fun k hk => by
   obtain ⟨w,hw,rfl⟩:=List.mem_map.mp hk
   obtain ⟨_,h,e⟩:=F.rd w hw
   exact (List.getElem?_eq_some_iff.mp e).1
 rwa [List.length_map] at this
theorem F_ {rs : List Rw} {ls : List (Int × Int)} {fs : List Int} (st : (0 : Int) ∈ fs) (cl : ∀ w ∈ fs, L7 rs ls fs w) {i h : Int} (r : RH rs ls i h) : i ∈ fs := by
 induction r with
 | start=>exact st
 | way _ hr hh hw ih=>have:=(cl _ ih).1;rw [Int.toNat_natCast] at this;exact this _ hw
 | call _ hr ih=>have:=(cl _ ih).2;rw [Int.toNat_natCast] at this;exact this _ hr
def q0 (a : cp) : Sp := fun vs H Q _ => ∃ (c d : Addr) (prs : List Addr) (rs : List Rw) (ls : List (Int × Int)) (hs : List (Option Int)), vs = [.ref c, .ref d] ∧ H c = some (.lst (prs.map V.ref)) ∧ bA a H prs rs ∧ (∀ r ∈ rs, r.ok ∧ r.here) ∧ 0 < rs.length ∧ rs.length ≤ 10 ∧ jz ls ∧ H d = some (.dK (aR ls)) ∧ mi rs ls hs ∧
 ∀ l fs H',ar H H'→H l = none→H' l = some (.lst (fs.map V.int))→uc rs ls hs fs→(∀ i:Nat,(i:Int) ∈ fs ↔ ∃ h,hs[i]? = some (some h))→Q (.ref l) H'
def oA (a : cp) : Sp := fun vs H Q _ => ∃ (c l : Addr) (prs : List Addr) (rs : List Rw) (ls : List (Int × Int)) (hs : List (Option Int)) (fs : List Int), vs = [.ref c, .ref l] ∧ H c = some (.lst (prs.map V.ref)) ∧ bA a H prs rs ∧ (∀ r ∈ rs, r.ok ∧ r.here) ∧ rs.length ≤ 10 ∧ mi rs ls hs ∧ H l = some (.lst (fs.map V.int)) ∧ uc rs ls hs fs ∧
 ∀ (p:Addr) (gs:List Int) (H':Hp),ar H H'→H p = none→H' p = some (.lst (gs.map V.int))→gs.length ≤ 11→(∀ g ∈ gs,g = 0∨∃ (i:Nat) (h:Int),hs[i]? = some (some h)∧rs[i]? = some (.call g))→Q (.ref p) H'
def oO (K : PySem.W.Frag) (a : cp) : Sp := fun vs H Q _ => ∃ (c d : Addr) (prs : List Addr) (rs : List Rw) (ls : List (Int × Int)), vs = [.ref c, .ref d] ∧ H c = some (.lst (prs.map V.ref)) ∧ bA a H prs rs ∧ (∀ r ∈ rs, r.ok ∧ r.here) ∧ rs.length ≤ 2000 ∧ jz ls ∧ H d = some (.dK (aR ls)) ∧
 (∀ H',ar H H'→Q .aH H') ∧
 ∀ t ev es ks H',ar H H'→H t = none→IU K a H H' t ev ls→ej K H' ev es→oU rs ls es→ks.Perm (ls.map (·.1))→cq rs es ls ks = []→Q (.ref t) H'
def zM:Sp:=fun vs H Q _=>∃ c:Int,vs = [.int c]∧∀ H',ar H H'→Q (.bl true) H'
def fP (b:Int) (n:Nat):List Rw:=List.replicate n (.set b 5) ++ [.back 7]
theorem hX (b:Int) (n:Nat):(fP b n).length = n + 1:=by unfold fP;rw [List.length_append,List.length_replicate];rfl
theorem my {b : Int} {n i : Nat} (h : i < n) : (fP b n)[i]? = some (.set b 5) := by
 unfold fP;rw [List.getElem?_append_left (by rw [List.length_replicate];exact h),List.getElem?_replicate,if_pos h]
theorem qp (b : Int) (n : Nat) : (fP b n)[n]? = some (.back 7) := by
 unfold fP;rw [List.getElem?_append_right (by rw [List.length_replicate];exact Nat.le_refl _),List.length_replicate,Nat.sub_self];rfl
theorem pF {b : Int} {n i : Nat} {r : Rw} (e : (fP b n)[i]? = some r) : (i < n ∧ r = .set b 5) ∨ (i = n ∧ r = .back 7) := by
 have hi:=(List.getElem?_eq_some_iff.mp e).1
 rw [hX] at hi
 by_cases h:i < n
 · rw [my h] at e;exact .inl ⟨h,(Option.some.inj e).symm⟩
 · obtain rfl : i = n := by omega
   rw [qp] at e;exact .inr ⟨rfl,(Option.some.inj e).symm⟩
theorem rm {b : Int} {n i : Nat} (h : i < n) : bN (fP b n) [] i = [(i : Int) + 1] := by
 unfold bN;rw [my h];simp [Rw.bq,Rw.isCall]
theorem mC (b : Int) (n : Nat) : bN (fP b n) [] n = [] := by
 unfold bN;rw [qp];simp [Rw.bq,Rw.isCall]
theorem sZ {b : Int} {n : Nat} {i h : Int} (r : RH (fP b n) [] i h) : 0 ≤ i ∧ i ≤ n ∧ h = 0 := by
 induction r with
 | start=>exact ⟨Int.le_refl _,by omega,rfl⟩
 | way _ hr hh hw ih =>
   rcases pF hr with ⟨hi,rfl⟩ | ⟨rfl,rfl⟩
   · rw [rm hi, List.mem_singleton] at hw
     cases hh
     exact ⟨by omega,by omega,ih.2.2⟩
   · rw [mC] at hw;simp at hw
 | call _ hr ih=>rcases pF hr with ⟨_,e⟩ | ⟨_,e⟩ <;> cases e
theorem FH (b : Int) (n : Nat) : ¬ pQ (fP b n) [] := by
 rintro ⟨i,h,r,h1 | h1 | ⟨r',e,h1⟩ | ⟨h2,r2,h1⟩⟩
 · have:=sZ r;omega
 · have:=sZ r;rw [hX] at h1;omega
 · rcases pF e with ⟨_,rfl⟩ | ⟨_,rfl⟩ <;> cases h1
 · exact h1 ((sZ r2).2.2.trans (sZ r).2.2.symm)
theorem D2 {b : Int} {n : Nat} {hs : List (Option Int)} (O : mi (fP b n) [] hs) (i : Nat) : i ≤ n → hs[i]? = some (some 0) := by
 induction i with
 | zero=>exact fun _=>O.start
 | succ i ih =>
   intro h
   obtain ⟨h',e1,e2⟩:=O.cl i 0 _ (ih (by omega)) (my (by omega))
   obtain ⟨_,e3⟩:=e2 ((i:Int) + 1) (by rw [rm (by omega)];exact List.mem_singleton.mpr rfl)
   cases e1
   rwa [show ((i:Int) + 1).toNat = i + 1 by omega] at e3
theorem sR {b : Int} {n : Nat} {hs : List (Option Int)} {f : Nat} {ss : List (Option Nat)} (O : mi (fP b n) [] hs) (P : kO (fP b n) [] hs f ss) (hf : Bt.wo f (2 ^ b.toNat) = f) (i : Nat) (hi : i ≤ n) : ss[i]? = some (some f) := by
 have hup := P.pi.up (fun _ => f) ⟨Sub.refl f, fun i h r e1 e2 => by
   rcases pF e2 with ⟨h1,rfl⟩ | ⟨rfl,rfl⟩
   · exact ⟨fun w _=>by show Sub f (Bt.wo f (2 ^ b.toNat));rw [hf];exact Sub.refl f,fun t e=>by cases e⟩
   · exact ⟨fun w hw=>by rw [mC] at hw;simp at hw,fun t e=>by cases e⟩⟩
 have hdn : ∀ i : Nat, i ≤ n → ∃ s, ss[i]? = some (some s) ∧ Sub s f := by
   intro i
   induction i with
   | zero=>exact fun _=>P.st
   | succ i ih =>
     intro h
     obtain ⟨s,e1,e2⟩:=ih (by omega)
     obtain ⟨s',f1,f2⟩:=(P.pi.cl i (fun z=>z) s 0 _ e1 (D2 O i (by omega)) (my (by omega))).1 ((i:Int) + 1) (by rw [rm (by omega)];exact List.mem_singleton.mpr rfl)
     rw [show ((i:Int) + 1).toNat = i + 1 by omega] at f1
     have f2:Sub s' (Bt.wo s (2 ^ b.toNat)):=f2
     refine ⟨s',f1,(f2.trans (Sub.iff.mpr fun j hj=>?_)).trans e2⟩
     rw [Bt.o_,Bool.and_eq_true] at hj
     exact hj.1
 obtain ⟨s,e1,e2⟩:=hdn i hi
 have e3:Sub f s:=hup i s e1
 rw [e1,show s = f from by have a1:s &&& f = s:=e2;have a2:f &&& s = f:=e3;rw [← a1,Nat.and_comm,a2]]
theorem Dv {b : Int} (h0 : 0 ≤ b) (h3 : b ≤ 3) : Bt.wo 128 (2 ^ b.toNat) = 128 ∧ Bt.wo 16 (2 ^ b.toNat) = 16 ∧ Bt.wo 32 (2 ^ b.toNat) = 32 ∧ Bt.wo 64 (2 ^ b.toNat) = 64 := by
 rcases (show b = 0∨b = 1∨b = 2∨b = 3 by omega) with rfl | rfl | rfl | rfl <;> exact ⟨rfl,rfl,rfl,rfl⟩
theorem v9 {b : Int} {n : Nat} {es : List (Option Ent)} (h0 : 0 ≤ b) (h3 : b ≤ 3) (G : oU (fP b n) [] es) (i : Nat) (hi : i ≤ n) : es[i]? = some fo := by
 obtain ⟨hs,sb,s4,s5,s6,P,he⟩:=G.of (by rw [hX];omega)
 obtain ⟨w1,w2,w3,w4⟩:=Dv h0 h3
 rw [he i (by rw [hX];omega)]
 unfold d_ gN
 rw [D2 P.ht i hi,sR P.ht P.pb w1 i hi,sR P.ht P.p4 w2 i hi,sR P.ht P.p5 w3 i hi,sR P.ht P.p6 w4 i hi]
 rfl
theorem AZ {b : Int} {n : Nat} {es : List (Option Ent)} (h0 : 0 ≤ b) (h3 : b ≤ 3) (G : oU (fP b n) [] es) : cq (fP b n) es [] [] = [] := by
 have hE:=v9 h0 h3 G
 obtain ⟨w1,w2,w3,w4⟩:=Dv h0 h3
 have hl:=G.len
 unfold cq
 rw [if_pos hl]
 have e1 : cO (fP b n) es = [] := by
   unfold cO
   rw [if_pos (by rw [hX];omega),hE 0 (Nat.zero_le _)]
   rfl
 have e2 : fX (fP b n) es (fP b n).length = [] := by
   unfold fX
   refine List.flatMap_eq_nil_iff.mpr fun i hi=>?_
   have hi:=List.mem_range.mp hi
   rw [hX] at hi
   unfold jP
   rw [hE i (by omega)]
   by_cases hn:i < n
   · rw [my hn]
     have eo:ic (.set b 5) ⟨0,128,16,32,64⟩ = none:=rfl
     show kQ (.set b 5) ⟨0,128,16,32,64⟩ i es = []
     unfold kQ
     rw [eo]
     have ew : jl (.set b 5) ⟨0, 128, 16, 32, 64⟩ ((i : Int) + 1) es = none := by
       unfold jl
       rw [if_pos ⟨by omega,by rw [hl,hX];omega⟩,show ((i:Int) + 1).toNat = i + 1 by omega,hE (i + 1) (by omega)]
       show (if (some (0:Int)) = some 0 then pW (.set b 5) ⟨0,128,16,32,64⟩ ⟨0,128,16,32,64⟩ else some .bj) = none
       rw [if_pos rfl]
       unfold pW
       show (if Bt.wo 128 (Bt.wo 128 (2 ^ b.toNat)) ≠ 0 then _ else if Bt.wo 16 (Bt.wo 16 (2 ^ b.toNat)) ≠ 0 then _ else if Bt.wo 32 (Bt.wo 32 (2 ^ b.toNat)) ≠ 0 then _ else if Bt.wo 64 (Bt.wo 64 (2 ^ b.toNat)) ≠ 0 then _ else none) = none
       rw [w1,w2,w3,w4]
       rfl
     show ([(i:Int) + 1].filterMap fun c=>(jl (.set b 5) ⟨0,128,16,32,64⟩ c es).map fun w=>Cm.mk i c w) ++ [] = []
     rw [List.filterMap_cons,ew]
     rfl
   · obtain rfl : i = n := by omega
     rw [qp]
     rfl
 rw [e1,e2]
 rfl
def LX (R : Addr → Hp → Prop) : VK := fun v H => match v with
 | .ref p=>R p H
 | _=>False
theorem GB {C : Addr} {mk : Int → Rw} {a : cp} {i : Int} {H : Hp} {R : Addr → Hp → Prop} {E : XK} (hk : (mk i).ok) (hc : (mk i).cls a = C) (q : ∀ p H', ar H H' → H p = none → cK a H' p (mk i) → R p H') :
   ∀ x dx,H x = none→H dx = none→dx ≠ x→fH C mk (.ref x :: [.int i]) (upd (upd H dx (.own x)) x (.ins C dx [])) (fun v H2=>v = .aH∧R x H2) E:=ka (Q:=LX R) hk hc q
theorem GF {C : Addr} {mk : Int → Int → Rw} {a : cp} {i j : Int} {H : Hp} {R : Addr → Hp → Prop} {E : XK} (hk : (mk i j).ok) (hc : (mk i j).cls a = C) (q : ∀ p H', ar H H' → H p = none → cK a H' p (mk i j) → R p H') :
   ∀ x dx,H x = none→H dx = none→dx ≠ x→j8 C mk (.ref x :: [.int i,.int j]) (upd (upd H dx (.own x)) x (.ins C dx [])) (fun v H2=>v = .aH∧R x H2) E:=uI (Q:=LX R) hk hc q
def KS:R2:=fun x y H Q=>y = .bl false∧∃ p,x = .ref p∧Q (.bl false) H
theorem He {X : Cx} : bJ X (compareOp .Is) KS := by
 intro pins s σ H x y v u Q I rx ry h
 obtain ⟨rfl,p,rfl,q⟩:=h
 cases ry
 cases rx
 exact wpAny_pure (a:=Value.bool (Value.ref p == Value.bool false)) (bp I q rfl)
def rk:V→List V→Hp→VK→Prop:=fun x xs H Q=>∃ a kvs,x = .ref a∧xs = []∧H a = some (.dK kvs)∧Q .aH (upd H a (.dK []))
theorem yr {X : Cx} : yl X "dict.clear" rk := by
 intro pins s σ H x xs v us Q I rx rs h
 obtain ⟨a,kvs,rfl,rfl,e,q⟩:=h
 cases rs
 cases rx
 exact FI I e fun s' I'=>⟨.aH,_,I',rfl,q⟩
theorem A2 {a:Addr} {kvs:List (Key×V)} {H:Hp} {Q:VK} (h:H a = some (.dK kvs)) (q:Q .aH (upd H a (.dK []))):rk (.ref a) [] H Q:=⟨a,kvs,rfl,rfl,h,q⟩
theorem LP {K:PySem.W.Frag} {H:Hp} {p:Addr} {kvs:List (Key×V)} {R:Prop} (h:H p = some (.dK kvs)) (q:R):rQ K "dict" (.ref p) H∧R:=⟨.inr (.inr (.inl ⟨rfl,.inl ⟨kvs,h⟩⟩)),q⟩
theorem wc {ls : List (Int × Int)} {c r : Int} (h : jz ls) (hl : ls.length < 60) (r1 : -10000 ≤ r) (r2 : r ≤ 10000) : ∃ ls', putK (aR ls) (.inl c) (.int r) = aR ls' ∧ jz ls' ∧ ls'.length ≤ ls.length + 1 := by
 obtain ⟨h1,h2,h3⟩:=h
 by_cases hm:c ∈ ls.map (·.1)
 · refine ⟨ls.map fun p => if p.1 = c then (p.1, r) else p, ?_, ⟨?_, by rw [List.length_map]; omega, fun p hp => ?_⟩, by rw [List.length_map]; omega⟩
   · unfold putK
     rw [kX]
     obtain ⟨p,hp,rfl⟩:=List.mem_map.mp hm
     rw [(iw h1 p hp).1,if_pos (show (some (V.int p.2)).isSome = true from rfl)]
     unfold aR
     rw [List.map_map,List.map_map]
     refine List.map_congr_left fun q _=>?_
     show (if (Sum.inl q.1:Key) = Sum.inl p.1 then ((Sum.inl q.1:Key),V.int r) else (Sum.inl q.1,V.int q.2)) = (Sum.inl (if q.1 = p.1 then (q.1,r) else q).1,V.int (if q.1 = p.1 then (q.1,r) else q).2)
     by_cases e:q.1 = p.1
     · rw [if_pos (by rw [e]),if_pos e]
     · rw [if_neg (fun z=>e (Sum.inl.inj z)),if_neg e]
   · rw [List.map_map, show ((fun x : Int × Int => x.1) ∘ fun p : Int × Int => if p.1 = c then (p.1, r) else p) = fun p => p.1 from funext fun p => by
       show (if p.1 = c then (p.1,r) else p).1 = p.1
       split <;> rfl]
     exact h1
   · obtain ⟨p', hp', rfl⟩ := List.mem_map.mp hp
     split
     · exact ⟨r1,r2⟩
     · exact h3 p' hp'
 · refine ⟨ls ++ [(c, r)], A5 (jK hm), ⟨?_, by rw [List.length_append, List.length_singleton]; omega, fun p hp => ?_⟩, by rw [List.length_append, List.length_singleton]; omega⟩
   · rw [List.map_append, List.nodup_append]
     refine ⟨h1,by simp,fun x hx y hy z=>?_⟩
     have:y = c:=by simpa using hy
     rw [z,this] at hx
     exact hm hx
   · rcases List.mem_append.mp hp with hp | hp
     · exact h3 p hp
     · rw [List.mem_singleton.mp hp];exact ⟨r1,r2⟩
theorem Gy (xs : List Int) {k : Int} (h0 : 0 ≤ k) : (oK xs (some 2) (some (2 + k))).length ≤ k.toNat := by
 unfold oK
 rw [show HT.bB xs.length 0 (some 2) = min 2 xs.length from HT.wm _ _ 2,show (2:Int) + k = ((2 + k.toNat:Nat):Int) from by omega,HT.wm,List.length_take,List.length_drop]
 omega
theorem ej.Mt {K : PySem.W.Frag} {H : Hp} {p : Addr} {kvs : List (Key × V)} {vs : List V} {es : List (Option Ent)} {o : HO} (hp : H p = some (.dK kvs)) (h : ej K H vs es) : ej K (upd H p o) vs es := by
 have sq : ∀ {x : Addr} {xs : List V}, aW K H x xs → aW K (upd H p o) x xs := fun {x xs} h => by
   have nx:∀ o',H x = some o'→(∀ l,o' ≠ .dK l)→(upd H p o) x = some o':=fun o' e n=>by rw [ao (fun z=>by subst z;rw [hp] at e;cases e;exact n _ rfl)];exact e
   rcases h with (h | ⟨o',h⟩) | h
   · exact .inl (.inl (nx _ h fun l z=>by cases z))
   · exact .inl (.inr ⟨o',nx _ h fun l z=>by cases z⟩)
   · exact .inr h
 refine ⟨h.1,fun i oe e=>?_⟩
 obtain ⟨v,e1,e2⟩:=h.2 i oe e
 refine ⟨v,e1,?_⟩
 cases oe with
 | none=>exact e2
 | some en =>
   obtain ⟨p',e3,q,h1,h2⟩:=e2
   exact ⟨p',e3,q,sq h1,sq h2⟩
theorem Gf {rs : List Rw} {es : List (Option Ent)} {ls : List (Int × Int)} {ks : List Int} (hl : es.length = rs.length) (hz : cq rs es ls ks = []) {k : Int} (hk : k ∈ ks) : 0 ≤ k ∧ k < rs.length ∧ ∃ r, rs[k.toNat]? = some r ∧ r.isCall = true := by
 unfold cq at hz
 rw [if_pos hl] at hz
 have h4:=List.flatMap_eq_nil_iff.mp (List.append_eq_nil_iff.mp hz).2 k hk
 have h5 : jJ rs es k (lv ls k) = none := by
   cases h:jJ rs es k (lv ls k) with
   | none=>rfl
   | some w=>rw [h] at h4;cases h4
 unfold jJ at h5
 by_cases hb : 0 ≤ k∧k < es.length
 · rw [if_pos hb] at h5
   have hi:k.toNat < rs.length:=by omega
   rw [List.getElem?_eq_getElem hi] at h5
   refine ⟨hb.1,by omega,_,List.getElem?_eq_getElem hi,?_⟩
   unfold sU at h5
   by_cases hc:rs[k.toNat].isCall = true
   · exact hc
   · simp [hc] at h5
 · rw [if_neg hb] at h5;cases h5
theorem K6 {rs : List Rw} {es : List (Option Ent)} {ls : List (Int × Int)} {ks : List Int} (hl : es.length = rs.length) (hz : cq rs es ls ks = []) (h0 : 0 < rs.length) : gW (es[0]?.join) fo = true := by
 unfold cq at hz
 rw [if_pos hl] at hz
 have h1:=(List.append_eq_nil_iff.mp (List.append_eq_nil_iff.mp hz).1).1
 unfold cO at h1
 rw [if_pos h0] at h1
 by_cases h:gW (es[0]?.join) fo = true
 · exact h
 · rw [if_neg h] at h1;cases h1
theorem Ly {rs : List Rw} {es : List (Option Ent)} {ls : List (Int × Int)} {ks : List Int} (hl : es.length = rs.length) (hz : cq rs es ls ks = []) {i : Nat} {t : Int} {e : Ent} (hr : rs[i]? = some (.call t)) (he : es[i]?.join = some e) : 0 ≤ t ∧ t < es.length ∧ gW (es[t.toNat]?.join) fo = true := by
 unfold cq at hz
 rw [if_pos hl] at hz
 have h1:=(List.append_eq_nil_iff.mp (List.append_eq_nil_iff.mp hz).1).2
 have h2:=List.flatMap_eq_nil_iff.mp h1 i (List.mem_range.mpr (List.getElem?_eq_some_iff.mp hr).1)
 unfold jP at h2
 rw [hr,he] at h2
 have h2:kQ (.call t) e i es = []:=h2
 unfold kQ at h2
 cases ho:ic (.call t) e with
 | some w=>rw [ho] at h2;cases h2
 | none =>
   rw [ho] at h2
   have h3:((fe t es).map fun w=>Cm.mk i t w).toList = []:=(List.append_eq_nil_iff.mp h2).2
   have h4 : fe t es = none := by
     cases h:fe t es with
     | none=>rfl
     | some w=>rw [h] at h3;cases h3
   unfold fe at h4
   by_cases hb : 0 ≤ t∧t < es.length
   · rw [if_pos hb] at h4
     by_cases hc:gW (es[t.toNat]?.join) fo = true
     · exact ⟨hb.1,hb.2,hc⟩
     · rw [if_neg hc] at h4;cases h4
   · rw [if_neg hb] at h4;cases h4
theorem dh (T : Txt K mg a) : cV P w K mg base ba 1 "bounded" ma := by
 refine bT (sp:=ma) 0 T.pN xl (fun vs H Q E h=>?_) (fun f cdv A outer s H vs Q E hr h=>?_)
 · obtain ⟨n, top, rfl, _⟩ := h
   rfl
 · obtain ⟨n, top, rfl, h0, h1, q⟩ := h
   refine ⟨_, (ai (aX (PW.pt (fO (aE iF (pv 0) ak (aG _)) (fE (aE lj (pv 0) (pv 1) (aG _))))) (ag BY) aI)
     (ag (aw (pv 0)))),?_⟩
   refine a_ (σ':=[some _,some _]) rfl ?_
   walk_at "rd"
   exact q
theorem jo (T : Txt K mg a) : cV P w K mg base ba 1 "box_place" qC := by
 refine bT (sp:=qC) 0 T.mI ve (fun vs H Q E h=>?_) (fun f cdv A outer s H vs Q E hr h=>?_)
 · obtain ⟨b, rfl, _⟩ := h
   rfl
 · obtain ⟨b, rfl, h0, h1, q⟩ := h
   refine ⟨_,(ag (aw (aQ Ge ak (pv 0)))),?_⟩
   refine a_ (σ':=[some _]) rfl ?_
   walk_at "rd"
   refine L6 (Gr h0 (by omega)) ?_
   rw [F6]
   exact q
theorem pX (T : Txt K mg a) : cV P w K mg base ba 1 "without" mF := by
 refine bT (sp:=mF) 0 T.pJ xH (fun vs H Q E h=>?_) (fun f cdv A outer s H vs Q E hr h=>?_)
 · obtain ⟨s, p, rfl, _⟩ := h
   rfl
 · obtain ⟨s, p, rfl, q⟩ := h
   refine ⟨_,(ag (aw (aQ m6 (pv 0) (pP yD (pv 1))))),?_⟩
   refine a_ (σ':=[some _,some _]) rfl ?_
   walk_at "rd"
   rw [iM]
   exact q
theorem vF (T : Txt K mg a) (b n : Int) : br P w K mg base ba 1 a.bf "goes" (dR a (.set b n)) := by
 refine be (sp:=(dR a (.set b n))) 0 T.jB T.pL jU (fun vs H Q E h=>?_) (fun f cdv A outer s H vs Q E hr h=>?_)
 · obtain ⟨x, z, rfl, _⟩ := h
   rfl
 · obtain ⟨x, z, rfl, ⟨dx, hx⟩, q⟩ := h
   change H x = some (.ins a.bf dx (aN "number" (.int n) (aN "box" (.int b) []))) at hx
   refine ⟨_,(ag (aw (bH (aa (aQ (bD (K:=K) rfl) (pv 1) ak) af)))),?_⟩
   refine a_ (σ':=[some _,some _]) rfl ?_
   walk_at "rd"
   exact q _ (by assumption)
theorem ue (T : Txt K mg a) (t : Int) : br P w K mg base ba 1 a.aD "goes" (dR a (.call t)) := by
 refine be (sp:=(dR a (.call t))) 0 T.ij T.nM jU (fun vs H Q E h=>?_) (fun f cdv A outer s H vs Q E hr h=>?_)
 · obtain ⟨x, z, rfl, _⟩ := h
   rfl
 · obtain ⟨x, z, rfl, ⟨dx, hx⟩, q⟩ := h
   change H x = some (.ins a.aD dx (aN "target" (.int t) [])) at hx
   refine ⟨_,(ag (aw (bH (aa (aQ (bD (K:=K) rfl) (pv 1) ak) af)))),?_⟩
   refine a_ (σ':=[some _,some _]) rfl ?_
   walk_at "rd"
   exact q _ (by assumption)
theorem uA (T : Txt K mg a) (m : Int) : br P w K mg base ba 1 a.aY "goes" (dR a (.grow m)) := by
 refine be (sp:=(dR a (.grow m))) 0 T.iz T.nO jU (fun vs H Q E h=>?_) (fun f cdv A outer s H vs Q E hr h=>?_)
 · obtain ⟨x, z, rfl, _⟩ := h
   rfl
 · obtain ⟨x, z, rfl, ⟨dx, hx⟩, q⟩ := h
   change H x = some (.ins a.aY dx (aN "many" (.int m) [])) at hx
   refine ⟨_,(ag (aw (bH (aa (aQ (bD (K:=K) rfl) (pv 1) ak) af)))),?_⟩
   refine a_ (σ':=[some _,some _]) rfl ?_
   walk_at "rd"
   exact q _ (by assumption)
theorem qS (T : Txt K mg a) (b : Int) : br P w K mg base ba 1 a.aK "height" (cf a (.back b)) := by
 refine be (sp:=(cf a (.back b))) 0 T.iq T.lM dY (fun vs H Q E h=>?_) (fun f cdv A outer s H vs Q E hr h=>?_)
 · obtain ⟨x, z, rfl, _⟩ := h
   rfl
 · obtain ⟨x, z, rfl, ⟨dx, hx⟩, q⟩ := h
   change H x = some (.ins a.aK dx (aN "box" (.int b) [])) at hx
   refine ⟨_,(ag (aw (pv 1))),?_⟩
   refine a_ (σ':=[some _,some _]) rfl ?_
   walk_at "rds"
   all_goals (try simp only [Rw.bj] at q);(repeat' split at q) <;> first | exact q | (exfalso;omega)
theorem sA (T : Txt K mg a) (b n : Int) : br P w K mg base ba 1 a.bf "height" (cf a (.set b n)) := by
 refine be (sp:=(cf a (.set b n))) 0 T.jB T.mh dY (fun vs H Q E h=>?_) (fun f cdv A outer s H vs Q E hr h=>?_)
 · obtain ⟨x, z, rfl, _⟩ := h
   rfl
 · obtain ⟨x, z, rfl, ⟨dx, hx⟩, q⟩ := h
   change H x = some (.ins a.bf dx (aN "number" (.int n) (aN "box" (.int b) []))) at hx
   refine ⟨_,(ag (aw (pv 1))),?_⟩
   refine a_ (σ':=[some _,some _]) rfl ?_
   walk_at "rds"
   all_goals (try simp only [Rw.bj] at q);(repeat' split at q) <;> first | exact q | (exfalso;omega)
theorem qK (T : Txt K mg a) (t : Int) : br P w K mg base ba 1 a.aZ "height" (cf a (.gv t)) := by
 refine be (sp:=(cf a (.gv t))) 0 T.ir T.lP dY (fun vs H Q E h=>?_) (fun f cdv A outer s H vs Q E hr h=>?_)
 · obtain ⟨x, z, rfl, _⟩ := h
   rfl
 · obtain ⟨x, z, rfl, ⟨dx, hx⟩, q⟩ := h
   change H x = some (.ins a.aZ dx (aN "target" (.int t) [])) at hx
   refine ⟨_,(ag (aw (pv 1))),?_⟩
   refine a_ (σ':=[some _,some _]) rfl ?_
   walk_at "rds"
   all_goals (try simp only [Rw.bj] at q);(repeat' split at q) <;> first | exact q | (exfalso;omega)
theorem oq (T : Txt K mg a) (b t : Int) : br P w K mg base ba 1 a.aJ "height" (cf a (.branch b t)) := by
 refine be (sp:=(cf a (.branch b t))) 0 T.fZ T.jQ dY (fun vs H Q E h=>?_) (fun f cdv A outer s H vs Q E hr h=>?_)
 · obtain ⟨x, z, rfl, _⟩ := h
   rfl
 · obtain ⟨x, z, rfl, ⟨dx, hx⟩, q⟩ := h
   change H x = some (.ins a.aJ dx (aN "target" (.int t) (aN "box" (.int b) []))) at hx
   refine ⟨_,(ag (aw (pv 1))),?_⟩
   refine a_ (σ':=[some _,some _]) rfl ?_
   walk_at "rds"
   all_goals (try simp only [Rw.bj] at q);(repeat' split at q) <;> first | exact q | (exfalso;omega)
theorem pY (T : Txt K mg a) (t : Int) : br P w K mg base ba 1 a.aD "height" (cf a (.call t)) := by
 refine be (sp:=(cf a (.call t))) 0 T.ij T.lJ dY (fun vs H Q E h=>?_) (fun f cdv A outer s H vs Q E hr h=>?_)
 · obtain ⟨x, z, rfl, _⟩ := h
   rfl
 · obtain ⟨x, z, rfl, ⟨dx, hx⟩, q⟩ := h
   change H x = some (.ins a.aD dx (aN "target" (.int t) [])) at hx
   refine ⟨_,(ag (aw (pv 1))),?_⟩
   refine a_ (σ':=[some _,some _]) rfl ?_
   walk_at "rds"
   all_goals (try simp only [Rw.bj] at q);(repeat' split at q) <;> first | exact q | (exfalso;omega)
theorem qM (T : Txt K mg a) (b : Int) : br P w K mg base ba 1 a.a8 "height" (cf a (.drop b)) := by
 refine be (sp:=(cf a (.drop b))) 0 T.iy T.lG dY (fun vs H Q E h=>?_) (fun f cdv A outer s H vs Q E hr h=>?_)
 · obtain ⟨x, z, rfl, _⟩ := h
   rfl
 · obtain ⟨x, z, rfl, ⟨dx, hx⟩, q⟩ := h
   change H x = some (.ins a.a8 dx (aN "box" (.int b) [])) at hx
   refine ⟨_,(ag (aw (pv 1))),?_⟩
   refine a_ (σ':=[some _,some _]) rfl ?_
   walk_at "rds"
   all_goals (try simp only [Rw.bj] at q);(repeat' split at q) <;> first | exact q | (exfalso;omega)
theorem sQ (T : Txt K mg a) (b : Int) : br P w K mg base ba 1 a.aK "keeps" (cH a (.back b)) := by
 refine be (sp:=(cH a (.back b))) 0 T.iq T.mn f_ (fun vs H Q E h=>?_) (fun f cdv A outer s H vs Q E hr h=>?_)
 · obtain ⟨x, s, z, rfl, _⟩ := h
   rfl
 · obtain ⟨x, s, z, rfl, ⟨dx, hx⟩, hk, z0, z1, hs, q⟩ := h
   change H x = some (.ins a.aK dx (aN "box" (.int b) [])) at hx
   obtain ⟨k1,k2⟩:=hk
   refine ⟨_,(ag (aw (pv 1))),?_⟩
   refine a_ (σ':=[some _,some _,some _]) rfl ?_
   walk_at "rd"
   exact q
theorem sJ (T : Txt K mg a) (t : Int) : br P w K mg base ba 1 a.aZ "keeps" (cH a (.gv t)) := by
 refine be (sp:=(cH a (.gv t))) 0 T.ir T.mE f_ (fun vs H Q E h=>?_) (fun f cdv A outer s H vs Q E hr h=>?_)
 · obtain ⟨x, s, z, rfl, _⟩ := h
   rfl
 · obtain ⟨x, s, z, rfl, ⟨dx, hx⟩, hk, z0, z1, hs, q⟩ := h
   change H x = some (.ins a.aZ dx (aN "target" (.int t) [])) at hx
   obtain ⟨k1,k2⟩:=hk
   refine ⟨_,(ag (aw (pv 1))),?_⟩
   refine a_ (σ':=[some _,some _,some _]) rfl ?_
   walk_at "rd"
   exact q
theorem pM (T : Txt K mg a) (b t : Int) : br P w K mg base ba 1 a.aJ "keeps" (cH a (.branch b t)) := by
 refine be (sp:=(cH a (.branch b t))) 0 T.fZ T.kd f_ (fun vs H Q E h=>?_) (fun f cdv A outer s H vs Q E hr h=>?_)
 · obtain ⟨x, s, z, rfl, _⟩ := h
   rfl
 · obtain ⟨x, s, z, rfl, ⟨dx, hx⟩, hk, z0, z1, hs, q⟩ := h
   change H x = some (.ins a.aJ dx (aN "target" (.int t) (aN "box" (.int b) []))) at hx
   obtain ⟨⟨k1,k2⟩,⟨k3,k4⟩⟩:=hk
   refine ⟨_,(ag (aw (pv 1))),?_⟩
   refine a_ (σ':=[some _,some _,some _]) rfl ?_
   walk_at "rd"
   exact q
theorem sG (T : Txt K mg a) (m : Int) : br P w K mg base ba 1 a.aY "keeps" (cH a (.grow m)) := by
 refine be (sp:=(cH a (.grow m))) 0 T.iz T.mD f_ (fun vs H Q E h=>?_) (fun f cdv A outer s H vs Q E hr h=>?_)
 · obtain ⟨x, s, z, rfl, _⟩ := h
   rfl
 · obtain ⟨x, s, z, rfl, ⟨dx, hx⟩, hk, z0, z1, hs, q⟩ := h
   change H x = some (.ins a.aY dx (aN "many" (.int m) [])) at hx
   obtain ⟨k1,k2⟩:=hk
   refine ⟨_,(ag (aw (pv 1))),?_⟩
   refine a_ (σ':=[some _,some _,some _]) rfl ?_
   walk_at "rd"
   exact q
theorem sL (T : Txt K mg a) (b : Int) : br P w K mg base ba 1 a.a8 "keeps" (cH a (.drop b)) := by
 refine be (sp:=(cH a (.drop b))) 0 T.iy T.mJ f_ (fun vs H Q E h=>?_) (fun f cdv A outer s H vs Q E hr h=>?_)
 · obtain ⟨x, s, z, rfl, _⟩ := h
   rfl
 · obtain ⟨x, s, z, rfl, ⟨dx, hx⟩, hk, z0, z1, hs, q⟩ := h
   change H x = some (.ins a.a8 dx (aN "box" (.int b) [])) at hx
   obtain ⟨k1,k2⟩:=hk
   refine ⟨_,(ag (aw (pv 1))),?_⟩
   refine a_ (σ':=[some _,some _,some _]) rfl ?_
   walk_at "rd"
   exact q
theorem vD (T : Txt K mg a) (b n : Int) : br P w K mg base ba 1 a.bf "told" (dM a (.set b n)) := by
 refine be (sp:=(dM a (.set b n))) 0 T.jB T.pK vC (fun vs H Q E h=>?_) (fun f cdv A outer s H vs Q E hr h=>?_)
 · obtain ⟨x, rfl, _⟩ := h
   rfl
 · obtain ⟨x, rfl, ⟨dx, hx⟩, q⟩ := h
   change H x = some (.ins a.bf dx (aN "number" (.int n) (aN "box" (.int b) []))) at hx
   refine ⟨_,(ag (aw (cn (aa cm (aa (bo (K:=K) rfl (pv 0)) (aa (bo (K:=K) rfl (pv 0)) af)))))),?_⟩
   refine a_ (σ':=[some _]) rfl ?_
   walk_at "rd"
   exact q _ (by assumption)
theorem rl (T : Txt K mg a) (m : Int) : br P w K mg base ba 1 a.aY "height" (cf a (.grow m)) := by
 refine be (sp:=(cf a (.grow m))) 0 T.iz T.lD qo (fun vs H Q E h=>?_) (fun f cdv A outer s H vs Q E hr h=>?_)
 · obtain ⟨x, z, rfl, _⟩ := h
   rfl
 · obtain ⟨x, z, rfl, ⟨dx, hx⟩, q⟩ := h
   change H x = some (.ins a.aY dx (aN "many" (.int m) [])) at hx
   refine ⟨_, (ai (aX (aE lj (aQ (bD (K := K) rfl) (pv 1) (bo (K := K) rfl (pv 0))) (bg (v := .int 4000) rfl T.dk.choose_spec ⟨_, rfl⟩) (aG _)) (ag (aw bz)) aI)
     (ag (aw (aQ (bD (K:=K) rfl) (pv 1) (bo (K:=K) rfl (pv 0)))))),?_⟩
   refine a_ (σ':=[some _,some _]) rfl ?_
   walk_at "rds"
   all_goals (try simp only [Rw.bj] at q);(repeat' split at q) <;> first | exact q | (exfalso;omega)
theorem vo (T : Txt K mg a) (m : Int) : br P w K mg base ba 1 a.aY "told" (dM a (.grow m)) := by
 refine be (sp:=(dM a (.grow m))) 0 T.iz T.n9 tU (fun vs H Q E h=>?_) (fun f cdv A outer s H vs Q E hr h=>?_)
 · obtain ⟨x, rfl, _⟩ := h
   rfl
 · obtain ⟨x, rfl, ⟨dx, hx⟩, q⟩ := h
   change H x = some (.ins a.aY dx (aN "many" (.int m) [])) at hx
   refine ⟨_,(ag (aw (cn (aa cm (aa (bo (K:=K) rfl (pv 0)) af))))),?_⟩
   refine a_ (σ':=[some _]) rfl ?_
   walk_at "rd"
   exact q _ (by assumption)
theorem zZ (T : Txt K mg a) : lA P w K mg base ba 1 "Table" a.bw (ph K a.bw) ∧ L_ P w K mg base ba 1 "Table" a.bw (ph K a.bw) := by
 refine Gu (sp:=(ph K a.bw)) 0 T.i7 T.wC sF (fun vs H Q E h=>?_) (fun f cdv A outer s H vs Q E hr h=>?_)
 · obtain ⟨x, dx, pe, lv, xs, kvs, rfl, _⟩ := h
   rfl
 · obtain ⟨x, dx, pe, lv, xs, kvs, rfl, hx, hS, hd, q⟩ := h
   refine ⟨_, (ai (fg (K := K) rfl (pv 0) (fq (o7 (K := K) rfl) rfl T.hG pU (aa (pv 1) af)))
     (ag (fg (K:=K) rfl (pv 0) (jA (aE cU (pv 2) bz (aG _)) jy (fq pT rfl T.jH zx (aa (pv 2) af)))))),?_⟩
   refine a_ (σ':=[some _,some _,some _]) rfl ?_
   rcases hd with ⟨rfl,rfl⟩ | ⟨pd,rfl,hd⟩
   · walk_at "rd"
     rename_i l hl d hd
     have nx:=f6 hd
     have nl:=f6 nx.1
     refine q l d _ hl nl.1 nl.2.symm (fun b o e ne=>?_) ah ?_ ?_
     · rw [ao ne,ao (av (show upd (upd H l (.lst xs)) x _ b = some o from by rw [ao ne,ao (av e hl)];exact e) hd),ao ne,ao (av e hl)];exact e
     · rw [ao (av hx hl).symm,ao nl.2.symm,ao (av hx hl).symm,ah]
     · rw [ao nx.2,ah]
   · have npx : pd ≠ x := DA hd hx (by intro z; cases z)
     walk_at "rd"
     rename_i l hl d hd'
     have nx:=f6 hd'
     have nl:=f6 nx.1
     refine q l d _ hl nl.1 nl.2.symm (fun b o e ne=>?_) ah ?_ ?_
     · rw [ao ne,ao (av (show upd (upd H l (.lst xs)) x _ b = some o from by rw [ao ne,ao (av e hl)];exact e) hd'),ao ne,ao (av e hl)];exact e
     · rw [ao (av hx hl).symm,ao nl.2.symm,ao (av hx hl).symm,ah]
     · rw [ao nx.2,ah]
theorem jC (T:Txt K mg a):lA P w K mg base ba 1 "Table" a.bw (ph K a.bw):=(zZ T).1
theorem i6 (T : Txt K mg a) : cV P w K mg base ba 1 "sets_of" (yS K) := by
 refine bT (sp:=(yS K)) 0 T.oW pz (fun vs H Q E h=>?_) (fun f cdv A outer s H vs Q E hr h=>?_)
 · obtain ⟨p, e, rfl, _⟩ := h
   rfl
 · obtain ⟨p, e, rfl, ⟨pk, h1, h2⟩, q⟩ := h
   refine ⟨_, (ai (aS (i := 1) pz.nd rfl (Or.inl rfl) (aM (aV (K := K) rfl) (pv 0) ak (fun _ _ => rfl)))
     (ag (aw (cn (aa (aM (aV (K:=K) rfl) (pv 0) ak (fun _ _=>rfl)) (aa (aM (aV (K:=K) rfl) (pv 1) ak (fun _ _=>rfl)) (aa (aM (aV (K:=K) rfl) (pv 1) ak (fun _ _=>rfl)) (aa (aM (aV (K:=K) rfl) (pv 1) ak (fun _ _=>rfl)) af)))))))),?_⟩
   refine a_ (σ':=[some _,none]) rfl ?_
   walk_at "rd"
   exact q _ (by assumption)
theorem vj (T : Txt K mg a) (t : Int) : br P w K mg base ba 1 a.aZ "goes" (dR a (.gv t)) := by
 refine be (sp:=(dR a (.gv t))) 0 T.ir T.oa uB (fun vs H Q E h=>?_) (fun f cdv A outer s H vs Q E hr h=>?_)
 · obtain ⟨x, z, rfl, _⟩ := h
   rfl
 · obtain ⟨x, z, rfl, ⟨dx, hx⟩, q⟩ := h
   change H x = some (.ins a.aZ dx (aN "target" (.int t) [])) at hx
   refine ⟨_,(ag (aw (bH (aa (bo (K:=K) rfl (pv 0)) af)))),?_⟩
   refine a_ (σ':=[some _,some _]) rfl ?_
   walk_at "rd"
   exact q _ (by assumption)
theorem tH (T : Txt K mg a) (t : Int) : br P w K mg base ba 1 a.aZ "told" (dM a (.gv t)) := by
 refine be (sp:=(dM a (.gv t))) 0 T.ir T.nW tm (fun vs H Q E h=>?_) (fun f cdv A outer s H vs Q E hr h=>?_)
 · obtain ⟨x, rfl, _⟩ := h
   rfl
 · obtain ⟨x, rfl, ⟨dx, hx⟩, q⟩ := h
   change H x = some (.ins a.aZ dx (aN "target" (.int t) [])) at hx
   refine ⟨_,(ag (aw (cn (aa cm (aa (bo (K:=K) rfl (pv 0)) af))))),?_⟩
   refine a_ (σ':=[some _]) rfl ?_
   walk_at "rd"
   exact q _ (by assumption)
theorem qA (T : Txt K mg a) (b t : Int) : br P w K mg base ba 1 a.aJ "goes" (dR a (.branch b t)) := by
 refine be (sp:=(dR a (.branch b t))) 0 T.fZ T.lO qu (fun vs H Q E h=>?_) (fun f cdv A outer s H vs Q E hr h=>?_)
 · obtain ⟨x, z, rfl, _⟩ := h
   rfl
 · obtain ⟨x, z, rfl, ⟨dx, hx⟩, q⟩ := h
   change H x = some (.ins a.aJ dx (aN "target" (.int t) (aN "box" (.int b) []))) at hx
   refine ⟨_,(ag (aw (bH (aa (aQ (bD (K:=K) rfl) (pv 1) ak) (aa (bo (K:=K) rfl (pv 0)) af))))),?_⟩
   refine a_ (σ':=[some _,some _]) rfl ?_
   walk_at "rd"
   exact q _ (by assumption)
theorem qG (T : Txt K mg a) (b t : Int) : br P w K mg base ba 1 a.aJ "told" (dM a (.branch b t)) := by
 refine be (sp:=(dM a (.branch b t))) 0 T.fZ T.lL qH (fun vs H Q E h=>?_) (fun f cdv A outer s H vs Q E hr h=>?_)
 · obtain ⟨x, rfl, _⟩ := h
   rfl
 · obtain ⟨x, rfl, ⟨dx, hx⟩, q⟩ := h
   change H x = some (.ins a.aJ dx (aN "target" (.int t) (aN "box" (.int b) []))) at hx
   refine ⟨_,(ag (aw (cn (aa cm (aa (bo (K:=K) rfl (pv 0)) (aa (bo (K:=K) rfl (pv 0)) af)))))),?_⟩
   refine a_ (σ':=[some _]) rfl ?_
   walk_at "rd"
   exact q _ (by assumption)
theorem uq (T : Txt K mg a) (t : Int) : br P w K mg base ba 1 a.aD "told" (dM a (.call t)) := by
 refine be (sp:=(dM a (.call t))) 0 T.ij T.n5 vn (fun vs H Q E h=>?_) (fun f cdv A outer s H vs Q E hr h=>?_)
 · obtain ⟨x, rfl, _⟩ := h
   rfl
 · obtain ⟨x, rfl, ⟨dx, hx⟩, q⟩ := h
   change H x = some (.ins a.aD dx (aN "target" (.int t) [])) at hx
   refine ⟨_,(ag (aw (cn (aa cm (aa (bo (K:=K) rfl (pv 0)) af))))),?_⟩
   refine a_ (σ':=[some _]) rfl ?_
   walk_at "rd"
   exact q _ (by assumption)
theorem t9 (T : Txt K mg a) (b : Int) : br P w K mg base ba 1 a.aK "goes" (dR a (.back b)) := by
 refine be (sp:=(dR a (.back b))) 0 T.iq T.nI uN (fun vs H Q E h=>?_) (fun f cdv A outer s H vs Q E hr h=>?_)
 · obtain ⟨x, z, rfl, _⟩ := h
   rfl
 · obtain ⟨x, z, rfl, ⟨dx, hx⟩, q⟩ := h
   change H x = some (.ins a.aK dx (aN "box" (.int b) [])) at hx
   refine ⟨_,(ag (aw (bH af))),?_⟩
   refine a_ (σ':=[some _,some _]) rfl ?_
   walk_at "rd"
   exact q _ (by assumption)
theorem uR (T : Txt K mg a) (b : Int) : br P w K mg base ba 1 a.aK "told" (dM a (.back b)) := by
 refine be (sp:=(dM a (.back b))) 0 T.iq T.n0 vq (fun vs H Q E h=>?_) (fun f cdv A outer s H vs Q E hr h=>?_)
 · obtain ⟨x, rfl, _⟩ := h
   rfl
 · obtain ⟨x, rfl, ⟨dx, hx⟩, q⟩ := h
   change H x = some (.ins a.aK dx (aN "box" (.int b) [])) at hx
   refine ⟨_,(ag (aw (cn (aa cm (aa (bo (K:=K) rfl (pv 0)) af))))),?_⟩
   refine a_ (σ':=[some _]) rfl ?_
   walk_at "rd"
   exact q _ (by assumption)
theorem uC (T : Txt K mg a) (b : Int) : br P w K mg base ba 1 a.a8 "goes" (dR a (.drop b)) := by
 refine be (sp:=(dR a (.drop b))) 0 T.iy T.nP uo (fun vs H Q E h=>?_) (fun f cdv A outer s H vs Q E hr h=>?_)
 · obtain ⟨x, z, rfl, _⟩ := h
   rfl
 · obtain ⟨x, z, rfl, ⟨dx, hx⟩, q⟩ := h
   change H x = some (.ins a.a8 dx (aN "box" (.int b) [])) at hx
   refine ⟨_,(ag (aw (bH af))),?_⟩
   refine a_ (σ':=[some _,some _]) rfl ?_
   walk_at "rd"
   exact q _ (by assumption)
theorem tE (T : Txt K mg a) (b : Int) : br P w K mg base ba 1 a.a8 "told" (dM a (.drop b)) := by
 refine be (sp:=(dM a (.drop b))) 0 T.iy T.n_ vi (fun vs H Q E h=>?_) (fun f cdv A outer s H vs Q E hr h=>?_)
 · obtain ⟨x, rfl, _⟩ := h
   rfl
 · obtain ⟨x, rfl, ⟨dx, hx⟩, q⟩ := h
   change H x = some (.ins a.a8 dx (aN "box" (.int b) [])) at hx
   refine ⟨_,(ag (aw (cn (aa cm (aa (bo (K:=K) rfl (pv 0)) af))))),?_⟩
   refine a_ (σ':=[some _]) rfl ?_
   walk_at "rd"
   exact q _ (by assumption)
theorem mG (T : Txt K mg a) : cV P w K mg base ba 1 "is_row" (wu K) := by
 refine bT (sp:=(wu K)) 0 T.rT Az (fun vs H Q E h=>?_) (fun f cdv A outer s H vs Q E hr h=>?_)
 · obtain ⟨n, p, us, rfl, _⟩ := h
   rfl
 · obtain ⟨n, p, us, rfl, hp, q⟩ := h
   refine ⟨_,(ag (aw (B1 xZ iF ak (pv 0) (aT (bC (K:=K) rfl) rfl T.cu dg (aa (pv 1) af))))),?_⟩
   refine a_ (σ':=[some _,some _]) rfl ?_
   walk_at "rd"
   refine eY (fun hh=>?_) (fun hh=>?_)
   · walk_at "rd"
     rw [show decide (n < (us.length:Int)) = decide (0 ≤ n∧n < (us.length:Int)) from by rw [decide_eq_decide];exact ⟨fun z=>⟨hh,z⟩,fun z=>z.2⟩]
     exact q
   · rw [decide_eq_false (fun z : 0 ≤ n ∧ n < (us.length : Int) => hh z.1)] at q
     walk_at "rd"
     exact q
theorem uH (T : Txt K mg a) : cV P w K mg base ba 1 "each_once" (zB K) := by
 refine bT (sp:=(zB K)) 0 T.lS jf (fun vs H Q E h=>?_) (fun f cdv A outer s H vs Q E hr h=>?_)
 · obtain ⟨p, ns, rfl, _⟩ := h
   rfl
 · obtain ⟨p, ns, rfl, hp, hn, q⟩ := h
   refine ⟨_, (ai (aS (i := 1) jf.nd rfl (Or.inl rfl) (bH af))
     (ai (fc PassesOwn.never rfl (cC (K:=K) rfl (pv 0)) (bb (i:=2) jf.nd rfl (Or.inl rfl)) (ag (aX (aE (sj (K:=K) rfl) (pv 2) (pv 1) rfl) (ag (cB (g_ (K:=K) rfl PySem.F.plainAttrs_list PySem.F.slot_list_append PySem.F.type_list_append ft (pv 1) (aa (pv 2) af)))) aI)))
     (ag (aw (pv 1))))),?_⟩
   refine a_ (σ':=[some _,none,none]) rfl ?_
   walk_at "rd"
   rename_i l nl
   refine fB (K:=K) (a:=p) (xs:=ns.map V.int) (fun i σ H1=>(∃ u,σ = [some (.ref p),some (.ref l),u])∧ar H H1∧H1 l = some (.lst ((once (ns.take i)).map V.int))∧(once (ns.take i)).length ≤ i) ⟨⟨_,rfl⟩,aq nl,ah,Nat.le_refl _⟩ (fun i σ H1 _ ⟨_,s1,_⟩=>ar.seq s1 hp) ?_ ?_
   · rintro i x σ H1 hx ⟨⟨u, rfl⟩, s1, hl, hlen⟩
     obtain ⟨n, hn1, rfl⟩ : ∃ n, ns[i]? = some n ∧ x = .int n := by
       rw [List.getElem?_map] at hx
       obtain ⟨p,hp,e⟩:=Option.map_eq_some_iff.mp hx
       exact ⟨p,hp,e.symm⟩
     have hi:i < ns.length:=(List.getElem?_eq_some_iff.mp hn1).1
     have en : once (ns.take (i + 1)) = if n ∈ once (ns.take i) then once (ns.take i) else once (ns.take i) ++ [n] := by
       unfold once
       rw [List.take_add_one,hn1,Option.toList_some,List.foldl_append];rfl
     rw [en]
     generalize once (ns.take i) = os at hl hlen ⊢
     walk_at "rd"
     refine nA (az.of hl) rfl (gR _) ?_
     rw [if_pos rfl,il]
     by_cases hm:n ∈ os
     · rw [decide_eq_true hm, if_pos hm]
       walk_at "rd"
       exact ⟨⟨_,rfl⟩,s1,hl,by omega⟩
     · rw [decide_eq_false hm, if_neg hm]
       walk_at "rd"
       exact ⟨⟨_,rfl⟩,by walk_at "same",by rw [List.map_append];exact ah,by rw [List.length_append];show os.length + 1 ≤ i + 1;omega⟩
   · rintro σ H1 ⟨⟨u, rfl⟩, s1, hl, hlen⟩
     rw [List.length_map,List.take_length] at hl
     walk_at "rd"
     exact q l H1 s1 hl
theorem oF (T : Txt K mg a) : cV P w K mg base (e_ P w) 1 "reach" (qF a) := by
 refine uk (sp:=(qF a)) 0 T.tS B0 (fun vs H Q E h=>?_) (fun f cdv A outer s H vs Q E hr h=>?_)
 · obtain ⟨lh, lw, n, high, hs, ws, rfl, _⟩ := h
   rfl
 · obtain ⟨lh, lw, n, high, hs, ws, rfl, hlh, hlw, h1, h2, n1, n2, nlw, qb, qs, qn⟩ := h
   refine ⟨_, (ai (aX (PT.cw (PW.pt (fO (aE iF (pv 2) ak (aG _)) (fE (aE s_ (pv 2) (aT (bC (K := K) rfl) rfl T.cu dg (aa (pv 0) af)) (aG _)))))) (ag (kK T.gK rfl (aa (rq (pv 2)) af))) aI)
     (ag (aX (PT.cw (aE cU (aM (aV (K:=K) rfl) (pv 0) (pv 2) (fun _ _=>rfl)) bz (aG _))) (ai (PS.cw (yE (pv 3) (zz (pv 0) (pv 2) set_list)))
     (ag (PS.cw (cB (g_ (K:=K) rfl PySem.F.plainAttrs_list PySem.F.slot_list_append PySem.F.type_list_append ft (pv 1) (aa (pv 2) af)))))) (ag (aX (PT.cw (aE (fG (K:=K) rfl hr.units) (aM (aV (K:=K) rfl) (pv 0) (pv 2) (fun _ _=>rfl)) (pv 3) (aG _))) (ag (kK T.gK rfl (aa (rq (pv 2)) af))) aI))))),?_⟩
   refine a_ (σ':=[some _,some _,some _,some _]) rfl ?_
   walk_at "rk"
   refine eY (fun hh=>?_) (fun hh=>?_)
   · walk_at "rk"
     refine i_ ?_
     walk_at "rk"
     refine oX ?_
     walk_at "rk"
     exact ⟨jL n1 n2,by show 1 ≤ 1000;decide,qb (.inl hh)⟩
   · walk_at "rk"
     refine cx (az.of hlh) ?_
     rw [List.length_map]
     walk_at "rk"
     refine eY (fun hh2=>?_) (fun hh2=>?_)
     · walk_at "rk"
       refine i_ ?_
       walk_at "rk"
       refine oX ?_
       walk_at "rk"
       exact ⟨jL n1 n2,by show 1 ≤ 1000;decide,qb (.inr (.inl hh2))⟩
     · obtain ⟨k, rfl⟩ : ∃ k : Nat, n = (k : Int) := ⟨n.toNat, by omega⟩
       rw [Int.toNat_natCast] at qb qs qn
       have hk:k < hs.length:=by omega
       have hs1:hs[k]? = some hs[k]:=List.getElem?_eq_getElem hk
       have hat:cD (hs.map bW) (k:Int) = some (bW hs[k]):=bL (by rw [List.getElem?_map,hs1];rfl)
       generalize hs[k] = o at hs1 hat
       rw [hs1] at qb qs qn
       cases o with
       | none =>
         have hat:cD (hs.map bW) (k:Int) = some .aH:=hat
         walk_at "rk"
         refine uQ hlh (j:=k) (by rw [List.length_map];exact xD hk) ?_
         walk_at "rk"
         have e1:(hs.map bW).set k (.int high) = (hs.set k (some high)).map bW:=ny bW hs k (some high)
         have e2:ws.map nV ++ [V.int (k:Int)] = (ws ++ [k]).map nV:=by rw [List.map_append];rfl
         rw [e1,e2]
         exact qn (by omega) rfl
       | some h0 =>
         have hat:cD (hs.map bW) (k:Int) = some (.int h0):=hat
         walk_at "rk"
         refine jq (fun hh3=>?_) (fun hh3=>?_)
         · walk_at "rk"
           refine i_ ?_
           walk_at "rk"
           refine oX ?_
           walk_at "rk"
           exact ⟨jL n1 n2,by show 1 ≤ 1000;decide,qb (.inr (.inr ⟨h0,rfl,hh3⟩))⟩
         · walk_at "rk"
           exact qs (by omega) (by rw [show h0 = high from by simpa using hh3])
theorem lV (T : Txt K mg a) : cV P w K mg base ba 1 "narrow" og := by
 refine bT (sp:=og) 0 T.r0 rS (fun vs H Q E h=>?_) (fun f cdv A outer s H vs Q E hr h=>?_)
 · obtain ⟨lsx, dc, n, p, ss, ks, o, rfl, _⟩ := h
   rfl
 · obtain ⟨lsx, dc, n, p, ss, ks, o, rfl, hl, hd, h1, h2, hnd, ho, q1, q2⟩ := h
   have hat:cD (ss.map b8) (n:Int) = some (b8 o):=bL (by rw [List.getElem?_map,ho];rfl)
   have hn:n < ss.length:=(List.getElem?_eq_some_iff.mp ho).1
   have hne:lsx ≠ dc:=fun z=>by rw [z,hd] at hl;cases hl
   refine ⟨_, (ai (aS (i := 4) rS.nd rfl (Or.inl rfl) (jA (aE cU (aM (aV (K := K) rfl) (pv 0) (pv 2) (fun _ _ => rfl)) bz (aG _)) (pv 3) (aQ m6 (aM (aV (K := K) rfl) (pv 0) (pv 2) (fun _ _ => rfl)) (pv 3))))
     (ag (aX (aE (fG (K:=K) rfl hr.units) (pv 4) (aM (aV (K:=K) rfl) (pv 0) (pv 2) (fun _ _=>rfl)) (aG _)) (ai (yE (pv 4) (zz (pv 0) (pv 2) set_list))
     (ag (wg (ll hr) (pv 1) (pv 2) gz rfl))) aI))),?_⟩
   refine a_ (σ':=[some _,some _,some _,some _,none]) rfl ?_
   have fin : ∀ x : Nat, (upd (upd H lsx (.lst ((ss.map b8).set n (.int (x : Int))))) dc (.dK (putK (bF ks) (.inl (n : Int)) (.bl true)))) = upd (upd H lsx (.lst ((ss.set n (some x)).map b8))) dc (.dK (bF (jn ks n))) := fun x => by
     rw [Bv,← ny b8 ss n (some x)];rfl
   cases o with
   | none =>
     have hat:cD (ss.map b8) (n:Int) = some .aH:=hat
     walk_at "rk"
     rw [if_pos (by rw [decide_eq_false (fun z=>by cases z)];rfl)]
     walk_at "rk"
     refine uQ hl (j:=n) (by rw [List.length_map];exact xD hn) ?_
     walk_at "rk"
     refine kh (kvs:=bF ks) (by rw [ao hne.symm];exact hd) (by unfold bF;rw [List.length_map,sizeLine_eq];omega) ?_
     rw [fin]
     exact q2 (fun z=>by cases z)
   | some s0 =>
     have hat:cD (ss.map b8) (n:Int) = some (.int (s0:Int)):=hat
     walk_at "rk"
     rw [xg]
     by_cases e:s0 &&& p = s0
     · rw [if_neg (by rw [e, decide_eq_true rfl]; decide)]
       walk_at "rk"
       exact q1 (by show some s0 = some (s0 &&& p);rw [e])
     · rw [if_pos (by rw [decide_eq_false (fun z => e (by have := V.int.inj z; omega))]; rfl)]
       walk_at "rk"
       refine uQ hl (j:=n) (by rw [List.length_map];exact xD hn) ?_
       walk_at "rk"
       refine kh (kvs:=bF ks) (by rw [ao hne.symm];exact hd) (by unfold bF;rw [List.length_map,sizeLine_eq];omega) ?_
       rw [fin]
       exact q2 (fun z=>e (by have:=Option.some.inj z;exact this.symm))
theorem ff (T : Txt K mg a) : cV P w K mg base ba 1 "_law_cell_at" (oI K) := by
 refine bT (sp:=(oI K)) 0 T.kr q_ (fun vs H Q E h=>?_) (fun f cdv A outer s H vs Q E hr h=>?_)
 · obtain ⟨p, ns, k, rfl, _⟩ := h
   rfl
 · obtain ⟨p, ns, k, rfl, hS, h0, q⟩ := h
   refine ⟨_, (ai (aX (aE iF (pv 1) (aT (bC (K := K) rfl) rfl T.cu dg (aa (pv 0) af)) (aG _)) (ag (aw (aM (aV (K := K) rfl) (pv 0) (pv 1) (fun _ _ => rfl)))) aI)
     (ag (aw ak))),?_⟩
   refine a_ (σ':=[some _,some _]) rfl ?_
   walk_at "rd"
   refine eY (fun hh=>?_) (fun hh=>?_)
   · walk_at "rd"
     exact q
   · walk_at "rd"
     have e:=xk h0 hh
     rw [e] at q
     exact q
theorem rW (r : Rw) : r.mM.lookup ("told" : Str) = none := by
 cases r <;> (show List.lookup _ (aN _ _ _) = none;walk_at "nolk")
theorem mx (r : Rw) : r.mM.lookup ("goes" : Str) = none := by
 cases r <;> (show List.lookup _ (aN _ _ _) = none;walk_at "nolk")
theorem jV (r : Rw) : r.mM.lookup ("height" : Str) = none := by
 cases r <;> (show List.lookup _ (aN _ _ _) = none;walk_at "nolk")
theorem nX (T : Txt K mg a) {r : Rw} (hr : r.here) : br P w K mg base ba 1 (r.cls a) "told" (dM a r) := by
 cases r
 · exact (vD T _ _).mono (by decide)
 · exact hr.elim
 · exact hr.elim
 · exact hr.elim
 · exact hr.elim
 · exact hr.elim
 · exact (vo T _).mono (by decide)
 · exact hr.elim
 · exact hr.elim
 · exact hr.elim
 · exact (tH T _).mono (by decide)
 · exact (qG T _ _).mono (by decide)
 · exact (uq T _).mono (by decide)
 · exact (uR T _).mono (by decide)
 · exact (tE T _).mono (by decide)
theorem jZ (T : Txt K mg a) {r : Rw} (hr : r.here) : br P w K mg base ba 1 (r.cls a) "goes" (dR a r) := by
 cases r
 · exact (vF T _ _).mono (by decide)
 · exact hr.elim
 · exact hr.elim
 · exact hr.elim
 · exact hr.elim
 · exact hr.elim
 · exact (uA T _).mono (by decide)
 · exact hr.elim
 · exact hr.elim
 · exact hr.elim
 · exact (vj T _).mono (by decide)
 · exact (qA T _ _).mono (by decide)
 · exact (ue T _).mono (by decide)
 · exact (t9 T _).mono (by decide)
 · exact (uC T _).mono (by decide)
theorem iT (T : Txt K mg a) {r : Rw} (hr : r.here) : br P w K mg base ba 1 (r.cls a) "height" (cf a r) := by
 cases r
 · exact (sA T _ _).mono (by decide)
 · exact hr.elim
 · exact hr.elim
 · exact hr.elim
 · exact hr.elim
 · exact hr.elim
 · exact (rl T _).mono (by decide)
 · exact hr.elim
 · exact hr.elim
 · exact hr.elim
 · exact (qK T _).mono (by decide)
 · exact (oq T _ _).mono (by decide)
 · exact (pY T _).mono (by decide)
 · exact (qS T _).mono (by decide)
 · exact (qM T _).mono (by decide)
theorem gy (T : Txt K mg a) {H : Hp} {p : Addr} {r : Rw} (hr : r.here) (h : cK a H p r) : ∃ t', eG K H (.ref p) t' ∧ PySem.W.kitOne K t' (.ref a.aD) = some r.isCall ∧ PySem.W.kitOne K t' (.ref a.aK) = some r.Iu := by
 obtain ⟨dx,e⟩:=h
 cases r
 · exact ⟨_,.ins e T.jB T.tN.1 T.lB T.lI T.tN.2,T.eB,T.eP⟩
 · exact hr.elim
 · exact hr.elim
 · exact hr.elim
 · exact hr.elim
 · exact hr.elim
 · exact ⟨_,.ins e T.iz T.rC.1 T.lB T.lI T.rC.2,T.dz,T.dF⟩
 · exact hr.elim
 · exact hr.elim
 · exact hr.elim
 · exact ⟨_,.ins e T.ir T.rH.1 T.lB T.lI T.rH.2,T.dJ,T.dE⟩
 · exact ⟨_,.ins e T.fZ T.lX.1 T.lB T.lI T.lX.2,T.cF,T.cE⟩
 · exact ⟨_,.ins e T.ij T.ql.1 T.lB T.lI T.ql.2,T.dQ,T.dI⟩
 · exact ⟨_,.ins e T.iq T.qg.1 T.lB T.lI T.qg.2,T.dH,T.dO⟩
 · exact ⟨_,.ins e T.iy T.rz.1 T.lB T.lI T.rz.2,T.dw,T.dN⟩
theorem km (T : Txt K mg a) : lA P w K mg base ba 2 "Set" a.bf (j8 a.bf Rw.set) := by
 refine jk (sp:=(j8 a.bf Rw.set)) 1 T.ni T.Dc vH (fun vs H Q E h=>?_) (fun f cdv A outer s H vs Q E hr h=>?_)
 · obtain ⟨x, dx, i, j, rfl, _⟩ := h
   rfl
 · obtain ⟨x, dx, i, j, rfl, ⟨⟨h1, h2⟩, ⟨h3, h4⟩⟩, hx, q⟩ := h
   refine ⟨_, (ai (fg (K := K) rfl (pv 0) (aF (dh (K := K) T) (hr.mono (by decide)) aO rfl (aa (pv 1) (aa (bg (v := .int 7) rfl T.eg.choose_spec ⟨_, rfl⟩) af))))
     (ag (fg (K:=K) rfl (pv 0) (aF (dh (K:=K) T) (hr.mono (by decide)) aO rfl (aa (pv 2) (aa (bg (v:=.int 4294967295) rfl T.fL.choose_spec ⟨_,rfl⟩) af)))))),?_⟩
   refine a_ (σ':=[some _,some _,some _]) rfl ?_
   walk_at "rd"
   exact q _ zW ah
theorem tQ (T : Txt K mg a) (b n : Int) : br P w K mg base ba 2 a.bf "keeps" (cH a (.set b n)) := by
 refine be (sp:=(cH a (.set b n))) 1 T.jB T.nU vc (fun vs H Q E h=>?_) (fun f cdv A outer s H vs Q E hr h=>?_)
 · obtain ⟨x, s, z, rfl, _⟩ := h
   rfl
 · obtain ⟨x, s, z, rfl, ⟨dx, hx⟩, hk, z0, z1, hs, q⟩ := h
   change H x = some (.ins a.bf dx (aN "number" (.int n) (aN "box" (.int b) []))) at hx
   obtain ⟨⟨k1,k2⟩,⟨k3,k4⟩⟩:=hk
   refine ⟨_,(ag (aw (aF (pX (K:=K) T) (hr.mono (by decide)) aO rfl (aa (pv 1) (aa (aF (jo (K:=K) T) (hr.mono (by decide)) aO rfl (aa (bo (K:=K) rfl (pv 0)) af)) af))))),?_⟩
   refine a_ (σ':=[some _,some _,some _]) rfl ?_
   walk_at "rd"
   exact q
theorem j7 (T : Txt K mg a) : lA P w K mg base ba 2 "Grow" a.aY (fH a.aY Rw.grow) := by
 refine jk (sp:=(fH a.aY Rw.grow)) 1 T.j0 T.AR uS (fun vs H Q E h=>?_) (fun f cdv A outer s H vs Q E hr h=>?_)
 · obtain ⟨x, dx, i, rfl, _⟩ := h
   rfl
 · obtain ⟨x, dx, i, rfl, ⟨h1, h2⟩, hx, q⟩ := h
   refine ⟨_,(ag (fg (K:=K) rfl (pv 0) (aF (dh (K:=K) T) (hr.mono (by decide)) aO rfl (aa (pv 1) (aa (bg (v:=.int 4000) rfl T.dk.choose_spec ⟨_,rfl⟩) af))))),?_⟩
   refine a_ (σ':=[some _,some _]) rfl ?_
   walk_at "rd"
   exact q _ mB ah
theorem kj (T : Txt K mg a) : lA P w K mg base ba 2 "Jump" a.aZ (fH a.aZ Rw.gv) := by
 refine jk (sp:=(fH a.aZ Rw.gv)) 1 T.j5 T.yX vf (fun vs H Q E h=>?_) (fun f cdv A outer s H vs Q E hr h=>?_)
 · obtain ⟨x, dx, i, rfl, _⟩ := h
   rfl
 · obtain ⟨x, dx, i, rfl, ⟨h1, h2⟩, hx, q⟩ := h
   refine ⟨_,(ag (fg (K:=K) rfl (pv 0) (aF (dh (K:=K) T) (hr.mono (by decide)) aO rfl (aa (pv 1) (aa (bg (v:=.int 2000) rfl T.cR.choose_spec ⟨_,rfl⟩) af))))),?_⟩
   refine a_ (σ':=[some _,some _]) rfl ?_
   walk_at "rd"
   exact q _ mB ah
theorem iK (T : Txt K mg a) : lA P w K mg base ba 2 "Branch" a.aJ (j8 a.aJ Rw.branch) := by
 refine jk (sp:=(j8 a.aJ Rw.branch)) 1 T.ix T.uj qB (fun vs H Q E h=>?_) (fun f cdv A outer s H vs Q E hr h=>?_)
 · obtain ⟨x, dx, i, j, rfl, _⟩ := h
   rfl
 · obtain ⟨x, dx, i, j, rfl, ⟨⟨h1, h2⟩, ⟨h3, h4⟩⟩, hx, q⟩ := h
   refine ⟨_, (ai (fg (K := K) rfl (pv 0) (aF (dh (K := K) T) (hr.mono (by decide)) aO rfl (aa (pv 1) (aa (bg (v := .int 7) rfl T.eg.choose_spec ⟨_, rfl⟩) af))))
     (ag (fg (K:=K) rfl (pv 0) (aF (dh (K:=K) T) (hr.mono (by decide)) aO rfl (aa (pv 2) (aa (bg (v:=.int 2000) rfl T.cR.choose_spec ⟨_,rfl⟩) af)))))),?_⟩
   refine a_ (σ':=[some _,some _,some _]) rfl ?_
   walk_at "rd"
   exact q _ zW ah
theorem ko (T : Txt K mg a) : lA P w K mg base ba 2 "Call" a.aD (fH a.aD Rw.call) := by
 refine jk (sp:=(fH a.aD Rw.call)) 1 T.du T.zG tF (fun vs H Q E h=>?_) (fun f cdv A outer s H vs Q E hr h=>?_)
 · obtain ⟨x, dx, i, rfl, _⟩ := h
   rfl
 · obtain ⟨x, dx, i, rfl, ⟨h1, h2⟩, hx, q⟩ := h
   refine ⟨_,(ag (fg (K:=K) rfl (pv 0) (aF (dh (K:=K) T) (hr.mono (by decide)) aO rfl (aa (pv 1) (aa (bg (v:=.int 2000) rfl T.cR.choose_spec ⟨_,rfl⟩) af))))),?_⟩
   refine a_ (σ':=[some _,some _]) rfl ?_
   walk_at "rd"
   exact q _ mB ah
theorem su (T : Txt K mg a) (t : Int) : br P w K mg base ba 2 a.aD "keeps" (cH a (.call t)) := by
 refine be (sp:=(cH a (.call t))) 1 T.ij T.md sN (fun vs H Q E h=>?_) (fun f cdv A outer s H vs Q E hr h=>?_)
 · obtain ⟨x, s, z, rfl, _⟩ := h
   rfl
 · obtain ⟨x, s, z, rfl, ⟨dx, hx⟩, hk, z0, z1, hs, q⟩ := h
   change H x = some (.ins a.aD dx (aN "target" (.int t) [])) at hx
   obtain ⟨k1,k2⟩:=hk
   refine ⟨_,(ag (aw (aF (pX (K:=K) T) (hr.mono (by decide)) aO rfl (aa (pv 1) (aa (bg (v:=.int 143) rfl T.dq.choose_spec ⟨_,rfl⟩) af))))),?_⟩
   refine a_ (σ':=[some _,some _,some _]) rfl ?_
   walk_at "rd"
   exact sr (p:=143) q
theorem i8 (T : Txt K mg a) : lA P w K mg base ba 2 "Back" a.aK (fH a.aK Rw.back) := by
 refine jk (sp:=(fH a.aK Rw.back)) 1 T.jv T.Af tG (fun vs H Q E h=>?_) (fun f cdv A outer s H vs Q E hr h=>?_)
 · obtain ⟨x, dx, i, rfl, _⟩ := h
   rfl
 · obtain ⟨x, dx, i, rfl, ⟨h1, h2⟩, hx, q⟩ := h
   refine ⟨_,(ag (fg (K:=K) rfl (pv 0) (aF (dh (K:=K) T) (hr.mono (by decide)) aO rfl (aa (pv 1) (aa (bg (v:=.int 7) rfl T.eg.choose_spec ⟨_,rfl⟩) af))))),?_⟩
   refine a_ (σ':=[some _,some _]) rfl ?_
   walk_at "rd"
   exact q _ mB ah
theorem j9 (T : Txt K mg a) : lA P w K mg base ba 2 "Drop" a.a8 (fH a.a8 Rw.drop) := by
 refine jk (sp:=(fH a.a8 Rw.drop)) 1 T.j_ T.Ar ug (fun vs H Q E h=>?_) (fun f cdv A outer s H vs Q E hr h=>?_)
 · obtain ⟨x, dx, i, rfl, _⟩ := h
   rfl
 · obtain ⟨x, dx, i, rfl, ⟨h1, h2⟩, hx, q⟩ := h
   refine ⟨_,(ag (fg (K:=K) rfl (pv 0) (aF (dh (K:=K) T) (hr.mono (by decide)) aO rfl (aa (pv 1) (aa (bg (v:=.int 7) rfl T.eg.choose_spec ⟨_,rfl⟩) af))))),?_⟩
   refine a_ (σ':=[some _,some _]) rfl ?_
   walk_at "rd"
   exact q _ mB ah
theorem mQ (T : Txt K mg a) : cV P w K mg base ba 2 "has_wrong_place" (wU K) := by
 refine bT (sp:=(wU K)) 1 T.iP gh (fun vs H Q E h=>?_) (fun f cdv A outer s H vs Q E hr h=>?_)
 · obtain ⟨p, e, rfl, _⟩ := h
   rfl
 · obtain ⟨p, e, rfl, ⟨qe, h1, h2⟩, q⟩ := h
   refine ⟨_, (ai (aS (i := 1) gh.nd rfl (Or.inl rfl) (aM (aV (K := K) rfl) (pv 0) ak (fun _ _ => rfl)))
     (ai (aX (PW.pt (fO (aE iF (pv 1) ak (aG _)) (fE (aE lj (pv 1) (bg (v:=.int 4000) rfl T.dk.choose_spec ⟨_,rfl⟩) (aG _))))) (ag (aw gz)) aI)
     (ai (aS (i:=2) gh.nd rfl (Or.inr rfl) (aQ (bD (K:=K) rfl) (bg (v:=.int 8) rfl T.cI.choose_spec ⟨_,rfl⟩) (pv 1)))
     (ag (aw (aT (zw (K:=K) rfl rfl) rfl T.nB Lx (aa (gL (own:=["places"]) (fr:=[("beyond",2)]) rfl ⟨rfl,(by walk_at "clok"),(by walk_at "frok"),rfl,(by decide +kernel),(by decide +kernel),rfl⟩ (cC (K:=K) rfl (aF (i6 (K:=K) T) (hr.mono (by decide)) aO rfl (aa (pv 0) af))) (fun _ _ _ _=>(bb (i:=0) (show List.Nodup [("places" : Str),("beyond" : Str)] from by decide +kernel) rfl (Or.inl rfl))) (fun _ _ _ _=>gm) (fun _ _ _ _=>(LO (fm xZ (pv 0) ak (aG _)) (AE (fm (fG (K:=K) rfl hr.units) (aQ Hg (pv 0) (pv 1)) ak (aG _)))))) af))))))),?_⟩
   refine a_ (σ':=[some _,none,none]) rfl ?_
   walk_at "rd"
   refine eY (fun hh=>?_) (fun hh=>?_)
   · walk_at "rd"
     rw [show gg e = true from by unfold gg;rw [decide_eq_true hh];rfl] at q
     exact q _ (ar.refl _)
   walk_at "rd"
   refine eY (fun hh2=>?_) (fun hh2=>?_)
   · walk_at "rd"
     rw [show gg e = true from by unfold gg;rw [decide_eq_true hh2,Bool.true_or,Bool.or_true]] at q
     exact q _ (ar.refl _)
   walk_at "rd"
   refine ⟨p,e,rfl,⟨qe,h1,h2⟩,fun t ht=>?_⟩
   walk_at "rd"
   refine AQ (emb:=V.int) (fun s=>.bl (ky e.h s)) (fun σ=>∃ v,σ = [v,some (.int (8 + e.h))]) (aW.of ah) (by show 4 ≤ sizeLine;decide) ⟨_,rfl⟩ ?_ ?_
   · rintro i x ys σ H1 hx cc ss ⟨v, rfl⟩
     walk_at "rd"
     refine eY (fun h3=>?_) (fun h3=>?_)
     · walk_at "rd"
       exact cc.next hx (by unfold ky;rw [decide_eq_true h3];rfl) (by walk_at "same") ⟨_,rfl⟩
     · walk_at "rd"
       exact cc.next hx (by unfold ky;rw [decide_eq_false h3,Bool.false_or];congr 2;rw [decide_eq_decide];exact ⟨fun z=>by injection z,fun z=>by rw [z]⟩) (by walk_at "same") ⟨_,rfl⟩
   intro H3 s3
   walk_at "rd"
   rename_i l nl
   refine Io (bs:=e.eM.map (ky e.h)) (by rw [List.map_map];exact az.of ah) ?_
   rw [show (e.eM.map (ky e.h)).any id = gg e from by
     unfold gg
     rw [decide_eq_false hh,decide_eq_false hh2,Bool.false_or,Bool.false_or,List.any_map];rfl]
   exact q _ (by walk_at "same")
theorem qx (T : Txt K mg a) : cV P w K mg base ba 2 "may_go_back" (AL K a) := by
 refine bT (sp:=(AL K a)) 1 T.kx qc (fun vs H Q E h=>?_) (fun f cdv A outer s H vs Q E hr h=>?_)
 · obtain ⟨x, p, b, e, rfl, _⟩ := h
   rfl
 · obtain ⟨x, p, b, e, rfl, ⟨dx, hx⟩, b0, b7, ⟨qe, h1, h2⟩, q⟩ := h
   change H x = some (.ins a.aK dx (aN "box" (.int b) [])) at hx
   refine ⟨_, (ai (aX (PW.pt (fO (aE (fG (K := K) rfl hr.units) (aM (aV (K := K) rfl) (pv 1) ak (fun _ _ => rfl)) ak (aG _)) (fE (hZ (bY (K := K) rfl (aQ m6 (aM (aV (K := K) rfl) (pv 1) ak (fun _ _ => rfl)) (aF (jo (K := K) T) (hr.mono (by decide)) aO rfl (aa (bo (K := K) rfl (pv 0)) af)))))))) (ag (aw gz)) aI)
     (ag (aw (aT (xT (K:=K) rfl rfl) rfl T.nv Le (aa (gL (own:=["box","places"]) (fr:=[]) rfl ⟨rfl,(by walk_at "clok"),(by walk_at "frok"),rfl,(by decide +kernel),(by decide +kernel),rfl⟩ (GA (K:=K) rfl rfl T.jM (aa (bg (v:=.ref a.cQ) rfl T.mY rfl) (aa (aM (aV (K:=K) rfl) (pv 1) ak (fun _ _=>rfl)) af))) (fun _ _ _ _=>(qj (K:=K) (n:=2) rfl rfl (eT (bb (i:=0) (show List.Nodup [("box" : Str),("places" : Str)] from by decide +kernel) rfl (Or.inl rfl)) (eT (bb (i:=1) (show List.Nodup [("box" : Str),("places" : Str)] from by decide +kernel) rfl (Or.inl rfl)) qT)))) (fun _ _ _ _=>gm) (fun _ _ _ _=>(aQ m6 (pv 1) (aF (jo (K:=K) T) (hr.mono (by decide)) aO rfl (aa (pv 0) af))))) af))))),?_⟩
   refine a_ (σ':=[some _,some _]) rfl ?_
   walk_at "rd"
   refine jq (fun hh=>?_) (fun hh=>?_)
   · walk_at "rd"
     rw [show oH b e = false from by unfold oH;rw [decide_eq_false hh];rfl] at q
     exact q _ (ar.refl _)
   walk_at "rd"
   unfold oH at q
   rw [decide_eq_true hh,Bool.true_and] at q
   cases hb:(Builtin.bitAnd e.b ((2 ^ b.toNat:Nat):Int) != 0) with
   | false =>
     rw [hb] at q
     walk_at "rd"
     exact q _ (ar.refl _)
   | true =>
     rw [hb,Bool.true_and] at q
     walk_at "rd"
     refine ⟨a.cQ,qe,_,_,rfl,T.je _,h2,?_⟩
     refine yj (xs:=[((4:Int),e.v4),(5,e.v5),(6,e.v6)]) (e1:=fun q=>.int q.1) (e2:=fun q=>.int q.2) (fun q=>.int (Builtin.bitAnd q.2 ((2 ^ q.1.toNat:Nat):Int))) (fun σ=>∃ u v,σ = [u,v]) (T.je _) h2 (by show 3 ≤ sizeLine;decide) ⟨_,_,rfl⟩ ?_ ?_
     · rintro i z ys σ H1 T' hz cc ss ⟨u, v, rfl⟩ nT
       have hzz : 0 ≤ z.1 ∧ z.1 ≤ 7 := by
         match i,hz with
         | 0,hz=>cases hz;exact ⟨by show (0:Int) ≤ 4;decide,by show (4:Int) ≤ 7;decide⟩
         | 1,hz=>cases hz;exact ⟨by show (0:Int) ≤ 5;decide,by show (5:Int) ≤ 7;decide⟩
         | 2,hz=>cases hz;exact ⟨by show (0:Int) ≤ 6;decide,by show (6:Int) ≤ 7;decide⟩
         | i + 3,hz=>simp at hz
       obtain ⟨z0,z7⟩:=hzz
       walk_at "rd"
       exact cc.next hz rfl (by walk_at "same") ⟨_,_,rfl⟩
     intro H3 s3
     walk_at "rd"
     rename_i l nl
     refine Kr (ns:=[Builtin.bitAnd e.v4 16,Builtin.bitAnd e.v5 32,Builtin.bitAnd e.v6 64]) (az.of ah) ?_
     simp only [List.all_cons,List.all_nil,Bool.and_true]
     exact q _ (by walk_at "same")
theorem lQ (T : Txt K mg a) : cV P w K mg base ba 2 "target_complaint" (zu K a) := by
 refine bT (sp:=(zu K a)) 1 T.ib lR (fun vs H Q E h=>?_) (fun f cdv A outer s H vs Q E hr h=>?_)
 · obtain ⟨x, l, t, ev, es, rfl, _⟩ := h
   rfl
 · obtain ⟨x, l, t, ev, es, rfl, ⟨dx, hx⟩, hl, hev, q⟩ := h
   change H x = some (.ins a.aD dx (aN "target" (.int t) [])) at hx
   refine ⟨_, (ai (aX (hZ (bY (K := K) rfl (aF (mG (K := K) T) (hr.mono (by decide)) aO rfl (aa (bo (K := K) rfl (pv 0)) (aa (pv 1) af))))) (ag (aw cm)) aI)
     (ag (aw (jA (aE (dG (K:=K) rfl hr.units) (aM (aV (K:=K) rfl) (pv 1) (bo (K:=K) rfl (pv 0)) (fun _ _=>rfl)) (bg (v:=.ref a.d7) rfl T.i9 rfl) (aG _)) bz cm)))),?_⟩
   refine a_ (σ':=[some _,some _]) rfl ?_
   walk_at "rd"
   refine ⟨t,l,ev,rfl,az.of hl,?_⟩
   rw [hev.1]
   by_cases hh : 0 ≤ t∧t < (es.length:Int)
   · rw [decide_eq_true hh]
     obtain ⟨v,oe,hat,hoe,hmem,hv⟩:=hev.at hh.1 hh.2
     obtain ⟨qs,t1,t2⟩:=T.ki
     walk_at "rd"
     refine LD oe fo hv.dp (iu (t1 _) (t2 _)) ?_
     have q : ∀ H', ar H H' → Q (oV (if gW oe fo = true then none else some .start)) H' := fun H' s => by
       have:=q H' s
       unfold fe at this
       rw [if_pos hh,hoe] at this
       exact this
     cases hb:gW oe fo with
     | true =>
       rw [hb] at q
       walk_at "rd"
       exact q _ (ar.refl _)
     | false =>
       rw [hb] at q
       walk_at "rd"
       exact q _ (ar.refl _)
   · rw [decide_eq_false hh]
     walk_at "rd"
     have:=q H (ar.refl _)
     unfold fe at this
     rw [if_neg hh] at this
     exact this
theorem wV (T : Txt K mg a) : cV P w K mg base ba 2 "ways_on" (uh K a) := by
 refine bT (sp:=(uh K a)) 1 T.pH pS (fun vs H Q E h=>?_) (fun f cdv A outer s H vs Q E hr h=>?_)
 · obtain ⟨c, d, i, prs, rs, ls, rfl, _⟩ := h
   rfl
 · obtain ⟨c, d, i, prs, rs, ls, rfl, hc, hrs, ay, hd, hnd, hi, q⟩ := h
   have hpl:=hrs.1
   have hri:rs[i]? = some rs[i]:=List.getElem?_eq_getElem hi
   have hpi:prs[i]? = some prs[i]:=List.getElem?_eq_getElem (by rw [hpl];exact hi)
   have hrow:=hrs.2 i _ _ hpi hri
   have hoki:=ay _ (List.getElem_mem hi)
   have hw:bN rs ls i = (rs[i]).bq i ++ (if (rs[i]).isCall = true∧(i:Int) ∈ ls.map (·.1) then [lv ls i] else []):=by unfold bN;rw [hri]
   generalize rs[i] = r at hri hrow hoki hw
   generalize prs[i] = p0 at hpi hrow
   have hat:cD (prs.map V.ref) (i:Int) = some (.ref p0):=bL (by rw [List.getElem?_map,hpi];rfl)
   obtain ⟨dx,hdx⟩:=id hrow
   refine ⟨_, (ai (aS (i := 3) pS.nd rfl (Or.inl rfl) (fS (P := P) (w := w) (K := K) (mg := mg) (base := base) (k := 1) ⟨rfl, rfl, rfl, rfl, rfl⟩ (aM (aV (K := K) rfl) (pv 0) (pv 2) (fun _ _ => rfl)) (hr.mono (by decide)) aO (aa (pv 2) af)))
     (ai (aX (PW.pt (mW (bY (K:=K) rfl (aT (cN (K:=K) rfl) rfl T.bh bI (aa (aM (aV (K:=K) rfl) (pv 0) (pv 2) (fun _ _=>rfl)) (aa (bg (v:=.ref a.aD) rfl T.du rfl) af)))) (kf (zV (zR (ll hr) (pv 2) (pv 1)))))) (ag (cB (g_ (K:=K) rfl PySem.F.plainAttrs_list PySem.F.slot_list_append PySem.F.type_list_append ft (pv 3) (aa (qy (ll hr) (pv 1) (pv 2) (fun _ _=>rfl)) af)))) aI)
     (ag (aw (pv 3))))),?_⟩
   refine a_ (σ':=[some _,some _,some _,none]) rfl ?_
   walk_at "rk"
   refine dm hdx (mx _) ((jZ T hoki.2).mono (by decide)) ?_
   walk_at "rk"
   refine ⟨p0,i,rfl,hrow,fun l nl=>?_⟩
   walk_at "rk"
   obtain ⟨t',ht1,ht2,_⟩:=gy T hoki.2 (hrow.same (aq (o:=.lst ((r.bq i).map V.int)) nl))
   refine gk (fun z=>nomatch z) ht1 ht2 ?_
   have hgl:=tY r i
   cases hcl:r.isCall with
   | false =>
     rw [hcl,if_neg (by intro z;cases z.1),List.append_nil] at hw
     walk_at "rk"
     exact q l _ (aq nl) nl (by rw [hw];exact ah)
   | true =>
     walk_at "rk"
     refine Jg ?_
     refine Cf ?_
     walk_at "rk"
     refine AI (kvs:=aR ls) (aC hd nl) ?_
     by_cases hm:(i:Int) ∈ ls.map (·.1)
     · obtain ⟨kv, hkv, hke⟩ := List.mem_map.mp hm
       obtain ⟨hv1,hv2⟩:=iw hnd kv hkv
       rw [hke] at hv1 hv2
       rw [← hv2] at hv1
       rw [hv1]
       rw [hcl,if_pos ⟨rfl,hm⟩] at hw
       refine ⟨true,rfl,?_⟩
       rw [if_pos rfl]
       walk_at "rk"
       refine tR ?_
       walk_at "rk"
       refine ⟨d,_,rfl,hv1 ▸ gF.k (k:=.inl (i:Int)) (aC hd nl),?_⟩
       walk_at "rk"
       refine q l _ (fun b o e=>by rw [ao (av e nl),ao (av e nl)];exact e) nl ?_
       rw [ah,hw,List.map_append];rfl
     · rw [jK hm]
       rw [if_neg (fun z=>hm z.2),List.append_nil] at hw
       refine ⟨false,rfl,?_⟩
       rw [if_neg Bool.false_ne_true]
       walk_at "rk"
       exact q l _ (aq nl) nl (by rw [hw];exact ah)
theorem sv (T : Txt K mg a) : cV P w K mg base (e_ P w) 2 "heights_of" (DQ K a) := by
 refine uk (sp:=(DQ K a)) 1 T.lE dZ (fun vs H Q E h=>?_) (fun f cdv A outer s H vs Q E hr h=>?_)
 · obtain ⟨c, ly, prs, rs, ls, rfl, _⟩ := h
   rfl
 · obtain ⟨c, ly, prs, rs, ls, rfl, hc, hrs, ay, h0, h2000, hls, hwy, qe, q⟩ := h
   have hpl:=hrs.1
   refine ⟨_, (ai (PS.cw (j4 (i := 2) dZ.nd rfl rfl (own := ["row"]) (fr := []) rfl ⟨rfl, (by walk_at "clok"), (by walk_at "frok"), rfl, (by decide +kernel), (by decide +kernel), rfl⟩ (cC (K := K) rfl (pv 0)) (fun _ _ _ _ => (bb (i := 0) (show List.Nodup [("row" : Str)] from by decide +kernel) rfl (Or.inl rfl))) (fun _ _ _ _ => gm) (fun _ _ _ _ => bz)))
     (ai (PS.cw (aS (i:=3) dZ.nd rfl (Or.inl rfl) (bH af)))
     (ai (cB (aF (oF (K:=K) T) (hr.mono (by decide)) kn rfl (aa (pv 2) (aa (pv 3) (aa ak (aa (aM (aV (K:=K) rfl) (bg (v:=.ref a.d7) rfl T.i9 rfl) ak (fun _ _=>rfl)) af))))))
     (ai (t6 PassesOwn.leaving (PT.cw (aE lj (aT (bC (K:=K) rfl) rfl T.cu dg (aa (pv 3) af)) ak (aG _))) (ai (PS.cw (aS (i:=4) dZ.nd rfl (Or.inl rfl) (wy (K:=K) rfl PySem.F.plainAttrs_list PySem.F.slot_list_pop PySem.F.type_list_pop Ju (pv 3))))
     (ai (PS.cw (aS (i:=5) dZ.nd rfl (Or.inl rfl) (fS (P:=P) (w:=w) (K:=K) (mg:=mg) (base:=base) (k:=1) ⟨rfl,rfl,rfl,rfl,rfl⟩ (aM (aV (K:=K) rfl) (pv 0) (pv 4) (fun _ _=>rfl)) (hr.mono (by decide)) aO (aa (aM (aV (K:=K) rfl) (pv 2) (pv 4) (fun _ _=>rfl)) af))))
     (ai (aX (PT.cw (aE cU (pv 5) bz (aG _))) (ag (kK T.gK rfl (aa (rq (pv 4)) af))) aI)
     (ai (fc PassesOwn.leaving rfl (cC (K:=K) rfl (aM (aV (K:=K) rfl) (pv 1) (pv 4) (fun _ _=>rfl))) (bb (i:=6) dZ.nd rfl (Or.inl rfl)) (ag (cB (aF (oF (K:=K) T) (hr.mono (by decide)) kn rfl (aa (pv 2) (aa (pv 3) (aa (pv 6) (aa (pv 5) af))))))))
     (ag (aX (PT.cw (bY (K:=K) rfl (aT (cN (K:=K) rfl) rfl T.bh bI (aa (aM (aV (K:=K) rfl) (pv 0) (pv 4) (fun _ _=>rfl)) (aa (bg (v:=.ref a.aD) rfl T.du rfl) af))))) (ag (cB (aF (oF (K:=K) T) (hr.mono (by decide)) kn rfl (aa (pv 2) (aa (pv 3) (aa (bo (K:=K) rfl (aM (aV (K:=K) rfl) (pv 0) (pv 4) (fun _ _=>rfl))) (aa (aM (aV (K:=K) rfl) (bg (v:=.ref a.d7) rfl T.i9 rfl) ak (fun _ _=>rfl)) af))))))) aI)))))))
     (ag (PS.cw (aw (pv 2)))))))),?_⟩
   refine a_ (σ':=[some _,some _,none,none,none,none,none]) rfl ?_
   walk_at "rk"
   refine f9 (K:=K) (a:=c) (xs:=prs.map V.ref) (fun i ys σ H1=>(∃ v,σ = [v])∧ar H H1∧ys = (List.replicate i (none:Option Int)).map bW) ⟨⟨_,rfl⟩,ar.refl _,rfl⟩ (fun i ys σ H1 hi ⟨_,s1,e⟩=>⟨az.of (s1 _ _ hc),by rw [e,List.length_map,List.length_replicate,sizeLine_eq];rw [List.length_map] at hi;omega⟩) ?_ ?_
   · rintro i v ys σ H1 hv ⟨⟨u, rfl⟩, s1, rfl⟩
     walk_at "rk"
     exact ⟨⟨_,rfl⟩,s1,by rw [List.replicate_succ',List.map_append];rfl⟩
   rintro ys σ H1 ⟨_,s1,rfl⟩ lh nlh
   rw [List.length_map,hpl]
   obtain ⟨qs',hst,_⟩:=T.ki
   walk_at "rk"
   rename_i lw nlw
   refine xJ (hst _) (v:=.int 0) rfl ?_
   walk_at "rk"
   have nhw:lh ≠ lw:=fun z=>by rw [← z,ah] at nlw;cases nlw
   have nlhH:H lh = none:=aU s1 nlh
   have nlwH:H lw = none:=aU s1 (gD nlw).1
   have hrep:(List.replicate rs.length (none:Option Int))[0]? = some none:=by rw [List.getElem?_replicate,if_pos h0]
   refine ⟨lh,lw,0,0,List.replicate rs.length none,[],rfl,aC ah nlw,ah,by rw [List.length_replicate];exact h2000,by decide,by decide,by decide,nhw,fun hb=>?Me,fun _ e0=>?Mj,fun _ _=>?M6⟩
   case Me =>
     exfalso
     rcases hb with hb | hb | ⟨h2,e2,_⟩
     · omega
     · rw [List.length_replicate] at hb;omega
     · rw [show ((0:Int).toNat) = 0 from rfl,hrep] at e2;cases e2
   case Mj=>rw [show ((0:Int).toNat) = 0 from rfl,hrep] at e0;cases e0
   have I0 : HI rs ls ((List.replicate rs.length (none : Option Int)).set 0 (some 0)) ([] ++ [0]) none := by
     refine HI.new (n:=0) ⟨List.length_replicate,fun i h hi=>?_,(fun k hk=>by cases hk),fun i _ _ h r hi=>?_,by rw [JP,List.length_replicate];exact Nat.le_of_eq (Nat.zero_add _)⟩ hrep RH.start
     · rw [List.getElem?_replicate] at hi;split at hi <;> cases hi
     · rw [List.getElem?_replicate] at hi;split at hi <;> cases hi
   have hst0:((List.replicate rs.length (none:Option Int)).set 0 (some 0))[0]? = some (some 0):=List.getElem?_set_self (by rw [List.length_replicate];exact h0)
   rw [show ((0:Int).toNat) = 0 from rfl]
   generalize (List.replicate rs.length (none:Option Int)).set 0 (some 0) = hs0 at I0 hst0 ⊢
   have sB : ar H (upd (upd (upd (upd H1 lh (.lst ((List.replicate rs.length (none : Option Int)).map bW))) lw (.lst [])) lh (.lst (hs0.map bW))) lw (.lst (([] ++ [0] : List Nat).map nV))) := fun b o e => by
     rw [ao (av e nlwH),ao (av e nlhH),ao (av e nlwH),ao (av e nlhH)];exact s1 _ _ e
   have hlhB:(upd (upd (upd (upd H1 lh (.lst ((List.replicate rs.length (none:Option Int)).map bW))) lw (.lst [])) lh (.lst (hs0.map bW))) lw (.lst (([] ++ [0]:List Nat).map nV))) lh = some (.lst (hs0.map bW)):=by rw [ao nhw];exact ah
   have hlwB:(upd (upd (upd (upd H1 lh (.lst ((List.replicate rs.length (none:Option Int)).map bW))) lw (.lst [])) lh (.lst (hs0.map bW))) lw (.lst (([] ++ [0]:List Nat).map nV))) lw = some (.lst (([] ++ [0]:List Nat).map nV)):=ah
   generalize (upd (upd (upd (upd H1 lh (.lst ((List.replicate rs.length (none:Option Int)).map bW))) lw (.lst [])) lh (.lst (hs0.map bW))) lw (.lst (([] ++ [0]:List Nat).map nV))) = HB at sB hlhB hlwB ⊢
   clear s1 nlh nlw hrep
   walk_at "rk"
   refine ⟨fun j σ HQ=>∃ (hs2:List (Option Int)) (ws2:List Nat) (u v x:Option V),ar H HQ∧σ = [some (.ref c),some (.ref ly),some (.ref lh),some (.ref lw),u,v,x]∧HQ lh = some (.lst (hs2.map bW))∧HQ lw = some (.lst (ws2.map nV))∧HI rs ls hs2 ws2 none∧hs2[0]? = some (some 0)∧j = ws2.length + 2 * nN hs2,⟨_,hs0,[] ++ [0],_,_,_,sB,rfl,hlhB,hlwB,I0,hst0,rfl⟩,?_⟩
   clear sB hlhB hlwB I0 hst0
   rintro j σ HQ ⟨hs2,ws2,u1,u2,u3,s2,rfl,hlh2,hlw2,I2,hz2,rfl⟩
   have hf2:=I2.Ft
   have hl2:=I2.len
   walk_at "rk"
   refine cx (az.of hlw2) ?_
   rw [List.length_map]
   rcases List.eq_nil_or_concat ws2 with rfl | ⟨ws3,k,rfl⟩
   · walk_at "rk"
     refine q lh hs2 HQ s2 nlhH hlh2 ⟨hl2,I2.rh,hz2,fun i h r e1 e2=>(I2.cl i (by simp) (by simp) h r e1 e2).1,fun i h t e1 e2=>(I2.cl i (by simp) (by simp) h (.call t) e1 e2).2 t rfl⟩
   · rw [List.concat_eq_append] at hlw2 I2 hf2 ⊢
     have hwl:(ws3 ++ [k]).length = ws3.length + 1:=by rw [List.length_append];rfl
     rw [hwl] at hf2 ⊢
     walk_at "rk"
     refine ⟨_,fun σ' H' h=>h,?_⟩
     walk_at "rk"
     refine LL (xs:=ws3.map nV) (y:=.int (k:Int)) (by rw [hlw2,List.map_append];rfl) ?_
     obtain ⟨h,hk⟩:=I2.Fj k (List.mem_append_right _ (List.mem_singleton.mpr rfl))
     have hkl:k < rs.length:=by rw [← hl2];exact (List.getElem?_eq_some_iff.mp hk).1
     have hrk:rs[k]? = some rs[k]:=List.getElem?_eq_getElem hkl
     have hpk:prs[k]? = some prs[k]:=List.getElem?_eq_getElem (by rw [hpl];exact hkl)
     have hrow:=hrs.2 k _ _ hpk hrk
     have hokk:=ay _ (List.getElem_mem hkl)
     generalize rs[k] = r at hrk hrow hokk
     generalize prs[k] = p0 at hpk hrow
     have hrhk:=I2.rh k h hk
     have I3 : HI rs ls hs2 ws3 (some k) := ⟨hl2, I2.rh, fun m hm => I2.Fj m (List.mem_append_left _ hm), fun i hi hx => I2.cl i (fun hm => by
         rcases List.mem_append.mp hm with hm | hm
         · exact hi hm
         · exact hx (by rw [List.mem_singleton.mp hm])) (by simp),by omega⟩
     have s3:ar H (upd HQ lw (.lst (ws3.map nV))):=fun b o e=>by rw [ao (av e nlwH)];exact s2 _ _ e
     have hlh3:(upd HQ lw (.lst (ws3.map nV))) lh = some (.lst (hs2.map bW)):=by rw [ao nhw];exact hlh2
     have hlw3:(upd HQ lw (.lst (ws3.map nV))) lw = some (.lst (ws3.map nV)):=ah
     generalize (upd HQ lw (.lst (ws3.map nV))) = HC at s3 hlh3 hlw3 ⊢
     clear s2 hlh2 hlw2 I2
     have hat:cD (prs.map V.ref) (k:Int) = some (.ref p0):=bL (by rw [List.getElem?_map,hpk];rfl)
     have hat2:cD (hs2.map bW) (k:Int) = some (.int h):=bL (by rw [List.getElem?_map,hk];rfl)
     have hc3:=s3 _ _ hc
     have hrow3:=hrow.same s3
     obtain ⟨dx,hdx⟩:=id hrow3
     obtain ⟨wps,hwl0,hwl2,hwl3⟩:=id hwy
     have hwl1:=s3 _ _ hwl0
     have hwk:wps[k]? = some wps[k]:=List.getElem?_eq_getElem (by rw [hwl2];exact hkl)
     have hwayH:=hwl3 k _ hwk
     generalize wps[k] = pw at hwk hwayH
     have hway:=s3 _ _ hwayH
     have hat3:cD (wps.map V.ref) (k:Int) = some (.ref pw):=bL (by rw [List.getElem?_map,hwk];rfl)
     have hwb:=xE (i:=k) ay hls h2000
     walk_at "rk"
     refine dm hdx (jV _) ((iT T hokk.2).mono (by decide)) ?_
     walk_at "rk"
     refine ⟨p0,h,rfl,hrow3,?_⟩
     cases hh:r.bj h with
     | none =>
       show dW 5 V.aH _ _ _
       walk_at "rk"
       refine i_ ?_
       walk_at "rk"
       refine oX ?_
       walk_at "rk"
       exact ⟨jL (by omega) (by omega),by show 1 ≤ 1000;decide,qe ⟨k,h,hrhk,.inr (.inr (.inl ⟨r,by rw [Int.toNat_natCast];exact hrk,hh⟩))⟩ _ s3⟩
     | some h' =>
       show dW 5 (V.int h') _ _ _
       walk_at "rk"
       have reach_step : ∀ {hs3 : List (Option Int)} {ws4 : List Nat} {HD : Hp} {n x : Int} {R : Hp → Prop}, HI rs ls hs3 ws4 (some k) → ar H HD → HD lh = some (.lst (hs3.map bW)) → HD lw = some (.lst (ws4.map nV)) → RH rs ls n x → -10000 ≤ n → n ≤ 10000 →
           (∀ hs5 ws5 HE,HI rs ls hs5 ws5 (some k)→ar H HE→HE lh = some (.lst (hs5.map bW))→HE lw = some (.lst (ws5.map nV))→(∀ (i:Nat) (y:Int),hs3[i]? = some (some y)→hs5[i]? = some (some y))→0 ≤ n→hs5[n.toNat]? = some (some x)→ws5.length + 2 * nN hs5 ≤ ws4.length + 2 * nN hs3→R HE) →
           qF a [.ref lh,.ref lw,.int n,.int x] HD (fun _ HE=>R HE) E:=by
         intro hs3 ws4 HD n x R I4 s4 hlh4 hlw4 rh b1 b2 qq
         refine ⟨lh,lw,n,x,hs3,ws4,rfl,hlh4,hlw4,by rw [I4.len];exact h2000,by have:=I4.Ft;have:=I4.len;omega,b1,b2,nhw,fun hb=>qe (I4.reach rh hb) _ s4,fun p0' e0=>qq hs3 ws4 HD I4 s4 hlh4 hlw4 (fun _ _ e=>e) p0' e0 (Nat.le_refl _),fun p0' e0=>?_⟩
         have hn:=(List.getElem?_eq_some_iff.mp e0).1
         have hI5:=I4.new e0 (show RH rs ls ((n.toNat:Nat):Int) x by rw [show ((n.toNat:Nat):Int) = n by omega];exact rh)
         have hcnt:=u_ (x:=x) e0
         refine qq (hs3.set n.toNat (some x)) (ws4 ++ [n.toNat]) _ hI5 (fun b o e=>by rw [ao (av e nlwH),ao (av e nlhH)];exact s4 _ _ e) (by rw [ao nhw];exact ah) ah (fun i y e=>h_ e0 e) p0' (List.getElem?_set_self hn) ?_
         rw [List.length_append];show _ + 1 + _ ≤ _;omega
       refine fB (K:=K) (a:=pw) (xs:=(bN rs ls k).map V.int) (fun i σ HD=>∃ (hs3:List (Option Int)) (ws4:List Nat) (x:Option V),ar H HD∧σ = [some (.ref c),some (.ref ly),some (.ref lh),some (.ref lw),some (.int (k:Int)),some (.int h'),x]∧HD lh = some (.lst (hs3.map bW))∧HD lw = some (.lst (ws4.map nV))∧HI rs ls hs3 ws4 (some k)∧hs3[0]? = some (some 0)∧hs3[k]? = some (some h)∧(∀ w ∈ (bN rs ls k).take i,0 ≤ w∧hs3[w.toNat]? = some (some h'))∧ws4.length + 2 * nN hs3 ≤ ws3.length + 2 * nN hs2) ⟨hs2,ws3,_,s3,rfl,hlh3,hlw3,I3,hz2,hk,(fun w hw=>by rw [List.take_zero] at hw;cases hw),Nat.le_refl _⟩ (fun i σ HD _ ⟨_,_,_,s4,_⟩=>az.of (s4 _ _ hwayH)) ?_ ?_
       · rintro i v σ HD hv ⟨hs3, ws4, x, s4, rfl, hlh4, hlw4, I4, hz4, hk4, hcl4, hm4⟩
         obtain ⟨w, hx, rfl⟩ : ∃ w, (bN rs ls k)[i]? = some w ∧ v = .int w := by
           rw [List.getElem?_map] at hv
           obtain ⟨p,hp,e⟩:=Option.map_eq_some_iff.mp hv
           exact ⟨p,hp,e.symm⟩
         have hwm:=List.mem_of_getElem? hx
         walk_at "rk"
         refine reach_step I4 s4 hlh4 hlw4 (RH.way hrhk hrk hh hwm) (hwb w hwm).1 (hwb w hwm).2 fun hs5 ws5 HE I5 s5 hlh5 hlw5 mono p0' e5 hm5=>?_
         refine ⟨hs5,ws5,_,s5,rfl,hlh5,hlw5,I5,mono 0 0 hz4,mono k h hk4,fun w' hw'=>?_,by omega⟩
         rw [List.take_add_one,hx,Option.toList_some] at hw'
         rcases List.mem_append.mp hw' with hw' | hw'
         · exact ⟨(hcl4 w' hw').1,mono _ _ (hcl4 w' hw').2⟩
         · rw [List.mem_singleton.mp hw'];exact ⟨p0',e5⟩
       · rintro σ HD ⟨hs3, ws4, x, s4, rfl, hlh4, hlw4, I4, hz4, hk4, hcl4, hm4⟩
         rw [List.length_map,List.take_length] at hcl4
         have hcD:=s4 _ _ hc
         have hrowD:=hrow.same s4
         clear hlh3 hlw3 hc3 hrow3 hdx hway hwl1 s3 I3
         obtain ⟨t',ty1,ty2,_⟩:=gy T hokk.2 hrowD
         walk_at "rk"
         refine gk (fun z=>nomatch z) ty1 ty2 ?_
         cases hcall:r.isCall with
         | false =>
           walk_at "rk"
           refine ⟨_,?_,hs3,ws4,_,_,_,s4,rfl,hlh4,hlw4,I4.close fun h1 r1 e1 e2=>?_,hz4,rfl⟩
           · omega
           · rw [hk4] at e1; cases e1
             rw [hrk] at e2;cases e2
             exact ⟨⟨h',hh,hcl4⟩,fun t ht=>by rw [ht] at hcall;cases hcall⟩
         | true =>
           obtain ⟨t, rfl⟩ : ∃ t, r = .call t := by
             cases r <;> first | exact ⟨_,rfl⟩ | (cases hcall)
           obtain ⟨dxD,hdxD⟩:=hrowD
           have hdxD:HD p0 = some (.ins a.aD dxD (aN "target" (.int t) [])):=hdxD
           have htb : 0 ≤ t∧t ≤ 2000:=hokk.1
           walk_at "rk"
           refine xJ (hst _) (v:=.int 0) rfl ?_
           walk_at "rk"
           refine reach_step I4 s4 hlh4 hlw4 (RH.call hrhk hrk) (by omega) (by omega) fun hs5 ws5 HE I5 s5 hlh5 hlw5 mono p0' e5 hm5=>?_
           refine ⟨_,?_,hs5,ws5,_,_,_,s5,rfl,hlh5,hlw5,I5.close fun h1 r1 e1 e2=>?_,mono 0 0 hz4,rfl⟩
           · omega
           · rw [mono k h hk4] at e1; cases e1
             rw [hrk] at e2;cases e2
             exact ⟨⟨h',hh,fun w hw=>⟨(hcl4 w hw).1,mono _ _ (hcl4 w hw).2⟩⟩,fun t2 ht2=>by cases ht2;exact ⟨p0',e5⟩⟩
theorem uV (T : Txt K mg a) : cV P w K mg base ba 2 "_law_comes" (q0 a) := by
 refine bT (sp:=(q0 a)) 1 T.l_ cP (fun vs H Q E h=>?_) (fun f cdv A outer s H vs Q E hr h=>?_)
 · obtain ⟨c, d, prs, rs, ls, hs, rfl, _⟩ := h
   rfl
 · obtain ⟨c, d, prs, rs, ls, hs, rfl, hc, hrs, ay, hpos, h10, hls, hd, O, q⟩ := h
   have hpl:=hrs.1
   have hlen:=O.len
   refine ⟨_, (ai (aS (i := 2) cP.nd rfl (Or.inl rfl) (bH (aa ak af)))
     (ai (fc PassesOwn.never rfl (gP rfl T.fj (aa (aQ (bD (K:=K) rfl) (aQ BV (aT (bC (K:=K) rfl) rfl T.cu dg (aa (pv 0) af)) (aT (bC (K:=K) rfl) rfl T.cu dg (aa (pv 0) af))) ak) af)) (bb (i:=3) cP.nd rfl (Or.inl rfl)) (ai (aX (aE s_ (pv 3) (aT (bC (K:=K) rfl) rfl T.cu dg (aa (pv 2) af)) (aG _)) (ag (aw (pv 2))) aI)
     (ai (aS (i:=4) cP.nd rfl (Or.inl rfl) (aM (aV (K:=K) rfl) (pv 0) (aM (aV (K:=K) rfl) (pv 2) (pv 3) (fun _ _=>rfl)) (fun _ _=>rfl)))
     (ai (aS (i:=5) cP.nd rfl (Or.inl rfl) (fS (P:=P) (w:=w) (K:=K) (mg:=mg) (base:=base) (k:=1) ⟨rfl,rfl,rfl,rfl,rfl⟩ (pv 4) (hr.mono (by decide)) aO (aa (aM (aV (K:=K) rfl) (pv 2) (pv 3) (fun _ _=>rfl)) af)))
     (ai (aX (bY (K:=K) rfl (aT (cN (K:=K) rfl) rfl T.bh bI (aa (pv 4) (aa (bg (v:=.ref a.aD) rfl T.du rfl) af)))) (ai (aS (i:=5) cP.nd rfl (Or.inl rfl) (aQ (bD (K:=K) rfl) (pv 5) (bH (aa (aM (aV (K:=K) rfl) (rV (P:=P) (w:=w) (K:=K) (mg:=mg) (base:=base) (k:=1) ⟨rfl,rfl,rfl,rfl,rfl⟩ (pv 4) (hr.mono (by decide)) aO) ak (fun _ _=>rfl)) af))))
     (ag (aX (zV (zR (ll hr) (aM (aV (K:=K) rfl) (pv 2) (pv 3) (fun _ _=>rfl)) (pv 1))) (ag (aS (i:=5) cP.nd rfl (Or.inl rfl) (aQ (bD (K:=K) rfl) (pv 5) (bH (aa (qy (ll hr) (pv 1) (aM (aV (K:=K) rfl) (pv 2) (pv 3) (fun _ _=>rfl)) (fun _ _=>rfl)) af))))) aI))) aI)
     (ag (fc PassesOwn.never rfl (cC (K:=K) rfl (pv 5)) (bb (i:=6) cP.nd rfl (Or.inl rfl)) (ai (aX (PW.pt (fO (aE iF (pv 6) ak (aG _)) (fE (aE s_ (pv 6) (aT (bC (K:=K) rfl) rfl T.cu dg (aa (pv 0) af)) (aG _))))) (ag (aw bz)) aI)
     (ag (aX (aE (sj (K:=K) rfl) (pv 6) (pv 2) rfl) (ag (cB (g_ (K:=K) rfl PySem.F.plainAttrs_list PySem.F.slot_list_append PySem.F.type_list_append ft (pv 2) (aa (pv 6) af)))) aI))))))))))
     (ag (aw (pv 2))))),?_⟩
   refine a_ (σ':=[some _,some _,none,none,none,none,none]) rfl ?_
   walk_at "rk"
   rename_i lf nlf
   have hcf:c ≠ lf:=av hc nlf
   have hdf:d ≠ lf:=av hd nlf
   refine cx (az.of (aC hc nlf)) ?_
   rw [List.length_map,hpl]
   walk_at "rk"
   refine cx (az.of (aC hc nlf)) ?_
   rw [List.length_map,hpl]
   walk_at "rk"
   have hsq1:rs.length * rs.length ≤ 10 * 10:=Nat.mul_le_mul h10 h10
   have hsq2:rs.length ≤ rs.length * rs.length:=Nat.le_mul_self _
   have hN:((rs.length:Int) * (rs.length:Int) + 1) = ((rs.length * rs.length + 1:Nat):Int):=by rw [Int.natCast_add,Int.natCast_mul];rfl
   rw [hN,Int.toNat_natCast]
   generalize rs.length * rs.length = N at hsq1 hsq2 ⊢
   clear hN
   refine ⟨by omega,by omega,?_⟩
   refine mP (fun i σ HD=>∃ (fs:List Int) (u3 u4 u5 u6:Option V),ar H HD∧σ = [some (.ref c),some (.ref d),some (.ref lf),u3,u4,u5,u6]∧HD lf = some (.lst (fs.map V.int))∧uc rs ls hs fs∧i ≤ fs.length∧∀ k,k < i→∀ w,fs[k]? = some w→L7 rs ls fs w) ⟨[0],_,_,_,_,aq nlf,rfl,ah,⟨List.mem_singleton.mpr rfl,fun w hw=>by rw [List.mem_singleton.mp hw];exact ⟨by decide,0,O.start⟩,List.pairwise_singleton _ _⟩,Nat.zero_le _,fun k hk=>absurd hk (Nat.not_lt_zero _)⟩ ?_ ?_
   · rintro i σ HD hi ⟨fs, u3, u4, u5, u6, s, rfl, hlf, F, hif, hcl⟩
     have hfl:=ja F
     walk_at "rk"
     refine cx (az.of hlf) ?_
     rw [List.length_map]
     by_cases hlt:i < fs.length
     · have hfi : fs[i]? = some fs[i] := List.getElem?_eq_getElem hlt
       obtain ⟨w0,h,hwh⟩:=F.rd _ (List.getElem_mem hlt)
       generalize fs[i] = w at hfi w0 hwh
       obtain ⟨k,rfl⟩:∃ k:Nat,w = (k:Int):=⟨w.toNat,by omega⟩
       rw [Int.toNat_natCast] at hwh
       have hk:k < rs.length:=by rw [← hlen];exact (List.getElem?_eq_some_iff.mp hwh).1
       have hri:rs[k]? = some rs[k]:=List.getElem?_eq_getElem hk
       have hpi:prs[k]? = some prs[k]:=List.getElem?_eq_getElem (by rw [hpl];exact hk)
       have hrow:=(hrs.same s).2 k _ _ hpi hri
       have hoki:=ay _ (List.getElem_mem hk)
       have hw:bN rs ls k = (rs[k]).bq k ++ (if (rs[k]).isCall = true∧(k:Int) ∈ ls.map (·.1) then [lv ls k] else []):=by unfold bN;rw [hri]
       obtain ⟨h',hh',hcw⟩:=O.cl k h _ hwh hri
       have htg:=O.tg k h
       generalize rs[k] = r at hri hrow hoki hw hh'
       generalize prs[k] = p0 at hpi hrow
       have hatf:cD (fs.map V.int) (i:Int) = some (.int (k:Int)):=bL (by rw [List.getElem?_map,hfi];rfl)
       have hat:cD (prs.map V.ref) (k:Int) = some (.ref p0):=bL (by rw [List.getElem?_map,hpi];rfl)
       walk_at "rk"
       have hgi : gI fs (0 + (i : Int)) = (k : Int) := by
         unfold gI;rw [Int.zero_add,Int.toNat_natCast,List.getD_eq_getElem?_getD,hfi];rfl
       rw [hgi]
       refine pf (az.of (s _ _ hc)) hat ?_
       walk_at "rk"
       obtain ⟨dx,hdx⟩:=id hrow
       refine dm hdx (mx _) ((jZ T hoki.2).mono (by decide)) ?_
       walk_at "rk"
       rw [hgi]
       refine ⟨p0,k,rfl,hrow,fun l nl=>?_⟩
       walk_at "rk"
       obtain ⟨t',ht1,ht2,_⟩:=gy T hoki.2 (hrow.same (aq (o:=.lst ((r.bq k).map V.int)) nl))
       refine gk (fun z=>nomatch z) ht1 ht2 ?_
       have hgl:=tY r k
       cases hcl':r.isCall with
       | false =>
         rw [hcl',if_neg (by intro z;cases z.1),List.append_nil] at hw
         have SX:=s.trans (aq (o:=.lst ((r.bq k).map V.int)) nl)
         have HLS:(upd HD l (.lst ((r.bq k).map V.int))) l = some (.lst ((r.bq k).map V.int)):=ah
         have HLF:=aC (o:=.lst ((r.bq k).map V.int)) hlf nl
         have NLS:l ≠ lf:=(av hlf nl).symm
         have HALL : ∀ v ∈ r.bq k, 0 ≤ v ∧ ∃ h, hs[v.toNat]? = some (some h) := fun v hv => by
           obtain ⟨a1,a2⟩:=hcw v (by rw [hw];exact hv)
           exact ⟨a1,_,a2⟩
         have HWY:∀ v ∈ bN rs ls k,v ∈ r.bq k:=fun v hv=>by rwa [hw] at hv
         have HTG:∀ t,rs[k]? = some (.call t)→t ∈ r.bq k:=fun t ht=>by rw [hri] at ht;cases ht;cases hcl'
         generalize (upd HD l (.lst ((r.bq k).map V.int))) = HX at SX HLS HLF ⊢
         generalize r.bq k = ss at HLS HALL HWY HTG ⊢
         walk_at "rk"
         refine fB (K:=K) (a:=l) (xs:=ss.map V.int) (fun j σ HE=>∃ (fs2:List Int) (u6:Option V),ar H HE∧HE l = some (.lst (ss.map V.int))∧σ = [some (.ref c),some (.ref d),some (.ref lf),some (.int (0 + (i:Int))),some (.ref p0),some (.ref l),u6]∧HE lf = some (.lst (fs2.map V.int))∧uc rs ls hs fs2∧(∃ mo,fs2 = fs ++ mo)∧∀ v ∈ ss.take j,v ∈ fs2) ⟨fs,_,SX,HLS,rfl,HLF,F,⟨[],(List.append_nil _).symm⟩,fun v hv=>by simp at hv⟩ (fun j σ HE _ hh=>by obtain ⟨_,_,_,h4,_⟩:=hh;exact az.of h4) ?_ ?_
         · rintro j x σ HE hx ⟨fs2, u6, sE, hLS, rfl, hlfE, F2, ⟨mo, rfl⟩, hin⟩
           rw [List.getElem?_map] at hx
           obtain ⟨v,hv,rfl⟩:=Option.map_eq_some_iff.mp hx
           have hvm:=List.mem_of_getElem? hv
           obtain ⟨v0,hvh⟩:=HALL v hvm
           have hvl : v < (rs.length : Int) := by
             obtain ⟨h9,e9⟩:=hvh
             have:=(List.getElem?_eq_some_iff.mp e9).1
             omega
           walk_at "rk"
           refine cx (az.of (sE _ _ hc)) ?_
           rw [List.length_map,hpl]
           walk_at "rk"
           refine nA (az.of hlfE) rfl (gR _) ?_
           rw [if_pos rfl,il]
           by_cases hm:v ∈ fs ++ mo
           · rw [decide_eq_true hm]
             walk_at "rk"
             refine ⟨fs ++ mo,_,sE,hLS,rfl,hlfE,F2,⟨mo,rfl⟩,fun v' hv'=>?_⟩
             rw [List.take_add_one,hv,Option.toList_some] at hv'
             rcases List.mem_append.mp hv' with h | h
             · exact hin _ h
             · rw [List.mem_singleton.mp h];exact hm
           · rw [decide_eq_false hm]
             have hfl:=ja F2
             walk_at "rk"
             refine ie hlfE (by rw [List.length_map,sizeLine_eq];omega) ?_
             refine ⟨(fs ++ mo) ++ [v],_,fz sE nlf,by rw [ao NLS];exact hLS,rfl,by rw [List.map_append (l₁:=fs ++ mo)];exact ah,⟨List.mem_append_left _ F2.st,fun w' hw'=>?_,?_⟩,⟨mo ++ [v],List.append_assoc _ _ _⟩,fun v' hv'=>?_⟩
             · rcases List.mem_append.mp hw' with h | h
               · exact F2.rd _ h
               · rw [List.mem_singleton.mp h];exact ⟨v0,hvh⟩
             · exact List.nodup_append.mpr ⟨F2.nd,List.pairwise_singleton _ _,fun a ha b hb e=>by rw [List.mem_singleton.mp hb] at e;exact hm (e ▸ ha)⟩
             · rw [List.take_add_one, hv, Option.toList_some] at hv'
               rcases List.mem_append.mp hv' with h | h
               · exact List.mem_append_left _ (hin _ h)
               · exact List.mem_append_right _ h
         · rintro σ HE ⟨fs2, u6, sE, hLS, rfl, hlfE, F2, ⟨mo, rfl⟩, hin⟩
           rw [List.length_map,List.take_length] at hin
           refine ⟨fs ++ mo,_,_,_,_,sE,rfl,hlfE,F2,by rw [List.length_append];omega,fun k hk w' hw'=>?_⟩
           rw [List.getElem?_append_left (by omega)] at hw'
           by_cases hki:k < i
           · have C := hcl k hki w' hw'
             exact ⟨fun v hv=>List.mem_append_left _ (C.1 v hv),fun t ht=>List.mem_append_left _ (C.2 t ht)⟩
           · obtain rfl : k = i := by omega
             rw [hfi] at hw';cases hw'
             exact ⟨fun v hv=>hin v (HWY v hv),fun t ht=>hin t (HTG t ht)⟩
       | true =>
         obtain ⟨t, rfl⟩ : ∃ t, r = .call t := by
           cases r <;> first | exact ⟨_,rfl⟩ | (cases hcl')
         walk_at "rk"
         refine dm (aC hdx nl) (rW _) ((nX T hoki.2).mono (by decide)) ?_
         walk_at "rk"
         refine ⟨p0,rfl,hrow.same (aq nl),fun tp ntp=>?_⟩
         walk_at "rk"
         rename_i lp nlp ln nln
         have SX:=(((s.trans (aq nl)).trans (aq ntp)).trans (aq nlp)).trans (aq (o:=.lst (List.map V.int ((Rw.call t).bq k) ++ [V.int t])) nln)
         have HLN:(upd (upd (upd (upd HD l (.lst (List.map V.int ((Rw.call t).bq k)))) tp (.tup (.str (Rw.call t).mV.1 :: (Rw.call t).mV.2.map V.int))) lp (.lst [V.int t])) ln (.lst (List.map V.int ((Rw.call t).bq k) ++ [V.int t]))) ln = some (.lst (((Rw.call t).bq k ++ [t]).map V.int)):=by rw [List.map_append];exact ah
         have HLF:=aC (o:=.lst (List.map V.int ((Rw.call t).bq k) ++ [V.int t])) (aC (o:=.lst [V.int t]) (aC (o:=.tup (.str (Rw.call t).mV.1 :: (Rw.call t).mV.2.map V.int)) (aC (o:=.lst (List.map V.int ((Rw.call t).bq k))) hlf nl) ntp) nlp) nln
         have NLN:ln ≠ lf:=fun z=>by subst z;rw [aC (aC (aC hlf nl) ntp) nlp] at nln;cases nln
         generalize (upd (upd (upd (upd HD l (.lst (List.map V.int ((Rw.call t).bq k)))) tp (.tup (.str (Rw.call t).mV.1 :: (Rw.call t).mV.2.map V.int))) lp (.lst [V.int t])) ln (.lst (List.map V.int ((Rw.call t).bq k) ++ [V.int t]))) = HX at SX HLN HLF ⊢
         obtain ⟨t0,tgh⟩:=htg t hwh hri
         have HAL : ∀ v ∈ (Rw.call t).bq k ++ [t], 0 ≤ v ∧ ∃ h, hs[v.toNat]? = some (some h) := fun v hv => by
           rcases List.mem_append.mp hv with hv | hv
           · obtain ⟨a1, a2⟩ := hcw v (by rw [hw]; exact List.mem_append_left _ hv)
             exact ⟨a1,_,a2⟩
           · rw [List.mem_singleton.mp hv];exact ⟨t0,_,tgh⟩
         have HTN:∀ t',rs[k]? = some (.call t')→t' ∈ (Rw.call t).bq k ++ [t]:=fun t' ht=>by rw [hri] at ht;cases ht;exact List.mem_append_right _ (List.mem_singleton.mpr rfl)
         have hdX:=SX _ _ hd
         have hgl2:((Rw.call t).bq k ++ [t]).length ≤ 3:=by rw [List.length_append];show _ + 1 ≤ 3;omega
         refine Jg ?_
         refine Cf ?_
         walk_at "rk"
         rw [hgi]
         refine AI (kvs:=aR ls) hdX ?_
         by_cases hm:(k:Int) ∈ ls.map (·.1)
         · obtain ⟨kv, hkv, hke⟩ := List.mem_map.mp hm
           obtain ⟨hv1,hv2⟩:=iw hls.1 kv hkv
           rw [hke] at hv1 hv2
           rw [← hv2] at hv1
           rw [hv1]
           rw [if_pos ⟨rfl,hm⟩] at hw
           refine ⟨true,rfl,?_⟩
           rw [if_pos rfl]
           walk_at "rk"
           refine tR ?_
           walk_at "rk"
           rw [hgi]
           refine ⟨d,_,rfl,hv1 ▸ gF.k (k:=.inl (k:Int)) hdX,?_⟩
           have HWN : ∀ v ∈ bN rs ls k, v ∈ ((Rw.call t).bq k ++ [t]) ++ [lv ls k] := fun v hv => by
             rw [hw] at hv
             rcases List.mem_append.mp hv with hv | hv
             · exact List.mem_append_left _ (List.mem_append_left _ hv)
             · exact List.mem_append_right _ hv
           have HTG:∀ t',rs[k]? = some (.call t')→t' ∈ ((Rw.call t).bq k ++ [t]) ++ [lv ls k]:=fun t' ht=>List.mem_append_left _ (HTN t' ht)
           have HALL : ∀ v ∈ ((Rw.call t).bq k ++ [t]) ++ [lv ls k], 0 ≤ v ∧ ∃ h, hs[v.toNat]? = some (some h) := fun v hv => by
             rcases List.mem_append.mp hv with hv | hv
             · exact HAL v hv
             · obtain ⟨a1, a2⟩ := hcw v (by rw [hw]; exact List.mem_append_right _ hv)
               exact ⟨a1,_,a2⟩
           generalize (Rw.call t).bq k ++ [t] = sq at HLN HWN HTG HALL hgl2
           have HWY:=HWN
           walk_at "rk"
           rename_i lq nlq lm nlm
           have SX2:=(SX.trans (aq (o:=.lst [V.int (lv ls k)]) nlq)).trans (aq (o:=.lst (sq.map V.int ++ [V.int (lv ls k)])) nlm)
           have HLF2:=aC (o:=.lst (sq.map V.int ++ [V.int (lv ls k)])) (aC (o:=.lst [V.int (lv ls k)]) HLF nlq) nlm
           have HLS:(upd (upd HX lq (.lst [V.int (lv ls k)])) lm (.lst (sq.map V.int ++ [V.int (lv ls k)]))) lm = some (.lst ((sq ++ [lv ls k]).map V.int)):=by rw [List.map_append];exact ah
           have NLS:lm ≠ lf:=fun z=>by subst z;rw [aC HLF nlq] at nlm;cases nlm
           generalize (upd (upd HX lq (.lst [V.int (lv ls k)])) lm (.lst (sq.map V.int ++ [V.int (lv ls k)]))) = HY at SX2 HLF2 HLS ⊢
           generalize sq ++ [lv ls k] = ss at HLS HALL HWY HTG HWN
           clear HLN HAL HTN hgl2
           refine fB (K:=K) (a:=lm) (xs:=ss.map V.int) (fun j σ HE=>∃ (fs2:List Int) (u6:Option V),ar H HE∧HE lm = some (.lst (ss.map V.int))∧σ = [some (.ref c),some (.ref d),some (.ref lf),some (.int (0 + (i:Int))),some (.ref p0),some (.ref lm),u6]∧HE lf = some (.lst (fs2.map V.int))∧uc rs ls hs fs2∧(∃ mo,fs2 = fs ++ mo)∧∀ v ∈ ss.take j,v ∈ fs2) ⟨fs,_,SX2,HLS,rfl,HLF2,F,⟨[],(List.append_nil _).symm⟩,fun v hv=>by simp at hv⟩ (fun j σ HE _ hh=>by obtain ⟨_,_,_,h4,_⟩:=hh;exact az.of h4) ?_ ?_
           · rintro j x σ HE hx ⟨fs2, u6, sE, hLS, rfl, hlfE, F2, ⟨mo, rfl⟩, hin⟩
             rw [List.getElem?_map] at hx
             obtain ⟨v,hv,rfl⟩:=Option.map_eq_some_iff.mp hx
             have hvm:=List.mem_of_getElem? hv
             obtain ⟨v0,hvh⟩:=HALL v hvm
             have hvl : v < (rs.length : Int) := by
               obtain ⟨h9,e9⟩:=hvh
               have:=(List.getElem?_eq_some_iff.mp e9).1
               omega
             walk_at "rk"
             refine cx (az.of (sE _ _ hc)) ?_
             rw [List.length_map,hpl]
             walk_at "rk"
             refine nA (az.of hlfE) rfl (gR _) ?_
             rw [if_pos rfl,il]
             by_cases hm:v ∈ fs ++ mo
             · rw [decide_eq_true hm]
               walk_at "rk"
               refine ⟨fs ++ mo,_,sE,hLS,rfl,hlfE,F2,⟨mo,rfl⟩,fun v' hv'=>?_⟩
               rw [List.take_add_one,hv,Option.toList_some] at hv'
               rcases List.mem_append.mp hv' with h | h
               · exact hin _ h
               · rw [List.mem_singleton.mp h];exact hm
             · rw [decide_eq_false hm]
               have hfl:=ja F2
               walk_at "rk"
               refine ie hlfE (by rw [List.length_map,sizeLine_eq];omega) ?_
               refine ⟨(fs ++ mo) ++ [v],_,fz sE nlf,by rw [ao NLS];exact hLS,rfl,by rw [List.map_append (l₁:=fs ++ mo)];exact ah,⟨List.mem_append_left _ F2.st,fun w' hw'=>?_,?_⟩,⟨mo ++ [v],List.append_assoc _ _ _⟩,fun v' hv'=>?_⟩
               · rcases List.mem_append.mp hw' with h | h
                 · exact F2.rd _ h
                 · rw [List.mem_singleton.mp h];exact ⟨v0,hvh⟩
               · exact List.nodup_append.mpr ⟨F2.nd,List.pairwise_singleton _ _,fun a ha b hb e=>by rw [List.mem_singleton.mp hb] at e;exact hm (e ▸ ha)⟩
               · rw [List.take_add_one, hv, Option.toList_some] at hv'
                 rcases List.mem_append.mp hv' with h | h
                 · exact List.mem_append_left _ (hin _ h)
                 · exact List.mem_append_right _ h
           · rintro σ HE ⟨fs2, u6, sE, hLS, rfl, hlfE, F2, ⟨mo, rfl⟩, hin⟩
             rw [List.length_map,List.take_length] at hin
             refine ⟨fs ++ mo,_,_,_,_,sE,rfl,hlfE,F2,by rw [List.length_append];omega,fun k hk w' hw'=>?_⟩
             rw [List.getElem?_append_left (by omega)] at hw'
             by_cases hki:k < i
             · have C := hcl k hki w' hw'
               exact ⟨fun v hv=>List.mem_append_left _ (C.1 v hv),fun t ht=>List.mem_append_left _ (C.2 t ht)⟩
             · obtain rfl : k = i := by omega
               rw [hfi] at hw';cases hw'
               exact ⟨fun v hv=>hin v (HWY v hv),fun t ht=>hin t (HTG t ht)⟩
         · rw [jK hm]
           rw [if_neg (fun z=>hm z.2),List.append_nil] at hw
           have HWY:∀ v ∈ bN rs ls k,v ∈ (Rw.call t).bq k ++ [t]:=fun v hv=>by rw [hw] at hv;exact List.mem_append_left _ hv
           refine ⟨false,rfl,?_⟩
           rw [if_neg Bool.false_ne_true]
           have HALL:=HAL
           have HTG:=HTN
           have HLS:=HLN
           have NLS:=NLN
           generalize (Rw.call t).bq k ++ [t] = ss at HLS HALL HWY HTG
           clear HLN HAL HTN hgl2
           walk_at "rk"
           refine fB (K:=K) (a:=ln) (xs:=ss.map V.int) (fun j σ HE=>∃ (fs2:List Int) (u6:Option V),ar H HE∧HE ln = some (.lst (ss.map V.int))∧σ = [some (.ref c),some (.ref d),some (.ref lf),some (.int (0 + (i:Int))),some (.ref p0),some (.ref ln),u6]∧HE lf = some (.lst (fs2.map V.int))∧uc rs ls hs fs2∧(∃ mo,fs2 = fs ++ mo)∧∀ v ∈ ss.take j,v ∈ fs2) ⟨fs,_,SX,HLS,rfl,HLF,F,⟨[],(List.append_nil _).symm⟩,fun v hv=>by simp at hv⟩ (fun j σ HE _ hh=>by obtain ⟨_,_,_,h4,_⟩:=hh;exact az.of h4) ?_ ?_
           · rintro j x σ HE hx ⟨fs2, u6, sE, hLS, rfl, hlfE, F2, ⟨mo, rfl⟩, hin⟩
             rw [List.getElem?_map] at hx
             obtain ⟨v,hv,rfl⟩:=Option.map_eq_some_iff.mp hx
             have hvm:=List.mem_of_getElem? hv
             obtain ⟨v0,hvh⟩:=HALL v hvm
             have hvl : v < (rs.length : Int) := by
               obtain ⟨h9,e9⟩:=hvh
               have:=(List.getElem?_eq_some_iff.mp e9).1
               omega
             walk_at "rk"
             refine cx (az.of (sE _ _ hc)) ?_
             rw [List.length_map,hpl]
             walk_at "rk"
             refine nA (az.of hlfE) rfl (gR _) ?_
             rw [if_pos rfl,il]
             by_cases hm:v ∈ fs ++ mo
             · rw [decide_eq_true hm]
               walk_at "rk"
               refine ⟨fs ++ mo,_,sE,hLS,rfl,hlfE,F2,⟨mo,rfl⟩,fun v' hv'=>?_⟩
               rw [List.take_add_one,hv,Option.toList_some] at hv'
               rcases List.mem_append.mp hv' with h | h
               · exact hin _ h
               · rw [List.mem_singleton.mp h];exact hm
             · rw [decide_eq_false hm]
               have hfl:=ja F2
               walk_at "rk"
               refine ie hlfE (by rw [List.length_map,sizeLine_eq];omega) ?_
               refine ⟨(fs ++ mo) ++ [v],_,fz sE nlf,by rw [ao NLS];exact hLS,rfl,by rw [List.map_append (l₁:=fs ++ mo)];exact ah,⟨List.mem_append_left _ F2.st,fun w' hw'=>?_,?_⟩,⟨mo ++ [v],List.append_assoc _ _ _⟩,fun v' hv'=>?_⟩
               · rcases List.mem_append.mp hw' with h | h
                 · exact F2.rd _ h
                 · rw [List.mem_singleton.mp h];exact ⟨v0,hvh⟩
               · exact List.nodup_append.mpr ⟨F2.nd,List.pairwise_singleton _ _,fun a ha b hb e=>by rw [List.mem_singleton.mp hb] at e;exact hm (e ▸ ha)⟩
               · rw [List.take_add_one, hv, Option.toList_some] at hv'
                 rcases List.mem_append.mp hv' with h | h
                 · exact List.mem_append_left _ (hin _ h)
                 · exact List.mem_append_right _ h
           · rintro σ HE ⟨fs2, u6, sE, hLS, rfl, hlfE, F2, ⟨mo, rfl⟩, hin⟩
             rw [List.length_map,List.take_length] at hin
             refine ⟨fs ++ mo,_,_,_,_,sE,rfl,hlfE,F2,by rw [List.length_append];omega,fun k hk w' hw'=>?_⟩
             rw [List.getElem?_append_left (by omega)] at hw'
             by_cases hki:k < i
             · have C := hcl k hki w' hw'
               exact ⟨fun v hv=>List.mem_append_left _ (C.1 v hv),fun t ht=>List.mem_append_left _ (C.2 t ht)⟩
             · obtain rfl : k = i := by omega
               rw [hfi] at hw';cases hw'
               exact ⟨fun v hv=>hin v (HWY v hv),fun t ht=>hin t (HTG t ht)⟩
     · walk_at "rk"
       obtain rfl:i = fs.length:=by omega
       refine q lf fs HD s nlf hlf F fun j=>⟨fun hj=>?_,fun ⟨h,e⟩=>F_ F.st (fun w hw=>?_) (O.rh j h e)⟩
       · have:=(F.rd _ hj).2;rwa [Int.toNat_natCast] at this
       · obtain ⟨k, hk, e⟩ := List.getElem_of_mem hw
         exact hcl k hk w (by rw [List.getElem?_eq_getElem hk,e])
   · rintro σ HD ⟨fs, u3, u4, u5, u6, s, rfl, hlf, F, hif, hcl⟩
     exfalso
     have hfl:=ja F
     omega
theorem sM (T : Txt K mg a) : cV P w K mg base ba 2 "_law_starts" (oA a) := by
 refine bT (sp:=(oA a)) 1 T.lK sD (fun vs H Q E h=>?_) (fun f cdv A outer s H vs Q E hr h=>?_)
 · obtain ⟨c, l, prs, rs, ls, hs, fs, rfl, _⟩ := h
   rfl
 · obtain ⟨c, l, prs, rs, ls, hs, fs, rfl, hc, hrs, ay, h10, O, hl, F, q⟩ := h
   have hpl:=hrs.1
   have hlen:=O.len
   have hfl:=ja F
   refine ⟨_,(ag (aw (aQ (bD (K:=K) rfl) (bH (aa ak af)) (gL (own:=["_law_at"]) (fr:=[("_law_code",0)]) rfl ⟨rfl,(by walk_at "clok"),(by walk_at "frok"),rfl,(by decide +kernel),(by decide +kernel),rfl⟩ (cC (K:=K) rfl (pv 1)) (fun _ _ _ _=>(bb (i:=0) (show List.Nodup [("_law_at" : Str),("_law_code" : Str)] from by decide +kernel) rfl (Or.inl rfl))) (fun _ _ _ _=>(nz (bY (K:=K) rfl (aT (cN (K:=K) rfl) rfl T.bh bI (aa (aM (aV (K:=K) rfl) (pv 1) (pv 0) (fun _ _=>rfl)) (aa (bg (v:=.ref a.aD) rfl T.du rfl) af)))))) (fun _ _ _ _=>(aM (aV (K:=K) rfl) (rV (P:=P) (w:=w) (K:=K) (mg:=mg) (base:=base) (k:=1) ⟨rfl,rfl,rfl,rfl,rfl⟩ (aM (aV (K:=K) rfl) (pv 1) (pv 0) (fun _ _=>rfl)) (hr.mono (by decide)) aO) ak (fun _ _=>rfl))))))),?_⟩
   refine a_ (σ':=[some _,some _]) rfl ?_
   walk_at "rk"
   rename_i l0 nl0
   have s0:=aq (o:=.lst [V.int 0]) nl0
   have hl0:(upd H l0 (.lst [V.int 0])) l0 = some (.lst ([0].map V.int)):=ah
   generalize (upd H l0 (.lst [V.int 0])) = H0 at s0 hl0 ⊢
   refine f9 (K:=K) (a:=l) (xs:=fs.map V.int) (fun i ys σ H1=>(∃ v,σ = [v,some (.ref c)])∧ar H0 H1∧∃ gs:List Int,ys = gs.map V.int∧gs.length ≤ i∧∀ g ∈ gs,∃ (i:Nat) (h:Int),hs[i]? = some (some h)∧rs[i]? = some (.call g)) ⟨⟨_,rfl⟩,ar.refl _,[],rfl,Nat.zero_le _,fun g hg=>by simp at hg⟩ ?_ ?_ ?_
   · rintro i ys σ H1 hi ⟨_, s1, gs, rfl, e, _⟩
     rw [List.length_map] at hi
     exact ⟨az.of (s1 _ _ (s0 _ _ hl)),by rw [List.length_map,sizeLine_eq];omega⟩
   · rintro i x ys σ H1 hx ⟨⟨v, rfl⟩, s1, gs, rfl, hgl, hgs⟩
     rw [List.getElem?_map] at hx
     obtain ⟨w,hw,rfl⟩:=Option.map_eq_some_iff.mp hx
     obtain ⟨w0,h,hwh⟩:=F.rd _ (List.mem_of_getElem? hw)
     obtain ⟨k,rfl⟩:∃ k:Nat,w = (k:Int):=⟨w.toNat,by omega⟩
     rw [Int.toNat_natCast] at hwh
     have s01:=s0.trans s1
     have hk:k < rs.length:=by rw [← hlen];exact (List.getElem?_eq_some_iff.mp hwh).1
     have hri:rs[k]? = some rs[k]:=List.getElem?_eq_getElem hk
     have hpi:prs[k]? = some prs[k]:=List.getElem?_eq_getElem (by rw [hpl];exact hk)
     have hrow:=(hrs.same s01).2 k _ _ hpi hri
     have hoki:=ay _ (List.getElem_mem hk)
     generalize rs[k] = r at hri hrow hoki
     generalize prs[k] = p0 at hpi hrow
     have hat:cD (prs.map V.ref) (k:Int) = some (.ref p0):=bL (by rw [List.getElem?_map,hpi];rfl)
     have hc1:=s01 _ _ hc
     obtain ⟨dx,hdx⟩:=id hrow
     walk_at "rk"
     obtain ⟨t',ht1,ht2,_⟩:=gy T hoki.2 hrow
     refine gk (fun z=>nomatch z) ht1 ht2 ?_
     cases hcl:r.isCall with
     | false =>
       walk_at "rk"
       exact ⟨⟨_,rfl⟩,s1,gs,rfl,by omega,hgs⟩
     | true =>
       obtain ⟨t, rfl⟩ : ∃ t, r = .call t := by
         cases r <;> first | exact ⟨_,rfl⟩ | (cases hcl)
       walk_at "rk"
       refine dm hdx (rW _) ((nX T hoki.2).mono (by decide)) ?_
       walk_at "rk"
       refine ⟨p0,rfl,hrow,fun tp ntp=>?_⟩
       walk_at "rk"
       refine ⟨⟨_,rfl⟩,s1.trans (aq ntp),gs ++ [t],by rw [List.map_append];rfl,by rw [List.length_append];show _ + 1 ≤ _;omega,fun g hg=>?_⟩
       rcases List.mem_append.mp hg with hg | hg
       · exact hgs g hg
       · rw [List.mem_singleton.mp hg];exact ⟨k,h,hwh,hri⟩
   rintro ys σ H1 ⟨_,s1,gs,rfl,hgl,hgs⟩ lg nlg
   rw [List.length_map] at hgl
   walk_at "rk"
   rename_i lp nlp
   have s2:=s0.trans (s1.trans (aq (o:=.lst (gs.map V.int)) nlg))
   refine q lp ([0] ++ gs) _ (s2.trans (aq nlp)) (aU s2 nlp) ah (by rw [List.length_append];show 1 + _ ≤ 11;omega) fun g hg=>?_
   rcases List.mem_append.mp hg with hg | hg
   · exact .inl (List.mem_singleton.mp hg)
   · exact .inr (hgs g hg)
theorem gX (r : Rw) : r.mM.lookup ("keeps" : Str) = none := by
 cases r <;> (show List.lookup _ (aN _ _ _) = none;walk_at "nolk")
theorem gb (T : Txt K mg a) {r : Rw} (hr : r.here) : br P w K mg base ba 2 (r.cls a) "keeps" (cH a r) := by
 cases r
 · exact (tQ T _ _).mono (by decide)
 · exact hr.elim
 · exact hr.elim
 · exact hr.elim
 · exact hr.elim
 · exact hr.elim
 · exact (sG T _).mono (by decide)
 · exact hr.elim
 · exact hr.elim
 · exact hr.elim
 · exact (sJ T _).mono (by decide)
 · exact (pM T _ _).mono (by decide)
 · exact (su T _).mono (by decide)
 · exact (sQ T _).mono (by decide)
 · exact (sL T _).mono (by decide)
theorem jd (T : Txt K mg a) : cV P w K mg base ba 3 "own_complaint" (yM K a) := by
 refine bT (sp:=(yM K a)) 2 T.jG oS (fun vs H Q E h=>?_) (fun f cdv A outer s H vs Q E hr h=>?_)
 · obtain ⟨x, p, r, e, rfl, _⟩ := h
   rfl
 · obtain ⟨x, p, r, e, rfl, ⟨dx, hx⟩, ok, hh, he, q⟩ := h
   obtain ⟨qe,h1,h2⟩:=id he
   refine ⟨_, (ai (aX (bY (K := K) rfl (aF (mQ (K := K) T) (hr.mono (by decide)) aO rfl (aa (pv 1) af))) (ag (aw cm)) aI)
     (ai (aX (aE cU (fS (P:=P) (w:=w) (K:=K) (mg:=mg) (base:=base) (k:=1) ⟨rfl,rfl,rfl,rfl,rfl⟩ (pv 0) (hr.mono (by decide)) aO (aa (aM (aV (K:=K) rfl) (pv 1) ak (fun _ _=>rfl)) af)) bz (aG _)) (ag (aw cm)) aI)
     (ai (aX (PW.pt (mW (bY (K:=K) rfl (aT (cN (K:=K) rfl) rfl T.bh bI (aa (pv 0) (aa (bg (v:=.ref a.aK) rfl T.jv rfl) af)))) (kf (hZ (bY (K:=K) rfl (aF (qx (K:=K) T) (hr.mono (by decide)) aO rfl (aa (pv 0) (aa (pv 1) af)))))))) (ag (aw cm)) aI)
     (ag (aw bz))))),?_⟩
   refine a_ (σ':=[some _,some _]) rfl ?_
   walk_at "rd"
   refine ⟨p,e,rfl,he,fun H1 s1=>?_⟩
   have hx1:=s1 _ _ hx
   have h11:=bG s1 h1
   have he1:=he.same s1
   unfold ic at q
   cases hw:gg e with
   | true =>
     rw [hw,if_pos rfl] at q
     walk_at "rd"
     exact q _ s1
   | false =>
     rw [hw,if_neg (by decide)] at q
     walk_at "rd"
     refine dm hx1 (jV _) ((iT T hh).mono (by decide)) ?_
     walk_at "rd"
     refine ⟨x,e.h,rfl,⟨dx,hx1⟩,?_⟩
     walk_at "rd"
     cases hg:r.bj e.h with
     | none =>
       rw [hg,if_pos rfl] at q
       show kJ V.aH V.aH _ _
       walk_at "rd"
       exact q _ s1
     | some z =>
       rw [hg,if_neg (fun z=>by cases z)] at q
       show kJ (V.int z) V.aH _ _
       walk_at "rd"
       obtain ⟨t',ty,kc,kb⟩:=gy T hh ⟨dx,hx1⟩
       cases r with
       | back b =>
         refine gk (b:=true) (fun z=>by cases z) ty kb ?_
         walk_at "rd"
         refine ⟨x,p,b,e,rfl,⟨dx,hx1⟩,ok.1,ok.2,he1,fun H2 s2=>?_⟩
         have q:∀ H',ar H H'→Q (oV (if oH b e = true then none else some .back)) H':=q
         cases hm:oH b e with
         | true =>
           rw [hm] at q
           walk_at "rd"
           exact q _ (s1.trans s2)
         | false =>
           rw [hm] at q
           walk_at "rd"
           exact q _ (s1.trans s2)
       | _ =>
         refine gk (b:=false) (fun z=>by cases z) ty kb ?_
         walk_at "rd"
         exact q _ s1
theorem ji (T : Txt K mg a) : cV P w K mg base ba 3 "way_complaint" (zH K a) := by
 refine bT (sp:=(zH K a)) 2 T.jx dB (fun vs H Q E h=>?_) (fun f cdv A outer s H vs Q E hr h=>?_)
 · obtain ⟨x, p, l, c, r, e, ev, es, rfl, _⟩ := h
   rfl
 · obtain ⟨x, p, l, c, r, e, ev, es, rfl, ⟨dx, hx⟩, ok, hh, he, nn, e0, e4, hs, hl, hev, hnn, q⟩ := h
   obtain ⟨qe,h1,h2⟩:=id he
   unfold jl at q
   refine ⟨_, (ai (aX (hZ (bY (K := K) rfl (aF (mG (K := K) T) (hr.mono (by decide)) aO rfl (aa (pv 2) (aa (pv 3) af))))) (ag (aw cm)) aI)
     (ai (aS (i:=4) dB.nd rfl (Or.inl rfl) (aM (aV (K:=K) rfl) (pv 3) (pv 2) (fun _ _=>rfl)))
     (ai (aX (aE cU (pv 4) bz (aG _)) (ag (aw cm)) aI)
     (ai (aX (aE (fG (K:=K) rfl hr.units) (aM (aV (K:=K) rfl) (pv 4) ak (fun _ _=>rfl)) (fS (P:=P) (w:=w) (K:=K) (mg:=mg) (base:=base) (k:=1) ⟨rfl,rfl,rfl,rfl,rfl⟩ (pv 0) (hr.mono (by decide)) aO (aa (aM (aV (K:=K) rfl) (pv 1) ak (fun _ _=>rfl)) af)) (aG _)) (ag (aw cm)) aI)
     (ai (fc PassesOwn.never rfl (F4 (K:=K) rfl rfl T.jM (aa (bg (v:=.ref a.di) rfl T.nQ rfl) (aa (aF (i6 (K:=K) T) (hr.mono (by decide)) aO rfl (aa (pv 1) af)) (aa (aF (i6 (K:=K) T) (hr.mono (by decide)) aO rfl (aa (pv 4) af)) af)))) (qj (K:=K) rfl rfl (eT (bb (i:=5) dB.nd rfl (Or.inl rfl)) (eT (bb (i:=6) dB.nd rfl (Or.inl rfl)) (eT (bb (i:=7) dB.nd rfl (Or.inl rfl)) qT)))) (ag (aX (bY (K:=K) rfl (aQ m6 (pv 7) (pP yD (fS (P:=P) (w:=w) (K:=K) (mg:=mg) (base:=base) (k:=2) ⟨rfl,rfl,rfl,rfl,rfl⟩ (pv 0) (hr.mono (by decide)) aO (aa (pv 6) (aa (aM (aV (K:=K) rfl) (pv 1) ak (fun _ _=>rfl)) af)))))) (ag (aw (pv 5))) aI)))
     (ag (aw bz))))))),?_⟩
   refine a_ (σ':=[some _,some _,some _,some _,none,none,none,none]) rfl ?_
   walk_at "rd"
   refine ⟨c,l,ev,rfl,az.of hl,?_⟩
   rw [hev.1]
   by_cases hc : 0 ≤ c∧c < (es.length:Int)
   · rw [decide_eq_true hc]
     rw [if_pos hc] at q
     obtain ⟨v,oe,hat,hoe,hmem,hv⟩:=hev.at hc.1 hc.2
     rw [hoe,Option.join_some] at q
     walk_at "rd"
     cases oe with
     | none =>
       cases hv
       walk_at "rd"
       exact q _ (ar.refl _)
     | some t =>
       obtain ⟨pt,rfl,qt,t1,t2⟩:=id hv
       have tn:=hnn t hmem
       walk_at "rd"
       refine dm hx (jV _) ((iT T hh).mono (by decide)) ?_
       walk_at "rd"
       refine ⟨x,e.h,rfl,⟨dx,hx⟩,?_⟩
       obtain ⟨z,hg⟩:=Option.isSome_iff_exists.mp hs
       have q:∀ H',ar H H'→Q (oV (if r.bj e.h = some t.h then pW r e t else some .bj)) H':=q
       rw [hg] at q ⊢
       show k8 K (V.int t.h) (V.int z) _ _
       walk_at "rd"
       refine jq (fun hz=>?_) (fun hz=>?_)
       · rw [if_neg (fun y => hz (Option.some.inj y).symm)] at q
         walk_at "rd"
         exact q _ (ar.refl _)
       rw [if_pos (by rw [hz])] at q
       walk_at "rd"
       refine ⟨p,e,rfl,he,fun ta nta=>?_⟩
       walk_at "rd"
       refine ⟨pt,t,rfl,iD.same ⟨qt,t1,t2⟩ (aq nta),fun tb ntb=>?_⟩
       walk_at "rd"
       have sX:ar H (upd (upd H ta (.tup (e.eM.map V.int))) tb (.tup (t.eM.map V.int))):=(aq nta).trans (aq ntb)
       have ha:aW K (upd (upd H ta (.tup (e.eM.map V.int))) tb (.tup (t.eM.map V.int))) ta (e.eM.map V.int):=aW.of (aC ah ntb)
       have hb:aW K (upd (upd H ta (.tup (e.eM.map V.int))) tb (.tup (t.eM.map V.int))) tb (t.eM.map V.int):=aW.of ah
       clear nta ntb
       generalize (upd (upd H ta (.tup (e.eM.map V.int))) tb (.tup (t.eM.map V.int))) = HX at sX ha hb ⊢
       refine ⟨a.di,ta,tb,_,_,_,rfl,T.jS _,ha,hb,?_⟩
       unfold pW at q
       refine AX (xs:=[.str "back",.int 4,.int 5,.int 6]) (ys:=e.eM.map V.int) (zs:=t.eM.map V.int) rfl rfl (fun i σ H2=>(∃ u1 u2 u3,σ = [some (.ref x),some (.ref p),some (.int c),some (.ref l),some (.ref pt),u1,u2,u3])∧ar HX H2∧(0 < i→Bt.wo t.b.toNat (r.keep e.b.toNat e.h) = 0)∧(1 < i→Bt.wo t.v4.toNat (r.keep e.v4.toNat e.h) = 0)∧(2 < i→Bt.wo t.v5.toNat (r.keep e.v5.toNat e.h) = 0)∧(3 < i→Bt.wo t.v6.toNat (r.keep e.v6.toNat e.h) = 0)) ⟨⟨_,_,_,rfl⟩,ar.refl _,(fun z=>absurd z (by decide)),(fun z=>absurd z (by decide)),(fun z=>absurd z (by decide)),(fun z=>absurd z (by decide))⟩ (fun i σ H2 _ ⟨_,s2,_⟩=>⟨T.jS _,bG s2 ha,bG s2 hb⟩) ?_ ?_
       · rintro i v1 v2 v3 T' σ H2 w1 w2 w3 ⟨⟨u1, u2, u3, rfl⟩, s2, z0, z1, z2, z3⟩ nT
         have hx2:=(sX.trans s2) _ _ hx
         have h12:=bG (sX.trans s2) h1
         have s0:=sX.trans s2
         clear sX ha hb t1 t2 h1 h2 hl hev hv he
         match i,w1,w2,w3 with
         | 0, w1, w2, w3 =>
           cases w1;cases w2;cases w3
           have eb:Builtin.bitAnd t.b (Builtin.bitNot ((r.keep e.b.toNat e.h:Nat):Int)) = ((Bt.wo t.b.toNat (r.keep e.b.toNat e.h):Nat):Int):=by rw [← iM,Int.toNat_of_nonneg tn.1]
           walk_at "rd"
           refine dm (aC hx2 nT) (gX _) ((gb T hh).mono (by decide)) ?_
           walk_at "rd"
           refine ⟨x,e.b.toNat,e.h,by rw [Int.toNat_of_nonneg nn.1],⟨dx,aC hx2 nT⟩,ok,e0,e4,hs,?_⟩
           walk_at "rd"
           rw [eb]
           by_cases hw:Bt.wo t.b.toNat (r.keep e.b.toNat e.h) = 0
           · rw [hw, show (((0 : Nat) : Int) != 0) = false from rfl]
             walk_at "rd"
             exact ⟨⟨_,_,_,rfl⟩,s2.trans (aq nT),(fun _=>rfl),(fun z=>absurd z (by decide)),(fun z=>absurd z (by decide)),(fun z=>absurd z (by decide))⟩
           · rw [show ((((Bt.wo t.b.toNat (r.keep e.b.toNat e.h) : Nat) : Int)) != 0) = true from by simp [hw]]
             walk_at "rd"
             rw [if_pos hw] at q
             exact q _ (s0.trans (aq nT))
         | 1, w1, w2, w3 =>
           cases w1;cases w2;cases w3
           have eb:Builtin.bitAnd t.v4 (Builtin.bitNot ((r.keep e.v4.toNat e.h:Nat):Int)) = ((Bt.wo t.v4.toNat (r.keep e.v4.toNat e.h):Nat):Int):=by rw [← iM,Int.toNat_of_nonneg tn.2.1]
           walk_at "rd"
           refine dm (aC hx2 nT) (gX _) ((gb T hh).mono (by decide)) ?_
           walk_at "rd"
           refine ⟨x,e.v4.toNat,e.h,by rw [Int.toNat_of_nonneg nn.2.1],⟨dx,aC hx2 nT⟩,ok,e0,e4,hs,?_⟩
           walk_at "rd"
           rw [eb]
           by_cases hw:Bt.wo t.v4.toNat (r.keep e.v4.toNat e.h) = 0
           · rw [hw, show (((0 : Nat) : Int) != 0) = false from rfl]
             walk_at "rd"
             exact ⟨⟨_,_,_,rfl⟩,s2.trans (aq nT),(fun _=>z0 (by decide)),(fun _=>rfl),(fun z=>absurd z (by decide)),(fun z=>absurd z (by decide))⟩
           · rw [show ((((Bt.wo t.v4.toNat (r.keep e.v4.toNat e.h) : Nat) : Int)) != 0) = true from by simp [hw]]
             walk_at "rd"
             rw [if_neg (fun z=>z (z0 (by decide))),if_pos hw] at q
             exact q _ (s0.trans (aq nT))
         | 2, w1, w2, w3 =>
           cases w1;cases w2;cases w3
           have eb:Builtin.bitAnd t.v5 (Builtin.bitNot ((r.keep e.v5.toNat e.h:Nat):Int)) = ((Bt.wo t.v5.toNat (r.keep e.v5.toNat e.h):Nat):Int):=by rw [← iM,Int.toNat_of_nonneg tn.2.2.1]
           walk_at "rd"
           refine dm (aC hx2 nT) (gX _) ((gb T hh).mono (by decide)) ?_
           walk_at "rd"
           refine ⟨x,e.v5.toNat,e.h,by rw [Int.toNat_of_nonneg nn.2.2.1],⟨dx,aC hx2 nT⟩,ok,e0,e4,hs,?_⟩
           walk_at "rd"
           rw [eb]
           by_cases hw:Bt.wo t.v5.toNat (r.keep e.v5.toNat e.h) = 0
           · rw [hw, show (((0 : Nat) : Int) != 0) = false from rfl]
             walk_at "rd"
             exact ⟨⟨_,_,_,rfl⟩,s2.trans (aq nT),(fun _=>z0 (by decide)),(fun _=>z1 (by decide)),(fun _=>rfl),(fun z=>absurd z (by decide))⟩
           · rw [show ((((Bt.wo t.v5.toNat (r.keep e.v5.toNat e.h) : Nat) : Int)) != 0) = true from by simp [hw]]
             walk_at "rd"
             rw [if_neg (fun z=>z (z0 (by decide))),if_neg (fun z=>z (z1 (by decide))),if_pos hw] at q
             exact q _ (s0.trans (aq nT))
         | 3, w1, w2, w3 =>
           cases w1;cases w2;cases w3
           have eb:Builtin.bitAnd t.v6 (Builtin.bitNot ((r.keep e.v6.toNat e.h:Nat):Int)) = ((Bt.wo t.v6.toNat (r.keep e.v6.toNat e.h):Nat):Int):=by rw [← iM,Int.toNat_of_nonneg tn.2.2.2]
           walk_at "rd"
           refine dm (aC hx2 nT) (gX _) ((gb T hh).mono (by decide)) ?_
           walk_at "rd"
           refine ⟨x,e.v6.toNat,e.h,by rw [Int.toNat_of_nonneg nn.2.2.2],⟨dx,aC hx2 nT⟩,ok,e0,e4,hs,?_⟩
           walk_at "rd"
           rw [eb]
           by_cases hw:Bt.wo t.v6.toNat (r.keep e.v6.toNat e.h) = 0
           · rw [hw, show (((0 : Nat) : Int) != 0) = false from rfl]
             walk_at "rd"
             exact ⟨⟨_,_,_,rfl⟩,s2.trans (aq nT),(fun _=>z0 (by decide)),(fun _=>z1 (by decide)),(fun _=>z2 (by decide)),(fun _=>rfl)⟩
           · rw [show ((((Bt.wo t.v6.toNat (r.keep e.v6.toNat e.h) : Nat) : Int)) != 0) = true from by simp [hw]]
             walk_at "rd"
             rw [if_neg (fun z=>z (z0 (by decide))),if_neg (fun z=>z (z1 (by decide))),if_neg (fun z=>z (z2 (by decide))),if_pos hw] at q
             exact q _ (s0.trans (aq nT))
         | i + 4,w1,w2,w3=>simp at w1
       · rintro σ H2 ⟨⟨u1, u2, u3, rfl⟩, s2, z0, z1, z2, z3⟩
         have z0:=z0 (by decide)
         have z1:=z1 (by decide)
         have z2:=z2 (by decide)
         have z3:=z3 (by decide)
         rw [if_neg (fun z=>z z0),if_neg (fun z=>z z1),if_neg (fun z=>z z2),if_neg (fun z=>z z3)] at q
         walk_at "rd"
         exact q _ (sX.trans s2)
   · rw [decide_eq_false hc]
     rw [if_neg hc] at q
     walk_at "rd"
     exact q _ (ar.refl _)
theorem va (T : Txt K mg a) : cV P w K mg base ba 3 "places_of" (CP K a) := by
 refine bT (sp:=(CP K a)) 2 T.mH cM (fun vs H Q E h=>?_) (fun f cdv A outer s H vs Q E hr h=>?_)
 · obtain ⟨c, ly, lh, prs, rs, ls, hs, first, rfl, _⟩ := h
   rfl
 · obtain ⟨c, ly, lh, prs, rs, ls, hs, first, rfl, hc, hrs, ay, h0, h2000, hls, hwy, hlh, HO', hf, q⟩ := h
   have hpl:=hrs.1
   have hhl:=HO'.len
   refine ⟨_, (ai (j4 (i := 4) cM.nd rfl rfl (own := ["row"]) (fr := []) rfl ⟨rfl, (by walk_at "clok"), (by walk_at "frok"), rfl, (by decide +kernel), (by decide +kernel), rfl⟩ (cC (K := K) rfl (pv 0)) (fun _ _ _ _ => (bb (i := 0) (show List.Nodup [("row" : Str)] from by decide +kernel) rfl (Or.inl rfl))) (fun _ _ _ _ => gm) (fun _ _ _ _ => bz))
     (ai (aS (i:=5) cM.nd rfl (Or.inl rfl) jy)
     (ai (cB (aF (lV (K:=K) T) (hr.mono (by decide)) aO rfl (aa (pv 4) (aa (pv 5) (aa ak (aa (pv 3) af))))))
     (ai (t6 PassesOwn.never (aE lj (aT Av rfl T.cu dg (aa (pv 5) af)) ak (aG _)) (ai (aS (i:=6) cM.nd rfl (Or.inl rfl) (fq (yh rfl) rfl T.hG pU (aa (pv 5) af)))
     (ai (aS (i:=5) cM.nd rfl (Or.inl rfl) jy)
     (ag (fc PassesOwn.never rfl (cC (K:=K) rfl (pv 6)) (bb (i:=7) cM.nd rfl (Or.inl rfl)) (ai (aS (i:=8) cM.nd rfl (Or.inl rfl) (fS (P:=P) (w:=w) (K:=K) (mg:=mg) (base:=base) (k:=2) ⟨rfl,rfl,rfl,rfl,rfl⟩ (aM (aV (K:=K) rfl) (pv 0) (pv 7) (fun _ _=>rfl)) (hr.mono (by decide)) aO (aa (aM (aV (K:=K) rfl) (pv 4) (pv 7) (fun _ _=>rfl)) (aa (aM (aV (K:=K) rfl) (pv 2) (pv 7) (fun _ _=>rfl)) af))))
     (ai (fc PassesOwn.never rfl (cC (K:=K) rfl (aM (aV (K:=K) rfl) (pv 1) (pv 7) (fun _ _=>rfl))) (bb (i:=9) cM.nd rfl (Or.inl rfl)) (ag (cB (aF (lV (K:=K) T) (hr.mono (by decide)) aO rfl (aa (pv 4) (aa (pv 5) (aa (pv 9) (aa (pv 8) af))))))))
     (ag (aX (bY (K:=K) rfl (aT (cN (K:=K) rfl) rfl T.bh bI (aa (aM (aV (K:=K) rfl) (pv 0) (pv 7) (fun _ _=>rfl)) (aa (bg (v:=.ref a.aD) rfl T.du rfl) af)))) (ag (cB (aF (lV (K:=K) T) (hr.mono (by decide)) aO rfl (aa (pv 4) (aa (pv 5) (aa (bo (K:=K) rfl (aM (aV (K:=K) rfl) (pv 0) (pv 7) (fun _ _=>rfl))) (aa (pv 3) af))))))) aI)))))))))
     (ag (aw (pv 4))))))),?_⟩
   refine a_ (σ':=[some _,some _,some _,some _,none,none,none,none,none,none]) rfl ?_
   walk_at "rk"
   refine f9 (K:=K) (a:=c) (xs:=prs.map V.ref) (fun i ys σ H1=>(∃ v,σ = [v])∧ar H H1∧ys = (List.replicate i (none:Option Nat)).map b8) ⟨⟨_,rfl⟩,ar.refl _,rfl⟩ (fun i ys σ H1 hi ⟨_,s1,e⟩=>⟨az.of (s1 _ _ hc),by rw [e,List.length_map,List.length_replicate,sizeLine_eq];rw [List.length_map] at hi;omega⟩) ?_ ?_
   · rintro i v ys σ H1 hv ⟨⟨u, rfl⟩, s1, rfl⟩
     walk_at "rk"
     exact ⟨⟨_,rfl⟩,s1,by rw [List.replicate_succ',List.map_append];rfl⟩
   rintro ys σ H1 ⟨_,s1,rfl⟩ lx nlx
   rw [List.length_map,hpl]
   have nlxH:H lx = none:=aU s1 nlx
   have narrow_step : ∀ {ss : List (Option Nat)} {ks : List Nat} {HD : Hp} {dc : Addr} {n p : Nat} {pend : Nat → Prop} {R : Hp → Prop}, PI rs ls hs first ss pend → ar H HD → HD lx = some (.lst (ss.map b8)) → HD dc = some (.dK (bF ks)) → ks.Nodup → H dc = none → (∀ k ∈ ks, ∃ s, ss[k]? = some (some s)) → (∃ h, hs[n]? = some (some h)) → p < 2 ^ 4100 → (∀ g, Cons rs ls hs first g → Sub (g n) p) →
       (∀ ss2 ks2 HE,PI rs ls hs first ss2 (fun i=>pend i∨i ∈ ks2)→gu ss ss2→(∀ (i s:Nat),ss[i]? = some (some s)→ss2[i]? = some (some s)∨i ∈ ks2)→ar H HE→(∀ b o,HD b = some o→b ≠ lx→b ≠ dc→HE b = some o)→HE lx = some (.lst (ss2.map b8))→HE dc = some (.dK (bF ks2))→ks2.Nodup→(∀ k ∈ ks,k ∈ ks2)→(∀ k ∈ ks2,∃ s,ss2[k]? = some (some s))→(∃ s,ss2[n]? = some (some s)∧Sub s p)→bO ss2 ≤ bO ss→(ks2 = ks∨bO ss2 < bO ss)→R HE) →
       og [.ref lx,.ref dc,.int (n:Int),.int (p:Int)] HD (fun _ HE=>R HE) E0:=by
     intro ss ks HD dc n p pend R I s2 hx hd hnd ndc hkk hh hp hg qq
     have hn : n < ss.length := by
       obtain ⟨h,e⟩:=hh
       rw [I.len,← hhl];exact (List.getElem?_eq_some_iff.mp e).1
     have ho:ss[n]? = some ss[n]:=List.getElem?_eq_getElem hn
     have hkl : ks.length ≤ 2000 := by
       have h1 := mO rs.length ks hnd fun k hk => by
         obtain ⟨s,e⟩:=hkk k hk
         rw [← I.len];exact (List.getElem?_eq_some_iff.mp e).1
       omega
     refine ⟨lx,dc,n,p,ss,ks,ss[n],rfl,hx,hd,by rw [I.len];exact h2000,hkl,hnd,ho,fun e=>?_,fun e=>?_⟩
     · refine qq ss ks HD (I.weak fun i k => .inl k) (gu.refl _) (fun i s e => .inl e) s2 (fun b o e _ _ => e) hx hd hnd (fun k hk => hk) hkk ⟨iY ss[n] p, by rw [ho, ← e], ?_⟩ (Nat.le_refl _) (.inl rfl)
       cases ss[n] with
       | none=>exact Sub.refl p
       | some s=>exact Sub.right s p
     · have nxd : lx ≠ dc := fun z => by rw [z, hd] at hx; cases hx
       refine qq _ (jn ks n) _ ((I.narrow ho hh hp hg).weak fun i k=>?_) (uG ho) (fun i s e1=>?_) (fun b o e1=>?_) (fun b o e1 n1 n2=>by rw [ao n2,ao n1];exact e1) (by rw [ao nxd];exact ah) ah (Ga hnd n) (fun k hk=>by unfold jn;split;exact hk;exact List.mem_append_left _ hk) (fun k hk=>?_) ⟨_,List.getElem?_set_self hn,?_⟩ (Nat.le_of_lt (vQ ho e hp)) (.inr (vQ ho e hp))
       · rcases k with k | k
         · exact .inl k
         · refine .inr ?_
           unfold jn
           split
           · rename_i z;rw [k];exact z
           · rw [k];exact List.mem_append_right _ (List.mem_singleton.mpr rfl)
       · by_cases z : n = i
         · refine .inr ?_
           unfold jn
           split
           · rename_i z2;rw [← z];exact z2
           · rw [← z];exact List.mem_append_right _ (List.mem_singleton.mpr rfl)
         · exact .inl (by rw [List.getElem?_set_ne z];exact e1)
       · rw [ao (av e1 ndc),ao (av e1 nlxH)];exact s2 _ _ e1
       · by_cases z : n = k
         · rw [← z];exact ⟨_,List.getElem?_set_self hn⟩
         · rw [List.getElem?_set_ne z]
           refine hkk k ?_
           unfold jn at hk
           split at hk
           · exact hk
           · rcases List.mem_append.mp hk with hk | hk
             · exact hk
             · exact absurd (List.mem_singleton.mp hk).symm z
       · cases ss[n] with
         | none=>exact Sub.refl p
         | some s=>exact Sub.right s p
   walk_at "rk"
   rename_i dc ndc
   have hrep:∀ (i s:Nat),(List.replicate rs.length (none:Option Nat))[i]? ≠ some (some s):=fun i s e=>by rw [List.getElem?_replicate] at e;split at e <;> cases e
   have I0:PI rs ls hs first (List.replicate rs.length (none:Option Nat)) (fun _=>False):=⟨List.length_replicate,fun i s e=>absurd e (hrep i s),fun i s e=>absurd e (hrep i s),fun i _ s h r e=>absurd e (hrep i s),fun g _ i s e=>absurd e (hrep i s)⟩
   refine narrow_step (ks:=[]) (n:=0) (p:=first) I0 (s1.trans ((aq nlx).trans (aq ndc))) (aC ah ndc) ah List.nodup_nil (aU s1 (gD ndc).1) (fun k hk=>by cases hk) ⟨0,HO'.start⟩ hf (fun g cg=>cg.1) fun ss2 ks2 HE I2 _ _ s2 _ hx2 hd2 nd2 _ hkk2 st2 _ _=>?_
   have ndcH:H dc = none:=aU s1 (gD ndc).1
   clear I0 s1 nlx ndc hrep
   walk_at "rk"
   refine ⟨fun j σ HQ=>∃ (ss:List (Option Nat)) (ks:List Nat) (dc:Addr) (u6 u7 u8 u9:Option V),ar H HQ∧σ = [some (.ref c),some (.ref ly),some (.ref lh),some (.int (first:Int)),some (.ref lx),some (.ref dc),u6,u7,u8,u9]∧HQ lx = some (.lst (ss.map b8))∧HQ dc = some (.dK (bF ks))∧ks.Nodup∧H dc = none∧(∀ k ∈ ks,∃ s,ss[k]? = some (some s))∧PI rs ls hs first ss (fun i=>i ∈ ks)∧(∃ s0,ss[0]? = some (some s0)∧Sub s0 first)∧j = 2 * bO ss + (if ks = [] then 0 else 1),⟨_,ss2,ks2,dc,_,_,_,_,s2,rfl,hx2,hd2,nd2,ndcH,hkk2,I2.weak (fun i k=>k.resolve_left (fun z=>z)),st2,rfl⟩,?_⟩
   clear s2 hx2 hd2 nd2 hkk2 I2 st2
   rintro j σ HQ ⟨ss,ks,dc,u6,u7,u8,u9,s2,rfl,hx,hd,hnd,ndc',hkk,I,st,rfl⟩
   walk_at "rk"
   refine ⟨dc,bF ks,rfl,hd,?_⟩
   have hkl := mO rs.length ks hnd fun k hk => by
     obtain ⟨s,e⟩:=hkk k hk
     rw [← I.len];exact (List.getElem?_eq_some_iff.mp e).1
   have htl:(bF ks).length = ks.length:=by unfold bF;rw [List.length_map]
   rw [htl]
   by_cases hz:ks = []
   · subst hz
     walk_at "rk"
     exact q lx ss HQ s2 nlxH hx ⟨I.weak (fun i k=>by cases k),st⟩
   · have hpos : 0 < ks.length := List.length_pos_iff.mpr hz
     rw [if_neg hz]
     walk_at "rk"
     refine ⟨_,fun σ' H' h=>h,?_⟩
     walk_at "rk"
     refine Gg hd (yB ks) fun lw nlw=>?_
     walk_at "rk"
     rename_i dn ndn
     have nlwH:H lw = none:=aU s2 nlw
     have ndnH:H dn = none:=aU s2 (gD ndn).1
     have nwd:lw ≠ dn:=fun z=>(gD ndn).2 z.symm
     have nwx:lw ≠ lx:=fun z=>by rw [z,hx] at nlw;cases nlw
     have ndx:dn ≠ lx:=fun z=>by have:=(gD ndn).1;rw [z,hx] at this;cases this
     have s3:=s2.trans ((aq (o:=.lst ((ks.map fun k:Nat=>(k:Int)).map V.int)) nlw).trans (aq (o:=.dK []) ndn))
     have hx3:=aC (o:=.dK []) (aC (o:=.lst ((ks.map fun k:Nat=>(k:Int)).map V.int)) hx nlw) ndn
     have hw3:=aC (o:=.dK []) (ah (H:=HQ) (a:=lw) (o:=.lst ((ks.map fun k:Nat=>(k:Int)).map V.int))) ndn
     have hd3:(upd (upd HQ lw (.lst ((ks.map fun k:Nat=>(k:Int)).map V.int))) dn (.dK [])) dn = some (.dK (bF [])):=ah
     generalize (upd (upd HQ lw (.lst ((ks.map fun k:Nat=>(k:Int)).map V.int))) dn (.dK [])) = HF at s3 hx3 hw3 hd3 ⊢
     clear s2 hx hd ndn nlw
     refine fB (K:=K) (a:=lw) (xs:=(ks.map fun k:Nat=>(k:Int)).map V.int) (fun i σ HD=>∃ (ss2:List (Option Nat)) (ks2:List Nat) (u7 u8 u9:Option V),ar H HD∧HD lw = some (.lst ((ks.map fun k:Nat=>(k:Int)).map V.int))∧σ = [some (.ref c),some (.ref ly),some (.ref lh),some (.int (first:Int)),some (.ref lx),some (.ref dn),some (.ref lw),u7,u8,u9]∧HD lx = some (.lst (ss2.map b8))∧HD dn = some (.dK (bF ks2))∧ks2.Nodup∧(∀ k ∈ ks2,∃ s,ss2[k]? = some (some s))∧PI rs ls hs first ss2 (fun i'=>i' ∈ ks2∨i' ∈ ks.drop i)∧gu ss ss2∧(∃ s0,ss2[0]? = some (some s0)∧Sub s0 first)∧bO ss2 ≤ bO ss∧(ks2 = []∨bO ss2 < bO ss)) ⟨ss,[],_,_,_,s3,hw3,rfl,hx3,hd3,List.nodup_nil,(fun k hk=>by cases hk),I.weak (fun i k=>.inr k),gu.refl _,st,Nat.le_refl _,.inl rfl⟩ (fun i σ HD _ ⟨_,_,_,_,_,_,e,_⟩=>az.of e) ?_ ?_
     · rintro i v σ HD hv ⟨ss2, ks2, u7, u8, u9, s4, hw4, rfl, hx4, hd4, nd4, hkk4, I4, le4, st4, tt4, hor4⟩
       obtain ⟨k, hki, rfl⟩ : ∃ k : Nat, ks[i]? = some k ∧ v = .int (k : Int) := by
         rw [List.getElem?_map,List.getElem?_map] at hv
         obtain ⟨p,hp,e⟩:=Option.map_eq_some_iff.mp hv
         obtain ⟨k,hk,e2⟩:=Option.map_eq_some_iff.mp hp
         exact ⟨k,hk,by rw [← e,← e2]⟩
       have hil:=(List.getElem?_eq_some_iff.mp hki).1
       have hdrop : ks.drop i = k :: ks.drop (i + 1) := by
         rw [← (List.getElem?_eq_some_iff.mp hki).2,List.getElem_cons_drop]
       obtain ⟨s0',e0'⟩:=hkk k (List.mem_of_getElem? hki)
       obtain ⟨s,hsk,_⟩:=le4 k s0' e0'
       obtain ⟨h,hhk⟩:=I4.rd k s hsk
       have hkl2:k < rs.length:=by rw [← hhl];exact (List.getElem?_eq_some_iff.mp hhk).1
       have hrk:rs[k]? = some rs[k]:=List.getElem?_eq_getElem hkl2
       have hpk:prs[k]? = some prs[k]:=List.getElem?_eq_getElem (by rw [hpl];exact hkl2)
       have hrow:=hrs.2 k _ _ hpk hrk
       have hokk:=ay _ (List.getElem_mem hkl2)
       generalize rs[k] = r at hrk hrow hokk
       generalize prs[k] = p0 at hpk hrow
       obtain ⟨h',hh',hcl'⟩:=HO'.cl k h r hhk hrk
       have hbd:=LK ay (HO'.rh k h hhk)
       have hkb:=FO (r:=r) hokk.1 hbd.1 hbd.2 (I4.bd k s hsk)
       obtain ⟨wps,hwl0,hwl2,hwl3⟩:=id hwy
       have hwk:wps[k]? = some wps[k]:=List.getElem?_eq_getElem (by rw [hwl2];exact hkl2)
       have hwayH:=hwl3 k _ hwk
       generalize wps[k] = pw at hwk hwayH
       have hat:cD (prs.map V.ref) (k:Int) = some (.ref p0):=bL (by rw [List.getElem?_map,hpk];rfl)
       have hat2:cD (hs.map bW) (k:Int) = some (.int h):=bL (by rw [List.getElem?_map,hhk];rfl)
       have hat3:cD (wps.map V.ref) (k:Int) = some (.ref pw):=bL (by rw [List.getElem?_map,hwk];rfl)
       have hat4:cD (ss2.map b8) (k:Int) = some (.int (s:Int)):=bL (by rw [List.getElem?_map,hsk];rfl)
       have hc4:=s4 _ _ hc
       have hlh4:=s4 _ _ hlh
       have hwl4:=s4 _ _ hwl0
       have hway4:=s4 _ _ hwayH
       have hrow4:=hrow.same s4
       obtain ⟨dx,hdx⟩:=id hrow4
       walk_at "rk"
       refine dm hdx (gX _) ((gb T hokk.2).mono (by decide)) ?_
       walk_at "rk"
       refine ⟨p0,s,h,rfl,hrow4,hokk.1,hbd.1,hbd.2,by rw [hh'];rfl,?_⟩
       have hcg:∀ g,Cons rs ls hs first g→∀ w ∈ bN rs ls k,Sub (g w.toNat) (r.keep s h):=fun g cg w hw=>((cg.2 k h r hhk hrk).1 w hw).trans (A0 r h (I4.up g cg k s hsk))
       generalize hkept:r.keep s h = kept at hkb hcg ⊢
       clear hv hx3 hw3 hd3 s3
       walk_at "rk"
       refine fB (K:=K) (a:=pw) (xs:=(bN rs ls k).map V.int) (fun m σ HE=>∃ (ss3:List (Option Nat)) (ks3:List Nat) (u9:Option V),ar H HE∧HE lw = some (.lst ((ks.map fun k:Nat=>(k:Int)).map V.int))∧σ = [some (.ref c),some (.ref ly),some (.ref lh),some (.int (first:Int)),some (.ref lx),some (.ref dn),some (.ref lw),some (.int (k:Int)),some (.int (kept:Int)),u9]∧HE lx = some (.lst (ss3.map b8))∧HE dn = some (.dK (bF ks3))∧ks3.Nodup∧(∀ k ∈ ks3,∃ s,ss3[k]? = some (some s))∧PI rs ls hs first ss3 (fun i'=>i' ∈ ks3∨i' ∈ ks.drop i)∧gu ss2 ss3∧(∀ (i' s':Nat),ss2[i']? = some (some s')→ss3[i']? = some (some s')∨i' ∈ ks3)∧(∀ w ∈ (bN rs ls k).take m,∃ s',ss3[w.toNat]? = some (some s')∧Sub s' kept)∧bO ss3 ≤ bO ss2∧(ks3 = ks2∨bO ss3 < bO ss2)) ⟨ss2,ks2,_,s4,hw4,rfl,hx4,hd4,nd4,hkk4,I4,gu.refl _,fun i' s' e=>.inl e,(fun w hw=>by rw [List.take_zero] at hw;cases hw),Nat.le_refl _,.inl rfl⟩ (fun m σ HE _ ⟨_,_,_,s5,_⟩=>az.of (s5 _ _ hwayH)) ?_ ?_
       · rintro m v σ HE hv ⟨ss3, ks3, u9, s5, hw5, rfl, hx5, hd5, nd5, hkk5, I5, le5, un5, cl5, tt5, hor5⟩
         obtain ⟨w, hxw, rfl⟩ : ∃ w, (bN rs ls k)[m]? = some w ∧ v = .int w := by
           rw [List.getElem?_map] at hv
           obtain ⟨p,hp,e⟩:=Option.map_eq_some_iff.mp hv
           exact ⟨p,hp,e.symm⟩
         have hwm:=List.mem_of_getElem? hxw
         obtain ⟨hw0,hwh⟩:=hcl' w hwm
         walk_at "rk"
         rw [show w = ((w.toNat:Nat):Int) by omega]
         refine narrow_step I5 s5 hx5 hd5 nd5 ndnH hkk5 ⟨_,hwh⟩ hkb (fun g cg=>hcg g cg w hwm) fun ss6 ks6 HG I6 le6 un6 s6 kp6 hx6 hd6 nd6 sub6 hkk6 cl6 tt6 hor6=>?_
         refine ⟨ss6,ks6,_,s6,kp6 _ _ hw5 nwx nwd,by rw [show ((w.toNat:Nat):Int) = w by omega],hx6,hd6,nd6,hkk6,I6.weak (fun i' k'=>?_),le5.trans le6,fun i' s' e=>?_,fun w' hw'=>?_,Nat.le_trans tt6 tt5,?_⟩
         · rcases k' with (k' | k') | k'
           · exact .inl (sub6 _ k')
           · exact .inr k'
           · exact .inl k'
         · rcases un5 i' s' e with e | e
           · exact un6 i' s' e
           · exact .inr (sub6 _ e)
         · rw [List.take_add_one, hxw, Option.toList_some] at hw'
           rcases List.mem_append.mp hw' with hw' | hw'
           · obtain ⟨s', e1, e2⟩ := cl5 w' hw'
             obtain ⟨s'',f1,f2⟩:=le6 _ _ e1
             exact ⟨s'',f1,f2.trans e2⟩
           · rw [List.mem_singleton.mp hw'];exact cl6
         · rcases hor6 with e | e
           · rcases hor5 with e2 | e2
             · exact .inl (e.trans e2)
             · exact .inr (by omega)
           · exact .inr (by omega)
       · rintro σ HE ⟨ss3, ks3, u9, s5, hw5, rfl, hx5, hd5, nd5, hkk5, I5, le5, un5, cl5, tt5, hor5⟩
         rw [List.length_map,List.take_length] at cl5
         have hc5:=s5 _ _ hc
         have hrow5:=hrow.same s5
         clear hc4 hlh4 hwl4 hway4 hrow4 hdx
         obtain ⟨t',ty1,ty2,_⟩:=gy T hokk.2 hrow5
         have fin : ∀ {ss6 : List (Option Nat)} {ks6 : List Nat} {HG : Hp} {u8 u9 : Option V}, PI rs ls hs first ss6 (fun i' => i' ∈ ks6 ∨ i' ∈ ks.drop i) → gu ss3 ss6 → (∀ (i' s' : Nat), ss3[i']? = some (some s') → ss6[i']? = some (some s') ∨ i' ∈ ks6) → (∀ k' ∈ ks3, k' ∈ ks6) → ar H HG → HG lw = some (.lst ((ks.map fun k : Nat => (k : Int)).map V.int)) → HG lx = some (.lst (ss6.map b8)) → HG dn = some (.dK (bF ks6)) → ks6.Nodup → (∀ k ∈ ks6, ∃ s, ss6[k]? = some (some s)) → bO ss6 ≤ bO ss3 → (ks6 = ks3 ∨ bO ss6 < bO ss3) → (∀ t, r = .call t → ∃ s', ss6[t.toNat]? = some (some s') ∧ Sub s' first) →
             ∃ (ss2:List (Option Nat)) (ks2:List Nat) (u7' u8' u9':Option V),ar H HG∧HG lw = some (.lst ((ks.map fun k:Nat=>(k:Int)).map V.int))∧[some (V.ref c),some (.ref ly),some (.ref lh),some (.int (first:Int)),some (.ref lx),some (.ref dn),some (.ref lw),some (.int (k:Int)),u8,u9] = [some (.ref c),some (.ref ly),some (.ref lh),some (.int (first:Int)),some (.ref lx),some (.ref dn),some (.ref lw),u7',u8',u9']∧HG lx = some (.lst (ss2.map b8))∧HG dn = some (.dK (bF ks2))∧ks2.Nodup∧(∀ k ∈ ks2,∃ s,ss2[k]? = some (some s))∧PI rs ls hs first ss2 (fun i'=>i' ∈ ks2∨i' ∈ ks.drop (i + 1))∧gu ss ss2∧(∃ s0,ss2[0]? = some (some s0)∧Sub s0 first)∧bO ss2 ≤ bO ss∧(ks2 = []∨bO ss2 < bO ss):=by
           intro ss6 ks6 HG u8 u9 I6 le6 un6 sub6 s6 hw6 hx6 hd6 nd6 hkk6 tt6 hor6 tg6
           refine ⟨ss6,ks6,_,_,_,s6,hw6,rfl,hx6,hd6,nd6,hkk6,I6.done (fun i' hi'=>?_),(le4.trans le5).trans le6,?_,by omega,?_⟩
           · by_cases z : i' = k
             · subst z
               refine .inr fun s1 h1 r1 e1 e2 e3=>?_
               rw [hhk] at e2;cases e2
               rw [hrk] at e3;cases e3
               have hne:i' ∉ ks6:=fun z=>hi' (.inl z)
               have e4 : ss6[i']? = some (some s) := by
                 rcases un5 i' s hsk with e | e
                 · exact (un6 i' s e).resolve_right hne
                 · exact absurd (sub6 _ e) hne
               rw [e4] at e1;cases e1
               refine ⟨fun w hw=>?_,tg6⟩
               obtain ⟨s',f1,f2⟩:=cl5 w hw
               obtain ⟨s'',g1,g2⟩:=le6 _ _ f1
               exact ⟨s'',g1,by rw [hkept];exact g2.trans f2⟩
             · refine .inl fun hp => hi' ?_
               rcases hp with hp | hp
               · exact .inl hp
               · rw [hdrop] at hp
                 exact .inr ((List.mem_cons.mp hp).resolve_left z)
           · obtain ⟨a0, b0, c0⟩ := st4
             obtain ⟨a1,b1,c1⟩:=(le5.trans le6) _ _ b0
             exact ⟨a1,b1,c1.trans c0⟩
           · rcases hor6 with e | e
             · rcases hor5 with e2 | e2
               · rcases hor4 with e3 | e3
                 · exact .inl (by rw [e,e2,e3])
                 · exact .inr (by omega)
               · exact .inr (by omega)
             · exact .inr (by omega)
         walk_at "rk"
         refine gk (fun z=>nomatch z) ty1 ty2 ?_
         cases hcall:r.isCall with
         | false =>
           walk_at "rk"
           exact fin I5 (gu.refl _) (fun i' s' e=>.inl e) (fun k' h=>h) s5 hw5 hx5 hd5 nd5 hkk5 (Nat.le_refl _) (.inl rfl) (fun t ht=>by rw [ht] at hcall;cases hcall)
         | true =>
           obtain ⟨t, rfl⟩ : ∃ t, r = .call t := by
             cases r <;> first | exact ⟨_,rfl⟩ | (cases hcall)
           obtain ⟨dxD,hdxD⟩:=hrow5
           have hdxD:HE p0 = some (.ins a.aD dxD (aN "target" (.int t) [])):=hdxD
           obtain ⟨ht0,hth⟩:=HO'.tg k h t hhk hrk
           walk_at "rk"
           rw [show t = ((t.toNat:Nat):Int) by omega]
           refine narrow_step I5 s5 hx5 hd5 nd5 ndnH hkk5 ⟨_,hth⟩ hf (fun g cg=>(cg.2 k h (.call t) hhk hrk).2 t rfl) fun ss6 ks6 HG I6 le6 un6 s6 kp6 hx6 hd6 nd6 sub6 hkk6 cl6 tt6 hor6=>?_
           refine fin (I6.weak (fun i' k'=>?_)) le6 un6 sub6 s6 (kp6 _ _ hw5 nwx nwd) hx6 hd6 nd6 hkk6 tt6 hor6 (fun t2 ht2=>by cases ht2;exact cl6)
           rcases k' with (k' | k') | k'
           · exact .inl (sub6 _ k')
           · exact .inr k'
           · exact .inl k'
     · rintro σ HD ⟨ss2, ks2, u7, u8, u9, s4, hw4, rfl, hx4, hd4, nd4, hkk4, I4, le4, st4, tt4, hor4⟩
       rw [List.length_map,List.length_map,List.drop_length] at I4
       refine ⟨2 * bO ss2 + (if ks2 = [] then 0 else 1),?_,ss2,ks2,dn,_,_,_,_,s4,rfl,hx4,hd4,nd4,ndnH,hkk4,I4.weak (fun i k=>k.resolve_right (by simp)),st4,rfl⟩
       split
       · omega
       · rename_i hne
         have:=hor4.resolve_left hne
         omega
def L4 (H:Hp) (i:Int) (v:V) (o:Int×Option Wt):Prop:=∃ q,v = .ref q∧H q = some (.tup [.int i,.int o.1,oV o.2])
def fD (H:Hp) (i:Int) (vs:List V) (os:List (Int×Option Wt)):Prop:=vs.length = os.length∧∀ (k:Nat) (o:Int×Option Wt),os[k]? = some o→∃ v,vs[k]? = some v∧L4 H i v o
theorem fD.to {H H':Hp} {i:Int} {vs:List V} {os:List (Int×Option Wt)} (h:fD H i vs os) (s:∀ b xs,H b = some (.tup xs)→H' b = some (.tup xs)):fD H' i vs os:=⟨h.1,fun k o e=>let ⟨v,e1,q,e2,e3⟩:=h.2 k o e;⟨v,e1,q,e2,s _ _ e3⟩⟩
theorem fD.same {H H':Hp} {i:Int} {vs:List V} {os:List (Int×Option Wt)} (h:fD H i vs os) (s:ar H H'):fD H' i vs os:=h.to fun _ _ e=>s _ _ e
theorem fD.nil {H:Hp} {i:Int}:fD H i [] []:=⟨rfl,fun i c e=>by simp at e⟩
theorem fD.app {H : Hp} {i : Int} {vs us : List V} {cs ds : List (Int × Option Wt)} (h : fD H i vs cs) (k : fD H i us ds) : fD H i (vs ++ us) (cs ++ ds) := by
 refine ⟨by rw [List.length_append,List.length_append,h.1,k.1],fun j o e=>?_⟩
 by_cases hi:j < cs.length
 · rw [List.getElem?_append_left hi] at e
   obtain ⟨u,e1,e2⟩:=h.2 j o e
   exact ⟨u,by rw [List.getElem?_append_left (by rw [h.1];exact hi)];exact e1,e2⟩
 · rw [List.getElem?_append_right (by omega)] at e
   obtain ⟨u,e1,e2⟩:=k.2 _ o e
   exact ⟨u,by rw [List.getElem?_append_right (by rw [h.1];omega),h.1];exact e1,e2⟩
theorem fD.one {H : Hp} {i : Int} {v : V} {o : Int × Option Wt} (h : L4 H i v o) : fD H i [v] [o] := ⟨rfl, fun k c' e => by
 cases k with
 | zero=>simp at e;subst e;exact ⟨v,rfl,h⟩
 | succ k=>simp at e⟩
theorem yx {r : Rw} {e : Ent} (h : ic r e = none) : 0 ≤ e.h ∧ e.h ≤ 4000 ∧ (r.bj e.h).isSome = true := by
 unfold ic at h
 split at h
 · cases h
 · rename_i hw
   unfold gg at hw
   simp only [Bool.not_eq_true,Bool.or_eq_false_iff,decide_eq_false_iff_not] at hw
   split at h
   · cases h
   · rename_i hg
     exact ⟨by omega,by omega,by cases hx:r.bj e.h with | none=>exact absurd hx hg | some z=>rfl⟩
theorem B4 (r:Rw) (i:Int):(r.bq i).length ≤ 4000:=by cases r <;> exact Nat.le_of_ble_eq_true rfl
theorem BZ (r : Rw) (i : Int) : (once (r.bq i)).length ≤ 9 := by
 cases r <;> simp [Rw.bq,once]
 split <;> simp
theorem nG (T : Txt K mg a) : cV P w K mg base ba 4 "row_complaints" (yU K a) := by
 refine bT (sp:=(yU K a)) 3 T.iW df (fun vs H Q E h=>?_) (fun f cdv A outer s H vs Q E hr h=>?_)
 · obtain ⟨c, l, i, prs, rs, ev, es, rfl, _⟩ := h
   rfl
 · obtain ⟨c, l, i, prs, rs, ev, es, rfl, hc, hrs, hl, hev, E', hi, hre, q⟩ := h
   have hpl:=hrs.1
   have hri:rs[i]? = some rs[i]:=List.getElem?_eq_getElem hi
   obtain ⟨p,hp⟩:∃ p,prs[i]? = some p:=⟨_,List.getElem?_eq_getElem (by omega)⟩
   obtain ⟨dx,hx⟩:=hrs.2 i p _ hp hri
   obtain ⟨ok,hh⟩:=E'.ok _ (List.getElem_mem hi)
   obtain ⟨v,oe,hat,hoe,hmem,hv⟩:=hev.at (c:=(i:Int)) (by omega) (by omega)
   rw [Int.toNat_natCast] at hoe
   have hatp:cD (prs.map V.ref) (i:Int) = some (.ref p):=bL (by rw [List.getElem?_map,hp];rfl)
   unfold jP at q
   rw [hri,hoe,Option.join_some] at q
   generalize rs[i] = r at *
   refine ⟨_, (ai (aS (i := 3) df.nd rfl (Or.inr rfl) (aM (aV (K := K) rfl) (pv 0) (pv 2) (fun _ _ => rfl)))
     (ai (aS (i:=4) df.nd rfl (Or.inr rfl) (aM (aV (K:=K) rfl) (pv 1) (pv 2) (fun _ _=>rfl)))
     (ai (aX (aE cU (pv 4) bz (aG _)) (ag (aw (bH af))) aI)
     (ai (aS (i:=5) df.nd rfl (Or.inl rfl) (aF (jd (K:=K) T) (hr.mono (by decide)) aO rfl (aa (pv 3) (aa (pv 4) af))))
     (ai (aX (aE jD (pv 5) bz (aG _)) (ag (aw (bH (aa (cn (aa (pv 2) (aa (pv 2) (aa (pv 5) af)))) af)))) aI)
     (ai (j4 (i:=6) df.nd rfl rfl (own:=["coming"]) (fr:=[("entries",1),("at",2),("row",3),("entry",4)]) rfl ⟨rfl,(by walk_at "clok"),(by walk_at "frok"),rfl,(by decide +kernel),(by decide +kernel),rfl⟩ (cC (K:=K) rfl (aF (uH (K:=K) T) (hr.mono (by decide)) aO rfl (aa (fS (P:=P) (w:=w) (K:=K) (mg:=mg) (base:=base) (k:=1) ⟨rfl,rfl,rfl,rfl,rfl⟩ (pv 3) (hr.mono (by decide)) aO (aa (pv 2) af)) af))) (fun _ _ _ _=>(bb (i:=0) (show List.Nodup [("coming" : Str),("entries" : Str),("at" : Str),("row" : Str),("entry" : Str)] from by decide +kernel) rfl (Or.inl rfl))) (fun _ _ _ _=>gm) (fun _ _ _ _=>(cn (aa (pv 2) (aa (pv 0) (aa (aF (ji (K:=K) T) (hr.mono (by decide)) aO rfl (aa (pv 3) (aa (pv 4) (aa (pv 0) (aa (pv 1) af))))) af))))))
     (ai (aX (bY (K:=K) rfl (aT (cN (K:=K) rfl) rfl T.bh bI (aa (pv 3) (aa (bg (v:=.ref a.aD) rfl T.du rfl) af)))) (ag (cB (g_ (K:=K) rfl PySem.F.plainAttrs_list PySem.F.slot_list_append PySem.F.type_list_append ft (pv 6) (aa (cn (aa (pv 2) (aa (bo (K:=K) rfl (pv 3)) (aa (aF (lQ (K:=K) T) (hr.mono (by decide)) aO rfl (aa (pv 3) (aa (pv 1) af))) af)))) af)))) aI)
     (ag (aw (gL (own:=["complaint"]) (fr:=[]) rfl ⟨rfl,(by walk_at "clok"),(by walk_at "frok"),rfl,(by decide +kernel),(by decide +kernel),rfl⟩ (cC (K:=K) rfl (pv 6)) (fun _ _ _ _=>(bb (i:=0) (show List.Nodup [("complaint" : Str)] from by decide +kernel) rfl (Or.inl rfl))) (fun _ _ _ _=>(nz (aE jD (aM (aV (K:=K) rfl) (pv 0) ak (fun _ _=>rfl)) bz (aG _)))) (fun _ _ _ _=>(pv 0)))))))))))),?_⟩
   refine a_ (σ':=[some _,some _,some _,none,none,none,none]) rfl ?_
   walk_at "rd"
   cases oe with
   | none =>
     cases hv
     walk_at "rd"
     rename_i l1 nl1
     exact q l1 [] _ (aq nl1) ah b9.nil nl1
   | some e =>
     have q:∀ p us H',ar H H'→H' p = some (.lst us)→b9 H' us (kQ r e i es)→H p = none→Q (.ref p) H':=q
     obtain ⟨pe,rfl,he⟩:=id hv
     have nn:=E'.nn e hmem
     walk_at "rd"
     refine ⟨p,pe,r,e,rfl,⟨dx,hx⟩,ok,hh,he,fun H1 s1=>?_⟩
     have hx1:=s1 _ _ hx
     have he1:=he.same s1
     have hl1:=s1 _ _ hl
     have hev1:=hev.same s1
     unfold kQ at q
     cases ho:ic r e with
     | some w =>
       rw [ho] at q
       show dW 5 w.v _ _ _
       walk_at "rd"
       rename_i t nt l1 nl1
       exact q l1 [.ref t] _ (s1.trans (by walk_at "same")) ah (b9.one ⟨t,rfl,by walk_at "hlk"⟩) (aU s1 (by walk_at "none"))
     | none =>
       rw [ho] at q
       show dW 5 V.aH _ _ _
       have hnw : 0 ≤ e.h∧e.h ≤ 4000∧(r.bj e.h).isSome = true:=yx ho
       obtain ⟨e0,e4,hs⟩:=hnw
       have nl0:∀ b,H1 b = none→H b = none:=fun b z=>aU s1 z
       walk_at "rd"
       refine dm hx1 (mx _) ((jZ T hh).mono (by decide)) ?_
       walk_at "rd"
       refine ⟨p,(i:Int),rfl,⟨dx,hx1⟩,fun g ng=>?_⟩
       walk_at "rd"
       refine ⟨g,r.bq i,rfl,az.of ah,B4 r i,fun q1 H2 s2 hq1=>?_⟩
       have s12:=(aq (o:=.lst ((r.bq i).map V.int)) ng).trans s2
       have n2:∀ b,H2 b = none→H b = none:=fun b z=>nl0 b (aU s12 z)
       have s02:=s1.trans s12
       have hx2:=s12 _ _ hx1
       have he2:=he1.same s12
       have hl2:=s12 _ _ hl1
       have hev2:=hev1.same s12
       clear s12 s2 ng s1 hx1 he1 hl1 hev1 hx hl hev he hv nl0 hc hrs
       walk_at "rd"
       have hol:=BZ r i
       refine f9 (K:=K) (a:=q1) (xs:=(once (r.bq i)).map V.int) (fun k ys σ H3=>(∃ u,σ = [u,some (.ref l),some (.int (i:Int)),some (.ref p),some (.ref pe)])∧ar H2 H3∧fD H3 i ys (((once (r.bq i)).take k).map fun c=>(c,jl r e c es))) ⟨⟨_,rfl⟩,ar.refl _,fD.nil⟩ (fun k ys σ H3 hk ⟨_,s3,e3⟩=>⟨az.of (s3 _ _ hq1),by have:=e3.1;rw [List.length_map,List.length_take] at this;rw [sizeLine_eq];omega⟩) ?_ ?_
       · rintro k v ys σ H3 hk ⟨⟨u, rfl⟩, s3, ho3⟩
         obtain ⟨cc, hcc, rfl⟩ : ∃ n, (once (r.bq i))[k]? = some n ∧ v = .int n := by
           rw [List.getElem?_map] at hk
           obtain ⟨p,hp,e⟩:=Option.map_eq_some_iff.mp hk
           exact ⟨p,hp,e.symm⟩
         walk_at "rd"
         refine ⟨p,pe,l,cc,r,e,ev,es,rfl,⟨dx,s3 _ _ hx2⟩,ok,hh,he2.same s3,nn,e0,e4,hs,s3 _ _ hl2,hev2.same s3,E'.nn,fun H4 s4=>?_⟩
         walk_at "rd"
         rename_i t nt
         refine ⟨⟨_,rfl⟩,(s3.trans s4).trans (aq nt),?_⟩
         rw [List.take_add_one,hcc,Option.toList_some,List.map_append]
         exact ((ho3.same s4).same (aq nt)).app (fD.one ⟨t,rfl,ah⟩)
       rintro ys σ H3 ⟨_,s3,ho3⟩
       rw [List.length_map,List.take_length] at ho3
       walk_at "rd"
       rename_i lf nlf
       have sn:=s3.trans (aq (o:=.lst ys) nlf)
       have hlf:(upd H3 lf (.lst ys)) lf = some (.lst ys):=ah
       have ho4:=ho3.same (aq (o:=.lst ys) nlf)
       have n4:H lf = none:=n2 lf (aU s3 nlf)
       clear s3 nlf ho3
       generalize upd H3 lf (.lst ys) = H4 at sn hlf ho4 ⊢
       have s04:=s02.trans sn
       have hx4:=sn _ _ hx2
       have hl4:=sn _ _ hl2
       have hev4:=hev2.same sn
       clear sn s02 hx2 he2 hl2 hev2 hq1 n2
       have kk : ∀ (lf : Addr) (H5 : Hp), (∃ us os, ar H H5 ∧ H5 lf = some (.lst us) ∧ fD H5 i us os ∧ os.length ≤ 10 ∧ (os.filterMap fun o => o.2.map fun w => Cm.mk i o.1 w) = ((once (r.bq i)).filterMap fun c => (jl r e c es).map fun w => Cm.mk i c w) ++ qN r i es) → jN (sk K lf) (dW 0) (eZ (dD iH (dD (ik K) (bE 0) (tC (V.int 2))) (tC V.aH))) (bE 0) (fun ys H3 => ∀ p, H3 p = none → Q (V.ref p) (upd H3 p (HO.lst ys))) [none] H5 := by
         rintro lf H5 ⟨us,os,s5,hlf,ho5,h10,hfm⟩
         rw [← hfm] at q
         clear hfm
         have hul:=ho5.1
         refine f9 (K:=K) (a:=lf) (xs:=us) (fun k ys σ H6=>(∃ u,σ = [u])∧H6 = H5∧b9 H5 ys ((os.take k).filterMap fun o=>o.2.map fun w=>Cm.mk i o.1 w)∧ys.length ≤ k) ⟨⟨_,rfl⟩,rfl,b9.nil,Nat.le_refl _⟩ (fun k ys σ H6 hk ⟨_,e6,_,e7⟩=>⟨by rw [e6];exact az.of hlf,by rw [sizeLine_eq];omega⟩) ?_ ?_
         · rintro k v ys σ H6 hk ⟨⟨u, rfl⟩, rfl, hcm, hyl⟩
           have hk2:k < os.length:=by rw [← hul];exact (List.getElem?_eq_some_iff.mp hk).1
           obtain ⟨v',hv',qq,e1,e2⟩:=ho5.2 k _ (List.getElem?_eq_getElem hk2)
           rw [hk] at hv'
           cases hv'
           subst e1
           rw [List.take_add_one,List.getElem?_eq_getElem hk2,Option.toList_some,List.filterMap_append]
           generalize os[k] = o at e2 ⊢
           obtain ⟨cc,ow⟩:=o
           walk_at "rd"
           cases ow with
           | none =>
             show iH V.aH V.aH _ _
             walk_at "rd"
             exact ⟨⟨_,rfl⟩,rfl,by rw [show List.filterMap (fun o:Int×Option Wt=>o.2.map fun w=>Cm.mk i o.1 w) [(cc,none)] = [] from rfl,List.append_nil];exact hcm,by omega⟩
           | some w =>
             show iH w.v V.aH _ _
             walk_at "rd"
             exact ⟨⟨_,rfl⟩,rfl,hcm.app (b9.one (c:=⟨i,cc,w⟩) ⟨qq,rfl,e2⟩),by rw [List.length_append];show _ + 1 ≤ _ + 1;omega⟩
         · rintro ys σ H6 ⟨_, rfl, hcm, hyl⟩
           rw [hul,List.take_length] at hcm
           intro p1 np1
           exact q p1 ys _ (s5.trans (aq np1)) ah (hcm.same (aq np1)) (aU s5 np1)
       obtain ⟨t',ty,kc,kb⟩:=gy T hh ⟨dx,hx4⟩
       cases hC:r.isCall with
       | false =>
         rw [hC] at kc
         refine gk (fun z=>by cases z) ty kc ?_
         walk_at "rd"
         refine kk lf H4 ⟨ys,_,s04,hlf,ho4,by rw [List.length_map];omega,?_⟩
         rw [List.filterMap_map,show qN r i es = [] from (by cases r <;> first | rfl | cases hC),List.append_nil]
         rfl
       | true =>
         obtain ⟨t,hrt⟩:∃ t,r = .call t:=by cases r <;> first | exact ⟨_,rfl⟩ | cases hC
         rw [hC] at kc
         refine gk (b:=true) (fun z=>by cases z) ty kc ?_
         rw [hrt] at hx4
         change H4 p = some (.ins a.aD dx (aN "target" (.int t) [])) at hx4
         walk_at "rd"
         refine ⟨p,l,t,ev,es,rfl,⟨dx,hx4⟩,hl4,hev4,fun H5 s5=>?_⟩
         have hlf5:=s5 _ _ hlf
         have ho5:=ho4.same s5
         have hyl:ys.length ≤ 10:=by rw [ho4.1,List.length_map];omega
         walk_at "rd"
         rename_i tt ntt
         have ho6:=(ho5.same (aq (o:=.tup [.int (i:Int),.int t,oV (fe t es)]) ntt)).app (fD.one (i:=i) (o:=(t,fe t es)) ⟨tt,rfl,ah⟩)
         have kb6 : ∀ (b : Addr) (xs : List V), (upd H5 tt (.tup [.int (i : Int), .int t, oV (fe t es)])) b = some (.tup xs) → (upd (upd H5 tt (.tup [.int (i : Int), .int t, oV (fe t es)])) lf (.lst (ys ++ [.ref tt]))) b = some (.tup xs) := fun b xs e => by
           rw [ao (fun z=>by subst z;rw [aC hlf5 ntt] at e;cases e)];exact e
         have ho7:=ho6.to kb6
         have s07 : ar H (upd (upd H5 tt (.tup [.int (i : Int), .int t, oV (fe t es)])) lf (.lst (ys ++ [.ref tt]))) := fun b o e => by
           rw [ao (av e n4)]
           exact (s04.trans (s5.trans (aq ntt))) b o e
         have hlf7:(upd (upd H5 tt (.tup [.int (i:Int),.int t,oV (fe t es)])) lf (.lst (ys ++ [.ref tt]))) lf = some (.lst (ys ++ [.ref tt])):=ah
         clear kb6 ho6 ho5 hlf5
         generalize (upd (upd H5 tt (.tup [.int (i:Int),.int t,oV (fe t es)])) lf (.lst (ys ++ [.ref tt]))) = H7 at ho7 s07 hlf7 ⊢
         refine kk lf H7 ⟨_,_,s07,hlf7,ho7,by rw [List.length_append,List.length_map];show _ + 1 ≤ 10;omega,?_⟩
         rw [List.filterMap_append,List.filterMap_map,show qN r i es = ((fe t es).map fun w=>Cm.mk i t w).toList from by rw [hrt];rfl]
         show _ ++ (List.filterMap _ [(t,fe t es)]) = _ ++ ((fe t es).map fun w=>Cm.mk i t w).toList
         cases fe t es <;> rfl
theorem yi {r : Rw} {e : Ent} (h : ic r e = none) : 0 ≤ e.h ∧ e.h ≤ 4000 ∧ (r.bj e.h).isSome = true := by
 unfold ic at h
 split at h
 · cases h
 · rename_i hw
   unfold gg at hw
   simp only [Bool.not_eq_true,Bool.or_eq_false_iff,decide_eq_false_iff_not] at hw
   split at h
   · cases h
   · rename_i hg
     exact ⟨by omega,by omega,by cases hx:r.bj e.h with | none=>exact absurd hx hg | some z=>rfl⟩
theorem kY (T : Txt K mg a) : cV P w K mg base ba 4 "landing_complaint" (wJ K a) := by
 refine bT (sp:=(wJ K a)) 3 T.hW ia (fun vs H Q E h=>?_) (fun f cdv A outer s H vs Q E hr h=>?_)
 · obtain ⟨c, l, i, z, prs, rs, ev, es, rfl, _⟩ := h
   rfl
 · obtain ⟨c, l, i, z, prs, rs, ev, es, rfl, hc, hrs, hl, hev, E', hre, q⟩ := h
   have hpl:=hrs.1
   unfold jJ at q
   refine ⟨_, (ai (aX (PW.pt (fO (hZ (bY (K := K) rfl (aF (mG (K := K) T) (hr.mono (by decide)) aO rfl (aa (pv 2) (aa (pv 1) af))))) (fE (hZ (bY (K := K) rfl (aT (cN (K := K) rfl) rfl T.bh bI (aa (aM (aV (K := K) rfl) (pv 0) (pv 2) (fun _ _ => rfl)) (aa (bg (v := .ref a.aD) rfl T.du rfl) af)))))))) (ag (aw cm)) aI)
     (ai (aS (i:=4) ia.nd rfl (Or.inl rfl) (aM (aV (K:=K) rfl) (pv 1) (pv 2) (fun _ _=>rfl)))
     (ai (aX (PW.pt (fO (aE cU (pv 4) bz (aG _)) (fE (aE jD (aF (jd (K:=K) T) (hr.mono (by decide)) aO rfl (aa (aM (aV (K:=K) rfl) (pv 0) (pv 2) (fun _ _=>rfl)) (aa (pv 4) af))) bz (aG _))))) (ag (aw bz)) aI)
     (ag (aw (aF (ji (K:=K) T) (hr.mono (by decide)) aO rfl (aa (aM (aV (K:=K) rfl) (pv 0) (pv 2) (fun _ _=>rfl)) (aa (pv 4) (aa (pv 3) (aa (pv 1) af)))))))))),?_⟩
   refine a_ (σ':=[some _,some _,some _,some _,none]) rfl ?_
   walk_at "rd"
   refine ⟨i,l,ev,rfl,az.of hl,?_⟩
   rw [hev.1]
   by_cases hc0 : 0 ≤ i∧i < (es.length:Int)
   · rw [decide_eq_true hc0]
     rw [if_pos hc0] at q
     have hi:i.toNat < rs.length:=by omega
     have hri:rs[i.toNat]? = some rs[i.toNat]:=List.getElem?_eq_getElem hi
     obtain ⟨p,hp⟩:∃ p,prs[i.toNat]? = some p:=⟨_,List.getElem?_eq_getElem (by omega)⟩
     obtain ⟨dx,hx⟩:=hrs.2 _ p _ hp hri
     obtain ⟨ok,hh⟩:=E'.ok _ (List.getElem_mem hi)
     obtain ⟨v,oe,hat,hoe,hmem,hv⟩:=hev.at hc0.1 hc0.2
     have hatp : cD (prs.map V.ref) i = some (.ref p) := by
       rw [show i = ((i.toNat:Nat):Int) from by omega]
       exact bL (by rw [List.getElem?_map,hp];rfl)
     rw [hri,hoe,Option.join_some] at q
     generalize rs[i.toNat] = r at *
     have q:∀ H',ar H H'→Q (oV (sU r oe z es)) H':=q
     unfold sU at q
     walk_at "rd"
     obtain ⟨t',ty,kc,kb⟩:=gy T hh ⟨dx,hx⟩
     refine gk (fun z=>by cases z) ty kc ?_
     cases hC:r.isCall with
     | false =>
       rw [hC] at q
       walk_at "rd"
       exact q _ (ar.refl _)
     | true =>
       rw [hC] at q
       walk_at "rd"
       cases oe with
       | none =>
         cases hv
         walk_at "rd"
         exact q _ (ar.refl _)
       | some e =>
         have q:∀ H',ar H H'→Q (oV (if (ic r e).isSome = true then none else jl r e z es)) H':=q
         obtain ⟨pe,rfl,he⟩:=id hv
         walk_at "rd"
         refine ⟨p,pe,r,e,rfl,⟨dx,hx⟩,ok,hh,he,fun H1 s1=>?_⟩
         cases ho:ic r e with
         | some w =>
           rw [ho] at q
           walk_at "rd"
           show iH w.v V.aH _ _
           walk_at "rd"
           exact q _ s1
         | none =>
           rw [ho] at q
           obtain ⟨e0,e4,hs⟩:=yi ho
           have hx1:=s1 _ _ hx
           have hc1:=s1 _ _ hc
           walk_at "rd"
           show iH V.aH V.aH _ _
           walk_at "rd"
           exact ⟨p,pe,l,z,r,e,ev,es,rfl,⟨dx,hx1⟩,ok,hh,he.same s1,E'.nn e hmem,e0,e4,hs,s1 _ _ hl,hev.same s1,E'.nn,fun H2 s2=>q _ (s1.trans s2)⟩
   · rw [decide_eq_false hc0]
     rw [if_neg hc0] at q
     walk_at "rd"
     exact q _ (ar.refl _)
theorem sO (T : Txt K mg a) : cV P w K mg base (e_ P w) 4 "entries_of" (yy K a) := by
 refine uk (sp:=(yy K a)) 3 T.lN bV (fun vs H Q E h=>?_) (fun f cdv A outer s H vs Q E hr h=>?_)
 · obtain ⟨c, d, prs, rs, ls, rfl, _⟩ := h
   rfl
 · obtain ⟨c, d, prs, rs, ls, rfl, hc, hrs, ay, h2000, hls, hd, qe, q⟩ := h
   have hpl:=hrs.1
   refine ⟨_, (ai (PS.cw (aX (aE (dG (K := K) rfl hr.units) (aT (bC (K := K) rfl) rfl T.cu dg (aa (pv 0) af)) ak (aG _)) (ag (aw (bH af))) aI))
     (ai (PS.cw (aS (i:=2) bV.nd rfl (Or.inr rfl) (gL (own:=["at"]) (fr:=[("code",0),("landings",1)]) rfl ⟨rfl,(by walk_at "clok"),(by walk_at "frok"),rfl,(by decide +kernel),(by decide +kernel),rfl⟩ (gP rfl T.fj (aa (aT (bC (K:=K) rfl) rfl T.cu dg (aa (pv 0) af)) af)) (fun _ _ _ _=>(bb (i:=0) (show List.Nodup [("at" : Str),("code" : Str),("landings" : Str)] from by decide +kernel) rfl (Or.inl rfl))) (fun _ _ _ _=>gm) (fun _ _ _ _=>(aF (wV (K:=K) T) (hr.mono (by decide)) aO rfl (aa (pv 1) (aa (pv 2) (aa (pv 0) af))))))))
     (ai (aS (i:=3) bV.nd rfl (Or.inr rfl) (aF (sv (K:=K) T) (hr.mono (by decide)) kn rfl (aa (pv 0) (aa (pv 2) af))))
     (ai (PS.cw (j4 (i:=4) bV.nd rfl rfl (own:=["first"]) (fr:=[("code",0),("ways",2),("heights",3)]) rfl ⟨rfl,(by walk_at "clok"),(by walk_at "frok"),rfl,(by decide +kernel),(by decide +kernel),rfl⟩ (cC (K:=K) rfl (aF (i6 (K:=K) T) (hr.mono (by decide)) aO rfl (aa (bg (v:=.ref a.d7) rfl T.i9 rfl) af))) (fun _ _ _ _=>(bb (i:=0) (show List.Nodup [("first" : Str),("code" : Str),("ways" : Str),("heights" : Str)] from by decide +kernel) rfl (Or.inl rfl))) (fun _ _ _ _=>gm) (fun _ _ _ _=>(aF (va (K:=K) T) (hr.mono (by decide)) aO rfl (aa (pv 1) (aa (pv 2) (aa (pv 3) (aa (pv 0) af))))))))
     (ai (PS.cw (aS (i:=5) bV.nd rfl (Or.inl rfl) (bH af)))
     (ai (PS.cw (fc PassesOwn.never rfl (FD (K:=K) rfl rfl T.jM (aa (pv 3) (aa (aM (aV (K:=K) rfl) (pv 4) ak (fun _ _=>rfl)) (aa (aM (aV (K:=K) rfl) (pv 4) ak (fun _ _=>rfl)) (aa (aM (aV (K:=K) rfl) (pv 4) ak (fun _ _=>rfl)) (aa (aM (aV (K:=K) rfl) (pv 4) ak (fun _ _=>rfl)) af)))))) (qj (K:=K) rfl rfl (eT (bb (i:=6) bV.nd rfl (Or.inl rfl)) (eT (bb (i:=7) bV.nd rfl (Or.inl rfl)) (eT (bb (i:=8) bV.nd rfl (Or.inl rfl)) (eT (bb (i:=9) bV.nd rfl (Or.inl rfl)) (eT (bb (i:=10) bV.nd rfl (Or.inl rfl)) qT)))))) (ag (cB (g_ (K:=K) rfl PySem.F.plainAttrs_list PySem.F.slot_list_append PySem.F.type_list_append ft (pv 5) (aa (jA (aE cU (pv 6) bz (aG _)) bz (cn (aa (pv 6) (aa (pv 7) (aa (cn (aa (pv 8) (aa (pv 9) (aa (pv 10) af)))) af))))) af))))))
     (ag (PS.cw (aw (pv 5)))))))))),?_⟩
   refine a_ (σ':=[some _,some _,none,none,none,none,none,none,none,none,none]) rfl ?_
   walk_at "rk"
   refine cx (az.of hc) ?_
   rw [List.length_map,hpl]
   by_cases hz:rs = []
   · subst hz
     walk_at "rk"
     rename_i l nl
     exact q l [] [] _ (aq nl) nl ah ⟨rfl,fun i oe e=>by simp at e⟩ ⟨rfl,fun z=>absurd z (Nat.lt_irrefl 0)⟩
   · have hpos : 0 < rs.length := List.length_pos_iff.mpr hz
     walk_at "rk"
     refine cx (az.of hc) ?_
     rw [List.length_map,hpl]
     walk_at "rk"
     rw [Int.toNat_natCast]
     refine kL (fun i ys σ H1=>(∃ v,σ = [v,some (.ref c),some (.ref d)])∧ar H H1∧∃ wps:List Addr,ys = wps.map V.ref∧wps.length = i∧∀ (j:Nat) (p:Addr),wps[j]? = some p→H1 p = some (.lst ((bN rs ls j).map V.int))) ⟨⟨_,rfl⟩,ar.refl _,[],rfl,rfl,fun j p e=>by simp at e⟩ ?_ ?_ ?_
     · rintro i ys σ H1 hi ⟨_, _, wps, rfl, e, _⟩
       rw [List.length_map,e,sizeLine_eq];omega
     · rintro i ys σ H1 hi ⟨⟨v, rfl⟩, s1, wps, rfl, hl, hw⟩
       walk_at "rk"
       refine ⟨c,d,i,prs,rs,ls,by rw [Int.zero_add],s1 _ _ hc,hrs.same s1,ay,s1 _ _ hd,hls.1,hi,fun p H2 s2 np hp=>?_⟩
       refine ⟨⟨_,rfl⟩,s1.trans s2,wps ++ [p],by rw [List.map_append];rfl,by rw [List.length_append,hl];rfl,fun j p' e=>?_⟩
       by_cases hj:j < i
       · rw [List.getElem?_append_left (by omega)] at e
         exact s2 _ _ (hw j p' e)
       · rw [List.getElem?_append_right (by omega)] at e
         cases hjj:j - wps.length with
         | zero =>
           rw [hjj] at e
           have:p = p':=by simpa using e
           subst this
           rw [show j = i by omega];exact hp
         | succ m=>rw [hjj] at e;simp at e
     rintro ys σ H1 ⟨_,s1,wps,rfl,hl,hw⟩ ly nly
     have s2:=s1.trans (aq (o:=.lst (wps.map V.ref)) nly)
     have hwy:nh (upd H1 ly (.lst (wps.map V.ref))) ly rs ls:=⟨wps,ah,hl,fun i p e=>aC (hw i p e) nly⟩
     generalize (upd H1 ly (.lst (wps.map V.ref))) = H2 at s2 hwy ⊢
     clear s1 nly hl hw
     obtain ⟨qs',hst,hst2⟩:=T.ki
     walk_at "rk"
     refine ⟨c,ly,prs,rs,ls,rfl,s2 _ _ hc,hrs.same s2,ay,hpos,h2000,hls,hwy,fun hb H' s'=>qe ⟨hpos,hb⟩ _ (s2.trans s'),fun lh hs H3 s3 nlh hlh hO=>?_⟩
     have s23:=s2.trans s3
     have hwy3:=hwy.same s3
     clear s2 hwy s3 nlh
     walk_at "rk"
     refine ⟨a.d7,⟨0,128,16,32,64⟩,rfl,⟨qs',hst _,hst2 _⟩,fun tt ntt=>?_⟩
     have s4:=s23.trans (aq (o:=.tup (List.map V.int (Ent.mk 0 128 16 32 64).eM)) ntt)
     have hlh4:=aC (o:=.tup (List.map V.int (Ent.mk 0 128 16 32 64).eM)) hlh ntt
     have hwy4:=hwy3.same (aq (o:=.tup (List.map V.int (Ent.mk 0 128 16 32 64).eM)) ntt)
     have htt:(upd H3 tt (.tup (List.map V.int (Ent.mk 0 128 16 32 64).eM))) tt = some (.tup (firstsD.map fun f:Nat=>V.int (f:Int))):=ah
     generalize (upd H3 tt (.tup (List.map V.int (Ent.mk 0 128 16 32 64).eM))) = H4 at s4 hlh4 hwy4 htt ⊢
     clear ntt s23
     walk_at "rk"
     refine vk (xs:=firstsD.map fun f:Nat=>V.int (f:Int)) (fun i ys σ H5=>(∃ v,σ = [v,some (.ref c),some (.ref ly),some (.ref lh)])∧ar H4 H5∧∃ ps:List Addr,ys = ps.map V.ref∧ps.length = i∧∀ (j:Nat) (p:Addr) (f:Nat),ps[j]? = some p→firstsD[j]? = some f→∃ ss,H5 p = some (.lst (ss.map b8))∧kO rs ls hs f ss) ⟨⟨_,rfl⟩,ar.refl _,[],rfl,rfl,fun j p f e=>by simp at e⟩ ?_ ?_ ?_
     · rintro i ys σ H5 hi ⟨_, s5, ps, rfl, e, _⟩
       refine ⟨aW.of (s5 _ _ htt),?_⟩
       have:i ≤ 4:=hi
       rw [List.length_map,e,sizeLine_eq];omega
     · rintro i x ys σ H5 hx ⟨⟨v, rfl⟩, s5, ps, rfl, hl, hps⟩
       rw [List.getElem?_map] at hx
       obtain ⟨f,hf,rfl⟩:=Option.map_eq_some_iff.mp hx
       have hfb : f < 2 ^ 4100 := by
         have hm:=List.mem_of_getElem? hf
         have : f ≤ 128 := by
           simp only [firstsD,List.mem_cons,List.not_mem_nil,or_false] at hm
           omega
         exact Nat.lt_of_le_of_lt this (by decide)
       have s45:=s4.trans s5
       walk_at "rk"
       refine ⟨c,ly,lh,prs,rs,ls,hs,f,rfl,s45 _ _ hc,hrs.same s45,ay,hpos,h2000,hls,hwy4.same s5,s5 _ _ hlh4,hO,hfb,fun p ss H6 s6 np hp hP=>?_⟩
       refine ⟨⟨_,rfl⟩,s5.trans s6,ps ++ [p],by rw [List.map_append];rfl,by rw [List.length_append,hl];rfl,fun j p' f' e ef=>?_⟩
       by_cases hj:j < i
       · rw [List.getElem?_append_left (by omega)] at e
         obtain ⟨ss',e1,e2⟩:=hps j p' f' e ef
         exact ⟨ss',s6 _ _ e1,e2⟩
       · rw [List.getElem?_append_right (by omega)] at e
         cases hjj:j - ps.length with
         | zero =>
           rw [hjj] at e
           have:p = p':=by simpa using e
           subst this
           obtain rfl:j = i:=by omega
           rw [hf] at ef;cases ef
           exact ⟨ss,hp,hP⟩
         | succ m=>rw [hjj] at e;simp at e
     rintro ys σ H5 ⟨_,s5,ps,rfl,hl,hps⟩ lf nlf
     obtain ⟨p0, p4, p5, p6, rfl⟩ : ∃ p0 p4 p5 p6, ps = [p0, p4, p5, p6] := by
       match ps,hl with
       | [p0,p4,p5,p6],_=>exact ⟨_,_,_,_,rfl⟩
     obtain ⟨sb,hb,Pb⟩:=hps 0 p0 128 rfl rfl
     obtain ⟨s4',h4,P4⟩:=hps 1 p4 16 rfl rfl
     obtain ⟨s5',h5,P5⟩:=hps 2 p5 32 rfl rfl
     obtain ⟨s6',h6,P6⟩:=hps 3 p6 64 rfl rfl
     have sn:=aq (o:=.lst ([p0,p4,p5,p6].map V.ref)) nlf
     have hlf:(upd H5 lf (.lst ([p0,p4,p5,p6].map V.ref))) lf = some (.lst [V.ref p0,.ref p4,.ref p5,.ref p6]):=ah
     have s6:=(s4.trans s5).trans sn
     have hlh6:=sn _ _ (s5 _ _ hlh4)
     have hb6:=sn _ _ hb
     have h46:=sn _ _ h4
     have h56:=sn _ _ h5
     have h66:=sn _ _ h6
     generalize (upd H5 lf (.lst ([p0,p4,p5,p6].map V.ref))) = H6 at s6 hlf hlh6 hb6 h46 h56 h66 ⊢
     clear hps sn hb h4 h5 h6 nlf s5 s4 hlh4 hwy4 htt hwy3 hlh
     walk_at "rk"
     refine Hl ?_
     walk_at "rk"
     rename_i le nle
     have hle:∀ {b:Addr} {o:HO},H6 b = some o→b ≠ le:=fun e z=>by subst z;rw [nle] at e;cases e
     have sn:=aq (o:=.lst []) nle
     refine ⟨lh,p0,p4,p5,p6,_,_,_,_,_,rfl,az.of (sn _ _ hlh6),az.of (sn _ _ hb6),az.of (sn _ _ h46),az.of (sn _ _ h56),az.of (sn _ _ h66),?_⟩
     have nleH:H le = none:=aU s6 nle
     have hlen:=hO.len
     refine A3 (by rw [List.length_map, List.length_map, Pb.pi.len, hlen]) (by rw [List.length_map, List.length_map, P4.pi.len, hlen]) (by rw [List.length_map, List.length_map, P5.pi.len, hlen]) (by rw [List.length_map, List.length_map, P6.pi.len, hlen])
       (fun i σ HD=>ar H6 HD∧∃ (ev:List V) (u1 u2 u3 u4 u5:Option V),σ = [some (.ref c),some (.ref d),some (.ref ly),some (.ref lh),some (.ref lf),some (.ref le),u1,u2,u3,u4,u5]∧HD le = some (.lst ev)∧lC HD ev ((List.range i).map (d_ hs sb s4' s5' s6')))
       ⟨sn,[],_,_,_,_,_,rfl,ah,lC.nil⟩ (fun i σ HD hi ⟨s,_⟩=>⟨az.of (s _ _ hlh6),az.of (s _ _ hb6),az.of (s _ _ h46),az.of (s _ _ h56),az.of (s _ _ h66)⟩) ?_ ?_
     · rintro i x1 x2 x3 x4 x5 tn σ HD e1 e2 e3 e4 e5 ⟨s, ev, u1, u2, u3, u4, u5, rfl, hev, hE⟩ nT
       rw [List.getElem?_map] at e1 e2 e3 e4 e5
       obtain ⟨oh,f1,rfl⟩:=Option.map_eq_some_iff.mp e1
       obtain ⟨ob,f2,rfl⟩:=Option.map_eq_some_iff.mp e2
       obtain ⟨o4,f3,rfl⟩:=Option.map_eq_some_iff.mp e3
       obtain ⟨o5,f4,rfl⟩:=Option.map_eq_some_iff.mp e4
       obtain ⟨o6,f5,rfl⟩:=Option.map_eq_some_iff.mp e5
       clear e1 e2 e3 e4 e5
       have hi:i < hs.length:=(List.getElem?_eq_some_iff.mp f1).1
       have hz : ev.length < sizeLine := by
         rw [hE.1,List.length_map,List.length_range,sizeLine_eq];omega
       have hr : (List.range (i + 1)).map (d_ hs sb s4' s5' s6') = (List.range i).map (d_ hs sb s4' s5' s6') ++ [d_ hs sb s4' s5' s6' i] := by
         rw [List.range_succ,List.map_append];rfl
       have hnT:tn ≠ le:=fun z=>by subst z;rw [hev] at nT;cases nT
       have hevT:(upd HD tn (.tup [bW oh,b8 ob,b8 o4,b8 o5,b8 o6])) le = some (.lst ev):=aC hev nT
       have sT:=s.trans (aq (o:=.tup [bW oh,b8 ob,b8 o4,b8 o5,b8 o6]) nT)
       have hET:=hE.to (H':=upd HD tn (.tup [bW oh,b8 ob,b8 o4,b8 o5,b8 o6])) (fun b xs e=>aC e nT)
       cases oh with
       | none =>
         have hen:d_ hs sb s4' s5' s6' i = none:=by unfold d_;rw [f1];rfl
         simp only [bW] at hevT sT hET ⊢
         walk_at "rk"
         refine ie hevT hz ?_
         refine ⟨fz sT nle,ev ++ [.aH],_,_,_,_,_,rfl,ah,?_⟩
         rw [hr,hen]
         exact (hET.to (m8 hevT)).snoc rfl
       | some h =>
         obtain ⟨b,g2⟩:=sV hO Pb f1
         obtain ⟨b4,g3⟩:=sV hO P4 f1
         obtain ⟨b5,g4⟩:=sV hO P5 f1
         obtain ⟨b6,g5⟩:=sV hO P6 f1
         rw [f2] at g2;rw [f3] at g3;rw [f4] at g4;rw [f5] at g5
         cases g2;cases g3;cases g4;cases g5
         have hen : d_ hs sb s4' s5' s6' i = some ⟨h, b, b4, b5, b6⟩ := by
           unfold d_ gN;rw [f1,f2,f3,f4,f5];rfl
         simp only [bW,b8] at hevT sT hET ⊢
         walk_at "rk"
         rename_i tq ntq tp ntp
         have k1:=aC (o:=.tup [V.int (b4:Int),V.int (b5:Int),V.int (b6:Int)]) hevT ntq
         have k2:=aC (o:=.tup [V.int h,V.int (b:Int),.ref tq]) k1 ntp
         have s1:=sT.trans ((aq (o:=.tup [V.int (b4:Int),V.int (b5:Int),V.int (b6:Int)]) ntq).trans (aq (o:=.tup [V.int h,V.int (b:Int),.ref tq]) ntp))
         refine ie k2 hz ?_
         refine ⟨fz s1 nle,ev ++ [.ref tp],_,_,_,_,_,rfl,ah,?_⟩
         rw [hr,hen]
         refine ((hET.to (fun b xs e=>aC (aC e ntq) ntp)).to (m8 k2)).snoc ⟨tp,tq,rfl,m8 k2 _ _ ah,m8 k2 _ _ (aC ah ntp)⟩
     · rintro σ HD ⟨s, ev, u1, u2, u3, u4, u5, rfl, hev, hE⟩
       walk_at "rk"
       refine q le ev _ HD (s6.trans s) nleH hev hE.ents ⟨?_,fun _=>⟨hs,sb,s4',s5',s6',⟨hO,Pb,P4,P5,P6⟩,fun i hi=>?_⟩⟩
       · rw [List.length_map,List.length_range,List.length_map,hlen]
       · rw [List.getElem?_map,List.getElem?_range (by rw [List.length_map,hlen];exact hi)];rfl
theorem w9 (T : Txt K mg a) : cV P w K mg base ba 4 "_law_row" (wd a) := by
 refine bT (sp:=(wd a)) 3 T.o9 kD (fun vs H Q E h=>?_) (fun f cdv A outer s H vs Q E hr h=>?_)
 · obtain ⟨c, m, rfl, _⟩ := h
   rfl
 · obtain ⟨c, m, rfl, m0, m10, q⟩ := h
   refine ⟨_, (ai (aS (i := 2) kD.nd rfl (Or.inl rfl) (aQ de (pv 0) ak))
     (ai (aS (i:=3) kD.nd rfl (Or.inl rfl) (aQ de (aQ fJ (pv 0) ak) (aQ (bD (K:=K) rfl) (pv 1) (aM (aV (K:=K) rfl) (bH (aa ak (aa ak (aa ak (aa ak af))))) (aQ de (aQ fJ (pv 0) ak) ak) (fun _ _=>rfl)))))
     (ai (aX (aE iF (pv 2) ak (aG _)) (ag (aw (eI (km (K:=K) T) (hr.mono (by decide)) aO rfl (aa (aQ de (pv 3) ak) (aa (pv 2) af))))) aI)
     (ai (aX (aE (dG (K:=K) rfl hr.units) (pv 2) ak (aG _)) (ag (aw (eI (kj (K:=K) T) (hr.mono (by decide)) aO rfl (aa (pv 3) af)))) aI)
     (ai (aX (aE iF (pv 2) ak (aG _)) (ag (aw (eI (iK (K:=K) T) (hr.mono (by decide)) aO rfl (aa (pv 2) (aa (pv 3) af))))) aI)
     (ai (aX (aE (dG (K:=K) rfl hr.units) (pv 2) ak (aG _)) (ag (aw (eI (ko (K:=K) T) (hr.mono (by decide)) aO rfl (aa (pv 3) af)))) aI)
     (ai (aX (aE (dG (K:=K) rfl hr.units) (pv 2) ak (aG _)) (ag (aw (eI (j7 (K:=K) T) (hr.mono (by decide)) aO rfl (aa (fq l6 rfl T.jI w_ (aa (fm (dG (K:=K) rfl hr.units) (aQ de (aQ fJ (pv 0) ak) ak) ak (aG _)) af)) af)))) aI)
     (ai (aX (aE (dG (K:=K) rfl hr.units) (pv 2) ak (aG _)) (ag (aw (eI (j9 (K:=K) T) (hr.mono (by decide)) aO rfl (aa (aQ de (pv 3) ak) af)))) aI)
     (ag (aw (eI (i8 (K:=K) T) (hr.mono (by decide)) aO rfl (aa ak af)))))))))))),?_⟩
   refine a_ (σ':=[some _,some _,none,none]) rfl ?_
   walk_at "rd"
   rename_i l0 nl0
   obtain ⟨x, x0, x2, hat⟩ : ∃ x : Int, 0 ≤ x ∧ x ≤ 2 ∧ cD [V.int 0, V.int 0, V.int 0, V.int 2] (c / 7 % 4) = some (.int x) := by
     rcases (show c / 7 % 4 = 0∨c / 7 % 4 = 1∨c / 7 % 4 = 2∨c / 7 % 4 = 3 by omega) with h | h | h | h
     · rw [h];exact ⟨0,by decide,by decide,rfl⟩
     · rw [h];exact ⟨0,by decide,by decide,rfl⟩
     · rw [h];exact ⟨0,by decide,by decide,rfl⟩
     · rw [h];exact ⟨2,by decide,by decide,rfl⟩
   refine pf (az.of ah) hat ?_
   have sn:=aq (o:=.lst [V.int 0,V.int 0,V.int 0,V.int 2]) nl0
   generalize (upd H l0 (.lst [V.int 0,V.int 0,V.int 0,V.int 2])) = H1 at sn ⊢
   clear nl0
   have hmx:m + x ≠ 0:=by omega
   have t0:=Int.emod_nonneg (c / 10) hmx
   have t1:=Int.emod_lt_of_pos (c / 10) (show 0 < m + x by omega)
   walk_at "rd"
   generalize c / 10 % (m + x) = t at t0 t1 ⊢
   have k0 : 0 ≤ c % 10:=by omega
   have k9:c % 10 < 10:=by omega
   refine eY (fun hh=>?_) (fun hh=>?_)
   · walk_at "rd"
     exact uI (a:=a) ⟨⟨by omega,by omega⟩,by omega,by omega⟩ rfl (fun p H' s np z=>q p _ H' (sn.trans s) (aU sn np) z ⟨⟨by omega,by omega⟩,by omega,by omega⟩ True.intro)
   walk_at "rd"
   refine iI (fun hh2=>?_) (fun hh2=>?_)
   · walk_at "rd"
     exact ka (a:=a) ⟨by omega,by omega⟩ rfl (fun p H' s np z=>q p _ H' (sn.trans s) (aU sn np) z ⟨by omega,by omega⟩ True.intro)
   walk_at "rd"
   refine eY (fun hh3=>?_) (fun hh3=>?_)
   · walk_at "rd"
     exact uI (a:=a) ⟨⟨by omega,by omega⟩,by omega,by omega⟩ rfl (fun p H' s np z=>q p _ H' (sn.trans s) (aU sn np) z ⟨⟨by omega,by omega⟩,by omega,by omega⟩ True.intro)
   walk_at "rd"
   refine iI (fun hh4=>?_) (fun hh4=>?_)
   · walk_at "rd"
     exact ka (a:=a) ⟨by omega,by omega⟩ rfl (fun p H' s np z=>q p _ H' (sn.trans s) (aU sn np) z ⟨by omega,by omega⟩ True.intro)
   walk_at "rd"
   refine iI (fun hh5=>?_) (fun hh5=>?_)
   · walk_at "rd"
     refine .inr ⟨_,rfl,?_⟩
     obtain ⟨g, g0, g1, hg⟩ : ∃ g : Int, 0 ≤ g ∧ g ≤ 1 ∧ (if decide (V.int (c / 100 % 5) = V.int 0) = true then (1 : Int) else 0) = g := by
       split
       · exact ⟨1,by decide,by decide,rfl⟩
       · exact ⟨0,by decide,by decide,rfl⟩
     rw [hg]
     walk_at "rd"
     exact ka (a:=a) ⟨by omega,by omega⟩ rfl (fun p H' s np z=>q p _ H' (sn.trans s) (aU sn np) z ⟨by omega,by omega⟩ True.intro)
   walk_at "rd"
   refine iI (fun hh6=>?_) (fun hh6=>?_)
   · walk_at "rd"
     exact ka (a:=a) ⟨by omega,by omega⟩ rfl (fun p H' s np z=>q p _ H' (sn.trans s) (aU sn np) z ⟨by omega,by omega⟩ True.intro)
   walk_at "rd"
   exact ka (a:=a) ⟨by decide,by decide⟩ rfl (fun p H' s np z=>q p _ H' (sn.trans s) (aU sn np) z ⟨by decide,by decide⟩ True.intro)
theorem b9.to {H H':Hp} {vs:List V} {cs:List Cm} (h:b9 H vs cs) (s:∀ b xs,H b = some (.tup xs)→H' b = some (.tup xs)):b9 H' vs cs:=⟨h.1,fun k o e=>let ⟨v,e1,q,e2,e3⟩:=h.2 k o e;⟨v,e1,q,e2,s _ _ e3⟩⟩
theorem Gc {D PP:Addr→Hp→Prop} {G:Prop} (key:∀ lf H3,D lf H3→PP lf H3) (use:(∀ lf H3,D lf H3→PP lf H3)→G):G:=use key
theorem vt {HX:Hp} {R:Hp→Prop} {b:Addr} {xs:List V} {H:Hp} {cs:List Cm} (h:ar H HX) (hb:HX b = some (.lst xs)) (hc:b9 HX xs cs) (k:∀ H9,ar H H9→H9 b = some (.lst xs)→b9 H9 xs cs→R H9):R HX:=k HX h hb hc
theorem qE {H : Hp} {l : Addr} {ys : List V} {o : HO} (h : H l = some (.lst ys)) (b : Addr) (xs : List V) (e : H b = some (.tup xs)) : (upd H l o) b = some (.tup xs) := by
 rw [ao (fun z=>by subst z;rw [h] at e;cases e)];exact e
theorem xy (T : Txt K mg a) : cV P w K mg base ba 5 "checked" (wq K a) := by
 refine bT (sp:=(wq K a)) 4 T.pG fv (fun vs H Q E h=>?_) (fun f cdv A outer s H vs Q E hr h=>?_)
 · obtain ⟨c, t, prs, rs, ev, es, ls, rfl, _⟩ := h
   rfl
 · obtain ⟨c, t, prs, rs, ev, es, ls, rfl, hc, hrs, ⟨dt, l, d, ht, hl, hd⟩, hev, E', hnd, h64, q⟩ := h
   have hpl:=hrs.1
   have hel:=hev.1
   have en:=E'.ne
   have rn:=E'.nr
   unfold vv at ht
   refine ⟨_, (ai (aS (i := 2) fv.nd rfl (Or.inl rfl) (bo (K := K) rfl (pv 1)))
     (ai (aX (aE (fG (K:=K) rfl hr.units) (aT (bC (K:=K) rfl) rfl T.cu dg (aa (pv 2) af)) (aT (bC (K:=K) rfl) rfl T.cu dg (aa (pv 0) af)) (aG _)) (ag (aw (bH (aa (cn (aa (pP tK ak) (aa (pP tK ak) (aa cm af)))) af)))) aI)
     (ai (aS (i:=3) fv.nd rfl (Or.inl rfl) (bH af))
     (ai (aX (PW.pt (mW (aE lj (aT (bC (K:=K) rfl) rfl T.cu dg (aa (pv 0) af)) ak (aG _)) (kf (aE (fG (K:=K) rfl hr.units) (aM (aV (K:=K) rfl) (pv 2) ak (fun _ _=>rfl)) (bg (v:=.ref a.d7) rfl T.i9 rfl) (aG _))))) (ag (cB (g_ (K:=K) rfl PySem.F.plainAttrs_list PySem.F.slot_list_append PySem.F.type_list_append ft (pv 3) (aa (cn (aa (pP tK ak) (aa ak (aa cm af)))) af)))) aI)
     (ai (fc PassesOwn.never rfl (gP rfl T.fj (aa (aT (bC (K:=K) rfl) rfl T.cu dg (aa (pv 0) af)) af)) (bb (i:=4) fv.nd rfl (Or.inl rfl)) (ag (cB (g_ (K:=K) rfl PySem.F.plainAttrs_list PySem.F.slot_list_extend PySem.F.type_list_extend zq (pv 3) (aa (aF (nG (K:=K) T) (hr.mono (by decide)) aO rfl (aa (pv 0) (aa (pv 2) (aa (pv 4) af)))) af)))))
     (ai (fc PassesOwn.never rfl (cC (K:=K) rfl (aT (tu rfl) rfl T.iB Bd (aa (bo (K:=K) rfl (pv 1)) af))) (bb (i:=4) fv.nd rfl (Or.inl rfl)) (ai (aS (i:=5) fv.nd rfl (Or.inl rfl) (qy (ll hr) (bo (K:=K) rfl (pv 1)) (pv 4) (fun _ _=>rfl)))
     (ai (aS (i:=6) fv.nd rfl (Or.inl rfl) (aF (kY (K:=K) T) (hr.mono (by decide)) aO rfl (aa (pv 0) (aa (pv 2) (aa (pv 4) (aa (pv 5) af))))))
     (ag (aX (aE jD (pv 6) bz (aG _)) (ag (cB (g_ (K:=K) rfl PySem.F.plainAttrs_list PySem.F.slot_list_append PySem.F.type_list_append ft (pv 3) (aa (cn (aa (pv 4) (aa (pv 5) (aa (pv 6) af)))) af)))) aI)))))
     (ag (aw (pv 3))))))))),?_⟩
   refine a_ (σ':=[some _,some _,none,none,none,none,none]) rfl ?_
   walk_at "rd"
   rw [show (List.map V.ref prs).length = rs.length from by rw [List.length_map,hpl]]
   refine jq (fun hh=>?_) (fun hh=>?_)
   · walk_at "rd"
     rename_i t1 nt1 l1 nl1
     have hck:cq rs es ls [] = [⟨-1,-1,.length⟩]:=by unfold cq;rw [if_neg (by omega)]
     exact q l1 [.ref t1] [] _ (by walk_at "same") ah (fun z=>absurd z (by omega)) (by rw [hck];exact b9.one ⟨t1,rfl,by walk_at "hlk"⟩)
   have hre:es.length = rs.length:=by omega
   have hck:∀ ks,cq rs es ls ks = cO rs es ++ fX rs es rs.length ++ jc rs es ls ks:=fun ks=>by unfold cq;rw [if_pos hre]
   refine' Gc (D:=fun lcm H1=>∃ us,H lcm = none∧ar H H1∧H1 lcm = some (.lst us)∧b9 H1 us (cO rs es)) (PP:=?PP) ?key (fun kk=>?use)
   case use =>
     walk_at "rd"
     rename_i lcm nlc
     refine eY (fun h1=>?_) (fun h1=>?_)
     · have h1' : 0 < rs.length := by rw [List.length_map] at h1; omega
       obtain ⟨v,oe,hat,hoe,hmem,hv⟩:=hev.at (c:=0) (Int.le_refl _) (by omega)
       obtain ⟨qs,st1,st2⟩:=T.ki
       walk_at "rd"
       refine xV oe fo (hv.same (aq nlc)).dp (iu (st1 _) (st2 _)) ?_
       have hoe:es[0]? = some oe:=hoe
       have hst:cO rs es = if gW oe fo = true then [] else [⟨-1,0,.start⟩]:=by unfold cO;rw [if_pos h1',hoe];rfl
       cases hb:gW oe fo with
       | true =>
         rw [hb,if_pos rfl] at hst
         walk_at "rk"
         refine cx (az.of (by walk_at "hlk")) ?_
         clear h1 h1' hat hoe
         walk_at "rd"
         refine vt (H:=H) (b:=lcm) (cs:=cO rs es) (by walk_at "same") ah (by rw [hst];exact b9.nil) (fun H9 s9 hb9 hc9=>?_)
         exact kk lcm H9 ⟨_,nlc,s9,hb9,hc9⟩
       | false =>
         rw [hb,if_neg (by decide)] at hst
         walk_at "rk"
         rename_i t1 nt1
         refine cx (az.of (by walk_at "hlk")) ?_
         clear h1 h1' hat hoe
         walk_at "rd"
         refine vt (H:=H) (b:=lcm) (cs:=cO rs es) (by walk_at "same") ah ?_ (fun H9 s9 hb9 hc9=>?_)
         · rw [hst]
           exact (b9.one ⟨t1,rfl,ah⟩).to (qE (by walk_at "hlk"))
         · exact kk lcm H9 ⟨_,nlc,s9,hb9,hc9⟩
     · have hst : cO rs es = [] := by unfold cO; rw [if_neg (by rw [List.length_map] at h1; omega)]
       walk_at "rd"
       refine vt (H:=H) (b:=lcm) (cs:=cO rs es) (by walk_at "same") ah (by rw [hst];exact b9.nil) (fun H9 s9 hb9 hc9=>?_)
       exact kk lcm H9 ⟨_,nlc,s9,hb9,hc9⟩
   case key =>
     rintro lcm H1 ⟨us,nlc,s1,hlc,hcm⟩
     have sf:=x8 rs es
     refine mP (fun i σ H2=>(∃ u1 u2 u3,σ = [some (.ref c),some (.ref t),some (.ref l),some (.ref lcm),u1,u2,u3])∧ar H H2∧∃ us,H2 lcm = some (.lst us)∧b9 H2 us (cO rs es ++ fX rs es i)) ⟨⟨_,_,_,rfl⟩,s1,us,hlc,by rw [show fX rs es 0 = [] from rfl,List.append_nil];exact hcm⟩ ?_ ?_
     · rintro i σ H2 hi ⟨⟨u1, u2, u3, rfl⟩, s2, us2, hlc2, hcm2⟩
       rw [List.length_map] at hi
       clear s1 hlc hcm
       walk_at "rd"
       refine ⟨c,l,i,prs,rs,ev,es,by rw [Int.zero_add],s2 _ _ hc,hrs.same s2,s2 _ _ hl,hev.same s2,E',by omega,hre.symm,fun p1 us1 H3 s3 hp1 hcm3 np1=>?_⟩
       have hlc3:=s3 _ _ hlc2
       have hcl2:=hcm2.1
       have hcl3:=hcm3.1
       have f1:=kS rs es i
       have f2:=rY rs es i
       rw [List.length_append] at hcl2
       walk_at "rd"
       refine BW hlc3 hp1 (by rw [sizeLine_eq];omega) ?_
       refine ⟨⟨_,_,_,rfl⟩,fun b o e=>by rw [ao (av e nlc)];exact (s2.trans s3) b o e,_,ah,?_⟩
       rw [nR,← List.append_assoc]
       exact ((hcm2.same s3).app hcm3).to (qE hlc3)
     rintro σ H2 ⟨⟨u1,u2,u3,rfl⟩,s2,us2,hlc2,hcm2⟩
     rw [show (((List.map V.ref prs).length:Nat):Int).toNat = rs.length from by rw [List.length_map,hpl];omega] at hcm2
     clear s1 hlc hcm
     have ht2:=s2 _ _ ht
     have hd2:=s2 _ _ hd
     have f1:=kS rs es rs.length
     walk_at "rd"
     refine FZ hd2 (zK ls) (by rw [List.length_map];exact h64) fun ks pp hperm hpw hpp=>?_
     have hkl:ks.length < 64:=by rw [hperm.length_eq,List.length_map];exact h64
     walk_at "rd"
     refine fB (K:=K) (a:=pp) (xs:=ks.map V.int) (fun i σ H4=>(∃ u1 u2 u3,σ = [some (.ref c),some (.ref t),some (.ref l),some (.ref lcm),u1,u2,u3])∧ar H H4∧H4 pp = some (.lst (ks.map V.int))∧∃ us,H4 lcm = some (.lst us)∧us.length ≤ 21000 + i∧b9 H4 us (cO rs es ++ fX rs es rs.length ++ jc rs es ls (ks.take i))) ⟨⟨_,_,_,rfl⟩,s2.trans (aq hpp),ah,us2,aC hlc2 hpp,by rw [hcm2.1,List.length_append];omega,by rw [List.take_zero,show jc rs es ls [] = [] from rfl,List.append_nil];exact hcm2.same (aq hpp)⟩ (fun i σ H4 _ ⟨_,_,h4,_⟩=>az.of h4) ?_ ?_
     · rintro i v σ H4 hvi ⟨⟨u1, u2, u3, rfl⟩, s4, hpp4, us4, hlc4, hul4, hcm4⟩
       obtain ⟨k, hk, rfl⟩ : ∃ n, ks[i]? = some n ∧ v = .int n := by
         rw [List.getElem?_map] at hvi
         obtain ⟨p,hp,e⟩:=Option.map_eq_some_iff.mp hvi
         exact ⟨p,hp,e.symm⟩
       have hi:i < ks.length:=(List.getElem?_eq_some_iff.mp hk).1
       obtain ⟨kv,hkv,hke⟩:=List.mem_map.mp (hperm.mem_iff.mp (List.mem_of_getElem? hk))
       obtain ⟨hv1,hv2⟩:=iw hnd kv hkv
       rw [hke] at hv1 hv2
       rw [← hv2] at hv1
       have ht4:=s4 _ _ ht
       have hd4:=s4 _ _ hd
       have hnp:pp ≠ lcm:=fun z=>by rw [z] at hpp;rw [hlc2] at hpp;cases hpp
       clear ht2 hd2 hlc2 hcm2 s2
       have htk : jc rs es ls (ks.take (i + 1)) = jc rs es ls (ks.take i) ++ ((jJ rs es k (lv ls k)).map fun w => Cm.mk k (lv ls k) w).toList := by
         unfold jc
         rw [List.take_add_one,hk,Option.toList_some,List.flatMap_append];simp
       rw [htk]
       walk_at "rd"
       refine tR ?_
       walk_at "rd"
       refine F0 hd4 hv1 ?_
       walk_at "rd"
       refine ⟨c,l,k,lv ls k,prs,rs,ev,es,rfl,s4 _ _ hc,hrs.same s4,s4 _ _ hl,hev.same s4,E',hre.symm,fun H5 s5=>?_⟩
       have hlc5:=s5 _ _ hlc4
       have hcm5:=hcm4.same s5
       have s05:=s4.trans s5
       have hpp5:=s5 _ _ hpp4
       cases hw:jJ rs es k (lv ls k) with
       | none =>
         show dW 6 V.aH _ _ _
         walk_at "rd"
         exact ⟨⟨_,_,_,rfl⟩,s05,hpp5,us4,hlc5,by omega,by show b9 _ _ (_ ++ (_ ++ []));rw [List.append_nil];exact hcm5⟩
       | some w =>
         show dW 6 w.v _ _ _
         walk_at "rd"
         rename_i t1 nt1
         refine ⟨⟨_,_,_,rfl⟩,fun b o e=>by rw [ao (av e nlc)];exact (s05.trans (aq nt1)) b o e,by rw [ao hnp];exact aC hpp5 nt1,_,ah,by rw [List.length_append];show _ + 1 ≤ _;omega,?_⟩
         rw [← List.append_assoc]
         exact ((hcm5.same (aq nt1)).app (b9.one (c:=⟨k,lv ls k,w⟩) ⟨t1,rfl,ah⟩)).to (qE (aC hlc5 nt1))
     · rintro σ H4 ⟨⟨u1, u2, u3, rfl⟩, s4, hpp4, us4, hlc4, hul4, hcm4⟩
       rw [List.length_map,List.take_length] at hcm4
       walk_at "rd"
       exact q lcm us4 ks H4 s4 hlc4 (fun _=>⟨hperm,hpw⟩) (by rw [hck];exact hcm4)
theorem rP (T : Txt K mg a) : cV P w K mg base (e_ P w) 6 "guess" (kq K a) ∧ C4 P w K mg base (e_ P w) 6 "guess" (kq K a) := by
 refine Gp (sp:=(kq K a)) 5 T.uD oz (fun vs H Q E h=>?_) (fun f cdv A outer s H vs Q E hr h=>?_)
 · obtain ⟨c, lvv, prs, rs, ls, rfl, _⟩ := h
   rfl
 · obtain ⟨c, lvv, prs, rs, ls, rfl, hc, hrs, ay, h2000, hls, hlv, qe, q⟩ := h
   refine ⟨_, (ai (PS.cw (aS (i := 2) oz.nd rfl (Or.inl rfl) (jA (aE cU (pv 1) bz (aG _)) jy (pv 1))))
     (ai (aS (i:=3) oz.nd rfl (Or.inl rfl) (eI (jC (K:=K) T) (hr.mono (by decide)) aO rfl (aa (aF (sO (K:=K) T) (hr.mono (by decide)) kn rfl (aa (pv 0) (aa (pv 2) af))) (aa (pv 2) af))))
     (ai (aX (PT.cw (aE lj (aT (bC (K:=K) rfl) rfl T.cu dg (aa (aF (xy (K:=K) T) (hr.mono (by decide)) aO rfl (aa (pv 0) (aa (pv 3) af))) af)) ak (aG _))) (ag (kK T.gK rfl (aa cm af))) aI)
     (ag (PS.cw (aw (pv 3))))))),?_⟩
   refine a_ (σ':=[some _,some _,none,none]) rfl ?_
   rcases hlv with ⟨rfl,rfl⟩ | ⟨d,rfl,hd⟩
   · walk_at "rk"
     rename_i d nd
     have s1:=aq (o:=.dK []) nd
     have hd1:(upd H d (.dK [])) d = some (.dK (aR [])):=ah
     generalize (upd H d (.dK [])) = H1 at s1 hd1 ⊢
     have hc1:=s1 _ _ hc
     have hrs1:=hrs.same s1
     walk_at "rk"
     refine ⟨c,d,prs,rs,([]:List (Int×Int)),rfl,hc1,hrs1,ay,h2000,hls,hd1,fun hb H' s'=>qe (.inl hb) _ (s1.trans s'),fun le ev es H2 s2 nle hle hev G=>?_⟩
     have s12:=s1.trans s2
     have hd2:=s2 _ _ hd1
     clear nle
     walk_at "rk"
     intro xt dxt nxt ndxt nne
     refine' Cv (kvs:=aR ([]:List (Int×Int))) (xs:=ev) nxt ndxt ?h1 ?h2 ?q
     (case h1=>exact az.of hle)
     (case h2=>exact .inr ⟨d,rfl,hd2⟩)
     (case q =>
       intro l8 d8 H8 s8 nl8 nd8 n12 nxl nxd hxt hl8 hd8
       refine ⟨rfl,?_⟩
       have s18:=s12.trans s8
       have nxtH:H xt = none:=aU s12 nxt
       have hev8:=hev.same s8
       have nl8H:H l8 = none:=aU s12 nl8
       have nd8H:H d8 = none:=aU s12 nd8
       have htab:TabOf K a H8 xt ev ([]:List (Int×Int)):=⟨dxt,l8,d8,hxt,hl8,hd8⟩
       clear s8 nl8 nd8 n12 nxl nxd nxt ndxt nne
       walk_at "rk"
       refine ⟨c,xt,prs,rs,ev,es,([]:List (Int×Int)),rfl,s18 _ _ hc,hrs.same s18,htab,hev8,⟨ay,CF G,h2000,by rw [G.len];exact h2000⟩,hls.1,hls.2.1,fun p us ks H9 s9 hp hks hcm=>?_⟩
       have hks':=(hks G.len).1
       walk_at "rk"
       refine cx (az.of hp) ?_
       rw [hcm.1]
       have s19:=s18.trans s9
       by_cases hz:cq rs es ([]:List (Int×Int)) ks = []
       · rw [hz]
         walk_at "rk"
         exact q xt ev es ks H9 s19 nxtH ⟨dxt,l8,d8,nl8H,nd8H,s9 _ _ hxt,s9 _ _ hl8,s9 _ _ hd8⟩ (hev8.same s9) G hks' hz
       · have : 0 < (cq rs es ([] : List (Int × Int)) ks).length := List.length_pos_iff.mpr hz
         walk_at "rk"
         refine i_ ?_
         walk_at "rk"
         exact ⟨by show 1 ≤ 1000;decide,qe (.inr ⟨es,ks,G,hks',hz⟩) _ s19⟩)
   · have s1 := ar.refl H
     have hd1:=hd
     have hc1:=s1 _ _ hc
     have hrs1:=hrs.same s1
     walk_at "rk"
     refine ⟨c,d,prs,rs,ls,rfl,hc1,hrs1,ay,h2000,hls,hd1,fun hb H' s'=>qe (.inl hb) _ (s1.trans s'),fun le ev es H2 s2 nle hle hev G=>?_⟩
     have s12:=s1.trans s2
     have hd2:=s2 _ _ hd1
     clear nle
     walk_at "rk"
     intro xt dxt nxt ndxt nne
     refine' Cv (kvs:=aR ls) (xs:=ev) nxt ndxt ?h1 ?h2 ?q
     (case h1=>exact az.of hle)
     (case h2=>exact .inr ⟨d,rfl,hd2⟩)
     (case q =>
       intro l8 d8 H8 s8 nl8 nd8 n12 nxl nxd hxt hl8 hd8
       refine ⟨rfl,?_⟩
       have s18:=s12.trans s8
       have nxtH:H xt = none:=aU s12 nxt
       have hev8:=hev.same s8
       have nl8H:H l8 = none:=aU s12 nl8
       have nd8H:H d8 = none:=aU s12 nd8
       have htab:TabOf K a H8 xt ev ls:=⟨dxt,l8,d8,hxt,hl8,hd8⟩
       clear s8 nl8 nd8 n12 nxl nxd nxt ndxt nne
       walk_at "rk"
       refine ⟨c,xt,prs,rs,ev,es,ls,rfl,s18 _ _ hc,hrs.same s18,htab,hev8,⟨ay,CF G,h2000,by rw [G.len];exact h2000⟩,hls.1,hls.2.1,fun p us ks H9 s9 hp hks hcm=>?_⟩
       have hks':=(hks G.len).1
       walk_at "rk"
       refine cx (az.of hp) ?_
       rw [hcm.1]
       have s19:=s18.trans s9
       by_cases hz:cq rs es ls ks = []
       · rw [hz]
         walk_at "rk"
         exact q xt ev es ks H9 s19 nxtH ⟨dxt,l8,d8,nl8H,nd8H,s9 _ _ hxt,s9 _ _ hl8,s9 _ _ hd8⟩ (hev8.same s9) G hks' hz
       · have : 0 < (cq rs es ls ks).length := List.length_pos_iff.mpr hz
         walk_at "rk"
         refine i_ ?_
         walk_at "rk"
         exact ⟨by show 1 ≤ 1000;decide,qe (.inr ⟨es,ks,G,hks',hz⟩) _ s19⟩)
theorem A8 (T:Txt K mg a):cV P w K mg base (e_ P w) 6 "guess" (kq K a):=(rP T).1
theorem Ap (T:Txt K mg a):C4 P w K mg base (e_ P w) 6 "guess" (kq K a):=(rP T).2
theorem BJ {P : Program} {w : World} {K : PySem.W.Frag} {mg : Str → Option Value} {base : Heap} {a : cp} (T : Txt K mg a) {B : Hp} {Q : VK} {a0 lc ld : Addr} {m : Int} {u4 u5 : Option V} {HD : Hp} {prs : List Addr} {rs : List Rw} {ls : List (Int × Int)}
   (q:∀ (H':Hp),Q (V.bl true) H') (m0 : 0 ≤ m) (m10:m ≤ 10) (hl:prs.length = m.toNat) (ay:∀ (r:Rw),r ∈ rs→r.ok∧r.here) (hld:HD ld = some (HO.dK (aR ls))) (hls:jz ls) (hlc:HD lc = some (HO.lst (List.map V.ref prs))) (hr3:bA a HD prs rs) (hli3:ls.length ≤ 3) (hB:B ld = none) :
   xW K [V.ref lc] HD fun x H1 =>
   cv (sm xi (cv (bE 3) gc)) gc
     [some (V.ref a0),some (V.int m),some (V.ref lc),some (V.ref ld),u4,u5,none,none,none] H1 fun xs H2 =>
     (x :: xs).length ≤ sizeLine ∧
       ∀ (p : Addr),
         H2 p = none →
           dW 6 (V.ref p)
             [some (V.ref a0),some (V.int m),some (V.ref lc),some (V.ref ld),u4,u5,none,none,none]
             (upd H2 p (HO.lst (x :: xs)))
             ({
                 nx :=
                   iQ
                     (uw
                       (kl (oO K a) E0
                         (cv (dD (ik K) (bE 6) (tC (V.int 0)))
                           (cv (dD (ik K) (bE 6) (tC (V.int 1))) gc)))
                       (dW 7))
                     (iQ
                       (kP (se (eZ (dD kJ (bE 7) (tC V.aH))) (eZ (dD KS (bE 7) (tC (V.bl false)))))
                         (jT (dD kJ (bE 7) (tC V.aH))) iX)
                       (iQ
                         (kP
                           (se (eZ (dD pC (dD (ik K) (bE 6) (tC (V.int 1))) (bE 3)))
                             (eZ
                               (dD (k8 K) (sm (rD K) (cv (dD (ik K) (bE 6) (tC (V.int 0))) gc))
                                 (bE 1))))
                           (jT (tC (V.bl false))) iX)
                         (iQ (xv (yf K "dict" rk (dD (ik K) (bE 6) (tC (V.int 1)))))
                           (iQ
                             (kP
                               (se (eZ (dD pC (mw K (bE 7) (Str.ofString "landings")) (bE 3)))
                                 (se
                                   (xM
                                     (uz K
                                       (sm (uP K)
                                         (cv (mw K (bE 7) (Str.ofString "entries"))
                                           (cv (tC (V.ty "list")) gc)))))
                                   (eZ
                                     (dD (k8 K)
                                       (sm (rD K) (cv (mw K (bE 7) (Str.ofString "entries")) gc))
                                       (bE 1)))))
                               (jT (tC (V.bl false))) iX)
                             (iQ
                               (yd
                                 B
                                 (ye (xb (bE 3)) (dW 5)
                                   (kP
                                     (se (eZ (dD (kz fun i j => V.bl (decide (i < j))) (bE 5) (tC (V.int 0))))
                                       (se (eZ (dD (kz fun i j => V.bl (decide (j ≤ i))) (bE 5) (bE 1)))
                                         (xM
                                           (uz K
                                             (sm (uP K)
                                               (cv (dD (ik K) (bE 2) (bE 5))
                                                 (cv (tC (V.ref a.aD)) gc)))))))
                                     (jT (tC (V.bl false))) iX)))
                               (iQ
                                 (kP (eZ (dD (oo K) (bE 1) (tC (V.int 0)))) (jT (tC (V.bl true))) iX)
                                 (iQ (uw (kl (q0 a) E0 (cv (bE 2) (cv (bE 3) gc))) (dW 8))
                                   (iQ (kP (eZ (dD kJ (bE 8) (tC V.aH))) (jT (tC (V.bl false))) iX)
                                     (iQ
                                       (ye (wZ (cv (bE 1) gc)) (dW 5)
                                         (kP
                                           (eZ
                                             (dD (k8 K)
                                               (dD iH
                                                 (dD (ik K) (mw K (bE 7) (Str.ofString "entries")) (bE 5))
                                                 (tC V.aH))
                                               (dD (vV K false) (bE 5) (bE 8))))
                                           (jT (tC (V.bl false))) iX))
                                       (jT
                                         (dD (oo K)
                                           (tT [Str.ofString "_law_at"] [(Str.ofString "_law_table", 7)]
                                             (xO K (kl (oA a) E0 (cv (bE 2) (cv (bE 8) gc))))
                                             (dW 0)
                                             (eZ
                                               (dD (k8 K)
                                                 (dD (ik K) (mw K (bE 1) (Str.ofString "entries")) (bE 0))
                                                 (xY
                                                   (cv (tC (V.int 0))
                                                     (cv (tC (V.int 128))
                                                       (cv
                                                         (xY
                                                           (cv (tC (V.int 16))
                                                             (cv (tC (V.int 32)) (cv (tC (V.int 64)) gc))))
                                                         gc))))))
                                             (bE 0))
                                           (Bx gc))))))))))))
                     { nx:=fun x H'=>Q V.aH H',rt:=Q },
                 rt:=({ nx:=fun x H'=>Q V.aH H',rt:=Q }:Ends).rt }:Ends).nx:=by
 have hpl:=hr3.1
 refine we (az.of hlc) fun l1 nl1=>?_
 have s1:=aq (o:=.lst (prs.map V.ref)) nl1
 have hl1:(upd HD l1 (.lst (prs.map V.ref))) l1 = some (.lst (prs.map V.ref)):=ah
 generalize (upd HD l1 (.lst (prs.map V.ref))) = H1 at s1 hl1 ⊢
 have hld1:=s1 _ _ hld
 walk_at "rk"
 rename_i d1 nd1 lh nlh
 have s2:=(aq (o:=.dK (aR ls)) nd1).trans (aq (o:=.lst [V.ref l1,V.ref d1]) nlh)
 have hd1:(upd (upd H1 d1 (.dK (aR ls))) lh (.lst [V.ref l1,V.ref d1])) d1 = some (.dK (aR ls)):=aC ah nlh
 have hlh:(upd (upd H1 d1 (.dK (aR ls))) lh (.lst [V.ref l1,V.ref d1])) lh = some (.lst [V.ref l1,V.ref d1]):=ah
 have nd1D:HD d1 = none:=aU s1 nd1
 have nd1l:ld ≠ d1:=av hld1 nd1
 generalize (upd (upd H1 d1 (.dK (aR ls))) lh (.lst [V.ref l1,V.ref d1])) = H2 at s2 hd1 hlh ⊢
 have hl12:=s2 _ _ hl1
 have s12:=s1.trans s2
 clear s1 s2 hl1 hld1 nl1 nd1 nlh
 refine ⟨l1,d1,prs,rs,ls,rfl,hl12,hr3.same s12,ay,by omega,hls,hd1,fun H' s'=>?_,fun t ev es ks H3 s3 nt htab hev G hks hz=>?_⟩
 · walk_at "rk"
   exact q _
 obtain ⟨dt,le,d2,nle2,nd2,ht,hle,hd2⟩:=htab
 have n12:d2 ≠ d1:=(av hd1 nd2).symm
 have s13:=s12.trans s3
 have hlh3:=s3 _ _ hlh
 have hd13:=s3 _ _ hd1
 have hl13:=s3 _ _ hl12
 have hld3:=s13 _ _ hld
 have hlc3:=s13 _ _ hlc
 have hr13:=hr3.same s13
 clear s12 s3 hd1 hlh hl12
 walk_at "rk"
 refine ⟨rfl,t,rfl,?_⟩
 walk_at "rk"
 have hds : xx (aR ls) := fun p hp => by
   obtain ⟨kv,hkv,rfl⟩:=List.mem_map.mp hp
   exact ⟨kv.2,rfl,(iw hls.1 kv hkv).1⟩
 refine vJ hd13 hld3 hds ?_
 walk_at "rk"
 refine cx (az.of hl13) ?_
 rw [List.length_map,hl,Int.toNat_of_nonneg m0]
 walk_at "rk"
 refine LP hd13 (A2 hd13 ?_)
 have s14:=fz (o:=.dK []) s13 nd1D
 have hlc4:=s14 _ _ hlc
 have hld4:=s14 _ _ hld
 have hr4:=hr3.same s14
 have ht4:(upd H3 d1 (.dK [])) t = some (.ins a.bw dt (vv le d2)):=by rw [ao (fun z=>by subst z;rw [hd13] at ht;cases ht)];exact ht
 have hle4:(upd H3 d1 (.dK [])) le = some (.lst ev):=by rw [ao (fun z=>by subst z;rw [hd13] at hle;cases hle)];exact hle
 have hd24:(upd H3 d1 (.dK [])) d2 = some (.dK (aR ls)):=by rw [ao n12];exact hd2
 have hev4:=hev.Mt (o:=.dK []) hd13
 generalize (upd H3 d1 (.dK [])) = H4 at s14 hlc4 hld4 hr4 ht4 hle4 hd24 hev4 ⊢
 clear hev hle hd2 ht hd13 hl13 hlh3 hld3 hlc3 hr13 s13 n12 nle2 nd2 nd1D nd1l
 walk_at "rk"
 refine vJ hd24 hld4 hds ?_
 walk_at "rk"
 refine cx (az.of hle4) ?_
 rw [hev4.1,G.len,← hpl,hl,Int.toNat_of_nonneg m0]
 walk_at "rk"
 refine Ia ?_
 walk_at "rk"
 refine Ji ?_
 walk_at "rk"
 refine ⟨ld,aR ls,rfl,hld4,fun ob=>?_⟩
 refine AV (ob:=ob) (fun i2 σ HH=>(∃ u,σ = [some (.ref a0),some (.int m),some (.ref lc),some (.ref ld),u4,u,some (.ref lh),some (.ref t),none])∧HH = upd H4 ld (.dj ob (.dK (aR ls)))) ⟨⟨_,rfl⟩,rfl⟩ (fun i σ HH _ h=>by rw [h.2];exact ah) ?_ ?_
 · rintro i2 k v σ HH hkv ⟨⟨u, rfl⟩, rfl⟩
   obtain ⟨q2, hq2, eq2⟩ : ∃ q2, ls[i2]? = some q2 ∧ ((Sum.inl q2.1 : Key), V.int q2.2) = (k, v) := by
     unfold aR at hkv
     rw [List.getElem?_map] at hkv
     exact Option.map_eq_some_iff.mp hkv
   cases eq2
   obtain ⟨k0,k1,r,hri,hcall⟩:=Gf G.len hz (hks.symm.subset (List.mem_map.mpr ⟨q2,List.mem_of_getElem? hq2,rfl⟩))
   have hk:q2.1.toNat < prs.length:=by omega
   have hpi:prs[q2.1.toNat]? = some prs[q2.1.toNat]:=List.getElem?_eq_getElem hk
   have hrow:=hr4.2 _ _ _ hpi hri
   have hoki:=ay _ (List.mem_of_getElem? hri)
   generalize prs[q2.1.toNat] = p0 at hpi hrow
   have hat : cD (prs.map V.ref) q2.1 = some (.ref p0) := by
     rw [show q2.1 = ((q2.1.toNat:Nat):Int) by omega]
     exact bL (by rw [List.getElem?_map,hpi];rfl)
   have hlcF:(upd H4 ld (.dj ob (.dK (aR ls)))) lc = some (.lst (prs.map V.ref)):=by rw [ao (fun z=>by subst z;rw [hld4] at hlc4;cases hlc4)];exact hlc4
   have hrowF : cK a (upd H4 ld (.dj ob (.dK (aR ls)))) p0 r := by
     obtain ⟨dx,hdx⟩:=hrow
     exact ⟨dx,by rw [ao (fun z=>by subst z;rw [hld4] at hdx;cases hdx)];exact hdx⟩
   obtain ⟨t',ht1,ht2,_⟩:=gy T hoki.2 hrowF
   have k2:q2.1 < m:=by omega
   show dW 5 (V.int q2.1) _ _ _
   walk_at "rk"
   refine gk (fun z=>nomatch z) ht1 ht2 ?_
   rw [hcall]
   walk_at "rk"
   exact ⟨⟨_,rfl⟩,rfl⟩
 rintro σ HH ⟨⟨u,rfl⟩,rfl⟩
 refine .inr ⟨ld,ob,_,ah,fun u v e=>(by rw [hB] at e;cases e),?_⟩
 have s5 : ar H4 (upd (upd H4 ld (.dj ob (.dK (aR ls)))) ld (.dK (aR ls))) := fun b o e => by
   by_cases z:b = ld
   · subst z;rw [ah,← hld4];exact e
   · rw [ao z,ao z];exact e
 generalize (upd (upd H4 ld (.dj ob (.dK (aR ls)))) ld (.dK (aR ls))) = H5 at s5 ⊢
 have hlc5:=s5 _ _ hlc4
 have hld5:=s5 _ _ hld4
 have hr5:=hr4.same s5
 have ht5:=s5 _ _ ht4
 have hle5:=s5 _ _ hle4
 have hev5:=hev4.same s5
 clear s5 hlc4 hld4 hr4 ht4 hle4 hev4 hd24 s14
 walk_at "rk"
 refine iI (fun g0=>?_) (fun g0=>?_)
 · walk_at "rk"
   exact q _
 have hpos : 0 < rs.length:=by omega
 have h10:rs.length ≤ 10:=by omega
 obtain ⟨hs,sb,s4,s5,s6,P',he⟩:=G.of hpos
 have hlen:=P'.ht.len
 walk_at "rk"
 refine ⟨lc,ld,prs,rs,ls,hs,rfl,hlc5,hr5,ay,hpos,h10,hls,hld5,P'.ht,fun lf fs H6 s6' nlf hlf F hiff=>?_⟩
 have hlc6:=s6' _ _ hlc5
 have hr6:=hr5.same s6'
 have ht6:=s6' _ _ ht5
 have hle6:=s6' _ _ hle5
 have hev6:=hev5.same s6'
 clear s6' hlc5 hr5 ht5 hle5 hev5 hld5
 walk_at "rk"
 refine mP (fun i σ HH=>(∃ u,σ = [some (.ref a0),some (.int m),some (.ref lc),some (.ref ld),u4,u,some (.ref lh),some (.ref t),some (.ref lf)])∧HH = H6) ⟨⟨_,rfl⟩,rfl⟩ ?_ ?_
 · rintro i σ HH hi ⟨⟨u', rfl⟩, rfl⟩
   have hi':i < rs.length:=by omega
   obtain ⟨v,hv,hve⟩:=hev6.2 i _ (he i hi')
   have hat:cD ev (0 + (i:Int)) = some v:=by rw [Int.zero_add];exact bL hv
   have hho:hs[i]? = some hs[i]:=List.getElem?_eq_getElem (by omega)
   generalize hs[i] = oh at hho
   cases oh with
   | none =>
     have hen:d_ hs sb s4 s5 s6 i = none:=by unfold d_;rw [hho];rfl
     rw [hen] at hve
     cases hve
     have hnm : ¬ (0 + (i:Int)) ∈ fs:=fun z=>by rw [Int.zero_add] at z;obtain ⟨h,e⟩:=(hiff i).mp z;rw [hho] at e;cases e
     walk_at "rk"
     refine nA (az.of hlf) rfl (gR _) ?_
     rw [il,decide_eq_false hnm]
     walk_at "rk"
     exact ⟨⟨_,rfl⟩,rfl⟩
   | some h =>
     have hen:∃ e,d_ hs sb s4 s5 s6 i = some e:=by unfold d_;rw [hho];exact ⟨_,rfl⟩
     obtain ⟨e,hen⟩:=hen
     rw [hen] at hve
     obtain ⟨pe,rfl,_⟩:=hve
     have hnm:(0 + (i:Int)) ∈ fs:=by rw [Int.zero_add];exact (hiff i).mpr ⟨h,hho⟩
     walk_at "rk"
     refine nA (az.of hlf) rfl (gR _) ?_
     rw [il,decide_eq_true hnm]
     walk_at "rk"
     exact ⟨⟨_,rfl⟩,rfl⟩
 rintro σ HH ⟨⟨u',rfl⟩,rfl⟩
 walk_at "rk"
 refine ⟨lc,lf,prs,rs,ls,hs,fs,rfl,hlc6,hr6,ay,h10,P'.ht,hlf,F,fun lg gs H7 s7 nlg hlg hg11 hgs=>?_⟩
 have ht7:=s7 _ _ ht6
 have hle7:=s7 _ _ hle6
 have hev7:=hev6.same s7
 walk_at "rk"
 have hst : ∀ g ∈ gs, 0 ≤ g ∧ g.toNat < es.length ∧ es[g.toNat]? = some fo := fun g hg => by
   have key : 0 ≤ g ∧ g < es.length ∧ gW (es[g.toNat]?.join) fo = true := by
     rcases hgs g hg with rfl | ⟨i,h,e1,e2⟩
     · exact ⟨Int.le_refl _,by rw [G.len];omega,K6 G.len hz hpos⟩
     · refine Ly (e := ⟨h, gN sb i, gN s4 i, gN s5 i, gN s6 i⟩) G.len hz e2 ?_
       rw [he i (List.getElem?_eq_some_iff.mp e2).1]
       unfold d_
       rw [e1]
       rfl
   obtain ⟨k0,k1,k2⟩:=key
   have k3:g.toNat < es.length:=by omega
   refine ⟨k0,k3,?_⟩
   have k4:=ID k2
   rw [List.getElem?_eq_getElem k3] at k4 ⊢
   exact congrArg some k4
 refine f9 (K:=K) (a:=lg) (xs:=gs.map V.int) (fun i ys σ H8=>(∃ v,σ = [v,some (.ref t)])∧ar H7 H8∧ys = []) ⟨⟨_,rfl⟩,ar.refl _,rfl⟩ (fun i ys σ H8 _ h=>⟨az.of (h.2.1 _ _ hlg),by rw [h.2.2];exact Nat.zero_le _⟩) ?_ ?_
 · rintro i x ys σ H8 hx ⟨⟨v, rfl⟩, s8, rfl⟩
   rw [List.getElem?_map] at hx
   obtain ⟨g,hg,rfl⟩:=Option.map_eq_some_iff.mp hx
   obtain ⟨g0,g1,g2⟩:=hst g (List.mem_of_getElem? hg)
   obtain ⟨x',hx',hxe⟩:=hev7.2 _ fo g2
   obtain ⟨pe,rfl,qe,d1',d2'⟩:=hxe
   have hat : cD ev g = some (.ref pe) := by
     rw [show g = ((g.toNat:Nat):Int) by omega];exact bL hx'
   have ht8:=s8 _ _ ht7
   have hle8:=s8 _ _ hle7
   walk_at "rk"
   rename_i ta nta tb ntb
   have s9:=((aq (o:=.tup [.int 16,.int 32,.int 64]) nta).trans (aq (o:=.tup [.int 0,.int 128,.ref ta]) ntb))
   refine xV fo fo (iu (bG (s8.trans s9) d1') (bG (s8.trans s9) d2')) (iu (aW.of ah) (aW.of (aC ah ntb))) ?_
   rw [show gW fo fo = true from rfl]
   walk_at "rk"
   exact ⟨⟨_,rfl⟩,s8.trans s9,rfl⟩
 rintro ys σ H8 ⟨_,s8,rfl⟩ lr nlr
 walk_at "rk"
 rename_i lz nlz
 refine L3.wb (xs:=[]) (az.of (aC ah nlz)) (az.of ah) ?_
 exact q _
theorem vh (T : Txt K mg a) : cV P w K mg base ba 7 "_law_guess" (oO K a) := by
 refine bT (sp:=(oO K a)) 6 T.mv fi (fun vs H Q E h=>?_) (fun f cdv A outer s H vs Q E hr h=>?_)
 · obtain ⟨c, d, prs, rs, ls, rfl, _⟩ := h
   rfl
 · obtain ⟨c, d, prs, rs, ls, rfl, hc, hrs, ay, h2000, hls, hd, qn, q⟩ := h
   refine ⟨_, (ai (aS (i := 2) fi.nd rfl (Or.inl rfl) bz)
     (ai (aS (i:=3) fi.nd rfl (Or.inl rfl) gz)
     (ai (J7 (i:=4) rfl rfl rfl (Ho (i:=2) fi.nd rfl (Or.inl rfl) (A8 (K:=K) T) (hr.mono (by decide)) rfl (aa (pv 0) (aa (pv 1) af))) T.gK rfl fi.nd rfl rfl (fun ea oe hxc _=>(ag (aS (i:=3) fi.nd rfl (Or.inl rfl) (aT (x_ (K:=K) rfl (List.mem_append_right _ (List.mem_singleton.mpr rfl)) hxc T.oZ) rfl T.bh bI (aa (pv 4) (aa (bg (v:=.ref a.dS) rfl T.fb rfl) af)))))))
     (ai (aX (PW.pt (mW (aE cU (pv 2) bz (aG _)) (kf (hZ (bY (K:=K) rfl (pv 3)))))) (ag (aw gz)) aI)
     (ag (aw (pv 2))))))),?_⟩
   refine a_ (σ':=[some _,some _,none,none,none]) rfl ?_
   walk_at "rk"
   refine AK ?_
   walk_at "rk"
   refine ⟨c,.ref d,prs,rs,ls,rfl,hc,hrs,ay,h2000,hls,.inr ⟨d,rfl,hd⟩,fun _ H1 s1=>⟨rfl,fun ea hea=>?_⟩,fun t ev es ks H1 s1 nt htab hev G hks hz=>?_⟩
   · walk_at "rk"
     refine J2 (fun z=>nomatch z) T.bP ?_
     walk_at "rk"
     exact qn _ (by walk_at "same")
   · walk_at "rk"
     exact q t ev es ks H1 s1 nt htab hev G hks hz
theorem vB (T : Txt K mg a) : cV P w K mg base ba 7 "_law_long" zM := by
 refine bT (sp:=zM) 6 T.n6 iG (fun vs H Q E h=>?_) (fun f cdv A outer s H vs Q E hr h=>?_)
 · obtain ⟨c, rfl, _⟩ := h
   rfl
 · obtain ⟨c, rfl, q⟩ := h
   refine ⟨_, (ai (aS (i := 1) iG.nd rfl (Or.inl rfl) (aQ (bD (K := K) rfl) ak (aQ de (pv 0) ak)))
     (ai (aS (i:=2) iG.nd rfl (Or.inl rfl) (aQ (bD (K:=K) rfl) (gL (own:=["_law_k"]) (fr:=[("_law_cell",0)]) rfl ⟨rfl,(by walk_at "clok"),(by walk_at "frok"),rfl,(by decide +kernel),(by decide +kernel),rfl⟩ (gP rfl T.fj (aa (pv 1) af)) (fun _ _ _ _=>(bb (i:=0) (show List.Nodup [("_law_k" : Str),("_law_cell" : Str)] from by decide +kernel) rfl (Or.inl rfl))) (fun _ _ _ _=>gm) (fun _ _ _ _=>(eI (km (K:=K) T) (hr.mono (by decide)) aO rfl (aa (aQ de (aQ fJ (pv 1) ak) ak) (aa ak af))))) (bH (aa (eI (i8 (K:=K) T) (hr.mono (by decide)) aO rfl (aa ak af)) af))))
     (ai (aS (i:=3) iG.nd rfl (Or.inl rfl) (bo (K:=K) rfl (AY (Ap (K:=K) T) (hr.mono (by decide)) Gs rfl (aa (pv 2) af))))
     (ag (aw (Kk (fm (dG (K:=K) rfl hr.units) (aT (bC (K:=K) rfl) rfl T.cu dg (aa (pv 3) af)) (aQ (bD (K:=K) rfl) (pv 1) ak) (aG _)) (AE (fm (dG (K:=K) rfl hr.units) (gL (own:=["_law_one"]) (fr:=[]) rfl ⟨rfl,(by walk_at "clok"),(by walk_at "frok"),rfl,(by decide +kernel),(by decide +kernel),rfl⟩ (cC (K:=K) rfl (pv 3)) (fun _ _ _ _=>(bb (i:=0) (show List.Nodup [("_law_one" : Str)] from by decide +kernel) rfl (Or.inl rfl))) (fun _ _ _ _=>(nz (aE (fG (K:=K) rfl hr.units) (pv 0) (cn (aa ak (aa ak (aa (cn (aa ak (aa ak (aa ak af)))) af)))) (aG _)))) (fun _ _ _ _=>(pv 0))) (bH af) (aG _))))))))),?_⟩
   refine a_ (σ':=[some _,none,none,none]) rfl ?_
   walk_at "rk"
   have hm : 1200 ≤ 1200 + c % 790∧1200 + c % 790 ≤ 1989:=by omega
   generalize 1200 + c % 790 = m0 at hm ⊢
   obtain ⟨m,rfl⟩:∃ m:Nat,m0 = (m:Int):=⟨m0.toNat,by omega⟩
   obtain ⟨hm1,hm2⟩:=hm
   walk_at "rk"
   rw [Int.toNat_natCast]
   have hb : 0 ≤ c / 790 % 4∧c / 790 % 4 ≤ 3:=by omega
   refine kL (fun i ys σ H1=>(∃ v,σ = [v,some (.int c)])∧ar H H1∧∃ (prs:List Addr),ys = prs.map V.ref∧prs.length = i∧bA a H1 prs (List.replicate i (.set (c / 790 % 4) 5))) ⟨⟨_,rfl⟩,ar.refl _,[],rfl,rfl,bA.nil⟩ ?_ ?_ ?_
   · rintro i ys σ H1 hi ⟨_, _, prs, rfl, e, _⟩
     rw [List.length_map,e,sizeLine_eq];omega
   · rintro i ys σ H1 hi ⟨⟨v, rfl⟩, s1, prs, rfl, hl, hr1⟩
     walk_at "rk"
     exact GF (a:=a) ⟨⟨by omega,by omega⟩,by decide,by decide⟩ rfl (fun p H' s np z=>⟨⟨_,rfl⟩,s1.trans s,prs ++ [p],by rw [List.map_append];rfl,by rw [List.length_append,hl];rfl,by rw [List.replicate_succ'];exact (hr1.same s).snoc z⟩)
   rintro ys σ H1 ⟨_,s1,prs,rfl,hl,hr1⟩ l nl
   have s2:=s1.trans (aq (o:=.lst (prs.map V.ref)) nl)
   have hl2:(upd H1 l (.lst (prs.map V.ref))) l = some (.lst (prs.map V.ref)):=ah
   have hr2:=hr1.same (aq (o:=.lst (prs.map V.ref)) nl)
   generalize (upd H1 l (.lst (prs.map V.ref))) = H2 at s2 hl2 hr2 ⊢
   clear s1 nl hr1
   walk_at "rk"
   refine GB (a:=a) ⟨by decide,by decide⟩ rfl (fun pb H3 s3 npb hpb=>?_)
   have hl3:=s3 _ _ hl2
   have hr3:=(hr2.same s3).snoc hpb
   have s13:=s2.trans s3
   clear s3 hpb npb hr2 hl2 s2
   walk_at "rk"
   rename_i lq nlq lc nlc
   have hlc:(upd (upd H3 lq (.lst [V.ref pb])) lc (.lst (prs.map V.ref ++ [V.ref pb]))) lc = some (.lst ((prs ++ [pb]).map V.ref)):=by rw [List.map_append];exact ah
   have sn:=(aq (o:=.lst [V.ref pb]) nlq).trans (aq (o:=.lst (prs.map V.ref ++ [V.ref pb])) nlc)
   have hr4:=hr3.same sn
   have s4:=s13.trans sn
   generalize (upd (upd H3 lq (.lst [V.ref pb])) lc (.lst (prs.map V.ref ++ [V.ref pb]))) = H4 at hlc sn hr4 s4 ⊢
   clear hr3 hl3 s13 sn nlq nlc
   have hr4:bA a H4 (prs ++ [pb]) (fP (c / 790 % 4) m):=hr4
   have ay : ∀ r ∈ fP (c / 790 % 4) m, r.ok ∧ r.here := fun r hr => by
     unfold fP at hr
     rcases List.mem_append.mp hr with h | h
     · rw [List.eq_of_mem_replicate h];exact ⟨⟨⟨by omega,by omega⟩,by decide,by decide⟩,True.intro⟩
     · rw [List.mem_singleton.mp h];exact ⟨⟨by decide,by decide⟩,True.intro⟩
   refine FR ?_
   walk_at "rk"
   refine ⟨lc,.aH,prs ++ [pb],fP (c / 790 % 4) m,[],rfl,hlc,hr4,ay,by rw [hX];omega,⟨List.Pairwise.nil,by decide,fun p hp=>by cases hp⟩,.inl ⟨rfl,rfl⟩,fun hbad=>?_,fun t ev es ks H5 s5 nt htab hev G hks hz=>?_⟩
   · exfalso
     rcases hbad with hbad | ⟨es,ks,G,hks,hne⟩
     · exact FH _ _ hbad.2
     · rw [List.perm_nil.mp hks] at hne
       exact hne (AZ hb.1 hb.2 G)
   obtain ⟨dt,le,ld,_,_,h1,h2,h3⟩:=htab
   have hE:=v9 hb.1 hb.2 G
   have hlen:=G.len
   rw [hX] at hlen
   have hvl:=hev.1
   walk_at "rk"
   refine cx (az.of h2) ?_
   rw [hvl,hlen]
   walk_at "rk"
   refine f9 (K:=K) (a:=le) (xs:=ev) (fun i ys σ H6=>(∃ v,σ = [v])∧ar H5 H6∧ys = []) ⟨⟨_,rfl⟩,ar.refl _,rfl⟩ (fun i ys σ H6 _ h=>⟨az.of (h.2.1 _ _ h2),by rw [h.2.2];exact Nat.zero_le _⟩) ?_ ?_
   · rintro i x ys σ H6 hx ⟨⟨v, rfl⟩, s6, rfl⟩
     have hi:=(List.getElem?_eq_some_iff.mp hx).1
     obtain ⟨x',hx',hxe⟩:=hev.2 i fo (hE i (by omega))
     rw [hx] at hx';cases hx'
     obtain ⟨pe,rfl,qe,d1,d2⟩:=hxe
     walk_at "rk"
     rename_i ta nta tb ntb
     have s7:=((aq (o:=.tup [.int 16,.int 32,.int 64]) nta).trans (aq (o:=.tup [.int 0,.int 128,.ref ta]) ntb))
     refine xV fo fo (iu (bG (s6.trans s7) d1) (bG (s6.trans s7) d2)) (iu (aW.of ah) (aW.of (aC ah ntb))) ?_
     rw [show gW fo fo = true from rfl]
     walk_at "rk"
     exact ⟨⟨_,rfl⟩,s6.trans s7,rfl⟩
   rintro ys σ H6 ⟨_,s6,rfl⟩ lr nlr
   walk_at "rk"
   rename_i lz nlz
   refine L3.wb (xs:=[]) (az.of (aC ah nlz)) (az.of ah) ?_
   exact q _ (((s4.trans s5).trans s6).trans ((aq nlr).trans (aq nlz)))
theorem law_fn {fa : Addr} {fd : FuncData} (T : Txt K mg a) (F : bc K "law" "law" gY fa fd) : ez P w K mg base ba 8 fa fd ["_law_script"] (yg K) := by
 refine F.ok (k:=7) fU (fun vs H Q E h=>?_) (fun cdv A outer s H vs Q E hr h=>?_)
 · obtain ⟨a0, ns, rfl, _⟩ := h
   rfl
 · obtain ⟨a0, ns, rfl, hS, h63, q⟩ := h
   refine ⟨_, (ai (aS (i := 1) fU.nd rfl (Or.inr rfl) (aQ de (aF (ff (K := K) T) (hr.mono (by decide)) aO rfl (aa (pv 0) (aa ak af))) ak))
     (ai (aX (aE (dG (K:=K) rfl hr.units) (aQ de (aQ fJ (aF (ff (K:=K) T) (hr.mono (by decide)) aO rfl (aa (pv 0) (aa ak af))) ak) ak) ak (aG _)) (ag (aw (aF (vB (K:=K) T) (hr.mono (by decide)) aO rfl (aa (aQ fJ (aF (ff (K:=K) T) (hr.mono (by decide)) aO rfl (aa (pv 0) (aa ak af))) ak) af)))) aI)
     (ai (j4 (i:=2) fU.nd rfl rfl (own:=["_law_k"]) (fr:=[("_law_script",0),("_law_many",1)]) rfl ⟨rfl,(by walk_at "clok"),(by walk_at "frok"),rfl,(by decide +kernel),(by decide +kernel),rfl⟩ (gP rfl T.fj (aa (pv 1) af)) (fun _ _ _ _=>(bb (i:=0) (show List.Nodup [("_law_k" : Str),("_law_script" : Str),("_law_many" : Str)] from by decide +kernel) rfl (Or.inl rfl))) (fun _ _ _ _=>gm) (fun _ _ _ _=>(aF (w9 (K:=K) T) (hr.mono (by decide)) aO rfl (aa (aF (ff (K:=K) T) (hr.mono (by decide)) aO rfl (aa (pv 1) (aa (aQ (bD (K:=K) rfl) ak (pv 0)) af))) (aa (pv 2) af)))))
     (ai (aS (i:=3) fU.nd rfl (Or.inl rfl) jy)
     (ai (fc PassesOwn.never rfl (cC (K:=K) rfl (By (MG (K:=K) rfl) (pv 0) (wz ak) (wz (aQ (bD (K:=K) rfl) ak (aQ de (aF (ff (K:=K) T) (hr.mono (by decide)) aO rfl (aa (pv 0) (aa ak af))) ak))))) (bb (i:=4) fU.nd rfl (Or.inl rfl)) (ai (aS (i:=5) fU.nd rfl (Or.inl rfl) (aQ zi (aQ de (pv 4) (aQ (bD (K:=K) rfl) (pv 1) ak)) ak))
     (ag (aX (PW.pt (fO (aE (dG (K:=K) rfl hr.units) (aQ de (aQ fJ (pv 4) ak) ak) ak (aG _)) (fE (PW.pt (mW (BG xZ iF ak (pv 5) (pv 1)) (kf (bY (K:=K) rfl (aT (cN (K:=K) rfl) rfl T.bh bI (aa (aM (aV (K:=K) rfl) (pv 2) (pv 5) (fun _ _=>rfl)) (aa (bg (v:=.ref a.aD) rfl T.du rfl) af)))))))))) (ag (wg (ll hr) (pv 3) (pv 5) (aQ zi (aQ de (aQ fJ (pv 4) ak) (aQ (bD (K:=K) rfl) (aQ (bD (K:=K) rfl) (pv 1) (aM (aV (K:=K) rfl) (bH (aa ak (aa ak (aa ak (aa ak af))))) (aQ de (aQ fJ (pv 4) ak) ak) (fun _ _=>rfl))) (fq l6 rfl T.jI w_ (aa (fm (dG (K:=K) rfl hr.units) (pv 1) ak (aG _)) af)))) (fq l6 rfl T.jI w_ (aa (fm (dG (K:=K) rfl hr.units) (aQ de (aQ fJ (pv 4) ak) ak) ak (aG _)) af))) rfl)) aI))))
     (ai (aS (i:=6) fU.nd rfl (Or.inl rfl) (bH (aa (fq (o7 (K:=K) rfl) rfl T.hG pU (aa (pv 2) af)) (aa (fq pT rfl T.jH zx (aa (pv 3) af)) af))))
     (ai (aS (i:=7) fU.nd rfl (Or.inr rfl) (aF (vh (K:=K) T) (hr.mono (by decide)) aO rfl (aa (aM (aV (K:=K) rfl) (pv 6) ak (fun _ _=>rfl)) (aa (aM (aV (K:=K) rfl) (pv 6) ak (fun _ _=>rfl)) af))))
     (ai (aX (PW.pt (fO (aE cU (pv 7) bz (aG _)) (fE (aE He (pv 7) gz (aG _))))) (ag (aw (fm cU (pv 7) bz (aG _)))) aI)
     (ai (aX (PW.pt (fO (aE (uJ hr.units) (aM (aV (K:=K) rfl) (pv 6) ak (fun _ _=>rfl)) (pv 3) (aG _)) (fE (aE (fG (K:=K) rfl hr.units) (aT (bC (K:=K) rfl) rfl T.cu dg (aa (aM (aV (K:=K) rfl) (pv 6) ak (fun _ _=>rfl)) af)) (pv 1) (aG _))))) (ag (aw gz)) aI)
     (ai (cB (wy (K:=K) rfl PySem.F.plainAttrs_dict PySem.F.slot_dict_clear PySem.F.type_dict_clear yr (aM (aV (K:=K) rfl) (pv 6) ak (fun _ _=>rfl))))
     (ai (aX (PW.pt (fO (aE (uJ hr.units) (bo (K:=K) rfl (pv 7)) (pv 3) (aG _)) (fO (hZ (bY (K:=K) rfl (aT (cN (K:=K) rfl) rfl T.bh bI (aa (bo (K:=K) rfl (pv 7)) (aa (Gj (v:=.ty "list") rfl T.hG pU rfl) af))))) (fE (aE (fG (K:=K) rfl hr.units) (aT (bC (K:=K) rfl) rfl T.cu dg (aa (bo (K:=K) rfl (pv 7)) af)) (pv 1) (aG _)))))) (ag (aw gz)) aI)
     (ai (FT (fc PassesOwn.never rfl (FV (pv 3)) (bb (i:=5) fU.nd rfl (Or.inl rfl)) (ag (aX (PW.pt (fO (aE iF (pv 5) ak (aG _)) (fO (aE s_ (pv 5) (pv 1) (aG _)) (fE (hZ (bY (K:=K) rfl (aT (cN (K:=K) rfl) rfl T.bh bI (aa (aM (aV (K:=K) rfl) (pv 2) (pv 5) (fun _ _=>rfl)) (aa (bg (v:=.ref a.aD) rfl T.du rfl) af))))))))) (ag (aw gz)) aI))))
     (ai (aX (aE (dG (K:=K) rfl hr.units) (pv 1) ak (aG _)) (ag (aw gz)) aI)
     (ai (aS (i:=8) fU.nd rfl (Or.inl rfl) (aF (uV (K:=K) T) (hr.mono (by decide)) aO rfl (aa (pv 2) (aa (pv 3) af))))
     (ai (aX (aE cU (pv 8) bz (aG _)) (ag (aw gz)) aI)
     (ai (fc PassesOwn.never rfl (gP rfl T.fj (aa (pv 1) af)) (bb (i:=5) fU.nd rfl (Or.inl rfl)) (ag (aX (aE (fG (K:=K) rfl hr.units) (fm jD (aM (aV (K:=K) rfl) (bo (K:=K) rfl (pv 7)) (pv 5) (fun _ _=>rfl)) bz (aG _)) (fm (IE (K:=K) rfl) (pv 5) (pv 8) rfl) (aG _)) (ag (aw gz)) aI)))
     (ag (aw (fm (dG (K:=K) rfl hr.units) (gL (own:=["_law_at"]) (fr:=[("_law_table",7)]) rfl ⟨rfl,(by walk_at "clok"),(by walk_at "frok"),rfl,(by decide +kernel),(by decide +kernel),rfl⟩ (cC (K:=K) rfl (aF (sM (K:=K) T) (hr.mono (by decide)) aO rfl (aa (pv 2) (aa (pv 8) af)))) (fun _ _ _ _=>(bb (i:=0) (show List.Nodup [("_law_at" : Str),("_law_table" : Str)] from by decide +kernel) rfl (Or.inl rfl))) (fun _ _ _ _=>(nz (aE (fG (K:=K) rfl hr.units) (aM (aV (K:=K) rfl) (bo (K:=K) rfl (pv 1)) (pv 0) (fun _ _=>rfl)) (cn (aa ak (aa ak (aa (cn (aa ak (aa ak (aa ak af)))) af)))) (aG _)))) (fun _ _ _ _=>(pv 0))) (bH af) (aG _)))))))))))))))))))),?_⟩
   refine a_ (σ':=[some _,none,none,none,none,none,none,none,none]) rfl ?_
   walk_at "rk"
   refine iI (fun hh=>?_) (fun hh=>?_)
   · walk_at "rk"
     exact ⟨_,rfl,fun H' s'=>q _⟩
   have hm : 0 ≤ cellAt ns 0 % 11∧cellAt ns 0 % 11 ≤ 10:=by omega
   generalize cellAt ns 0 % 11 = m at hm ⊢
   obtain ⟨m0,m10⟩:=hm
   walk_at "rk"
   refine kL (fun i ys σ H1=>(∃ v,σ = [v,some (.ref a0),some (.int m)])∧ar H H1∧∃ (prs:List Addr) (rs:List Rw),ys = prs.map V.ref∧prs.length = i∧bA a H1 prs rs∧∀ r ∈ rs,r.ok∧r.here) ⟨⟨_,rfl⟩,ar.refl _,[],[],rfl,rfl,bA.nil,(fun _ z=>by cases z)⟩ ?_ ?_ ?_
   · rintro i ys σ H1 hi ⟨_, _, prs, rs, rfl, e, _⟩
     rw [List.length_map,e,sizeLine_eq];omega
   · rintro i ys σ H1 hi ⟨⟨v, rfl⟩, s1, prs, rs, rfl, hl, hr1, ay⟩
     have hS1:=ar.seq s1 hS
     walk_at "rk"
     refine ⟨_,_,rfl,by omega,m10,fun p r H2 s2 np hp ok he=>?_⟩
     refine ⟨⟨_,rfl⟩,s1.trans s2,prs ++ [p],rs ++ [r],by rw [List.map_append];rfl,by rw [List.length_append,hl];rfl,(hr1.same s2).snoc hp,fun x hx=>?_⟩
     rcases List.mem_append.mp hx with z | z
     · exact ay x z
     · have e : x = r := by simpa using z
       rw [e];exact ⟨ok,he⟩
   rintro ys σ H1 ⟨_,s1,prs,rs,rfl,hl,hr1,ay⟩ lc nlc
   have sH:=s1.trans (aq (o:=.lst (prs.map V.ref)) nlc)
   have hS1:=ar.seq sH hS
   have hlc:(upd H1 lc (.lst (prs.map V.ref))) lc = some (.lst (prs.map V.ref)):=ah
   have hr2:=hr1.same (aq (o:=.lst (prs.map V.ref)) nlc)
   generalize (upd H1 lc (.lst (prs.map V.ref))) = H2 at sH hS1 hlc hr2 ⊢
   clear s1 hS hr1 nlc
   walk_at "rk"
   rename_i ld nld lsl nlsl
   have hcs:(oK ns (some 2) (some (2 + cellAt ns 1 % 4))).length ≤ 3:=by have:=Gy ns (show 0 ≤ cellAt ns 1 % 4 by omega);omega
   generalize oK ns (some 2) (some (2 + cellAt ns 1 % 4)) = cs at hcs ⊢
   have sn:=(aq (o:=.dK []) nld).trans (aq (o:=.lst (cs.map V.int)) nlsl)
   have hldn:lsl ≠ ld:=(gD nlsl).2
   refine fB (K:=K) (a:=lsl) (xs:=cs.map V.int) (fun i σ HD=>∃ (ls:List (Int×Int)) (u4 u5:Option V),ar H2 HD∧HD lsl = some (.lst (cs.map V.int))∧σ = [some (.ref a0),some (.int m),some (.ref lc),some (.ref ld),u4,u5,none,none,none]∧HD ld = some (.dK (aR ls))∧jz ls∧ls.length ≤ i) ⟨[],none,none,sn,ah,rfl,aC ah nlsl,⟨List.Pairwise.nil,by decide,fun p hp=>by cases hp⟩,Nat.le_refl _⟩ (fun i σ HD _ hh=>by obtain ⟨_,_,_,_,h4,_⟩:=hh;exact az.of h4) ?_ ?_
   · rintro i x σ HD hx ⟨ls, u4, u5, s3, hsl, rfl, hld, hls, hli⟩
     rw [List.getElem?_map] at hx
     obtain ⟨cl,hcl,rfl⟩:=Option.map_eq_some_iff.mp hx
     have hi:=(List.getElem?_eq_some_iff.mp hcl).1
     have hm3 : 0 < m + 3:=by omega
     walk_at "rk"
     refine iI (fun g1=>?_) (fun g1=>?_)
     · walk_at "rk"
       rename_i l0 nl0
       obtain ⟨x, x0, x3, hat⟩ : ∃ x : Int, 0 ≤ x ∧ x ≤ 3 ∧ cD [V.int 0, V.int 0, V.int 0, V.int 3] (cl / 7 % 4) = some (.int x) := by
         rcases (show cl / 7 % 4 = 0∨cl / 7 % 4 = 1∨cl / 7 % 4 = 2∨cl / 7 % 4 = 3 by omega) with h | h | h | h
         · rw [h];exact ⟨0,by decide,by decide,rfl⟩
         · rw [h];exact ⟨0,by decide,by decide,rfl⟩
         · rw [h];exact ⟨0,by decide,by decide,rfl⟩
         · rw [h];exact ⟨3,by decide,by decide,rfl⟩
       refine pf (az.of ah) hat ?_
       have s4:=s3.trans (aq (o:=.lst [V.int 0,V.int 0,V.int 0,V.int 3]) nl0)
       have hld4:=aC (o:=.lst [V.int 0,V.int 0,V.int 0,V.int 3]) hld nl0
       have hsl4:=aC (o:=.lst [V.int 0,V.int 0,V.int 0,V.int 3]) hsl nl0
       generalize (upd HD l0 (.lst [V.int 0,V.int 0,V.int 0,V.int 3])) = H4 at s4 hld4 hsl4 ⊢
       walk_at "rk"
       refine .inr ⟨_,rfl,?_⟩
       obtain ⟨y, y0, y1, hy, hpos⟩ : ∃ y : Int, 0 ≤ y ∧ y ≤ 1 ∧ (if decide (V.int m = V.int 0) = true then (1 : Int) else 0) = y ∧ 0 < m + x + y := by
         by_cases e:m = 0
         · exact ⟨1,by decide,by decide,by rw [e];rfl,by omega⟩
         · exact ⟨0,by decide,by decide,by rw [decide_eq_false (fun z=>e (V.int.inj z))];rfl,by omega⟩
       rw [hy]
       walk_at "rk"
       refine .inr ⟨_,rfl,?_⟩
       obtain ⟨z, z0, z1, hz⟩ : ∃ z : Int, 0 ≤ z ∧ z ≤ 1 ∧ (if decide (V.int (cl / 7 % 4) = V.int 3) = true then (1 : Int) else 0) = z := by
         split
         · exact ⟨1,by decide,by decide,rfl⟩
         · exact ⟨0,by decide,by decide,rfl⟩
       rw [hz]
       walk_at "rk"
       have v0:=Int.emod_nonneg (cl / 10) (show m + x + y ≠ 0 by omega)
       have v1:=Int.emod_lt_of_pos (cl / 10) hpos
       obtain ⟨ls',e',L',n'⟩:=wc (c:=cl % (m + 3) - 1) (r:=cl / 10 % (m + x + y) - z) hls (by omega) (by omega) (by omega)
       refine kh hld4 (by unfold aR;rw [List.length_map,sizeLine_eq];omega) ?_
       rw [e']
       exact ⟨ls',_,_,fz s4 nld,by rw [ao hldn];exact hsl4,rfl,ah,L',by omega⟩
     · walk_at "rk"
       refine eY (fun g2=>?_) (fun g2=>?_)
       · walk_at "rk"
         refine eY (fun g3=>?_) (fun g3=>?_)
         · have hk : (cl % (m + 3) - 1).toNat < prs.length := by omega
           have hpi:prs[(cl % (m + 3) - 1).toNat]? = some prs[(cl % (m + 3) - 1).toNat]:=List.getElem?_eq_getElem hk
           have hri:rs[(cl % (m + 3) - 1).toNat]? = some (rs[(cl % (m + 3) - 1).toNat]'(by rw [← hr2.1];exact hk)):=List.getElem?_eq_getElem _
           have hrow:=(hr2.same s3).2 _ _ _ hpi hri
           have hoki:=ay _ (List.getElem_mem (by rw [← hr2.1];exact hk))
           generalize prs[(cl % (m + 3) - 1).toNat] = p0 at hpi hrow
           generalize (rs[(cl % (m + 3) - 1).toNat]'(by rw [← hr2.1];exact hk)) = r at hri hrow hoki
           have hat : cD (prs.map V.ref) (cl % (m + 3) - 1) = some (.ref p0) := by
             rw [show cl % (m + 3) - 1 = (((cl % (m + 3) - 1).toNat:Nat):Int) by omega]
             exact bL (by rw [List.getElem?_map,hpi];rfl)
           have hlc3:=s3 _ _ hlc
           obtain ⟨t',ht1,ht2,_⟩:=gy T hoki.2 hrow
           walk_at "rk"
           refine gk (fun z=>nomatch z) ht1 ht2 ?_
           cases hcall:r.isCall with
           | false =>
             walk_at "rk"
             exact ⟨ls,_,_,s3,hsl,rfl,hld,hls,by omega⟩
           | true =>
             clear hat
             walk_at "rk"
             rename_i l0 nl0
             obtain ⟨x, x0, x3, hat⟩ : ∃ x : Int, 0 ≤ x ∧ x ≤ 3 ∧ cD [V.int 0, V.int 0, V.int 0, V.int 3] (cl / 7 % 4) = some (.int x) := by
               rcases (show cl / 7 % 4 = 0∨cl / 7 % 4 = 1∨cl / 7 % 4 = 2∨cl / 7 % 4 = 3 by omega) with h | h | h | h
               · rw [h];exact ⟨0,by decide,by decide,rfl⟩
               · rw [h];exact ⟨0,by decide,by decide,rfl⟩
               · rw [h];exact ⟨0,by decide,by decide,rfl⟩
               · rw [h];exact ⟨3,by decide,by decide,rfl⟩
             refine pf (az.of ah) hat ?_
             have s4:=s3.trans (aq (o:=.lst [V.int 0,V.int 0,V.int 0,V.int 3]) nl0)
             have hld4:=aC (o:=.lst [V.int 0,V.int 0,V.int 0,V.int 3]) hld nl0
             have hsl4:=aC (o:=.lst [V.int 0,V.int 0,V.int 0,V.int 3]) hsl nl0
             generalize (upd HD l0 (.lst [V.int 0,V.int 0,V.int 0,V.int 3])) = H4 at s4 hld4 hsl4 ⊢
             walk_at "rk"
             refine .inr ⟨_,rfl,?_⟩
             obtain ⟨y, y0, y1, hy, hpos⟩ : ∃ y : Int, 0 ≤ y ∧ y ≤ 1 ∧ (if decide (V.int m = V.int 0) = true then (1 : Int) else 0) = y ∧ 0 < m + x + y := by
               by_cases e:m = 0
               · exact ⟨1,by decide,by decide,by rw [e];rfl,by omega⟩
               · exact ⟨0,by decide,by decide,by rw [decide_eq_false (fun z=>e (V.int.inj z))];rfl,by omega⟩
             rw [hy]
             walk_at "rk"
             refine .inr ⟨_,rfl,?_⟩
             obtain ⟨z, z0, z1, hz⟩ : ∃ z : Int, 0 ≤ z ∧ z ≤ 1 ∧ (if decide (V.int (cl / 7 % 4) = V.int 3) = true then (1 : Int) else 0) = z := by
               split
               · exact ⟨1,by decide,by decide,rfl⟩
               · exact ⟨0,by decide,by decide,rfl⟩
             rw [hz]
             walk_at "rk"
             have v0:=Int.emod_nonneg (cl / 10) (show m + x + y ≠ 0 by omega)
             have v1:=Int.emod_lt_of_pos (cl / 10) hpos
             obtain ⟨ls',e',L',n'⟩:=wc (c:=cl % (m + 3) - 1) (r:=cl / 10 % (m + x + y) - z) hls (by omega) (by omega) (by omega)
             refine kh hld4 (by unfold aR;rw [List.length_map,sizeLine_eq];omega) ?_
             rw [e']
             exact ⟨ls',_,_,fz s4 nld,by rw [ao hldn];exact hsl4,rfl,ah,L',by omega⟩
         · walk_at "rk"
           exact ⟨ls,_,_,s3,hsl,rfl,hld,hls,by omega⟩
       · walk_at "rk"
         exact ⟨ls,_,_,s3,hsl,rfl,hld,hls,by omega⟩
   · rintro σ HD ⟨ls, u4, u5, s3, hsl, rfl, hld, hls, hli⟩
     rw [List.length_map] at hli
     have hlc3:=s3 _ _ hlc
     have hr3:=hr2.same s3
     have hli3:ls.length ≤ 3:=by omega
     have nldH:H ld = none:=aU sH nld
     clear hsl hli hcs sn hldn s3 hlc hr2 hS1 nld nlsl hh sH
     walk_at "rk"
     exact BJ (P:=P) (w:=w) (base:=base) T q m0 m10 hl ay hld hls hlc3 hr3 hli3 nldH
end
theorem iC {K : PySem.W.Frag} {x qual : Str} {st : Stmt} {f da : Addr} {n : Nat} {oc dc : Value} {od an dd : Option Addr} {osl dl : Array (Option Value)} {kV doc pm cdv ct : Value} (l : K.lookup f = some ⟨oc, od, .func (PySem.W.fnOf x qual (ax st) (au st) (ae st) (.ref da) kV doc pm an cdv ct), osl⟩)
   (d:K.lookup da = some ⟨dc,dd,.seq #[.none] n,dl⟩) (c:PySem.W.codeIn K cdv qual = true) (k:PySem.W.keepIn K (.ref f) = true):gA K x qual st f (PySem.W.fnOf x qual (ax st) (au st) (ae st) (.ref da) kV doc pm an cdv ct):=FU l ⟨d,n,rfl⟩ c k
theorem yI {K : PySem.W.Frag} {x qual : Str} {st : Stmt} {f : Addr} {fd : FuncData} {ps : List Str} (F : gA K x qual st f fd)
   (h:∀ (da:Addr) (kV doc pm:Value) (an:Option Addr) (cdv ct:Value) (us:List Value),us.length = ps.length→∃ k:Option (Array Value)→Sem (List (Str×Value)),bindArgs (PySem.W.fnOf x qual (ax st) (au st) (ae st) (.ref da) kV doc pm an cdv ct) ⟨us,[]⟩ = seqItems? (.ref da) >>= k∧k (some #[.none]) = pure (ps.zip us)):Binds K fd ps []:=by
 obtain ⟨oc,od,da,kV,doc,pm,an,cdv,ct,osl,o,n,rfl,lk,hcd,ld,ed⟩:=F.ex
 intro s us KX hl
 rw [List.append_nil] at hl ⊢
 obtain ⟨k,h1,h2⟩:=h da kV doc pm an cdv ct us hl
 exact .of_defaults rfl (KX _ _ ld) ed h1 h2
set_option maxHeartbeats 8000000 in
theorem Hy {K : PySem.W.Frag} {h : Heap} {mg : Str → Option Value} {fa : Addr} (X : K.In h) (G : h.Ns mainGlobals mg) (hfa : mg "law" = some (.ref fa))
   {t_FIRST_CELL_BIT:Tok}
   {tk1:Tok}
   {tk2:Tok}
   {tk3:Tok}
   {od4:Option Addr} {nn4:Nat} {sl4:Array (Option Value)}
   {cQ:Addr}
   {t_LOST_BY_CALL:Tok}
   {tk5:Tok}
   {tk6:Tok}
   {tk7:Tok}
   {tk8:Tok}
   {od9:Option Addr} {nn9:Nat} {sl9:Array (Option Value)}
   {di:Addr}
   {tk10:Tok}
   {tk11:Tok}
   {od12:Option Addr} {nn12:Nat} {sl12:Array (Option Value)}
   {tk13:Tok}
   {tk14:Tok}
   {tk15:Tok}
   {od16:Option Addr} {nn16:Nat} {sl16:Array (Option Value)}
   {d7:Addr}
   {q0_START:Addr}
   {t_TOP_BOX:Tok}
   {t_TOP_CELLS:Tok}
   {t_TOP_TARGET:Tok}
   {t_TOP_VALUE:Tok}
   {aK:Addr}
   {aJ:Addr}
   {aD:Addr}
   {a8:Addr}
   {dS:Addr}
   {aY:Addr}
   {aZ:Addr}
   {nq:Addr}
   {bx:Addr}
   {bf:Addr}
   {bw:Addr}
   {f17:Addr} {od17 an17:Option Addr} {sl17:Array (Option Value)} {oc17 kV17 dc17 pm17 cd17 ct17:Value}
   {da17:Addr} {dc17':Value} {dd17:Option Addr} {dn17:Nat} {dl17:Array (Option Value)}
   {f18:Addr} {od18 an18:Option Addr} {sl18:Array (Option Value)} {oc18 kV18 dc18 pm18 cd18 ct18:Value}
   {f19:Addr} {od19 an19:Option Addr} {sl19:Array (Option Value)} {oc19 kV19 dc19 pm19 cd19 ct19:Value}
   {f20:Addr} {od20 an20:Option Addr} {sl20:Array (Option Value)} {oc20 kV20 dc20 pm20 cd20 ct20:Value}
   {f21:Addr} {od21 an21:Option Addr} {sl21:Array (Option Value)} {oc21 kV21 dc21 pm21 cd21 ct21:Value}
   {f22:Addr} {od22 an22:Option Addr} {sl22:Array (Option Value)} {oc22 kV22 dc22 pm22 cd22 ct22:Value}
   {f23:Addr} {od23 an23:Option Addr} {sl23:Array (Option Value)} {oc23 kV23 dc23 pm23 cd23 ct23:Value}
   {f24:Addr} {od24 an24:Option Addr} {sl24:Array (Option Value)} {oc24 kV24 dc24 pm24 cd24 ct24:Value}
   {f25:Addr} {od25 an25:Option Addr} {sl25:Array (Option Value)} {oc25 kV25 dc25 pm25 cd25 ct25:Value}
   {f26:Addr} {od26 an26:Option Addr} {sl26:Array (Option Value)} {oc26 kV26 dc26 pm26 cd26 ct26:Value}
   {f27:Addr} {od27 an27:Option Addr} {sl27:Array (Option Value)} {oc27 kV27 dc27 pm27 cd27 ct27:Value}
   {f28:Addr} {od28 an28:Option Addr} {sl28:Array (Option Value)} {oc28 kV28 dc28 pm28 cd28 ct28:Value}
   {f29:Addr} {od29 an29:Option Addr} {sl29:Array (Option Value)} {oc29 kV29 dc29 pm29 cd29 ct29:Value}
   {f30:Addr} {od30 an30:Option Addr} {sl30:Array (Option Value)} {oc30 kV30 dc30 pm30 cd30 ct30:Value}
   {f31:Addr} {od31 an31:Option Addr} {sl31:Array (Option Value)} {oc31 kV31 dc31 pm31 cd31 ct31:Value}
   {f32:Addr} {od32 an32:Option Addr} {sl32:Array (Option Value)} {oc32 kV32 dc32 pm32 cd32 ct32:Value}
   {f33:Addr} {od33 an33:Option Addr} {sl33:Array (Option Value)} {oc33 kV33 dc33 pm33 cd33 ct33:Value}
   {f34:Addr} {od34 an34:Option Addr} {sl34:Array (Option Value)} {oc34 kV34 dc34 pm34 cd34 ct34:Value}
   {f35:Addr} {od35 an35:Option Addr} {sl35:Array (Option Value)} {oc35 kV35 dc35 pm35 cd35 ct35:Value}
   {f36:Addr} {od36 an36:Option Addr} {sl36:Array (Option Value)} {oc36 kV36 dc36 pm36 cd36 ct36:Value}
   {f37:Addr} {od37 an37:Option Addr} {sl37:Array (Option Value)} {oc37 kV37 dc37 pm37 cd37 ct37:Value}
   {f38:Addr} {od38 an38:Option Addr} {sl38:Array (Option Value)} {oc38 kV38 dc38 pm38 cd38 ct38:Value}
   {f39:Addr} {od39 an39:Option Addr} {sl39:Array (Option Value)} {oc39 kV39 dc39 pm39 cd39 ct39:Value}
   {f40:Addr} {od40 an40:Option Addr} {sl40:Array (Option Value)} {oc40 kV40 dc40 pm40 cd40 ct40:Value}
   {f41:Addr} {od41 an41:Option Addr} {sl41:Array (Option Value)} {oc41 kV41 dc41 pm41 cd41 ct41:Value}
   {f42:Addr} {od42 an42:Option Addr} {sl42:Array (Option Value)} {oc42 kV42 dc42 pm42 cd42 ct42:Value}
   {f43:Addr} {od43 an43:Option Addr} {sl43:Array (Option Value)} {oc43 kV43 dc43 pm43 cd43 ct43:Value}
   {f44:Addr} {od44 an44:Option Addr} {sl44:Array (Option Value)} {oc44 kV44 dc44 pm44 cd44 ct44:Value}
   {f45:Addr} {od45 an45:Option Addr} {sl45:Array (Option Value)} {oc45 kV45 dc45 pm45 cd45 ct45:Value}
   {f46:Addr} {od46 an46:Option Addr} {sl46:Array (Option Value)} {oc46 kV46 dc46 pm46 cd46 ct46:Value}
   {f47:Addr} {od47 an47:Option Addr} {sl47:Array (Option Value)} {oc47 kV47 dc47 pm47 cd47 ct47:Value}
   {f48:Addr} {od48 an48:Option Addr} {sl48:Array (Option Value)} {oc48 kV48 dc48 pm48 cd48 ct48:Value}
   {f49:Addr} {od49 an49:Option Addr} {sl49:Array (Option Value)} {oc49 kV49 dc49 pm49 cd49 ct49:Value}
   {f50:Addr} {od50 an50:Option Addr} {sl50:Array (Option Value)} {oc50 kV50 dc50 pm50 cd50 ct50:Value}
   {f51:Addr} {od51 an51:Option Addr} {sl51:Array (Option Value)} {oc51 kV51 dc51 pm51 cd51 ct51:Value}
   {f52:Addr} {od52 an52:Option Addr} {sl52:Array (Option Value)} {oc52 kV52 dc52 pm52 cd52 ct52:Value}
   {f53:Addr} {od53 an53:Option Addr} {sl53:Array (Option Value)} {oc53 kV53 dc53 pm53 cd53 ct53:Value}
   {f54:Addr} {od54 an54:Option Addr} {sl54:Array (Option Value)} {oc54 kV54 dc54 pm54 cd54 ct54:Value}
   {f55:Addr} {od55 an55:Option Addr} {sl55:Array (Option Value)} {oc55 kV55 dc55 pm55 cd55 ct55:Value}
   {f56:Addr} {od56 an56:Option Addr} {sl56:Array (Option Value)} {oc56 kV56 dc56 pm56 cd56 ct56:Value}
   {f57:Addr} {od57 an57:Option Addr} {sl57:Array (Option Value)} {oc57 kV57 dc57 pm57 cd57 ct57:Value}
   {f58:Addr} {od58 an58:Option Addr} {sl58:Array (Option Value)} {oc58 kV58 dc58 pm58 cd58 ct58:Value}
   {f59:Addr} {od59 an59:Option Addr} {sl59:Array (Option Value)} {oc59 kV59 dc59 pm59 cd59 ct59:Value}
   {f60:Addr} {od60 an60:Option Addr} {sl60:Array (Option Value)} {oc60 kV60 dc60 pm60 cd60 ct60:Value}
   {f61:Addr} {od61 an61:Option Addr} {sl61:Array (Option Value)} {oc61 kV61 dc61 pm61 cd61 ct61:Value}
   {f62:Addr} {od62 an62:Option Addr} {sl62:Array (Option Value)} {oc62 kV62 dc62 pm62 cd62 ct62:Value}
   {f63:Addr} {od63 an63:Option Addr} {sl63:Array (Option Value)} {oc63 kV63 dc63 pm63 cd63 ct63:Value}
   {f64:Addr} {od64 an64:Option Addr} {sl64:Array (Option Value)} {oc64 kV64 dc64 pm64 cd64 ct64:Value}
   {f65:Addr} {od65 an65:Option Addr} {sl65:Array (Option Value)} {oc65 kV65 dc65 pm65 cd65 ct65:Value}
   {f66:Addr} {od66 an66:Option Addr} {sl66:Array (Option Value)} {oc66 kV66 dc66 pm66 cd66 ct66:Value}
   {f67:Addr} {od67 an67:Option Addr} {sl67:Array (Option Value)} {oc67 kV67 dc67 pm67 cd67 ct67:Value}
   {f68:Addr} {od68 an68:Option Addr} {sl68:Array (Option Value)} {oc68 kV68 dc68 pm68 cd68 ct68:Value}
   {f69:Addr} {od69 an69:Option Addr} {sl69:Array (Option Value)} {oc69 kV69 dc69 pm69 cd69 ct69:Value}
   {f70:Addr} {od70 an70:Option Addr} {sl70:Array (Option Value)} {oc70 kV70 dc70 pm70 cd70 ct70:Value}
   {f71:Addr} {od71 an71:Option Addr} {sl71:Array (Option Value)} {oc71 kV71 dc71 pm71 cd71 ct71:Value}
   {f72:Addr} {od72 an72:Option Addr} {sl72:Array (Option Value)} {oc72 kV72 dc72 pm72 cd72 ct72:Value}
   {f73:Addr} {od73 an73:Option Addr} {sl73:Array (Option Value)} {oc73 kV73 dc73 pm73 cd73 ct73:Value}
   {da73:Addr} {dc73':Value} {dd73:Option Addr} {dn73:Nat} {dl73:Array (Option Value)}
   {f74:Addr} {od74 an74:Option Addr} {sl74:Array (Option Value)} {oc74 kV74 dc74 pm74 cd74 ct74:Value}
   {f75:Addr} {od75 an75:Option Addr} {sl75:Array (Option Value)} {oc75 kV75 dc75 pm75 cd75 ct75:Value}
   {f76:Addr} {od76 an76:Option Addr} {sl76:Array (Option Value)} {oc76 kV76 dc76 pm76 cd76 ct76:Value}
   {f77:Addr} {od77 an77:Option Addr} {sl77:Array (Option Value)} {oc77 kV77 dc77 pm77 cd77 ct77:Value}
   {f78:Addr} {od78 an78:Option Addr} {sl78:Array (Option Value)} {oc78 kV78 dc78 pm78 cd78 ct78:Value}
   {f79:Addr} {od79 an79:Option Addr} {sl79:Array (Option Value)} {oc79 kV79 dc79 pm79 cd79 ct79:Value}
   {f80:Addr} {od80 an80:Option Addr} {sl80:Array (Option Value)} {oc80 kV80 dc80 pm80 cd80 ct80:Value}
   (nv:PySem.W.nsIn K mainGlobals "all" = some none)
   (nB:PySem.W.nsIn K mainGlobals "any" = some none)
   (jH:PySem.W.nsIn K mainGlobals "dict" = some none)
   (jI:PySem.W.nsIn K mainGlobals "int" = some none)
   (bh:PySem.W.nsIn K mainGlobals "isinstance" = some none)
   (cu:PySem.W.nsIn K mainGlobals "len" = some none)
   (hG:PySem.W.nsIn K mainGlobals "list" = some none)
   (fj:PySem.W.nsIn K mainGlobals "range" = some none)
   (iB:PySem.W.nsIn K mainGlobals "sorted" = some none)
   (jM:PySem.W.nsIn K mainGlobals "zip" = some none)
   (cI:PySem.W.nsIn K mainGlobals "FIRST_CELL_BIT" = some (some (Value.int 8 t_FIRST_CELL_BIT)))
   (jF:PySem.W.nsIn K mainGlobals "KEPT_BOXES" = some (some (.ref cQ)))
   (iU:K.lookup cQ = some ⟨.type "tuple",od4,.seq #[.int 4 tk1,.int 5 tk2,.int 6 tk3] nn4,sl4⟩)
   (dq:PySem.W.nsIn K mainGlobals "LOST_BY_CALL" = some (some (Value.int 143 t_LOST_BY_CALL)))
   (jR:PySem.W.nsIn K mainGlobals "SET_NAMES" = some (some (.ref di)))
   (jj:K.lookup di = some ⟨.type "tuple",od9,.seq #[.str "back" tk5,.int 4 tk6,.int 5 tk7,.int 6 tk8] nn9,sl9⟩)
   (qr:PySem.W.nsIn K mainGlobals "START" = some (some (.ref d7)))
   (mK:K.lookup d7 = some ⟨.type "tuple",od12,.seq #[.int 0 tk10,.int 128 tk11,.ref q0_START] nn12,sl12⟩)
   (mR:K.lookup q0_START = some ⟨.type "tuple",od16,.seq #[.int 16 tk13,.int 32 tk14,.int 64 tk15] nn16,sl16⟩)
   (eg:PySem.W.nsIn K mainGlobals "TOP_BOX" = some (some (Value.int 7 t_TOP_BOX)))
   (dk:PySem.W.nsIn K mainGlobals "TOP_CELLS" = some (some (Value.int 4000 t_TOP_CELLS)))
   (cR:PySem.W.nsIn K mainGlobals "TOP_TARGET" = some (some (Value.int 2000 t_TOP_TARGET)))
   (fL:PySem.W.nsIn K mainGlobals "TOP_VALUE" = some (some (Value.int 4294967295 t_TOP_VALUE)))
   (jv:PySem.W.nsIn K mainGlobals "Back" = some (some (.ref aK)))
   (ix:PySem.W.nsIn K mainGlobals "Branch" = some (some (.ref aJ)))
   (du:PySem.W.nsIn K mainGlobals "Call" = some (some (.ref aD)))
   (j_:PySem.W.nsIn K mainGlobals "Drop" = some (some (.ref a8)))
   (fb:PySem.W.nsIn K mainGlobals "FrameError" = some (some (.ref dS)))
   (j0:PySem.W.nsIn K mainGlobals "Grow" = some (some (.ref aY)))
   (j5:PySem.W.nsIn K mainGlobals "Jump" = some (some (.ref aZ)))
   (j3:PySem.W.nsIn K mainGlobals "NoRow" = some (some (.ref nq)))
   (gU:PySem.W.nsIn K mainGlobals "NoTable" = some (some (.ref bx)))
   (ni:PySem.W.nsIn K mainGlobals "Set" = some (some (.ref bf)))
   (i7:PySem.W.nsIn K mainGlobals "Table" = some (some (.ref bw)))
   (ou:PySem.W.plainGet K bw Str.empty = true)
   (oJ:PySem.W.hasDictIn K bw = true)
   (oT:PySem.W.plainOver K bw = true)
   (oE:PySem.W.findIn K (.ref bw) "__setattr__" = some (some (.builtin "object.__setattr__")))
   (jC:PySem.W.makesIn K bw = true)
   (oB:PySem.W.keepIn K (.ref bw) = true)
   (cX:PySem.W.findIn K (.ref bw) "entries" = some none)
   (cG:PySem.W.findIn K (.ref bw) "landings" = some none)
   (J9:PySem.W.findIn K (.ref bw) "__init__" = some (some (.ref f17)))
   (HJ:PySem.W.isFn K (.ref f17) = true)
   (zE:K.lookup f17 = some ⟨oc17,od17,.func (PySem.W.fnOf "__init__" "Table.__init__" (ax cL) (au cL) (ae cL) (.ref da17) kV17 dc17 pm17 an17 cd17 ct17),sl17⟩)
   (yR:K.lookup da17 = some ⟨dc17',dd17,.seq #[.none] dn17,dl17⟩)
   (zY:PySem.W.codeIn K cd17 "Table.__init__" = true) (y_:PySem.W.keepIn K (.ref f17) = true)
   (qI:PySem.W.plainGet K aK Str.empty = true)
   (qR:PySem.W.hasDictIn K aK = true)
   (rN:PySem.W.plainOver K aK = true)
   (qL:PySem.W.findIn K (.ref aK) "__setattr__" = some (some (.builtin "object.__setattr__")))
   (i8:PySem.W.makesIn K aK = true)
   (rp:PySem.W.keepIn K (.ref aK) = true)
   (gi:PySem.W.findIn K (.ref aK) "box" = some none)
   (Hb:PySem.W.findIn K (.ref aK) "__init__" = some (some (.ref f18)))
   (JD:PySem.W.isFn K (.ref f18) = true)
   (Fm:K.lookup f18 = some ⟨oc18,od18,.func (PySem.W.fnOf "__init__" "Back.__init__" (ax eS) (au eS) (ae eS) .none kV18 dc18 pm18 an18 cd18 ct18),sl18⟩)
   (CT:PySem.W.codeIn K cd18 "Back.__init__" = true) (Dx:PySem.W.keepIn K (.ref f18) = true)
   (HN:PySem.W.findIn K (.ref aK) "goes" = some (some (.ref f19)))
   (Hj:PySem.W.isFn K (.ref f19) = true)
   (C0:K.lookup f19 = some ⟨oc19,od19,.func (PySem.W.fnOf "goes" "Back.goes" (ax eR) (au eR) (ae eR) .none kV19 dc19 pm19 an19 cd19 ct19),sl19⟩)
   (Dd:PySem.W.codeIn K cd19 "Back.goes" = true) (yZ:PySem.W.keepIn K (.ref f19) = true)
   (Kg:PySem.W.findIn K (.ref aK) "height" = some (some (.ref f20)))
   (Jx:PySem.W.isFn K (.ref f20) = true)
   (Fu:K.lookup f20 = some ⟨oc20,od20,.func (PySem.W.fnOf "height" "Row.height" (ax aB) (au aB) (ae aB) .none kV20 dc20 pm20 an20 cd20 ct20),sl20⟩)
   (Fd:PySem.W.codeIn K cd20 "Row.height" = true) (Ag:PySem.W.keepIn K (.ref f20) = true)
   (IQ:PySem.W.findIn K (.ref aK) "keeps" = some (some (.ref f21)))
   (GJ:PySem.W.isFn K (.ref f21) = true)
   (ED:K.lookup f21 = some ⟨oc21,od21,.func (PySem.W.fnOf "keeps" "Row.keeps" (ax aL) (au aL) (ae aL) .none kV21 dc21 pm21 an21 cd21 ct21),sl21⟩)
   (Ce:PySem.W.codeIn K cd21 "Row.keeps" = true) (yn:PySem.W.keepIn K (.ref f21) = true)
   (Kc:PySem.W.findIn K (.ref aK) "told" = some (some (.ref f22)))
   (Jm:PySem.W.isFn K (.ref f22) = true)
   (Dr:K.lookup f22 = some ⟨oc22,od22,.func (PySem.W.fnOf "told" "Back.told" (ax er) (au er) (ae er) .none kV22 dc22 pm22 an22 cd22 ct22),sl22⟩)
   (CL:PySem.W.codeIn K cd22 "Back.told" = true) (yw:PySem.W.keepIn K (.ref f22) = true)
   (vb:PySem.W.plainGet K bf Str.empty = true)
   (tJ:PySem.W.hasDictIn K bf = true)
   (ur:PySem.W.plainOver K bf = true)
   (tX:PySem.W.findIn K (.ref bf) "__setattr__" = some (some (.builtin "object.__setattr__")))
   (km:PySem.W.makesIn K bf = true)
   (t_:PySem.W.keepIn K (.ref bf) = true)
   (gT:PySem.W.findIn K (.ref bf) "box" = some none)
   (fk:PySem.W.findIn K (.ref bf) "number" = some none)
   (GH:PySem.W.findIn K (.ref bf) "__init__" = some (some (.ref f23)))
   (pA:PySem.W.isFn K (.ref f23) = true)
   (D3:K.lookup f23 = some ⟨oc23,od23,.func (PySem.W.fnOf "__init__" "Set.__init__" (ax fA) (au fA) (ae fA) .none kV23 dc23 pm23 an23 cd23 ct23),sl23⟩)
   (Fc:PySem.W.codeIn K cd23 "Set.__init__" = true) (Dy:PySem.W.keepIn K (.ref f23) = true)
   (Ja:PySem.W.findIn K (.ref bf) "goes" = some (some (.ref f24)))
   (wk:PySem.W.isFn K (.ref f24) = true)
   (Fi:K.lookup f24 = some ⟨oc24,od24,.func (PySem.W.fnOf "goes" "Row.goes" (ax bt) (au bt) (ae bt) .none kV24 dc24 pm24 an24 cd24 ct24),sl24⟩)
   (B6:PySem.W.codeIn K cd24 "Row.goes" = true) (zT:PySem.W.keepIn K (.ref f24) = true)
   (Ki:PySem.W.findIn K (.ref bf) "height" = some (some (.ref f25)))
   (vZ:PySem.W.isFn K (.ref f25) = true)
   (E4:K.lookup f25 = some ⟨oc25,od25,.func (PySem.W.fnOf "height" "Row.height" (ax aB) (au aB) (ae aB) .none kV25 dc25 pm25 an25 cd25 ct25),sl25⟩)
   (Dj:PySem.W.codeIn K cd25 "Row.height" = true) (yt:PySem.W.keepIn K (.ref f25) = true)
   (JX:PySem.W.findIn K (.ref bf) "keeps" = some (some (.ref f26)))
   (JI:PySem.W.isFn K (.ref f26) = true)
   (DS:K.lookup f26 = some ⟨oc26,od26,.func (PySem.W.fnOf "keeps" "Set.keeps" (ax ek) (au ek) (ae ek) .none kV26 dc26 pm26 an26 cd26 ct26),sl26⟩)
   (Fl:PySem.W.codeIn K cd26 "Set.keeps" = true) (yp:PySem.W.keepIn K (.ref f26) = true)
   (Jt:PySem.W.findIn K (.ref bf) "told" = some (some (.ref f27)))
   (Jj:PySem.W.isFn K (.ref f27) = true)
   (Ee:K.lookup f27 = some ⟨oc27,od27,.func (PySem.W.fnOf "told" "Set.told" (ax fw) (au fw) (ae fw) .none kV27 dc27 pm27 an27 cd27 ct27),sl27⟩)
   (Eu:PySem.W.codeIn K cd27 "Set.told" = true) (zk:PySem.W.keepIn K (.ref f27) = true)
   (qD:PySem.W.plainGet K aZ Str.empty = true)
   (rE:PySem.W.hasDictIn K aZ = true)
   (rf:PySem.W.plainOver K aZ = true)
   (qi:PySem.W.findIn K (.ref aZ) "__setattr__" = some (some (.builtin "object.__setattr__")))
   (kj:PySem.W.makesIn K aZ = true)
   (qf:PySem.W.keepIn K (.ref aZ) = true)
   (d0:PySem.W.findIn K (.ref aZ) "target" = some none)
   (KN:PySem.W.findIn K (.ref aZ) "__init__" = some (some (.ref f28)))
   (GV:PySem.W.isFn K (.ref f28) = true)
   (Dm:K.lookup f28 = some ⟨oc28,od28,.func (PySem.W.fnOf "__init__" "Jump.__init__" (ax eQ) (au eQ) (ae eQ) .none kV28 dc28 pm28 an28 cd28 ct28),sl28⟩)
   (CO:PySem.W.codeIn K cd28 "Jump.__init__" = true) (CN:PySem.W.keepIn K (.ref f28) = true)
   (IS:PySem.W.findIn K (.ref aZ) "goes" = some (some (.ref f29)))
   (KD:PySem.W.isFn K (.ref f29) = true)
   (CW:K.lookup f29 = some ⟨oc29,od29,.func (PySem.W.fnOf "goes" "Jump.goes" (ax eE) (au eE) (ae eE) .none kV29 dc29 pm29 an29 cd29 ct29),sl29⟩)
   (Fn:PySem.W.codeIn K cd29 "Jump.goes" = true) (zN:PySem.W.keepIn K (.ref f29) = true)
   (HW:PySem.W.findIn K (.ref aZ) "height" = some (some (.ref f30)))
   (IX:PySem.W.isFn K (.ref f30) = true)
   (El:K.lookup f30 = some ⟨oc30,od30,.func (PySem.W.fnOf "height" "Row.height" (ax aB) (au aB) (ae aB) .none kV30 dc30 pm30 an30 cd30 ct30),sl30⟩)
   (CK:PySem.W.codeIn K cd30 "Row.height" = true) (yu:PySem.W.keepIn K (.ref f30) = true)
   (Hi:PySem.W.findIn K (.ref aZ) "keeps" = some (some (.ref f31)))
   (Jk:PySem.W.isFn K (.ref f31) = true)
   (E7:K.lookup f31 = some ⟨oc31,od31,.func (PySem.W.fnOf "keeps" "Row.keeps" (ax aL) (au aL) (ae aL) .none kV31 dc31 pm31 an31 cd31 ct31),sl31⟩)
   (EI:PySem.W.codeIn K cd31 "Row.keeps" = true) (yA:PySem.W.keepIn K (.ref f31) = true)
   (KA:PySem.W.findIn K (.ref aZ) "told" = some (some (.ref f32)))
   (J_:PySem.W.isFn K (.ref f32) = true)
   (DB:K.lookup f32 = some ⟨oc32,od32,.func (PySem.W.fnOf "told" "Jump.told" (ax eN) (au eN) (ae eN) .none kV32 dc32 pm32 an32 cd32 ct32),sl32⟩)
   (Dg:PySem.W.codeIn K cd32 "Jump.told" = true) (AG:PySem.W.keepIn K (.ref f32) = true)
   (mz:PySem.W.plainGet K aJ Str.empty = true)
   (ml:PySem.W.hasDictIn K aJ = true)
   (lY:PySem.W.plainOver K aJ = true)
   (l9:PySem.W.findIn K (.ref aJ) "__setattr__" = some (some (.builtin "object.__setattr__")))
   (iK:PySem.W.makesIn K aJ = true)
   (mm:PySem.W.keepIn K (.ref aJ) = true)
   (fh:PySem.W.findIn K (.ref aJ) "box" = some none)
   (cY:PySem.W.findIn K (.ref aJ) "target" = some none)
   (G0:PySem.W.findIn K (.ref aJ) "__init__" = some (some (.ref f33)))
   (GK:PySem.W.isFn K (.ref f33) = true)
   (D8:K.lookup f33 = some ⟨oc33,od33,.func (PySem.W.fnOf "__init__" "Branch.__init__" (ax c7) (au c7) (ae c7) .none kV33 dc33 pm33 an33 cd33 ct33),sl33⟩)
   (DD:PySem.W.codeIn K cd33 "Branch.__init__" = true) (DX:PySem.W.keepIn K (.ref f33) = true)
   (JL:PySem.W.findIn K (.ref aJ) "goes" = some (some (.ref f34)))
   (wL:PySem.W.isFn K (.ref f34) = true)
   (CG:K.lookup f34 = some ⟨oc34,od34,.func (PySem.W.fnOf "goes" "Branch.goes" (ax c6) (au c6) (ae c6) .none kV34 dc34 pm34 an34 cd34 ct34),sl34⟩)
   (EY:PySem.W.codeIn K cd34 "Branch.goes" = true) (Aa:PySem.W.keepIn K (.ref f34) = true)
   (Ij:PySem.W.findIn K (.ref aJ) "height" = some (some (.ref f35)))
   (wH:PySem.W.isFn K (.ref f35) = true)
   (E6:K.lookup f35 = some ⟨oc35,od35,.func (PySem.W.fnOf "height" "Row.height" (ax aB) (au aB) (ae aB) .none kV35 dc35 pm35 an35 cd35 ct35),sl35⟩)
   (Cp:PySem.W.codeIn K cd35 "Row.height" = true) (yQ:PySem.W.keepIn K (.ref f35) = true)
   (JS:PySem.W.findIn K (.ref aJ) "keeps" = some (some (.ref f36)))
   (Jy:PySem.W.isFn K (.ref f36) = true)
   (Ef:K.lookup f36 = some ⟨oc36,od36,.func (PySem.W.fnOf "keeps" "Row.keeps" (ax aL) (au aL) (ae aL) .none kV36 dc36 pm36 an36 cd36 ct36),sl36⟩)
   (DR:PySem.W.codeIn K cd36 "Row.keeps" = true) (AO:PySem.W.keepIn K (.ref f36) = true)
   (Jd:PySem.W.findIn K (.ref aJ) "told" = some (some (.ref f37)))
   (GZ:PySem.W.isFn K (.ref f37) = true)
   (CZ:K.lookup f37 = some ⟨oc37,od37,.func (PySem.W.fnOf "told" "Branch.told" (ax cZ) (au cZ) (ae cZ) .none kV37 dc37 pm37 an37 cd37 ct37),sl37⟩)
   (Ct:PySem.W.codeIn K cd37 "Branch.told" = true) (Am:PySem.W.keepIn K (.ref f37) = true)
   (pZ:PySem.W.plainGet K aD Str.empty = true)
   (qQ:PySem.W.hasDictIn K aD = true)
   (qw:PySem.W.plainOver K aD = true)
   (qO:PySem.W.findIn K (.ref aD) "__setattr__" = some (some (.builtin "object.__setattr__")))
   (ko:PySem.W.makesIn K aD = true)
   (rF:PySem.W.keepIn K (.ref aD) = true)
   (d6:PySem.W.findIn K (.ref aD) "target" = some none)
   (IJ:PySem.W.findIn K (.ref aD) "__init__" = some (some (.ref f38)))
   (Hx:PySem.W.isFn K (.ref f38) = true)
   (DL:K.lookup f38 = some ⟨oc38,od38,.func (PySem.W.fnOf "__init__" "Call.__init__" (ax el) (au el) (ae el) .none kV38 dc38 pm38 an38 cd38 ct38),sl38⟩)
   (Fp:PySem.W.codeIn K cd38 "Call.__init__" = true) (C1:PySem.W.keepIn K (.ref f38) = true)
   (KR:PySem.W.findIn K (.ref aD) "goes" = some (some (.ref f39)))
   (Iw:PySem.W.isFn K (.ref f39) = true)
   (Cj:K.lookup f39 = some ⟨oc39,od39,.func (PySem.W.fnOf "goes" "Row.goes" (ax bt) (au bt) (ae bt) .none kV39 dc39 pm39 an39 cd39 ct39),sl39⟩)
   (Fw:PySem.W.codeIn K cd39 "Row.goes" = true) (Ad:PySem.W.keepIn K (.ref f39) = true)
   (IA:PySem.W.findIn K (.ref aD) "height" = some (some (.ref f40)))
   (Kn:PySem.W.isFn K (.ref f40) = true)
   (C2:K.lookup f40 = some ⟨oc40,od40,.func (PySem.W.fnOf "height" "Row.height" (ax aB) (au aB) (ae aB) .none kV40 dc40 pm40 an40 cd40 ct40),sl40⟩)
   (Ci:PySem.W.codeIn K cd40 "Row.height" = true) (Aj:PySem.W.keepIn K (.ref f40) = true)
   (Ku:PySem.W.findIn K (.ref aD) "keeps" = some (some (.ref f41)))
   (Jf:PySem.W.isFn K (.ref f41) = true)
   (CC:K.lookup f41 = some ⟨oc41,od41,.func (PySem.W.fnOf "keeps" "Call.keeps" (ax dP) (au dP) (ae dP) .none kV41 dc41 pm41 an41 cd41 ct41),sl41⟩)
   (C6:PySem.W.codeIn K cd41 "Call.keeps" = true) (zO:PySem.W.keepIn K (.ref f41) = true)
   (JZ:PySem.W.findIn K (.ref aD) "told" = some (some (.ref f42)))
   (Kl:PySem.W.isFn K (.ref f42) = true)
   (Ck:K.lookup f42 = some ⟨oc42,od42,.func (PySem.W.fnOf "told" "Call.told" (ax eO) (au eO) (ae eO) .none kV42 dc42 pm42 an42 cd42 ct42),sl42⟩)
   (Cu:PySem.W.codeIn K cd42 "Call.told" = true) (z8:PySem.W.keepIn K (.ref f42) = true)
   (qv:PySem.W.plainGet K aY Str.empty = true)
   (qZ:PySem.W.hasDictIn K aY = true)
   (rA:PySem.W.plainOver K aY = true)
   (qd:PySem.W.findIn K (.ref aY) "__setattr__" = some (some (.builtin "object.__setattr__")))
   (j7:PySem.W.makesIn K aY = true)
   (rB:PySem.W.keepIn K (.ref aY) = true)
   (fM:PySem.W.findIn K (.ref aY) "many" = some none)
   (JW:PySem.W.findIn K (.ref aY) "__init__" = some (some (.ref f43)))
   (HL:PySem.W.isFn K (.ref f43) = true)
   (EV:K.lookup f43 = some ⟨oc43,od43,.func (PySem.W.fnOf "__init__" "Grow.__init__" (ax eK) (au eK) (ae eK) .none kV43 dc43 pm43 an43 cd43 ct43),sl43⟩)
   (Ed:PySem.W.codeIn K cd43 "Grow.__init__" = true) (Eg:PySem.W.keepIn K (.ref f43) = true)
   (Jo:PySem.W.findIn K (.ref aY) "goes" = some (some (.ref f44)))
   (Jz:PySem.W.isFn K (.ref f44) = true)
   (EF:K.lookup f44 = some ⟨oc44,od44,.func (PySem.W.fnOf "goes" "Row.goes" (ax bt) (au bt) (ae bt) .none kV44 dc44 pm44 an44 cd44 ct44),sl44⟩)
   (DJ:PySem.W.codeIn K cd44 "Row.goes" = true) (zD:PySem.W.keepIn K (.ref f44) = true)
   (Kq:PySem.W.findIn K (.ref aY) "height" = some (some (.ref f45)))
   (wx:PySem.W.isFn K (.ref f45) = true)
   (DK:K.lookup f45 = some ⟨oc45,od45,.func (PySem.W.fnOf "height" "Grow.height" (ax c_) (au c_) (ae c_) .none kV45 dc45 pm45 an45 cd45 ct45),sl45⟩)
   (DE:PySem.W.codeIn K cd45 "Grow.height" = true) (y8:PySem.W.keepIn K (.ref f45) = true)
   (Jq:PySem.W.findIn K (.ref aY) "keeps" = some (some (.ref f46)))
   (GI:PySem.W.isFn K (.ref f46) = true)
   (EU:K.lookup f46 = some ⟨oc46,od46,.func (PySem.W.fnOf "keeps" "Row.keeps" (ax aL) (au aL) (ae aL) .none kV46 dc46 pm46 an46 cd46 ct46),sl46⟩)
   (Ez:PySem.W.codeIn K cd46 "Row.keeps" = true) (AD:PySem.W.keepIn K (.ref f46) = true)
   (Kd:PySem.W.findIn K (.ref aY) "told" = some (some (.ref f47)))
   (JO:PySem.W.isFn K (.ref f47) = true)
   (B_:K.lookup f47 = some ⟨oc47,od47,.func (PySem.W.fnOf "told" "Grow.told" (ax eA) (au eA) (ae eA) .none kV47 dc47 pm47 an47 cd47 ct47),sl47⟩)
   (Dk:PySem.W.codeIn K cd47 "Grow.told" = true) (zd:PySem.W.keepIn K (.ref f47) = true)
   (rM:PySem.W.plainGet K a8 Str.empty = true)
   (qm:PySem.W.hasDictIn K a8 = true)
   (rK:PySem.W.plainOver K a8 = true)
   (qY:PySem.W.findIn K (.ref a8) "__setattr__" = some (some (.builtin "object.__setattr__")))
   (j9:PySem.W.makesIn K a8 = true)
   (rJ:PySem.W.keepIn K (.ref a8) = true)
   (gj:PySem.W.findIn K (.ref a8) "box" = some none)
   (JH:PySem.W.findIn K (.ref a8) "__init__" = some (some (.ref f48)))
   (HR:PySem.W.isFn K (.ref f48) = true)
   (EZ:K.lookup f48 = some ⟨oc48,od48,.func (PySem.W.fnOf "__init__" "Drop.__init__" (ax eF) (au eF) (ae eF) .none kV48 dc48 pm48 an48 cd48 ct48),sl48⟩)
   (DZ:PySem.W.codeIn K cd48 "Drop.__init__" = true) (B7:PySem.W.keepIn K (.ref f48) = true)
   (Js:PySem.W.findIn K (.ref a8) "goes" = some (some (.ref f49)))
   (Ic:PySem.W.isFn K (.ref f49) = true)
   (Fq:K.lookup f49 = some ⟨oc49,od49,.func (PySem.W.fnOf "goes" "Drop.goes" (ax eL) (au eL) (ae eL) .none kV49 dc49 pm49 an49 cd49 ct49),sl49⟩)
   (CY:PySem.W.codeIn K cd49 "Drop.goes" = true) (As:PySem.W.keepIn K (.ref f49) = true)
   (IB:PySem.W.findIn K (.ref a8) "height" = some (some (.ref f50)))
   (J8:PySem.W.isFn K (.ref f50) = true)
   (EL:K.lookup f50 = some ⟨oc50,od50,.func (PySem.W.fnOf "height" "Row.height" (ax aB) (au aB) (ae aB) .none kV50 dc50 pm50 an50 cd50 ct50),sl50⟩)
   (ET:PySem.W.codeIn K cd50 "Row.height" = true) (ze:PySem.W.keepIn K (.ref f50) = true)
   (G2:PySem.W.findIn K (.ref a8) "keeps" = some (some (.ref f51)))
   (KG:PySem.W.isFn K (.ref f51) = true)
   (Dz:K.lookup f51 = some ⟨oc51,od51,.func (PySem.W.fnOf "keeps" "Row.keeps" (ax aL) (au aL) (ae aL) .none kV51 dc51 pm51 an51 cd51 ct51),sl51⟩)
   (D5:PySem.W.codeIn K cd51 "Row.keeps" = true) (AS:PySem.W.keepIn K (.ref f51) = true)
   (Hf:PySem.W.findIn K (.ref a8) "told" = some (some (.ref f52)))
   (IC:PySem.W.isFn K (.ref f52) = true)
   (Co:K.lookup f52 = some ⟨oc52,od52,.func (PySem.W.fnOf "told" "Drop.told" (ax et) (au et) (ae et) .none kV52 dc52 pm52 an52 cd52 ct52),sl52⟩)
   (Ei:PySem.W.codeIn K cd52 "Drop.told" = true) (zP:PySem.W.keepIn K (.ref f52) = true)
   (uK:PySem.W.findIn K (.ref bf) "__class__" = some (some (.builtin "object.__class__"))) (tO:PySem.W.mroIn K bf (.type "object") = some true)
   (eB:PySem.W.kitOne K (.ref bf) (.ref aD) = some false)
   (eP:PySem.W.kitOne K (.ref bf) (.ref aK) = some false)
   (p9:PySem.W.findIn K (.ref aY) "__class__" = some (some (.builtin "object.__class__"))) (p_:PySem.W.mroIn K aY (.type "object") = some true)
   (dz:PySem.W.kitOne K (.ref aY) (.ref aD) = some false)
   (dF:PySem.W.kitOne K (.ref aY) (.ref aK) = some false)
   (rj:PySem.W.findIn K (.ref aZ) "__class__" = some (some (.builtin "object.__class__"))) (rg:PySem.W.mroIn K aZ (.type "object") = some true)
   (dJ:PySem.W.kitOne K (.ref aZ) (.ref aD) = some false)
   (dE:PySem.W.kitOne K (.ref aZ) (.ref aK) = some false)
   (mU:PySem.W.findIn K (.ref aJ) "__class__" = some (some (.builtin "object.__class__"))) (mT:PySem.W.mroIn K aJ (.type "object") = some true)
   (cF:PySem.W.kitOne K (.ref aJ) (.ref aD) = some false)
   (cE:PySem.W.kitOne K (.ref aJ) (.ref aK) = some false)
   (qJ:PySem.W.findIn K (.ref aD) "__class__" = some (some (.builtin "object.__class__"))) (qV:PySem.W.mroIn K aD (.type "object") = some true)
   (dQ:PySem.W.kitOne K (.ref aD) (.ref aD) = some true)
   (dI:PySem.W.kitOne K (.ref aD) (.ref aK) = some false)
   (qW:PySem.W.findIn K (.ref aK) "__class__" = some (some (.builtin "object.__class__"))) (qP:PySem.W.mroIn K aK (.type "object") = some true)
   (dH:PySem.W.kitOne K (.ref aK) (.ref aD) = some false)
   (dO:PySem.W.kitOne K (.ref aK) (.ref aK) = some true)
   (qU:PySem.W.findIn K (.ref a8) "__class__" = some (some (.builtin "object.__class__"))) (rG:PySem.W.mroIn K a8 (.type "object") = some true)
   (dw:PySem.W.kitOne K (.ref a8) (.ref aD) = some false)
   (dN:PySem.W.kitOne K (.ref a8) (.ref aK) = some false)
   (lB:PySem.W.specialIn K (.builtin "object.__class__") "__get__" = some (some (.builtin "getset_descriptor.__get__"))) (lI:PySem.W.takesIn K (.builtin "object.__class__") = some true)
   (lb:PySem.W.excIn K bx [.type "ValueError",.type "Exception",.type "BaseException",.type "object"] "ValueError.__new__" = true)
   (kW:(PySem.W.clsIn K bx).isSome = true)
   (kG:PySem.W.findIn K (.ref bx) "__getattribute__" = some (some (.builtin "BaseException.__getattribute__")))
   (k_:PySem.W.findIn K (.ref bx) "__getattr__" = some none)
   (kI:PySem.W.findIn K (.ref bx) "__class__" = some (some (.builtin "object.__class__")))
   (kE:PySem.W.specialIn K (.builtin "object.__class__") "__get__" = some (some (.builtin "getset_descriptor.__get__")))
   (kU:PySem.W.takesIn K (.builtin "object.__class__") = some true)
   (kA:PySem.W.mroIn K bx (.type "object") = some true)
   (kC:PySem.W.mroIn K bx (.type "BaseException") = some true)
   (bP:PySem.W.kitOne K (.ref bx) (.ref dS) = some true)
   (fK:PySem.W.kitOne K (.type "list") (.type "list") = some true)
   (d9:PySem.W.kitOne K (.type "tuple") (.type "tuple") = some true)
   (gq:PySem.W.kitOne K (.type "int") (.type "bool") = some false)
   (Km:PySem.W.nsIn K mainGlobals "bounded" = some (some (.ref f53)))
   (D9:K.lookup f53 = some ⟨oc53,od53,.func (PySem.W.fnOf "bounded" "bounded" (ax fT) (au fT) (ae fT) .none kV53 dc53 pm53 an53 cd53 ct53),sl53⟩)
   (De:PySem.W.codeIn K cd53 "bounded" = true) (E5:PySem.W.keepIn K (.ref f53) = true)
   (Kt:PySem.W.nsIn K mainGlobals "box_place" = some (some (.ref f54)))
   (Ej:K.lookup f54 = some ⟨oc54,od54,.func (PySem.W.fnOf "box_place" "box_place" (ax eu) (au eu) (ae eu) .none kV54 dc54 pm54 an54 cd54 ct54),sl54⟩)
   (DN:PySem.W.codeIn K cd54 "box_place" = true) (D_:PySem.W.keepIn K (.ref f54) = true)
   (Ii:PySem.W.nsIn K mainGlobals "without" = some (some (.ref f55)))
   (Fh:K.lookup f55 = some ⟨oc55,od55,.func (PySem.W.fnOf "without" "without" (ax fR) (au fR) (ae fR) .none kV55 dc55 pm55 an55 cd55 ct55),sl55⟩)
   (Dh:PySem.W.codeIn K cd55 "without" = true) (EC:PySem.W.keepIn K (.ref f55) = true)
   (G8:PySem.W.nsIn K mainGlobals "sets_of" = some (some (.ref f56)))
   (Df:K.lookup f56 = some ⟨oc56,od56,.func (PySem.W.fnOf "sets_of" "sets_of" (ax fW) (au fW) (ae fW) .none kV56 dc56 pm56 an56 cd56 ct56),sl56⟩)
   (D1:PySem.W.codeIn K cd56 "sets_of" = true) (D7:PySem.W.keepIn K (.ref f56) = true)
   (Hn:PySem.W.nsIn K mainGlobals "is_row" = some (some (.ref f57)))
   (Dt:K.lookup f57 = some ⟨oc57,od57,.func (PySem.W.fnOf "is_row" "is_row" (ax gJ) (au gJ) (ae gJ) .none kV57 dc57 pm57 an57 cd57 ct57),sl57⟩)
   (Du:PySem.W.codeIn K cd57 "is_row" = true) (DH:PySem.W.keepIn K (.ref f57) = true)
   (JQ:PySem.W.nsIn K mainGlobals "has_wrong_place" = some (some (.ref f58)))
   (EN:K.lookup f58 = some ⟨oc58,od58,.func (PySem.W.fnOf "has_wrong_place" "has_wrong_place" (ax b_) (au b_) (ae b_) .none kV58 dc58 pm58 an58 cd58 ct58),sl58⟩)
   (Er:PySem.W.codeIn K cd58 "has_wrong_place" = true) (B9:PySem.W.keepIn K (.ref f58) = true)
   (KQ:PySem.W.nsIn K mainGlobals "may_go_back" = some (some (.ref f59)))
   (Fb:K.lookup f59 = some ⟨oc59,od59,.func (PySem.W.fnOf "may_go_back" "may_go_back" (ax c8) (au c8) (ae c8) .none kV59 dc59 pm59 an59 cd59 ct59),sl59⟩)
   (EB:PySem.W.codeIn K cd59 "may_go_back" = true) (Cd:PySem.W.keepIn K (.ref f59) = true)
   (Jp:PySem.W.nsIn K mainGlobals "own_complaint" = some (some (.ref f60)))
   (DG:K.lookup f60 = some ⟨oc60,od60,.func (PySem.W.fnOf "own_complaint" "own_complaint" (ax cy) (au cy) (ae cy) .none kV60 dc60 pm60 an60 cd60 ct60),sl60⟩)
   (DI:PySem.W.codeIn K cd60 "own_complaint" = true) (E3:PySem.W.keepIn K (.ref f60) = true)
   (GS:PySem.W.nsIn K mainGlobals "way_complaint" = some (some (.ref f61)))
   (Fy:K.lookup f61 = some ⟨oc61,od61,.func (PySem.W.fnOf "way_complaint" "way_complaint" (ax cA) (au cA) (ae cA) .none kV61 dc61 pm61 an61 cd61 ct61),sl61⟩)
   (Dn:PySem.W.codeIn K cd61 "way_complaint" = true) (Eo:PySem.W.keepIn K (.ref f61) = true)
   (KL:PySem.W.nsIn K mainGlobals "target_complaint" = some (some (.ref f62)))
   (E1:K.lookup f62 = some ⟨oc62,od62,.func (PySem.W.fnOf "target_complaint" "target_complaint" (ax bR) (au bR) (ae bR) .none kV62 dc62 pm62 an62 cd62 ct62),sl62⟩)
   (EH:PySem.W.codeIn K cd62 "target_complaint" = true) (Cq:PySem.W.keepIn K (.ref f62) = true)
   (Kj:PySem.W.nsIn K mainGlobals "each_once" = some (some (.ref f63)))
   (Cb:K.lookup f63 = some ⟨oc63,od63,.func (PySem.W.fnOf "each_once" "each_once" (ax eJ) (au eJ) (ae eJ) .none kV63 dc63 pm63 an63 cd63 ct63),sl63⟩)
   (C7:PySem.W.codeIn K cd63 "each_once" = true) (DO:PySem.W.keepIn K (.ref f63) = true)
   (J0:PySem.W.nsIn K mainGlobals "row_complaints" = some (some (.ref f64)))
   (CJ:K.lookup f64 = some ⟨oc64,od64,.func (PySem.W.fnOf "row_complaints" "row_complaints" (ax ck) (au ck) (ae ck) .none kV64 dc64 pm64 an64 cd64 ct64),sl64⟩)
   (DM:PySem.W.codeIn K cd64 "row_complaints" = true) (DT:PySem.W.keepIn K (.ref f64) = true)
   (Jh:PySem.W.nsIn K mainGlobals "landing_complaint" = some (some (.ref f65)))
   (Fe:K.lookup f65 = some ⟨oc65,od65,.func (PySem.W.fnOf "landing_complaint" "landing_complaint" (ax bM) (au bM) (ae bM) .none kV65 dc65 pm65 an65 cd65 ct65),sl65⟩)
   (Cg:PySem.W.codeIn K cd65 "landing_complaint" = true) (C8:PySem.W.keepIn K (.ref f65) = true)
   (Ha:PySem.W.nsIn K mainGlobals "checked" = some (some (.ref f66)))
   (CM:K.lookup f66 = some ⟨oc66,od66,.func (PySem.W.fnOf "checked" "checked" (ax f7) (au f7) (ae f7) .none kV66 dc66 pm66 an66 cd66 ct66),sl66⟩)
   (Fk:PySem.W.codeIn K cd66 "checked" = true) (Cw:PySem.W.keepIn K (.ref f66) = true)
   (Jr:PySem.W.nsIn K mainGlobals "ways_on" = some (some (.ref f67)))
   (D0:K.lookup f67 = some ⟨oc67,od67,.func (PySem.W.fnOf "ways_on" "ways_on" (ax fY) (au fY) (ae fY) .none kV67 dc67 pm67 an67 cd67 ct67),sl67⟩)
   (ER:PySem.W.codeIn K cd67 "ways_on" = true) (Fv:PySem.W.keepIn K (.ref f67) = true)
   (H_:PySem.W.nsIn K mainGlobals "reach" = some (some (.ref f68)))
   (Eh:K.lookup f68 = some ⟨oc68,od68,.func (PySem.W.fnOf "reach" "reach" (ax ig) (au ig) (ae ig) .none kV68 dc68 pm68 an68 cd68 ct68),sl68⟩)
   (E2:PySem.W.codeIn K cd68 "reach" = true) (Ey:PySem.W.keepIn K (.ref f68) = true)
   (Ka:PySem.W.nsIn K mainGlobals "heights_of" = some (some (.ref f69)))
   (CQ:K.lookup f69 = some ⟨oc69,od69,.func (PySem.W.fnOf "heights_of" "heights_of" (ax dC) (au dC) (ae dC) .none kV69 dc69 pm69 an69 cd69 ct69),sl69⟩)
   (DY:PySem.W.codeIn K cd69 "heights_of" = true) (DU:PySem.W.keepIn K (.ref f69) = true)
   (HM:PySem.W.nsIn K mainGlobals "narrow" = some (some (.ref f70)))
   (CB:K.lookup f70 = some ⟨oc70,od70,.func (PySem.W.fnOf "narrow" "narrow" (ax gG) (au gG) (ae gG) .none kV70 dc70 pm70 an70 cd70 ct70),sl70⟩)
   (EK:PySem.W.codeIn K cd70 "narrow" = true) (Di:PySem.W.keepIn K (.ref f70) = true)
   (HA:PySem.W.nsIn K mainGlobals "places_of" = some (some (.ref f71)))
   (Es:K.lookup f71 = some ⟨oc71,od71,.func (PySem.W.fnOf "places_of" "places_of" (ax eC) (au eC) (ae eC) .none kV71 dc71 pm71 an71 cd71 ct71),sl71⟩)
   (DF:PySem.W.codeIn K cd71 "places_of" = true) (Ep:PySem.W.keepIn K (.ref f71) = true)
   (IF:PySem.W.nsIn K mainGlobals "entries_of" = some (some (.ref f72)))
   (CI:K.lookup f72 = some ⟨oc72,od72,.func (PySem.W.fnOf "entries_of" "entries_of" (ax dA) (au dA) (ae dA) .none kV72 dc72 pm72 an72 cd72 ct72),sl72⟩)
   (Cr:PySem.W.codeIn K cd72 "entries_of" = true) (CH:PySem.W.keepIn K (.ref f72) = true)
   (GW:PySem.W.nsIn K mainGlobals "guess" = some (some (.ref f73)))
   (AN:K.lookup f73 = some ⟨oc73,od73,.func (PySem.W.fnOf "guess" "guess" (ax gS) (au gS) (ae gS) (.ref da73) kV73 dc73 pm73 an73 cd73 ct73),sl73⟩)
   (yH:K.lookup da73 = some ⟨dc73',dd73,.seq #[.none] dn73,dl73⟩)
   (zX:PySem.W.codeIn K cd73 "guess" = true) (zr:PySem.W.keepIn K (.ref f73) = true)
   (Ky:PySem.W.nsIn K mainGlobals "_law_cell_at" = some (some (.ref f74)))
   (CS:K.lookup f74 = some ⟨oc74,od74,.func (PySem.W.fnOf "_law_cell_at" "_law_cell_at" (ax c9) (au c9) (ae c9) .none kV74 dc74 pm74 an74 cd74 ct74),sl74⟩)
   (Ca:PySem.W.codeIn K cd74 "_law_cell_at" = true) (Fg:PySem.W.keepIn K (.ref f74) = true)
   (Ht:PySem.W.nsIn K mainGlobals "_law_row" = some (some (.ref f75)))
   (DC:K.lookup f75 = some ⟨oc75,od75,.func (PySem.W.fnOf "_law_row" "_law_row" (ax fV) (au fV) (ae fV) .none kV75 dc75 pm75 an75 cd75 ct75),sl75⟩)
   (Fo:PySem.W.codeIn K cd75 "_law_row" = true) (EG:PySem.W.keepIn K (.ref f75) = true)
   (G5:PySem.W.nsIn K mainGlobals "_law_comes" = some (some (.ref f76)))
   (EJ:K.lookup f76 = some ⟨oc76,od76,.func (PySem.W.fnOf "_law_comes" "_law_comes" (ax eU) (au eU) (ae eU) .none kV76 dc76 pm76 an76 cd76 ct76),sl76⟩)
   (CU:PySem.W.codeIn K cd76 "_law_comes" = true) (E9:PySem.W.keepIn K (.ref f76) = true)
   (Kw:PySem.W.nsIn K mainGlobals "_law_starts" = some (some (.ref f77)))
   (B8:K.lookup f77 = some ⟨oc77,od77,.func (PySem.W.fnOf "_law_starts" "_law_starts" (ax dU) (au dU) (ae dU) .none kV77 dc77 pm77 an77 cd77 ct77),sl77⟩)
   (D4:PySem.W.codeIn K cd77 "_law_starts" = true) (CV:PySem.W.keepIn K (.ref f77) = true)
   (JR:PySem.W.nsIn K mainGlobals "_law_guess" = some (some (.ref f78)))
   (Cz:K.lookup f78 = some ⟨oc78,od78,.func (PySem.W.fnOf "_law_guess" "_law_guess" (ax eV) (au eV) (ae eV) .none kV78 dc78 pm78 an78 cd78 ct78),sl78⟩)
   (Ds:PySem.W.codeIn K cd78 "_law_guess" = true) (C3:PySem.W.keepIn K (.ref f78) = true)
   (HZ:PySem.W.nsIn K mainGlobals "_law_long" = some (some (.ref f79)))
   (ES:K.lookup f79 = some ⟨oc79,od79,.func (PySem.W.fnOf "_law_long" "_law_long" (ax fu) (au fu) (ae fu) .none kV79 dc79 pm79 an79 cd79 ct79),sl79⟩)
   (EO:PySem.W.codeIn K cd79 "_law_long" = true) (Ec:PySem.W.keepIn K (.ref f79) = true)
   (DP:PySem.W.nsIn K mainGlobals "law" = some (some (.ref f80)))
   (AF:K.lookup f80 = some ⟨oc80,od80,.func (PySem.W.fnOf "law" "law" (ax gY) (au gY) (ae gY) .none kV80 dc80 pm80 an80 cd80 ct80),sl80⟩)
   (AA:PySem.W.codeIn K cd80 "law" = true) (yW:PySem.W.keepIn K (.ref f80) = true) :
   ∃ (a:cp) (fd:FuncData),Txt K mg a∧bc K "law" "law" gY fa fd∧∀ (s:Shared) (v:Value),BindsTo s fd ⟨[v],[]⟩ [("_law_script",v)]:=by
 have e:=hfa.symm.trans (PySem.W.mg_of X G DP)
 cases e
 refine ⟨⟨0,bf,0,0,0,0,0,aY,0,0,0,aZ,aJ,aD,aK,a8,0,0,dS,nq,bx,0,bw,0,0,0,0,0,0,d7,0,0,cQ,di,0,0⟩,_,?_,aj (st:=gY) AF AA yW,fun s v=>.of_eq rfl⟩
 exact {
   nv:=PySem.W.mg_none_of X G nv
   nB:=PySem.W.mg_none_of X G nB
   jH:=PySem.W.mg_none_of X G jH
   jI:=PySem.W.mg_none_of X G jI
   bh:=PySem.W.mg_none_of X G bh
   cu:=PySem.W.mg_none_of X G cu
   hG:=PySem.W.mg_none_of X G hG
   fj:=PySem.W.mg_none_of X G fj
   iB:=PySem.W.mg_none_of X G iB
   jM:=PySem.W.mg_none_of X G jM
   cI:=⟨_,PySem.W.mg_of X G cI⟩
   mY:=PySem.W.mg_of X G jF
   je:=xB iU (show 3 ≤ sizeLine by decide) (.cons ⟨_,rfl⟩ (.cons ⟨_,rfl⟩ (.cons ⟨_,rfl⟩ .nil)))
   dq:=⟨_,PySem.W.mg_of X G dq⟩
   nQ:=PySem.W.mg_of X G jR
   jS:=xB jj (show 4 ≤ sizeLine by decide) (.cons ⟨_,rfl⟩ (.cons ⟨_,rfl⟩ (.cons ⟨_,rfl⟩ (.cons ⟨_,rfl⟩ .nil))))
   i9:=PySem.W.mg_of X G qr
   ki:=⟨_,xB mK (show 3 ≤ sizeLine by decide) (.cons ⟨_,rfl⟩ (.cons ⟨_,rfl⟩ (.cons rfl .nil))),xB mR (show 3 ≤ sizeLine by decide) (.cons ⟨_,rfl⟩ (.cons ⟨_,rfl⟩ (.cons ⟨_,rfl⟩ .nil)))⟩
   eg:=⟨_,PySem.W.mg_of X G eg⟩
   dk:=⟨_,PySem.W.mg_of X G dk⟩
   cR:=⟨_,PySem.W.mg_of X G cR⟩
   fL:=⟨_,PySem.W.mg_of X G fL⟩
   jv:=PySem.W.mg_of X G jv
   ix:=PySem.W.mg_of X G ix
   du:=PySem.W.mg_of X G du
   j_:=PySem.W.mg_of X G j_
   fb:=PySem.W.mg_of X G fb
   j0:=PySem.W.mg_of X G j0
   j5:=PySem.W.mg_of X G j5
   j3:=PySem.W.mg_of X G j3
   gU:=PySem.W.mg_of X G gU
   ni:=PySem.W.mg_of X G ni
   i7:=PySem.W.mg_of X G i7
   tZ:=⟨ou,oJ,oT,oE⟩
   cX:=cX
   cG:=cG
   wC:=⟨_,_,iC (st:=cL) zE yR zY y_,⟨jC,J9,HJ,oB⟩,yI (iC (st:=cL) zE yR zY y_) (ps:=["self","entries","landings"]) fun _ _ _ _ _ _ _ us hl=>match us,hl with | [_,_,_],_=>⟨_,rfl,rfl⟩,(iC (st:=cL) zE yR zY y_).yV (ps:=["self","entries","landings"]) fun _ _ _ _ _ _ _ us hl=>match us,hl with | [_,_],_=>⟨_,rfl,rfl⟩⟩
   iq:=⟨qI,qR,rN,qL⟩
   gi:=gi
   Af:=⟨_,_,aj (st:=eS) Fm CT Dx,⟨i8,Hb,JD,rp⟩,(aj (st:=eS) Fm CT Dx).binds (ps:=["self","box"]) fun _ _ _ _ _ _ us hl=>match us,hl with | [_,_],_=>rfl⟩
   nI:=⟨_,_,aj (st:=eR) C0 Dd yZ,⟨HN,Hj,yZ⟩,(aj (st:=eR) C0 Dd yZ).binds (ps:=["self","at"]) fun _ _ _ _ _ _ us hl=>match us,hl with | [_,_],_=>rfl⟩
   lM:=⟨_,_,aj (st:=aB) Fu Fd Ag,⟨Kg,Jx,Ag⟩,(aj (st:=aB) Fu Fd Ag).binds (ps:=["self","high"]) fun _ _ _ _ _ _ us hl=>match us,hl with | [_,_],_=>rfl⟩
   mn:=⟨_,_,aj (st:=aL) ED Ce yn,⟨IQ,GJ,yn⟩,(aj (st:=aL) ED Ce yn).binds (ps:=["self","places","high"]) fun _ _ _ _ _ _ us hl=>match us,hl with | [_,_,_],_=>rfl⟩
   n0:=⟨_,_,aj (st:=er) Dr CL yw,⟨Kc,Jm,yw⟩,(aj (st:=er) Dr CL yw).binds (ps:=["self"]) fun _ _ _ _ _ _ us hl=>match us,hl with | [_],_=>rfl⟩
   jB:=⟨vb,tJ,ur,tX⟩
   gT:=gT
   fk:=fk
   Dc:=⟨_,_,aj (st:=fA) D3 Fc Dy,⟨km,GH,pA,t_⟩,(aj (st:=fA) D3 Fc Dy).binds (ps:=["self","box","number"]) fun _ _ _ _ _ _ us hl=>match us,hl with | [_,_,_],_=>rfl⟩
   pL:=⟨_,_,aj (st:=bt) Fi B6 zT,⟨Ja,wk,zT⟩,(aj (st:=bt) Fi B6 zT).binds (ps:=["self","at"]) fun _ _ _ _ _ _ us hl=>match us,hl with | [_,_],_=>rfl⟩
   mh:=⟨_,_,aj (st:=aB) E4 Dj yt,⟨Ki,vZ,yt⟩,(aj (st:=aB) E4 Dj yt).binds (ps:=["self","high"]) fun _ _ _ _ _ _ us hl=>match us,hl with | [_,_],_=>rfl⟩
   nU:=⟨_,_,aj (st:=ek) DS Fl yp,⟨JX,JI,yp⟩,(aj (st:=ek) DS Fl yp).binds (ps:=["self","places","high"]) fun _ _ _ _ _ _ us hl=>match us,hl with | [_,_,_],_=>rfl⟩
   pK:=⟨_,_,aj (st:=fw) Ee Eu zk,⟨Jt,Jj,zk⟩,(aj (st:=fw) Ee Eu zk).binds (ps:=["self"]) fun _ _ _ _ _ _ us hl=>match us,hl with | [_],_=>rfl⟩
   ir:=⟨qD,rE,rf,qi⟩
   d0:=d0
   yX:=⟨_,_,aj (st:=eQ) Dm CO CN,⟨kj,KN,GV,qf⟩,(aj (st:=eQ) Dm CO CN).binds (ps:=["self","target"]) fun _ _ _ _ _ _ us hl=>match us,hl with | [_,_],_=>rfl⟩
   oa:=⟨_,_,aj (st:=eE) CW Fn zN,⟨IS,KD,zN⟩,(aj (st:=eE) CW Fn zN).binds (ps:=["self","at"]) fun _ _ _ _ _ _ us hl=>match us,hl with | [_,_],_=>rfl⟩
   lP:=⟨_,_,aj (st:=aB) El CK yu,⟨HW,IX,yu⟩,(aj (st:=aB) El CK yu).binds (ps:=["self","high"]) fun _ _ _ _ _ _ us hl=>match us,hl with | [_,_],_=>rfl⟩
   mE:=⟨_,_,aj (st:=aL) E7 EI yA,⟨Hi,Jk,yA⟩,(aj (st:=aL) E7 EI yA).binds (ps:=["self","places","high"]) fun _ _ _ _ _ _ us hl=>match us,hl with | [_,_,_],_=>rfl⟩
   nW:=⟨_,_,aj (st:=eN) DB Dg AG,⟨KA,J_,AG⟩,(aj (st:=eN) DB Dg AG).binds (ps:=["self"]) fun _ _ _ _ _ _ us hl=>match us,hl with | [_],_=>rfl⟩
   fZ:=⟨mz,ml,lY,l9⟩
   fh:=fh
   cY:=cY
   uj:=⟨_,_,aj (st:=c7) D8 DD DX,⟨iK,G0,GK,mm⟩,(aj (st:=c7) D8 DD DX).binds (ps:=["self","box","target"]) fun _ _ _ _ _ _ us hl=>match us,hl with | [_,_,_],_=>rfl⟩
   lO:=⟨_,_,aj (st:=c6) CG EY Aa,⟨JL,wL,Aa⟩,(aj (st:=c6) CG EY Aa).binds (ps:=["self","at"]) fun _ _ _ _ _ _ us hl=>match us,hl with | [_,_],_=>rfl⟩
   jQ:=⟨_,_,aj (st:=aB) E6 Cp yQ,⟨Ij,wH,yQ⟩,(aj (st:=aB) E6 Cp yQ).binds (ps:=["self","high"]) fun _ _ _ _ _ _ us hl=>match us,hl with | [_,_],_=>rfl⟩
   kd:=⟨_,_,aj (st:=aL) Ef DR AO,⟨JS,Jy,AO⟩,(aj (st:=aL) Ef DR AO).binds (ps:=["self","places","high"]) fun _ _ _ _ _ _ us hl=>match us,hl with | [_,_,_],_=>rfl⟩
   lL:=⟨_,_,aj (st:=cZ) CZ Ct Am,⟨Jd,GZ,Am⟩,(aj (st:=cZ) CZ Ct Am).binds (ps:=["self"]) fun _ _ _ _ _ _ us hl=>match us,hl with | [_],_=>rfl⟩
   ij:=⟨pZ,qQ,qw,qO⟩
   d6:=d6
   zG:=⟨_,_,aj (st:=el) DL Fp C1,⟨ko,IJ,Hx,rF⟩,(aj (st:=el) DL Fp C1).binds (ps:=["self","target"]) fun _ _ _ _ _ _ us hl=>match us,hl with | [_,_],_=>rfl⟩
   nM:=⟨_,_,aj (st:=bt) Cj Fw Ad,⟨KR,Iw,Ad⟩,(aj (st:=bt) Cj Fw Ad).binds (ps:=["self","at"]) fun _ _ _ _ _ _ us hl=>match us,hl with | [_,_],_=>rfl⟩
   lJ:=⟨_,_,aj (st:=aB) C2 Ci Aj,⟨IA,Kn,Aj⟩,(aj (st:=aB) C2 Ci Aj).binds (ps:=["self","high"]) fun _ _ _ _ _ _ us hl=>match us,hl with | [_,_],_=>rfl⟩
   md:=⟨_,_,aj (st:=dP) CC C6 zO,⟨Ku,Jf,zO⟩,(aj (st:=dP) CC C6 zO).binds (ps:=["self","places","high"]) fun _ _ _ _ _ _ us hl=>match us,hl with | [_,_,_],_=>rfl⟩
   n5:=⟨_,_,aj (st:=eO) Ck Cu z8,⟨JZ,Kl,z8⟩,(aj (st:=eO) Ck Cu z8).binds (ps:=["self"]) fun _ _ _ _ _ _ us hl=>match us,hl with | [_],_=>rfl⟩
   iz:=⟨qv,qZ,rA,qd⟩
   fM:=fM
   AR:=⟨_,_,aj (st:=eK) EV Ed Eg,⟨j7,JW,HL,rB⟩,(aj (st:=eK) EV Ed Eg).binds (ps:=["self","many"]) fun _ _ _ _ _ _ us hl=>match us,hl with | [_,_],_=>rfl⟩
   nO:=⟨_,_,aj (st:=bt) EF DJ zD,⟨Jo,Jz,zD⟩,(aj (st:=bt) EF DJ zD).binds (ps:=["self","at"]) fun _ _ _ _ _ _ us hl=>match us,hl with | [_,_],_=>rfl⟩
   lD:=⟨_,_,aj (st:=c_) DK DE y8,⟨Kq,wx,y8⟩,(aj (st:=c_) DK DE y8).binds (ps:=["self","high"]) fun _ _ _ _ _ _ us hl=>match us,hl with | [_,_],_=>rfl⟩
   mD:=⟨_,_,aj (st:=aL) EU Ez AD,⟨Jq,GI,AD⟩,(aj (st:=aL) EU Ez AD).binds (ps:=["self","places","high"]) fun _ _ _ _ _ _ us hl=>match us,hl with | [_,_,_],_=>rfl⟩
   n9:=⟨_,_,aj (st:=eA) B_ Dk zd,⟨Kd,JO,zd⟩,(aj (st:=eA) B_ Dk zd).binds (ps:=["self"]) fun _ _ _ _ _ _ us hl=>match us,hl with | [_],_=>rfl⟩
   iy:=⟨rM,qm,rK,qY⟩
   gj:=gj
   Ar:=⟨_,_,aj (st:=eF) EZ DZ B7,⟨j9,JH,HR,rJ⟩,(aj (st:=eF) EZ DZ B7).binds (ps:=["self","box"]) fun _ _ _ _ _ _ us hl=>match us,hl with | [_,_],_=>rfl⟩
   nP:=⟨_,_,aj (st:=eL) Fq CY As,⟨Js,Ic,As⟩,(aj (st:=eL) Fq CY As).binds (ps:=["self","at"]) fun _ _ _ _ _ _ us hl=>match us,hl with | [_,_],_=>rfl⟩
   lG:=⟨_,_,aj (st:=aB) EL ET ze,⟨IB,J8,ze⟩,(aj (st:=aB) EL ET ze).binds (ps:=["self","high"]) fun _ _ _ _ _ _ us hl=>match us,hl with | [_,_],_=>rfl⟩
   mJ:=⟨_,_,aj (st:=aL) Dz D5 AS,⟨G2,KG,AS⟩,(aj (st:=aL) Dz D5 AS).binds (ps:=["self","places","high"]) fun _ _ _ _ _ _ us hl=>match us,hl with | [_,_,_],_=>rfl⟩
   n_:=⟨_,_,aj (st:=et) Co Ei zP,⟨Hf,IC,zP⟩,(aj (st:=et) Co Ei zP).binds (ps:=["self"]) fun _ _ _ _ _ _ us hl=>match us,hl with | [_],_=>rfl⟩
   tN:=⟨uK,tO⟩
   eB:=eB
   eP:=eP
   rC:=⟨p9,p_⟩
   dz:=dz
   dF:=dF
   rH:=⟨rj,rg⟩
   dJ:=dJ
   dE:=dE
   lX:=⟨mU,mT⟩
   cF:=cF
   cE:=cE
   ql:=⟨qJ,qV⟩
   dQ:=dQ
   dI:=dI
   qg:=⟨qW,qP⟩
   dH:=dH
   dO:=dO
   rz:=⟨qU,rG⟩
   dw:=dw
   dN:=dN
   lB:=lB
   lI:=lI
   gK:=⟨PySem.W.mg_of X G gU,lb⟩
   oZ:=⟨kW,kG,k_,kI,kE,kU,kA,kC⟩
   bP:=bP
   fK:=fK
   d9:=d9
   gq:=gq
   pN:=⟨_,_,aj (st:=fT) D9 De E5,PySem.W.mg_of X G Km,(aj (st:=fT) D9 De E5).binds (ps:=["number","top"]) fun _ _ _ _ _ _ us hl=>match us,hl with | [_,_],_=>rfl⟩
   mI:=⟨_,_,aj (st:=eu) Ej DN D_,PySem.W.mg_of X G Kt,(aj (st:=eu) Ej DN D_).binds (ps:=["box"]) fun _ _ _ _ _ _ us hl=>match us,hl with | [_],_=>rfl⟩
   pJ:=⟨_,_,aj (st:=fR) Fh Dh EC,PySem.W.mg_of X G Ii,(aj (st:=fR) Fh Dh EC).binds (ps:=["places","place"]) fun _ _ _ _ _ _ us hl=>match us,hl with | [_,_],_=>rfl⟩
   oW:=⟨_,_,aj (st:=fW) Df D1 D7,PySem.W.mg_of X G G8,(aj (st:=fW) Df D1 D7).binds (ps:=["entry"]) fun _ _ _ _ _ _ us hl=>match us,hl with | [_],_=>rfl⟩
   rT:=⟨_,_,aj (st:=gJ) Dt Du DH,PySem.W.mg_of X G Hn,(aj (st:=gJ) Dt Du DH).binds (ps:=["number","entries"]) fun _ _ _ _ _ _ us hl=>match us,hl with | [_,_],_=>rfl⟩
   iP:=⟨_,_,aj (st:=b_) EN Er B9,PySem.W.mg_of X G JQ,(aj (st:=b_) EN Er B9).binds (ps:=["entry"]) fun _ _ _ _ _ _ us hl=>match us,hl with | [_],_=>rfl⟩
   kx:=⟨_,_,aj (st:=c8) Fb EB Cd,PySem.W.mg_of X G KQ,(aj (st:=c8) Fb EB Cd).binds (ps:=["row","entry"]) fun _ _ _ _ _ _ us hl=>match us,hl with | [_,_],_=>rfl⟩
   jG:=⟨_,_,aj (st:=cy) DG DI E3,PySem.W.mg_of X G Jp,(aj (st:=cy) DG DI E3).binds (ps:=["row","entry"]) fun _ _ _ _ _ _ us hl=>match us,hl with | [_,_],_=>rfl⟩
   jx:=⟨_,_,aj (st:=cA) Fy Dn Eo,PySem.W.mg_of X G GS,(aj (st:=cA) Fy Dn Eo).binds (ps:=["row","entry","coming","entries"]) fun _ _ _ _ _ _ us hl=>match us,hl with | [_,_,_,_],_=>rfl⟩
   ib:=⟨_,_,aj (st:=bR) E1 EH Cq,PySem.W.mg_of X G KL,(aj (st:=bR) E1 EH Cq).binds (ps:=["row","entries"]) fun _ _ _ _ _ _ us hl=>match us,hl with | [_,_],_=>rfl⟩
   lS:=⟨_,_,aj (st:=eJ) Cb C7 DO,PySem.W.mg_of X G Kj,(aj (st:=eJ) Cb C7 DO).binds (ps:=["numbers"]) fun _ _ _ _ _ _ us hl=>match us,hl with | [_],_=>rfl⟩
   iW:=⟨_,_,aj (st:=ck) CJ DM DT,PySem.W.mg_of X G J0,(aj (st:=ck) CJ DM DT).binds (ps:=["code","entries","at"]) fun _ _ _ _ _ _ us hl=>match us,hl with | [_,_,_],_=>rfl⟩
   hW:=⟨_,_,aj (st:=bM) Fe Cg C8,PySem.W.mg_of X G Jh,(aj (st:=bM) Fe Cg C8).binds (ps:=["code","entries","at","landing"]) fun _ _ _ _ _ _ us hl=>match us,hl with | [_,_,_,_],_=>rfl⟩
   pG:=⟨_,_,aj (st:=f7) CM Fk Cw,PySem.W.mg_of X G Ha,(aj (st:=f7) CM Fk Cw).binds (ps:=["code","table"]) fun _ _ _ _ _ _ us hl=>match us,hl with | [_,_],_=>rfl⟩
   pH:=⟨_,_,aj (st:=fY) D0 ER Fv,PySem.W.mg_of X G Jr,(aj (st:=fY) D0 ER Fv).binds (ps:=["code","landings","at"]) fun _ _ _ _ _ _ us hl=>match us,hl with | [_,_,_],_=>rfl⟩
   tS:=⟨_,_,aj (st:=ig) Eh E2 Ey,PySem.W.mg_of X G H_,(aj (st:=ig) Eh E2 Ey).binds (ps:=["heights","waiting","at","high"]) fun _ _ _ _ _ _ us hl=>match us,hl with | [_,_,_,_],_=>rfl⟩
   lE:=⟨_,_,aj (st:=dC) CQ DY DU,PySem.W.mg_of X G Ka,(aj (st:=dC) CQ DY DU).binds (ps:=["code","ways"]) fun _ _ _ _ _ _ us hl=>match us,hl with | [_,_],_=>rfl⟩
   r0:=⟨_,_,aj (st:=gG) CB EK Di,PySem.W.mg_of X G HM,(aj (st:=gG) CB EK Di).binds (ps:=["sets","changed","at","places"]) fun _ _ _ _ _ _ us hl=>match us,hl with | [_,_,_,_],_=>rfl⟩
   mH:=⟨_,_,aj (st:=eC) Es DF Ep,PySem.W.mg_of X G HA,(aj (st:=eC) Es DF Ep).binds (ps:=["code","ways","heights","first"]) fun _ _ _ _ _ _ us hl=>match us,hl with | [_,_,_,_],_=>rfl⟩
   lN:=⟨_,_,aj (st:=dA) CI Cr CH,PySem.W.mg_of X G IF,(aj (st:=dA) CI Cr CH).binds (ps:=["code","landings"]) fun _ _ _ _ _ _ us hl=>match us,hl with | [_,_],_=>rfl⟩
   uD:=⟨_,_,iC (st:=gS) AN yH zX zr,PySem.W.mg_of X G GW,yI (iC (st:=gS) AN yH zX zr) (ps:=["code","landings"]) fun _ _ _ _ _ _ _ us hl=>match us,hl with | [_,_],_=>⟨_,rfl,rfl⟩,(iC (st:=gS) AN yH zX zr).yV (ps:=["code","landings"]) fun _ _ _ _ _ _ _ us hl=>match us,hl with | [_],_=>⟨_,rfl,rfl⟩⟩
   kr:=⟨_,_,aj (st:=c9) CS Ca Fg,PySem.W.mg_of X G Ky,(aj (st:=c9) CS Ca Fg).binds (ps:=["_law_script","_law_k"]) fun _ _ _ _ _ _ us hl=>match us,hl with | [_,_],_=>rfl⟩
   o9:=⟨_,_,aj (st:=fV) DC Fo EG,PySem.W.mg_of X G Ht,(aj (st:=fV) DC Fo EG).binds (ps:=["_law_cell","_law_many"]) fun _ _ _ _ _ _ us hl=>match us,hl with | [_,_],_=>rfl⟩
   l_:=⟨_,_,aj (st:=eU) EJ CU E9,PySem.W.mg_of X G G5,(aj (st:=eU) EJ CU E9).binds (ps:=["_law_code","_law_landings"]) fun _ _ _ _ _ _ us hl=>match us,hl with | [_,_],_=>rfl⟩
   lK:=⟨_,_,aj (st:=dU) B8 D4 CV,PySem.W.mg_of X G Kw,(aj (st:=dU) B8 D4 CV).binds (ps:=["_law_code","_law_comes_here"]) fun _ _ _ _ _ _ us hl=>match us,hl with | [_,_],_=>rfl⟩
   mv:=⟨_,_,aj (st:=eV) Cz Ds C3,PySem.W.mg_of X G JR,(aj (st:=eV) Cz Ds C3).binds (ps:=["_law_code","_law_landings"]) fun _ _ _ _ _ _ us hl=>match us,hl with | [_,_],_=>rfl⟩
   n6:=⟨_,_,aj (st:=fu) ES EO Ec,PySem.W.mg_of X G HZ,(aj (st:=fu) ES EO Ec).binds (ps:=["_law_cell"]) fun _ _ _ _ _ _ us hl=>match us,hl with | [_],_=>rfl⟩
   KH:=⟨_,_,aj (st:=gY) AF AA yW,PySem.W.mg_of X G DP,(aj (st:=gY) AF AA yW).binds (ps:=["_law_script"]) fun _ _ _ _ _ _ us hl=>match us,hl with | [_],_=>rfl⟩ }
theorem walk {l : PySem.W.OpenLaw} {q : Program} {loose : List Str} {XP : (Str → Option Value) → Heap → Prop} {YP : World → Heap → Prop} {d : DefRec} {K : Params → PySem.W.Frag} (hn : l.most = some 63) (hdf : d.params.defaults = [])
   (hY:∀ (w:World) (h:Heap),YP w h→(K w.params).In h)
   (F : ∀ (w : World) (mg : Str → Option Value) (fa : Addr) (h : Heap), (K w.params).In h → h.Ns mainGlobals mg → mg d.name = some (.ref fa) →
     ∃ fd:FuncData,(∀ (s:Shared) (u:Value),BindsTo s fd ⟨[u],[]⟩ [("_law_script",u)])∧∀ base:Heap,(K w.params).In base→base.Ns mainGlobals mg→ez l.prog w (K w.params) mg base ba 8 fa fd ["_law_script"] (yg (K w.params))) :
   PySem.W.WalkO q loose XP YP l.row.toRowW d [] (fun f vs=>PySem.call f vs) :=
 L2.Gb (n:=63) (k:=8) (x:="_law_script") (CX:=fun _=>ba) (sp:=fun w=>yg (K w.params)) hn (by decide) hdf ⟨rfl,by decide,by decide,rfl⟩ hY F (fun _ _ a ns hl _ hS=>⟨a,ns,rfl,hS,hl,fun _=>rfl⟩) fun _ _ _ _ _ z=>z
end FB
namespace PySem.W.Fast
def tw5075161209613747230:=0
def tw2758458316577138006:=0
def tw18356840907544983392:=0
def tw14310125113243944831:=0
def tw6114933709444339336:=0
def tw507383641771311698:=0
def tw10504918152219227181:=0
def tw135653373024548684:=0
def tw7933737575208628997:=0
def tw7202887305564303598:=0
def tw14392477481225581986:=0
def tw4537982275504951187:=0
def tw11382821362009125761:=0
def tw11909099495888194562:=0
def tw5145993807696835712:=0
def tw8771860356430325661:=0
def tw3661370549636346826:=0
def tw12561508450573453946:=0
def tw14138426348628519246:=0
def tw14386707914787571873:=0
def tw16755191268410786152:=0
def tw15004888753522935046:=0
def tw10569658796429027515:=0
def tw7457297243006864946:=0
def tw17988371030194365715:=0
def tw10365021887021064651:=0
def tw15657068331947082197:=0
def tw11277525721993801387:=0
def tw13347365515337733878:=0
def tw9267377511298731717:=0
def tw12070319567669948571:=0
def tw1605968917700852028:=0
def tw2221388780065194592:=0
def tw15378999092349744851:=0
def tw3556677578518446289:=0
def tw13790091710490469486:=0
def tw15897363798480859720:=0
def tw14454927178452044251:=0
def tw14833264000029069262:=0
def tw5998582207480293203:=0
def tw3986479286215994336:=0
def tw6182636680045319628:=0
def tw16336104598278844476:=0
def tw2234273570424043899:=0
def tw12012533793495791321:=0
def tw16992961694927589318:=0
def tw3201104076364278009:=0
def tw11103473932831941921:=0
def tw15755060242738600270:=0
def tw17754782916156041766:=0
def tw13147732233756408822:=0
def tw4910858706483908034:=0
def tw14157146719545138902:=0
def tw15623331937370189395:=0
def tw13476417323682964323:=0
def tw1053850355865709782:=0
def tw15011155857411654939:=0
def tw6231461133790528988:=0
def tw6225829776038548000:=0
def tw3135698931420862731:=0
def tw8825421071956046087:=0
def tw12924437240425344368:=0
def tw10330040489288196555:=0
def tw12674600303721830054:=0
def tw14975239460992203570:=0
def tw13027425795930369173:=0
def tw12640848590849993392:=0
def tw4659152669808687559:=0
def tw7502570145967070628:=0
def tw9211554049525050403:=0
def tw6824344641514743069:=0
def tw14019336478672464215:=0
def tw6458189453791226113:=0
def tw2200686323205151308:=0
def tw6474486943459453621:=0
def tw8332699998538053704:=0
def tw14744045437327083053:=0
def tw7894804766312440985:=0
def tw11419714048753648037:=0
def tw16430048795831205103:=0
def tw448327604443395918:=0
def tw4235567974673213453:=0
def tw17511461378573641151:=0
def tw2604307602350922252:=0
def tw12600850599330044296:=0
def tw1960165814424222252:=0
def tw8528144953887499279:=0
def tw7436113479515898847:=0
def tw3450284338947732258:=0
def tw10267754709946652084:=0
def tw17438633414109791135:=0
def tw9117085681324027346:=0
def tw5434704766394533909:=0
def tw9332674783938839177:=0
def tw15458519031306715360:=0
def tw6168222047119147104:=0
def tw4597369908504888349:=0
def tw5940230859993835646:=0
def tw13765892985450774713:=0
def tw9988049797836072853:=0
def tw343937504716315030:=0
def tw15862157361452881453:=0
def tw9290121145793908326:=0
def tw5579657668298916223:=0
def tw6201454776063831979:=0
def tw1136299068664992383:=0
def tw8197708597798108713:=0
def tw3105934887752830769:=0
def tw9219694319753289792:=0
def tw17303847730667387400:=0
def tw12264861204200322944:=0
def tw10857747516597976317:=0
def tw1083467461205760922:=0
def tw11304263897341999355:=0
def tw4999805711037240702:=0
def tw15396811994694984663:=0
def tw15066983416450437009:=0
def tw7035217662064252117:=0
def tw12853890826157799532:=0
def tw8298102262151476916:=0
def tw12527732422971642589:=0
def tw17483832805890479395:=0
def tw14682050319220012469:=0
def tw13896115544310632129:=0
def tw10170600118491280676:=0
def tw16446270482842973819:=0
def tw625324082020751428:=0
def tw5872169073973120234:=0
def tw8844394687380190420:=0
def tw10090258169337608095:=0
def tw16695891454371678873:=0
def tw13031490677509709505:=0
def tw15343283760209459374:=0
def tw10518728398370954574:=0
def tw9862289785863221824:=0
def tw12844199423963576474:=0
def tw6500578579689608345:=0
def tw3280666771373685992:=0
def tw2948755891721342969:=0
def tw521342160860687520:=0
def tw3255232895087111855:=0
def tw11018073033639130163:=0
def tw9890747511088400467:=0
def tw18183628042017767756:=0
def tw6885750861687722914:=0
def tw16383295252613444673:=0
def tw2422009716894115505:=0
def tw16411212328112434602:=0
def tw7934732701663604738:=0
def tw10176038726870538386:=0
def tw7496861148915276812:=0
def tw2434746132242087603:=0
def tw10981527582740100964:=0
def tw7975302467643050744:=0
def tw15802464660591753122:=0
def tw14877415365772695704:=0
def tw2399721594218580064:=0
def tw4591514155879274534:=0
def tw16430258765832439059:=0
def tw14465056539450040485:=0
def tw17751300176028361663:=0
def tw11553075716061474739:=0
def tw9520981673948214204:=0
def tw7810686783625177568:=0
def tw8542554648763301267:=0
def tw8442821445827100216:=0
def tw1600476596028847572:=0
def tw5485136300212817284:=0
def tw3665001345786470451:=0
def tw17978631789646653832:=0
def tw11626452537645060897:=0
def tw14345465157474664132:=0
def tw4570202294910650498:=0
def tw12746308441624696746:=0
def tw4703007199146595326:=0
def tw5416838159796671284:=0
def tw9620183578904577938:=0
def tw3626417762839817025:=0
def tw17987593590607137618:=0
def tw980961900168331985:=0
def tw766211757308760595:=0
def tw3418426684312830505:=0
def tw17214604293374421797:=0
def tw7486949187956213746:=0
def tw5002917423773588462:=0
def tw5838768739649298975:=0
def tw16317401915285412997:=0
def tw11502286777827364186:=0
def tw16984630735021677093:=0
def tw729867937450244145:=0
def tw14839197245112045663:=0
def tw10463878041917956554:=0
def tw1963124383242739006:=0
def tw16799704828073395920:=0
def tw11261326324973953303:=0
def tw13545132063917847725:=0
def tw14854798985517719666:=0
def tw13664291284563670611:=0
def tw14233639574625362441:=0
def tw13857287032653571853:=0
def tw6410331279689987596:=0
def tw5319305471535954996:=0
def tw5526934195620796666:=0
def tw16707586566278623332:=0
def tw257448399824958073:=0
def tw10936267586528899982:=0
def tw13803879687613615263:=0
def tw8699916010560273192:=0
def tw15333119870173118640:=0
def tw9667610344421360790:=0
def tw16788162169318600098:=0
def tw17554486604277024411:=0
def tw4665255355386347699:=0
def tw12282243120515883955:=0
def tw14761647474237223961:=0
def tw16869591117711776109:=0
def tw11494479754359195309:=0
def tw8836096836131299923:=0
def tw1780592633063733591:=0
def tw15114106466697811069:=0
def tw1574124479654409182:=0
def tw17186081937449297664:=0
def tw14012703894669935138:=0
def tw1835637352509565098:=0
def tw2214470683788636234:=0
def tw8387359997420766405:=0
def tw5653409816398192378:=0
def tw16315579360132571653:=0
def tw13481929188968267113:=0
def tw1763547023902442682:=0
def tw1292803631653907276:=0
def tw4388419660455382795:=0
def tw13373779640783800344:=0
def tw18185964126625642414:=0
def tw16180927980438122399:=0
def tw16986053033799783473:=0
def tw1425749207263145450:=0
def tw12620069077275254432:=0
def tw9504661672482836895:=0
def tw10491109608972940881:=0
def tw13911737165969637303:=0
def tw291991989483323486:=0
def tw13568129715695379102:=0
def tw4144430219097606659:=0
def tw10765024197153678370:=0
def tw14345691767572047521:=0
def tw9012762372114653232:=0
def tw9745148405098592901:=0
def tw5930565606699075954:=0
def tw6100281765640054874:=0
def tw12685320297533507103:=0
def tw11512396028549302209:=0
def tw15998822930984799962:=0
def tw4545877429725155226:=0
def tw15479153460929747781:=0
def tw1679497593959325480:=0
def tw2464697102989706169:=0
def tw6256051166740990001:=0
def tw15020442852375775067:=0
def tw8046889040062416227:=0
def tw15964003554580586674:=0
def tw8515626801200270227:=0
def tw3291761102622295256:=0
def tw6761202306922445338:=0
def tw7114981092817151791:=0
def tw16367019165462652781:=0
def tw12034199999045726186:=0
def tw13669321567729744614:=0
def tw1125786272889929912:=0
def tw12636008361576691765:=0
def tw321891098579505347:=0
def tw1046797532928234688:=0
def tw5083216749596666827:=0
def tw11273417793482409485:=0
def tw10869900563884779490:=0
def tw5185662891551798946:=0
def tw4744156660210609659:=0
def tw4022223479726328906:=0
def tw12105904286034634308:=0
def tw16535831857338953663:=0
def tw5508122757089172129:=0
def tw6784061373934617892:=0
def tw13814722446252559426:=0
def tw5817029095091640887:=0
def tw14999526369560849353:=0
def tw18038804009012728685:=0
def tw15716209790155557254:=0
def tw2299409744512932022:=0
def tw18228066758311295587:=0
def tw10684893852651856335:=0
def tw1494507851850552375:=0
def tw7981048908507451701:=0
def tw16433259861750855200:=0
def tw16582326600690938181:=0
def tw642290768052932342:=0
def tw663163864497545703:=0
def tw17835111098348867428:=0
def tw1586374667884403434:=0
def tw253434257892537887:=0
def tw15222109177023309757:=0
def tw12476317870801530501:=0
def tw13120108974247820039:=0
def tw18276994415577757242:=0
def tw4910709690457015134:=0
def tw13300527096304434092:=0
def tw16480648055986856828:=0
def tw2128779134938745313:=0
def tw3703328687581048363:=0
def tw13828243160992868981:=0
def tw10859292017383759359:=0
def tw12129065165521582782:=0
def tw1890857120950618859:=0
def tw10135280806284514931:=0
def tw14611339124459251140:=0
def tw2761410559033827616:=0
def tw13984198008939516729:=0
def tw4575994667028217404:=0
def tw6182296507707094699:=0
def tw6444819686657299149:=0
def tw12927188711260185203:=0
def tw15433609400008369451:=0
def tw13717963779346173630:=0
def tw5893464285194619218:=0
def tw7138735056284043910:=0
def tw17141217970990705203:=0
def tw3530508810838635947:=0
def tw12921221015294763963:=0
def tw12030826493742979779:=0
def tw559607953081380812:=0
def tw8954421247316733880:=0
def tw14241050680597955187:=0
def tw12057862149931561894:=0
def tw4494627555547328113:=0
def tw14075855663831661709:=0
def tw12448293926837067166:=0
def tw1659838166466276822:=0
def tw16103949782275456956:=0
def tw4807673456378756060:=0
def tw12981930931060403420:=0
def tw5678724382317003141:=0
def tw16582372374359387059:=0
def tw7696168772203122863:=0
def tw13410258383181363271:=0
def tw15819147822801739827:=0
def tw4419417504093611122:=0
def tw16561021035168754087:=0
def tw13073609116236021985:=0
def tw9719318064362730558:=0
def tw7780577339835741176:=0
def tw15849876201670033784:=0
def tw8165883704094732588:=0
def tw1603761291265539642:=0
def tw6566399804615293210:=0
def tw13353272854444709180:=0
def tw3233880063876942325:=0
def tw6840283513572820065:=0
def tw13346022206098200003:=0
def tw3047624937834679356:=0
def tw18113510158994738192:=0
def tw7437417817795318820:=0
def tw11230581300519148480:=0
def tw5001348753269502367:=0
def tw17000022405301941118:=0
def tw10955613645589815740:=0
def tw13002511105282352067:=0
def tw2134923712916882130:=0
def tw7520871354347043358:=0
def tw6728934263545715687:=0
def tw11147504469010370797:=0
def tw61959997943792278:=0
def tw2197413182180903619:=0
def tw16209483843581481920:=0
def tw9580212265303824725:=0
def tw3847373692132818856:=0
def tw11220343830174890685:=0
def tw12875131047685364809:=0
def tw6420975430622784750:=0
def tw15977999789437571950:=0
def tw11266877677491126862:=0
def tw7122902050930269142:=0
def tw7011866416250727862:=0
def tw16411421038279469667:=0
def tw13588329549961026594:=0
def tw5742353394369256329:=0
def tw15061359126389894963:=0
def tw1710072970580493627:=0
def tw8634156451394974928:=0
def tw7783485223478765607:=0
def tw15531449011926859197:=0
def tw18297624598086788164:=0
def tw17889925669422374094:=0
def tw5178210453874590692:=0
def tw6474138234598935059:=0
def tw17541599036282825725:=0
def tw9628043036914978608:=0
def tw14543818892304544130:=0
def tw6252349225116675291:=0
def tw13362730600258345626:=0
def tw9263167118254066097:=0
def tw9849330901654833726:=0
def tw8460190927326567482:=0
def tw661866814815548606:=0
def tw6437846228834181358:=0
def tw2881765629496733388:=0
def tw3376983248649824248:=0
def tw12413096987832891314:=0
def tw142361036158184012:=0
def tw10222005029855491246:=0
def tw16711395786042784176:=0
def tw6772216699080190843:=0
def tw4982040623455265982:=0
def tw15612190570799746578:=0
def tw15110645526710361385:=0
def tw8554264125457385168:=0
def tw15869666540658008931:=0
def tw4000083767857358366:=0
def tw10633874407132163627:=0
def tw14124561254098473402:=0
def tw8207074608894425834:=0
def tw17868972106846337062:=0
def tw3023286242338789080:=0
def tw6508779943425406512:=0
def tw1554850917738939351:=0
def tw1718846643005806238:=0
def tw7645961113788826858:=0
def tw9241271733638950941:=0
def tw5048409080140528053:=0
def tw12942338534994860031:=0
def tw15002402725196143083:=0
def tw14877383351764804134:=0
def tw9251106432267514243:=0
def tw6232623392835582747:=0
def tw5625152999982633008:=0
def tw1065727808450573012:=0
def tw2787150776979124492:=0
def tw3360233496735853901:=0
def tw13741277667227944666:=0
def tw4800506475679355268:=0
def tw5206524386032472055:=0
def tw16561295150708669277:=0
def tw4035149871797179724:=0
def tw8364687953308050250:=0
def tw5115884705201123253:=0
def tw15160973173176329735:=0
def tw7051873599822722213:=0
def tw1140293772955881979:=0
def tw13068796603914897526:=0
def tw6626316520324901343:=0
def tw14746604336328853963:=0
def tw1328224547085854273:=0
def tw5477307423417045322:=0
def tw9817251885076306773:=0
def tw1172079869285716037:=0
def tw13074801855007521276:=0
def tw14115370903171541685:=0
def tw6907532011119209577:=0
def tw4342229721413664095:=0
def tw12756470567617584856:=0
def tw15021908709025175172:=0
def tw10305727473203504993:=0
def tw17051866750302096559:=0
def tw16684793813834514427:=0
def tw8365181646198317883:=0
def tw5075971844403397382:=0
def tw13732370623839087120:=0
def tw14570623017425330602:=0
def tw6862276107215875174:=0
def tw16341420600165811352:=0
def tw7846670519063962654:=0
def tw3614237684157894168:=0
def tw5714241862615591124:=0
def tw17520465309805331787:=0
def tw5158581944987177794:=0
def tw13802018462616135791:=0
def tw13605883431977343073:=0
def tw8882100265765622042:=0
def tw8654671650114869700:=0
def tw9741352430702570913:=0
def tw13530372302224449757:=0
def tw9388923604156215408:=0
def tw14204292054428388258:=0
def tw10649661622162879975:=0
def tw6846900385295147753:=0
def tw7115011675963507755:=0
def tw2683123775337265303:=0
def tw11348501603083668331:=0
def tw13413993644562984924:=0
def tw8449653751725648294:=0
def tw748840660203400824:=0
def tw5240240742228992604:=0
def tw13891493567030433247:=0
def tw147583439885002237:=0
def tw18267218943358623320:=0
def tw4221380150847010505:=0
def tw6407002443079740558:=0
def tw392635777334665761:=0
def tw10565445902359693214:=0
def tw1378024937739312629:=0
def tw2787471221836391240:=0
def tw7379893189538697228:=0
def tw14085201942398283476:=0
def tw3319331394303009062:=0
def tw16152111651719917415:=0
def tw18123652823015036241:=0
def tw4815258445968928515:=0
def tw16484831082429984897:=0
def tw13811126000649928720:=0
def tw15904391537169773851:=0
def tw2843520608908883110:=0
def tw3139918175394833406:=0
def tw17040741553711100426:=0
def tw18314081147783636740:=0
def tw17759544925517073820:=0
def tw12620811424512492052:=0
def tw9770759682214454429:=0
def tw8353552511936015849:=0
def tw7351222322701507828:=0
def tw12524695762856945869:=0
def tw16151937807545396341:=0
def tw9740017802809310451:=0
def tw12474301435754348205:=0
def tw11079860743396022031:=0
def tw5122046924451177031:=0
def tw2200897162837110715:=0
def tw10974411171673163632:=0
def tw3676169555992635216:=0
def tw3902968051474989207:=0
def tw477596698807750535:=0
def tw5036201236540055473:=0
def tw5078717539320958174:=0
def tw8272878455630927161:=0
def tw12384125283122436388:=0
def tw9702291262640741770:=0
def tw15681553911367734341:=0
def tw10197012237167509338:=0
def tw7902314930762139113:=0
def tw6350081119959478549:=0
def tw18421910112817993536:=0
def tw966337938170693564:=0
def tw10409818721599294648:=0
def tw7746325986027794492:=0
def tw12305384849071371934:=0
def tw13806810794535407121:=0
def tw6984678680351825166:=0
def tw7010333142034408571:=0
def tw3927228901753582479:=0
def tw8722861510059918636:=0
def tw8513427243072123332:=0
def tw5970418127437362174:=0
def tw9795387790211434390:=0
def tw4558649553296277643:=0
def tw706519696393824260:=0
def tw689187509778820790:=0
def tw13495346548802262254:=0
def tw10040709095511238151:=0
def tw17576629204409721136:=0
def tw3776335720250771900:=0
def tw1349686339458013930:=0
def tw12691914337872847422:=0
def tw6085956572937055157:=0
def tw5578048674301165855:=0
def tw18246949517557939440:=0
def tw2471315857520663109:=0
def tw11608034179225300563:=0
def tw2001271875910981030:=0
def tw7927826244383687041:=0
def tw13417359542870314053:=0
def tw14258550114169792792:=0
def tw13837323414487391405:=0
def tw8667983084520016597:=0
def tw1694269280432407287:=0
def tw12865856777058420606:=0
def tw6920403480322967724:=0
def tw14103344368705911063:=0
def tw11624806782244151517:=0
def tw9334558037164220761:=0
def tw2319016996023309399:=0
def tw10845405280323351282:=0
def tw17627400512612156755:=0
def tw11660108970711350862:=0
def tw10009480520866002254:=0
def tw14961112155889341743:=0
def tw17456805680492139300:=0
def tw13190864574645843272:=0
def tw14151256944391304963:=0
def tw12875750831130366276:=0
def tw1230544356313777992:=0
def tw16138295188238229980:=0
def tw8144672422053759292:=0
def tw8276643733279455201:=0
def tw18006627994842714329:=0
def tw4802166210746262955:=0
def tw9445634818784720280:=0
def tw16341974838941603060:=0
def tw12490835563129606090:=0
def tw14864476242959089642:=0
def tw16597253552705824633:=0
def tw9938190416201354364:=0
def tw4998718626723910960:=0
def tw14489809415067685767:=0
def tw2921589968567767993:=0
def tw14929266759001063543:=0
def tw15527923463884027970:=0
def tw13359746256884851503:=0
def tw389308865262222792:=0
def tw4396125860492824280:=0
def tw17930383871946670914:=0
def tw3336899535093765811:=0
def tw11260068659466859089:=0
def tw4056976138980323292:=0
def tw3579751422984082251:=0
def tw10940307870492691397:=0
def tw11843449693978624943:=0
def tw5106588026205534992:=0
def tw17915786204865702046:=0
def tw8813113711589766341:=0
def tw3611854746299029810:=0
def tw10980722041178886551:=0
def tw12716241522001717397:=0
def tw13461413106890592272:=0
def tw10134984511642701190:=0
def tw11015703056747280047:=0
def tw15654147299261555594:=0
def tw9312711404267217547:=0
def tw13658025559322264051:=0
def tw2287616391958289413:=0
def tw6852236621316150002:=0
def tw8950260865634098226:=0
def tw2823541007561516736:=0
def tw6962624835090567786:=0
def tw227011205314889179:=0
def tw14098235767886380421:=0
def tw11662209598032620167:=0
def tw15782510804639265515:=0
def tw6144922033345401706:=0
def tw12484984217212935438:=0
def tw16664000076601670900:=0
def tw423189545598281426:=0
def tw11777514696243900787:=0
def tw2334775573140906538:=0
def tw12419390727546184608:=0
def tw7138427902699930133:=0
def tw13058569841386485445:=0
def tw8169323153714994326:=0
def tw17890682707694237049:=0
def tw2239378294558476383:=0
def tw6659338005617124253:=0
def tw1518276210095064515:=0
def tw168607905845407063:=0
def tw879651333249941818:=0
def tw10383491661656369687:=0
def tw12424866550938155672:=0
def tw684687090545300148:=0
def tw8570984222256664652:=0
def tw3687646648945602709:=0
def tw12958495935246010808:=0
def tw10505664620726304881:=0
def tw11336952938963889689:=0
def tw5636365017959092756:=0
def tw15556300171926481412:=0
def tw10187591293869085482:=0
def tw14699564669242336476:=0
def tw5059126128912988834:=0
def tw8162701209862544426:=0
def tw10782134997915273119:=0
def tw1348376366433879907:=0
end PySem.W.Fast
open PySem PySem.W PyProof.Rows
local macro_rules | `(tactic| walk_at "k") => `(tactic| first | k_is | kit_is | rfl | kernel_rfl)
set_option maxRecDepth 100000 in
set_option maxHeartbeats 0 in
theorem PySem.Challenge.cw_frameback_k33_where_something_may_come_holds : PySem.Challenge.rw_frameback_k33_where_something_may_come.Holds := by
 w_on;o_law;k_head;(case hw=>w_witness2)
 k_fill
 refine FB.walk (l:=PySem.Challenge.rw_frameback_k33_where_something_may_come) rfl rfl (fun w h Y=>PySem.W.kIn_of Y) ?F
 case F =>
   intro w mg fa h KX G hmg
   have T : ∃ (a : FB.cp) (fd : FuncData), FB.Txt (L2.KI KX) mg a ∧ L2.bc (L2.KI KX) "law" "law" FB.gY fa fd ∧ ∀ (s : Shared) (v : Value), BindsTo s fd ⟨[v], []⟩ [("_law_script", v)] := by
     dsimp only [L2.KI]
     refine' FB.Hy KX G hmg ?nv ?nB ?jH ?jI ?bh ?cu ?hG ?fj ?iB ?jM ?cI ?jF ?iU ?dq ?jR ?jj ?qr ?mK ?mR ?eg ?dk ?cR ?fL ?jv ?ix ?du ?j_ ?fb ?j0 ?j5 ?j3 ?gU ?ni ?i7 ?ou ?oJ ?oT ?oE ?jC ?oB ?cX ?cG ?J9 ?HJ ?zE ?yR ?zY ?y_ ?qI ?qR ?rN ?qL ?i8 ?rp ?gi ?Hb ?JD ?Fm ?CT ?Dx ?HN ?Hj ?C0 ?Dd ?yZ ?Kg ?Jx ?Fu ?Fd ?Ag ?IQ ?GJ ?ED ?Ce ?yn ?Kc ?Jm ?Dr ?CL ?yw ?vb ?tJ ?ur ?tX ?km ?t_ ?gT ?fk ?GH ?pA ?D3 ?Fc ?Dy ?Ja ?wk ?Fi ?B6 ?zT ?Ki ?vZ ?E4 ?Dj ?yt ?JX ?JI ?DS ?Fl ?yp ?Jt ?Jj ?Ee ?Eu ?zk ?qD ?rE ?rf ?qi ?kj ?qf ?d0 ?KN ?GV ?Dm ?CO ?CN ?IS ?KD ?CW ?Fn ?zN ?HW ?IX ?El ?CK ?yu ?Hi ?Jk ?E7 ?EI ?yA ?KA ?J_ ?DB ?Dg ?AG ?mz ?ml ?lY ?l9 ?iK ?mm ?fh ?cY ?G0 ?GK ?D8 ?DD ?DX ?JL ?wL ?CG ?EY ?Aa ?Ij ?wH ?E6 ?Cp ?yQ ?JS ?Jy ?Ef ?DR ?AO ?Jd ?GZ ?CZ ?Ct ?Am ?pZ ?qQ ?qw ?qO ?ko ?rF ?d6 ?IJ ?Hx ?DL ?Fp ?C1 ?KR ?Iw ?Cj ?Fw ?Ad ?IA ?Kn ?C2 ?Ci ?Aj ?Ku ?Jf ?CC ?C6 ?zO ?JZ ?Kl ?Ck ?Cu ?z8 ?qv ?qZ ?rA ?qd ?j7 ?rB ?fM ?JW ?HL ?EV ?Ed ?Eg ?Jo ?Jz ?EF ?DJ ?zD ?Kq ?wx ?DK ?DE ?y8 ?Jq ?GI ?EU ?Ez ?AD ?Kd ?JO ?B_ ?Dk ?zd ?rM ?qm ?rK ?qY ?j9 ?rJ ?gj ?JH ?HR ?EZ ?DZ ?B7 ?Js ?Ic ?Fq ?CY ?As ?IB ?J8 ?EL ?ET ?ze ?G2 ?KG ?Dz ?D5 ?AS ?Hf ?IC ?Co ?Ei ?zP ?uK ?tO ?eB ?eP ?p9 ?p_ ?dz ?dF ?rj ?rg ?dJ ?dE ?mU ?mT ?cF ?cE ?qJ ?qV ?dQ ?dI ?qW ?qP ?dH ?dO ?qU ?rG ?dw ?dN ?lB ?lI ?lb ?kW ?kG ?k_ ?kI ?kE ?kU ?kA ?kC ?bP ?fK ?d9 ?gq ?Km ?D9 ?De ?E5 ?Kt ?Ej ?DN ?D_ ?Ii ?Fh ?Dh ?EC ?G8 ?Df ?D1 ?D7 ?Hn ?Dt ?Du ?DH ?JQ ?EN ?Er ?B9 ?KQ ?Fb ?EB ?Cd ?Jp ?DG ?DI ?E3 ?GS ?Fy ?Dn ?Eo ?KL ?E1 ?EH ?Cq ?Kj ?Cb ?C7 ?DO ?J0 ?CJ ?DM ?DT ?Jh ?Fe ?Cg ?C8 ?Ha ?CM ?Fk ?Cw ?Jr ?D0 ?ER ?Fv ?H_ ?Eh ?E2 ?Ey ?Ka ?CQ ?DY ?DU ?HM ?CB ?EK ?Di ?HA ?Es ?DF ?Ep ?IF ?CI ?Cr ?CH ?GW ?AN ?yH ?zX ?zr ?Ky ?CS ?Ca ?Fg ?Ht ?DC ?Fo ?EG ?G5 ?EJ ?CU ?E9 ?Kw ?B8 ?D4 ?CV ?JR ?Cz ?Ds ?C3 ?HZ ?ES ?EO ?Ec ?DP ?AF ?AA ?yW
     (case nv=>walk_at "k")
     (case nB=>walk_at "k")
     (case jH=>walk_at "k")
     (case jI=>walk_at "k")
     (case bh=>walk_at "k")
     (case cu=>walk_at "k")
     (case hG=>walk_at "k")
     (case fj=>walk_at "k")
     (case iB=>walk_at "k")
     (case jM=>walk_at "k")
     (case cI=>walk_at "k")
     (case jF=>walk_at "k")
     (case iU=>walk_at "k")
     (case dq=>walk_at "k")
     (case jR=>walk_at "k")
     (case jj=>walk_at "k")
     (case qr=>walk_at "k")
     (case mK=>walk_at "k")
     (case mR=>walk_at "k")
     (case eg=>walk_at "k")
     (case dk=>walk_at "k")
     (case cR=>walk_at "k")
     (case fL=>walk_at "k")
     (case jv=>walk_at "k")
     (case ix=>walk_at "k")
     (case du=>walk_at "k")
     (case j_=>walk_at "k")
     (case fb=>walk_at "k")
     (case j0=>walk_at "k")
     (case j5=>walk_at "k")
     (case j3=>walk_at "k")
     (case gU=>walk_at "k")
     (case ni=>walk_at "k")
     (case i7=>walk_at "k")
     (case ou=>walk_at "k")
     (case oJ=>walk_at "k")
     (case oT=>walk_at "k")
     (case oE=>walk_at "k")
     (case jC=>walk_at "k")
     (case oB=>walk_at "k")
     (case cX=>walk_at "k")
     (case cG=>walk_at "k")
     (case J9=>walk_at "k")
     (case HJ=>walk_at "k")
     (case zE=>walk_at "k")
     (case yR=>walk_at "k")
     (case zY=>walk_at "k")
     (case y_=>walk_at "k")
     (case qI=>walk_at "k")
     (case qR=>walk_at "k")
     (case rN=>walk_at "k")
     (case qL=>walk_at "k")
     (case i8=>walk_at "k")
     (case rp=>walk_at "k")
     (case gi=>walk_at "k")
     (case Hb=>walk_at "k")
     (case JD=>walk_at "k")
     (case Fm=>walk_at "k")
     (case CT=>walk_at "k")
     (case Dx=>walk_at "k")
     (case HN=>walk_at "k")
     (case Hj=>walk_at "k")
     (case C0=>walk_at "k")
     (case Dd=>walk_at "k")
     (case yZ=>walk_at "k")
     (case Kg=>walk_at "k")
     (case Jx=>walk_at "k")
     (case Fu=>walk_at "k")
     (case Fd=>walk_at "k")
     (case Ag=>walk_at "k")
     (case IQ=>walk_at "k")
     (case GJ=>walk_at "k")
     (case ED=>walk_at "k")
     (case Ce=>walk_at "k")
     (case yn=>walk_at "k")
     (case Kc=>walk_at "k")
     (case Jm=>walk_at "k")
     (case Dr=>walk_at "k")
     (case CL=>walk_at "k")
     (case yw=>walk_at "k")
     (case vb=>walk_at "k")
     (case tJ=>walk_at "k")
     (case ur=>walk_at "k")
     (case tX=>walk_at "k")
     (case km=>walk_at "k")
     (case t_=>walk_at "k")
     (case gT=>walk_at "k")
     (case fk=>walk_at "k")
     (case GH=>walk_at "k")
     (case pA=>walk_at "k")
     (case D3=>walk_at "k")
     (case Fc=>walk_at "k")
     (case Dy=>walk_at "k")
     (case Ja=>walk_at "k")
     (case wk=>walk_at "k")
     (case Fi=>walk_at "k")
     (case B6=>walk_at "k")
     (case zT=>walk_at "k")
     (case Ki=>walk_at "k")
     (case vZ=>walk_at "k")
     (case E4=>walk_at "k")
     (case Dj=>walk_at "k")
     (case yt=>walk_at "k")
     (case JX=>walk_at "k")
     (case JI=>walk_at "k")
     (case DS=>walk_at "k")
     (case Fl=>walk_at "k")
     (case yp=>walk_at "k")
     (case Jt=>walk_at "k")
     (case Jj=>walk_at "k")
     (case Ee=>walk_at "k")
     (case Eu=>walk_at "k")
     (case zk=>walk_at "k")
     (case qD=>walk_at "k")
     (case rE=>walk_at "k")
     (case rf=>walk_at "k")
     (case qi=>walk_at "k")
     (case kj=>walk_at "k")
     (case qf=>walk_at "k")
     (case d0=>walk_at "k")
     (case KN=>walk_at "k")
     (case GV=>walk_at "k")
     (case Dm=>walk_at "k")
     (case CO=>walk_at "k")
     (case CN=>walk_at "k")
     (case IS=>walk_at "k")
     (case KD=>walk_at "k")
     (case CW=>walk_at "k")
     (case Fn=>walk_at "k")
     (case zN=>walk_at "k")
     (case HW=>walk_at "k")
     (case IX=>walk_at "k")
     (case El=>walk_at "k")
     (case CK=>walk_at "k")
     (case yu=>walk_at "k")
     (case Hi=>walk_at "k")
     (case Jk=>walk_at "k")
     (case E7=>walk_at "k")
     (case EI=>walk_at "k")
     (case yA=>walk_at "k")
     (case KA=>walk_at "k")
     (case J_=>walk_at "k")
     (case DB=>walk_at "k")
     (case Dg=>walk_at "k")
     (case AG=>walk_at "k")
     (case mz=>walk_at "k")
     (case ml=>walk_at "k")
     (case lY=>walk_at "k")
     (case l9=>walk_at "k")
     (case iK=>walk_at "k")
     (case mm=>walk_at "k")
     (case fh=>walk_at "k")
     (case cY=>walk_at "k")
     (case G0=>walk_at "k")
     (case GK=>walk_at "k")
     (case D8=>walk_at "k")
     (case DD=>walk_at "k")
     (case DX=>walk_at "k")
     (case JL=>walk_at "k")
     (case wL=>walk_at "k")
     (case CG=>walk_at "k")
     (case EY=>walk_at "k")
     (case Aa=>walk_at "k")
     (case Ij=>walk_at "k")
     (case wH=>walk_at "k")
     (case E6=>walk_at "k")
     (case Cp=>walk_at "k")
     (case yQ=>walk_at "k")
     (case JS=>walk_at "k")
     (case Jy=>walk_at "k")
     (case Ef=>walk_at "k")
     (case DR=>walk_at "k")
     (case AO=>walk_at "k")
     (case Jd=>walk_at "k")
     (case GZ=>walk_at "k")
     (case CZ=>walk_at "k")
     (case Ct=>walk_at "k")
     (case Am=>walk_at "k")
     (case pZ=>walk_at "k")
     (case qQ=>walk_at "k")
     (case qw=>walk_at "k")
     (case qO=>walk_at "k")
     (case ko=>walk_at "k")
     (case rF=>walk_at "k")
     (case d6=>walk_at "k")
     (case IJ=>walk_at "k")
     (case Hx=>walk_at "k")
     (case DL=>walk_at "k")
     (case Fp=>walk_at "k")
     (case C1=>walk_at "k")
     (case KR=>walk_at "k")
     (case Iw=>walk_at "k")
     (case Cj=>walk_at "k")
     (case Fw=>walk_at "k")
     (case Ad=>walk_at "k")
     (case IA=>walk_at "k")
     (case Kn=>walk_at "k")
     (case C2=>walk_at "k")
     (case Ci=>walk_at "k")
     (case Aj=>walk_at "k")
     (case Ku=>walk_at "k")
     (case Jf=>walk_at "k")
     (case CC=>walk_at "k")
     (case C6=>walk_at "k")
     (case zO=>walk_at "k")
     (case JZ=>walk_at "k")
     (case Kl=>walk_at "k")
     (case Ck=>walk_at "k")
     (case Cu=>walk_at "k")
     (case z8=>walk_at "k")
     (case qv=>walk_at "k")
     (case qZ=>walk_at "k")
     (case rA=>walk_at "k")
     (case qd=>walk_at "k")
     (case j7=>walk_at "k")
     (case rB=>walk_at "k")
     (case fM=>walk_at "k")
     (case JW=>walk_at "k")
     (case HL=>walk_at "k")
     (case EV=>walk_at "k")
     (case Ed=>walk_at "k")
     (case Eg=>walk_at "k")
     (case Jo=>walk_at "k")
     (case Jz=>walk_at "k")
     (case EF=>walk_at "k")
     (case DJ=>walk_at "k")
     (case zD=>walk_at "k")
     (case Kq=>walk_at "k")
     (case wx=>walk_at "k")
     (case DK=>walk_at "k")
     (case DE=>walk_at "k")
     (case y8=>walk_at "k")
     (case Jq=>walk_at "k")
     (case GI=>walk_at "k")
     (case EU=>walk_at "k")
     (case Ez=>walk_at "k")
     (case AD=>walk_at "k")
     (case Kd=>walk_at "k")
     (case JO=>walk_at "k")
     (case B_=>walk_at "k")
     (case Dk=>walk_at "k")
     (case zd=>walk_at "k")
     (case rM=>walk_at "k")
     (case qm=>walk_at "k")
     (case rK=>walk_at "k")
     (case qY=>walk_at "k")
     (case j9=>walk_at "k")
     (case rJ=>walk_at "k")
     (case gj=>walk_at "k")
     (case JH=>walk_at "k")
     (case HR=>walk_at "k")
     (case EZ=>walk_at "k")
     (case DZ=>walk_at "k")
     (case B7=>walk_at "k")
     (case Js=>walk_at "k")
     (case Ic=>walk_at "k")
     (case Fq=>walk_at "k")
     (case CY=>walk_at "k")
     (case As=>walk_at "k")
     (case IB=>walk_at "k")
     (case J8=>walk_at "k")
     (case EL=>walk_at "k")
     (case ET=>walk_at "k")
     (case ze=>walk_at "k")
     (case G2=>walk_at "k")
     (case KG=>walk_at "k")
     (case Dz=>walk_at "k")
     (case D5=>walk_at "k")
     (case AS=>walk_at "k")
     (case Hf=>walk_at "k")
     (case IC=>walk_at "k")
     (case Co=>walk_at "k")
     (case Ei=>walk_at "k")
     (case zP=>walk_at "k")
     (case uK=>walk_at "k")
     (case tO=>walk_at "k")
     (case eB=>walk_at "k")
     (case eP=>walk_at "k")
     (case p9=>walk_at "k")
     (case p_=>walk_at "k")
     (case dz=>walk_at "k")
     (case dF=>walk_at "k")
     (case rj=>walk_at "k")
     (case rg=>walk_at "k")
     (case dJ=>walk_at "k")
     (case dE=>walk_at "k")
     (case mU=>walk_at "k")
     (case mT=>walk_at "k")
     (case cF=>walk_at "k")
     (case cE=>walk_at "k")
     (case qJ=>walk_at "k")
     (case qV=>walk_at "k")
     (case dQ=>walk_at "k")
     (case dI=>walk_at "k")
     (case qW=>walk_at "k")
     (case qP=>walk_at "k")
     (case dH=>walk_at "k")
     (case dO=>walk_at "k")
     (case qU=>walk_at "k")
     (case rG=>walk_at "k")
     (case dw=>walk_at "k")
     (case dN=>walk_at "k")
     (case lB=>walk_at "k")
     (case lI=>walk_at "k")
     (case lb=>walk_at "k")
     (case kW=>walk_at "k")
     (case kG=>walk_at "k")
     (case k_=>walk_at "k")
     (case kI=>walk_at "k")
     (case kE=>walk_at "k")
     (case kU=>walk_at "k")
     (case kA=>walk_at "k")
     (case kC=>walk_at "k")
     (case bP=>walk_at "k")
     (case fK=>walk_at "k")
     (case d9=>walk_at "k")
     (case gq=>walk_at "k")
     (case Km=>walk_at "k")
     (case D9=>walk_at "k")
     (case De=>walk_at "k")
     (case E5=>walk_at "k")
     (case Kt=>walk_at "k")
     (case Ej=>walk_at "k")
     (case DN=>walk_at "k")
     (case D_=>walk_at "k")
     (case Ii=>walk_at "k")
     (case Fh=>walk_at "k")
     (case Dh=>walk_at "k")
     (case EC=>walk_at "k")
     (case G8=>walk_at "k")
     (case Df=>walk_at "k")
     (case D1=>walk_at "k")
     (case D7=>walk_at "k")
     (case Hn=>walk_at "k")
     (case Dt=>walk_at "k")
     (case Du=>walk_at "k")
     (case DH=>walk_at "k")
     (case JQ=>walk_at "k")
     (case EN=>walk_at "k")
     (case Er=>walk_at "k")
     (case B9=>walk_at "k")
     (case KQ=>walk_at "k")
     (case Fb=>walk_at "k")
     (case EB=>walk_at "k")
     (case Cd=>walk_at "k")
     (case Jp=>walk_at "k")
     (case DG=>walk_at "k")
     (case DI=>walk_at "k")
     (case E3=>walk_at "k")
     (case GS=>walk_at "k")
     (case Fy=>walk_at "k")
     (case Dn=>walk_at "k")
     (case Eo=>walk_at "k")
     (case KL=>walk_at "k")
     (case E1=>walk_at "k")
     (case EH=>walk_at "k")
     (case Cq=>walk_at "k")
     (case Kj=>walk_at "k")
     (case Cb=>walk_at "k")
     (case C7=>walk_at "k")
     (case DO=>walk_at "k")
     (case J0=>walk_at "k")
     (case CJ=>walk_at "k")
     (case DM=>walk_at "k")
     (case DT=>walk_at "k")
     (case Jh=>walk_at "k")
     (case Fe=>walk_at "k")
     (case Cg=>walk_at "k")
     (case C8=>walk_at "k")
     (case Ha=>walk_at "k")
     (case CM=>walk_at "k")
     (case Fk=>walk_at "k")
     (case Cw=>walk_at "k")
     (case Jr=>walk_at "k")
     (case D0=>walk_at "k")
     (case ER=>walk_at "k")
     (case Fv=>walk_at "k")
     (case H_=>walk_at "k")
     (case Eh=>walk_at "k")
     (case E2=>walk_at "k")
     (case Ey=>walk_at "k")
     (case Ka=>walk_at "k")
     (case CQ=>walk_at "k")
     (case DY=>walk_at "k")
     (case DU=>walk_at "k")
     (case HM=>walk_at "k")
     (case CB=>walk_at "k")
     (case EK=>walk_at "k")
     (case Di=>walk_at "k")
     (case HA=>walk_at "k")
     (case Es=>walk_at "k")
     (case DF=>walk_at "k")
     (case Ep=>walk_at "k")
     (case IF=>walk_at "k")
     (case CI=>walk_at "k")
     (case Cr=>walk_at "k")
     (case CH=>walk_at "k")
     (case GW=>walk_at "k")
     (case AN=>walk_at "k")
     (case yH=>walk_at "k")
     (case zX=>walk_at "k")
     (case zr=>walk_at "k")
     (case Ky=>walk_at "k")
     (case CS=>walk_at "k")
     (case Ca=>walk_at "k")
     (case Fg=>walk_at "k")
     (case Ht=>walk_at "k")
     (case DC=>walk_at "k")
     (case Fo=>walk_at "k")
     (case EG=>walk_at "k")
     (case G5=>walk_at "k")
     (case EJ=>walk_at "k")
     (case CU=>walk_at "k")
     (case E9=>walk_at "k")
     (case Kw=>walk_at "k")
     (case B8=>walk_at "k")
     (case D4=>walk_at "k")
     (case CV=>walk_at "k")
     (case JR=>walk_at "k")
     (case Cz=>walk_at "k")
     (case Ds=>walk_at "k")
     (case C3=>walk_at "k")
     (case HZ=>walk_at "k")
     (case ES=>walk_at "k")
     (case EO=>walk_at "k")
     (case Ec=>walk_at "k")
     (case DP=>walk_at "k")
     (case AF=>walk_at "k")
     (case AA=>walk_at "k")
     (case yW=>walk_at "k")
   obtain ⟨a,fd,T,FF,B⟩:=T
   exact ⟨fd,B,fun base _ _=>FB.law_fn T FF⟩
