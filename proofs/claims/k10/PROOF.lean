import PyProof.Rows.All
import Wide.All
import OpenK.AllK
import Wide.FinOn
import Lean
import PyProof.EqAt
import PyProof.EqKinds
import PyProof.TupleCall
import PySem.Challenge.RW_frameback_k10_code_texts_refused
set_option Elab.async false
set_option linter.all false
set_option maxRecDepth 100000
namespace L2
open PySem PySem.Spec PyProof.Rows
abbrev Key:=Sum Int Str
def ka : Key → Value → Bool
 | .inl k,v=>Value.isInt k v
 | .inr x,v=>Value.isStrOf x v
def Mo (w : World) : Key → Int
 | .inl k=>hashInt k
 | .inr x=>hashStr w x
theorem cu : ∀ {k : Key} {v : Value}, ka k v = true → (∃ i t, k = Sum.inl i ∧ v = Value.int i t) ∨ (∃ x t, k = Sum.inr x ∧ v = Value.str x t)
 | .inl i, v, h => by
   obtain ⟨t,e⟩:=Value.isInt_shape (k:=i) (v:=v) h
   exact .inl ⟨i,t,rfl,e⟩
 | .inr x, v, h => by
   obtain ⟨t,e⟩:=Value.isStrOf_shape (x:=x) (v:=v) h
   exact .inr ⟨x,t,rfl,e⟩
theorem wa (i:Int) (t:Tok):ka (.inl i) (.int i t) = true:=by simp [ka,Value.isInt]
theorem u_ (x:Str) (t:Tok):ka (.inr x) (.str x t) = true:=by simp [ka,Value.isStrOf]
theorem Ds (a b : Int) : decide ((Sum.inl a : Key) = Sum.inl b) = (a == b) := by
 by_cases e:a = b
 · subst e;simp
 · have h : ¬ (Sum.inl a : Key) = Sum.inl b := fun q => e (Sum.inl.inj q)
   rw [decide_eq_false h]
   exact (beq_eq_false_iff_ne.mpr e).symm
theorem Dn (a b : Str) : decide ((Sum.inr a : Key) = Sum.inr b) = decide (a = b) := by
 by_cases e:a = b
 · subst e;simp
 · have h : ¬ (Sum.inr a : Key) = Sum.inr b := fun q => e (Sum.inr.inj q)
   rw [decide_eq_false h,decide_eq_false e]
theorem CJ (a:Int) (b:Str):decide ((Sum.inl a:Key) = Sum.inr b) = false:=decide_eq_false (fun q=>nomatch q)
theorem B0 (a:Str) (b:Int):decide ((Sum.inr a:Key) = Sum.inl b) = false:=decide_eq_false (fun q=>nomatch q)
def bG (prog : Program) (w : World) : PySem.KeyKind prog w Key where
 is:=ka
 hash:=Mo w
 inj := fun v a b ha hb => by
   rcases cu ha with ⟨i,t,rfl,rfl⟩ | ⟨x,t,rfl,rfl⟩
   · rcases cu hb with ⟨j, u, rfl, e⟩ | ⟨y, u, rfl, e⟩
     · injection e with e1 _;rw [e1]
     · exact nomatch e
   · rcases cu hb with ⟨j, u, rfl, e⟩ | ⟨y, u, rfl, e⟩
     · exact nomatch e
     · injection e with e1 _;rw [e1]
 byValue := fun k v h => by
   rcases cu h with ⟨i,t,rfl,rfl⟩ | ⟨x,t,rfl,rfl⟩ <;> rfl
 pyHash := fun hv h => by
   rcases cu hv with ⟨i,t,rfl,rfl⟩ | ⟨x,t,rfl,rfl⟩
   · exact wpAny_pyHash_int h
   · exact wpAny_pyHash_str h
 eqBool := fun hu hv h => by
   rcases cu hu with ⟨i,t,rfl,rfl⟩ | ⟨x,t,rfl,rfl⟩
   · rcases cu hv with ⟨j, u, rfl, rfl⟩ | ⟨y, u, rfl, rfl⟩
     · rw [Ds] at h;exact wpAny_eqBool_int h
     · rw [CJ] at h;exact SeqAt.EqAt.int_str i t y u _ _ _ _ h
   · rcases cu hv with ⟨j, u, rfl, rfl⟩ | ⟨y, u, rfl, rfl⟩
     · rw [B0] at h;exact SeqAt.EqAt.str_int x t j u _ _ _ _ h
     · rw [Dn] at h;exact wpAny_eqBool_str h
 «strs» := fun k x t v h => by
   rcases cu h with ⟨i,u,rfl,e⟩ | ⟨y,u,rfl,e⟩
   · exact nomatch e
   · injection e with e1 _
     subst e1
     cases v <;> rfl
theorem sD (prog:Program) (w:World) (i:Int) (t:Tok):(bG prog w).is (.inl i) (.int i t) = true:=wa i t
theorem su (prog:Program) (w:World) (x:Str) (t:Tok):(bG prog w).is (.inr x) (.str x t) = true:=u_ x t
end L2
namespace L2
open PySem PySem.Spec PyProof.Rows
inductive V where
 | aO | bl (b:Bool) | int (i:Int) | str (x:Str) | byt (b:Array UInt8) | qL (b:UInt64) | ref (a:Addr) | ty (n:String)
 deriving DecidableEq
def RelV : V → Value → Prop
 | .aO,u=>u = Value.none
 | .bl b,u=>u = Value.bool b
 | .int i,u=>∃ t,u = Value.int i t
 | .str x,u=>∃ t,u = Value.str x t
 | .byt b,u=>∃ t,u = Value.bytes b t
 | .qL b,u=>∃ t,u = Value.float b t
 | .ref a,u=>u = Value.ref a
 | .ty n,u=>u = Value.type n
abbrev aK:List V→List Value→Prop:=Paired RelV
theorem aK.length {xs:List V} {us:List Value} (r:aK xs us):xs.length = us.length:=Paired.length r
theorem aK.get : ∀ {xs : List V} {us : List Value} {i : Nat} {x : V}, aK xs us → xs[i]? = some x → ∃ u, us[i]? = some u ∧ RelV x u
 | _,_,_,_,.nil,e=>by simp at e
 | _,_,0,_,.cons r _,e=>by simp at e;subst e;exact ⟨_,rfl,r⟩
 | _, _, i + 1, x, .cons _ t, e => by
   obtain ⟨u,h1,h2⟩:=aK.get (i:=i) (x:=x) t (by simpa using e)
   exact ⟨u,by simpa using h1,h2⟩
theorem aK.append : ∀ {xs ys : List V} {us ws : List Value}, aK xs us → aK ys ws → aK (xs ++ ys) (us ++ ws)
 | _,_,_,_,.nil,s=>s
 | _,_,_,_,.cons r t,s=>.cons r (aK.append t s)
theorem aK.take : ∀ {xs : List V} {us : List Value} (n : Nat), aK xs us → aK (xs.take n) (us.take n)
 | _,_,0,_=>.nil
 | _,_,_ + 1,.nil=>.nil
 | _,_,n + 1,.cons r t=>.cons r (aK.take n t)
theorem aK.drop : ∀ {xs : List V} {us : List Value} (n : Nat), aK xs us → aK (xs.drop n) (us.drop n)
 | _,_,0,r=>r
 | _,_,_ + 1,.nil=>.nil
 | _,_,n + 1,.cons _ t=>aK.drop n t
def eR : Option V → Option Value → Prop
 | some v,some u=>RelV v u
 | none,none=>True
 | _,_=>False
def KV {κ : Type}:List (κ×V)→List (κ×Value)→Prop:=Paired fun (p : κ×V) (q : κ×Value)=>p.1 = q.1∧RelV p.2 q.2
def kV : Key → V
 | .inl i=>.int i
 | .inr x=>.str x
inductive HO where
 | lst (xs:List V)
 | tup (xs:List V)
 | dK (kvs:List (Key×V)) | dT (kvs:List (List Key×V))
 | set (S:Int→Bool) (n:Nat)
 | ins (C dx:Addr) (fs:List (Str×V))
 | own (x:Addr)
 | xd (fs:List (Str×V))
 | met (f x:Addr)
 | AR (lo hi:Int)
 | g6 (o:Obj) (u:HO)
 | oS (ps:Array Value)
 | ext (φ : Heap→Prop)
abbrev Hp:=Addr→Option HO
def upd (H:Hp) (a:Addr) (o:HO):Hp:=fun b=>if b = a then some o else H b
theorem ak {H:Hp} {a:Addr} {o:HO}:upd H a o a = some o:=by unfold upd;rw [if_pos rfl]
theorem aB {H:Hp} {a b:Addr} {o:HO} (h:b ≠ a):upd H a o b = H b:=by unfold upd;rw [if_neg h]
theorem aD {H : Hp} {a b : Addr} {o : HO} (h : H a = some o) (h' : H b = none) : a ≠ b := by
 intro e;subst e;rw [h] at h';cases h'
section
variable (P:Program) (w:World)
def bH (H : Hp) (h : Heap) (a : Addr) : HO → Prop
 | .lst xs=>xs.length ≤ sizeLine∧∃ (its:List Value) (n:Nat),aK xs its∧h.get? a = some { cls:=.type "list",data:=.seq its.toArray n }
 | .tup xs=>xs.length ≤ sizeLine∧∃ its:List Value,aK xs its∧IsTup h a its.toArray
 | .dK kvs=>kvs.length ≤ sizeLine∧(a == sysModules) = false∧∃ vs,KV kvs vs∧h.DictOf (bG P w) a vs
 | .dT kvs => kvs.length ≤ sizeLine ∧ (a == sysModules) = false ∧ ∃ xs : List (List Key × Addr × Value),
     Paired (fun (p:List Key×V) (q:List Key×Addr×Value)=>p.1 = q.1∧H q.2.1 = some (.tup (p.1.map kV))∧RelV p.2 q.2.2) kvs xs ∧
     ∃ o es ep,h.get? a = some o∧o.ExactDict∧o.data = .dict es ep∧es.toList = xs.map (entryOfKey (tupleKind (bG P w)))∧(xs.map (·.1)).Nodup
 | .set S n=>h.SetOf (intKind P w) a S n
 | .ins C dx fs => H dx = some (.own a) ∧ fs.length ≤ 1000 ∧ dx ≠ a ∧ h.get? a = some (PySem.W.instObj C dx) ∧
     ∃ mA,h.Ns1 dx mA∧(∀ f,eR (fs.lookup f) (mA f))∧PySem.Within mA (fs.map (·.1))
 | .own _=>∃ o,h.get? a = some o
 | .xd fs=>∃ mA,h.Ns1 a mA∧∀ f,eR (fs.lookup f) (mA f)
 | .AR lo hi=>∃ t u v,h.get? a = some { cls:=.type "range",data:=.fields #[.int lo t,.int hi u,.int 1 v] }
 | .g6 o u=>h.get? a = some o∧bH H h a u
 | .oS ps=>h.get? a = some { cls:=.none,data:=.fields ps }
 | .met f x=>h.get? a = some (PySem.W.methodObj (.ref f) (.ref x))
 | .ext φ=>φ h∧(∃ o,h.get? a = some o)∧∀ h1 h2:Heap,φ h1→(∀ o,h1.get? a = some o→h2.get? a = some o)→φ h2
def cC (H:Hp) (h:Heap):Prop:=∀ a o,H a = some o→bH P w H h a o
end
section
variable {P:Program} {w:World} {H H':Hp} {h h':Heap} {a:Addr} {o:HO}
theorem bH.lt (x : bH P w H h a o) : a < h.objs.size := by
 cases o with
 | lst xs=>obtain ⟨_,_,_,_,e⟩:=x;exact Heap.lt_size e
 | tup xs=>obtain ⟨_,_,_,p⟩:=x;exact p.lt
 | dK kvs=>obtain ⟨_,_,_,_,o,_,_,e,_⟩:=x;exact Heap.lt_size e
 | dT kvs=>obtain ⟨_,_,_,_,o,_,_,e,_⟩:=x;exact Heap.lt_size e
 | set S n=>obtain ⟨o,_,_,_,e,_⟩:=x;exact Heap.lt_size e
 | ins C dx fs=>obtain ⟨_,_,_,e,_⟩:=x;exact Heap.lt_size e
 | own y=>obtain ⟨_,e⟩:=x;exact Heap.lt_size e
 | xd fs=>obtain ⟨_,⟨_,_,_,e,_⟩,_⟩:=x;exact Heap.lt_size e
 | AR lo hi=>obtain ⟨_,_,_,e⟩:=x;exact Heap.lt_size e
 | g6 ob u=>obtain ⟨e,_⟩:=x;exact Heap.lt_size e
 | oS ps=>exact Heap.lt_size (show h.get? a = some _ from x)
 | met f y=>exact Heap.lt_size (show h.get? a = some _ from x)
 | ext φ=>obtain ⟨_,⟨_,e⟩,_⟩:=x;exact Heap.lt_size e
theorem Paired.CO {α β : Type} {F G : α → β → Prop} : ∀ {l₁ : List α} {l₂ : List β}, Paired F l₁ l₂ → (∀ a b, F a b → G a b) → Paired G l₁ l₂
 | _,_,.nil,_=>.nil
 | _,_,.cons r t,f=>.cons (f _ _ r) (Paired.CO t f)
theorem bH.gb (x : bH P w H h a o) (k : ∀ b u, (b = a ∨ H b = some (.own a)) → h.get? b = some u → h'.get? b = some u)
   (ho:∀ b,H b = some (.own a)→H' b = some (.own a)) (ht:∀ b xs,H b = some (.tup xs)→H' b = some (.tup xs)):bH P w H' h' a o:=by
 induction o with
 | lst xs=>obtain ⟨z,its,n,r,e⟩:=x;exact ⟨z,its,n,r,k _ _ (.inl rfl) e⟩
 | tup xs=>obtain ⟨z,its,r,ob,e,c⟩:=x;exact ⟨z,its,r,ob,k _ _ (.inl rfl) e,c⟩
 | dK kvs=>obtain ⟨z,y,vs,r,ob,es,ep,e,c⟩:=x;exact ⟨z,y,vs,r,ob,es,ep,k _ _ (.inl rfl) e,c⟩
 | dT kvs =>
   obtain ⟨z,y,xs,r,ob,es,ep,e,c⟩:=x
   exact ⟨z,y,xs,Paired.CO r fun p q z=>⟨z.1,ht _ _ z.2.1,z.2.2⟩,ob,es,ep,k _ _ (.inl rfl) e,c⟩
 | set S n=>obtain ⟨ob,es,ep,t,e,c⟩:=x;exact ⟨ob,es,ep,t,k _ _ (.inl rfl) e,c⟩
 | ins C dx fs =>
   obtain ⟨d,z,ne,e,mA,⟨od,es,ep,e2,c⟩,r⟩:=x
   exact ⟨ho _ d,z,ne,k _ _ (.inl rfl) e,mA,⟨od,es,ep,k _ _ (.inr d) e2,c⟩,r⟩
 | own y=>obtain ⟨ob,e⟩:=x;exact ⟨ob,k _ _ (.inl rfl) e⟩
 | xd fs=>obtain ⟨mA,⟨od,es,ep,e,c⟩,r⟩:=x;exact ⟨mA,⟨od,es,ep,k _ _ (.inl rfl) e,c⟩,r⟩
 | AR lo hi=>obtain ⟨t,u,v,e⟩:=x;exact ⟨t,u,v,k _ _ (.inl rfl) e⟩
 | g6 ob u ih=>obtain ⟨e,q⟩:=x;exact ⟨k _ _ (.inl rfl) e,ih q⟩
 | oS ps =>
   have e:h.get? a = some { cls:=.none,data:=.fields ps }:=x
   show h'.get? a = some { cls:=.none,data:=.fields ps }
   exact k a _ (.inl rfl) e
 | met f y =>
   have e:h.get? a = some (PySem.W.methodObj (.ref f) (.ref y)):=x
   show h'.get? a = some (PySem.W.methodObj (.ref f) (.ref y))
   exact k a _ (.inl rfl) e
 | ext φ=>obtain ⟨p,⟨o,e⟩,st⟩:=x;exact ⟨st _ _ p fun o q=>k _ _ (.inl rfl) q,⟨o,k _ _ (.inl rfl) e⟩,st⟩
theorem cC.lt (x:cC P w H h) (e:H a = some o):a < h.objs.size:=(x a o e).lt
theorem cC.fresh (x : cC P w H h) (e : h.objs.size ≤ a) : H a = none := by
 cases q:H a with
 | none=>rfl
 | some u=>exact absurd (Nat.lt_of_lt_of_le (x.lt q) e) (Nat.lt_irrefl _)
theorem cC.kept (x : cC P w H h) (k : ∀ b u, h.get? b = some u → h'.get? b = some u) : cC P w H h' := fun a o e =>
 (x a o e).gb (fun b u _ q=>k b u q) (fun _ q=>q) fun _ _ q=>q
theorem cC.laid (x : cC P w H h) (k : ∀ b u, h.get? b = some u → h'.get? b = some u) (hp : h.objs.size ≤ a) (new : bH P w (upd H a o) h' a o) : cC P w (upd H a o) h' := fun b u e => by
 have hn:=x.fresh hp
 by_cases hb:b = a
 · subst hb;rw [ak] at e;cases e;exact new
 · rw [aB hb] at e
   exact (x b u e).gb (fun c v _ q=>k c v q) (fun c q=>by rw [aB (aD q hn)];exact q) fun c xs q=>by rw [aB (aD q hn)];exact q
end
def Rd (H:Hp) (a:Addr) (u:HO):Prop:=H a = some u∨∃ o,H a = some (.g6 o u)
theorem Rd.ok {P : Program} {w : World} {H : Hp} {h : Heap} {a : Addr} {u : HO} (r : Rd H a u) (x : cC P w H h) : bH P w H h a u := by
 rcases r with r | ⟨o,r⟩
 · exact x a u r
 · obtain ⟨_, q⟩ := x a _ r
   exact q
def vH : Option HO → Prop
 | some (.lst _)=>True
 | some (.dK _)=>True
 | some (.dT _)=>True
 | some (.set _ _)=>True
 | some (.ins _ _ _)=>True
 | some (.ext _)=>True
 | _=>False
section
variable {P:Program} {w:World} {H:Hp} {h h':Heap} {x e:Addr} {o':HO}
theorem cC.write (ok : cC P w H h) (mu : vH (H x)) (he : e = x ∨ H e = some (.own x)) (k : ∀ b u, b ≠ e → h.get? b = some u → h'.get? b = some u) (heo : ∃ u, h'.get? e = some u)
   (new:bH P w (upd H x o') h' x o'):cC P w (upd H x o') h':=fun b u q=>by
 have nown:∀ c y,H c = some (.own y)→c ≠ x:=fun c y r z=>by subst z;rw [r] at mu;exact mu
 have ntup:∀ c xs,H c = some (.tup xs)→c ≠ x:=fun c xs r z=>by subst z;rw [r] at mu;exact mu
 by_cases hb:b = x
 · subst hb;rw [ak] at q;cases q;exact new
 · rw [aB hb] at q
   by_cases hbe:b = e
   · have q' : H b = some (.own x) := by
       rcases he with z | z
       · exact absurd (hbe.trans z) hb
       · rw [hbe];exact z
     rw [q] at q';cases q'
     obtain ⟨v,hv⟩:=heo
     exact ⟨v,by rw [hbe];exact hv⟩
   · refine (ok b u q).gb (fun c v hc r => k c v ?_ r) (fun c r => by rw [aB (nown c b r)]; exact r) fun c xs r => by rw [aB (ntup c xs r)]; exact r
     rcases hc with rfl | hc
     · exact hbe
     · rintro rfl
       rcases he with z | z
       · exact nown c b hc z
       · rw [hc] at z;cases z;exact hb rfl
end
structure Un (fs ex : List Addr) (H H' : Hp) (h h' : Heap) : Prop where
 keep:∀ b o,h.get? b = some o→H b = none→b ∉ fs→b ∉ ex→h'.get? b = some o
 slot:∀ b o,h.get? b = some o→H b = none→b ∈ fs→b ∉ ex→∃ sl,h'.get? b = some { o with slots:=sl }
 free:∀ b o,h.get? b = some o→H b = none→b ∉ ex→H' b = none
 there:∀ b o,h.get? b = some o→b ∉ ex→∃ o',h'.get? b = some o'
 fU:∀ b xs,H b = some (.tup xs)→H' b = some (.tup xs)
 fz:∀ b o u,H b = some (.g6 o u)→H' b = some (.g6 o u)
 fV:∀ b ps,H b = some (.oS ps)→∃ more,H' b = some (.oS (ps ++ more))
section
variable {fs fs' ex ex':List Addr} {H H1 H2:Hp} {h h1 h2 h':Heap} {a x e:Addr} {o:HO}
theorem Un.any (u : Un fs ex H H1 h h1) {b : Addr} {ob : Obj} (q : h.get? b = some ob) (n : H b = none) (hx : b ∉ ex) : ∃ sl, h1.get? b = some { ob with slots := sl } := by
 by_cases hb:b ∈ fs
 · exact u.slot b ob q n hb hx
 · exact ⟨ob.slots,u.keep b ob q n hb hx⟩
theorem Un.kept (k : ∀ b u, h.get? b = some u → h'.get? b = some u) : Un fs ex H H h h' :=
 ⟨fun b ob q _ _ _=>k b ob q,fun b ob q _ _ _=>⟨ob.slots,k b ob q⟩,fun _ _ _ n _=>n,fun b ob q _=>⟨ob,k b ob q⟩,fun _ _ q=>q,fun _ _ _ q=>q,fun _ ps q=>⟨#[],by rw [q];simp⟩⟩
theorem Un.refl:Un fs ex H H h h:=Un.kept fun _ _ q=>q
theorem Un.laid (k : ∀ b u, h.get? b = some u → h'.get? b = some u) (hp : h.objs.size ≤ a) (hn : H a = none) : Un fs ex H (upd H a o) h h' where
 keep:=fun b u q _ _ _=>k b u q
 slot:=fun b u q _ _ _=>⟨u.slots,k b u q⟩
 free:=fun b u q n _=>by rw [aB (Nat.ne_of_lt (Nat.lt_of_lt_of_le (Heap.lt_size q) hp))];exact n
 there:=fun b u q _=>⟨u,k b u q⟩
 fU:=fun b xs q=>by rw [aB (aD q hn)];exact q
 fz:=fun b u xs q=>by rw [aB (aD q hn)];exact q
 fV:=fun b ps q=>⟨#[],by rw [aB (aD q hn),q];simp⟩
theorem Un.write (mu : vH (H x)) (he : e = x ∨ H e = some (.own x)) (k : ∀ b u, b ≠ e → h.get? b = some u → h'.get? b = some u) (heo : ∃ u, h'.get? e = some u) : Un fs ex H (upd H x o) h h' := by
 have hx:∀ b,H b = none→b ≠ x:=fun b n z=>by subst z;rw [n] at mu;exact mu
 have hb : ∀ b, H b = none → b ≠ e := fun b n z => by
   subst z
   rcases he with r | r
   · exact hx b n r
   · rw [n] at r;cases r
 have hm:∀ b u,H b = some u→¬ vH (some u)→b ≠ x:=fun b u q nm z=>by subst z;rw [q] at mu;exact nm mu
 refine ⟨fun b u q n _ _ => k b u (hb b n) q, fun b u q n _ _ => ⟨u.slots, k b u (hb b n) q⟩, fun b u q n _ => by rw [aB (hx b n)]; exact n, fun b u q _ => ?_,
   fun b xs q=>by rw [aB (hm b _ q fun z=>z)];exact q,fun b u xs q=>by rw [aB (hm b _ q fun z=>z)];exact q,fun b ps q=>⟨#[],by rw [aB (hm b _ q fun z=>z),q];simp⟩⟩
 by_cases hbe:b = e
 · subst hbe;exact heo
 · exact ⟨u,k b u hbe q⟩
end
def zQ (h:Heap) (H:Hp):List Addr:=(List.range h.objs.size).filter fun a=>(H a).isSome
def iY (h:Heap) (H:Hp):Heap:=PySem.W.hideAll h (zQ h H)
theorem uC (h:Heap) (H:Hp):(iY h H).objs.size = h.objs.size:=PySem.W.hideAll_size _ _
theorem xg {h : Heap} {H : Hp} {b : Addr} {o : Obj} (e : h.get? b = some o) (n : H b = none) : (iY h H).get? b = some o :=
 PySem.W.hideAll_get _ e fun hm => by
   have q:(H b).isSome = true:=(List.mem_filter.mp hm).2
   rw [n] at q;simp at q
theorem BL {h : Heap} {H : Hp} {b : Addr} {o : Obj} (e : (iY h H).get? b = some o) : h.get? b = some o ∧ H b = none := by
 have e':h.get? b = some o:=PySem.W.of_hideAll (zQ h H) e
 refine ⟨e',?_⟩
 cases q:H b with
 | none=>rfl
 | some x =>
   have hm:b ∈ zQ h H:=List.mem_filter.mpr ⟨List.mem_range.mpr (Heap.lt_size e'),by simp [q]⟩
   have z:(iY h H).get? b = none:=PySem.W.hideAll_none (zQ h H) hm
   rw [z] at e;cases e
end L2
namespace L2
open PySem PySem.Spec PyProof.Rows
structure Mod (K : PySem.W.Frag) (mg : Str → Option Value) (base : Heap) : Prop where
 tj:K.In base
 glob:base.Ns mainGlobals mg
 blt:∃ mb,base.Ns builtinsNs mb∧∀ x:Str,x ≠ "__name__"→mb x = bootBuiltins x
 nolimit:base.NoLimit
structure Cx where
 prog:Program
 w:World
 K:PySem.W.Frag
 mg:Str→Option Value
 base:Heap
 A:Around
 N:List Str
 s₀ : Shared
 H₀ : Hp
 env:Env
 outer:List Env
 stack:List Env
 ex:List Addr
 fn:Str→Bool
 calm:Bool
 pn:List (Addr×Obj)
 xe:Value→Shared→Prop
def b6 (l:List Env):List Addr:=l.filterMap (·.frame)
abbrev Cx.fs (X:Cx):List Addr:=b6 X.outer
def sS (sc:Scope) (x:Str):Prop:=sc.names.lookup x = some .local∨sc.names.lookup x = some .cell∨sc.names.lookup x = some .free
def Loc (sc:Scope) (x:Str):Prop:=sc.names.lookup x = some .local∨sc.names.lookup x = some .cell
def Look (env : Env) (h : Heap) (m : Str → Option Value) (x : Str) (u : Value) : Prop :=
 (env.kindOf x = some .local∧m x = some u)∨((env.kindOf x = some .cell∨env.kindOf x = some .free)∧∃ c,env.cells.lookup x = some c∧h.IsCell c (some u))
structure Cx.Ok (X : Cx) : Prop where
 mod:Mod X.K X.mg X.base
 kind:X.env.scope.kind = .function
 glob:X.env.globals = mainGlobals
 blt:X.env.builtins = builtinsNs
 above:X.s₀.heap.objs.size ≤ X.env.locals
 inj:∀ x y c,X.env.cells.lookup x = some c→X.env.cells.lookup y = some c→x = y
 has:∀ x,(X.env.kindOf x = some .cell∨X.env.kindOf x = some .free)→∃ c,X.env.cells.lookup x = some c
 rJ:∀ x c,X.fn x = true→X.env.cells.lookup x = some c→X.s₀.heap.objs.size ≤ c
 hd:X.calm = true→X.A.handled = none
 frames:X.A.frames = some X.stack
 sV:X.stack = X.outer∨(X.stack = X.env :: X.outer∧X.env.frame = some X.env.locals)
 xY:∀ b ∈ X.ex,b ≠ X.env.locals∧∀ x c,X.env.cells.lookup x = some c→c ≠ b
 bs:∀ b o,X.base.get? b = some o→X.s₀.heap.get? b = some o∧X.H₀ b = none
 jh:X.base.objs.size ≤ X.s₀.heap.objs.size
 i4:∀ b o,X.base.get? b = some o→b ∉ X.ex
 nP:∀ b ∈ X.ex,b ∉ X.fs
 fA:X.s₀.heap.FunFrames X.base X.outer
 lW:∀ b ∈ X.fs,X.H₀ b = none
structure Inv (X : Cx) (pins : List (Addr × Obj)) (σ : List (Option V)) (H : Hp) (s : Shared) : Prop where
 ok:X.Ok
 os:s.os = X.s₀.os
 bare:AllBare s.gens
 base:Un X.fs X.ex X.H₀ H X.s₀.heap s.heap
 loc:∃ m,s.heap.Ns X.env.locals m∧∀ (i:Nat) (x:Str) (v:V),X.N[i]? = some x→σ[i]? = some (some v)→sS X.env.scope x→∃ u,RelV v u∧Look X.env s.heap m x u
 cell:∀ x c,X.env.cells.lookup x = some c→∃ v,s.heap.IsCell c v
 free:H X.env.locals = none
 ed:∀ x c,X.env.cells.lookup x = some c→H c = none
 pin:∀ p ∈ X.pn ++ pins,s.heap.get? p.1 = some p.2∧H p.1 = none∧p.1 ≠ X.env.locals∧p.1 ∉ X.fs∧∀ v,p.2.data ≠ .cell v
 ax:cC X.prog X.w H s.heap
 len : σ.length = X.N.length
section
variable {X:Cx} {pins:List (Addr×Obj)} {σ : List (Option V)} {H H':Hp} {s:Shared} {h':Heap}
theorem Cx.Ok.MS (ok : X.Ok) {b : Addr} {o : Obj} (e : X.base.get? b = some o) : b ∉ X.fs := fun hb => by
 have:=(ok.fA.mem hb).1
 rw [e] at this;cases this
theorem Inv.bs (I : Inv X pins σ H s) : ∀ b o, X.base.get? b = some o → s.heap.get? b = some o ∧ H b = none := fun b o e =>
 ⟨I.base.keep b o (I.ok.bs b o e).1 (I.ok.bs b o e).2 (I.ok.MS e) (I.ok.i4 b o e),I.base.free b o (I.ok.bs b o e).1 (I.ok.bs b o e).2 (I.ok.i4 b o e)⟩
theorem Inv.bk (I:Inv X pins σ H s):∀ b o,X.base.get? b = some o→s.heap.get? b = some o:=fun b o e=>(I.bs b o e).1
theorem Inv.mod (I:Inv X pins σ H s):Mod X.K X.mg X.base:=I.ok.mod
theorem Inv.cP (I:Inv X pins σ H s):X.K.In s.heap:=I.ok.mod.tj.keeps I.bk
theorem Inv.lt (I:Inv X pins σ H s):X.env.locals < s.heap.objs.size:=let ⟨_,hn,_⟩:=I.loc;hn.lt
theorem Inv.sz (I:Inv X pins σ H s):X.s₀.heap.objs.size ≤ s.heap.objs.size:=Nat.le_trans I.ok.above (Nat.le_of_lt I.lt)
theorem Inv.uf (I : Inv X pins σ H s) {a : Addr} (h : s.heap.objs.size ≤ a) : a ∉ X.fs := fun hb => by
 obtain ⟨_,o,ho,_⟩:=I.ok.fA.mem hb
 exact absurd (Nat.lt_of_lt_of_le (Heap.lt_size ho) (Nat.le_trans I.sz h)) (Nat.lt_irrefl _)
theorem Inv.j8 (I : Inv X pins σ H s) : ∀ x c, X.env.cells.lookup x = some c → c ≠ X.env.locals := fun x c e z => by
 obtain ⟨v,o,ho,hd⟩:=I.cell x c e
 obtain ⟨m,⟨o',es,ep,ho',hd',_⟩,_⟩:=I.loc
 rw [z,ho'] at ho;cases ho;rw [hd'] at hd;cases hd
theorem Inv.fA (I : Inv X pins σ H s) : s.heap.FunFrames X.base X.outer := by
 have all : ∀ (l : List Env), (∀ b ∈ b6 l, b ∈ X.fs) → X.s₀.heap.FunFrames X.base l → s.heap.FunFrames X.base l := by
   intro l
   induction l with
   | nil=>intro _ _;trivial
   | cons env r ih =>
     intro hs hl
     obtain ⟨hk,⟨L,o,hf,hn,ho,hd⟩,hr⟩:=hl
     have hL:L ∈ X.fs:=hs L (by unfold b6;rw [List.filterMap_cons,hf];exact List.mem_cons_self)
     obtain ⟨sl,e⟩:=I.base.slot L o ho (I.ok.lW L hL) hL fun z=>I.ok.nP L z hL
     exact ⟨hk,⟨L,_,hf,hn,e,hd⟩,ih (fun b hb=>hs b (by unfold b6;rw [List.filterMap_cons,hf];exact List.mem_cons_of_mem _ hb)) hr⟩
 exact all X.outer (fun _ hb=>hb) I.ok.fA
theorem Inv.stack (I : Inv X pins σ H s) : s.heap.FunFrames X.base X.stack := by
 rcases I.ok.sV with e | ⟨e,hf⟩
 · rw [e];exact I.fA
 · rw [e]
   obtain ⟨m,hn,_⟩:=I.loc
   refine .cons (by rw [I.ok.kind];decide) hf hn ?_ I.fA
   exact Heap.get?_none_of_le (Nat.le_trans I.ok.jh I.ok.above)
theorem Inv.eM (I : Inv X pins σ H s) : ∀ b ∈ b6 X.stack, b ∈ X.env.locals :: X.fs := fun b hb => by
 rcases I.ok.sV with e | ⟨e,hf⟩
 · rw [e] at hb;exact List.mem_cons_of_mem _ hb
 · rw [e] at hb
   unfold b6 at hb
   rw [List.filterMap_cons,hf] at hb
   exact hb
theorem Inv.gX (I : Inv X pins σ H s) : ∀ b ∈ b6 X.stack, H b = none := fun b hb => by
 rcases List.mem_cons.mp (I.eM b hb) with e | hb
 · rw [e];exact I.free
 · obtain ⟨_, o, ho, _⟩ := I.ok.fA.mem hb
   exact I.base.free b o ho (I.ok.lW b hb) fun z=>I.ok.nP b z hb
theorem Inv.step {g' : Array GenState} {t' : Nat} {d' : Drawn} {ch : List Addr} (I : Inv X pins σ H s)
   (hch:∀ b ∈ ch,(b ∈ X.ex∨X.s₀.heap.objs.size ≤ b)∧b ≠ X.env.locals∧(∀ x c,X.env.cells.lookup x = some c→c ≠ b)∧∀ p ∈ X.pn ++ pins,p.1 ≠ b)
   (keep:∀ b o,b ≠ X.env.locals→b ∉ X.fs→b ∉ ch→s.heap.get? b = some o→H b = none→h'.get? b = some o)
   (slot:∀ b o,b ≠ X.env.locals→b ∈ X.fs→b ∉ ch→s.heap.get? b = some o→H b = none→∃ sl,h'.get? b = some { o with slots:=sl }) (free:∀ b o,b ∉ ch→s.heap.get? b = some o→H b = none→H' b = none)
   (there:∀ b o,b ∉ ch→s.heap.get? b = some o→∃ o',h'.get? b = some o')
   (fU:∀ b xs,H b = some (.tup xs)→H' b = some (.tup xs)) (fz:∀ b o u,H b = some (.g6 o u)→H' b = some (.g6 o u)) (fV:∀ b ps,H b = some (.oS ps)→∃ more,H' b = some (.oS (ps ++ more)))
   (ns:∀ m,s.heap.Ns X.env.locals m→h'.Ns X.env.locals m) (ax:cC X.prog X.w H' h') (hg:AllBare g') :
   Inv X pins σ H' { s with heap:=h',gens:=g',drawn:=d',toks:=t' }:=by
 have neL:∀ b o,X.s₀.heap.get? b = some o→b ≠ X.env.locals:=fun b o e=>Nat.ne_of_lt (Nat.lt_of_lt_of_le (Heap.lt_size e) I.ok.above)
 have neC : ∀ b o, X.s₀.heap.get? b = some o → b ∉ X.ex → b ∉ ch := fun b o e hx hb => by
   rcases (hch b hb).1 with z | z
   · exact hx z
   · exact absurd (Nat.lt_of_lt_of_le (Heap.lt_size e) z) (Nat.lt_irrefl _)
 have cellK : ∀ x c, X.env.cells.lookup x = some c → ∀ v, s.heap.IsCell c v → h'.IsCell c v := fun x c e v ⟨o, ho, hd⟩ => by
   have nch:c ∉ ch:=fun z=>(hch c z).2.2.1 x c e rfl
   by_cases hc:c ∈ X.fs
   · obtain ⟨sl, q⟩ := slot c o (I.j8 x c e) hc nch ho (I.ed x c e)
     exact ⟨_,q,hd⟩
   · exact ⟨o,keep c o (I.j8 x c e) hc nch ho (I.ed x c e),hd⟩
 refine ⟨I.ok,I.os,hg,⟨fun b o e n hb hx=>?_,fun b o e n hb hx=>?_,fun b o e n hx=>?_,fun b o e hx=>?_,fun b xs e=>fU b xs (I.base.fU b xs e),fun b o xs e=>fz b o xs (I.base.fz b o xs e),fun b ps e=>?_⟩,?_,fun x c e=>?_,?_,fun x c e=>?_,fun p hp=>?_,ax,I.len⟩
 · exact keep b o (neL b o e) hb (neC b o e hx) (I.base.keep b o e n hb hx) (I.base.free b o e n hx)
 · obtain ⟨sl, e1⟩ := I.base.slot b o e n hb hx
   obtain ⟨sl',e2⟩:=slot b _ (neL b o e) hb (neC b o e hx) e1 (I.base.free b o e n hx)
   exact ⟨sl',e2⟩
 · obtain ⟨o', e1⟩ := I.base.there b o e hx
   exact free b o' (neC b o e hx) e1 (I.base.free b o e n hx)
 · obtain ⟨o', e1⟩ := I.base.there b o e hx
   exact there b o' (neC b o e hx) e1
 · obtain ⟨m1, e1⟩ := I.base.fV b ps e
   obtain ⟨m2,e2⟩:=fV b _ e1
   exact ⟨m1 ++ m2,by rw [e2,Array.append_assoc]⟩
 · obtain ⟨m, hn, hl⟩ := I.loc
   refine ⟨m,ns m hn,fun i x v e1 e2 e3=>?_⟩
   obtain ⟨u,r,l⟩:=hl i x v e1 e2 e3
   refine ⟨u,r,?_⟩
   rcases l with l | ⟨k,c,e,z⟩
   · exact .inl l
   · exact .inr ⟨k,c,e,cellK x c e _ z⟩
 · obtain ⟨v, z⟩ := I.cell x c e
   exact ⟨v,cellK x c e v z⟩
 · obtain ⟨m, ⟨o, _, _, ho, _⟩, _⟩ := I.loc
   exact free _ o (fun z=>(hch _ z).2.1 rfl) ho I.free
 · obtain ⟨v, o, ho, hd⟩ := I.cell x c e
   exact free c o (fun z=>(hch c z).2.2.1 x c e rfl) ho (I.ed x c e)
 · obtain ⟨e, n, ne, nf, d⟩ := I.pin p hp
   have nch:p.1 ∉ ch:=fun z=>(hch p.1 z).2.2.2 p hp rfl
   exact ⟨keep p.1 p.2 ne nf nch e n,free p.1 p.2 nch e n,ne,nf,d⟩
theorem Inv.un {t' : Nat} (I : Inv X pins σ H s) (u : Un X.fs [] H H' s.heap h') (ax : cC X.prog X.w H' h') : Inv X pins σ H' { s with heap := h', toks := t' } := by
 obtain ⟨m,⟨o,es,ep,ho,r⟩,_⟩:=id I.loc
 obtain ⟨sl,hL⟩:=u.any ho I.free (by simp)
 exact I.step (g' := s.gens) (d' := s.drawn) (ch := []) (fun _ z => nomatch z) (fun b o _ hb _ e n => u.keep b o e n hb (by simp)) (fun b o _ hb _ e n => u.slot b o e n hb (by simp)) (fun b o _ e n => u.free b o e n (by simp)) (fun b o _ e => u.there b o e (by simp)) u.fU u.fz u.fV (fun m' hm => by
   obtain ⟨o',es',ep',ho',r'⟩:=hm
   rw [ho] at ho';cases ho'
   exact ⟨_,es',ep',hL,r'⟩) ax I.bare
theorem Inv.call {g' : Array GenState} {t' : Nat} {d' : Drawn} {ch : List Addr} (I : Inv X pins σ H s) (u : Un (b6 X.stack) ch H H' s.heap h') (ax : cC X.prog X.w H' h') (hg : AllBare g')
   (hch:∀ b ∈ ch,(b ∈ X.ex∨X.s₀.heap.objs.size ≤ b)∧b ≠ X.env.locals∧(∀ x c,X.env.cells.lookup x = some c→c ≠ b)∧∀ p ∈ X.pn ++ pins,p.1 ≠ b) :
   Inv X pins σ H' { s with heap:=h',gens:=g',drawn:=d',toks:=t' }:=by
 obtain ⟨m,⟨o,es,ep,ho,r⟩,_⟩:=id I.loc
 obtain ⟨sl,hL⟩:=u.any ho I.free fun z=>(hch _ z).2.1 rfl
 exact I.step (ch := ch) hch (fun b o hL hb hc e n => u.keep b o e n (fun z => (List.mem_cons.mp (I.eM b z)).elim hL hb) hc) (fun b o _ _ hc e n => u.any e n hc) (fun b o hc e n => u.free b o e n hc) (fun b o hc e => u.there b o e hc) u.fU u.fz u.fV (fun m' hm => by
   obtain ⟨o',es',ep',ho',r'⟩:=hm
   rw [ho] at ho';cases ho'
   exact ⟨_,es',ep',hL,r'⟩) ax hg
theorem Inv.turned {t' : Nat} {it : Addr} (I : Inv X pins σ H s) (k : ∀ b o, b ≠ it → s.heap.get? b = some o → h'.get? b = some o) (hn : H it = none) (hL : it ≠ X.env.locals)
   (h1:it ∈ X.ex∨X.s₀.heap.objs.size ≤ it) (h2:∀ x c,X.env.cells.lookup x = some c→c ≠ it) (h3:∀ p ∈ X.pn ++ pins,p.1 ≠ it):Inv X pins σ H { s with heap:=h',toks:=t' }:=by
 have nit:∀ b u,H b = some u→b ≠ it:=fun b u e z=>by rw [z,hn] at e;cases e
 refine I.step (g' := s.gens) (d' := s.drawn) (ch := [it]) (fun b hb => ?_) (fun b o _ _ hc e _ => k b o (fun z => hc (by simp [z])) e) (fun b o _ _ hc e _ => ⟨o.slots, k b o (fun z => hc (by simp [z])) e⟩) (fun _ _ _ _ n => n)
   (fun b o hc e=>⟨o,k b o (fun z=>hc (by simp [z])) e⟩) (fun _ _ e=>e) (fun _ _ _ e=>e) (fun b ps e=>⟨#[],by rw [e];simp⟩) (fun m hm=>?_) (fun b u e=>?_) I.bare
 · have e : b = it := by simpa using hb
   subst e
   exact ⟨h1,hL,h2,h3⟩
 · obtain ⟨o, es, ep, ho, r⟩ := hm
   exact ⟨o,es,ep,k _ o (Ne.symm hL) ho,r⟩
 · refine (I.ax b u e).gb (fun c v hc q => k c v ?_ q) (fun _ q => q) fun _ _ q => q
   rcases hc with z | z
   · rw [z];exact nit b u e
   · exact nit c _ z
theorem Inv.tok (I:Inv X pins σ H s) (t:Nat):Inv X pins σ H { s with toks:=t }:=I.un (h':=s.heap) (t':=t) Un.refl I.ax
theorem Inv.kept {t':Nat} (I:Inv X pins σ H s) (k:∀ b u,s.heap.get? b = some u→h'.get? b = some u):Inv X pins σ H { s with heap:=h',toks:=t' }:=I.un (Un.kept k) (I.ax.kept k)
theorem Inv.laid {a : Addr} {o : HO} {t' : Nat} (I : Inv X pins σ H s) (k : ∀ b u, s.heap.get? b = some u → h'.get? b = some u) (hp : s.heap.objs.size ≤ a) (new : bH X.prog X.w (upd H a o) h' a o) :
   Inv X pins σ (upd H a o) { s with heap:=h',toks:=t' }:=I.un (Un.laid k hp (I.ax.fresh hp)) (I.ax.laid k hp new)
theorem Inv.write {x e : Addr} {o : HO} {t' : Nat} (I : Inv X pins σ H s) (mu : vH (H x)) (he : e = x ∨ H e = some (.own x)) (k : ∀ b u, b ≠ e → s.heap.get? b = some u → h'.get? b = some u) (heo : ∃ u, h'.get? e = some u)
   (new:bH X.prog X.w (upd H x o) h' x o):Inv X pins σ (upd H x o) { s with heap:=h',toks:=t' }:=I.un (Un.write mu he k heo) (I.ax.write mu he k heo new)
theorem Inv.fD {pins' : List (Addr × Obj)} (I : Inv X pins σ H s) (h : ∀ p ∈ pins', s.heap.get? p.1 = some p.2 ∧ H p.1 = none ∧ p.1 ≠ X.env.locals ∧ p.1 ∉ X.fs ∧ ∀ v, p.2.data ≠ .cell v) : Inv X pins' σ H s :=
 ⟨I.ok,I.os,I.bare,I.base,I.loc,I.cell,I.free,I.ed,fun p hp=>(List.mem_append.mp hp).elim (fun z=>I.pin p (List.mem_append_left _ z)) (h p),I.ax,I.len⟩
theorem lP {N : List Str} (hN : N.Nodup) {i j : Nat} {x : Str} (a : N[i]? = some x) (b : N[j]? = some x) : i = j := by
 obtain ⟨h1,e1⟩:=List.getElem?_eq_some_iff.mp a
 obtain ⟨h2,e2⟩:=List.getElem?_eq_some_iff.mp b
 exact (List.getElem_inj hN).mp (e1.trans e2.symm)
theorem ia {M : Model} {A : Around} {E : Value → Shared → Prop} {i : Nat} {x : Str} {v : V} {u : Value} {Q : Unit → Shared → Prop} (I : Inv X pins σ H s) (hN : X.N.Nodup) (hi : X.N[i]? = some x) (hx : Loc X.env.scope x) (r : RelV v u)
   (h:∀ s',Inv X pins (σ.set i (some v)) H s'→(∃ a,Heap.SameBut a s.heap s'.heap∧(a = X.env.locals∨X.env.cells.lookup x = some a))→Q () s') (hf:X.fn x = true∨X.env.scope.names.lookup x = some .local:=by first | exact .inl rfl | exact .inr rfl | assumption):wpAny M A (storeName X.env x u) Q E s:=by
 obtain ⟨m,hn,hl⟩:=id I.loc
 have hcls:(X.env.scope.kind == .class || (X.env.scope.kind == .module && X.env.locals != X.env.globals)) = false:=by rw [I.ok.kind];rfl
 have hiσ : i < σ.length:=by rw [I.len];exact (List.getElem?_eq_some_iff.mp hi).1
 have j8:=I.j8
 have tracked : ∀ {a : Addr} {h' : Heap}, (∃ o, s.heap.get? a = some o ∧ H a = none) → Heap.SameBut a s.heap h' → cC X.prog X.w H h' := fun {a h'} ha hs b ob e => by
   obtain ⟨_,_,hfree⟩:=ha
   refine (I.ax b ob e).gb (fun c w' hc q=>(hs.2 c ?_).trans q) (fun _ q=>q) fun _ _ q=>q
   rintro rfl
   rcases hc with rfl | hc
   · rw [hfree] at e;cases e
   · rw [hfree] at hc;cases hc
 rcases hx with hk | hk
 · refine wpAny_storeName_local hk hn (fun h' hn' hs => ?_) hcls
   obtain ⟨oL,_,_,hoL,_⟩:=id hn
   refine h _ ⟨I.ok,I.os,I.bare,⟨fun b o e n hb hx=>?_,fun b o e n hb hx=>?_,I.base.free,fun b o e hx=>?_,I.base.fU,I.base.fz,I.base.fV⟩,⟨_,hn',fun j y v' e1 e2 e3=>?_⟩,fun y c e=>?_,I.free,I.ed,fun p hp=>?_,tracked ⟨oL,hoL,I.free⟩ hs,by simpa using I.len⟩ ⟨_,hs,.inl rfl⟩
   · exact (hs.2 b (Nat.ne_of_lt (Nat.lt_of_lt_of_le (Heap.lt_size e) I.ok.above))).trans (I.base.keep b o e n hb hx)
   · obtain ⟨sl, e1⟩ := I.base.slot b o e n hb hx
     exact ⟨sl,(hs.2 b (Nat.ne_of_lt (Nat.lt_of_lt_of_le (Heap.lt_size e) I.ok.above))).trans e1⟩
   · obtain ⟨o', e1⟩ := I.base.there b o e hx
     exact ⟨o',(hs.2 b (Nat.ne_of_lt (Nat.lt_of_lt_of_le (Heap.lt_size e) I.ok.above))).trans e1⟩
   · by_cases hj : j = i
     · subst hj
       rw [hi] at e1;cases e1
       rw [List.getElem?_set_self hiσ] at e2
       cases e2
       exact ⟨u,r,.inl ⟨hk,by simp⟩⟩
     · rw [List.getElem?_set_ne (Ne.symm hj)] at e2
       obtain ⟨u',r',q⟩:=hl j y v' e1 e2 e3
       refine ⟨u',r',?_⟩
       rcases q with ⟨k,e⟩ | ⟨k,c,e,z⟩
       · refine .inl ⟨k, ?_⟩
         have:y ≠ x:=fun e=>hj (lP hN e1 (e ▸ hi))
         simp [this,e]
       · exact .inr ⟨k,c,e,z.sameBut hs (j8 y c e)⟩
   · obtain ⟨w', z⟩ := I.cell y c e
     exact ⟨w',z.sameBut hs (j8 y c e)⟩
   · obtain ⟨e, n, ne, nf, d⟩ := I.pin p hp
     exact ⟨(hs.2 p.1 ne).trans e,n,ne,nf,d⟩
 · have hfn : X.fn x = true := by
     rcases hf with z | z
     · exact z
     · rw [z] at hk;cases hk
   obtain ⟨c,hc⟩:=I.ok.has x (.inl hk)
   obtain ⟨w',z⟩:=I.cell x c hc
   refine wpAny_storeName_cell I.ok.kind hk hc z (fun h' hc' hs=>?_)
   obtain ⟨oc,hoc,hocd⟩:=id z
   refine h { s with heap:=h' } ⟨I.ok,I.os,I.bare,⟨fun b o e n hb hx=>?_,fun b o e n hb hx=>?_,I.base.free,fun b o e hx=>?_,I.base.fU,I.base.fz,I.base.fV⟩,⟨m,hn.sameBut hs (Ne.symm (j8 x c hc)),fun j y v' e1 e2 e3=>?_⟩,fun y c' e=>?_,I.free,I.ed,fun p hp=>?_,tracked ⟨oc,hoc,I.ed x c hc⟩ hs,by simpa using I.len⟩ ⟨c,hs,.inr hc⟩
   · exact (hs.2 b (Nat.ne_of_lt (Nat.lt_of_lt_of_le (Heap.lt_size e) (I.ok.rJ x c hfn hc)))).trans (I.base.keep b o e n hb hx)
   · obtain ⟨sl, e1⟩ := I.base.slot b o e n hb hx
     exact ⟨sl,(hs.2 b (Nat.ne_of_lt (Nat.lt_of_lt_of_le (Heap.lt_size e) (I.ok.rJ x c hfn hc)))).trans e1⟩
   · obtain ⟨o', e1⟩ := I.base.there b o e hx
     exact ⟨o',(hs.2 b (Nat.ne_of_lt (Nat.lt_of_lt_of_le (Heap.lt_size e) (I.ok.rJ x c hfn hc)))).trans e1⟩
   · by_cases hj : j = i
     · subst hj
       rw [hi] at e1;cases e1
       rw [List.getElem?_set_self hiσ] at e2
       cases e2
       exact ⟨u,r,.inr ⟨.inl hk,c,hc,hc'⟩⟩
     · rw [List.getElem?_set_ne (Ne.symm hj)] at e2
       obtain ⟨u',r',q⟩:=hl j y v' e1 e2 e3
       refine ⟨u',r',?_⟩
       rcases q with q | ⟨k,c',e,z'⟩
       · exact .inl q
       · refine .inr ⟨k, c', e, z'.sameBut hs ?_⟩
         rintro rfl
         exact hj (lP hN e1 (I.ok.inj _ _ _ e hc ▸ hi))
   · by_cases hcc : c' = c
     · subst hcc;exact ⟨_,hc'⟩
     · obtain ⟨w2, z2⟩ := I.cell y c' e
       exact ⟨w2,z2.sameBut hs hcc⟩
   · obtain ⟨e, n, ne, nf, d⟩ := I.pin p hp
     refine ⟨(hs.2 p.1 ?_).trans e,n,ne,nf,d⟩
     intro q
     rw [q,hoc] at e
     have q':oc = p.2:=Option.some.inj e
     exact d w' (by rw [← q'];exact hocd)
theorem iX {M : Model} {A : Around} {E : Value → Shared → Prop} {i : Nat} {x : Str} {v : V} {u : Value} {Q : Unit → Shared → Prop} (I : Inv X pins σ H s) (hN : X.N.Nodup) (hi : X.N[i]? = some x) (hx : Loc X.env.scope x) (r : RelV v u)
   (h:∀ s',Inv X pins (σ.set i (some v)) H s'→Q () s') (hf:X.fn x = true∨X.env.scope.names.lookup x = some .local:=by first | exact .inl rfl | exact .inr rfl | assumption):wpAny M A (storeName X.env x u) Q E s :=
 ia I hN hi hx r (fun s' I' _=>h s' I') hf
theorem Inv.i6 {s' : Shared} {ch : List Addr} (I : Inv X pins σ H s) (ho : s'.os = s.os) (u : Un (b6 X.stack) ch H H' s.heap s'.heap) (ax : cC X.prog X.w H' s'.heap) (hg : AllBare s'.gens)
   (hch:∀ b ∈ ch,(b ∈ X.ex∨X.s₀.heap.objs.size ≤ b)∧b ≠ X.env.locals∧(∀ x c,X.env.cells.lookup x = some c→c ≠ b)∧∀ p ∈ X.pn ++ pins,p.1 ≠ b):Inv X pins σ H' s':=by
 obtain ⟨h',g',d',t',o'⟩:=s'
 have e:o' = s.os:=ho
 subst e
 exact I.call (g':=g') (t':=t') (d':=d') u ax hg hch
end
abbrev XK:=Value→Option Addr→Hp→Prop
abbrev St:=List (Option V)
abbrev VK:=V→Hp→Prop
abbrev TE:=St→Hp→VK→Prop
abbrev TT:=St→Hp→(Bool→Hp→Prop)→Prop
abbrev TA:=St→Hp→(List V→Hp→Prop)→Prop
structure Ends where
 nx:St→Hp→Prop
 rt:VK
 bk:St→Hp→Prop:=fun _ _=>False
 ct:St→Hp→Prop:=fun _ _=>False
abbrev TS:=Ends→St→Hp→Prop
def EP (X:Cx) (pins:List (Addr×Obj)) (σ : St) (Q:VK) (u:Value) (s':Shared):Prop:=∃ v H',Inv X pins σ H' s'∧RelV v u∧Q v H'
def TP (X:Cx) (pins:List (Addr×Obj)) (σ : St) (Q:Bool→Hp→Prop) (b:Bool) (s':Shared):Prop:=∃ H',Inv X pins σ H' s'∧Q b H'
def AP (X:Cx) (pins:List (Addr×Obj)) (σ : St) (Q:List V→Hp→Prop) (us:List Value) (s':Shared):Prop:=∃ vs H',Inv X pins σ H' s'∧aK vs us∧Q vs H'
def SP (X : Cx) (pins : List (Addr × Obj)) (D : Ends) (f : Flow) (s' : Shared) : Prop :=
 match f with
 | .next=>∃ σ' H',Inv X pins σ' H' s'∧D.nx σ' H'
 | .brk=>∃ σ' H',Inv X pins σ' H' s'∧D.bk σ' H'
 | .cont=>∃ σ' H',Inv X pins σ' H' s'∧D.ct σ' H'
 | .ret u=>∃ v σ' H',Inv X pins σ' H' s'∧RelV v u∧D.rt v H'
def PE (X : Cx) (e : Expr) (t : TE) : Prop :=
 ∀ (pins:List (Addr×Obj)) (s:Shared) (σ : St) (H:Hp) (Q:VK),Inv X pins σ H s→t σ H Q→wpAny (model X.prog X.w) X.A (eval e X.env) (EP X pins σ Q) X.xe s
def PT (X : Cx) (e : Expr) (t : TT) : Prop :=
 ∀ (pins:List (Addr×Obj)) (s:Shared) (σ : St) (H:Hp) (Q:Bool→Hp→Prop),Inv X pins σ H s→t σ H Q→wpAny (model X.prog X.w) X.A (isTrue e X.env (eval e X.env)) (TP X pins σ Q) X.xe s
def PW (X : Cx) (e : Expr) (t : TT) : Prop :=
 ∀ (whole:Sem Value) (pins:List (Addr×Obj)) (s:Shared) (σ : St) (H:Hp) (Q:Bool→Hp→Prop),Inv X pins σ H s→t σ H Q→wpAny (model X.prog X.w) X.A (isTrue e X.env whole) (TP X pins σ Q) X.xe s
theorem PW.pt {X:Cx} {e:Expr} {t:TT} (h:PW X e t):PT X e t:=h _
def PA (X : Cx) (es : List Expr) (t : TA) : Prop :=
 ∀ (pos:Pos) (pins:List (Addr×Obj)) (s:Shared) (σ : St) (H:Hp) (Q:List V→Hp→Prop),Inv X pins σ H s→t σ H Q→wpAny (model X.prog X.w) X.A (spliced (backTo pos (starEach es X.env))) (AP X pins σ Q) X.xe s
def PS (X : Cx) (st : Stmt) (t : TS) : Prop :=
 ∀ (pins:List (Addr×Obj)) (s:Shared) (σ : St) (H:Hp) (D:Ends),Inv X pins σ H s→t D σ H→wpAny (model X.prog X.w) X.A (exec st X.env) (SP X pins D) X.xe s
def gu (X : Cx) (st : List Stmt) (t : TS) : Prop :=
 ∀ (pins:List (Addr×Obj)) (s:Shared) (σ : St) (H:Hp) (D:Ends),Inv X pins σ H s→t D σ H→wpAny (model X.prog X.w) X.A (execs st X.env) (SP X pins D) X.xe s
theorem aY {α : Type} {t:Sem α} {Q Q' : α→Shared→Prop} {M:Model} {A:Around} {E:Value→Shared→Prop} {s:Shared} (h:wpAny M A t Q E s) (hQ:∀ a s,Q a s→Q' a s):wpAny M A t Q' E s:=wpAny_mono h hQ fun _ _ x=>x
end L2
namespace L2
open PySem PySem.Spec PyProof.Rows
section
variable {X:Cx}
def cn (i:Nat):TE:=fun σ H Q=>∃ v,σ[i]? = some (some v)∧Q v H
def tC (v:V):TE:=fun _ H Q=>Q v H
theorem CF {i : Nat} {x : Str} {pos : Pos} (hN : X.N[i]? = some x) (hv : sS X.env.scope x) (hd : (x == ("__debug__" : Str)) = false := by decide) (hcd : (x == ("__classdict__" : Str)) = false := by decide) : PE X (.Name x pos) (cn i) := by
 intro pins s σ H Q I h
 obtain ⟨v,e,h⟩:=h
 obtain ⟨m,hn,hl⟩:=I.loc
 obtain ⟨u,r,l⟩:=hl i x v hN e hv
 have fin:EP X pins σ Q u s:=⟨v,H,I,r,h⟩
 rcases l with ⟨hk,hm⟩ | ⟨hk,c,hc,hcell⟩
 · exact wpAny_Name (wpAny_loadName_local I.ok.kind hk hn hm fin) hd
 · rcases hk with hk | hk
   · exact wpAny_Name (wpAny_loadName_cell I.ok.kind hk hc hcell fin) hd
   · exact wpAny_Name (wpAny_loadName_free I.ok.kind hk hc hcell fin hcd) hd
theorem aj {i j pos}:PE X (.Constant (.int i) j pos) (tC (.int i)):=fun _ _ _ H _ I h=>wpAny_Constant_int ⟨.int i,H,I.tok _,⟨_,rfl⟩,h⟩
theorem kn {b j pos}:PE X (.Constant (.bool b) j pos) (tC (.bl b)):=fun _ _ _ H _ I h=>Constant_bool ⟨.bl b,H,I,rfl,h⟩
theorem hG {j pos}:PE X (.Constant .none j pos) (tC .aO):=fun _ _ _ H _ I h=>Constant_none ⟨.aO,H,I,rfl,h⟩
theorem ai {x j pos}:PE X (.Constant (.str x) j pos) (tC (.str x)):=fun _ _ _ H _ I h=>Calls.Constant_str ⟨.str x,H,I.tok _,⟨_,rfl⟩,h⟩
def Gl (X:Cx) (x:Str):Prop:=X.env.kindOf x = some .globalImplicit
theorem fZ {E : Value → Shared → Prop} {pins : List (Addr × Obj)} {s : Shared} {σ : St} {H : Hp} {x : Str} {u : Value} {pos : Pos} {Q : Value → Shared → Prop} (I : Inv X pins σ H s) (hg : Gl X x) (hm : X.mg x = some u) (h : Q u s)
   (hd:(x == ("__debug__" : Str)) = false:=by decide):wpAny (model X.prog X.w) X.A (eval (.Name x pos) X.env) Q E s :=
 Calls.Name_function_global I.ok.kind hg (Calls.loadGlobal_global (by rw [I.ok.glob];exact I.mod.glob.keeps I.bk) hm h) hd
theorem jE {E : Value → Shared → Prop} {pins : List (Addr × Obj)} {s : Shared} {σ : St} {H : Hp} {x : Str} {u : Value} {pos : Pos} {Q : Value → Shared → Prop} (I : Inv X pins σ H s) (hg : Gl X x) (hm : X.mg x = none) (hv : bootBuiltins x = some u) (h : Q u s)
   (hn:x ≠ "__name__":=by decide) (hd:(x == ("__debug__" : Str)) = false:=by decide):wpAny (model X.prog X.w) X.A (eval (.Name x pos) X.env) Q E s:=by
 obtain ⟨mb,h1,h2⟩:=I.mod.blt
 exact Calls.Name_function_global I.ok.kind hg (Calls.loadGlobal_builtin (by rw [I.ok.glob];exact I.mod.glob.keeps I.bk) hm (by rw [I.ok.blt];exact h1.keeps I.bk) ((h2 x hn).trans hv) h) hd
theorem aL {x : Str} {v : V} {u : Value} {pos : Pos} (hg : Gl X x) (hm : X.mg x = some u) (r : RelV v u) (hd : (x == ("__debug__" : Str)) = false := by decide) : PE X (.Name x pos) (tC v) :=
 fun _ _ _ H _ I h=>fZ I hg hm ⟨v,H,I,r,h⟩ hd
theorem kq {x : Str} {v : V} {u : Value} {pos : Pos} (hg : Gl X x) (hm : X.mg x = none) (hv : bootBuiltins x = some u) (r : RelV v u) (hn : x ≠ "__name__" := by decide) (hd : (x == ("__debug__" : Str)) = false := by decide) : PE X (.Name x pos) (tC v) :=
 fun _ _ _ H _ I h=>jE I hg hm hv ⟨v,H,I,r,h⟩ hn hd
variable {a b:Expr} {ta tb:TE} {pos:Pos}
theorem wu (b : Expr) {op : CmpOp} (h : op ≠ .In) (h2 : op ≠ .NotIn) : behindInMarks op b = false := by
 have e1:(op == CmpOp.In) = false:=by cases op <;> first | rfl | exact absurd rfl h
 have e2:(op == CmpOp.NotIn) = false:=by cases op <;> first | rfl | exact absurd rfl h2
 cases b <;> simp [behindInMarks,e1,e2]
variable {tA tB':TT} {rest:List Expr}
def D4 (t u:TT):TT:=fun σ H Q=>t σ H fun c H1=>if c = true then u σ H1 Q else Q false H1
def Lj (t u:TT):TT:=fun σ H Q=>t σ H fun c H1=>if c = true then Q true H1 else u σ H1 Q
def EM (t:TT):TT:=fun σ H Q=>t σ H fun c H1=>Q (!c) H1
theorem nW (ha : PT X a tA) : PW X (.BoolOp .And [a] pos) tA := by
 intro wh pins s σ H Q I h
 refine isTrue_and (aY (ha pins s σ H Q I h) fun c s1 e=>?_)
 cases c with
 | true=>exact isTrue_and_nil e
 | false=>exact e
theorem mx (ha : PT X a tA) : PW X (.BoolOp .Or [a] pos) tA := by
 intro wh pins s σ H Q I h
 refine isTrue_or (aY (ha pins s σ H Q I h) fun c s1 e=>?_)
 cases c with
 | false=>exact isTrue_or_nil e
 | true=>exact e
theorem rq (ha : PT X a tA) (hb : PW X (.BoolOp .And (b :: rest) pos) tB') : PW X (.BoolOp .And (a :: b :: rest) pos) (D4 tA tB') := by
 intro wh pins s σ H Q I h
 refine isTrue_and (aY (ha pins s σ H _ I h) fun c s1 ⟨H1,I1,q1⟩=>?_)
 cases c with
 | true=>exact hb wh pins s1 σ H1 Q I1 q1
 | false=>exact ⟨H1,I1,q1⟩
theorem mS (ha : PT X a tA) (hb : PW X (.BoolOp .Or (b :: rest) pos) tB') : PW X (.BoolOp .Or (a :: b :: rest) pos) (Lj tA tB') := by
 intro wh pins s σ H Q I h
 refine isTrue_or (aY (ha pins s σ H _ I h) fun c s1 ⟨H1,I1,q1⟩=>?_)
 cases c with
 | true=>exact ⟨H1,I1,q1⟩
 | false=>exact hb wh pins s1 σ H1 Q I1 q1
theorem iC (ha : PT X a tA) : PT X (.UnaryOp .Not a pos) (EM tA) := by
 intro pins s σ H Q I h
 exact isTrue_not (ha pins s σ H (fun c H1=>Q (!c) H1) I h)
def ym (ta tb:TE):TE:=fun σ H Q=>ta σ H fun x H1=>∃ c,x = .bl c∧if c = true then tb σ H1 Q else Q (.bl false) H1
def Ab (ta:TE):TE:=fun σ H Q=>ta σ H fun x H1=>∃ c,x = .bl c∧Q (.bl (!c)) H1
theorem vd {op} {t:TE} (h:PE X a t):PE X (.BoolOp op [a] pos) t:=fun pins s σ H Q I hw=>BoolOp_one (h pins s σ H Q I hw)
theorem uH (ha : PE X a ta) (hb : PE X (.BoolOp .And (b :: rest) pos) tb) : PE X (.BoolOp .And (a :: b :: rest) pos) (ym ta tb) := by
 intro pins s σ H Q I h
 refine BoolOp_and (aY (ha pins s σ H _ I h) fun v s1 ⟨x,H1,I1,r1,q1⟩=>?_)
 obtain ⟨c,rfl,q1⟩:=q1
 cases r1
 refine wpAny_truthy_bool ?_
 cases c with
 | true=>exact hb pins s1 σ H1 Q I1 q1
 | false=>exact ⟨.bl false,H1,I1,rfl,q1⟩
theorem uU (ha : PE X a ta) : PE X (.UnaryOp .Not a pos) (Ab ta) := by
 intro pins s σ H Q I h
 refine UnaryOp_ (aY (ha pins s σ H _ I h) fun v s1 ⟨x,H1,I1,r1,q1⟩=>?_)
 obtain ⟨c,rfl,q1⟩:=q1
 cases r1
 exact not_of (wpAny_truthy_bool ⟨.bl (!c),H1,I1,rfl,q1⟩)
end
end L2
namespace L2
open PySem PySem.Spec PyProof.Rows
def aH (K : PySem.W.Frag) (H : Hp) (a : Addr) (xs : List V) : Prop :=
 Rd H a (.lst xs) ∨
   ∃ (o:Obj) (its:Array Value) (n:Nat),K.lookup a = some o∧o.cls = .type "list"∧o.dict = none∧o.data = .seq its n∧its.size ≤ sizeLine∧aK xs its.toList
def cw (K : PySem.W.Frag) (H : Hp) (a : Addr) (xs : List V) : Prop :=
 Rd H a (.tup xs) ∨
   ∃ (o:Obj) (its:Array Value) (n:Nat),K.lookup a = some o∧o.cls = .type "tuple"∧o.data = .seq its n∧its.size ≤ sizeLine∧aK xs its.toList
def Md : Value → Option V
 | .none=>some .aO
 | .bool b=>some (.bl b)
 | .int i _=>some (.int i)
 | .str x _=>some (.str x)
 | .bytes b _=>some (.byt b)
 | .float b _=>some (.qL b)
 | .ref a=>some (.ref a)
 | .type n=>some (.ty n)
 | _=>none
theorem RelV.abs {x : V} {u : Value} (r : RelV x u) : Md u = some x := by
 cases x with
 | aO=>cases r;rfl
 | bl _=>cases r;rfl
 | int _=>obtain ⟨t,rfl⟩:=r;rfl
 | str _=>obtain ⟨t,rfl⟩:=r;rfl
 | byt _=>obtain ⟨t,rfl⟩:=r;rfl
 | qL _=>obtain ⟨t,rfl⟩:=r;rfl
 | ref _=>cases r;rfl
 | ty _=>cases r;rfl
theorem RelV.inj {x y:V} {u:Value} (r:RelV x u) (q:RelV y u):x = y:=Option.some.inj (r.abs.symm.trans q.abs)
theorem aK.inj : ∀ {xs ys : List V} {us : List Value}, aK xs us → aK ys us → xs = ys
 | _,_,_,.nil,.nil=>rfl
 | _,_,_,.cons r t,.cons r' t'=>by rw [r.inj r',aK.inj t t']
section
variable {X:Cx} {pins:List (Addr×Obj)} {σ : St} {H:Hp} {s:Shared} {a:Addr} {xs ys:List V}
theorem aH.of {K:PySem.W.Frag} (h:H a = some (.lst xs)):aH K H a xs:=.inl (.inl h)
theorem cw.of {K:PySem.W.Frag} (h:H a = some (.tup xs)):cw K H a xs:=.inl (.inl h)
theorem Inv.list (I : Inv X pins σ H s) (h : aH X.K H a xs) : ∃ its : List Value, aK xs its ∧ PlainL s.heap a its.toArray ∧ xs.length ≤ sizeLine := by
 rcases h with h | ⟨o,its,n,hk,hc,hd,hs,hz,r⟩
 · obtain ⟨z, its, n, r, e⟩ := h.ok I.ax
   exact ⟨its,r,⟨_,n,e,rfl,rfl,rfl⟩,z⟩
 · refine ⟨its.toList, r, ⟨o, n, I.cP a o hk, hc, hd, by simpa using hs⟩, ?_⟩
   have e:=r.length
   simp only [Array.length_toList] at e
   omega
theorem Inv.tuple (I : Inv X pins σ H s) (h : cw X.K H a xs) : ∃ its : List Value, aK xs its ∧ IsTup s.heap a its.toArray ∧ xs.length ≤ sizeLine := by
 rcases h with h | ⟨o,its,n,hk,hc,hs,hz,r⟩
 · obtain ⟨z, its, r, p⟩ := h.ok I.ax
   exact ⟨its,r,p,z⟩
 · refine ⟨its.toList, r, ⟨o, I.cP a o hk, hc, n, by simpa using hs⟩, ?_⟩
   have e:=r.length
   simp only [Array.length_toList] at e
   omega
theorem Inv.lq (I : Inv X pins σ H s) (h : aH X.K H a xs) (h' : aH X.K H a ys) : xs = ys := by
 obtain ⟨its,r,⟨o,n,e,_,_,d⟩,_⟩:=I.list h
 obtain ⟨its',r',⟨o',n',e',_,_,d'⟩,_⟩:=I.list h'
 rw [e] at e';cases e'
 rw [d] at d'
 injection d' with d1 _
 have:its = its':=by simpa using congrArg Array.toList d1
 subst this
 exact r.inj r'
theorem Inv.vL (I : Inv X pins σ H s) (h : cw X.K H a xs) (h' : cw X.K H a ys) : xs = ys := by
 obtain ⟨its,r,⟨o,e,_,n,d⟩,_⟩:=I.tuple h
 obtain ⟨its',r',⟨o',e',_,n',d'⟩,_⟩:=I.tuple h'
 rw [e] at e';cases e'
 rw [d] at d'
 injection d' with d1 _
 have:its = its':=by simpa using congrArg Array.toList d1
 subst this
 exact r.inj r'
end
abbrev Cx.eE (X:Cx) (E:Value→Shared→Prop):Cx:={ X with xe:=E }
abbrev Cx.br (X:Cx):Cx:=X.eE fun _ _=>False
theorem Cx.Ok.eE {X : Cx} (ok : X.Ok) (E : Value → Shared → Prop) : (X.eE E).Ok :=
 ⟨ok.mod,ok.kind,ok.glob,ok.blt,ok.above,ok.inj,ok.has,ok.rJ,ok.hd,ok.frames,ok.sV,ok.xY,ok.bs,ok.jh,ok.i4,ok.nP,ok.fA,ok.lW⟩
theorem Cx.Ok.cX {X : Cx} {E : Value → Shared → Prop} (ok : (X.eE E).Ok) : X.Ok :=
 ⟨ok.mod,ok.kind,ok.glob,ok.blt,ok.above,ok.inj,ok.has,ok.rJ,ok.hd,ok.frames,ok.sV,ok.xY,ok.bs,ok.jh,ok.i4,ok.nP,ok.fA,ok.lW⟩
section
variable {X:Cx} {pins:List (Addr×Obj)} {σ : St} {H:Hp} {s:Shared} {E:Value→Shared→Prop}
theorem Inv.eE (I:Inv X pins σ H s) (E:Value→Shared→Prop):Inv (X.eE E) pins σ H s:=⟨I.ok.eE E,I.os,I.bare,I.base,I.loc,I.cell,I.free,I.ed,I.pin,I.ax,I.len⟩
theorem Inv.cX (I:Inv (X.eE E) pins σ H s):Inv X pins σ H s:=⟨I.ok.cX,I.os,I.bare,I.base,I.loc,I.cell,I.free,I.ed,I.pin,I.ax,I.len⟩
theorem SP.cX {D : Ends} {f : Flow} {s' : Shared} (h : SP (X.eE E) pins D f s') : SP X pins D f s' := by
 cases f with
 | next=>obtain ⟨σ',H',I,q⟩:=h;exact ⟨σ',H',I.cX,q⟩
 | brk=>obtain ⟨σ',H',I,q⟩:=h;exact ⟨σ',H',I.cX,q⟩
 | cont=>obtain ⟨σ',H',I,q⟩:=h;exact ⟨σ',H',I.cX,q⟩
 | ret u=>obtain ⟨v,σ',H',I,r,q⟩:=h;exact ⟨v,σ',H',I.cX,r,q⟩
theorem PT.br {e : Expr} {t : TT} (h : PT X.br e t) : PT X e t := fun pins s σ H Q I hw =>
 wpAny_mono (h pins s σ H Q (I.eE _) hw) (fun _ _ ⟨H',I',q⟩=>⟨H',I'.cX,q⟩) fun _ _ z=>False.elim z
theorem gu.br {st : List Stmt} {t : TS} (h : gu X.br st t) : gu X st t := fun pins s σ H D I hw =>
 wpAny_mono (h pins s σ H D (I.eE _) hw) (fun _ _ q=>q.cX) fun _ _ z=>False.elim z
end
section
variable {X:Cx} {st:Stmt} {rest:List Stmt} {t u:TS} {e:Expr} {te:TE} {pos:Pos}
def yq:TS:=fun D σ H=>D.nx σ H
def k9 (t u:TS):TS:=fun D σ H=>t { D with nx:=u D } σ H
theorem aE:gu X [] yq:=fun _ _ σ H _ I h=>wpAny_execs_nil ⟨σ,H,I,h⟩
theorem ag (h1 : PS X st t) (h2 : gu X rest u) : gu X (st :: rest) (k9 t u) := by
 intro pins s σ H D I h
 refine wpAny_execs_cons (aY (h1 pins s σ H { D with nx:=u D } I h) fun f s1 q=>?_)
 cases f with
 | next =>
   obtain ⟨σ',H',I',q⟩:=q
   exact h2 pins s1 σ' H' D I' q
 | ret v=>exact q
 | brk=>exact q
 | cont=>exact q
theorem ah (h1 : PS X st t) : gu X [st] t := by
 intro pins s σ H D I h
 refine wpAny_execs_cons (aY (h1 pins s σ H D I h) fun f s1 q=>?_)
 cases f with
 | next=>exact wpAny_execs_nil q
 | ret v=>exact q
 | brk=>exact q
 | cont=>exact q
theorem Inv.quiet {pins:List (Addr×Obj)} {σ : St} {H:Hp} {s:Shared} (I:Inv X pins σ H s):interactive X.env = false:=by simp [interactive,I.ok.kind]
def t_ (te:TE):TS:=fun D σ H=>te σ H fun _ H1=>D.nx σ H1
theorem iO (he : PE X e te) (hs : swapsWith e none pos.line X.env = pure false := by rfl) : PS X (.Expr e pos) (t_ te) := by
 intro pins s σ H D I h
 exact wpAny_Expr_any (aY (he pins s σ H _ I h) fun v s1 ⟨x,H1,I1,r1,q1⟩=>⟨σ,H1,I1,q1⟩) I.quiet hs
def xh (te:TE):TS:=fun D σ H=>te σ H D.rt
theorem au (he : PE X e te) : PS X (.Return (some e) pos) (xh te) := by
 intro pins s σ H D I h
 exact wpAny_Return_some (aY (he pins s σ H _ I h) fun v s1 ⟨x,H1,I1,r1,q1⟩=>⟨x,σ,H1,I1,r1,q1⟩)
def CC (c:TT) (t u:TS):TS:=fun D σ H=>c σ H fun b H1=>if b = true then t D σ H1 else u D σ H1
theorem aX {c : Expr} {a b : List Stmt} {tc : TT} (hc : PT X c tc) (ha : gu X a t) (hb : gu X b u) : PS X (.If c a b pos) (CC tc t u) := by
 intro pins s σ H D I h
 refine wpAny_If (aY (hc pins s σ H _ I h) fun d s1 ⟨H1,I1,q1⟩=>?_)
 cases d with
 | true=>exact ha pins s1 σ H1 D I1 q1
 | false=>exact hb pins s1 σ H1 D I1 q1
end
abbrev TG:=V→St→Hp→(St→Hp→Prop)→Prop
abbrev kN:=List V→St→Hp→(St→Hp→Prop)→Prop
def PG (X : Cx) (target : Expr) (t : TG) : Prop :=
 ∀ (pins : List (Addr × Obj)) (s : Shared) (σ : St) (H : Hp) (v : V) (u : Value) (Q : St → Hp → Prop), Inv X pins σ H s → RelV v u → t v σ H Q →
   wpAny (model X.prog X.w) X.A (assign target X.env u) (fun _ s'=>∃ σ' H',Inv X pins σ' H' s'∧Q σ' H') X.xe s
def vM (X : Cx) (ts : List Expr) (t : kN) : Prop :=
 ∀ (pins : List (Addr × Obj)) (s : Shared) (σ : St) (H : Hp) (vs : List V) (us : List Value) (Q : St → Hp → Prop), Inv X pins σ H s → aK vs us → t vs σ H Q →
   wpAny (model X.prog X.w) X.A (assignInOrder ((assignEach ts X.env).map (·.2)) us) (fun _ s'=>∃ σ' H',Inv X pins σ' H' s'∧Q σ' H') X.xe s
section
variable {X:Cx} {pos:Pos}
def fq (i:Nat):TG:=fun v σ H Q=>Q (σ.set i (some v)) H
theorem cR {i : Nat} {x : Str} (hN : X.N.Nodup) (hi : X.N[i]? = some x) (hx : Loc X.env.scope x) (hf : X.fn x = true ∨ X.env.scope.names.lookup x = some .local := by first | exact .inl rfl | exact .inr rfl | assumption) : PG X (.Name x pos) (fq i) := by
 intro pins s σ H v u Q I r h
 exact wpAny_assign_Name (iX I hN hi hx r (fun s' I'=>⟨_,H,I',h⟩) hf)
def Dh:kN:=fun vs σ H Q=>vs = []∧Q σ H
def yh (t:TG) (u:kN):kN:=fun vs σ H Q=>∃ v r,vs = v :: r∧t v σ H fun σ' H'=>u r σ' H' Q
theorem BJ : vM X [] Dh := by
 intro pins s σ H vs us Q I r h
 obtain ⟨e,h⟩:=h
 subst e
 cases r
 exact assignInOrder_nil ⟨σ,H,I,h⟩
theorem rF {e : Expr} {es : List Expr} {t : TG} {u : kN} (h1 : PG X e t) (h2 : vM X es u)
   (hs:(assignEach (e :: es) X.env).map (·.2) = assign e X.env :: (assignEach es X.env).map (·.2):=by rfl):vM X (e :: es) (yh t u):=by
 intro pins s σ H vs us Q I r h
 obtain ⟨v,vr,e1,h⟩:=h
 subst e1
 cases r with
 | cons r rr =>
   rw [hs]
   refine assignInOrder_cons (aY (h1 pins s σ H _ _ _ I r h) fun _ s1 ⟨σ1,H1,I1,q1⟩=>?_)
   exact h2 pins s1 σ1 H1 _ _ Q I1 rr q1
def xq (K:PySem.W.Frag) (n:Nat) (t:kN):TG:=fun v σ H Q=>∃ a xs,v = .ref a∧cw K H a xs∧xs.length = n∧t xs σ H Q
theorem Ei {es : List Expr} {k : Nat} {t : kN} {n : Nat} (hc : X.calm = true) (h : vM X es t)
   (hn:(assignEach es X.env).length = n:=by rfl) (hst:(assignEach es X.env).findIdx? (·.1) = none:=by rfl):PG X (.Tuple es k pos) (xq X.K n t):=by
 intro pins s σ H v u Q I r hw
 obtain ⟨a,xs,e1,hq,hl,hw⟩:=hw
 subst e1
 cases r
 obtain ⟨its,rv,ht,hz⟩:=I.tuple hq
 refine assign_Tuple_tuple (I.ok.hd hc) ht (by simp [hn,← hl,rv.length]) hst fun h' hx=>?_
 have I1:Inv X pins σ H { s with heap:=h' }:=I.kept (t':=s.toks) fun b o e=>hx b o (Nat.ne_of_lt (Heap.lt_size e)) e
 exact h pins _ σ H xs _ Q I1 (by simpa using rv) hw
def lG (te:TE) (g:TG):TS:=fun D σ H=>te σ H fun x H1=>g x σ H1 D.nx
theorem aQ {i : Nat} {x : Str} {e : Expr} {te : TE} {pos' : Pos} (hN : X.N.Nodup) (hi : X.N[i]? = some x) (hx : Loc X.env.scope x) (he : PE X e te) (hs : swapsWith e (some (.Name x pos')) pos.line X.env = pure false := by rfl) (hf : X.fn x = true ∨ X.env.scope.names.lookup x = some .local := by first | exact .inl rfl | exact .inr rfl | assumption) :
   PS X (.Assign [.Name x pos'] e pos) (lG te (fq i)):=by
 intro pins s σ H D I h
 refine wpAny_Assign_Name (aY (he pins s σ H _ I h) fun v s1 ⟨y,H1,I1,r1,q1⟩=>?_) hs
 exact iX I1 hN hi hx r1 (fun s2 I2=>⟨_,H1,I2,q1⟩) hf
end
section
variable {X:Cx} {pos:Pos}
end
structure It where
 go:Nat→Hp→Prop
 qx:Nat→Hp→V→Hp→Prop
 stop:Nat→Hp→Prop
def hX (X : Cx) (pins : List (Addr × Obj)) (H : Hp) (b : Addr) : Prop :=
 H b = none∧b ≠ X.env.locals∧b ∉ X.fs∧(b ∈ X.ex∨X.s₀.heap.objs.size ≤ b)∧(∀ x c,X.env.cells.lookup x = some c→c ≠ b)∧∀ p ∈ X.pn ++ pins,p.1 ≠ b
theorem Inv.jC {X : Cx} {pins : List (Addr × Obj)} {σ : St} {H H' : Hp} {s : Shared} {b : Addr} (I : Inv X pins σ H s) (hb : s.heap.objs.size ≤ b) (hn : H' b = none) : hX X pins H' b := by
 refine ⟨hn,Nat.ne_of_gt (Nat.lt_of_lt_of_le I.lt hb),I.uf hb,.inr (Nat.le_trans I.sz hb),fun x c e z=>?_,fun p hp z=>?_⟩
 · obtain ⟨v, q⟩ := I.cell x c e
   exact absurd (Nat.lt_of_lt_of_le q.lt (by rw [z];exact hb)) (Nat.lt_irrefl _)
 · exact absurd (Nat.lt_of_lt_of_le (Heap.lt_size (I.pin p hp).1) (by rw [z];exact hb)) (Nat.lt_irrefl _)
structure Turn (P : Program) (w : World) (K : PySem.W.Frag) (tg : Expr) (J : It) (fp : List Addr) (it : Addr) (tn : Nat → Heap → Prop) : Prop where
 mem:it ∈ fp
 obj:∀ i h,tn i h→∀ b ∈ fp,∃ o,h.get? b = some o∧∀ v,o.data ≠ .cell v
 keep:∀ i h h',tn i h→(∀ b ∈ fp,∀ o,h.get? b = some o→h'.get? b = some o)→tn i h'
 item : ∀ (X : Cx), X.prog = P → X.w = w → X.K = K → X.calm = true → ∀ (i : Nat) (pins : List (Addr × Obj)) (s : Shared) (σ : St) (H : Hp) (E : Value → Shared → Prop), Inv X pins σ H s → (∀ b ∈ fp, hX X pins H b) → tn i s.heap → J.go i H →
   wpAny (model P w) X.A (pyNext (.ref it)) (fun r s1 => ∃ u, r = some u ∧
     wpAny (model P w) X.A (letOwnedTupleGo tg (.ref it) u) (fun _ s2=>∃ x H',Inv X pins σ H' s2∧RelV x u∧J.qx i H x H'∧tn (i + 1) s2.heap∧∀ b ∈ fp,H' b = none) E s1) E s
 done : ∀ (X : Cx), X.prog = P → X.w = w → X.K = K → X.calm = true → ∀ (i : Nat) (pins : List (Addr × Obj)) (s : Shared) (σ : St) (H : Hp) (E : Value → Shared → Prop), Inv X pins σ H s → (∀ b ∈ fp, hX X pins H b) → tn i s.heap → J.stop i H →
   wpAny (model P w) X.A (pyNext (.ref it)) (fun r s1=>r = none∧Inv X pins σ H s1) E s
 self:∀ (A:Around) (i:Nat) (s:Shared) (Q:Value→Shared→Prop) (E:Value→Shared→Prop),tn i s.heap→Q (.ref it) s→wpAny (model P w) A (pyIter (.ref it)) Q E s
abbrev TI:=St→Hp→(It→Hp→Prop)→Prop
def zD (X : Cx) (pins : List (Addr × Obj)) (σ : St) (tg : Expr) (R : It → Hp → Prop) (itv : Value) (s2 : Shared) : Prop :=
 ∃ (it:Addr) (fp:List Addr) (tn:Nat→Heap→Prop) (J:It) (H':Hp),itv = .ref it∧Inv X pins σ H' s2∧Turn X.prog X.w X.K tg J fp it tn∧tn 0 s2.heap∧(∀ b ∈ fp,hX X pins H' b)∧R J H'
def PI (X : Cx) (tg iter : Expr) (wi : TI) : Prop :=
 ∀ (pins : List (Addr × Obj)) (s : Shared) (σ : St) (H : Hp) (R : It → Hp → Prop), Inv X pins σ H s → wi σ H R →
   wpAny (model X.prog X.w) X.A (eval iter X.env) (fun v s1=>wpAny (model X.prog X.w) X.A (pyIter v) (zD X pins σ tg R) X.xe s1) X.xe s
theorem mE {M : Model} {A : Around} {E : Value → Shared → Prop} {s : Shared} {tg : Expr} {it : Addr} {u : Value} {o : Obj} {n : String} {vs : Array Value} {Q : Unit → Shared → Prop} (ho : s.heap.get? it = some o) (hc : o.cls = .type n) (hd : o.data = .fields vs)
   (hn : ["enumerate","zip","dict_itemiterator","dict_reverseitemiterator","odict_iterator","itertools.zip_longest","itertools.pairwise"].contains n = false) (hQ:Q () s):wpAny M A (letOwnedTupleGo tg (.ref it) u) Q E s:=by
 unfold letOwnedTupleGo
 cases tg <;> first
   | exact wpAny_pure hQ
   | (cases u <;> first
       | exact wpAny_pure hQ
       | (refine wpAny_bind (wpAny_load ho ?_)
          rw [hc,hd]
          show wpAny M A (if (["enumerate","zip","dict_itemiterator","dict_reverseitemiterator","odict_iterator","itertools.zip_longest","itertools.pairwise"].contains n && vs[0]? == some (rawInt _)) = true then _ else _) Q E s
          rw [if_neg (by intro h;rw [hn,Bool.false_and] at h;cases h)]
          exact wpAny_pure hQ))
def l_ (K : PySem.W.Frag) (a : Addr) : It :=
 ⟨fun i H=>∃ xs x,aH K H a xs∧xs[i]? = some x,fun i H x H'=>H' = H∧∀ xs,aH K H a xs→xs[i]? = some x,fun i H=>∃ xs,aH K H a xs∧xs.length ≤ i⟩
def ES (K : PySem.W.Frag) (a : Addr) : It :=
 ⟨fun i H=>∃ xs x,cw K H a xs∧xs[i]? = some x,fun i H x H'=>H' = H∧∀ xs,cw K H a xs→xs[i]? = some x,fun i H=>∃ xs,cw K H a xs∧xs.length ≤ i⟩
def oX (lo:Int) (n:Nat):It:=⟨fun i _=>i < n,fun i H x H'=>H' = H∧x = .int (lo + i),fun i _=>n ≤ i⟩
theorem oW {P : Program} {w : World} {K : PySem.W.Frag} {tg : Expr} (a it : Addr) : Turn P w K tg (l_ K a) [it] it (fun i h => h.IsListIter it a i) where
 mem:=by simp
 obj := fun i h st b hb => by
   have e:b = it:=by simpa using hb
   subst e
   obtain ⟨o,e,c,d⟩:=st
   exact ⟨o,e,fun v z=>by rw [d] at z;cases z⟩
 keep:=fun i h h' st k=>st.at fun o e=>k it (by simp) o e
 item := by
   intro X hP hw hK hc i pins s σ H E I hf st hg
   subst hP hw hK
   obtain ⟨xs,x,hq,hx⟩:=hg
   obtain ⟨its,rv,p,hz⟩:=I.list hq
   obtain ⟨u,hu,ru⟩:=rv.get hx
   obtain ⟨f0,f1,f2,f3,f4,f5⟩:=hf it (by simp)
   refine wpAny_pyNext_list_item st p.isList (x:=u) (by simpa using hu) fun h' st' sb=>?_
   have I1:Inv X pins σ H { s with heap:=h' }:=I.turned (t':=s.toks) (fun b o hb e=>(sb.2 b hb).trans e) f0 f1 f3 f4 f5
   obtain ⟨o,e,c,d⟩:=id st'
   exact ⟨u,rfl,mE (s:={ s with heap:=h' }) e c d (by decide) ⟨x,H,I1,ru,⟨rfl,fun ys hy=>by rw [I.lq hy hq];exact hx⟩,st',fun b hb=>(hf b hb).1⟩⟩
 done := by
   intro X hP hw hK hc i pins s σ H E I hf st hg
   subst hP hw hK
   obtain ⟨xs,hq,hx⟩:=hg
   obtain ⟨its,rv,p,hz⟩:=I.list hq
   obtain ⟨f0,f1,f2,f3,f4,f5⟩:=hf it (by simp)
   have hl:=rv.length
   exact wpAny_pyNext_list_end (I.ok.hd hc) st p.isList (by simp;omega) fun h' eb=>⟨rfl,I.turned (t':=s.toks) (fun b o hb e=>eb b o hb e) f0 f1 f3 f4 f5⟩
 self:=fun _ _ _ _ _ st h=>wpAny_pyIter_listiter st h
theorem t6 {P : Program} {w : World} {K : PySem.W.Frag} {tg : Expr} (a it : Addr) : Turn P w K tg (ES K a) [it] it (fun i h => h.IsTupleIter it a i) where
 mem:=by simp
 obj := fun i h st b hb => by
   have e:b = it:=by simpa using hb
   subst e
   obtain ⟨o,e,c,d⟩:=st
   exact ⟨o,e,fun v z=>by rw [d] at z;cases z⟩
 keep:=fun i h h' st k=>st.at fun o e=>k it (by simp) o e
 item := by
   intro X hP hw hK hc i pins s σ H E I hf st hg
   subst hP hw hK
   obtain ⟨xs,x,hq,hx⟩:=hg
   obtain ⟨its,rv,p,hz⟩:=I.tuple hq
   obtain ⟨u,hu,ru⟩:=rv.get hx
   obtain ⟨f0,f1,f2,f3,f4,f5⟩:=hf it (by simp)
   refine wpAny_pyNext_tuple_item st (show s.heap.IsTuple a its.toArray from p) (x:=u) (by simpa using hu) fun h' st' sb=>?_
   have I1:Inv X pins σ H { s with heap:=h' }:=I.turned (t':=s.toks) (fun b o hb e=>(sb.2 b hb).trans e) f0 f1 f3 f4 f5
   obtain ⟨o,e,c,d⟩:=id st'
   exact ⟨u,rfl,mE (s:={ s with heap:=h' }) e c d (by decide) ⟨x,H,I1,ru,⟨rfl,fun ys hy=>by rw [I.vL hy hq];exact hx⟩,st',fun b hb=>(hf b hb).1⟩⟩
 done := by
   intro X hP hw hK hc i pins s σ H E I hf st hg
   subst hP hw hK
   obtain ⟨xs,hq,hx⟩:=hg
   obtain ⟨its,rv,p,hz⟩:=I.tuple hq
   obtain ⟨f0,f1,f2,f3,f4,f5⟩:=hf it (by simp)
   have hl:=rv.length
   exact wpAny_pyNext_tuple_end (I.ok.hd hc) st (show s.heap.IsTuple a its.toArray from p) (by simp;omega) fun h' eb=>⟨rfl,I.turned (t':=s.toks) (fun b o hb e=>eb b o hb e) f0 f1 f3 f4 f5⟩
 self:=fun _ _ _ _ _ st h=>wpAny_pyIter_tupleiter st h
theorem tR {P : Program} {w : World} {K : PySem.W.Frag} {tg : Expr} (it : Addr) (lo : Int) (n : Nat) : Turn P w K tg (oX lo n) [it] it (fun i h => IsRangeIter h it (lo + (i : Nat) * 1) ((n : Int) - (i : Nat)) 1) where
 mem:=by simp
 obj := fun i h st b hb => by
   have e:b = it:=by simpa using hb
   subst e
   exact ⟨_, st, fun v z => by
     have z':Data.fields _ = Data.cell v:=z
     cases z'⟩
 keep:=fun i h h' st k=>k it (by simp) _ st
 item := by
   intro X hP hw hK hc i pins s σ H E I hf st hg
   subst hP hw hK
   obtain ⟨f0,f1,f2,f3,f4,f5⟩:=hf it (by simp)
   have W:=Walks.range (prog:=X.prog) (w:=X.w) (I.ok.hd hc) it lo 1 n
   refine W.item i s _ _ hg st fun v h' tk hv st' kk=>?_
   obtain ⟨t,rfl⟩:=hv
   have I1:Inv X pins σ H { s with heap:=h',toks:=tk }:=I.turned (fun b o hb e=>kk b o (by simpa using hb) e) f0 f1 f3 f4 f5
   refine ⟨_,rfl,mE (s:={ s with heap:=h',toks:=tk }) (n:="range_iterator") st' rfl rfl (by decide) ⟨.int (lo + i),H,I1,⟨t,?_⟩,⟨rfl,rfl⟩,st',fun b hb=>(hf b hb).1⟩⟩
   rw [Int.mul_one]
 done := by
   intro X hP hw hK hc i pins s σ H E I hf st hg
   subst hP hw hK
   obtain ⟨f0,f1,f2,f3,f4,f5⟩:=hf it (by simp)
   exact wpAny_pyNext_range_end (I.ok.hd hc) st (by have:n ≤ i:=hg;omega) fun h' eb=>⟨rfl,I.turned (t':=s.toks) (fun b o hb e=>eb b o hb e) f0 f1 f3 f4 f5⟩
 self:=fun _ _ _ _ _ st h=>wpAny_pyIter_rangeiter st h
end L2
namespace L2
open PySem PySem.Spec PyProof.Rows
section
variable {X:Cx} {tg:Expr}
theorem xc {pins : List (Addr × Obj)} {σ : St} {H : Hp} {s : Shared} {R : It → Hp → Prop} {E : Value → Shared → Prop} {lo hi : Int} {t u v : Tok} {tk : Nat} (I : Inv X pins σ H s) (h1 : -(2 ^ 62) ≤ lo) (h2 : lo < 2 ^ 62) (h3 : -(2 ^ 62) ≤ hi) (h4 : hi < 2 ^ 62)
   (q:R (oX lo (hi - lo).toNat) H):wpAny (model X.prog X.w) X.A (pyIter (.ref s.heap.objs.size)) (zD X pins σ tg R) E { s with heap:=s.heap.push { cls:=.type "range",data:=.fields #[.int lo t,.int hi u,.int 1 v] },toks:=tk }:=by
 refine wpAny_pyIter_range (IsRange.new ..) (small_one h1 h2 h3 h4) ?_
 have I1:Inv X pins σ H { s with heap:=s.heap.push { cls:=.type "range",data:=.fields #[.int lo t,.int hi u,.int 1 v] },toks:=tk }:=I.kept fun b o e=>Heap.get?_push_of_some _ e
 refine ⟨(s.heap.push { cls := .type "range", data := .fields #[.int lo t, .int hi u, .int 1 v] }).objs.size, [(s.heap.push { cls := .type "range", data := .fields #[.int lo t, .int hi u, .int 1 v] }).objs.size], _, _, H, rfl,
   I1.kept (t':=tk) fun b o e=>Heap.get?_push_of_some _ e,tR _ lo (hi - lo).toNat,?_,fun b hb=>?_,q⟩
 · have e1 : lo + ((0 : Nat) : Int) * 1 = lo := by simp
   have e2:(((hi - lo).toNat:Nat):Int) - ((0:Nat):Int) = Builtin.Range.rangeSize lo hi 1:=by rw [rangeSize_one];split <;> omega
   show IsRangeIter _ _ (lo + ((0:Nat):Int) * 1) ((((hi - lo).toNat:Nat):Int) - ((0:Nat):Int)) 1
   rw [e1,e2]
   exact Heap.get?_push_size _ rfl
 · have e : b = (s.heap.push { cls := .type "range", data := .fields #[.int lo t, .int hi u, .int 1 v] }).objs.size := by simpa using hb
   subst e
   exact I1.jC (Nat.le_refl _) (I1.ax.fresh (Nat.le_refl _))
def AD (ta:TA):TI:=fun σ H R=>ta σ H fun vs H1=>∃ j:Int,vs = [.int j]∧-(2 ^ 62) ≤ j∧j < 2 ^ 62∧R (oX 0 j.toNat) H1
theorem oP {a : Expr} {ta : TA} {p pos : Pos} (hg : Gl X "range") (hm : X.mg "range" = none) (ha : PA X [a] ta) (hs : starEach [a] X.env = [(false, eval a X.env)] := by rfl) : PI X tg (.Call (.Name "range" p) [a] [] pos) (AD ta) := by
 intro pins s σ H R I h
 refine Call_ (jE I hg hm boot_range (PyProof.Rows.callWith_type1 (aY (ha pos pins s σ H _ I h) fun us s1 ⟨vs,H1,I1,r1,q1⟩=>?_) hs rfl))
 obtain ⟨j,e,q1,q2,q⟩:=q1
 subst e
 cases r1 with
 | cons r rr =>
   cases rr
   obtain ⟨t,rfl⟩:=r
   exact call_range_1 (xc I1 (by omega) (by omega) q1 q2 (by simpa using q))
def B8 (wi : TI) (g : TG) (tb : TS) : TS := fun D σ H => wi σ H fun J H1 => ∃ W : Nat → Nat → St → Hp → Prop, (∃ m, W 0 m σ H1) ∧ ∀ i m σ H, W i m σ H →
 (J.stop i H∧D.nx σ H)∨(J.go i H∧∃ N:St→Hp→Prop,(∀ σ' H',N σ' H'→∃ m',m' < m∧W (i + 1) m' σ' H')∧∀ x H',J.qx i H x H'→g x σ H' fun σ2 H2=>tb { D with nx:=N,ct:=N,bk:=D.nx } σ2 H2)
def cO (fp:List Addr) (h:Heap):List (Addr×Obj):=fp.filterMap fun b=>(h.get? b).map fun o=>(b,o)
theorem df {fp:List Addr} {h:Heap} {b:Addr} {o:Obj} (hb:b ∈ fp) (e:h.get? b = some o):(b,o) ∈ cO fp h:=List.mem_filterMap.mpr ⟨b,hb,by rw [e];rfl⟩
theorem ie {fp : List Addr} {h : Heap} {p : Addr × Obj} (hp : p ∈ cO fp h) : p.1 ∈ fp ∧ h.get? p.1 = some p.2 := by
 obtain ⟨b,hb,e⟩:=List.mem_filterMap.mp hp
 cases q:h.get? b with
 | none=>rw [q] at e;cases e
 | some o =>
   rw [q] at e
   have e':(b,o) = p:=Option.some.inj e
   subst e'
   exact ⟨hb,q⟩
theorem Inv.pinned {pins : List (Addr × Obj)} {σ : St} {H : Hp} {s : Shared} {fp : List Addr} (I : Inv X pins σ H s) (hf : ∀ b ∈ fp, hX X pins H b) (ho : ∀ b ∈ fp, ∃ o, s.heap.get? b = some o ∧ ∀ v, o.data ≠ .cell v) : Inv X (pins ++ cO fp s.heap) σ H s :=
 I.fD fun p hp => (List.mem_append.mp hp).elim (fun z => I.pin p (List.mem_append_right _ z)) fun z => by
   obtain ⟨hb,e⟩:=ie z
   obtain ⟨f0,f1,f2,_⟩:=hf p.1 hb
   obtain ⟨o,e',d⟩:=ho p.1 hb
   rw [e] at e';cases e'
   exact ⟨e,f0,f1,f2,d⟩
theorem Inv.gh {pins pl:List (Addr×Obj)} {σ : St} {H:Hp} {s:Shared} (I:Inv X (pins ++ pl) σ H s):Inv X pins σ H s:=I.fD fun p hp=>I.pin p (List.mem_append_right _ (List.mem_append_left _ hp))
theorem rN {iter : Expr} {body : List Stmt} {wi : TI} {g : TG} {tb : TS} {pos : Pos} (hp : PassesOwn (model X.prog X.w) X.A X.env X.xe) (hc : X.calm = true) (hi : PI X tg iter wi) (hg : PG X tg g) (hb : gu X body tb)
   (hs:∀ x,foldedSetIterable iter X.env x = pure x:=by intro _;rfl):PS X (.For tg iter body [] pos) (B8 wi g tb):=by
 intro pins s σ H D I h
 refine wpAny_For (aY (hi pins s σ H _ I h) fun v s1 h1=>aY h1 fun itv s2 h2=>?_) hs
 obtain ⟨it,fp,tn,J,H2,e,I2,T,st2,f2,W,⟨m0,w0⟩,turn⟩:=h2
 subst e
 -- what stays true of the iterator's objects through the loop
 have stat:∀ {H':Hp},(∀ b ∈ fp,H' b = none)→∀ b ∈ fp,hX X pins H' b:=fun hn b hb=>⟨hn b hb,(f2 b hb).2⟩
 refine codeAny_forLoop_any (fun n s'=>∃ i σ' H',Inv X pins σ' H' s'∧tn i s'.heap∧(∀ b ∈ fp,H' b = none)∧W i n σ' H') ?_ m0 ⟨0,σ,H2,I2,st2,fun b hb=>(f2 b hb).1,w0⟩
 rintro n s3 ⟨i,σ3,H3,I3,st3,fr3,w3⟩
 rcases turn i n σ3 H3 w3 with ⟨stop,qn⟩ | ⟨go,N,hN,step⟩
 · refine wpAny_passesOwn hp (aY (T.done X rfl rfl rfl hc i pins s3 σ3 H3 X.xe I3 (stat fr3) st3 stop) fun r s4 ⟨hr, I4⟩ => ?_)
   subst hr
   exact wpAny_execs_nil ⟨σ3,H3,I4,qn⟩
 · refine wpAny_passesOwn hp (aY (T.item X rfl rfl rfl hc i pins s3 σ3 H3 X.xe I3 (stat fr3) st3 go) fun r s4 ⟨u, hr, h4⟩ => ?_)
   subst hr
   refine wpAny_passesOwn hp (aY h4 fun _ s5 ⟨x,H5,I5,r5,y5,st5,fr5⟩=>?_)
   have I5':=I5.pinned (stat fr5) (T.obj _ _ st5)
   refine wpAny_passesOwn hp (aY (hg _ s5 σ3 H5 x u _ I5' r5 (step x H5 y5)) fun _ s6 ⟨σ6,H6,I6,q6⟩=>?_)
   refine wpAny_passesOwn hp (aY (hb _ s6 σ6 H6 _ I6 q6) fun f s7 q7=>?_)
   have again : ∀ {σ7 : St} {H7 : Hp}, Inv X (pins ++ cO fp s5.heap) σ7 H7 s7 → N σ7 H7 → ∃ m, m < n ∧ ∃ i σ' H', Inv X pins σ' H' s7 ∧ tn i s7.heap ∧ (∀ b ∈ fp, H' b = none) ∧ W i m σ' H' := fun {σ7 H7} I7 n7 => by
     obtain ⟨m',hm,w7⟩:=hN σ7 H7 n7
     refine ⟨m',hm,i + 1,σ7,H7,I7.gh,T.keep _ _ _ st5 fun b hb o e=>(I7.pin (b,o) (List.mem_append_right _ (List.mem_append_right _ (df hb e)))).1,fun b hb=>?_,w7⟩
     obtain ⟨o,e,d⟩:=T.obj _ _ st5 b hb
     exact (I7.pin (b,o) (List.mem_append_right _ (List.mem_append_right _ (df hb e)))).2.1
   cases f with
   | next=>obtain ⟨σ7,H7,I7,n7⟩:=q7;exact again I7 n7
   | cont=>obtain ⟨σ7,H7,I7,n7⟩:=q7;exact again I7 n7
   | brk=>obtain ⟨σ7,H7,I7,q7⟩:=q7;exact ⟨σ7,H7,I7.gh,q7⟩
   | ret v=>obtain ⟨x7,σ7,H7,I7,r7,q7⟩:=q7;exact ⟨x7,σ7,H7,I7.gh,r7,q7⟩
end
theorem xf {K : PySem.W.Frag} {a : Addr} {xs : List V} {g : TG} {tb : TS} {D : Ends} {σ : St} {H : Hp} (Pv : Nat → St → Hp → Prop) (h0 : Pv 0 σ H) (hl : ∀ i σ H, i ≤ xs.length → Pv i σ H → aH K H a xs)
   (hs:∀ i x σ H,xs[i]? = some x→Pv i σ H→g x σ H fun σ2 H2=>tb { D with nx:=Pv (i + 1),ct:=Pv (i + 1),bk:=D.nx } σ2 H2) (hd:∀ σ H,Pv xs.length σ H→D.nx σ H) :
   ∃ W : Nat → Nat → St → Hp → Prop, (∃ m, W 0 m σ H) ∧ ∀ i m σ H, W i m σ H →
     ((l_ K a).stop i H∧D.nx σ H)∨((l_ K a).go i H∧∃ N:St→Hp→Prop,(∀ σ' H',N σ' H'→∃ m',m' < m∧W (i + 1) m' σ' H')∧∀ x H',(l_ K a).qx i H x H'→g x σ H' fun σ2 H2=>tb { D with nx:=N,ct:=N,bk:=D.nx } σ2 H2):=by
 refine ⟨fun i m σ H=>m = xs.length - i∧i ≤ xs.length∧Pv i σ H,⟨xs.length,by simp,Nat.zero_le _,h0⟩,?_⟩
 rintro i m σ H ⟨rfl,hi,p⟩
 have q:=hl i σ H hi p
 by_cases hlt:i < xs.length
 · refine .inr ⟨⟨xs, xs[i], q, by simp [hlt]⟩, Pv (i + 1), fun σ' H' p' => ⟨xs.length - (i + 1), by omega, rfl, hlt, p'⟩, fun x H' y => ?_⟩
   obtain ⟨e,y⟩:=y
   subst e
   exact hs i x σ _ (y xs q) p
 · have e : i = xs.length := by omega
   subst e
   exact .inl ⟨⟨xs,q,Nat.le_refl _⟩,hd σ H p⟩
theorem o8 {lo : Int} {n : Nat} {g : TG} {tb : TS} {D : Ends} {σ : St} {H : Hp} (Pv : Nat → St → Hp → Prop) (h0 : Pv 0 σ H)
   (hs:∀ i σ H,i < n→Pv i σ H→g (.int (lo + i)) σ H fun σ2 H2=>tb { D with nx:=Pv (i + 1),ct:=Pv (i + 1),bk:=D.nx } σ2 H2) (hd:∀ σ H,Pv n σ H→D.nx σ H) :
   ∃ W : Nat → Nat → St → Hp → Prop, (∃ m, W 0 m σ H) ∧ ∀ i m σ H, W i m σ H →
     ((oX lo n).stop i H∧D.nx σ H)∨((oX lo n).go i H∧∃ N:St→Hp→Prop,(∀ σ' H',N σ' H'→∃ m',m' < m∧W (i + 1) m' σ' H')∧∀ x H',(oX lo n).qx i H x H'→g x σ H' fun σ2 H2=>tb { D with nx:=N,ct:=N,bk:=D.nx } σ2 H2):=by
 refine ⟨fun i m σ H=>m = n - i∧i ≤ n∧Pv i σ H,⟨n,by simp,Nat.zero_le _,h0⟩,?_⟩
 rintro i m σ H ⟨rfl,hi,p⟩
 by_cases hlt:i < n
 · refine .inr ⟨hlt, Pv (i + 1), fun σ' H' p' => ⟨n - (i + 1), by omega, rfl, hlt, p'⟩, fun x H' y => ?_⟩
   obtain ⟨e,y⟩:=y
   subst e y
   exact hs i σ _ hlt p
 · have e : i = n := by omega
   subst e
   exact .inl ⟨Nat.le_refl _,hd σ H p⟩
end L2
namespace L2
open PySem PySem.Spec PyProof.Rows
abbrev R2:=V→V→Hp→VK→Prop
def b7 (X : Cx) (f : Value → Value → Sem Value) (r : R2) : Prop :=
 ∀ (pins : List (Addr × Obj)) (s : Shared) (σ : St) (H : Hp) (x y : V) (v u : Value) (Q : VK), Inv X pins σ H s → RelV x v → RelV y u → r x y H Q →
   wpAny (model X.prog X.w) X.A (f v u) (EP X pins σ Q) X.xe s
def B1 (X : Cx) (f : Value → Sem Value) (r : V → Hp → VK → Prop) : Prop :=
 ∀ (pins : List (Addr × Obj)) (s : Shared) (σ : St) (H : Hp) (x : V) (v : Value) (Q : VK), Inv X pins σ H s → RelV x v → r x H Q →
   wpAny (model X.prog X.w) X.A (f v) (EP X pins σ Q) X.xe s
def dS (X : Cx) (f : Value) (r : List V → Hp → VK → Prop) : Prop :=
 ∀ (pins : List (Addr × Obj)) (s : Shared) (σ : St) (H : Hp) (xs : List V) (us : List Value) (Q : VK), Inv X pins σ H s → aK xs us → r xs H Q →
   wpAny (model X.prog X.w) X.A (call f us) (EP X pins σ Q) X.xe s
def LR (X : Cx) (r : V → Hp → (Bool → Hp → Prop) → Prop) : Prop :=
 ∀ (pins : List (Addr × Obj)) (s : Shared) (σ : St) (H : Hp) (x : V) (v : Value) (Q : Bool → Hp → Prop), Inv X pins σ H s → RelV x v → r x H Q →
   wpAny (model X.prog X.w) X.A (truthy v) (TP X pins σ Q) X.xe s
def cv (r:R2) (ta tb:TE):TE:=fun σ H Q=>ta σ H fun x H1=>tb σ H1 fun y H2=>r x y H2 Q
def Ll (r:V→Hp→VK→Prop) (ta:TE):TE:=fun σ H Q=>ta σ H fun x H1=>r x H1 Q
def rI (C:Int→Int→Prop) (g:Int→Int→V):R2:=fun x y H Q=>∃ i j,x = .int i∧y = .int j∧C i j∧Q (g i j) H
def mJ (g:Int→Int→V):R2:=fun x y H Q=>∃ i j,x = .int i∧y = .int j∧Q (g i j) H
def rU (g:Int→V):V→Hp→VK→Prop:=fun x H Q=>∃ i,x = .int i∧Q (g i) H
section
variable {X:Cx} {a b c:Expr} {ta tb tc:TE} {pos:Pos}
theorem xr (ha : PE X a ta) (hb : PE X b tb) {pins : List (Addr × Obj)} {s : Shared} {σ : St} {H : Hp} {R : V → V → Hp → Prop} (I : Inv X pins σ H s)
   (h:ta σ H fun x H1=>tb σ H1 fun y H2=>R x y H2) {Q:Value→Shared→Prop} {f:Value→Value→Sem Value}
   (hf:∀ v u s2 x y H2,Inv X pins σ H2 s2→RelV x v→RelV y u→R x y H2→wpAny (model X.prog X.w) X.A (f v u) Q X.xe s2) :
   wpAny (model X.prog X.w) X.A (eval a X.env) (fun v s₁=>wpAny (model X.prog X.w) X.A (eval b X.env) (fun u s₂=>wpAny (model X.prog X.w) X.A (f v u) Q X.xe s₂) X.xe s₁) X.xe s:=by
 refine aY (ha pins s σ H _ I h) fun v s1 ⟨x,H1,I1,r1,q1⟩=>?_
 refine aY (hb pins s1 σ H1 _ I1 q1) fun u s2 ⟨y,H2,I2,r2,q2⟩=>?_
 exact hf v u s2 x y H2 I2 r1 r2 q2
theorem aG {op : Operator} {r : R2} (ho : b7 X (binaryOp op) r) (ha : PE X a ta) (hb : PE X b tb) : PE X (.BinOp a op b pos) (cv r ta tb) := by
 intro pins s σ H Q I h
 exact wpAny_BinOp (xr ha hb I h fun v u s2 x y H2 I2 rx ry q=>ho pins s2 σ H2 x y v u Q I2 rx ry q)
theorem Ke {op : UnaryOp} {r : V → Hp → VK → Prop} (ho : B1 X (unaryOp op) r) (ha : PE X a ta) : PE X (.UnaryOp op a pos) (Ll r ta) := by
 intro pins s σ H Q I h
 exact UnaryOp_ (aY (ha pins s σ H _ I h) fun v s1 ⟨x,H1,I1,r1,q1⟩=>ho pins s1 σ H1 x v Q I1 r1 q1)
theorem yg {f : Value → Value → Sem Value} {C : Int → Int → Prop} {g : Int → Int → Int}
   (rule:∀ (i j:Int) (t u:Tok) (s:Shared) (Q:Value→Shared→Prop) (E:Value→Shared→Prop),C i j→Q (.int (g i j) s.toks) { s with toks:=s.toks + 1 }→wpAny (model X.prog X.w) X.A (f (.int i t) (.int j u)) Q E s) :
   b7 X f (rI C fun i j=>.int (g i j)):=by
 intro pins s σ H x y v u Q I rx ry h
 obtain ⟨i,j,rfl,rfl,hc,q⟩:=h
 obtain ⟨t,rfl⟩:=rx
 obtain ⟨t',rfl⟩:=ry
 exact rule i j t t' s _ _ hc ⟨.int (g i j),H,I.tok _,⟨_,rfl⟩,q⟩
theorem EE {f : Value → Value → Sem Value} {g : Int → Int → Int}
   (rule:∀ (i j:Int) (t u:Tok) (s:Shared) (Q:Value→Shared→Prop) (E:Value→Shared→Prop),Q (.int (g i j) s.toks) { s with toks:=s.toks + 1 }→wpAny (model X.prog X.w) X.A (f (.int i t) (.int j u)) Q E s) :
   b7 X f (mJ fun i j=>.int (g i j)):=by
 intro pins s σ H x y v u Q I rx ry h
 obtain ⟨i,j,rfl,rfl,q⟩:=h
 obtain ⟨t,rfl⟩:=rx
 obtain ⟨t',rfl⟩:=ry
 exact rule i j t t' s _ _ ⟨.int (g i j),H,I.tok _,⟨_,rfl⟩,q⟩
theorem wJ {f : Value → Value → Sem Value} {g : Int → Int → Bool}
   (rule:∀ (i j:Int) (t u:Tok) (s:Shared) (Q:Value→Shared→Prop) (E:Value→Shared→Prop),Q (.bool (g i j)) s→wpAny (model X.prog X.w) X.A (f (.int i t) (.int j u)) Q E s) :
   b7 X f (mJ fun i j=>.bl (g i j)):=by
 intro pins s σ H x y v u Q I rx ry h
 obtain ⟨i,j,rfl,rfl,q⟩:=h
 obtain ⟨t,rfl⟩:=rx
 obtain ⟨t',rfl⟩:=ry
 exact rule i j t t' s _ _ ⟨.bl (g i j),H,I,rfl,q⟩
def jn (i j:Int):Prop:=0 < j∧j < 1073741824
def wZ (i j:Int):Prop:=0 ≤ j∧j ≤ 1000000∧i.natAbs < 2 ^ 64
def qX (i j:Int):Prop:=(-(2 ^ 64) < i∧i < 2 ^ 64)∨(-(2 ^ 64) < j∧j < 2 ^ 64)
theorem qX.ok {i j : Int} (h : qX i j) : IntMulOk i j := by
 rcases h with ⟨h1,h2⟩ | ⟨h1,h2⟩
 · exact .of_left (intBits_le_64 h1 h2)
 · exact .of_right (intBits_le_64 h1 h2)
theorem B6:b7 X (binaryOp .Add) (mJ fun i j=>.int (i + j)):=EE fun _ _ _ _ _ _ _ q=>add_int q
theorem Eh:b7 X (binaryOp .Sub) (mJ fun i j=>.int (i - j)):=EE fun _ _ _ _ _ _ _ q=>sub_int q
theorem DH:b7 X (binaryOp .Mult) (rI qX fun i j=>.int (i * j)):=yg fun _ _ _ _ _ _ _ hc q=>mul_int q hc.ok
theorem cU : b7 X (binaryOp .FloorDiv) (rI jn fun i j => .int (i / j)) := yg fun i j _ _ _ _ _ hc q => by
 have h1:(0:Int) < j:=hc.1
 have h2:j < 1073741824:=hc.2
 exact floordiv_int (by omega) (by rw [Int.fdiv_eq_ediv_of_nonneg i (by omega)];exact q) (.inl (PyProof.noPylong_small (by omega)))
theorem bQ : b7 X (binaryOp .Mod) (rI (fun _ j => 0 < j) fun i j => .int (i % j)) := yg fun i j _ _ _ _ _ hc q => by
 have h1:(0:Int) < j:=hc
 exact mod_int' (by omega) (by rw [Int.fmod_eq_emod_of_nonneg i (by omega)];exact q)
theorem vn:b7 X (binaryOp .Pow) (rI wZ fun i j=>.int (i ^ j.toNat)):=yg fun _ _ _ _ _ _ _ hc q=>pow_int_small hc.1 hc.2.1 hc.2.2 q
theorem Nx {f : Value → Sem Value} {g : Int → Int}
   (rule:∀ (i:Int) (t:Tok) (s:Shared) (Q:Value→Shared→Prop) (E:Value→Shared→Prop),Q (.int (g i) s.toks) { s with toks:=s.toks + 1 }→wpAny (model X.prog X.w) X.A (f (.int i t)) Q E s) :
   B1 X f (rU fun i=>.int (g i)):=by
 intro pins s σ H x v Q I rx h
 obtain ⟨i,rfl,q⟩:=h
 obtain ⟨t,rfl⟩:=rx
 exact rule i t s _ _ ⟨.int (g i),H,I.tok _,⟨_,rfl⟩,q⟩
theorem CB:B1 X (unaryOp .USub) (rU fun i=>.int (-i)):=Nx fun _ _ _ _ _ q=>neg_int q
end
def tT : V → V → Bool
 | .aO,.aO=>true | .aO,.int _=>true | .int _,.aO=>true | .aO,.bl _=>true | .bl _,.aO=>true | .aO,.str _=>true | .str _,.aO=>true
 | .int _,.int _=>true | .bl _,.bl _=>true | .str _,.str _=>true | .byt _,.byt _=>true
 | .int _,.str _=>true | .str _,.int _=>true | .bl _,.str _=>true | .str _,.bl _=>true
 | _,_=>false
def Lp:R2:=fun x y H Q=>tT x y = true∧Q (.bl (decide (x = y))) H
def Lk:R2:=fun x y H Q=>tT x y = true∧Q (.bl (!decide (x = y))) H
theorem sP {i j : Int} : decide (V.int i = V.int j) = (i == j) := by
 rw [Bool.eq_iff_iff]
 simp
theorem vA {i j : Bool} : decide (V.bl i = V.bl j) = (i == j) := by
 rw [Bool.eq_iff_iff]
 simp
theorem sR {i j : Str} : decide (V.str i = V.str j) = (i == j) := by
 rw [Bool.eq_iff_iff]
 simp
theorem sT {i j : Array UInt8} : decide (V.byt i = V.byt j) = (i.toList == j.toList) := by
 rw [Bool.eq_iff_iff]
 cases i
 cases j
 simp
section
variable {X:Cx} {a b c:Expr} {ta tb tc:TE} {pos:Pos}
theorem bf {pins : List (Addr × Obj)} {σ : St} {H : Hp} {s : Shared} {Q : VK} {k k' : Bool} (I : Inv X pins σ H s) (q : Q (.bl k) H) (e : k = k') : EP X pins σ Q (.bool k') s := by
 subst e
 exact ⟨.bl k,H,I,rfl,q⟩
theorem IC : b7 X (compareOp .Eq) Lp := by
 intro pins s σ H x y v u Q I rx ry h
 obtain ⟨hs,q⟩:=h
 cases x with
 | aO =>
   cases rx
   cases y with
   | aO=>cases ry;exact PySem.EqNone.eq_none_none (bf I q (by simp))
   | bl j=>cases ry;exact PySem.EqNone.eq_none_bool (bf I q (by simp))
   | int j=>obtain ⟨t',rfl⟩:=ry;exact PySem.EqNone.eq_none_int (bf I q (by simp))
   | str j=>obtain ⟨t',rfl⟩:=ry;exact PySem.EqNone.eq_none_str (bf I q (by simp))
   | _=>exact absurd (show false = true from hs) Bool.false_ne_true
 | bl i =>
   cases rx
   cases y with
   | aO=>cases ry;exact PySem.EqNone.eq_bool_none (bf I q (by simp))
   | bl j=>cases ry;exact eq_bool (bf I q vA)
   | str j=>obtain ⟨t',rfl⟩:=ry;exact PySem.EqMixed.eq_bool_str (bf I q (by simp))
   | _=>exact absurd (show false = true from hs) Bool.false_ne_true
 | int i =>
   obtain ⟨t,rfl⟩:=rx
   cases y with
   | aO=>cases ry;exact PySem.EqNone.eq_int_none (bf I q (by simp))
   | int j=>obtain ⟨t',rfl⟩:=ry;exact eq_int (bf I q sP)
   | str j=>obtain ⟨t',rfl⟩:=ry;exact PySem.EqMixed.eq_int_str (bf I q (by simp))
   | _=>exact absurd (show false = true from hs) Bool.false_ne_true
 | str i =>
   obtain ⟨t,rfl⟩:=rx
   cases y with
   | aO=>cases ry;exact PySem.EqNone.eq_str_none (bf I q (by simp))
   | bl j=>cases ry;exact PySem.EqMixed.eq_str_bool (bf I q (by simp))
   | int j=>obtain ⟨t',rfl⟩:=ry;exact PySem.EqMixed.eq_str_int (bf I q (by simp))
   | str j=>obtain ⟨t',rfl⟩:=ry;exact eq_str (bf I q sR)
   | _=>exact absurd (show false = true from hs) Bool.false_ne_true
 | byt i =>
   obtain ⟨t,rfl⟩:=rx
   cases y with
   | byt j=>obtain ⟨t',rfl⟩:=ry;exact PySem.W.eq_bytes (bf I q sT)
   | _=>exact absurd (show false = true from hs) Bool.false_ne_true
 | _=>cases y <;> exact absurd (show false = true from hs) Bool.false_ne_true
theorem Jz : b7 X (compareOp .NotEq) Lk := by
 intro pins s σ H x y v u Q I rx ry h
 obtain ⟨hs,q⟩:=h
 cases x with
 | aO =>
   cases rx
   cases y with
   | aO=>cases ry;exact PySem.EqNone.ne_none_none (bf I q (by simp))
   | bl j=>cases ry;exact PySem.EqNone.ne_none_bool (bf I q (by simp))
   | int j=>obtain ⟨t',rfl⟩:=ry;exact PySem.EqNone.ne_none_int (bf I q (by simp))
   | str j=>obtain ⟨t',rfl⟩:=ry;exact PySem.EqNone.ne_none_str (bf I q (by simp))
   | _=>exact absurd (show false = true from hs) Bool.false_ne_true
 | bl i =>
   cases rx
   cases y with
   | aO=>cases ry;exact PySem.EqNone.ne_bool_none (bf I q (by simp))
   | bl j=>cases ry;exact ne_bool (bf I q (congrArg not vA))
   | str j=>obtain ⟨t',rfl⟩:=ry;exact PySem.EqMixed.ne_bool_str (bf I q (by simp))
   | _=>exact absurd (show false = true from hs) Bool.false_ne_true
 | int i =>
   obtain ⟨t,rfl⟩:=rx
   cases y with
   | aO=>cases ry;exact PySem.EqNone.ne_int_none (bf I q (by simp))
   | int j=>obtain ⟨t',rfl⟩:=ry;exact ne_int (bf I q (congrArg not sP))
   | str j=>obtain ⟨t',rfl⟩:=ry;exact PySem.EqMixed.ne_int_str (bf I q (by simp))
   | _=>exact absurd (show false = true from hs) Bool.false_ne_true
 | str i =>
   obtain ⟨t,rfl⟩:=rx
   cases y with
   | aO=>cases ry;exact PySem.EqNone.ne_str_none (bf I q (by simp))
   | bl j=>cases ry;exact PySem.EqMixed.ne_str_bool (bf I q (by simp))
   | int j=>obtain ⟨t',rfl⟩:=ry;exact PySem.EqMixed.ne_str_int (bf I q (by simp))
   | str j=>obtain ⟨t',rfl⟩:=ry;exact ne_str (bf I q (congrArg not sR))
   | _=>exact absurd (show false = true from hs) Bool.false_ne_true
 | byt i =>
   obtain ⟨t,rfl⟩:=rx
   cases y with
   | byt j=>obtain ⟨t',rfl⟩:=ry;exact PySem.W.ne_bytes (bf I q (congrArg not sT))
   | _=>exact absurd (show false = true from hs) Bool.false_ne_true
 | _=>cases y <;> exact absurd (show false = true from hs) Bool.false_ne_true
theorem uj:b7 X (compareOp .Lt) (mJ fun i j=>.bl (decide (i < j))):=wJ fun _ _ _ _ _ _ _ q=>lt_int q
theorem Fv:b7 X (compareOp .LtE) (mJ fun i j=>.bl (decide (i ≤ j))):=wJ fun _ _ _ _ _ _ _ q=>le_int q
theorem ke:b7 X (compareOp .Gt) (mJ fun i j=>.bl (decide (j < i))):=wJ fun _ _ _ _ _ _ _ q=>gt_int q
theorem vP : b7 X (compareOp .In) (fun x y H Q => ∃ i j, x = .str i ∧ y = .str j ∧ Q (.bl (!(Builtin.Str.occurrences j i 0 j.length 1).isEmpty)) H) := by
 intro pins s σ H x y v u Q I rx ry h
 obtain ⟨i,j,rfl,rfl,q⟩:=h
 obtain ⟨t,rfl⟩:=rx
 obtain ⟨t',rfl⟩:=ry
 exact in_str (bf I q rfl)
theorem Ce : b7 X (compareOp .Is) (fun x y H Q => y = .aO ∧ Q (.bl (decide (x = .aO))) H) := by
 intro pins s σ H x y v u Q I rx ry h
 obtain ⟨rfl,q⟩:=h
 cases ry
 refine is_none_gen (bf I q ?_)
 cases x <;> first
   | (cases rx;rfl)
   | (obtain ⟨t,rfl⟩:=rx;rfl)
theorem b7.or {f : Value → Value → Sem Value} {r r' : R2} (h : b7 X f r) (h' : b7 X f r') : b7 X f (fun x y H Q => r x y H Q ∨ r' x y H Q) := by
 intro pins s σ H x y v u Q I rx ry q
 rcases q with q | q
 · exact h pins s σ H x y v u Q I rx ry q
 · exact h' pins s σ H x y v u Q I rx ry q
theorem aM (b : Expr) {op : CmpOp} (h : op ≠ .In := by decide) (h2 : op ≠ .NotIn := by decide) : behindInMarks op b = false := by
 have e1:(op == CmpOp.In) = false:=by cases op <;> first | rfl | exact absurd rfl h
 have e2:(op == CmpOp.NotIn) = false:=by cases op <;> first | rfl | exact absurd rfl h2
 cases b <;> simp [behindInMarks,e1,e2]
theorem kj {op : CmpOp} {r : R2} (ho : b7 X (compareOp op) r) (ha : PE X a ta) (hb : PE X b tb) (hm : behindInMarks op b = false) : PE X (.Compare a [op] [b] pos) (cv r ta tb) := by
 intro pins s σ H Q I h
 exact wpAny_Compare1 (xr ha hb I h fun v u s2 x y H2 I2 rx ry q=>ho pins s2 σ H2 x y v u Q I2 rx ry q) hm
def za (t:TE):TT:=fun σ H Q=>t σ H fun x H'=>∃ k,x = .bl k∧Q k H'
theorem aF {op : CmpOp} {r : R2} (ho : b7 X (compareOp op) r) (ha : PE X a ta) (hb : PE X b tb) (hm : behindInMarks op b = false) : PT X (.Compare a [op] [b] pos) (za (cv r ta tb)) := by
 intro pins s σ H Q I h
 refine wpAny_isTrue_Compare1 (aY (ha pins s σ H _ I h) fun v s1 ⟨x, H1, I1, r1, q1⟩ => aY (hb pins s1 σ H1 _ I1 q1) fun u s2 ⟨y, H2, I2, r2, q2⟩ =>
   aY (ho pins s2 σ H2 x y v u _ I2 r1 r2 q2) fun c s3 ⟨z,H3,I3,r3,k,e,q3⟩=>?_) hm
 subst e
 cases r3
 exact wpAny_truthy_bool ⟨H3,I3,q3⟩
def xD (K : PySem.W.Frag) (x : V) (H : Hp) (k : Bool) : Prop :=
 match x with
 | .aO=>k = false
 | .bl b=>k = b
 | .int i=>k = (i != 0)
 | .str y=>y.length ≤ sizeLine∧k = ((y.length:Int) != 0)
 | .byt y=>y.size ≤ sizeLine∧k = ((y.size:Int) != 0)
 | .ref p=>(∃ xs,aH K H p xs∧k = !xs.isEmpty)∨(∃ xs,cw K H p xs∧k = !xs.isEmpty)∨∃ kvs,H p = some (.dK kvs)∧k = !kvs.isEmpty
 | _=>False
theorem tJ {κ : Type} {kvs : List (κ × V)} {vs : List (κ × Value)} (r : KV kvs vs) : (!vs.isEmpty) = !kvs.isEmpty := by
 cases r <;> rfl
theorem mw {xs : List V} {its : List Value} (r : aK xs its) : (!its.toArray.isEmpty) = !xs.isEmpty := by
 cases r <;> simp
theorem jX:(sizeLine:Nat) < 2 ^ 63:=by rw [sizeLine_eq];decide
theorem Dy : LR X (fun x H Q => ∃ k, xD X.K x H k ∧ Q k H) := by
 intro pins s σ H x v Q I rx h
 obtain ⟨k,e,q⟩:=h
 have hl:=jX
 have hs:sizeLine = 16777216:=sizeLine_eq
 cases x with
 | aO =>
   cases rx
   have e':k = false:=e
   subst e'
   exact truthy_none ⟨H,I,q⟩
 | bl b =>
   cases rx
   have e':k = b:=e
   subst e'
   exact wpAny_truthy_bool ⟨H,I,q⟩
 | int i =>
   obtain ⟨t,rfl⟩:=rx
   have e':k = (i != 0):=e
   subst e'
   exact PySem.P.truthy_int ⟨H,I,q⟩
 | str y =>
   obtain ⟨t,rfl⟩:=rx
   obtain ⟨hy,e'⟩:y.length ≤ sizeLine∧k = ((y.length:Int) != 0):=e
   subst e'
   exact PySem.P.truthy_str (by omega) ⟨H,I.tok _,q⟩
 | byt y =>
   obtain ⟨t,rfl⟩:=rx
   obtain ⟨hy,e'⟩:y.size ≤ sizeLine∧k = ((y.size:Int) != 0):=e
   subst e'
   exact PySem.W.truthy_bytes (by omega) ⟨H,I.tok _,q⟩
 | ref p =>
   cases rx
   have e':(∃ xs,aH X.K H p xs∧k = !xs.isEmpty)∨(∃ xs,cw X.K H p xs∧k = !xs.isEmpty)∨∃ kvs,H p = some (.dK kvs)∧k = !kvs.isEmpty:=e
   rcases e' with ⟨xs,hx,e'⟩ | ⟨xs,hx,e'⟩ | ⟨kvs,hx,e'⟩
   · subst e'
     obtain ⟨its,r,pl,hz⟩:=I.list hx
     have hlen:=r.length
     exact wpAny_truthy_list pl.isList (by simp only [List.size_toArray];omega) ⟨H,I.tok _,by rw [mw r];exact q⟩
   · subst e'
     obtain ⟨its,r,pl,hz⟩:=I.tuple hx
     have hlen:=r.length
     exact truthy_tuple pl (by simp only [List.size_toArray];omega) ⟨H,I.tok _,by rw [mw r];exact q⟩
   · subst e'
     obtain ⟨hz,hS,vs,r,m⟩:kvs.length ≤ sizeLine∧(p == sysModules) = false∧∃ vs,KV kvs vs∧s.heap.DictOf (bG X.prog X.w) p vs:=I.ax p _ hx
     have hlen:kvs.length = vs.length:=Paired.length r
     exact wpAny_truthy_dict hS m (by omega) ⟨H,I.tok _,by rw [tJ r];exact q⟩
 | _=>exact (show False from e).elim
theorem wB (ha : PE X a ta) (he : ∀ whole, isTrue a X.env whole = (do let v ← whole; standAt a.pos; holding [v] (truthy v))) :
   PT X a (fun σ H Q=>ta σ H fun x H'=>∃ k,xD X.K x H' k∧Q k H'):=by
 intro pins s σ H Q I h
 exact isTrue_plain (aY (ha pins s σ H _ I h) fun v s1 ⟨x,H1,I1,r1,q1⟩=>Dy pins s1 σ H1 x v Q I1 r1 q1) (he _)
theorem ur : b7 X (binaryOp .Add) (fun x y H Q => ∃ i j, x = .str i ∧ y = .str j ∧ i.length + j.length ≤ sizeLine ∧ Q (.str (i ++ j)) H) := by
 intro pins s σ H x y v u Q I rx ry h
 obtain ⟨i,j,rfl,rfl,hz,q⟩:=h
 obtain ⟨t,rfl⟩:=rx
 obtain ⟨t',rfl⟩:=ry
 exact add_str (fun t' tk=>⟨.str (i ++ j),H,I.tok _,⟨_,rfl⟩,q⟩) hz
theorem vals1 {x : V} {us : List Value} (r : aK [x] us) : ∃ u, us = [u] ∧ RelV x u := by
 cases r with
 | cons r1 r2=>cases r2;exact ⟨_,rfl,r1⟩
theorem vals2 {x y : V} {us : List Value} (r : aK [x, y] us) : ∃ u w', us = [u, w'] ∧ RelV x u ∧ RelV y w' := by
 cases r with
 | cons r1 r2 =>
   cases r2 with
   | cons r3 r4=>cases r4;exact ⟨_,_,rfl,r1,r3⟩
theorem pT : dS X (.type "str") (fun xs H Q => ∃ i, xs = [.int i] ∧ i.natAbs.log2 < 1920 ∧ Q (.str (toString i)) H) := by
 intro pins s σ H xs us Q I r h
 obtain ⟨i,rfl,hz,q⟩:=h
 obtain ⟨u,rfl,t,rfl⟩:=vals1 r
 exact PySem.P.str_of_int hz ⟨.str _,H,I.tok _,⟨_,rfl⟩,q⟩
def EB (K : PySem.W.Frag) (x : V) (H : Hp) (n : Nat) : Prop :=
 match x with
 | .str y=>y.length ≤ sizeLine∧n = y.length
 | .byt y=>y.size ≤ sizeLine∧n = y.size
 | .ref p=>(∃ xs,aH K H p xs∧n = xs.length)∨∃ xs,cw K H p xs∧n = xs.length
 | _=>False
theorem xB : dS X (.builtin "len") (fun xs H Q => ∃ x n, xs = [x] ∧ EB X.K x H n ∧ Q (.int n) H) := by
 intro pins s σ H xs us Q I r h
 obtain ⟨x,n,rfl,e,q⟩:=h
 obtain ⟨u,rfl,rx⟩:=vals1 r
 have hl:=jX
 have hs:sizeLine = 16777216:=sizeLine_eq
 cases x with
 | str y =>
   obtain ⟨t,rfl⟩:=rx
   obtain ⟨hy,e'⟩:y.length ≤ sizeLine∧n = y.length:=e
   subst e'
   exact len_str (by omega) ⟨.int _,H,I.tok _,⟨_,rfl⟩,q⟩
 | byt y =>
   obtain ⟨t,rfl⟩:=rx
   obtain ⟨hy,e'⟩:y.size ≤ sizeLine∧n = y.size:=e
   subst e'
   exact PySem.W.len_bytes (by omega) ⟨.int _,H,I.tok _,⟨_,rfl⟩,q⟩
 | ref p =>
   cases rx
   have e':(∃ xs,aH X.K H p xs∧n = xs.length)∨∃ xs,cw X.K H p xs∧n = xs.length:=e
   rcases e' with ⟨xs,hx,e'⟩ | ⟨xs,hx,e'⟩
   · subst e'
     obtain ⟨its,r',pl,hz⟩:=I.list hx
     have hlen:=r'.length
     exact Calls.call_len_list pl.isList (by simp only [List.size_toArray];omega) ⟨.int xs.length,H,I.tok _,⟨_,by simp only [List.size_toArray];rw [hlen]⟩,q⟩
   · subst e'
     obtain ⟨its,r',pl,hz⟩:=I.tuple hx
     have hlen:=r'.length
     exact len_tuple pl (by simp only [List.size_toArray];omega) ⟨.int xs.length,H,I.tok _,⟨_,by simp only [List.size_toArray];rw [hlen]⟩,q⟩
 | _=>exact (show False from e).elim
end
end L2
namespace L2
open PySem PySem.Spec PyProof.Rows
structure lg (h : Heap) (x dx C : Addr) (mA : Str → Option Value) : Prop where
 obj:h.get? x = some (PySem.W.instObj C dx)
 ns:h.Ns1 dx mA
 ne:dx ≠ x
theorem vN {h : Heap} {dx : Addr} {mA : Str → Option Value} (n : h.Ns1 dx mA) : ∃ od, h.get? dx = some od ∧ ∀ name, PySem.W.lookIn name od = some (mA name) := by
 obtain ⟨o,es,ep,ho,hd,hk,_,hm⟩:=n
 refine ⟨o,ho,fun name=>?_⟩
 have e:=hm name
 unfold nsFind findBy at e
 rw [← Array.find?_toList] at e
 unfold PySem.W.lookIn
 rw [hd]
 dsimp only
 split
 · rename_i y q
   rw [q] at e
   exact congrArg some e
 · rename_i q
   rw [q] at e
   have a : es.toList.any (·.refKey) = false := by
     rw [List.any_eq_false]
     intro y hy
     obtain ⟨z,t,hkey⟩:=hk y (Array.mem_toList_iff.mp hy)
     simp [DictEntry.refKey,hkey]
   have a' : ¬ es.toList.any (·.refKey) = true:=by rw [a];exact Bool.false_ne_true
   rw [if_neg a']
   exact congrArg some e
theorem lg.look {h : Heap} {x dx C : Addr} {mA : Str → Option Value} (I : lg h x dx C mA) : ∃ od, PySem.W.InstAt h x (PySem.W.instObj C dx) C (some od) ∧ ∀ name, PySem.W.lookIn name od = some (mA name) :=
 let ⟨od,ho,hl⟩:=vN I.ns
 ⟨od,⟨I.obj,rfl,rfl,ho⟩,hl⟩
section
variable {prog:Program} {w:World} {A:Around} {E:Value→Shared→Prop} {s:Shared} {K:PySem.W.Frag} {x dx C f:Addr} {mA:Str→Option Value} {name:Str} {v:Value}
theorem get_map {expr : Bool} {Q : Value → Shared → Prop} (X : K.In s.heap) (I : lg s.heap x dx C mA) (hg : PySem.W.plainGet K C name = true) (hh : PySem.W.hasDictIn K C = true)
   (ha:PySem.W.findIn K (.ref C) name = some none) (hv:mA name = some v) (hv':PySem.W.handedIn v = true) (h:Q v { s with toks:=s.toks + 1 }) :
   wpAny (model prog w) A (getAttr (.ref x) name expr) Q E s:=by
 obtain ⟨od,J,hl⟩:=I.look
 exact PySem.W.get_value X J (PySem.W.plainGet_of hg).1 (PySem.W.findObj_own hh ha rfl (by rw [hl,hv])) hv' h
theorem wL {pl : Sem Bool} {Q : Value × List Value → Shared → Prop} (X : K.In s.heap) (I : lg s.heap x dx C mA) (hg : PySem.W.plainGet K C name = true)
   (hf:PySem.W.findIn K (.ref C) name = some (some (.ref f))) (ht:PySem.W.isFn K (.ref f) = true) (hv:mA name = none) (h:Q (.ref f,[.ref x]) s) :
   wpAny (model prog w) A (getMethod (.ref x) name pl) Q E s:=by
 obtain ⟨od,J,hl⟩:=I.look
 exact PySem.W.method_fn X J (PySem.W.plainGet_of hg).1 (PySem.W.plainGet_of hg).2 hf (beq_iff_eq.mp ht) (by show (PySem.W.lookIn name od).map (·.isSome) = some false;rw [hl,hv];rfl) h
theorem Bu {ns : List Str} {Q : Unit → Shared → Prop} (X : K.In s.heap) (I : lg s.heap x dx C mA)
   (hs:PySem.W.findIn K (.ref C) "__setattr__" = some (some (.builtin "object.__setattr__"))) (hp:PySem.W.plainOver K C = true) (ht:PySem.W.takerIn K C name = some none) (hh:PySem.W.hasDictIn K C = true)
   (hw:PySem.Within mA ns) (hsz:ns.length ≤ sizeLine)
   (h:∀ h',lg h' x dx C (fun y=>if y = name then some v else mA y)→Heap.SameBut dx s.heap h'→Q () { s with heap:=h',toks:=s.toks + 2 }) :
   wpAny (model prog w) A (setAttr (.ref x) name v) Q E s:=by
 obtain ⟨od,J,hl⟩:=I.look
 refine PySem.W.set_plain X J hs (PySem.W.osa_open (s:={ s with toks:=s.toks + 1 }) (r:=none) X J hp ht fun b=>?_)
 obtain ⟨cd,hc,hd'⟩:=PySem.W.any_some hh
 have hx:s.heap.get? x = some ⟨.ref C,some dx,.plain,#[]⟩:=I.obj
 refine wpAny_bind (wpAny_pure (wpAny_bind (wpAny_bind (wpAny_loadPart hx (wpAny_bind (PySem.W.Looks.here (s:={ s with toks:=s.toks + 1 }) (PySem.W.looks_clsIn X hc) ?_))))))
 rw [hd']
 refine wpAny_pure (a:=some dx) (wpAny_bind (wpAny_pure (wpAny_bind ?_)))
 refine wpAny_nsSet1 (s:={ s with toks:=s.toks + 1 }) I.ns fun h' hn2 hs2=>?_
 obtain ⟨oD,esD,epD,hoD,hdD,hcD⟩:=hn2.count (PySem.Within.cons name v hw)
 refine wpAny_bind (wpAny_lookBehind hoD (by rw [hdD];exact pastItsLine_dict (Nat.le_trans hcD (by rw [List.length_cons];omega))) ?_)
 exact wpAny_pure (h _ ⟨(hs2.2 _ (Ne.symm I.ne)).trans I.obj,hn2,I.ne⟩ hs2)
theorem wN {R : Result → Shared → Prop} {vs : List Value} {kw : List (Str × Value)} (X : K.In s.heap) (hm : PySem.W.makesIn K C = true)
   (hi:PySem.W.findIn K (.ref C) "__init__" = some (some (.ref f))) (hf:PySem.W.typeIn K (.ref f) = some (.type "function"))
   (h : codeAny (model prog w) (A.under (.builtin "type.__call__" ⟨.ref C :: vs, kw⟩)) (.call (.ref f) ⟨.ref (s.heap.objs.size + 1) :: vs, kw⟩) (PySem.W.InitBack (s.heap.objs.size + 1) R)
     { s with heap:=(s.heap.push PySem.W.emptyDict).push (PySem.W.instObj C s.heap.objs.size) }) :
   codeAny (model prog w) A (.call (.ref C) ⟨vs,kw⟩) R s:=by
 obtain ⟨hh,g,d,t,os⟩:=s
 exact PySem.W.make_core (PySem.W.makes_of X hm) (PySem.W.looks_findIn X hi) (fun self=>PySem.W.bind_fn X self hf) (.inl rfl) h
end
def aN (f : Str) (v : V) : List (Str × V) → List (Str × V)
 | []=>[(f,v)]
 | (g,x) :: r=>if g = f then (g,v) :: r else (g,x) :: aN f v r
theorem fk (f g : Str) (v : V) : ∀ fs : List (Str × V), (aN f v fs).lookup g = if g = f then some v else fs.lookup g
 | [] => by
   show List.lookup g [(f,v)] = _
   by_cases h:g = f
   · have hb : (g == f) = true := beq_iff_eq.mpr h
     simp only [List.lookup,hb,if_pos h]
   · have hb : (g == f) = false := beq_eq_false_iff_ne.mpr h
     simp only [List.lookup,hb,if_neg h]
 | (k, x) :: r => by
   have ih:=fk f g v r
   rw [show aN f v ((k,x) :: r) = (if k = f then (k,v) :: r else (k,x) :: aN f v r) from rfl]
   by_cases hk:k = f
   · rw [if_pos hk]
     by_cases h:g = k
     · have hb : (g == k) = true := beq_iff_eq.mpr h
       simp only [List.lookup,hb,if_pos (h.trans hk)]
     · have hb : (g == k) = false := beq_eq_false_iff_ne.mpr h
       simp only [List.lookup,hb,if_neg (fun e:g = f=>h (e.trans hk.symm))]
   · rw [if_neg hk]
     by_cases h:g = k
     · have hb : (g == k) = true := beq_iff_eq.mpr h
       simp only [List.lookup,hb,if_neg (fun e:g = f=>hk (h.symm.trans e))]
     · have hb : (g == k) = false := beq_eq_false_iff_ne.mpr h
       simp only [List.lookup,hb]
       exact ih
theorem jW (f : Str) (v : V) : ∀ fs : List (Str × V), f ∈ (aN f v fs).map (·.1) ∧ ∀ g, g ∈ fs.map (·.1) → g ∈ (aN f v fs).map (·.1)
 | []=>⟨by simp [aN],fun g h=>by simp at h⟩
 | (k, x) :: r => by
   obtain ⟨i1,i2⟩:=jW f v r
   rw [show aN f v ((k,x) :: r) = (if k = f then (k,v) :: r else (k,x) :: aN f v r) from rfl]
   by_cases hk:k = f
   · rw [if_pos hk]
     subst hk
     exact ⟨by simp,fun g h=>by simpa using h⟩
   · rw [if_neg hk]
     refine ⟨?_,fun g h=>?_⟩
     · rw [List.map_cons]
       exact List.mem_cons_of_mem _ i1
     · rw [List.map_cons] at h ⊢
       rcases List.mem_cons.mp h with e | e
       · exact List.mem_cons.mpr (.inl e)
       · exact List.mem_cons_of_mem _ (i2 g e)
theorem ik (f : Str) (v : V) : ∀ fs : List (Str × V), (aN f v fs).length ≤ fs.length + 1
 | []=>by simp [aN]
 | (k, x) :: r => by
   have ih:=ik f v r
   rw [show aN f v ((k,x) :: r) = (if k = f then (k,v) :: r else (k,x) :: aN f v r) from rfl]
   by_cases hk:k = f
   · rw [if_pos hk,List.length_cons,List.length_cons];omega
   · rw [if_neg hk,List.length_cons,List.length_cons];omega
theorem eR.some_of {v : V} {o : Option Value} (r : eR (some v) o) : ∃ u, o = some u ∧ RelV v u := by
 cases o with
 | none=>exact (show False from r).elim
 | some u=>exact ⟨u,rfl,r⟩
theorem eR.none_of {o : Option Value} (r : eR none o) : o = none := by
 cases o with
 | none=>rfl
 | some u=>exact (show False from r).elim
theorem u7 {v : V} {u : Value} (r : RelV v u) : PySem.W.handedIn u = true := by
 cases v with
 | aO=>cases (show u = Value.none from r);rfl
 | bl b=>cases (show u = Value.bool b from r);rfl
 | int i=>obtain ⟨t,e⟩:=(show ∃ t,u = Value.int i t from r);cases e;rfl
 | str x=>obtain ⟨t,e⟩:=(show ∃ t,u = Value.str x t from r);cases e;rfl
 | byt b=>obtain ⟨t,e⟩:=(show ∃ t,u = Value.bytes b t from r);cases e;rfl
 | qL b=>obtain ⟨t,e⟩:=(show ∃ t,u = Value.float b t from r);cases e;rfl
 | ref a=>cases (show u = Value.ref a from r);rfl
 | ty n=>cases (show u = Value.type n from r);rfl
section
variable {P:Program} {w:World} {H H':Hp} {h h':Heap} {a C dx:Addr} {fs fs':List (Str×V)}
theorem kr (ax : cC P w H h) (e : H a = some (.ins C dx fs)) : ∃ mA, lg h a dx C mA ∧ (∀ f, eR (fs.lookup f) (mA f)) ∧ PySem.Within mA (fs.map (·.1)) ∧ fs.length ≤ 1000 ∧ H dx = some (.own a) := by
 obtain ⟨d,z,ne,ob,mA,n,r,q⟩:=(show bH P w H h a (.ins C dx fs) from ax a _ e)
 exact ⟨mA,⟨ob,n,ne⟩,r,q,z,d⟩
end
structure de (K : PySem.W.Frag) (C : Addr) : Prop where
 pg:PySem.W.plainGet K C Str.empty = true
 hd:PySem.W.hasDictIn K C = true
 po:PySem.W.plainOver K C = true
 sa:PySem.W.findIn K (.ref C) "__setattr__" = some (some (.builtin "object.__setattr__"))
theorem de.get {K:PySem.W.Frag} {C:Addr} (c:de K C) (f:Str):PySem.W.plainGet K C f = true:=c.pg
def aT (K:PySem.W.Frag) (C:Addr) (f:Str):Prop:=PySem.W.findIn K (.ref C) f = some none
theorem aT.Jt {K : PySem.W.Frag} {C : Addr} {f : Str} (n : aT K C f) : PySem.W.takerIn K C f = some none := by
 unfold PySem.W.takerIn
 rw [show PySem.W.findIn K (.ref C) f = some none from n]
 rfl
structure eB (K : PySem.W.Frag) (C : Addr) (m : Str) (f : Addr) : Prop where
 at_:PySem.W.findIn K (.ref C) m = some (some (.ref f))
 fn:PySem.W.isFn K (.ref f) = true
 kp:PySem.W.keepIn K (.ref f) = true
section
variable {X:Cx} {pins:List (Addr×Obj)} {σ : St} {H:Hp} {s:Shared} {a C dx:Addr} {fs:List (Str×V)} {f:Str} {v:V} {A:Around} {E:Value→Shared→Prop}
theorem uu {b : Bool} {Q : Value → Shared → Prop} (I : Inv X pins σ H s) (e : H a = some (.ins C dx fs)) (c : de X.K C) (n : aT X.K C f) (l : fs.lookup f = some v)
   (h:∀ u s',Inv X pins σ H s'→RelV v u→Q u s'):wpAny (model X.prog X.w) A (getAttr (.ref a) f b) Q E s:=by
 obtain ⟨mA,O,r,_,_,_⟩:=kr I.ax e
 obtain ⟨u,hu,ru⟩:=eR.some_of (v:=v) (o:=mA f) (by rw [← l];exact r f)
 exact get_map I.cP O (c.get f) c.hd n hu (u7 ru) (h u _ (I.tok _) ru)
theorem md {m : Str} {g : Addr} {pl : Sem Bool} {Q : Value × List Value → Shared → Prop} (I : Inv X pins σ H s) (e : H a = some (.ins C dx fs)) (c : de X.K C) (k : eB X.K C m g) (l : fs.lookup m = none)
   (h:Q (.ref g,[.ref a]) s):wpAny (model X.prog X.w) A (getMethod (.ref a) m pl) Q E s:=by
 obtain ⟨mA,O,r,_,_,_⟩:=kr I.ax e
 have hn:mA m = none:=eR.none_of (by rw [← l];exact r m)
 exact wL I.cP O (c.get m) k.at_ k.fn hn h
theorem uk {y : V} {u : Value} {Q : Unit → Shared → Prop} (I : Inv X pins σ H s) (e : H a = some (.ins C dx fs)) (c : de X.K C) (n : aT X.K C f) (hl : fs.length < 1000) (ry : RelV y u)
   (h:∀ s',Inv X pins σ (upd H a (.ins C dx (aN f y fs))) s'→Q () s'):wpAny (model X.prog X.w) A (setAttr (.ref a) f u) Q E s:=by
 obtain ⟨mA,O,r,wi,_,ho⟩:=kr I.ax e
 have hz:(fs.map (·.1)).length ≤ sizeLine:=by rw [List.length_map,sizeLine_eq];omega
 refine Bu I.cP O c.sa c.po n.Jt c.hd wi hz fun h' O' sb=>h _ ?_
 have hd:∃ o,h'.get? dx = some o:=let ⟨o,_,_,e',_⟩:=O'.ns;⟨o,e'⟩
 refine I.write (x:=a) (e:=dx) (by rw [e];exact True.intro) (.inr ho) (fun b q hb z=>(sb.2 b hb).trans z) hd ?_
 refine ⟨by rw [aB O.ne];exact ho,?_,O.ne,O'.obj,_,O'.ns,fun g=>?_,fun g hg=>?_⟩
 · have:=ik f y fs;omega
 · show eR ((aN f y fs).lookup g) (if g = f then some u else mA g)
   rw [fk]
   by_cases q:g = f
   · rw [if_pos q,if_pos q];exact ry
   · rw [if_neg q,if_neg q];exact r g
 · by_cases q : g = f
   · rw [q];exact (jW f y fs).1
   · refine (jW f y fs).2 g (wi g fun z => hg ?_)
     show (if g = f then some u else mA g) = none
     rw [if_neg q];exact z
theorem Inv.made (I : Inv X pins σ H s) : Inv X pins σ (upd (upd H s.heap.objs.size (.own (s.heap.objs.size + 1))) (s.heap.objs.size + 1) (.ins C s.heap.objs.size []))
   { s with heap:=(s.heap.push PySem.W.emptyDict).push (PySem.W.instObj C s.heap.objs.size) }:=by
 have e1:(s.heap.push PySem.W.emptyDict).get? s.heap.objs.size = some PySem.W.emptyDict:=Heap.get?_push_size s.heap rfl
 have e2 : ((s.heap.push PySem.W.emptyDict).push (PySem.W.instObj C s.heap.objs.size)).get? (s.heap.objs.size + 1) = some (PySem.W.instObj C s.heap.objs.size) := by
   have:=Heap.get?_push_size (s.heap.push PySem.W.emptyDict) (o:=PySem.W.instObj C s.heap.objs.size) rfl
   rwa [Heap.size_push] at this
 have e3:(s.heap.push PySem.W.emptyDict).Ns s.heap.objs.size (fun _=>none):=⟨PySem.W.emptyDict,#[],_,e1,rfl,(fun e he=>absurd he (by simp)),fun _=>rfl⟩
 have I1:=I.laid (a:=s.heap.objs.size) (o:=.own (s.heap.objs.size + 1)) (h':=s.heap.push PySem.W.emptyDict) (t':=s.toks) (fun b u q=>Heap.get?_push_of_some _ q) (Nat.le_refl _) ⟨_,e1⟩
 refine I1.laid (a:=s.heap.objs.size + 1) (o:=.ins C s.heap.objs.size []) (t':=s.toks) (fun b u q=>Heap.get?_push_of_some _ q) (Nat.le_of_eq (Heap.size_push _ _)) ?_
 have ne:s.heap.objs.size ≠ s.heap.objs.size + 1:=Nat.ne_of_lt (Nat.lt_succ_self _)
 refine ⟨by rw [aB ne,ak],Nat.zero_le _,ne,e2,fun _=>none,(Heap.Ns1.of_empty e3).at fun o q=>Heap.get?_push_of_some _ q,fun _=>True.intro,fun y hy=>absurd rfl hy⟩
theorem BB {prog : Program} {w : World} {env : Env} {e : Expr} {f : Str} {pos : Pos} {s : Shared} {Q : Value → Shared → Prop} (hb : attributeBase e f env (eval e env) = eval e env)
   (h:wpAny (model prog w) A (eval e env) (fun o s₁=>wpAny (model prog w) A (getAttr o f true) Q E s₁) E s):wpAny (model prog w) A (eval (.Attribute e f pos) env) Q E s :=
 Attribute_any_ h (by rw [arm_eval_Attribute,hb])
end
def xt (K:PySem.W.Frag) (ta:TE) (f:Str):TE:=fun σ H Q=>ta σ H fun x H1=>∃ a C dx fs v,x = .ref a∧H1 a = some (.ins C dx fs)∧de K C∧aT K C f∧fs.lookup f = some v∧Q v H1
def xy (K : PySem.W.Frag) (ta tv : TE) (f : Str) : TS := fun D σ H => tv σ H fun y H1 => ta σ H1 fun x H2 => ∃ a C dx fs, x = .ref a ∧ H2 a = some (.ins C dx fs) ∧ de K C ∧ aT K C f ∧ fs.length < 1000 ∧
 D.nx σ (upd H2 a (.ins C dx (aN f y fs)))
section
variable {X:Cx} {o e value:Expr} {f:Str} {pos pos' tpos:Pos} {ta tv:TE}
theorem DY (he : PE X e ta) (hb : attributeBase e f X.env (eval e X.env) = eval e X.env) : PE X (.Attribute e f pos) (xt X.K ta f) := by
 intro pins s σ H Q I h
 refine BB hb (aY (he pins s σ H _ I h) fun u s1 ⟨x,H1,I1,rx,a,C,dx,fs,v,ex,ea,c,n,l,q⟩=>?_)
 subst ex
 obtain rfl:u = Value.ref a:=rx
 exact uu I1 ea c n l fun u' s2 I2 ru=>⟨v,H1,I2,ru,q⟩
theorem DU (ha : PE X o ta) (hv : PE X value tv) (hs : swapsWith value (some (.Attribute o f pos')) pos.line X.env = pure false) : PS X (.Assign [.Attribute o f pos'] value pos) (xy X.K ta tv f) := by
 intro pins s σ H D I h
 refine plainObj_wpAny_Assign_Attribute (aY (hv pins s σ H _ I h) fun u s1 ⟨y,H1,I1,ry,q⟩=>aY (ha pins s1 σ H1 _ I1 q) fun ov s2 ⟨x,H2,I2,rx,a,C,dx,fs,ex,ea,c,n,l,q2⟩=>?_) hs
 subst ex
 obtain rfl:ov = Value.ref a:=rx
 exact uk I2 ea c n l ry fun s3 I3=>⟨σ,_,I3,q2⟩
end
section
variable {X:Cx} {pins:List (Addr×Obj)} {σ : St} {H:Hp} {s:Shared} {A:Around} {E:Value→Shared→Prop} {Q:Value→Shared→Prop} {c:Value} {b:Bool}
inductive dG (K : PySem.W.Frag) (H : Hp) : V → Value → Prop where
 | aO:dG K H .aO (.type "NoneType")
 | bl (x:Bool):dG K H (.bl x) (.type "bool")
 | int (i:Int):dG K H (.int i) (.type "int")
 | str (x:Str):dG K H (.str x) (.type "str")
 | qL (x:UInt64):dG K H (.qL x) (.type "float")
 | lst {a:Addr} {xs:List V} (e:H a = some (.lst xs)):dG K H (.ref a) (.type "list")
 | g6 {a:Addr} {o:Obj} {xs:List V} (e:H a = some (.g6 o (.lst xs))):dG K H (.ref a) (.type "list")
 | tup {a:Addr} {xs:List V} (e:H a = some (.tup xs)):dG K H (.ref a) (.type "tuple")
 | dK {a:Addr} {kvs:List (Key×V)} (e:H a = some (.dK kvs)):dG K H (.ref a) (.type "dict")
 | dT {a:Addr} {kvs:List (List Key×V)} (e:H a = some (.dT kvs)):dG K H (.ref a) (.type "dict")
 | ins {a C dx : Addr} {fs : List (Str × V)} (e : H a = some (.ins C dx fs)) (cl : de K C) (ha : PySem.W.findIn K (.ref C) "__class__" = some (some (.builtin "object.__class__")))
     (hn:PySem.W.specialIn K (.builtin "object.__class__") "__get__" = some (some (.builtin "getset_descriptor.__get__"))) (htk:PySem.W.takesIn K (.builtin "object.__class__") = some true)
     (hm:PySem.W.mroIn K C (.type "object") = some true):dG K H (.ref a) (.ref C)
theorem vh {x : V} {u t : Value} (I : Inv X pins σ H s) (rx : RelV x u) (ty : dG X.K H x t) (e : PySem.W.kitOne X.K t c = some b) (h : ∀ tk, Q (.bool b) { s with toks := tk }) :
   wpAny (model X.prog X.w) A (call (.builtin "isinstance") [u,c]) Q E s:=by
 cases ty with
 | aO=>cases (show u = Value.none from rx);exact PySem.W.kia_one PySem.W.kitx_none I.cP True.intro e (fun z=>nomatch z) h
 | bl y=>cases (show u = Value.bool y from rx);exact PySem.W.kia_one PySem.W.kitx_bool I.cP True.intro e (fun z=>nomatch z) h
 | int i=>obtain ⟨t,q⟩:=(show ∃ t,u = Value.int i t from rx);cases q;exact PySem.W.kia_one PySem.W.kitx_int I.cP True.intro e (fun z=>nomatch z) h
 | str y=>obtain ⟨t,q⟩:=(show ∃ t,u = Value.str y t from rx);cases q;exact PySem.W.kia_one PySem.W.kitx_str I.cP True.intro e (fun z=>nomatch z) h
 | qL y=>obtain ⟨t,q⟩:=(show ∃ t,u = Value.float y t from rx);cases q;exact PySem.W.kia_one PySem.W.kitx_float I.cP True.intro e (fun z=>nomatch z) h
 | @lst a xs ea =>
   cases (show u = Value.ref a from rx)
   obtain ⟨_,_,n,_,h1⟩:=(show bH X.prog X.w H s.heap a (.lst xs) from I.ax a _ ea)
   exact PySem.W.kia_one PySem.W.kitx_list I.cP ⟨_,h1,rfl⟩ e (fun z=>nomatch z) h
 | @g6 a ob xs ea =>
   cases (show u = Value.ref a from rx)
   obtain ⟨_,_,_,n,_,h1⟩:=(show bH X.prog X.w H s.heap a (.g6 ob (.lst xs)) from I.ax a _ ea)
   exact PySem.W.kia_one PySem.W.kitx_list I.cP ⟨_,h1,rfl⟩ e (fun z=>nomatch z) h
 | @tup a xs ea =>
   cases (show u = Value.ref a from rx)
   obtain ⟨_,_,_,p⟩:=(show bH X.prog X.w H s.heap a (.tup xs) from I.ax a _ ea)
   obtain ⟨o,h1,h2,_⟩:=p
   exact PySem.W.kia_one PySem.W.kitx_tuple I.cP ⟨o,h1,h2⟩ e (fun z=>nomatch z) h
 | @dK a kvs ea =>
   cases (show u = Value.ref a from rx)
   obtain ⟨_,_,vs,_,p⟩:=(show bH X.prog X.w H s.heap a (.dK kvs) from I.ax a _ ea)
   obtain ⟨o,es,ep,h1,h2,_⟩:=p
   exact PySem.W.kia_one PySem.W.kitx_dict I.cP ⟨o,h1,h2.1⟩ e (fun z=>nomatch z) h
 | @dT a kvs ea =>
   cases (show u = Value.ref a from rx)
   obtain ⟨_,_,xs,_,o,es,ep,h1,h2,_⟩:=(show bH X.prog X.w H s.heap a (.dT kvs) from I.ax a _ ea)
   exact PySem.W.kia_one PySem.W.kitx_dict I.cP ⟨o,h1,h2.1⟩ e (fun z=>nomatch z) h
 | @ins a C dx fs ea cl ha hn htk hm =>
   cases (show u = Value.ref a from rx)
   obtain ⟨mA,O,_⟩:=kr I.ax ea
   obtain ⟨od,J,_⟩:=O.look
   exact PySem.W.kia_one (PySem.W.kitx_own (cl.get _) cl.hd ha hn htk hm) I.cP J e (fun z=>nomatch z) h
end
end L2
namespace L2
open PySem PySem.Spec PyProof.Rows
structure bR (k : Nat) (A : Around) : Prop where
 hd:A.handled = none
 dp:A.depth + 1 * k + 5 < recursionLimit
 un:A.units + 16 * k + 200 < cLine
 gd:A.guards = some []
theorem bR.mono {j k:Nat} {A:Around} (r:bR k A) (h:j ≤ k):bR j A:=⟨r.hd,by have:=r.dp;omega,by have:=r.un;omega,r.gd⟩
theorem bR.deeper {k : Nat} {A : Around} (r : bR (k + 1) A) (env : Env) : bR k (A.deeper env) :=
 ⟨r.hd,by have:=r.dp;show A.depth + 1 + 1 * k + 5 < _;omega,by have:=r.un;show A.units + 3 + 16 * k + 200 < _;omega,r.gd⟩
theorem tX {A : Around} {C : Addr} {us : List Value} {kw : List (Str × Value)} : (A.under (.builtin "type.__call__" ⟨.ref C :: us, kw⟩)).depth = A.depth + 1 := by
 first | rfl | simp [Around.under,Code.weight,Code.isCreation,Code.isGuard,Code.isCaller,Code.frames,Code.isFrame,guardIds]
theorem t8 {A : Around} {C : Addr} {us : List Value} {kw : List (Str × Value)} : (A.under (.builtin "type.__call__" ⟨.ref C :: us, kw⟩)).units = A.units + 1 := by
 first | rfl | simp [Around.under,Code.cUnits,Code.frames,Code.isFrame]
theorem sC {A : Around} {C : Addr} {us : List Value} {kw : List (Str × Value)} : (A.under (.builtin "type.__call__" ⟨.ref C :: us, kw⟩)).guards = A.guards := by
 have e:(Code.builtin "type.__call__" ⟨.ref C :: us,kw⟩).guards = []:=by first | rfl | simp [Code.guards,Code.isGuard,guardIds]
 simp only [Around.under,e,pushGuards]
theorem bR.make {k : Nat} {A : Around} (r : bR (k + 1) A) (C : Addr) (us : List Value) (kw : List (Str × Value)) : bR k (A.under (.builtin "type.__call__" ⟨.ref C :: us, kw⟩)) :=
 ⟨r.hd,by have:=r.dp;rw [tX];omega,by have:=r.un;rw [t8];omega,by rw [sC];exact r.gd⟩
theorem bR.depth {k:Nat} {A:Around} (r:bR k A):A.depth < recursionLimit:=by have:=r.dp;omega
theorem bR.units {k:Nat} {A:Around} (r:bR k A):A.units + 64 < cLine:=by have:=r.un;omega
def gH:TA:=fun _ H Q=>Q [] H
def b8 (ta:TE) (tr:TA):TA:=fun σ H Q=>ta σ H fun x H1=>tr σ H1 fun xs H2=>Q (x :: xs) H2
section
variable {X:Cx} {e:Expr} {es:List Expr} {te:TE} {t:TA} {pos:Pos}
theorem ae:PA X [] gH:=fun _ _ _ _ H Q I h=>Calls.spliced_nil ⟨[],H,I,.nil,h⟩
theorem aa (ha : PE X e te) (hr : PA X es t) (hs : starEach (e :: es) X.env = (false, eval e X.env) :: starEach es X.env := by rfl) : PA X (e :: es) (b8 te t) := by
 intro pos pins s σ H Q I h
 rw [hs]
 show wpAny _ _ (spliced ((false,eval e X.env) :: backTo pos (starEach es X.env))) _ _ s
 refine Calls.spliced_cons (aY (ha pins s σ H _ I h) fun u s1 ⟨x,H1,I1,r1,q1⟩=>?_)
 exact aY (hr pos pins s1 σ H1 _ I1 q1) fun us s2 ⟨xs,H2,I2,r2,q2⟩=>⟨x :: xs,H2,I2,.cons r1 r2,q2⟩
def DD (t:TA):TE:=fun σ H Q=>t σ H fun xs H1=>xs.length ≤ sizeLine∧∀ p,H1 p = none→Q (.ref p) (upd H1 p (.tup xs))
def lM (t:TA):TE:=fun σ H Q=>t σ H fun xs H1=>xs.length ≤ sizeLine∧∀ p,H1 p = none→Q (.ref p) (upd H1 p (.lst xs))
theorem cN {x1} (h : PA X es t) : PE X (.Tuple es x1 pos) (DD t) := by
 intro pins s σ H Q I hq
 refine wpAny_Tuple_spliced (aY (h pos pins s σ H _ I hq) fun us s1 ⟨xs,H1,I1,r,z,q⟩=>⟨by rw [← r.length];exact z,?_⟩)
 have hf:H1 s1.heap.objs.size = none:=I1.ax.fresh (Nat.le_refl _)
 refine ⟨.ref s1.heap.objs.size,upd H1 s1.heap.objs.size (.tup xs),I1.laid (t':=s1.toks) (fun b u e=>Heap.get?_push_of_some _ e) (Nat.le_refl _) ?_,rfl,q _ hf⟩
 exact ⟨z,us,r,⟨_,Heap.get?_push_size _ rfl,rfl,_,rfl⟩⟩
theorem bc (h : PA X es t) : PE X (.List es pos) (lM t) := by
 intro pins s σ H Q I hq
 refine wpAny_List_spliced (aY (h pos pins s σ H _ I hq) fun us s1 ⟨xs,H1,I1,r,z,q⟩=>⟨by rw [← r.length];exact z,?_⟩)
 have hf:H1 s1.heap.objs.size = none:=I1.ax.fresh (Nat.le_refl _)
 refine ⟨.ref s1.heap.objs.size,upd H1 s1.heap.objs.size (.lst xs),I1.laid (t':=s1.toks) (fun b u e=>Heap.get?_push_of_some _ e) (Nat.le_refl _) ?_,rfl,q _ hf⟩
 exact ⟨z,us,0,r,Heap.get?_push_size _ rfl⟩
end
abbrev Sp:=List V→Hp→VK→XK→Prop
abbrev dO:=List Env→Hp→Shared→XK→Value→Shared→Prop
structure lF (P : Program) (w : World) (K : PySem.W.Frag) (mg : Str → Option Value) (base : Heap) (A : Around) (outer : List Env) (s : Shared) (H : Hp) : Prop where
 frames:A.frames = some outer
 mod:Mod K mg base
 bs:∀ b o,base.get? b = some o→s.heap.get? b = some o∧H b = none
 jh:base.objs.size ≤ s.heap.objs.size
 fA:s.heap.FunFrames base outer
 lW:∀ b ∈ b6 outer,H b = none
 ax:cC P w H s.heap
 bare:AllBare s.gens
def CE (outer : List Env) (P : Program) (w : World) (H : Hp) (s : Shared) (Q : VK) (u : Value) (s' : Shared) : Prop :=
 ∃ v H',s'.os = s.os∧AllBare s'.gens∧Un (b6 outer) [] H H' s.heap s'.heap∧cC P w H' s'.heap∧RelV v u∧Q v H'
def CR (CX : dO) (outer : List Env) (P : Program) (w : World) (H : Hp) (s : Shared) (Q : VK) (E : XK) (r : Result) (s' : Shared) : Prop :=
 match r with
 | .ok (.ret u)=>CE outer P w H s Q u s'
 | .ok _=>False
 | .error e=>CX outer H s E e s'
structure eO (P : Program) (w : World) (K : PySem.W.Frag) (mg : Str → Option Value) (base : Heap) (CX : dO) (k : Nat) (f : Addr) (fd : FuncData) (ps : List Str) (sp : Sp) : Prop where
 len:∀ vs H Q E,sp vs H Q E→vs.length = ps.length
 run : ∀ (A : Around) (outer : List Env) (s : Shared) (H : Hp) (args : Args) (us : List Value) (vs : List V) (Q : VK) (E : XK), bR k A → lF P w K mg base A outer s H → BindsTo s fd args (ps.zip us) → aK vs us → sp vs H Q E →
   codeAny (model P w) A (.call (.ref f) args) (CR CX outer P w H s Q E) s
theorem eO.mono {P : Program} {w : World} {K : PySem.W.Frag} {mg : Str → Option Value} {base : Heap} {CX : dO} {j k : Nat} {f : Addr} {fd : FuncData} {ps : List Str} {sp : Sp} (F : eO P w K mg base CX j f fd ps sp) (h : j ≤ k) :
   eO P w K mg base CX k f fd ps sp:=⟨F.len,fun A outer s H args us vs Q E hr=>F.run A outer s H args us vs Q E (hr.mono h)⟩
theorem lF.make {P : Program} {w : World} {K : PySem.W.Frag} {mg : Str → Option Value} {base : Heap} {A : Around} {outer : List Env} {s : Shared} {H : Hp} (e : lF P w K mg base A outer s H) (C : Addr) (us : List Value) (kw : List (Str × Value)) :
   lF P w K mg base (A.under (.builtin "type.__call__" ⟨.ref C :: us,kw⟩)) outer s H:=⟨by first | exact e.frames | (simpa [Around.under,Code.envs,Code.isFrame,pushEnvs] using e.frames),e.mod,e.bs,e.jh,e.fA,e.lW,e.ax,e.bare⟩
section
variable {X:Cx} {pins:List (Addr×Obj)} {σ : St} {H:Hp} {s s':Shared}
theorem Inv.wW (I : Inv X pins σ H s) : lF X.prog X.w X.K X.mg X.base X.A X.stack s H :=
 ⟨I.ok.frames,I.ok.mod,I.bs,Nat.le_trans I.ok.jh I.sz,I.stack,I.gX,I.ax,I.bare⟩
theorem Inv.after {Q : VK} {u : Value} (I : Inv X pins σ H s) (h : CE X.stack X.prog X.w H s Q u s') : EP X pins σ Q u s' := by
 obtain ⟨v,H',os,bare,un,ax,r,q⟩:=h
 obtain ⟨hh,g,d,t,os'⟩:=s'
 obtain rfl:os' = s.os:=os
 exact ⟨v,H',I.call (h':=hh) (g':=g) (d':=d) (t':=t) (ch:=[]) un ax bare (fun b z=>absurd z (by simp)),r,q⟩
end
def zM (sp:Sp) (dvs:List V) (E:XK) (t:TA):TE:=fun σ H Q=>t σ H fun vs H1=>sp (vs ++ dvs) H1 Q E
def AL (C : Addr) (sp : Sp) (dvs : List V) (E : XK) (t : TA) : TE := fun σ H Q => t σ H fun vs H1 => ∀ x dx, H1 x = none → H1 dx = none → dx ≠ x →
 sp (.ref x :: (vs ++ dvs)) (upd (upd H1 dx (.own x)) x (.ins C dx [])) (fun v H2=>v = .aO∧Q (.ref x) H2) E
def Binds (K : PySem.W.Frag) (fd : FuncData) (ps : List Str) (ds : List Value) : Prop :=
 ∀ (s:Shared) (us:List Value),K.In s.heap→(us ++ ds).length = ps.length→BindsTo s fd ⟨us,[]⟩ (ps.zip (us ++ ds))
theorem Binds.all {K : PySem.W.Frag} {fd : FuncData} {ps : List Str} (h : ∀ us : List Value, us.length = ps.length → bindArgs fd ⟨us, []⟩ = pure (ps.zip us)) : Binds K fd ps [] := fun s us _ hl => by
 rw [List.append_nil] at hl ⊢
 exact .of_eq (h us hl)
def eL (CX:dO) (X:Cx) (E:XK):Prop:=∀ (pins:List (Addr×Obj)) (σ : St) (H:Hp) (s:Shared) (e:Value) (s':Shared),Inv X pins σ H s→CX X.stack H s E e s'→X.xe e s'
section
variable {X:Cx} {CX:dO} {k:Nat} {f C:Addr} {fd:FuncData} {ps:List Str} {sp:Sp} {dvs:List V} {ds:List Value} {E:XK} {x m:Str} {p pos apos:Pos} {e o:Expr} {es:List Expr} {ta:TE} {t:TA}
theorem rg {pins : List (Addr × Obj)} {σ : St} {H : Hp} {s : Shared} {Q : VK} {us : List Value} {vs : List V} (F : eO X.prog X.w X.K X.mg X.base CX k f fd ps sp) (hr : bR k X.A) (hb : Binds X.K fd ps ds) (hd : aK dvs ds) (hx : eL CX X E)
   (I:Inv X pins σ H s) (r:aK vs us) (h:sp (vs ++ dvs) H Q E):wpAny (model X.prog X.w) X.A (call (.ref f) us) (EP X pins σ Q) X.xe s:=by
 have r2:aK (vs ++ dvs) (us ++ ds):=r.append hd
 have hl:(us ++ ds).length = ps.length:=by rw [← r2.length];exact F.len _ _ _ _ h
 refine wpAny_call (codeAny_mono (F.run X.A X.stack s H ⟨us,[]⟩ (us ++ ds) (vs ++ dvs) Q E hr I.wW (hb s us I.cP hl) r2 h) fun r s' hq=>?_)
 cases r with
 | error e=>exact hx pins σ H s e s' I hq
 | ok fl =>
   cases fl with
   | ret u=>exact I.after hq
   | next=>exact False.elim hq
   | brk=>exact False.elim hq
   | cont=>exact False.elim hq
theorem Bk (F : eO X.prog X.w X.K X.mg X.base CX k f fd ps sp) (hr : bR k X.A) (hg : Gl X x) (hm : X.mg x = some (.ref f)) (hk : PySem.W.keepIn X.K (.ref f) = true) (hb : Binds X.K fd ps ds) (hd : aK dvs ds) (hx : eL CX X E)
   (ha:PA X (e :: es) t) (hdb:(x == ("__debug__" : Str)) = false:=by decide) (he:starEach (e :: es) X.env = (false,eval e X.env) :: starEach es X.env:=by rfl) (hpl:(backTo pos (starEach es X.env)).any (·.1) = false:=by rfl) :
   PE X (.Call (.Name x p) (e :: es) [] pos) (zM sp dvs E t):=by
 intro pins s σ H Q I h
 refine wpAny_Call_Name_kw (fZ I hg hm ?_ hdb)
 refine PySem.W.callWith_K (h₀:=X.base) I.ok.mod.tj hk (aY (ha pos pins s σ H _ I h) fun us s1 ⟨vs,H1,I1,r,q⟩=>⟨I1.cP,?_⟩) he hpl
 exact rg F hr hb hd hx I1 r q
structure Mk (K : PySem.W.Frag) (C f : Addr) : Prop where
 makes:PySem.W.makesIn K C = true
 init:PySem.W.findIn K (.ref C) "__init__" = some (some (.ref f))
 fn:PySem.W.isFn K (.ref f) = true
 kp:PySem.W.keepIn K (.ref C) = true
theorem xa {pins : List (Addr × Obj)} {σ : St} {H : Hp} {s : Shared} {Q : VK} {us : List Value} {vs : List V} (M : Mk X.K C f) (F : eO X.prog X.w X.K X.mg X.base CX k f fd ps sp) (hr : bR (k + 1) X.A) (hb : Binds X.K fd ps ds) (hd : aK dvs ds)
   (hx:eL CX X E) (I:Inv X pins σ H s) (r:aK vs us)
   (h:∀ x dx,H x = none→H dx = none→dx ≠ x→sp (.ref x :: (vs ++ dvs)) (upd (upd H dx (.own x)) x (.ins C dx [])) (fun v H2=>v = .aO∧Q (.ref x) H2) E) :
   wpAny (model X.prog X.w) X.A (call (.ref C) us) (EP X pins σ Q) X.xe s:=by
 have hq:=h (s.heap.objs.size + 1) s.heap.objs.size (I.ax.fresh (Nat.le_succ _)) (I.ax.fresh (Nat.le_refl _)) (Nat.ne_of_lt (Nat.lt_succ_self _))
 have I2:=Inv.made (C:=C) I
 have r2:aK (V.ref (s.heap.objs.size + 1) :: (vs ++ dvs)) (Value.ref (s.heap.objs.size + 1) :: (us ++ ds)):=.cons rfl (r.append hd)
 have hl : (Value.ref (s.heap.objs.size + 1) :: us ++ ds).length = ps.length := by
   have e:=r2.length
   rw [F.len _ _ _ _ hq] at e
   exact e.symm
 refine wpAny_call (wN (f := f) I.cP M.makes M.init (beq_iff_eq.mp M.fn) (codeAny_mono (F.run _ X.stack _ _ ⟨Value.ref (s.heap.objs.size + 1) :: us, []⟩ (Value.ref (s.heap.objs.size + 1) :: (us ++ ds)) _ _ E (hr.make C us [])
   (I2.wW.make C us []) (hb _ (Value.ref (s.heap.objs.size + 1) :: us) I2.cP hl) r2 hq) fun r s' hq'=>?_))
 cases r with
 | error e=>exact hx pins σ _ _ e s' I2 hq'
 | ok fl =>
   cases fl with
   | ret u =>
     obtain ⟨v,H',I3,rv,ev,q3⟩:=I2.after hq'
     subst ev
     exact ⟨rv,⟨V.ref (s.heap.objs.size + 1),H',I3,rfl,q3⟩⟩
   | next=>exact False.elim hq'
   | brk=>exact False.elim hq'
   | cont=>exact False.elim hq'
theorem Br (M : Mk X.K C f) (F : eO X.prog X.w X.K X.mg X.base CX k f fd ps sp) (hr : bR (k + 1) X.A) (hg : Gl X x) (hm : X.mg x = some (.ref C)) (hb : Binds X.K fd ps ds) (hd : aK dvs ds) (hx : eL CX X E)
   (ha:PA X (e :: es) t) (hdb:(x == ("__debug__" : Str)) = false:=by decide) (he:starEach (e :: es) X.env = (false,eval e X.env) :: starEach es X.env:=by rfl) (hpl:(backTo pos (starEach es X.env)).any (·.1) = false:=by rfl) :
   PE X (.Call (.Name x p) (e :: es) [] pos) (AL C sp dvs E t):=by
 intro pins s σ H Q I h
 refine wpAny_Call_Name_kw (fZ I hg hm ?_ hdb)
 refine PySem.W.callWith_K (h₀:=X.base) I.ok.mod.tj M.kp (aY (ha pos pins s σ H _ I h) fun us s1 ⟨vs,H1,I1,r,q⟩=>⟨I1.cP,?_⟩) he hpl
 exact xa M F hr hb hd hx I1 r q
end
section
variable {X:Cx} {CX:dO} {k:Nat} {f C:Addr} {fd:FuncData} {ps ks:List Str} {sp:Sp} {E:XK} {x m:Str} {p pos apos kpos:Pos} {e o:Expr} {es:List Expr} {kws:List Keyword} {te ta:TE} {t tk:TA} {nm:Option Str}
variable {g:List Value→List Value→List Value} {gV:List V→List V→List V}
end
structure aA (N P : List Str) (sc : Scope) : Prop where
 kind:sc.kind = .function
 co:sc.isCoroutine = false
 gen:sc.isGenerator = false
 nd:N.Nodup
 pre:N.take P.length = P
 par:∀ x ∈ P,sc.names.lookup x = some .local∨sc.names.lookup x = some .cell
 CU:∀ y ∈ sc.names,y.2 ≠ .free
theorem oV {kindOf : Str → Option NameKind} {x : Str} : ∀ {binds : List (Str × Value)} {m : Str → Option Value}, (∀ v, (x, v) ∉ binds) → bindL kindOf binds m x = m x
 | [],_,_=>rfl
 | (n, v) :: r, m, h => by
   unfold bindL
   rw [oV fun w hw=>h w (List.mem_cons_of_mem _ hw)]
   split
   · have : x ≠ n := by rintro rfl; exact h v List.mem_cons_self
     simp [this]
   · rfl
theorem pb {kindOf : Str → Option NameKind} {x : Str} : ∀ {binds : List (Str × Value)} {m : Str → Option Value}, (∀ v, (x, v) ∉ binds) → bindC kindOf binds m x = m x
 | [],_,_=>rfl
 | (n, v) :: r, m, h => by
   unfold bindC
   rw [pb fun w hw=>h w (List.mem_cons_of_mem _ hw)]
   split
   · rfl
   · have : x ≠ n := by rintro rfl; exact h v List.mem_cons_self
     simp [this]
theorem oZ {kindOf : Str → Option NameKind} {x : Str} {v : Value} : ∀ {P : List Str} {vs : List Value} {i : Nat} {m : Str → Option Value}, P.Nodup → P[i]? = some x → vs[i]? = some v → kindOf x = some .local →
   bindL kindOf (P.zip vs) m x = some v
 | [],_,_,_,_,h,_,_=>by simp at h
 | _ :: _,[],_,_,_,_,h,_=>by simp at h
 | p :: P, w :: vs, 0, m, nd, h1, h2, hk => by
   simp at h1 h2;subst h1;subst h2
   show bindL kindOf ((p,w) :: P.zip vs) m p = _
   unfold bindL
   rw [oV fun v hv=>(List.nodup_cons.mp nd).1 (List.of_mem_zip hv).1,if_pos hk]
   simp
 | p :: P, w :: vs, i + 1, m, nd, h1, h2, hk => by
   show bindL kindOf ((p,w) :: P.zip vs) m x = _
   unfold bindL
   exact oZ (i:=i) (List.nodup_cons.mp nd).2 (by simpa using h1) (by simpa using h2) hk
theorem o4 {kindOf : Str → Option NameKind} {x : Str} {v : Value} : ∀ {P : List Str} {vs : List Value} {i : Nat} {m : Str → Option Value}, P.Nodup → P[i]? = some x → vs[i]? = some v → kindOf x ≠ some .local →
   bindC kindOf (P.zip vs) m x = some v
 | [],_,_,_,_,h,_,_=>by simp at h
 | _ :: _,[],_,_,_,_,h,_=>by simp at h
 | p :: P, w :: vs, 0, m, nd, h1, h2, hk => by
   simp at h1 h2;subst h1;subst h2
   show bindC kindOf ((p,w) :: P.zip vs) m p = _
   unfold bindC
   rw [pb fun v hv=>(List.nodup_cons.mp nd).1 (List.of_mem_zip hv).1,if_neg hk]
   simp
 | p :: P, w :: vs, i + 1, m, nd, h1, h2, hk => by
   show bindC kindOf ((p,w) :: P.zip vs) m x = _
   unfold bindC
   exact o4 (i:=i) (List.nodup_cons.mp nd).2 (by simpa using h1) (by simpa using h2) hk
def start (N:List Str) (vs:List V):St:=vs.map some ++ List.replicate (N.length - vs.length) none
def eK (CX : dO) (P : Program) (w : World) (K : PySem.W.Frag) (mg : Str → Option Value) (base : Heap) (N : List Str) (qual : Str) (scope : Scope) (f : Addr) (cd : Value) (A : Around) (outer : List Env) (s : Shared) (H : Hp) (E : XK) : Cx where
 prog:=P
 w:=w
 K:=K
 mg:=mg
 base:=base
 A:=A.deeper (envOfC qual scope s.heap.objs.size f cd)
 N:=N
 s₀:=s
 H₀:=H
 env:=envOfC qual scope s.heap.objs.size f cd
 outer:=outer
 stack:=envOfC qual scope s.heap.objs.size f cd :: outer
 ex:=[]
 calm:=true
 fn:=fun _=>true
 pn:=[]
 xe:=fun e s'=>wpAny (model P w) (A.deeper (envOfC qual scope s.heap.objs.size f cd)) (leaving (envOfC qual scope s.heap.objs.size f cd) e) (fun _ s''=>CX outer H s E e s'') (fun e' s''=>CX outer H s E e' s'') s'
theorem rn {sc : Scope} {n : Nat} {x : Str} (h : sc.names.lookup x = some .cell) : ∃ c, (cellsFrom n sc.names []).lookup x = some c := by
 have q:=PySem.W.cellsFrom_some sc.names n [] (.inl h)
 exact Option.isSome_iff_exists.mp q
theorem uY {CX : dO} {P : Program} {w : World} {K : PySem.W.Frag} {mg : Str → Option Value} {base : Heap} {N ps : List Str} {qual : Str} {scope : Scope} {f : Addr} {cd : Value} {A : Around} {outer : List Env} {s s1 : Shared} {H : Hp} {E : XK} {us : List Value} {vs : List V}
   (S:aA N ps scope) (hd:A.handled = none) (e0:lF P w K mg base A outer s H) (hl:vs.length = ps.length) (r:aK vs us)
   (x:InCallC s s.heap.objs.size (bindL (envOfC qual scope s.heap.objs.size f cd).kindOf (ps.zip us) fun _=>none) (cellsFrom (s.heap.objs.size + 1) scope.names []) (bindC (envOfC qual scope s.heap.objs.size f cd).kindOf (ps.zip us) fun _=>none) s1) :
   Inv (eK CX P w K mg base N qual scope f cd A outer s H E) [] (start N vs) H s1:=by
 have hpl:ps.length ≤ N.length:=by have:=congrArg List.length S.pre;rw [List.length_take] at this;omega
 obtain ⟨h1,tk,rfl,hk⟩:=x.done
 have noA:∀ b:Addr,b ∉ (eK CX P w K mg base N qual scope f cd A outer s H E).ex:=fun b z=>absurd (show b ∈ ([]:List Addr) from z) (by simp)
 refine ⟨⟨e0.mod, S.kind, rfl, rfl, Nat.le_refl _, fun y z c h1 h2 => ?_, fun y hy => ?_, fun y c _ h => ?_, fun _ => hd, Around.frames_deeper e0.frames, .inr ⟨rfl, rfl⟩, fun b z => absurd z (noA b), e0.bs, e0.jh, fun b _ _ => noA b, fun b z => absurd z (noA b), e0.fA, e0.lW⟩,
   rfl,e0.bare,Un.kept hk,⟨_,x.toInCall.ns,fun i y v h1 h2 h3=>?_⟩,fun y c h=>⟨_,x.cell y c h⟩,e0.ax.fresh (Nat.le_refl _),fun y c h=>?_,fun p hp=>absurd (show p ∈ ([]:List (Addr×Obj)) from hp) (by simp),e0.ax.kept hk,?_⟩
 · exact name_of_addr x.apart (PySem.mem_of_lookup h1) (PySem.mem_of_lookup h2)
 · have hy : scope.names.lookup y = some .cell ∨ scope.names.lookup y = some .free := hy
   rcases hy with hy | hy
   · exact rn hy
   · exact absurd rfl (S.CU _ (PySem.mem_of_lookup hy))
 · exact Nat.le_of_lt (x.above y c (PySem.mem_of_lookup h))
 · have hi : i < vs.length := by
     unfold start at h2
     by_cases hi:i < vs.length
     · exact hi
     · rw [List.getElem?_append_right (by simpa using hi)] at h2
       rw [List.getElem?_replicate] at h2
       split at h2 <;> cases h2
   have ha : vs[i]? = some v := by
     unfold start at h2
     rw [List.getElem?_append_left (by simpa using hi),List.getElem?_map] at h2
     cases e:vs[i]? with
     | none=>rw [e] at h2;cases h2
     | some a=>rw [e] at h2;cases h2;rfl
   obtain ⟨u,hu,rv⟩:=r.get ha
   have hp : ps[i]? = some y := by
     rw [← S.pre,List.getElem?_take_of_lt (by omega)];exact h1
   have ndP:ps.Nodup:=by rw [← S.pre];exact S.nd.sublist (List.take_sublist _ _)
   refine ⟨u,rv,?_⟩
   rcases S.par y (List.mem_of_getElem? hp) with k | k
   · exact .inl ⟨k,oZ ndP hp hu k⟩
   · obtain ⟨c, e⟩ := rn (n := s.heap.objs.size + 1) k
     refine .inr ⟨.inl k,c,e,?_⟩
     have q:=x.cell y c e
     rw [o4 ndP hp hu (by show scope.names.lookup y ≠ _;rw [k];decide)] at q
     exact q
 · exact e0.ax.fresh (Nat.le_of_lt (x.above y c (PySem.mem_of_lookup h)))
 · unfold start
   show _ = N.length
   rw [List.length_append,List.length_map,List.length_replicate]
   omega
theorem zB {CX : dO} {P : Program} {w : World} {K : PySem.W.Frag} {mg : Str → Option Value} {base : Heap} {k : Nat} {f : Addr} {name qual : Str} {params : Arguments} {body : List Stmt} {scope : Scope} {dV kV doc pm cdv ct oc : Value} {an od : Option Addr}
   {osl:Array (Option Value)} {N ps:List Str} {sp:Sp} (lk:K.lookup f = some ⟨oc,od,.func (PySem.W.fnOf name qual params body scope dV kV doc pm an cdv ct),osl⟩) (hcd:PySem.W.codeIn K cdv qual = true) (S:aA N ps scope)
   (len:∀ vs H Q E,sp vs H Q E→vs.length = ps.length)
   (hbody : ∀ (A : Around) (outer : List Env) (s : Shared) (H : Hp) (vs : List V) (Q : VK) (E : XK), bR k (A.deeper (envOfC qual scope s.heap.objs.size f cdv)) → sp vs H Q E →
     ∃ t,gu (eK CX P w K mg base N qual scope f cdv A outer s H E) body t∧t { nx:=fun _ H'=>Q .aO H',rt:=Q } (start N vs) H) :
   eO P w K mg base CX (k + 1) f (PySem.W.fnOf name qual params body scope dV kV doc pm an cdv ct) ps sp:=by
 refine ⟨len,fun A outer s H args us vs Q E hr e0 hb r hsp=>?_⟩
 have hl:=len _ _ _ _ hsp
 have KX:K.In s.heap:=e0.mod.tj.keeps fun b o e=>(e0.bs b o e).1
 have lim:s.heap.NoLimit:=e0.mod.nolimit.keeps fun b o e=>(e0.bs b o e).1
 have hkind : ∀ y ∈ ps.zip us, scope.names.lookup y.1 = some .local ∨ (scope.names.lookup y.1 = some .cell ∧ ((cellsFrom (s.heap.objs.size + 1) scope.names []).lookup y.1).isSome = true) := fun ⟨n, v⟩ hy => by
   rcases S.par n (List.of_mem_zip hy).1 with q | q
   · exact .inl q
   · exact .inr ⟨q,PySem.W.cellsFrom_some _ _ _ (.inl q)⟩
 refine codeAny_call_function hr.depth (KX _ _ lk) rfl S.co S.gen rfl (PySem.W.codeRec_of KX hcd) (hb _ _ _ _ ?_)
 refine wpAny_newFunctionEnv_cells S.kind hkind fun env he s1 x=>?_
 subst he
 refine ⟨lim.keeps x.toInCall.keep,codeAny_func ?_⟩
 obtain ⟨t,ht,hq⟩:=hbody A outer s H vs Q E (hr.deeper _) hsp
 have I:Inv (eK CX P w K mg base N qual scope f cdv A outer s H E) [] (start N vs) H s1:=uY S hr.hd e0 hl r x
 refine wpAny_mono (ht [] s1 (start N vs) H _ I hq) (fun fl s' hs=>?_) fun e s' hs=>hs
 have fin : ∀ {σ' : St} {H' : Hp} {v : V} {u : Value}, Inv (eK CX P w K mg base N qual scope f cdv A outer s H E) [] σ' H' s' → RelV v u → Q v H' → CE outer P w H s Q u s' :=
   fun {σ' H' v u} J rv q=>⟨v,H',J.os,J.bare,J.base,J.ax,rv,q⟩
 cases fl with
 | ret u =>
   obtain ⟨v,σ',H',J,rv,q⟩:=hs
   exact fin J rv q
 | next =>
   obtain ⟨σ',H',J,q⟩:=hs
   exact fin (v:=V.aO) (u:=Value.none) J rfl q
 | brk =>
   obtain ⟨_,_,_,q⟩:=hs
   exact False.elim q
 | cont =>
   obtain ⟨_,_,_,q⟩:=hs
   exact False.elim q
end L2
namespace L2
open PySem PySem.Spec PyProof.Rows
section
variable {X:Cx} {x:Str} {p pos:Pos} {e:Expr} {es:List Expr} {t:TA} {id T:String} {r:List V→Hp→VK→Prop}
def zT (r:List V→Hp→VK→Prop) (t:TA):TE:=fun σ H Q=>t σ H fun vs H1=>r vs H1 Q
theorem aU (hc : dS X (.builtin id) r) (hg : Gl X x) (hm : X.mg x = none) (hv : bootBuiltins x = some (.builtin id)) (ha : PA X (e :: es) t) (hn : x ≠ "__name__" := by decide) (hdb : (x == ("__debug__" : Str)) = false := by decide)
   (he:starEach (e :: es) X.env = (false,eval e X.env) :: starEach es X.env:=by rfl) (hpl:(backTo pos (starEach es X.env)).any (·.1) = false:=by rfl):PE X (.Call (.Name x p) (e :: es) [] pos) (zT r t):=by
 intro pins s σ H Q I h
 refine wpAny_Call_Name_kw (jE I hg hm hv ?_ hn hdb)
 exact PyProof.Rows.callWith_builtin1 (aY (ha pos pins s σ H _ I h) fun us s1 ⟨vs,H1,I1,r1,q1⟩=>hc pins s1 σ H1 vs us Q I1 r1 q1) he hpl
theorem ig (hc : dS X (.type T) r) (hg : Gl X x) (hm : X.mg x = none) (hv : bootBuiltins x = some (.type T)) (ha : PA X (e :: es) t) (hn : x ≠ "__name__" := by decide) (hdb : (x == ("__debug__" : Str)) = false := by decide)
   (he:starEach (e :: es) X.env = (false,eval e X.env) :: starEach es X.env:=by rfl) (hpl:(backTo pos (starEach es X.env)).any (·.1) = false:=by rfl):PE X (.Call (.Name x p) (e :: es) [] pos) (zT r t):=by
 intro pins s σ H Q I h
 refine wpAny_Call_Name_kw (jE I hg hm hv ?_ hn hdb)
 exact PyProof.Rows.callWith_type1 (aY (ha pos pins s σ H _ I h) fun us s1 ⟨vs,H1,I1,r1,q1⟩=>hc pins s1 σ H1 vs us Q I1 r1 q1) he hpl
end
end L2
namespace HT
open PySem PyProof.Rows
section
open PySem.SeqAt
open PySem.AutoSeq1 (wpAny_loadPart')
open PySem.MeetsSeq PySem.MeetsSeq2 PySem.MeetsSeq3
end
section
variable {prog:Program} {w:World} {A:Around} {E:Value→Shared→Prop} {s:Shared}
theorem Bm {t b : Addr} {vs ws : List Value} {Q : Value → Shared → Prop} (ht : IsTup s.heap t vs.toArray) (hb : IsTup s.heap b ws.toArray) (hv : vs ≠ [])
   (h1:ws = []→Q (.ref t) s) (h2:ws ≠ []→Q (.ref s.heap.objs.size) { s with heap:=s.heap.push { cls:=.type "tuple",data:=.seq (vs ++ ws).toArray } })
   (hsz:vs.length + ws.length ≤ sizeLine):wpAny (model prog w) A (binaryOp .Add (.ref t) (.ref b)) Q E s:=by
 obtain ⟨⟨cls,dd,data,sl⟩,ho,hc,n,hd⟩:=id ht
 obtain ⟨⟨cls2,dd2,data2,sl2⟩,ho2,hc2,n2,hd2⟩:=id hb
 simp only at hc hd hc2 hd2
 subst hc hd hc2 hd2
 have e:vs.toArray ++ ws.toArray = (vs ++ ws).toArray:=by simp
 by_cases hw:ws = []
 · exact concat_meets ⟨_, ho, rfl⟩ ⟨_, ho2, rfl⟩ noFill_tuple_add seq_tuple_add PySem.F.slot_tuple_add PySem.F.entry_tuple_add (PySem.F.args_tuple_add_2 _ _)
     (tuple_addW1 t b vs.toArray ws.toArray n n2 dd dd2 sl sl2 (by simpa using hv) (by simp [hw])) ⟨ho,ho2,h1 hw⟩
 · refine concat_meets ⟨_, ho, rfl⟩ ⟨_, ho2, rfl⟩ noFill_tuple_add seq_tuple_add PySem.F.slot_tuple_add PySem.F.entry_tuple_add (PySem.F.args_tuple_add_2 _ _)
     (tuple_addW2 t b vs.toArray ws.toArray n n2 dd dd2 sl sl2 (by simpa using hv) (by simpa using hw) (by rw [List.size_toArray,List.size_toArray];exact hsz)) ⟨ho,ho2,?_⟩
   rw [e]
   exact h2 hw
def bj (n d : Nat) : Option Int → Nat
 | none=>d
 | some v=>if v < 0 then (v + (n:Int)).toNat else min v.toNat n
theorem AX (n d k : Nat) : bj n d (some (k : Int)) = min k n := by
 show (if (k:Int) < 0 then ((k:Int) + (n:Int)).toNat else min (k:Int).toNat n) = min k n
 rw [if_neg (by omega),Int.toNat_natCast]
theorem BP (n d : Nat) (hd : d ≤ n) (o : Option Int) : bj n d o ≤ n := by
 cases o with
 | none=>exact hd
 | some v =>
   show (if v < 0 then (v + (n:Int)).toNat else min v.toNat n) ≤ n
   by_cases hv:v < 0
   · rw [if_pos hv];omega
   · rw [if_neg hv];exact Nat.min_le_right _ _
theorem tG (v : Int) (n d : Nat) : (if v < 0 then max (v + (n : Int)) 0 else min v (n : Int)) = ((bj n d (some v) : Nat) : Int) := by
 show (if v < 0 then max (v + (n:Int)) 0 else min v (n:Int)) = (((if v < 0 then (v + (n:Int)).toNat else min v.toNat n):Nat):Int)
 by_cases hv:v < 0
 · simp only [if_pos hv];omega
 · simp only [if_neg hv];omega
theorem um (lo hi : Option Int) (n : Nat) : Builtin.Slice.sliceAdjust lo hi 1 (n : Int) = (((bj n 0 lo : Nat) : Int), ((bj n n hi : Nat) : Int)) := by
 have h1 : ¬ ((1:Int) < 0):=by omega
 unfold Builtin.Slice.sliceAdjust
 simp only [h1,if_false]
 refine Prod.ext ?_ ?_
 · cases lo with
   | none=>rfl
   | some v=>exact tG v n 0
 · cases hi with
   | none=>rfl
   | some v=>exact tG v n n
theorem tY (i j : Nat) : Builtin.Slice.slicePlaces (i : Int) (j : Int) 1 = j - i := by
 unfold Builtin.Slice.slicePlaces
 have h1:(1:Int) > 0:=by omega
 simp only [h1,if_true,Int.ediv_one]
 split <;> omega
theorem mB {v : Value} {o : Option Int} {Q : Option Int → Shared → Prop} (p : IsPart v o) (h : Q o s) : wpAny (model prog w) A (Builtin.Slice.slicePartIndex v) Q E s := by
 cases p with
 | none=>exact slicePart_none h
 | int i t=>exact slicePart_int h
theorem lB {sl : Addr} {vl vu : Value} {lo hi : Option Int} {n : Nat} {Q : Int × Int × Nat → Shared → Prop} (hs : s.heap.IsSliceOf sl vl vu .none) (pl : IsPart vl lo) (pu : IsPart vu hi)
   (h:Q (((bj n 0 lo:Nat):Int),1,bj n n hi - bj n 0 lo) s):wpAny (model prog w) A (Builtin.Slice.sliceApplied (.ref sl) (pure (n:Int))) Q E s:=by
 obtain ⟨os,hos,hcs,hds⟩:=id hs
 unfold Builtin.Slice.sliceApplied Builtin.Slice.sliceFields
 refine wpAny_bind (wpAny_bind (wpAny_field hos hds (x:=vl) rfl (wpAny_bind (wpAny_field hos hds (x:=vu) rfl (wpAny_bind (wpAny_field hos hds (x:=.none) rfl (wpAny_pure ?_)))))))
 refine wpAny_bind (slicePart_none ?_)
 show wpAny _ _ (if ((1:Int) == 0) = true then _ else _) _ _ s
 rw [if_neg (by decide)]
 refine wpAny_bind (mB pl (wpAny_bind (mB pu (wpAny_bind (wpAny_pure ?_)))))
 show wpAny _ _ (match Builtin.Slice.sliceAdjust lo hi 1 (n:Int) with | (lo,hi)=>pure (lo,(1:Int),Builtin.Slice.slicePlaces lo hi 1)) _ _ s
 rw [um lo hi n]
 show wpAny _ _ (pure (((bj n 0 lo:Nat):Int),(1:Int),Builtin.Slice.slicePlaces ((bj n 0 lo:Nat):Int) ((bj n n hi:Nat):Int) 1)) _ _ s
 rw [tY]
 exact wpAny_pure h
theorem xj (xs : Array Value) (i k : Nat) : ((List.range k).filterMap fun (m : Nat) => xs[((i : Int) + (m : Int) * 1).toNat]?).toArray = ((xs.toList.drop i).take k).toArray := by
 have e : (fun (m : Nat) => xs[((i : Int) + (m : Int) * 1).toNat]?) = fun m => xs[i + m]? := by
   funext m
   have:((i:Int) + (m:Int) * 1).toNat = i + m:=by omega
   rw [this]
 rw [e]
 have:=pick_run xs i k
 rw [List.filterMap_map] at this
 have e2:((fun x=>xs[x]?) ∘ fun x=>i + x) = fun m=>xs[i + m]?:=rfl
 rw [e2] at this
 rw [this]
theorem kx {t sl : Addr} {items : Array Value} {vl vu : Value} {lo hi : Option Int} {Q : Value → Shared → Prop} (ht : IsTup s.heap t items) (hs : s.heap.IsSliceOf sl vl vu .none) (pl : IsPart vl lo) (pu : IsPart vu hi)
   (hw : ¬ (bj items.size 0 lo = 0∧bj items.size items.size hi = items.size))
   (h:Q (.ref s.heap.objs.size) { s with heap:=s.heap.push { cls:=.type "tuple",data:=.seq ((items.toList.drop (bj items.size 0 lo)).take (bj items.size items.size hi - bj items.size 0 lo)).toArray } })
   (hsz:items.size ≤ sizeLine):wpAny (model prog w) A (getItem (.ref t) (.ref sl)) Q E s:=by
 have htake : sizeOk (.seq ((items.toList.drop (bj items.size 0 lo)).take (bj items.size items.size hi - bj items.size 0 lo)).toArray) := by
   show ((items.toList.drop (bj items.size 0 lo)).take (bj items.size items.size hi - bj items.size 0 lo)).toArray.size ≤ sizeLine
   rw [List.size_toArray,List.length_take,List.length_drop,Array.length_toList]
   omega
 have hj:bj items.size items.size hi ≤ items.size:=BP _ _ (Nat.le_refl _) hi
 obtain ⟨os,hos,hcs,hds⟩:=id hs
 have hTs:s.TypeIs (.ref sl) "slice":=⟨os,hos,hcs⟩
 unfold getItem
 try with_reducible refine wpAny_holding ?_
 first | refine wpAny_bind (wpAny_pure ?_) | skip
 refine wpAny_bind (wpAny_sequenceKey ht.typeIs (by decide) ?_)
 refine wpAny_bind (wpAny_callSpecial?_slot (name := Str.ofString "__getitem__") ht.typeIs PyProof.Rows.slot_tuple_getitem
   (wpAny_call_entry PyProof.Rows.slot_tuple_getitem ht.typeIs entry_tuple_getitem ?_ (args_tuple_getitem _ _)))
 show wpAny _ _ (Builtin.Tuple.tupleItemsOf (.ref t) >>= _) _ _ s
 refine wpAny_bind (tupleItemsOf_ ht ?_)
 refine wpAny_bind (wpAny_typeOf hTs ?_)
 rw [if_pos (by decide)]
 refine wpAny_bind (lB hs pl pu ?_)
 have hno : ¬ ((((bj items.size 0 lo : Nat) : Int) == 0 && (1 : Int) == 1 && (bj items.size items.size hi - bj items.size 0 lo) == items.size) = true) := by
   intro q
   rw [Bool.and_eq_true,Bool.and_eq_true] at q
   have q1:((bj items.size 0 lo:Nat):Int) = 0:=eq_of_beq q.1.1
   have q2:bj items.size items.size hi - bj items.size 0 lo = items.size:=eq_of_beq q.2
   exact hw ⟨by omega,by omega⟩
 show wpAny _ _ (if (((bj items.size 0 lo:Nat):Int) == 0 && (1:Int) == 1 && (bj items.size items.size hi - bj items.size 0 lo) == items.size) = true then _ else _) _ _ s
 rw [if_neg hno,xj]
 first
   | exact wpAny_bind (m:=Builtin.Tuple.tupleExact _) (wpAny_newObj_type (wpAny_pure ⟨_,rfl,wpAny_pure h⟩) htake)
   | exact wpAny_bind (m:=Builtin.Tuple.tupleExact _) (wpAny_newObj_type (wpAny_bind (wpAny_pure (wpAny_pure ⟨_,rfl,wpAny_pure h⟩))) htake)
   | exact wpAny_bind (wpAny_bind (m:=Builtin.Tuple.tupleExact _) (wpAny_newObj_type (wpAny_pure (wpAny_pure ⟨_,rfl,wpAny_pure h⟩)) htake))
   | exact wpAny_bind (wpAny_bind (m:=Builtin.Tuple.tupleExact _) (wpAny_newObj_type (wpAny_pure ⟨_,rfl,wpAny_pure h⟩) htake))
end
end HT
namespace L2
open PySem PySem.Spec PyProof.Rows
abbrev TO:=St→Hp→(Option Int→Hp→Prop)→Prop
def PO (X : Cx) (e : Option Expr) (t : TO) : Prop :=
 ∀ (pins : List (Addr × Obj)) (s : Shared) (σ : St) (H : Hp) (Q : Option Int → Hp → Prop), Inv X pins σ H s → t σ H Q →
   wpAny (model X.prog X.w) X.A (evalPart e X.env) (fun u s'=>∃ o H',Inv X pins σ H' s'∧IsPart u o∧Q o H') X.xe s
def sZ:TO:=fun _ H Q=>Q none H
def Ai (t:TE):TO:=fun σ H Q=>t σ H fun x H1=>∃ i,x = .int i∧Q (some i) H1
section
variable {X:Cx} {e:Expr} {te:TE} {lo hi:Option Expr} {tl th:TO} {pos p2:Pos}
theorem gY : PO X none sZ := by
 intro pins s σ H Q I h
 rw [evalPart_none]
 exact wpAny_pure ⟨none,H,I,.none,h⟩
theorem fM (h : PE X e te) : PO X (some e) (Ai te) := by
 intro pins s σ H Q I hw
 rw [evalPart_some]
 refine aY (h pins s σ H _ I hw) fun u s1 ⟨x,H1,I1,r1,q1⟩=>?_
 obtain ⟨i,rfl,q⟩:=q1
 obtain ⟨t,rfl⟩:=r1
 exact ⟨some i,H1,I1,.int i t,q⟩
def kP (X : Cx) (r : V → Option Int → Option Int → Hp → VK → Prop) : Prop :=
 ∀ (pins : List (Addr × Obj)) (s : Shared) (σ : St) (H : Hp) (x : V) (v vl vu : Value) (lo hi : Option Int) (sl : Addr) (Q : VK), Inv X pins σ H s → RelV x v → s.heap.IsSliceOf sl vl vu .none → IsPart vl lo → IsPart vu hi → r x lo hi H Q →
   ∃ T id,typeLookup (.type T) "__getitem__" = pure (some (.builtin id))∧s.TypeIs v T∧wpAny (model X.prog X.w) X.A (getItem v (.ref sl)) (EP X pins σ Q) X.xe s
theorem kP.or {r r' : V → Option Int → Option Int → Hp → VK → Prop} (h : kP X r) (h' : kP X r') : kP X (fun x lo hi H Q => r x lo hi H Q ∨ r' x lo hi H Q) := by
 intro pins s σ H x v vl vu lo hi sl Q I rx hs pl pu q
 rcases q with q | q
 · exact h pins s σ H x v vl vu lo hi sl Q I rx hs pl pu q
 · exact h' pins s σ H x v vl vu lo hi sl Q I rx hs pl pu q
def Lm (r:V→Option Int→Option Int→Hp→VK→Prop) (te:TE) (tl th:TO):TE:=fun σ H Q=>te σ H fun x H1=>tl σ H1 fun l H2=>th σ H2 fun u H3=>r x l u H3 Q
theorem fv {r : V → Option Int → Option Int → Hp → VK → Prop} (hr : kP X r) (he : PE X e te) (hl : PO X lo tl) (hu : PO X hi th) : PE X (.Subscript e (.Slice lo hi none p2) pos) (Lm r te tl th) := by
 intro pins s σ H Q I h
 refine Subscript_ (aY (he pins s σ H _ I h) fun v s1 ⟨x,H1,I1,r1,q1⟩=>?_)
 refine wpAny_Slice (aY (hl pins s1 σ H1 _ I1 q1) fun vl s2 ⟨l,H2,I2,pl,q2⟩=>aY (hu pins s2 σ H2 _ I2 q2) fun vu s3 ⟨u,H3,I3,pu,q3⟩=>?_)
 rw [evalPart_none]
 refine wpAny_pure ?_
 have I4:Inv X pins σ H3 { s3 with heap:=s3.heap.push { cls:=.type "slice",data:=.fields #[vl,vu,.none] } }:=I3.kept (t':=s3.toks) fun b ob q=>Heap.get?_push_of_some _ q
 obtain ⟨T,id,hT,ht,hg⟩:=hr pins { s3 with heap:=s3.heap.push { cls:=.type "slice",data:=.fields #[vl,vu,.none] } } σ H3 x v vl vu l u s3.heap.objs.size Q I4 r1 (Heap.IsSliceOf.new ..) pl pu q3
 show wpAny (model X.prog X.w) X.A (subscriptTail e (.Slice lo hi none p2) v (.ref s3.heap.objs.size)) (EP X pins σ Q) X.xe { s3 with heap:=s3.heap.push { cls:=.type "slice",data:=.fields #[vl,vu,.none] } }
 exact tail_any (ops:=[.ref s3.heap.objs.size,v]) ht hT hg (by with_unfolding_all rfl)
def gB (xs:List V) (lo hi:Option Int):List V:=(xs.drop (HT.bj xs.length 0 lo)).take (HT.bj xs.length xs.length hi - HT.bj xs.length 0 lo)
theorem kU (xs : List V) (lo hi : Option Int) : (gB xs lo hi).length ≤ xs.length := by
 unfold gB
 rw [List.length_take,List.length_drop]
 omega
def C3 (K : PySem.W.Frag) : V → Option Int → Option Int → Hp → VK → Prop := fun x lo hi H Q => ∃ a xs, x = .ref a ∧ cw K H a xs ∧
 ¬ (HT.bj xs.length 0 lo = 0∧HT.bj xs.length xs.length hi = xs.length)∧∀ p,H p = none→Q (.ref p) (upd H p (.tup (gB xs lo hi)))
theorem Dv : kP X (C3 X.K) := by
 intro pins s σ H x v vl vu lo hi sl Q I rx hs pl pu h
 obtain ⟨a,xs,rfl,hx,hw,q⟩:=h
 cases rx
 obtain ⟨its,r,ht,hz⟩:=I.tuple hx
 have hlen:its.toArray.size = xs.length:=by rw [List.size_toArray];exact r.length.symm
 refine ⟨"tuple",_,PyProof.Rows.slot_tuple_getitem.lookup,ht.typeIs,?_⟩
 refine HT.kx ht hs pl pu (by rw [hlen];exact hw) ?_ (by rw [hlen];exact hz)
 rw [hlen]
 refine ⟨.ref s.heap.objs.size,_,I.laid (t':=s.toks) (o:=.tup (gB xs lo hi)) (fun b ob q=>Heap.get?_push_of_some _ q) (Nat.le_refl _) ?_,rfl,q _ (I.ax.fresh (Nat.le_refl _))⟩
 exact ⟨Nat.le_trans (kU xs lo hi) hz,_,(r.drop (HT.bj xs.length 0 lo)).take (HT.bj xs.length xs.length hi - HT.bj xs.length 0 lo),IsTup.new _ _⟩
def xK (K : PySem.W.Frag) : R2 := fun x y H Q => ∃ a b xs ys, x = .ref a ∧ y = .ref b ∧ cw K H a xs ∧ cw K H b ys ∧ xs ≠ [] ∧ xs.length + ys.length ≤ sizeLine ∧
 (ys = []→Q (.ref a) H)∧(ys ≠ []→∀ p,H p = none→Q (.ref p) (upd H p (.tup (xs ++ ys))))
theorem aK.mV {xs : List V} {us : List Value} (r : aK xs us) : us = [] ↔ xs = [] := by
 cases r with
 | nil=>simp
 | cons _ _=>simp
theorem A8 : b7 X (binaryOp .Add) (xK X.K) := by
 intro pins s σ H x y v u Q I rx ry h
 obtain ⟨a,b,xs,ys,rfl,rfl,ha,hb,hx,hz,q1,q2⟩:=h
 cases rx
 cases ry
 obtain ⟨its,r1,p1,_⟩:=I.tuple ha
 obtain ⟨its2,r2,p2,_⟩:=I.tuple hb
 refine HT.Bm p1 p2 (fun z=>hx (r1.mV.mp z)) (fun z=>⟨.ref a,H,I,rfl,q1 (r2.mV.mp z)⟩) (fun z=>?_) (by rw [← r1.length,← r2.length];exact hz)
 refine ⟨.ref s.heap.objs.size,_,I.laid (t':=s.toks) (o:=.tup (xs ++ ys)) (fun b ob q=>Heap.get?_push_of_some _ q) (Nat.le_refl _) ?_,rfl,q2 (fun w=>z (r2.mV.mpr w)) _ (I.ax.fresh (Nat.le_refl _))⟩
 exact ⟨by rw [List.length_append];exact hz,_,r1.append r2,IsTup.new _ _⟩
end
end L2
namespace L2
open PySem PySem.Spec PyProof.Rows
def sU (n:Nat) (i:Int):Option Nat:=if 0 ≤ i then (if i < n then some i.toNat else none) else if -(n:Int) ≤ i then some (i + n).toNat else none
def g9 {α : Type} (xs:List α) (i:Int):Option α:=(sU xs.length i).bind fun j=>xs[j]?
theorem BD {n : Nat} {i : Int} {j : Nat} (h : sU n i = some j) : seqIndex? i n = some j ∧ j < n ∧ -(n : Int) ≤ i ∧ i < n := by
 unfold sU at h
 by_cases h0 : 0 ≤ i
 · rw [if_pos h0] at h
   by_cases h1:i < n
   · rw [if_pos h1] at h
     have e:i.toNat = j:=Option.some.inj h
     exact ⟨by rw [seqIndex_of h0 h1,e],by omega,by omega,h1⟩
   · rw [if_neg h1] at h;cases h
 · rw [if_neg h0] at h
   by_cases h1 : -(n:Int) ≤ i
   · rw [if_pos h1] at h
     have e:(i + n).toNat = j:=Option.some.inj h
     exact ⟨by rw [seqIndex_neg (by omega) h1,e],by omega,h1,by omega⟩
   · rw [if_neg h1] at h;cases h
theorem nX {α : Type} {xs : List α} {i : Int} {v : α} (h : g9 xs i = some v) : ∃ j, seqIndex? i xs.length = some j ∧ xs[j]? = some v ∧ j < xs.length ∧ -(xs.length : Int) ≤ i ∧ i < xs.length := by
 unfold g9 at h
 cases e:sU xs.length i with
 | none=>rw [e] at h;cases h
 | some j =>
   rw [e] at h
   obtain ⟨h1,h2,h3,h4⟩:=BD e
   exact ⟨j,h1,h,h2,h3,h4⟩
theorem ek {α : Type} {xs : List α} {j : Nat} {v : α} (h : xs[j]? = some v) : g9 xs (j : Int) = some v := by
 have hj:j < xs.length:=(List.getElem?_eq_some_iff.mp h).1
 have e : sU xs.length (j : Int) = some j := by
   unfold sU
   rw [if_pos (by omega),if_pos (by omega)];simp
 unfold g9;rw [e];exact h
def Bo (b:Expr):Prop:=∀ o i,subscripted b false o i = operate [o,i] (getItem o i)
def ji (X : Cx) (r : R2) : Prop :=
 ∀ (value slice : Expr) (pins : List (Addr × Obj)) (s : Shared) (σ : St) (H : Hp) (x y : V) (v u : Value) (Q : VK), Inv X pins σ H s → RelV x v → RelV y u → r x y H Q →
   subscripted slice false v u = operate [v,u] (getItem v u)→wpAny (model X.prog X.w) X.A (subscriptTail value slice v u) (EP X pins σ Q) X.xe s
def vV (X : Cx) (id : String) (r : V → List V → Hp → VK → Prop) : Prop :=
 ∀ (pins : List (Addr × Obj)) (s : Shared) (σ : St) (H : Hp) (x : V) (xs : List V) (v : Value) (us : List Value) (Q : VK), Inv X pins σ H s → RelV x v → aK xs us → r x xs H Q →
   wpAny (model X.prog X.w) X.A (call (.builtin id) (v :: us)) (EP X pins σ Q) X.xe s
section
variable {X:Cx} {a b:Expr} {ta tb:TE} {pos:Pos}
theorem ji.or {r r' : R2} (h : ji X r) (h' : ji X r') : ji X (fun x y H Q => r x y H Q ∨ r' x y H Q) := by
 intro value slice pins s σ H x y v u Q I rx ry q hs
 rcases q with q | q
 · exact h value slice pins s σ H x y v u Q I rx ry q hs
 · exact h' value slice pins s σ H x y v u Q I rx ry q hs
theorem cg {r : R2} (hr : ji X r) (ha : PE X a ta) (hb : PE X b tb) (hs : Bo b) : PE X (.Subscript a b pos) (cv r ta tb) := by
 intro pins s σ H Q I h
 exact Subscript_ (xr ha hb I h fun v u s2 x y H2 I2 rx ry q=>hr a b pins s2 σ H2 x y v u Q I2 rx ry q (hs _ _))
def Ee (K:PySem.W.Frag):R2:=fun x y H Q=>∃ p xs i v,x = .ref p∧y = .int i∧aH K H p xs∧g9 xs i = some v∧Q v H
def D3 (K:PySem.W.Frag):R2:=fun x y H Q=>∃ p xs i v,x = .ref p∧y = .int i∧cw K H p xs∧g9 xs i = some v∧Q v H
def C7:R2:=fun x y H Q=>∃ z i c,x = .str z∧y = .int i∧z.length ≤ sizeLine∧g9 z.cps.toList i = some c∧Q (.str ⟨#[c]⟩) H
theorem AV : ji X (Ee X.K) := by
 intro value slice pins s σ H x y v u Q I rx ry h hs
 obtain ⟨p,xs,i,z,rfl,rfl,hq,he,q⟩:=h
 cases rx
 obtain ⟨t,rfl⟩:=ry
 obtain ⟨its,r,pl,hz⟩:=I.list hq
 obtain ⟨j,h1,h2,h3,h4,h5⟩:=nX he
 obtain ⟨w,ew,rw'⟩:=r.get h2
 have hl:=r.length
 have hn:=jX
 have fin:EP X pins σ Q w s:=⟨z,H,I,rw',q⟩
 by_cases h0 : 0 ≤ i
 · have hj : i.toNat = j := by
     rw [seqIndex_of h0 h5] at h1
     exact Option.some.inj h1
   exact item_listR pl.isList h0 (by omega) (by rw [hj];simpa using ew) fin hs
 · have hj : (i + (its.toArray.size : Int)).toNat = j := by
     rw [seqIndex_neg (by omega) h4] at h1
     rw [List.size_toArray,← hl]
     exact Option.some.inj h1
   exact subscriptTail_builtinR (x := w) pl.isList.typeIs slot_list_getitem.lookup
     (wpAny_getItem_list_neg (Q:=fun r s'=>r = w∧EP X pins σ Q r s') pl.isList (by omega) (by rw [List.size_toArray] <;> omega) (by omega) (by rw [hj];simpa using ew) ⟨rfl,fin⟩) hs
theorem Cq : ji X (D3 X.K) := by
 intro value slice pins s σ H x y v u Q I rx ry h hs
 obtain ⟨p,xs,i,z,rfl,rfl,hq,he,q⟩:=h
 cases rx
 obtain ⟨t,rfl⟩:=ry
 obtain ⟨its,r,pl,hz⟩:=I.tuple hq
 obtain ⟨j,h1,h2,h3,h4,h5⟩:=nX he
 obtain ⟨w,ew,rw'⟩:=r.get h2
 have hl:=r.length
 have hn:=jX
 have fin:EP X pins σ Q w s:=⟨z,H,I,rw',q⟩
 exact subscriptTail_builtinR (x := w) pl.typeIs slot_tuple_getitem.lookup
   (getItem_tuple (j:=j) (Q:=fun r s'=>r = w∧EP X pins σ Q r s') pl (by omega) (by omega) (by rw [List.size_toArray,← hl];exact h1) (by simpa using ew) ⟨rfl,fin⟩) hs
theorem DT : ji X C7 := by
 intro value slice pins s σ H x y v u Q I rx ry h hs
 obtain ⟨z,i,c,rfl,rfl,hz,he,q⟩:=h
 obtain ⟨t,rfl⟩:=rx
 obtain ⟨t',rfl⟩:=ry
 obtain ⟨j,h1,h2,h3,h4,h5⟩:=nX he
 have hl:z.cps.toList.length = z.length:=by simp [Str.length]
 rw [hl] at h1 h4 h5
 have hn:=jX
 exact tail_any (typeIs_str s z t) slot_str_getitem.lookup (getItem_str (c := c) (by
   have e1:decide (i < -(2 ^ 63:Int)) = false:=decide_eq_false (by omega)
   have e2:decide (i ≥ 2 ^ 63) = false:=decide_eq_false (by omega)
   rw [e1,e2,Bool.or_false]) (by rw [h1];simpa using h2) ⟨.str ⟨#[c]⟩,H,I.tok _,⟨_,rfl⟩,q⟩) hs
def Ls (K:PySem.W.Frag):R2:=fun x y H Q=>Ee K x y H Q∨D3 K x y H Q∨C7 x y H Q
theorem Cs:ji X (Ls X.K):=AV.or (Cq.or DT)
theorem qj (lo hi : Option Int) (n : Nat) : (sliceBounds lo hi none n).1 = ((HT.bj n 0 lo : Nat) : Int) ∧ (sliceBounds lo hi none n).2.1 = ((HT.bj n n hi : Nat) : Int) ∧ (sliceBounds lo hi none n).2.2 = 1 := by
 refine ⟨?_,?_,rfl⟩
 · cases lo with
   | none=>simp [sliceBounds,HT.bj]
   | some i =>
     simp only [sliceBounds,HT.bj,Option.getD_none,show (1:Int) > 0 by decide,if_true]
     by_cases h:i < 0
     · simp only [h,if_true] <;> omega
     · simp only [h,if_false] <;> omega
 · cases hi with
   | none=>simp [sliceBounds,HT.bj]
   | some i =>
     simp only [sliceBounds,HT.bj,Option.getD_none,show (1:Int) > 0 by decide,if_true]
     by_cases h:i < 0
     · simp only [h,if_true] <;> omega
     · simp only [h,if_false] <;> omega
theorem pk (its : List Value) (lo hi : Option Int) : slicePick its.toArray lo hi none = ((its.drop (HT.bj its.length 0 lo)).take (HT.bj its.length its.length hi - HT.bj its.length 0 lo)).toArray := by
 obtain ⟨h1,h2,h3⟩:=qj lo hi its.toArray.size
 unfold slicePick
 rw [h1,h2,h3]
 simp only [sliceRange_one,pick_run,List.size_toArray] <;> rfl
def DI (K:PySem.W.Frag):V→Option Int→Option Int→Hp→VK→Prop:=fun x lo hi H Q=>∃ a xs,x = .ref a∧aH K H a xs∧∀ p,H p = none→Q (.ref p) (upd H p (.lst (gB xs lo hi)))
theorem BE : kP X (DI X.K) := by
 intro pins s σ H x v vl vu lo hi sl Q I rx hs pl pu h
 obtain ⟨a,xs,rfl,hx,q⟩:=h
 cases rx
 obtain ⟨its,r,ht,hz⟩:=I.list hx
 have hlen:=r.length
 refine ⟨"list",_,slot_list_getitem.lookup,ht.isList.typeIs,?_⟩
 refine wpAny_getItem_list_slice ht.isList hs pl pu .none (by simp) ?_ (by rw [List.size_toArray] <;> omega)
 rw [pk,← hlen]
 refine ⟨.ref s.heap.objs.size,_,I.laid (t':=s.toks) (o:=.lst (gB xs lo hi)) (fun b ob q=>Heap.get?_push_of_some _ q) (Nat.le_refl _) ?_,rfl,q _ (I.ax.fresh (Nat.le_refl _))⟩
 exact ⟨Nat.le_trans (kU xs lo hi) hz,_,0,(r.drop (HT.bj xs.length 0 lo)).take (HT.bj xs.length xs.length hi - HT.bj xs.length 0 lo),Heap.get?_push_size _ rfl⟩
def ft : V → Bool
 | .aO=>true
 | .bl _=>true
 | .int _=>true
 | .str _=>true
 | _=>false
def oK : V → V → Bool
 | .aO,.aO=>true
 | .bl a,.bl b=>a == b
 | .bl a,.int b=>(if a then 1 else 0) == b
 | .int a,.bl b=>a == (if b then 1 else 0)
 | .int a,.int b=>a == b
 | .str a,.str b=>a == b
 | _,_=>false
theorem Dq {A : Around} {s : Shared} {y x : V} {u v : Value} (ry : RelV y u) (rx : RelV x v) (fy : ft y = true) (fx : ft x = true) : SeqAt.EqAt A s u v (oK y x) := by
 cases y with
 | aO =>
   cases ry
   cases x with
   | aO=>cases rx;exact SeqAt.EqAt.same _
   | bl b=>cases rx;exact SeqAt.EqAt.none_bool b
   | int b=>obtain ⟨t,rfl⟩:=rx;exact SeqAt.EqAt.none_int b t
   | str b=>obtain ⟨t,rfl⟩:=rx;exact SeqAt.EqAt.none_str b t
   | _=>exact absurd (show false = true from fx) Bool.false_ne_true
 | bl a =>
   cases ry
   cases x with
   | aO=>cases rx;exact SeqAt.EqAt.bool_none a
   | bl b=>cases rx;exact SeqAt.EqAt.bool_bool a b
   | int b=>obtain ⟨t,rfl⟩:=rx;exact SeqAt.EqAt.bool_int a b t
   | str b=>obtain ⟨t,rfl⟩:=rx;exact SeqAt.EqAt.bool_str a b t
   | _=>exact absurd (show false = true from fx) Bool.false_ne_true
 | int a =>
   obtain ⟨t',rfl⟩:=ry
   cases x with
   | aO=>cases rx;exact SeqAt.EqAt.int_none a t'
   | bl b=>cases rx;exact SeqAt.EqAt.int_bool a t' b
   | int b=>obtain ⟨t,rfl⟩:=rx;exact SeqAt.EqAt.int_int a t' b t
   | str b=>obtain ⟨t,rfl⟩:=rx;exact SeqAt.EqAt.int_str a t' b t
   | _=>exact absurd (show false = true from fx) Bool.false_ne_true
 | str a =>
   obtain ⟨t',rfl⟩:=ry
   cases x with
   | aO=>cases rx;exact SeqAt.EqAt.str_none a t'
   | bl b=>cases rx;exact SeqAt.EqAt.str_bool a t' b
   | int b=>obtain ⟨t,rfl⟩:=rx;exact SeqAt.EqAt.str_int a t' b t
   | str b=>obtain ⟨t,rfl⟩:=rx;exact SeqAt.EqAt.str_str a t' b t
   | _=>exact absurd (show false = true from fx) Bool.false_ne_true
 | _=>exact absurd (show false = true from fy) Bool.false_ne_true
def mf (x : V) (u : Value) : Bool := match u with
 | .none=>oK .aO x
 | .bool b=>oK (.bl b) x
 | .int i _=>oK (.int i) x
 | .str z _=>oK (.str z) x
 | _=>false
theorem vt {x y : V} {u : Value} (r : RelV y u) (f : ft y = true) : mf x u = oK y x := by
 cases y with
 | aO=>cases r;rfl
 | bl b=>cases r;rfl
 | int i=>obtain ⟨t,rfl⟩:=r;rfl
 | str z=>obtain ⟨t,rfl⟩:=r;rfl
 | _=>exact absurd (show false = true from f) Bool.false_ne_true
theorem nE {x : V} : ∀ {xs : List V} {us : List Value}, aK xs us → xs.all ft = true → us.any (mf x) = xs.any fun y => oK y x
 | _,_,.nil,_=>rfl
 | y :: xs, u :: us, .cons r t, f => by
   rw [List.all_cons,Bool.and_eq_true] at f
   rw [List.any_cons,List.any_cons,vt r f.1,nE t f.2]
theorem lO {A : Around} {s : Shared} {x : V} {v : Value} (rx : RelV x v) (fx : ft x = true) : ∀ {xs : List V} {us : List Value}, aK xs us → xs.all ft = true → ∀ u ∈ us, SeqAt.EqAt A s u v (mf x u)
 | _,_,.nil,_=>fun u hu=>by cases hu
 | y :: xs, u :: us, .cons r t, f => fun u' hu => by
   rw [List.all_cons,Bool.and_eq_true] at f
   rcases List.mem_cons.mp hu with rfl | hu
   · rw [vt r f.1];exact Dq r rx f.1 fx
   · exact lO rx fx t f.2 u' hu
def qN (x:V) (xs:List V):Bool:=xs.any fun y=>oK y x
def BY (K:PySem.W.Frag) (neg:Bool):R2:=fun x y H Q=>∃ p xs,y = .ref p∧(aH K H p xs∨cw K H p xs)∧ft x = true∧xs.all ft = true∧Q (.bl (if neg then !qN x xs else qN x xs)) H
theorem uQ : b7 X (compareOp .In) (BY X.K false) := by
 intro pins s σ H x y v u Q I rx ry h
 obtain ⟨p,xs,rfl,hq,fx,fs,q⟩:=h
 cases ry
 rcases hq with hq | hq
 · obtain ⟨its, r, pl, hz⟩ := I.list hq
   refine SeqAt.in_listAt (mf x) pl.isList (fun w hw=>lO rx fx r fs w (by simpa using hw)) ⟨.bl _,H,I,rfl,?_⟩
   rw [show its.toArray.any (mf x) = its.any (mf x) by simp,nE r fs]
   exact q
 · obtain ⟨its, r, pl, hz⟩ := I.tuple hq
   refine SeqAt.in_tupleAt (mf x) pl (fun w hw=>lO rx fx r fs w (by simpa using hw)) ⟨.bl _,H,I,rfl,?_⟩
   rw [show its.toArray.any (mf x) = its.any (mf x) by simp,nE r fs]
   exact q
theorem pz : dS X (.type "tuple") (fun xs H Q => ∃ p ys, xs = [.ref p] ∧ ((aH X.K H p ys ∧ ∀ l, H l = none → Q (.ref l) (upd H l (.tup ys))) ∨ (cw X.K H p ys ∧ Q (.ref p) H))) := by
 intro pins s σ H xs us Q I r h
 obtain ⟨p,ys,rfl,h⟩:=h
 obtain ⟨u,rfl,rx⟩:=vals1 r
 cases rx
 rcases h with ⟨hq,q⟩ | ⟨hq,q⟩
 · obtain ⟨its, r', pl, hz⟩ := I.list hq
   have hlen:=r'.length
   refine call_tuple_list pl.isList (fun h' kp=>?_) (by simp only [List.size_toArray] <;> omega)
   have I1:Inv X pins σ H { s with heap:=h' }:=I.kept (t':=s.toks) kp
   have I2 : Inv X pins σ (upd H h'.objs.size (.tup ys)) { s with heap := h'.push { cls := .type "tuple", data := .seq its.toArray } } :=
     I1.laid (t':=s.toks) (fun b o e=>Heap.get?_push_of_some _ e) (Nat.le_refl _) (show bH X.prog X.w _ _ _ (.tup ys) from ⟨hz,its,r',IsTup.new _ _⟩)
   exact ⟨.ref h'.objs.size,_,I2,rfl,q _ (I1.ax.fresh (Nat.le_refl _))⟩
 · obtain ⟨its, r', pl, hz⟩ := I.tuple hq
   exact call_tuple_same pl ⟨.ref p,H,I,rfl,q⟩
def ro (K : PySem.W.Frag) (T : String) (x : V) (H : Hp) : Prop := match x with
 | .str _=>T = "str"
 | .int _=>T = "int"
 | .ref p => (T = "list" ∧ ∃ xs, aH K H p xs) ∨ (T = "tuple" ∧ ∃ o, K.lookup p = some o ∧ o.cls = .type "tuple" ∧ o.dict = none) ∨
     (T = "dict"∧((∃ kvs,H p = some (.dK kvs))∨∃ kvs,H p = some (.dT kvs)))∨(T = "set"∧∃ S n,H p = some (.set S n))
 | _=>False
theorem Dg {pins : List (Addr × Obj)} {σ : St} {H : Hp} {s : Shared} {T : String} {x : V} {v : Value} (I : Inv X pins σ H s) (r : RelV x v) (ty : ro X.K T x H) :
   s.TypeIs v T∧∀ a,v = .ref a→∃ ob,s.heap.get? a = some ob∧ob.dict = none:=by
 cases x with
 | str z =>
   obtain ⟨t,rfl⟩:=r
   cases (show T = "str" from ty)
   exact ⟨typeIs_str s z t,fun _ e=>nomatch e⟩
 | int i =>
   obtain ⟨t,rfl⟩:=r
   cases (show T = "int" from ty)
   exact ⟨typeIs_int s i t,fun _ e=>nomatch e⟩
 | ref p =>
   cases r
   rcases ty with ⟨rfl,xs,hq⟩ | ⟨rfl,o,hk,hc,hd⟩ | ⟨rfl,hk⟩ | ⟨rfl,S,n,hk⟩
   · obtain ⟨its, _, pl, _⟩ := I.list hq
     refine ⟨pl.isList.typeIs,fun a e=>?_⟩
     cases e
     obtain ⟨o,n,e,c,hd,_⟩:=pl
     exact ⟨o,e,hd⟩
   · refine ⟨⟨o, I.cP p o hk, hc⟩, fun a e => ?_⟩
     cases e
     exact ⟨o,I.cP _ o hk,hd⟩
   · have z : ∃ o, s.heap.get? p = some o ∧ o.ExactDict := by
       rcases hk with ⟨kvs,hk⟩ | ⟨kvs,hk⟩
       · obtain ⟨_, _, _, _, o, _, _, e, ex, _⟩ := I.ax p _ hk
         exact ⟨o,e,ex⟩
       · obtain ⟨_, _, _, _, o, _, _, e, ex, _⟩ := I.ax p _ hk
         exact ⟨o,e,ex⟩
     obtain ⟨o,e,ex⟩:=z
     refine ⟨⟨o,e,ex.1⟩,fun a e2=>?_⟩
     cases e2
     exact ⟨o,e,ex.2.1⟩
   · obtain ⟨o, _, _, _, e, ex, _⟩ := I.ax p _ hk
     refine ⟨⟨o,e,ex.1⟩,fun a e2=>?_⟩
     cases e2
     exact ⟨o,e,ex.2.1⟩
 | _=>exact False.elim ty
def we (K:PySem.W.Frag) (T:String) (r:V→List V→Hp→VK→Prop) (to:TE) (t:TA):TE:=fun σ H Q=>to σ H fun x H1=>ro K T x H1∧t σ H1 fun xs H2=>r x xs H2 Q
variable {o e:Expr} {es:List Expr} {to:TE} {t:TA} {name:Str} {apos cpos:Pos} {T id:String} {r:V→List V→Hp→VK→Prop}
theorem Fi (pa : PlainAttrs T) (slot : Slot T name id) (hty : typeOf (.builtin id) = pure (.type "method_descriptor")) (hm : vV X id r) (ho : PE X o to) (ha : PA X (e :: es) t)
   (hbase:attributeBase o name X.env (eval o X.env) = eval o X.env:=by rfl)
   (hfew : ((backTo cpos (starEach (e :: es) X.env)).all (fun x => !x.1) && (backToKw cpos (keywordEach [] X.env)).all (fun x => x.1.isSome)
     && decide ((e :: es).length + ([]:List Keyword).length + (if ([]:List Keyword).isEmpty then 0 else 1) < 30)) = true:=by rfl)
   (hline:(apos.endLine == cpos.line) = true:=by rfl) (hs:starEach (e :: es) X.env = (false,eval e X.env) :: starEach es X.env:=by rfl) (hplain:(backTo cpos (starEach es X.env)).any (·.1) = false:=by rfl) :
   PE X (.Call (.Attribute o name apos) (e :: es) [] cpos) (we X.K T r to t):=by
 intro pins s σ H Q I h
 refine wpAny_Call_method_late hbase hfew hline rfl (aY (ho pins s σ H _ I h) fun v s1 ⟨x,H1,I1,r1,ty,q1⟩=>?_)
 obtain ⟨h1,h2⟩:=Dg I1 r1 ty
 refine ⟨T,id,pa,slot,hty,h1,h2,?_⟩
 have hA:=ha cpos pins s1 σ H1 _ I1 q1
 rw [hs] at hA ⊢
 refine Calls.callWith_builtin (by show (false || (backTo cpos (starEach es X.env)).any (·.1)) = false;rw [hplain] <;> rfl) (Calls.evalArgs_plain ?_)
 exact aY hA fun us s2 ⟨vs,H2,I2,r2,q2⟩=>hm pins s2 σ H2 x vs v us Q I2 r1 r2 q2
end
end L2
namespace L2
open PySem PySem.Spec PyProof.Rows
def NI (X : Cx) (id : String) (r : V → List V → Hp → VK → Prop) : Prop :=
 ∀ (pins : List (Addr × Obj)) (s : Shared) (σ : St) (H : Hp) (x : V) (xs : List V) (v : Value) (us : List Value) (Q : VK), Inv X pins σ H s → RelV x v → aK xs us → r x xs H Q →
   wpAny (model X.prog X.w) X.A (call (.builtin id) (v :: us)) (EP X pins σ Q) X.xe s
theorem aK.one : ∀ {x : V} {us : List Value}, aK [x] us → ∃ u, us = [u] ∧ RelV x u
 | _,_,.cons r .nil=>⟨_,rfl,r⟩
theorem aK.rep {xs : List V} {us : List Value} (h : aK xs us) : ∀ k : Nat, aK (List.replicate k xs).flatten (List.replicate k us).flatten
 | 0=>.nil
 | k + 1 => by
   rw [List.replicate_succ,List.replicate_succ,List.flatten_cons,List.flatten_cons]
   exact aK.append h (aK.rep h k)
theorem foldl_rep (its : List Value) : ∀ (k : Nat) (acc : List Value),
   List.foldl (fun x1 x2=>x1 ++ x2) acc.toArray (List.replicate k its.toArray) = (acc ++ (List.replicate k its).flatten).toArray
 | 0,acc=>by simp
 | k + 1, acc => by
   have e:acc.toArray ++ its.toArray = (acc ++ its).toArray:=by simp
   have e2 : (acc ++ its) ++ (List.replicate k its).flatten = acc ++ (List.replicate (k + 1) its).flatten := by
     rw [List.replicate_succ,List.flatten_cons,List.append_assoc]
   rw [← e2,← foldl_rep its k (acc ++ its),← e,List.replicate_succ,List.foldl_cons]
section
variable {X:Cx} {pins:List (Addr×Obj)} {σ : St} {H:Hp} {s:Shared} {l b:Addr} {xs ys zs:List V}
theorem Inv.Mx {its its' : List Value} {n : Nat} {f : Array Value → Array Value} {t' : Nat} (I : Inv X pins σ H s) (hH : H l = some (.lst xs))
   (e:s.heap.get? l = some { cls:=.type "list",data:=.seq its.toArray n }) (hf:f its.toArray = its'.toArray) (hv:aK ys its') (hz:ys.length ≤ sizeLine) :
   Inv X pins σ (upd H l (.lst ys)) { s with heap:=s.heap.update l (Obj.mapSeq f),toks:=t' }:=by
 have q:=PySem.IsL.update e f
 rw [hf] at q
 refine I.write (x:=l) (e:=l) (by rw [hH];exact trivial) (.inl rfl) (fun b' u hb hu=>(Heap.get?_update_other s.heap (Obj.mapSeq f) (Ne.symm hb)).trans hu) ⟨_,q⟩ ?_
 exact ⟨hz,its',_,hv,q⟩
theorem Inv.DF {its : List Value} {t' : Nat} (I : Inv X pins σ H s) (hv : aK ys its) (hz : ys.length ≤ sizeLine) :
   Inv X pins σ (upd H s.heap.objs.size (.lst ys)) { s with heap:=s.heap.push { cls:=.type "list",data:=.seq its.toArray },toks:=t' } :=
 I.laid (fun _ _ q=>Heap.get?_push_of_some _ q) (Nat.le_refl _) ⟨hz,its,0,hv,Heap.get?_push_size _ rfl⟩
theorem Inv.fresh (I:Inv X pins σ H s):H s.heap.objs.size = none:=I.ax.fresh (Nat.le_refl _)
theorem Inv.tP (I : Inv X pins σ H s) (hH : H l = some (.lst xs)) : xs.length ≤ sizeLine ∧ ∃ (its : List Value) (n : Nat), aK xs its ∧ xs.length = its.length ∧ s.heap.get? l = some { cls := .type "list", data := .seq its.toArray n } := by
 obtain ⟨z,its,n,r,e⟩:=I.ax l _ hH
 exact ⟨z,its,n,r,r.length,e⟩
theorem wX {n : Nat} (h : n ≤ sizeLine) : Builtin.List.listTooLong n = false := by
 unfold Builtin.List.listTooLong
 exact decide_eq_false (by omega)
end
section
variable {X:Cx}
def ng:V→List V→Hp→VK→Prop:=fun x vs H Q=>∃ l xs y,x = .ref l∧vs = [y]∧H l = some (.lst xs)∧xs.length < sizeLine∧Q .aO (upd H l (.lst (xs ++ [y])))
theorem uG : NI X "list.append" ng := by
 intro pins s σ H x vs v us Q I rx rv h
 obtain ⟨l,xs,y,rfl,rfl,hH,hz,q⟩:=h
 cases rx
 obtain ⟨u,rfl,ru⟩:=rv.one
 obtain ⟨z,its,n,r,hl,e⟩:=I.tP hH
 refine call_meets F.slot_list_append ⟨_,e,rfl⟩ F.entry_list_append (F.args_list_append_2 _ _) (PySem.list_append l its.toArray n u (by rw [List.size_toArray];omega)) ⟨e,?_⟩
 refine ⟨.aO,_,I.Mx (its':=its ++ [u]) hH e (by simp) (r.append (.cons ru .nil)) ?_,rfl,q⟩
 rw [List.length_append,List.length_singleton]
 omega
def El:R2:=fun x y H Q=>∃ l b xs zs,x = .ref l∧y = .ref b∧H l = some (.lst xs)∧H b = some (.lst zs)∧xs.length + zs.length ≤ sizeLine∧∀ p,H p = none→Q (.ref p) (upd H p (.lst (xs ++ zs)))
theorem D6 : b7 X (binaryOp .Add) El := by
 intro pins s σ H x y v u Q I rx ry h
 obtain ⟨l,b,xs,zs,rfl,rfl,hH,hB,hz,q⟩:=h
 cases rx
 cases ry
 obtain ⟨z,its,n,r,hl,e⟩:=I.tP hH
 obtain ⟨z2,its2,n2,r2,hl2,e2⟩:=I.tP hB
 refine PySem.P.add_list e e2 ?_ (by rw [List.size_toArray,List.size_toArray];omega)
 have ea:its.toArray ++ its2.toArray = (its ++ its2).toArray:=by simp
 rw [ea]
 exact ⟨.ref _,_,I.DF (t':=s.toks) (r.append r2) (by rw [List.length_append];omega),rfl,q _ I.fresh⟩
def CW : R2 := fun x y H Q => ∃ l k xs, x = .ref l ∧ y = .int k ∧ H l = some (.lst xs) ∧ -(2 ^ 63) ≤ k ∧ k < 2 ^ 63 ∧ xs.length * k.toNat ≤ sizeLine ∧
 ∀ p,H p = none→Q (.ref p) (upd H p (.lst (List.replicate k.toNat xs).flatten))
theorem len_rep {α : Type} (xs : List α) (k : Nat) : (List.replicate k xs).flatten.length = k * xs.length := by
 induction k with
 | zero=>simp
 | succ k ih=>rw [List.replicate_succ,List.flatten_cons,List.length_append,ih,Nat.succ_mul,Nat.add_comm]
theorem B_ : b7 X (binaryOp .Mult) CW := by
 intro pins s σ H x y v u Q I rx ry h
 obtain ⟨l,k,xs,rfl,rfl,hH,h1,h2,hz,q⟩:=h
 cases rx
 obtain ⟨t,rfl⟩:=ry
 obtain ⟨z,its,n,r,hl,e⟩:=I.tP hH
 have hlen:its.toArray.size * k.toNat ≤ sizeLine:=by rw [List.size_toArray,← hl];exact hz
 have hcap : ¬ its.toArray.size * k.toNat > (2 ^ 63 - 1) / 8 := by
   have:(sizeLine:Nat) ≤ (2 ^ 63 - 1) / 8:=by decide
   omega
 have hfit : ¬ (!Builtin.List.listFitsIndex k) = true := by
   rw [fitsIndex_both h1 h2]
   exact Bool.false_ne_true
 have hlong : ¬ Builtin.List.listTooLong (its.toArray.size * k.toNat) = true := by
   rw [wX hlen]
   exact Bool.false_ne_true
 have hnew : List.foldl (fun x1 x2 => x1 ++ x2) #[] (List.replicate (if its.toArray.isEmpty = true then 0 else k.toNat) its.toArray) = (List.replicate k.toNat its).flatten.toArray := by
   have f0 : ∀ m : Nat, List.foldl (fun x1 x2 => x1 ++ x2) #[] (List.replicate m its.toArray) = (List.replicate m its).flatten.toArray := fun m => by
     have:=foldl_rep its m []
     rw [List.nil_append] at this
     exact this
   rw [f0]
   cases its with
   | nil=>simp
   | cons a r'=>rw [if_neg (by simp)]
 refine wpAny_binaryOp_repeat_ref (T := "list") (U := "int") (by decide) ⟨_, e, rfl⟩ (fun s' => typeIs_int s' k t) noFill_list_mul F.fills_int_mul F.slot_int_rmul repeat_list F.slot_int_index.lookup
   (call_meets F.slot_int_rmul (typeIs_int s k t) F.entry_int_rmul (F.args_int_rmul_2 _ _) (int___rmul___int_list k t l its.toArray n)
     ⟨e,rfl,⟨_,e,rfl⟩,call_meets F.slot_list_mul ⟨_,e,rfl⟩ F.entry_list_mul (F.args_list_mul_2 _ _) (AutoListH.list___mul___list_int_3 l its.toArray n k t hfit hcap hlong) ⟨e,?_⟩⟩)
 rw [hnew]
 exact ⟨.ref _,_,I.DF (t':=s.toks) (r.rep k.toNat) (by rw [len_rep,Nat.mul_comm];exact hz),rfl,q _ I.fresh⟩
end
section
variable {prog:Program} {w:World} {A:Around} {E:Value→Shared→Prop} {s:Shared}
end
section
variable {X:Cx}
end
end L2
namespace L2
open PySem PySem.Spec PyProof.Rows
section
variable {κ : Type} [DecidableEq κ]
def bY (kvs:List (κ×V)) (k : κ):Option V:=(kvs.find? fun kv=>decide (kv.1 = k)).map (·.2)
def putK (kvs : List (κ × V)) (k : κ) (v : V) : List (κ × V) :=
 if (kvs.any fun kv=>decide (kv.1 = k)) = true then kvs.map (fun kv=>if kv.1 = k then (kv.1,v) else kv) else kvs ++ [(k,v)]
theorem qK {p : κ×V} {r:List (κ×V)} {k : κ} (e:p.1 = k):bY (p :: r) k = some p.2:=by simp [bY,List.find?_cons,e]
theorem q5 {p : κ×V} {r:List (κ×V)} {k : κ} (e : ¬ p.1 = k):bY (p :: r) k = bY r k:=by simp [bY,List.find?_cons,e]
theorem r_ (kvs : List (κ × V)) (k : κ) (v : V) : (putK kvs k v).length ≤ kvs.length + 1 := by
 unfold putK
 split
 · rw [List.length_map];omega
 · rw [List.length_append,List.length_cons,List.length_nil];omega
theorem eR.vC {o : Option V} {u : Option Value} (r : eR o u) : o.isSome = u.isSome := by
 cases o with
 | none => cases u with
   | none=>rfl
   | some _=>exact (show False from r).elim
 | some _ => cases u with
   | none=>exact (show False from r).elim
   | some _=>rfl
theorem eR.getD {o : Option V} {u : Option Value} {d : V} {d' : Value} (r : eR o u) (rd : RelV d d') : RelV (o.getD d) (u.getD d') := by
 cases o with
 | none => cases u with
   | none=>exact rd
   | some _=>exact (show False from r).elim
 | some _ => cases u with
   | none=>exact (show False from r).elim
   | some _=>exact r
theorem KV.val {kvs : List (κ × V)} {vs : List (κ × Value)} (r : KV kvs vs) (k : κ) : eR (bY kvs k) (valueAt vs k) := by
 unfold KV at r
 induction r with
 | nil=>exact True.intro
 | @cons p q ps qs h t ih =>
   obtain ⟨h1,h2⟩:=h
   by_cases e:p.1 = k
   · have e' : q.1 = k := h1.symm.trans e
     have b:valueAt (q :: qs) k = some q.2:=by simp [valueAt,List.find?_cons,e']
     rw [qK e,b];exact h2
   · have e' : ¬ q.1 = k := fun z => e (h1.trans z)
     have b:valueAt (q :: qs) k = valueAt qs k:=by simp [valueAt,List.find?_cons,e']
     rw [q5 e,b];exact ih
theorem KV.any {kvs : List (κ × V)} {vs : List (κ × Value)} (r : KV kvs vs) (k : κ) : (kvs.any fun kv => decide (kv.1 = k)) = vs.any fun kv => decide (kv.1 = k) := by
 unfold KV at r
 induction r with
 | nil=>rfl
 | cons h t ih=>rw [List.any_cons,List.any_cons,ih,h.1]
theorem KV.M2 {kvs : List (κ × V)} {vs : List (κ × Value)} (r : KV kvs vs) (k : κ) {y : V} {u : Value} (ry : RelV y u) :
   KV (kvs.map fun kv=>if kv.1 = k then (kv.1,y) else kv) (vs.map fun kv=>if kv.1 = k then (kv.1,u) else kv):=by
 unfold KV at r ⊢
 induction r with
 | nil=>exact .nil
 | @cons p q ps qs h t ih =>
   rw [List.map_cons,List.map_cons]
   refine .cons ?_ ih
   obtain ⟨h1,h2⟩:=h
   by_cases e:p.1 = k
   · rw [if_pos e,if_pos (h1.symm.trans e)];exact ⟨h1,ry⟩
   · rw [if_neg e,if_neg (fun z=>e (h1.trans z))];exact ⟨h1,h2⟩
theorem KV.put {kvs : List (κ × V)} {vs : List (κ × Value)} (r : KV kvs vs) (k : κ) {y : V} {u : Value} (ry : RelV y u) : KV (putK kvs k y) (stored vs k u) := by
 unfold putK stored
 rw [r.any k]
 by_cases e:(vs.any fun kv=>decide (kv.1 = k)) = true
 · rw [if_pos e,if_pos e];exact r.M2 k ry
 · rw [if_neg e,if_neg e];exact Paired.snoc r ⟨rfl,ry⟩
theorem KV.keys {kvs : List (κ × V)} {vs : List (κ × Value)} (r : KV kvs vs) : kvs.map (·.1) = vs.map (·.1) := by
 unfold KV at r
 induction r with
 | nil=>rfl
 | cons h t ih=>rw [List.map_cons,List.map_cons,ih,h.1]
theorem KV.length {kvs:List (κ×V)} {vs:List (κ×Value)} (r:KV kvs vs):kvs.length = vs.length:=Paired.length r
end
theorem i3 {P : Program} {w : World} {k : Key} {u : Value} (r : RelV (kV k) u) : (bG P w).is k u = true := by
 cases k with
 | inl i=>obtain ⟨t,e⟩:=(show ∃ t,u = Value.int i t from r);subst e;exact sD P w i t
 | inr x=>obtain ⟨t,e⟩:=(show ∃ t,u = Value.str x t from r);subst e;exact su P w x t
theorem pj {P : Program} {w : World} : ∀ {ks : List Key} {us : List Value}, aK (ks.map kV) us → ItemsAre (bG P w) ks us
 | [],_,r=>by rw [List.map_nil] at r;cases r;exact .nil
 | k :: ks, _, r => by
   rw [List.map_cons] at r
   cases r with
   | cons h t=>exact .cons (i3 h) (pj t)
abbrev KT (H:Hp):List (List Key×V)→List (List Key×Addr×Value)→Prop:=Paired fun p q=>p.1 = q.1∧H q.2.1 = some (.tup (p.1.map kV))∧RelV p.2 q.2.2
theorem KT.val {H : Hp} {kvs : List (List Key × V)} {xs : List (List Key × Addr × Value)} (r : KT H kvs xs) (k : List Key) : eR (bY kvs k) ((atKey xs k).map (·.2)) := by
 induction r with
 | nil=>exact True.intro
 | @cons p q ps qs h t ih =>
   obtain ⟨h1,_,h2⟩:=h
   by_cases e:p.1 = k
   · have e' : q.1 = k := h1.symm.trans e
     have b:atKey (q :: qs) k = some q.2:=by simp [atKey,List.find?_cons,e']
     rw [qK e,b];exact h2
   · have e' : ¬ q.1 = k := fun z => e (h1.trans z)
     have b:atKey (q :: qs) k = atKey qs k:=by simp [atKey,List.find?_cons,e']
     rw [q5 e,b];exact ih
section
variable {P:Program} {w:World} {H:Hp} {h:Heap} {a:Addr}
theorem zI {u:HO} (ok:cC P w H h) (e:Rd H a u):bH P w H h a u:=e.ok ok
theorem uo {kvs : List (Key × V)} (ok : cC P w H h) (e : Rd H a (.dK kvs)) : kvs.length ≤ sizeLine ∧ (a == sysModules) = false ∧ ∃ vs, KV kvs vs ∧ h.DictOf (bG P w) a vs :=
 show bH P w H h a (.dK kvs) from zI ok e
theorem tN {kvs:List (Key×V)} (ok:cC P w H h) (e:H a = some (.dK kvs)):kvs.length ≤ sizeLine∧(a == sysModules) = false∧∃ vs,KV kvs vs∧h.DictOf (bG P w) a vs:=uo ok (.inl e)
theorem vX {ks : List Key} (ok : cC P w H h) (e : H a = some (.tup (ks.map kV))) : (tupleKind (bG P w)).is h ks a := by
 obtain ⟨_,its,r,o,h1,h2,n,h3⟩:=(show bH P w H h a (.tup (ks.map kV)) from ok a _ e)
 exact ⟨o,its.toArray,n,h1,h2,h3,by simpa using pj r⟩
theorem yP {kvs : List (List Key × V)} (ok : cC P w H h) (e : Rd H a (.dT kvs)) : kvs.length ≤ sizeLine ∧ (a == sysModules) = false ∧
   ∃ xs,KT H kvs xs∧h.DictOfH (tupleKind (bG P w)) a xs:=by
 obtain ⟨z,y,xs,r,o,es,ep,h1,h2,h3,h4,h5⟩:=(show bH P w H h a (.dT kvs) from zI ok e)
 refine ⟨z,y,xs,r,o,es,ep,h1,h2,h3,h4,fun x hx=>?_,h5⟩
 have all : ∀ {l : List (List Key × V)} {m : List (List Key × Addr × Value)}, KT H l m → ∀ x ∈ m, (tupleKind (bG P w)).is h x.1 x.2.1 := by
   intro l m q
   induction q with
   | nil=>intro x hx;exact nomatch hx
   | @cons p q ps qs hq t ih =>
     intro x hx
     rcases List.mem_cons.mp hx with e | hx
     · subst e
       exact vX ok (by rw [← hq.1];exact hq.2.1)
     · exact ih x hx
 exact all r x hx
end
def xl (H : Hp) (a : Addr) (y : V) (r : Option V) : Prop :=
 (∃ kvs k,Rd H a (.dK kvs)∧y = kV k∧r = bY kvs k)∨∃ kvs k b,Rd H a (.dT kvs)∧y = .ref b∧H b = some (.tup (k.map kV))∧r = bY kvs k
section
variable {X:Cx} {pins:List (Addr×Obj)} {σ : St} {H:Hp} {s:Shared} {a:Addr} {y v:V} {u r:Value} {o:Option V} {A:Around} {E:Value→Shared→Prop}
theorem Inv.NJ (I : Inv X pins σ H s) : sysModules < s.heap.objs.size := by
 have h:mainGlobals < s.heap.objs.size:=(I.mod.glob.keeps I.bk).lt
 exact Nat.lt_trans (by decide) h
theorem tE {h' : Heap} {t' : Nat} {ob : HO} (I : Inv X pins σ H s) (mu : vH (H a)) (hs : Heap.SameBut a s.heap h') (he : ∃ q, h'.get? a = some q) (new : bH X.prog X.w (upd H a ob) h' a ob) :
   Inv X pins σ (upd H a ob) { s with heap:=h',toks:=t' } :=
 I.write (x:=a) (e:=a) mu (.inl rfl) (fun b q hb z=>(hs.2 b hb).trans z) he new
theorem vR {P : Program} {w : World} {H' : Hp} {h' : Heap} {kvs : List (Key × V)} {vs : List (Key × Value)} (z : kvs.length ≤ sizeLine) (hd : (a == sysModules) = false) (rel : KV kvs vs) (dd : h'.DictOf (bG P w) a vs) :
   bH P w H' h' a (.dK kvs):=⟨z,hd,vs,rel,dd⟩
end
section
variable {X:Cx} {pins:List (Addr×Obj)} {σ : St} {H:Hp} {s:Shared} {a:Addr} {kvs:List (Key×V)} {k:Key} {u:Value} {A:Around} {E:Value→Shared→Prop}
end
def BU (i:Expr):Prop:=∀ ov iv,subscripted i false ov iv = operate [ov,iv] (getItem ov iv)
theorem Bh {prog : Program} {w : World} {A : Around} {E : Value → Shared → Prop} {s : Shared} {env : Env} {value slice : Expr} {pos : Pos} {T id : String} {Q : Value → Shared → Prop}
   (hl:typeLookup (.type T) "__getitem__" = pure (some (.builtin id))) (hs:BU slice)
   (h:wpAny (model prog w) A (eval value env) (fun o s₁=>wpAny (model prog w) A (eval slice env) (fun i s₂=>s₂.TypeIs o T∧wpAny (model prog w) A (getItem o i) Q E s₂) E s₁) E s) :
   wpAny (model prog w) A (eval (.Subscript value slice pos) env) Q E s:=by
 refine Subscript_ (wpAny_mono h (fun o s₁ h₁=>wpAny_mono h₁ (fun i s₂ h₂=>?_) fun _ _ x=>x) fun _ _ x=>x)
 obtain ⟨hT,h₂⟩:=h₂
 unfold subscriptTail
 refine wpAny_bind ?_
 rw [getitemInPython_of_ne hT.not_modules]
 refine wpAny_bind (wpAny_specialOf hT hl ?_)
 have fin : wpAny (model prog w) A (subscripted slice false o i) (fun r s₃ => wpAny (model prog w) A (letTemporaryGo value o r >>= fun _ => pure r) Q E s₃) E s₂ := by
   rw [hs o i]
   exact wpAny_operating (wpAny_mono h₂ (fun r s₃ h₃=>wpAny_bind (wpAny_letTemporaryGo (wpAny_pure h₃))) fun _ _ x=>x)
 first
   | exact wpAny_pure (wpAny_bind fin)
   | exact wpAny_bind (wpAny_pure (wpAny_bind fin))
   | exact wpAny_bind fin
section
variable {X:Cx} {o i e value:Expr} {pos pos' tpos:Pos} {td ty tv:TE}
end
theorem w9 {P : Program} {w : World} {H : Hp} (h : Heap) (hb : sysModules < h.objs.size) : bH P w H (h.push { cls := .type "dict", data := .dict #[] }) h.objs.size (.dK []) :=
 ⟨Nat.zero_le _,beq_eq_false_iff_ne.mpr (Ne.symm (Nat.ne_of_lt hb)),[],.nil,Heap.DictOf.new h⟩
section
variable {X:Cx} {pos:Pos}
end
def jK : List (TE × TE) → St → Hp → (List (V × V) → Hp → Prop) → Prop
 | [],_,H,Q=>Q [] H
 | (tk,tv) :: r,σ,H,Q=>tk σ H fun x H1=>tv σ H1 fun y H2=>jK r σ H2 fun ps H3=>Q ((x,y) :: ps) H3
abbrev VV:List (V×V)→List (Value×Value)→Prop:=Paired fun p q=>RelV p.1 q.1∧RelV p.2 q.2
def AB (X : Cx) (pos : Pos) (keys : List (Option Expr)) (values : List Expr) (trs : List (TE × TE)) : Prop :=
 ∀ (pins : List (Addr × Obj)) (s : Shared) (σ : St) (H : Hp) (Q : List (V × V) → Hp → Prop), Inv X pins σ H s → jK trs σ H Q →
   wpAny (model X.prog X.w) X.A (evalPairs (pairTrees keys values X.env pos)) (fun vs s'=>∃ ps H',Inv X pins σ H' s'∧VV ps vs∧Q ps H') X.xe s
theorem nA {X:Cx} {pos:Pos}:AB X pos [] [] []:=fun pins s σ H Q I h=>pairTrees_nil_walk ⟨[],H,I,.nil,h⟩
theorem bZ {X : Cx} {pos : Pos} {k v : Expr} {ks : List (Option Expr)} {vs : List Expr} {tk tv : TE} {trs : List (TE × TE)} (hk : PE X k tk) (hv : PE X v tv) (hr : AB X pos ks vs trs) :
   AB X pos (some k :: ks) (v :: vs) ((tk,tv) :: trs):=fun pins s σ H Q I h =>
 pairTrees_cons_walk (aY (hk pins s σ H _ I h) fun u s1 ⟨x, H1, I1, rx, q1⟩ => aY (hv pins s1 σ H1 _ I1 q1) fun w2 s2 ⟨y, H2, I2, ry, q2⟩ =>
   aY (hr pins s2 σ H2 _ I2 q2) fun ws s3 ⟨ps,H3,I3,rel,q3⟩=>⟨(x,y) :: ps,H3,I3,.cons ⟨rx,ry⟩ rel,q3⟩)
def fR (kvs more:List (Key×V)):List (Key×V):=more.foldl (fun acc kv=>putK acc kv.1 kv.2) kvs
theorem KV.merge : ∀ {more : List (Key × V)} {rs : List (Key × Value)} {kvs : List (Key × V)} {vs : List (Key × Value)}, KV more rs → KV kvs vs → KV (fR kvs more) (merged vs rs) := by
 intro more rs kvs vs r
 unfold KV at r
 induction r generalizing kvs vs with
 | nil=>intro q;exact q
 | @cons p q ps qs h t ih =>
   intro r0
   have e : KV (putK kvs p.1 p.2) (stored vs q.1 q.2) := by
     have:=r0.put p.1 h.2
     rw [← h.1];exact this
   exact ih e
theorem gJ : ∀ (more kvs : List (Key × V)), (fR kvs more).length ≤ kvs.length + more.length
 | [],kvs=>by show kvs.length ≤ kvs.length + 0;omega
 | p :: r, kvs => by
   have h1:=gJ r (putK kvs p.1 p.2)
   have h2:=r_ kvs p.1 p.2
   show (fR (putK kvs p.1 p.2) r).length ≤ _
   rw [List.length_cons];omega
theorem mF {P : Program} {w : World} : ∀ {kvs : List (Key × V)} {ws : List (Value × Value)}, VV (kvs.map fun kv => (kV kv.1, kv.2)) ws → ∃ rs, Carries (bG P w) ws rs ∧ KV kvs rs
 | [],_,r=>by rw [List.map_nil] at r;cases r;exact ⟨[],True.intro,.nil⟩
 | p :: kvs, _, r => by
   rw [List.map_cons] at r
   cases r with
   | @cons a b as bs h t =>
     obtain ⟨rs,c,q⟩:=mF (P:=P) (w:=w) t
     obtain ⟨b1,b2⟩:=b
     exact ⟨(p.1,b2) :: rs,⟨i3 h.1,rfl,c⟩,.cons ⟨rfl,h.2⟩ q⟩
def yA (trs:List (TE×TE)):TE:=fun σ H Q=>∀ p,H p = none→jK trs σ (upd H p (.dK [])) fun ps H2=>H2 p = some (.dK [])∧∃ kvs:List (Key×V),ps = kvs.map (fun kv=>(kV kv.1,kv.2))∧kvs.length ≤ 15∧Q (.ref p) (upd H2 p (.dK (fR [] kvs)))
theorem nU {X : Cx} {pos : Pos} {keys : List (Option Expr)} {values : List Expr} {trs : List (TE × TE)} (h : AB X pos keys values trs) (hall : keys.all (·.isSome) = true) (hl : keys.length = values.length) (h0 : keys ≠ [])
   (h15:keys.length ≤ 15):PE X (.Dict keys values pos) (yA trs):=by
 intro pins s σ H Q I q
 have hn:=I.ax.fresh (Nat.le_refl s.heap.objs.size)
 have I1:=I.laid (a:=s.heap.objs.size) (o:=.dK []) (h':=s.heap.push { cls:=.type "dict",data:=.dict #[] }) (t':=s.toks) (fun _ _ q=>Heap.get?_push_of_some _ q) (Nat.le_refl _) (w9 s.heap I.NJ)
 refine wpAny_Dict_walk (knd:=bG X.prog X.w) hall hl h0 h15 (aY (h pins _ σ _ _ I1 (q _ hn)) fun ws s2 ⟨ps,H2,I2,rel,e,kvs,ep,lk,q2⟩=>?_)
 subst ep
 obtain ⟨rs,c,rk⟩:=mF (P:=X.prog) (w:=X.w) rel
 obtain ⟨z,hd,vs0,r0,dd⟩:=tN I2.ax e
 cases r0
 refine ⟨rs,c,dd,fun h' dd' hs=>⟨.ref s.heap.objs.size,_,?_,rfl,q2⟩⟩
 have hz : (fR [] kvs).length ≤ sizeLine := by
   have h1:=gJ kvs []
   rw [List.length_nil] at h1
   rw [sizeLine_eq];omega
 have he:∃ q,h'.get? s.heap.objs.size = some q:=let ⟨q,_,_,hq,_⟩:=dd';⟨q,hq⟩
 exact tE I2 (by rw [e];exact True.intro) hs he (vR hz hd (rk.merge .nil) dd')
structure M1 (X : Cx) (o : Expr) (m : Str) (apos : Pos) (e : Expr) (cpos : Pos) : Prop where
 base:attributeBase o m X.env (eval o X.env) = eval o X.env
 NO : ((backTo cpos (starEach [e] X.env)).all (fun x => !x.1) && (backToKw cpos (keywordEach [] X.env)).all (fun x => x.1.isSome)
   && decide (([e]:List Expr).length + ([]:List Keyword).length + (if ([]:List Keyword).isEmpty then 0 else 1) < 30)) = true
 line:(apos.endLine == cpos.line) = true
 trees:backTo cpos (starEach [e] X.env) = [(false,eval e X.env)]
def DK (H:Hp) (a:Addr):Prop:=(∃ kvs,Rd H a (.dK kvs))∨∃ kvs,Rd H a (.dT kvs)
theorem DQ {X : Cx} {pins : List (Addr × Obj)} {σ : St} {H : Hp} {s : Shared} {a : Addr} (I : Inv X pins σ H s) (d : DK H a) :
   s.TypeIs (.ref a) "dict"∧(∀ b,Value.ref a = .ref b→∃ ob,s.heap.get? b = some ob∧ob.dict = none)∧(a == sysModules) = false:=by
 rcases d with ⟨kvs,e⟩ | ⟨kvs,e⟩
 · obtain ⟨_, hd, vs, _, dd⟩ := uo I.ax e
   refine ⟨dd.typeIs,fun b q=>?_,hd⟩
   cases q
   obtain ⟨ob,_,_,h1,h2,_⟩:=dd
   exact ⟨ob,h1,h2.2.1⟩
 · obtain ⟨_, hd, xs, _, dd⟩ := yP I.ax e
   refine ⟨dd.typeIs,fun b q=>?_,hd⟩
   cases q
   obtain ⟨ob,_,_,h1,h2,_⟩:=dd
   exact ⟨ob,h1,h2.2.1⟩
section
variable {X:Cx} {pins:List (Addr×Obj)} {σ : St} {H:Hp} {s:Shared} {a:Addr} {y d:V} {u r:Value} {o:Option V} {A:Around} {E:Value→Shared→Prop}
theorem DE {Q : Value → Shared → Prop} (hu : A.units + 1 < cLine) (I : Inv X pins σ H s) (g : xl H a y o) (ry : RelV y u) (h : ∀ w' s', Inv X pins σ H s' → RelV (o.getD .aO) w' → Q w' s') :
   wpAny (model X.prog X.w) A (call (.builtin "dict.get") [.ref a,u]) Q E s:=by
 rcases g with ⟨kvs,k,e,ey,l⟩ | ⟨kvs,k,b,e,ey,eb,l⟩
 · subst ey
   obtain ⟨z,hd,vs,rel,dd⟩:=uo I.ax e
   refine call_meetsIn PySem.F.slot_dict_get dd.typeIs PySem.F.entry_dict_get (PySem.F.args_dict_get_2 _ _) (meets_dict_get (bG X.prog X.w) a (i3 ry) hd) ⟨_,dd.mapOf,h _ _ (I.tok _) ?_⟩
   rw [l]
   exact (rel.val k).getD rfl
 · subst ey
   cases (show u = Value.ref b from ry)
   obtain ⟨z,hd,xs,rel,dd⟩:=yP I.ax e
   refine call_meetsIn PySem.F.slot_dict_get dd.typeIs PySem.F.entry_dict_get (PySem.F.args_dict_get_2 _ _) (meetsH_dict_get (tupleKind (bG X.prog X.w)) a b hd) ⟨tupleKind_room_in1 hu,k,xs,vX I.ax eb,dd,h _ _ (I.tok _) ?_⟩
   rw [l]
   exact (rel.val k).getD rfl
end
def v_ (td ty:TE):TE:=fun σ H Q=>td σ H fun x H1=>∃ a,x = .ref a∧DK H1 a∧ty σ H1 fun y H2=>∃ o,xl H2 a y o∧Q (o.getD .aO) H2
section
variable {X:Cx} {o e f:Expr} {apos cpos:Pos} {td ty tx:TE}
theorem wt (hu : X.A.units + 1 < cLine) (ho : PE X o td) (he : PE X e ty) (m : M1 X o "get" apos e cpos) : PE X (.Call (.Attribute o "get" apos) [e] [] cpos) (v_ td ty) := by
 intro pins s σ H Q I h
 refine wpAny_Call_method m.base m.NO m.line PySem.F.plainAttrs_dict PySem.F.slot_dict_get PySem.F.type_dict_get (aY (ho pins s σ H _ I h) fun u s1 ⟨x,H1,I1,rx,a,ex,d,q1⟩=>?_)
 subst ex
 obtain rfl:u = Value.ref a:=rx
 obtain ⟨t1,t2,_⟩:=DQ I1 d
 refine ⟨t1,t2,?_⟩
 rw [m.trees]
 refine Calls.callWith_builtin rfl (Calls.evalArgs_plain (Calls.spliced_cons (aY (he pins s1 σ H1 _ I1 q1) fun iv s2 ⟨y,H2,I2,ry,ov,g,q2⟩=>Calls.spliced_nil ?_)))
 exact DE hu I2 g ry fun w' s3 I3 rw'=>⟨_,H2,I3,rw',q2⟩
end
section
variable {X:Cx} {pins:List (Addr×Obj)} {σ : St} {H:Hp} {s:Shared} {a:Addr} {kvs:List (Key×V)} {A:Around} {E:Value→Shared→Prop}
end
section
variable {X:Cx} {pins:List (Addr×Obj)} {σ : St} {H:Hp} {s:Shared} {a:Addr} {y:V} {u:Value} {A:Around} {E:Value→Shared→Prop}
end
end L2
namespace Att
open PySem PySem.W PySem.Calls PyProof.Rows
theorem me {P : Params} {h : Heap} : ∀ (ns : List Int) (vs : List Value), WellAll P h vs (ns.map WData.int) → IntsAre vs ns := by
 intro ns
 induction ns with
 | nil =>
   intro vs w
   rw [List.map_nil] at w
   cases w
   exact .nil
 | cons n ns ih =>
   intro vs w
   rw [List.map_cons] at w
   cases w with
   | cons a b =>
     cases a
     exact .cons _ _ (ih _ b)
theorem uV {l : OpenLaw} {n : Nat} (hn : l.most = some n) {P : Params} {h : Heap} {args : List WData} {vals : List Value}
   (hpre:l.row.toRowW.claim.pre args = true) (hwl:WellAll P h vals args) :
   ∃ a vs ns,vals = [Value.ref a]∧args = [WData.list (ns.map WData.int)]∧h.get? a = some { cls:=.type "list",data:=.seq vs.toArray }∧IntsAre vs ns∧ns.length ≤ n:=by
 have hsh:WShape.hasAll [] args [.list .int] = true:=(pre_splitW hpre).1
 have hc:l.pre.holds [] { args:=args } = true:=(pre_splitW hpre).2
 obtain ⟨d,r,rfl,h1,h2⟩:=hasAllW_cons hsh
 obtain rfl:=hasAllW_nil h2
 obtain ⟨xs,rfl,h3⟩:=hasW_list h1
 obtain ⟨ns,rfl⟩:=items_int h3
 have hlen : ns.length ≤ n := by
   unfold OpenLaw.pre at hc
   have h4 : (WTm.not (.lt (.lit (.int (n : Int))) (.len (.arg 0)))).holds [] { args := [.list (ns.map .int)] } = true := by
     have h4:=(holds_andW hc).1
     rw [hn] at h4
     exact h4
   have h5:=condW_of h4 (w_not (w_lt w_lit (w_len_list (w_arg rfl))))
   rw [List.length_map] at h5
   refine Nat.le_of_not_lt fun q=>?_
   have q':(n:Int) < ((ns.length:Nat):Int):=by omega
   first
     | (rw [decide_eq_true q'] at h5;exact absurd h5 (by decide))
     | (simp at h5;omega)
 cases hwl with
 | cons w1 w2 =>
   cases w2
   cases w1 with
   | list ho hall=>exact ⟨_,_,ns,rfl,rfl,ho,me ns _ hall,hlen⟩
theorem wc (l : OpenLaw) (args : List WData) : l.row.toRowW.claim.post args (.bool true) args = true :=
 postW_of (r := l.row.toRowW) (X := (true == true))
   (show WShape.has [] (.bool true) .bool = true by first | rfl | decide | simp [WShape.has,WShape.arms,WShape.armsAll])
   (show (WTm.eq .res (.lit (.bool true))).value [] { args:=args,res:=some (.bool true),after:=args } = some (.bool (true == true)) from w_eq_bool (w_res rfl) w_lit) rfl
theorem sf {l : OpenLaw} {n : Nat} {q : Program} {loose : List Str} {XP : (Str → Option Value) → Heap → Prop} {YP : World → Heap → Prop} {d : DefRec}
   (hn:l.most = some n) (hdf:d.params.defaults = [])
   (call : ∀ (w : World) (s₀ s₁ : Shared) (mg mb : Str → Option Value) (fa : Addr) (o : Obj) (pm cd doc : Value) (a : Addr) (vs : List Value) (ns : List Int),
     Ground q loose [] XP w s₀ mg mb s₁.heap→YP w s₁.heap →
     s₁.heap.get? fa = some o→o.data = .func (docDef d.name d.params d.body d.scope pm cd doc)→s₁.heap.CodeRec cd d.name→mg d.name = some (.ref fa) →
     s₁.heap.get? a = some { cls:=.type "list",data:=.seq vs.toArray }→IntsAre vs ns→ns.length ≤ n→s₁.gens = #[] →
     codeAny (model l.prog w) callerA (.call (.ref fa) ⟨[.ref a],[]⟩) (fun r s'=>r = .ok (.ret (.bool true))∧OldK s₁.heap s'.heap∧s'.os = s₁.os∧AllBare s'.gens) s₁) :
   WalkO q loose XP YP l.row.toRowW d [] (fun f vs=>PySem.call f vs):=by
 intro w s₀ s₁ mg mb G Y fa o pm cd doc dV kV ho hd hcd hD hmg hg args vals as hpre hlay hrd hwl hlo
 obtain rfl:dV = .none:=Dflts.none hD hdf
 obtain rfl:kV = .none:=Dflts.noKw hD
 obtain ⟨a,vs,ns,rfl,rfl,hobj,hints,hlen⟩:=uV hn hpre hwl
 refine enter_call (codeAny_mono (call w s₀ s₁ mg mb fa o pm cd doc a vs ns G Y ho (fd_plain hd) hcd hmg hobj hints hlen hg) fun r s' hq=>?_)
 obtain ⟨rfl,h2,h3,h4⟩:=hq
 exact ⟨.inl ⟨.bool true,.bool true,[],rfl,fun _=>rfl,.bool true,wc l _,fun _=>⟨List.Pairwise.nil,fun _ hm=>(nomatch hm)⟩⟩,h2,h3,h4⟩
section
variable {prog:Program} {w:World} {A:Around} {E:Value→Shared→Prop} {s:Shared} {K:Frag}
end
end Att
namespace L2
open PySem PySem.Spec PyProof.Rows
theorem oU : ∀ {vs : List Value} {ns : List Int}, IntsAre vs ns → aK (ns.map V.int) vs
 | _,_,.nil=>.nil
 | _,_,.cons n t h=>.cons ⟨t,rfl⟩ (oU h)
def w_ (H:Hp):Prop:=∀ b,H b = none∨∃ o xs,H b = some (.g6 o (.lst xs))
theorem wz {P : Program} {w : World} {K : PySem.W.Frag} {mg mb : Str → Option Value} {CX : dO} {k : Nat} {fa a : Addr} {fd : FuncData} {x : Str} {sp : Sp} {s₁ : Shared} {vs : List Value} {ns : List Int}
   (KX:K.In s₁.heap) (hns:s₁.heap.Ns mainGlobals mg) (hb:s₁.heap.Ns builtinsNs mb) (hbb:∀ x:Str,x ≠ "__name__"→mb x = bootBuiltins x) (hlim:s₁.heap.NoLimit) (hg:s₁.gens = #[])
   (ha:s₁.heap.get? a = some { cls:=.type "list",data:=.seq vs.toArray }) (hi:IntsAre vs ns) (hl:ns.length ≤ sizeLine) (hr:bR k callerA)
   (F:∀ base:Heap,K.In base→base.Ns mainGlobals mg→eO P w K mg base CX k fa fd [x] sp) (hbind:∀ (s:Shared) (u:Value),BindsTo s fd ⟨[u],[]⟩ [(x,u)])
   (hsp:∀ H:Hp,w_ H→aH K H a (ns.map V.int)→sp [.ref a] H (fun v _=>v = .bl true) fun _ _ _=>False)
   (hCX:∀ H e s',CX [] H s₁ (fun _ _ _=>False) e s'→False) :
   codeAny (model P w) callerA (.call (.ref fa) ⟨[.ref a],[]⟩) (fun r s'=>r = .ok (.ret (.bool true))∧OldK s₁.heap s'.heap∧s'.os = s₁.os∧AllBare s'.gens) s₁:=by
 have rv:=oU hi
 have lenV:=hi.length
 -- from an abstract heap in which nothing but the script may be tracked
 have core : ∀ H : Hp, w_ H → aH K H a (ns.map V.int) → cC P w H s₁.heap → (∀ b, H b ≠ none → b = a) → (H a ≠ none → K.lookup a = none) →
     codeAny (model P w) callerA (.call (.ref fa) ⟨[.ref a],[]⟩) (fun r s'=>r = .ok (.ret (.bool true))∧OldK s₁.heap s'.heap∧s'.os = s₁.os∧AllBare s'.gens) s₁:=by
   intro H hO hS ax hA hK
   have base_of:∀ {b:Addr} {o:Obj},s₁.heap.get? b = some o→H b = none→(iY s₁.heap H).get? b = some o:=fun e n=>xg e n
   have noA : ∀ {b : Addr} {o : Obj} {es : Array DictEntry} {ep : Nat}, s₁.heap.get? b = some o → o.data = .dict es ep → H b = none := fun {b o es ep} e d => by
     cases q:H b with
     | none=>rfl
     | some u =>
       have e':b = a:=hA b (by rw [q];simp)
       subst e'
       rw [ha] at e;cases e
       have d':Data.seq vs.toArray _ = Data.dict es ep:=d
       cases d'
   have nsK:∀ {b:Addr} {m:Str→Option Value},s₁.heap.Ns b m→(iY s₁.heap H).Ns b m:=fun {b m} ⟨o,es,ep,e,d,r⟩=>⟨o,es,ep,base_of e (noA e d),d,r⟩
   have hKb : K.In (iY s₁.heap H) := fun b o e => base_of (KX b o e) (by
     cases q:H b with
     | none=>rfl
     | some u =>
       have e':b = a:=hA b (by rw [q];simp)
       subst e'
       rw [hK (by rw [q];simp)] at e;cases e)
   have hM:Mod K mg (iY s₁.heap H):=⟨hKb,nsK hns,⟨mb,nsK hb,hbb⟩,let ⟨mc,h1,h2⟩:=hlim;⟨mc,nsK h1,h2⟩⟩
   have e0:lF P w K mg (iY s₁.heap H) callerA [] s₁ H:=⟨rfl,hM,fun b o e=>BL e,Nat.le_of_eq (uC _ _),trivial,fun b hb=>absurd (show b ∈ ([]:List Addr) from hb) (by simp),ax,.of_eq hg⟩
   refine codeAny_mono ((F _ hKb (nsK hns)).run callerA [] s₁ H ⟨[.ref a],[]⟩ [.ref a] [.ref a] _ _ hr e0 (hbind s₁ (.ref a)) (.cons rfl .nil) (hsp H hO hS)) fun r s' h=>?_
   cases r with
   | error e=>exact (hCX H e s' h).elim
   | ok fl =>
     cases fl with
     | next=>exact False.elim h
     | brk=>exact False.elim h
     | cont=>exact False.elim h
     | ret u =>
       obtain ⟨v,H',os,bare,un,hok',r',q⟩:=h
       have q':v = .bl true:=q
       subst q'
       obtain rfl:u = Value.bool true:=r'
       refine ⟨rfl,OldK.of_keep fun b o e=>?_,os,bare⟩
       cases q:H b with
       | none=>exact un.keep b o e q (by intro z;exact absurd (show b ∈ ([]:List Addr) from z) (by simp)) (by simp)
       | some u =>
         rcases hO b with z | ⟨ob,xs,z⟩
         · rw [q] at z;cases z
         · have z2 := un.fz b ob _ z
           obtain ⟨e1,_⟩:=ax b _ z
           obtain ⟨e2,_⟩:=hok' b _ z2
           rw [e] at e1;cases e1
           exact e2
 cases hk:K.lookup a with
 | some o =>
   -- the script is one of the module's own objects
   have e:=KX a o hk
   rw [ha] at e
   cases e
   refine core (fun _=>none) (fun _=>.inl rfl) (.inr ⟨_,vs.toArray,_,hk,rfl,rfl,rfl,by rw [List.size_toArray,lenV];exact hl,by simpa using rv⟩) (fun b u z=>by have z':(none:Option HO) = some u:=z;cases z') (fun b z=>absurd rfl z) fun z=>absurd rfl z
 | none =>
   refine core (fun b=>if b = a then some (.g6 { cls:=.type "list",data:=.seq vs.toArray } (.lst (ns.map V.int))) else none) (fun b=>?_) (.inl (.inr ⟨{ cls:=.type "list",data:=.seq vs.toArray },if_pos rfl⟩)) (fun b u z=>?_) (fun b z=>?_) fun _=>hk
   · by_cases hb : b = a
     · exact .inr ⟨_,_,if_pos hb⟩
     · exact .inl (if_neg hb)
   · by_cases hb : b = a
     · have z' := (if_pos hb).symm.trans z
       cases z'
       subst hb
       exact ⟨ha,by rw [List.length_map];exact hl,vs,_,rv,ha⟩
     · have z' := (if_neg hb).symm.trans z
       cases z'
   · by_cases hb : b = a
     · exact hb
     · exact absurd (if_neg hb) z
end L2
namespace L2
open PySem PySem.Spec PyProof.Rows
abbrev B9 {K:PySem.W.Frag} {h:Heap} (_:K.In h):PySem.W.Frag:=K
theorem Bq {l : PySem.W.OpenLaw} {n k : Nat} {q : Program} {loose : List Str} {XP : (Str → Option Value) → Heap → Prop} {YP : World → Heap → Prop} {d : DefRec} {K : Params → PySem.W.Frag} {CX : World → dO} {sp : World → Sp} {x : Str}
   (hn:l.most = some n) (hn2:n ≤ sizeLine) (hdf:d.params.defaults = []) (hr:bR k callerA)
   (hY:∀ (w:World) (h:Heap),YP w h→(K w.params).In h)
   (F : ∀ (w : World) (mg : Str → Option Value) (fa : Addr) (h : Heap), (K w.params).In h → h.Ns mainGlobals mg → mg d.name = some (.ref fa) →
     ∃ fd : FuncData, (∀ (s : Shared) (u : Value), BindsTo s fd ⟨[u], []⟩ [(x, u)]) ∧
       ∀ base:Heap,(K w.params).In base→base.Ns mainGlobals mg→eO l.prog w (K w.params) mg base (CX w) k fa fd [x] (sp w))
   (hsp:∀ (w:World) (H:Hp) (a:Addr) (ns:List Int),ns.length ≤ n→w_ H→aH (K w.params) H a (ns.map V.int)→sp w [.ref a] H (fun v _=>v = .bl true) fun _ _ _=>False)
   (hCX:∀ (w:World) (H:Hp) (s:Shared) (e:Value) (s':Shared),CX w [] H s (fun _ _ _=>False) e s'→False) :
   PySem.W.WalkO q loose XP YP l.row.toRowW d [] (fun f vs=>PySem.call f vs):=by
 refine Att.sf hn hdf fun w s₀ s₁ mg mb fa o pm cd doc a vs ns G Y ho hd hcd hmg hobj hints hlen hg=>?_
 have KX:=hY w _ Y
 obtain ⟨fd,hb,hF⟩:=F w mg fa _ KX G.T.g hmg
 exact wz KX G.T.g G.T.b G.T.builtins G.T.nolimit hg hobj hints (Nat.le_trans hlen hn2) hr hF hb (fun H hO hS=>hsp w H a ns hlen hO hS) fun H e s'=>hCX w H s₁ e s'
end L2
namespace L2
open PySem PySem.Spec PyProof.Rows
def inClass (s : Stmt) (j : Nat) : Stmt := match s with
 | .ClassDef _ _ _ body _ _ _ _ _ _ _=>body.getD j (.Pass ⟨0,0,0,0⟩)
 | _=>.Pass ⟨0,0,0,0⟩
def az (s : Stmt) : Arguments := match s with
 | .FunctionDef _ a _ _ _ _ _ _ _ _=>a
 | _=>{ posonlyargs:=[],args:=[],vararg:=none,kwonlyargs:=[],kw_defaults:=[],kwarg:=none,defaults:=[] }
def aw (s : Stmt) : List Stmt := match s with
 | .FunctionDef _ _ b _ _ _ _ _ _ _=>b
 | _=>[]
def af (s : Stmt) : Scope := match s with
 | .FunctionDef _ _ _ _ _ _ sc _ _ _=>sc
 | _=>{ kind:=.function,names:=[],isGenerator:=false,isCoroutine:=false }
abbrev cm:dO:=fun _ _ _ _ _ _=>False
abbrev E0:XK:=fun _ _ _=>False
theorem d8 {X:Cx}:eL cm X E0:=fun _ _ _ _ _ _ _ h=>h.elim
structure be (K : PySem.W.Frag) (x qual : Str) (st : Stmt) (f : Addr) (fd : FuncData) : Prop where
 ex : ∃ (oc : Value) (od : Option Addr) (kV doc pm : Value) (an : Option Addr) (cdv ct : Value) (osl : Array (Option Value)),
   fd = PySem.W.fnOf x qual (az st) (aw st) (af st) .none kV doc pm an cdv ct∧K.lookup f = some ⟨oc,od,.func fd,osl⟩∧PySem.W.codeIn K cdv qual = true
 kp:PySem.W.keepIn K (.ref f) = true
section
variable {P:Program} {w:World} {K:PySem.W.Frag} {mg:Str→Option Value} {base:Heap}
theorem be.ok {x qual : Str} {st : Stmt} {f : Addr} {fd : FuncData} {N ps : List Str} {k : Nat} {sp : Sp} (F : be K x qual st f fd) (S : aA N ps (af st)) (len : ∀ vs H Q E, sp vs H Q E → vs.length = ps.length)
   (hbody : ∀ (cdv : Value) (A : Around) (outer : List Env) (s : Shared) (H : Hp) (vs : List V) (Q : VK) (E : XK), bR k (A.deeper (envOfC qual (af st) s.heap.objs.size f cdv)) → sp vs H Q E →
     ∃ t,gu (eK cm P w K mg base N qual (af st) f cdv A outer s H E).br (aw st) t∧t { nx:=fun _ H'=>Q .aO H',rt:=Q } (start N vs) H):eO P w K mg base cm (k + 1) f fd ps sp:=by
 obtain ⟨oc,od,kV,doc,pm,an,cdv,ct,osl,rfl,lk,hcd⟩:=F.ex
 refine zB lk hcd S len fun A outer s H vs Q E hr hsp=>?_
 obtain ⟨t,h,q⟩:=hbody cdv A outer s H vs Q E hr hsp
 exact ⟨t,h.br,q⟩
theorem be.binds {x qual : Str} {st : Stmt} {f : Addr} {fd : FuncData} {ps : List Str} (F : be K x qual st f fd)
   (h:∀ (kV doc pm:Value) (an:Option Addr) (cdv ct:Value) (us:List Value),us.length = ps.length→bindArgs (PySem.W.fnOf x qual (az st) (aw st) (af st) .none kV doc pm an cdv ct) ⟨us,[]⟩ = pure (ps.zip us)):Binds K fd ps []:=by
 obtain ⟨oc,od,kV,doc,pm,an,cdv,ct,osl,rfl,lk,hcd⟩:=F.ex
 exact .all (h kV doc pm an cdv ct)
theorem ao {x qual : Str} {st : Stmt} {f : Addr} {oc : Value} {od an : Option Addr} {osl : Array (Option Value)} {kV doc pm cdv ct : Value} (l : K.lookup f = some ⟨oc, od, .func (PySem.W.fnOf x qual (az st) (aw st) (af st) .none kV doc pm an cdv ct), osl⟩)
   (c:PySem.W.codeIn K cdv qual = true) (k:PySem.W.keepIn K (.ref f) = true):be K x qual st f (PySem.W.fnOf x qual (az st) (aw st) (af st) .none kV doc pm an cdv ct):=⟨⟨oc,od,kV,doc,pm,an,cdv,ct,osl,rfl,l,c⟩,k⟩
end
theorem Kd {A:Around} {k:Nat} (hr:bR k A):A.units + 1 < cLine:=Nat.lt_of_le_of_lt (Nat.add_le_add_left (by decide : 1 ≤ 64) _) hr.units
section
variable {X:Cx}
theorem pv (i : Nat) {x : Str} {pos : Pos} (hN : X.N[i]? = some x := by rfl) (hv : sS X.env.scope x := by first | exact Or.inl rfl | exact Or.inr (Or.inl rfl) | exact Or.inr (Or.inr rfl)) (hd : (x == ("__debug__" : Str)) = false := by decide)
   (hcd:(x == ("__classdict__" : Str)) = false:=by decide):PE X (.Name x pos) (cn i):=CF hN hv hd hcd
end
theorem Ly {A B : Prop} (h : B) : if false = true then A else B := by
 rw [if_neg Bool.false_ne_true]
 exact h
theorem M_ {A B : Prop} (h : A) : if true = true then A else B := by
 rw [if_pos rfl]
 exact h
def aq (H H':Hp):Prop:=∀ b o,H b = some o→H' b = some o
theorem aq.refl (H:Hp):aq H H:=fun _ _ h=>h
theorem aq.trans {H H1 H2:Hp} (a:aq H H1) (b:aq H1 H2):aq H H2:=fun c o h=>b c o (a c o h)
theorem aq.seq {K : PySem.W.Frag} {H H' : Hp} {a : Addr} {xs : List V} (e : aq H H') (h : aH K H a xs) : aH K H' a xs := by
 rcases h with (h | ⟨o,h⟩) | h
 · exact .inl (.inl (e _ _ h))
 · exact .inl (.inr ⟨o,e _ _ h⟩)
 · exact .inr h
section
variable {κ : Type} [DecidableEq κ]
end
end L2
namespace Bt
end Bt
namespace L3
open PySem PySem.Spec PyProof.Rows L2
abbrev St:=L2.St
def bx (its:List Value):Obj:={ cls:=.type "list",data:=.seq its.toArray its.length }
theorem jD (its : List Value) (y : Value) : ({ cls := .type "list", data := .seq (its.toArray.push y) (its.length + 1) } : Obj) = bx (its ++ [y]) := by
 show ({ cls:=.type "list",data:=.seq (its.toArray.push y) (its.length + 1) }:Obj) = { cls:=.type "list",data:=.seq (its ++ [y]).toArray (its ++ [y]).length }
 rw [List.length_append,List.length_singleton,List.push_toArray]
section
variable {prog:Program} {w:World} {A:Around} {R:Result→Shared→Prop} {s:Shared}
theorem iq {elt target iter : Expr} {ifs : List Expr} {scope : Scope} {pos : Pos} {it acc : Value} {env : Env} (I : Nat → Shared → Prop)
   (turn : ∀ n s, I n s → wpAny (model prog w) A (pyNext it) (fun r s1 => match r with
     | none=>R (.ok .next) s1
     | some v => wpAny (model prog w) A (letOwnedTupleGo target it v) (fun _ s2 => wpAny (model prog w) A (assign target env v) (fun _ s3 =>
         wpAny (model prog w) A (forIn ifs true fun c r => if r = true then do let ok ← isTrue c env (eval c env); pure (ForInStep.yield ok) else pure (ForInStep.yield r)) (fun ok s4 =>
           if ok = true then wpAny (model prog w) A (eval elt env) (fun x s5 =>
             wpAny (model prog w) A (call (.builtin "list.append") [acc,x]) (fun _ s6=>∃ m,m < n∧I m s6) (notedBy (model prog w) A env fun e s'=>R (.error e) s') s5) (notedBy (model prog w) A env fun e s'=>R (.error e) s') s4
           else ∃ m,m < n∧I m s4) (notedBy (model prog w) A env fun e s'=>R (.error e) s') s3) (notedBy (model prog w) A env fun e s'=>R (.error e) s') s2)
         (notedBy (model prog w) A env fun e s'=>R (.error e) s') s1) (notedBy (model prog w) A env fun e s'=>R (.error e) s') s)
   (n:Nat) (h:I n s) :
   codeAny (model prog w) A (.compLoop (.ListComp elt [⟨target,iter,ifs,0⟩] scope pos) 0 it acc env) R s:=by
 refine codeAny_loop rfl I (fun n s hI=>?_) n h
 show wpAny _ A ((compTurn (.ListComp elt [⟨target,iter,ifs,0⟩] scope pos) 0 it acc env).onRaise (fun x=>do noteFrame x env;theTreesLotGoes x)) _ _ s
 refine wpAny_noted ?_
 rw [compTurn_list]
 refine wpAny_bind (wpAny_standAt (wpAny_bind (wpAny_mono (turn n s hI) (fun r s1 h1=>?_) fun _ _ h'=>h')))
 cases r with
 | none=>exact wpAny_pure h1
 | some v =>
   refine wpAny_bind (wpAny_mono h1 (fun _ s2 h2=>?_) fun _ _ h'=>h')
   refine wpAny_bind (wpAny_mono h2 (fun _ s3 h3=>wpAny_bind (wpAny_mono h3 (fun ok s4 h4=>?_) fun _ _ h'=>h')) fun _ _ h'=>h')
   cases ok with
   | false=>exact wpAny_pure ⟨rfl,h4⟩
   | true =>
     exact wpAny_bind (wpAny_bind (wpAny_mono h4 (fun x s5 h5=>wpAny_bind (wpAny_mono h5 (fun _ s6 h6=>wpAny_pure (wpAny_pure ⟨rfl,h6⟩)) fun _ _ h'=>h')) fun _ _ h'=>h'))
end
def aJ (X : Cx) (scope : Scope) (cl : List (Str × Addr)) (own : List Str) (fr : List (Str × Nat)) (C : Addr) (s2 : Shared) (H2 : Hp) (fp : List Addr) : Cx :=
 { prog := X.prog, w := X.w, K := X.K, mg := X.mg, base := X.base, A := X.A, N := own ++ fr.map (·.1), s₀ := s2, H₀ := H2, env := compEnvC scope cl C X.env, outer := X.stack, stack := X.stack,
   ex:=fp,fn:=fun _=>false,calm:=X.calm,pn:=[],xe:=fun _ _=>False }
def dH (own:List Str) (fr:List (Str×Nat)) (σ : St):St:=own.map (fun _=>none) ++ fr.map fun p=>(σ[p.2]?).join
def rP (env : Env) : List (Str × Addr) → Prop
 | []=>True
 | (n,c) :: r=>env.cells.lookup n = some c∧rP env r
theorem rP.get {env : Env} : ∀ {cl : List (Str × Addr)} {x : Str} {c : Addr}, rP env cl → cl.lookup x = some c → env.cells.lookup x = some c
 | [],_,_,_,h=>by simp at h
 | (n, d) :: r, x, c, ok, h => by
   rw [List.lookup_cons] at h
   cases e:x == n with
   | true =>
     rw [e] at h
     have e':x = n:=by simpa using e
     cases h
     rw [e']
     exact ok.1
   | false =>
     rw [e] at h
     exact rP.get ok.2 h
def pF (sc:Scope) (x:Str):Prop:=sc.names.lookup x = some .cell∨sc.names.lookup x = some .free
def rX (X : Cx) (scope : Scope) (cl : List (Str × Addr)) : List (Str × Nat) → Prop
 | []=>True
 | (x,j) :: r=>(X.N[j]? = some x∧pF X.env.scope x∧pF (relabel scope X.env) x∧(cl.lookup x).isSome = true)∧rX X scope cl r
theorem rX.get {X : Cx} {scope : Scope} {cl : List (Str × Addr)} : ∀ {fr : List (Str × Nat)} {i : Nat} {p : Str × Nat}, rX X scope cl fr → fr[i]? = some p →
   X.N[p.2]? = some p.1∧pF X.env.scope p.1∧pF (relabel scope X.env) p.1∧(cl.lookup p.1).isSome = true
 | [],_,_,_,h=>by simp at h
 | (x, j) :: r, 0, p, ok, h => by
   simp at h
   subst h
   exact ok.1
 | (x,j) :: r,i + 1,p,ok,h=>rX.get (i:=i) ok.2 (by simpa using h)
structure gy (X : Cx) (scope : Scope) (cl : List (Str × Addr)) (own : List Str) (fr : List (Str × Nat)) : Prop where
 pJ:closureFor scope X.env = pure cl
 cells:rP X.env cl
 b6:rX X scope cl fr
 kind:scope.kind = .function
 iz:∀ y ∈ scope.names,y.2 ≠ .cell
 names:∀ y ∈ scope.names,y.2 = .local→scope.names.lookup y.1 = some .local
 has:(scope.names.all fun y=>y.2 != .free || (cl.lookup y.1).isSome) = true
theorem c_ {env : Env} {cl : List (Str × Addr)} : ∀ {names : List (Str × NameKind)} {x : Str}, (∀ y ∈ names, y.2 ≠ .cell) → (names.all fun y => y.2 != .free || (cl.lookup y.1).isSome) = true →
   ((names.map fun (n, k) => if (k == NameKind.free && env.scope.kind == .function && env.kindOf n == some .cell) then (n, NameKind.cell) else (n, k)).lookup x = some .cell ∨
    (names.map fun (n,k)=>if (k == NameKind.free && env.scope.kind == .function && env.kindOf n == some .cell) then (n,NameKind.cell) else (n,k)).lookup x = some .free)→∃ c,cl.lookup x = some c
 | [],_,_,_,h=>by rcases h with h | h <;> simp at h
 | (n, k) :: r, x, nc, ha, h => by
   rw [List.all_cons,Bool.and_eq_true] at ha
   have ih:=@c_ env cl r x (fun y hy=>nc y (List.mem_cons_of_mem _ hy)) ha.2
   have nk:k ≠ .cell:=nc (n,k) List.mem_cons_self
   have hk:=ha.1
   cases hx:x == n with
   | true =>
     have ex:x = n:=by simpa using hx
     subst ex
     by_cases hf:k = .free
     · subst hf
       have z:(cl.lookup x).isSome = true:=by simpa using hk
       exact Option.isSome_iff_exists.mp z
     · exfalso
       have hb:(k == NameKind.free) = false:=by simpa using hf
       rcases h with h | h
       · rw [List.map_cons] at h
         simp only [hb,Bool.false_and,Bool.false_eq_true,if_false,List.lookup_cons,beq_self_eq_true] at h
         exact nk (Option.some.inj h)
       · rw [List.map_cons] at h
         simp only [hb,Bool.false_and,Bool.false_eq_true,if_false,List.lookup_cons,beq_self_eq_true] at h
         exact hf (Option.some.inj h)
   | false =>
     refine ih ?_
     rcases h with h | h
     · left
       rw [List.map_cons] at h
       by_cases hc:(k == NameKind.free && env.scope.kind == .function && env.kindOf n == some .cell) = true
       · simp only [hc,if_true,List.lookup_cons,hx] at h;exact h
       · simp only [hc,Bool.false_eq_true,if_false,List.lookup_cons,hx] at h;exact h
     · right
       rw [List.map_cons] at h
       by_cases hc:(k == NameKind.free && env.scope.kind == .function && env.kindOf n == some .cell) = true
       · simp only [hc,if_true,List.lookup_cons,hx] at h;exact h
       · simp only [hc,Bool.false_eq_true,if_false,List.lookup_cons,hx] at h;exact h
def mK (Y : Cx) (ifs : List Expr) (t : TT) : Prop :=
 ∀ (pins : List (Addr × Obj)) (s : Shared) (σ : St) (H : Hp) (Q : Bool → Hp → Prop), Inv Y pins σ H s → t σ H Q →
   wpAny (model Y.prog Y.w) Y.A (forIn ifs true fun c r=>if r = true then do let ok ← isTrue c Y.env (eval c Y.env);pure (ForInStep.yield ok) else pure (ForInStep.yield r)) (TP Y pins σ Q) Y.xe s
def pB:TT:=fun _ H Q=>Q true H
theorem eV {Y:Cx}:mK Y [] pB:=fun _ _ _ H _ I h=>wpAny_tests_nil ⟨H,I,h⟩
def pC (own : List Str) (fr : List (Str × Nat)) (wi : TI) (g : TG) (tc : TT) (te : TE) (fin : List V → Hp → Prop) : St → Hp → Prop := fun σ H => wi σ H fun J H1 =>
 ∃ W : Nat → Nat → List V → St → Hp → Prop, (∃ m, W 0 m [] (dH own fr σ) H1) ∧ ∀ i m ys σ' H', W i m ys σ' H' →
   (J.stop i H'∧ys.length ≤ sizeLine∧fin ys H') ∨
   (J.go i H' ∧ ∃ N : List V → St → Hp → Prop, (∀ ys2 σ2 H2, N ys2 σ2 H2 → ys2.length ≤ sizeLine ∧ ∃ m', m' < m ∧ W (i + 1) m' ys2 σ2 H2) ∧
     ∀ x H2,J.qx i H' x H2→g x σ' H2 fun σ3 H3=>tc σ3 H3 fun b H4=>if b = true then te σ3 H4 fun y H5=>N (ys ++ [y]) σ3 H5 else N ys σ3 H4)
structure Off (X : Cx) (pins : List (Addr × Obj)) (H : Hp) (C : Addr) : Prop where
 none:H C = none
 loc:C ≠ X.env.locals
 above:X.s₀.heap.objs.size ≤ C
 cell:∀ x c,X.env.cells.lookup x = some c→c ≠ C
 pin:∀ p ∈ X.pn ++ pins,p.1 ≠ C
section
variable {X:Cx} {tg elt iter:Expr} {ifs:List Expr} {scope:Scope} {cl:List (Str×Addr)} {own:List Str} {fr:List (Str×Nat)} {wi:TI} {g:TG} {tc:TT} {te:TE} {pos:Pos}
theorem oN (hc : X.calm = true) (S : gy X scope cl own fr) (hi : PI X tg iter wi) (hg : ∀ C s2 H2 fp, PG (aJ X scope cl own fr C s2 H2 fp) tg g)
   (ht:∀ C s2 H2 fp,mK (aJ X scope cl own fr C s2 H2 fp) ifs tc) (he:∀ C s2 H2 fp,PE (aJ X scope cl own fr C s2 H2 fp) elt te)
   {pins:List (Addr×Obj)} {s:Shared} {σ : St} {H:Hp} {fin:List V→Hp→Prop} (I:Inv X pins σ H s) (h:pC own fr wi g tc te fin σ H)
   {RR:Value→Addr→Result→Shared→Prop}
   (hR:∀ (D C:Addr) (s4:Shared) (H3:Hp) (ys:List V) (m:Str→Option Value),H3 D = none→Inv X pins σ (upd H3 D (.lst ys)) s4→s4.heap.Ns C m→Off X pins (upd H3 D (.lst ys)) C→fin ys H3→RR (.ref D) C (.ok .next) s4) :
   wpAny (model X.prog X.w) X.A (eval iter X.env) (fun x s1 => wpAny (model X.prog X.w) X.A (pyIter x) (fun itv s2 => wpAny (model X.prog X.w) X.A (newList []) (fun acc s3 =>
     wpAny (model X.prog X.w) X.A (newFunctionEnv scope X.env.globals cl [] X.env.qual none .none (some X.env)) (fun cenv s4 =>
       codeAny (model X.prog X.w) X.A (.compStart (.ListComp elt [⟨tg,iter,ifs,0⟩] scope pos) 0 itv acc { cenv with scope:=relabel scope X.env }) (RR acc cenv.locals) s4) X.xe s3) X.xe s2) X.xe s1) X.xe s:=by
 refine aY (hi pins s σ H _ I h) fun v s1 h1=>aY h1 fun itv s2 h2=>?_
 obtain ⟨it,fp,tn,J,H2,rfl,I2,T,st2,f2,W,⟨m0,w0⟩,turn⟩:=h2
 refine wpAny_newObj_type (wpAny_newFunctionEnv S.iz (by intro y hy;simp at hy) (fun h1 hns1 hsb1=>?_) S.kind)
 dsimp only at hns1 hsb1 ⊢
 generalize hHP:s2.heap.push { cls:=.type "list",dict:=none,data:=.seq ([]:List Value).toArray } = HP at hns1 hsb1 ⊢
 have hC:HP.objs.size = s2.heap.objs.size + 1:=by rw [← hHP,Heap.size_push]
 have hDC:s2.heap.objs.size ≠ HP.objs.size:=by rw [hC];exact Nat.ne_of_lt (Nat.lt_succ_self _)
 have below:∀ b,b < s2.heap.objs.size→b ≠ HP.objs.size∧b ≠ s2.heap.objs.size:=fun b hb=>⟨by rw [hC];exact Nat.ne_of_lt (Nat.lt_succ_of_lt hb),Nat.ne_of_lt hb⟩
 have old:∀ b o,s2.heap.get? b = some o→h1.get? b = some o:=fun b o e=>hsb1.extBut b o (below b (Heap.lt_size e)).1 (Heap.get?_push_of_some _ (hHP ▸ Heap.get?_push_of_some _ e))
 have hacc:h1.get? s2.heap.objs.size = some (bx []):=hsb1.extBut _ _ hDC (Heap.get?_push_of_some _ (hHP ▸ Heap.get?_push_size _ rfl))
 have hfpo:∀ b ∈ fp,b < s2.heap.objs.size:=fun b hb=>by obtain ⟨o,e,_⟩:=T.obj 0 _ st2 b hb;exact Heap.lt_size e
 have hcells:∀ x c,cl.lookup x = some c→X.env.cells.lookup x = some c:=fun x c e=>S.cells.get e
 have hcD:∀ x c,X.env.cells.lookup x = some c→c < s2.heap.objs.size:=fun x c e=>by obtain ⟨v,q⟩:=I2.cell x c e;exact q.lt
 have st1:tn 0 h1:=T.keep _ _ _ st2 fun b _ o e=>old b o e
 have hDfree:H2 s2.heap.objs.size = none:=I2.ax.fresh (Nat.le_refl _)
 have hCfree:H2 HP.objs.size = none:=I2.ax.fresh (by rw [hC];exact Nat.le_succ _)
 have nostk : ∀ b, s2.heap.objs.size ≤ b → b ∉ L2.b6 X.stack := fun b hb hm => by
   rcases List.mem_cons.mp (I2.eM b hm) with e | e
   · exact absurd I2.lt (by rw [← e];exact Nat.not_lt.mpr hb)
   · exact I2.uf hb e
 have hDlt:s2.heap.objs.size < h1.objs.size:=Heap.lt_size hacc
 -- the block's context
 have YOk : (aJ X scope cl own fr HP.objs.size s2 H2 fp).Ok := by
   refine ⟨I2.ok.mod, S.kind, I2.ok.glob, I2.ok.blt, ?_, fun x y c e1 e2 => I2.ok.inj x y c (hcells _ _ e1) (hcells _ _ e2), fun x hx => ?_, fun x c hf => ?_, I2.ok.hd, I2.ok.frames, .inl rfl, fun b hb => ⟨?_, fun x c e => ?_⟩,
     I2.bs,Nat.le_trans I2.ok.jh I2.sz,fun b o e hb=>?_,fun b hb hm=>?_,I2.stack,I2.gX⟩
   · show s2.heap.objs.size ≤ HP.objs.size
     rw [hC];exact Nat.le_succ _
   · exact c_ (env:=X.env) S.iz S.has hx
   · cases hf
   · exact (below b (hfpo b hb)).1
   · exact (f2 b hb).2.2.2.2.1 x c (hcells _ _ e)
   · rcases (f2 b hb).2.2.2.1 with z | z
     · exact I2.ok.i4 b o e z
     · exact absurd (Heap.lt_size (I2.ok.bs b o e).1) (Nat.not_lt.mpr z)
   · rcases List.mem_cons.mp (I2.eM b hm) with e | e
     · exact (f2 b hb).2.1 e
     · exact (f2 b hb).2.2.1 e
 have hpinD : ∀ {h' : Heap} {its : List Value} {H' : Hp}, h'.get? s2.heap.objs.size = some (bx its) → H' s2.heap.objs.size = none → ∀ p ∈ ([(s2.heap.objs.size, bx its)] : List (Addr × Obj)),
     h'.get? p.1 = some p.2∧H' p.1 = none∧p.1 ≠ HP.objs.size∧p.1 ∉ L2.b6 X.stack∧∀ v,p.2.data ≠ .cell v:=fun {h' its H'} e n p hp=>by
   have e1:p = (s2.heap.objs.size,bx its):=by simpa using hp
   subst e1
   exact ⟨e,n,hDC,nostk _ (Nat.le_refl _),fun v z=>by cases z⟩
 have IY : Inv (aJ X scope cl own fr HP.objs.size s2 H2 fp) [(s2.heap.objs.size, bx [])] (dH own fr σ) H2 { s2 with heap := h1, toks := s2.toks + ([] : List (Str × Value)).length } := by
   refine ⟨YOk,rfl,I2.bare,Un.kept old,⟨_,hns1,fun i x v e1 e2 e3=>?_⟩,fun x c e=>?_,hCfree,fun x c e=>I2.ed x c (hcells _ _ e),hpinD hacc hDfree,I2.ax.kept old,?_⟩
   · have e1' : (own ++ fr.map (·.1))[i]? = some x := e1
     have e2':(own.map (fun _=>(none:Option V)) ++ fr.map fun p=>(σ[p.2]?).join)[i]? = some (some v):=e2
     by_cases hi':i < own.length
     · rw [List.getElem?_append_left (by simpa using hi'), List.getElem?_map] at e2'
       rw [List.getElem?_eq_getElem hi'] at e2'
       cases e2'
     · rw [List.getElem?_append_right (by simpa using hi'), List.getElem?_map] at e2'
       rw [List.getElem?_append_right (Nat.not_lt.mp hi'),List.getElem?_map] at e1'
       rw [List.length_map] at e2'
       cases ef:fr[i - own.length]? with
       | none=>rw [ef] at e1';cases e1'
       | some p =>
         rw [ef] at e1' e2'
         have ex:p.1 = x:=Option.some.inj e1'
         have ev:(σ[p.2]?).join = some v:=Option.some.inj e2'
         obtain ⟨hN,hk,hk2,hs⟩:=S.b6.get ef
         have eσ : σ[p.2]? = some (some v) := by
           cases q : σ[p.2]? with
           | none=>rw [q] at ev;cases ev
           | some o=>rw [q] at ev;exact congrArg some ev
         obtain ⟨m,hn,hl⟩:=I2.loc
         obtain ⟨u,r,l⟩:=hl p.2 p.1 v hN eσ (by rcases hk with k | k;exact .inr (.inl k);exact .inr (.inr k))
         subst ex
         obtain ⟨c,ec⟩:=Option.isSome_iff_exists.mp hs
         refine ⟨u,r,.inr ⟨hk2,c,ec,?_⟩⟩
         rcases l with ⟨hl1,_⟩ | ⟨_,c',ec',z⟩
         · have hl1' : X.env.scope.names.lookup p.1 = some .local := hl1
           rcases hk with z | z
           · rw [z] at hl1';cases hl1'
           · rw [z] at hl1';cases hl1'
         · have := hcells _ _ ec
           rw [ec'] at this
           cases this
           exact z.keeps old
   · obtain ⟨v, z⟩ := I2.cell x c (hcells _ _ e)
     exact ⟨v,z.keeps old⟩
   · show (own.map (fun _ => (none : Option V)) ++ fr.map fun p => (σ[p.2]?).join).length = (own ++ fr.map (·.1)).length
     simp
 have stat : ∀ {its : List Value} {H' : Hp}, (∀ b ∈ fp, H' b = none) → ∀ b ∈ fp, hX (aJ X scope cl own fr HP.objs.size s2 H2 fp) [(s2.heap.objs.size, bx its)] H' b := fun {its H'} hn b hb =>
   ⟨hn b hb, (below b (hfpo b hb)).1, fun hm => by
       rcases List.mem_cons.mp (I2.eM b hm) with e | e
       · exact (f2 b hb).2.1 e
       · exact (f2 b hb).2.2.1 e,.inl hb,fun x c e=>(f2 b hb).2.2.2.2.1 x c (hcells _ _ e),fun p hp=>by
       have e1 : p = (s2.heap.objs.size, bx its) := by
         have hp':p ∈ ([]:List (Addr×Obj)) ++ [(s2.heap.objs.size,bx its)]:=hp
         simpa using hp'
       subst e1
       exact (below b (hfpo b hb)).2.symm⟩
 have loop : ∀ s3 : Shared, s3 = { s2 with heap := h1, toks := s2.toks + ([] : List (Str × Value)).length } →
     codeAny (model X.prog X.w) X.A (.compLoop (.ListComp elt [⟨tg,iter,ifs,0⟩] scope pos) 0 (.ref it) (.ref s2.heap.objs.size) (compEnvC scope cl HP.objs.size X.env)) (RR (.ref s2.heap.objs.size) HP.objs.size) s3:=by
   rintro s3 rfl
   refine iq (fun n s' => ∃ i ys its σ' H', Inv (aJ X scope cl own fr HP.objs.size s2 H2 fp) [(s2.heap.objs.size, bx its)] σ' H' s' ∧ aK ys its ∧ tn i s'.heap ∧ (∀ b ∈ fp, H' b = none) ∧ W i n ys σ' H') ?_ m0
     ⟨0,[],[],dH own fr σ,H2,IY,.nil,st1,fun b hb=>(f2 b hb).1,w0⟩
   rintro n s3 ⟨i,ys,its,σ3,H3,I3,rv,st3,fr3,w3⟩
   rcases turn i n ys σ3 H3 w3 with ⟨stop,hz,qn⟩ | ⟨go,N,hN,step⟩
   · refine wpAny_mono (T.done (aJ X scope cl own fr HP.objs.size s2 H2 fp) rfl rfl rfl hc i _ s3 σ3 H3 (fun _ _ => False) I3 (stat fr3) st3 stop) (fun r s4 h4 => ?_) fun _ _ f => f.elim
     obtain ⟨hr,I4⟩:=h4
     subst hr
     obtain ⟨eD,nD,_⟩:=I4.pin (s2.heap.objs.size,bx its) (by simp [aJ])
     obtain ⟨m,hn,_⟩:=id I4.loc
     have nC:H3 HP.objs.size = none:=I4.free
     have bu:=I4.base
     have J4 : Inv X pins σ (upd H3 s2.heap.objs.size (.lst ys)) s4 := by
       refine I2.i6 (ch:=fp) I4.os ⟨fun b o e n hb hx=>bu.keep b o e n hb hx,fun b o e n hb hx=>bu.slot b o e n hb hx,fun b o e n hx=>?_,fun b o e hx=>bu.there b o e hx,fun b xs e=>?_,fun b o u e=>?_,fun b ps e=>?_⟩ ?_ I4.bare ?_
       · rw [aB (below b (Heap.lt_size e)).2];exact bu.free b o e n hx
       · have z := bu.fU b xs e
         rw [aB (aD z nD)];exact z
       · have z := bu.fz b o u e
         rw [aB (aD z nD)];exact z
       · obtain ⟨more, z⟩ := bu.fV b ps e
         exact ⟨more,by rw [aB (aD z nD)];exact z⟩
       · intro b o e
         by_cases hb:b = s2.heap.objs.size
         · subst hb
           rw [ak] at e
           cases e
           exact ⟨hz,its,its.length,rv,eD⟩
         · rw [aB hb] at e
           exact (I4.ax b o e).gb (fun c u _ q=>q) (fun c q=>by rw [aB (aD q nD)];exact q) fun c xs q=>by rw [aB (aD q nD)];exact q
       · intro b hb
         exact ⟨(f2 b hb).2.2.2.1,(f2 b hb).2.1,(f2 b hb).2.2.2.2.1,(f2 b hb).2.2.2.2.2⟩
     refine hR _ _ s4 H3 ys m nD J4 hn ⟨?_,?_,?_,?_,?_⟩ qn
     · rw [aB hDC.symm];exact nC
     · exact Nat.ne_of_gt (Nat.lt_of_lt_of_le I2.lt (by rw [hC];exact Nat.le_succ _))
     · exact Nat.le_trans I2.sz (by rw [hC];exact Nat.le_succ _)
     · exact fun x c e=>(below c (hcD x c e)).1
     · exact fun p hp=>(below p.1 (Heap.lt_size (I2.pin p hp).1)).1
   · refine wpAny_mono (T.item (aJ X scope cl own fr HP.objs.size s2 H2 fp) rfl rfl rfl hc i _ s3 σ3 H3 (fun _ _ => False) I3 (stat fr3) st3 go) (fun r s4 h4 => ?_) fun _ _ f => f.elim
     obtain ⟨u,hr,h4⟩:=h4
     subst hr
     refine wpAny_mono h4 (fun _ s5 h5=>?_) fun _ _ f=>f.elim
     obtain ⟨x,H5,I5,r5,y5,st5,fr5⟩:=h5
     have I5':=I5.pinned (stat fr5) (T.obj _ _ st5)
     refine wpAny_mono (hg _ _ _ _ _ s5 σ3 H5 x u _ I5' r5 (step x H5 y5)) (fun _ s6 h6=>?_) fun _ _ f=>f.elim
     obtain ⟨σ6,H6,I6,q6⟩:=h6
     refine wpAny_mono (ht _ _ _ _ _ s6 σ6 H6 _ I6 q6) (fun ok s7 h7=>?_) fun _ _ f=>f.elim
     obtain ⟨H7,I7,q7⟩:=h7
     have keepT : ∀ {σ8 : St} {H8 : Hp} {s8 : Shared} {l : List (Addr × Obj)}, Inv (aJ X scope cl own fr HP.objs.size s2 H2 fp) (l ++ cO fp s5.heap) σ8 H8 s8 → tn (i + 1) s8.heap ∧ ∀ b ∈ fp, H8 b = none := fun {σ8 H8 s8 l} I8 => by
       refine ⟨T.keep _ _ _ st5 fun b hb o e=>(I8.pin (b,o) (List.mem_append_right _ (List.mem_append_right _ (df hb e)))).1,fun b hb=>?_⟩
       obtain ⟨o,e,_⟩:=T.obj _ _ st5 b hb
       exact (I8.pin (b,o) (List.mem_append_right _ (List.mem_append_right _ (df hb e)))).2.1
     cases ok with
     | false =>
       rw [if_neg Bool.false_ne_true] at q7 ⊢
       obtain ⟨_,m',hm,w7⟩:=hN _ _ _ q7
       exact ⟨m',hm,i + 1,ys,its,σ6,H7,I7.gh,rv,(keepT I7).1,(keepT I7).2,w7⟩
     | true =>
       rw [if_pos rfl] at q7 ⊢
       refine wpAny_mono (he _ _ _ _ _ s7 σ6 H7 _ I7 q7) (fun y s8 h8=>?_) fun _ _ f=>f.elim
       obtain ⟨yv,H8,I8,r8,n8⟩:=h8
       obtain ⟨hlt',m',hm,w8⟩:=hN _ _ _ n8
       have hlt:ys.length < sizeLine:=by rw [List.length_append] at hlt';exact hlt'
       obtain ⟨eD,nD,nL,_,_⟩:=I8.pin (s2.heap.objs.size,bx its) (by simp [aJ])
       refine append_at (its:=its.toArray) (n:=its.length) (hsz:=by rw [List.size_toArray,← rv.length];exact Nat.le_of_lt hlt) eD fun h9 sb9 eD9=>?_
       have I8p:Inv (aJ X scope cl own fr HP.objs.size s2 H2 fp) (cO fp s5.heap) σ6 H8 s8:=I8.fD fun p hp=>I8.pin p (List.mem_append_right _ (List.mem_append_right _ hp))
       have I9p : Inv (aJ X scope cl own fr HP.objs.size s2 H2 fp) (cO fp s5.heap) σ6 H8 { s8 with heap := h9 } :=
         I8p.turned (t' := s8.toks) (fun b o hb e => (sb9.2 b hb).trans e) nD nL (.inr (Nat.le_refl _)) (fun x c e => (below c (hcD x c (hcells _ _ e))).2) fun p hp => by
           have hp':p ∈ cO fp s5.heap:=by simpa [aJ] using hp
           exact (below p.1 (hfpo _ (ie hp').1)).2
       have eD9':h9.get? s2.heap.objs.size = some (bx (its ++ [y])):=eD9.trans (congrArg some (jD its y))
       have I9:Inv (aJ X scope cl own fr HP.objs.size s2 H2 fp) [(s2.heap.objs.size,bx (its ++ [y]))] σ6 H8 { s8 with heap:=h9 }:=I9p.fD (hpinD eD9' nD)
       have K9:=keepT (l:=[]) (by simpa using I9p)
       exact ⟨m',hm,i + 1,ys ++ [yv],its ++ [y],σ6,H8,I9,rv.append (.cons r8 .nil),K9.1,K9.2,w8⟩
 exact codeAny_compStart_list (loop _ rfl) (T.self _ 0 _ _ _ st1 (loop _ rfl))
def pO (own:List Str) (fr:List (Str×Nat)) (wi:TI) (g:TG) (tc:TT) (te:TE):TE:=fun σ H Q=>pC own fr wi g tc te (fun ys H3=>∀ p,H3 p = none→Q (.ref p) (upd H3 p (.lst ys))) σ H
theorem kf (hc : X.calm = true) (S : gy X scope cl own fr) (hi : PI X tg iter wi) (hg : ∀ C s2 H2 fp, PG (aJ X scope cl own fr C s2 H2 fp) tg g)
   (ht:∀ C s2 H2 fp,mK (aJ X scope cl own fr C s2 H2 fp) ifs tc) (he:∀ C s2 H2 fp,PE (aJ X scope cl own fr C s2 H2 fp) elt te)
   (hs:∀ x,foldedSetIterable iter X.env x = pure x:=by intro _;rfl):PE X (.ListComp elt [⟨tg,iter,ifs,0⟩] scope pos) (pO own fr wi g tc te):=by
 intro pins s σ H Q I h
 rw [eval_ListComp]
 refine wpAny_comprehension_free (use:=none) rfl hs S.pJ S.kind S.names ?_
 refine oN hc S hi hg ht he I h fun D C s4 H3 ys m nD J hn off q=>?_
 refine ⟨m,hn,fun h' sb=>⟨.ref D,_,J.turned (t':=s4.toks) (fun b o hb e=>(sb.2 b hb).trans e) off.none off.loc (.inr off.above) off.cell off.pin,rfl,q D nD⟩⟩
def rL (i:Nat) (own:List Str) (fr:List (Str×Nat)) (wi:TI) (g:TG) (tc:TT) (te:TE):TS:=fun D σ H=>pC own fr wi g tc te (fun ys H3=>∀ p,H3 p = none→D.nx (σ.set i (some (.ref p))) (upd H3 p (.lst ys))) σ H
theorem tF {i : Nat} {y : Str} {py spos : Pos} (hN : X.N.Nodup) (hi' : X.N[i]? = some y) (hx : X.env.scope.names.lookup y = some .local) (hc : X.calm = true) (S : gy X scope cl own fr) (hi : PI X tg iter wi) (hg : ∀ C s2 H2 fp, PG (aJ X scope cl own fr C s2 H2 fp) tg g)
   (ht:∀ C s2 H2 fp,mK (aJ X scope cl own fr C s2 H2 fp) ifs tc) (he:∀ C s2 H2 fp,PE (aJ X scope cl own fr C s2 H2 fp) elt te)
   (hsw:swapsWith (.ListComp elt [⟨tg,iter,ifs,0⟩] scope pos) (some (.Name y py)) spos.line X.env = pure true:=by rfl)
   (hs:∀ x,foldedSetIterable iter X.env x = pure x:=by intro _;rfl):PS X (.Assign [.Name y py] (.ListComp elt [⟨tg,iter,ifs,0⟩] scope pos) spos) (rL i own fr wi g tc te):=by
 intro pins s σ H D I h
 rw [exec_Assign_Name_used _ _ _ _ hsw]
 refine wpAny_bind (wpAny_standAt (wpAny_bind ?_))
 show wpAny _ X.A (do let _ ← comprehension (.ListComp elt [⟨tg,iter,ifs,0⟩] scope pos) scope X.env _ (newList []) false (eval iter X.env) (some (assign (.Name y py) X.env))) _ _ s
 refine wpAny_bind (wpAny_mono (wpAny_comprehension_free (use:=some (assign (.Name y py) X.env)) (Q:=fun _ s'=>SP X pins D .next s') rfl hs S.pJ S.kind S.names ?_) (fun _ s' hq=>wpAny_pure (wpAny_pure hq)) fun _ _ e=>e)
 refine oN hc S hi hg ht he I h fun Da C s4 H3 ys m nD J hn off q=>?_
 show wpAny _ X.A (assign (.Name y py) X.env (.ref Da)) _ _ _
 refine wpAny_assign_Name (ia J hN hi' (.inl hx) (v:=.ref Da) rfl (fun s5 I5 hsb=>?_) (.inr hx))
 obtain ⟨a,sb,ha⟩:=hsb
 have nCa : C ≠ a := by
   rcases ha with z | z
   · rw [z];exact off.loc
   · exact (off.cell _ _ z).symm
 refine ⟨m,hn.sameBut sb nCa,fun h' sb'=>⟨_,_,I5.turned (t':=s5.toks) (fun b o hb e=>(sb'.2 b hb).trans e) off.none off.loc (.inr off.above) off.cell off.pin,q Da nD⟩⟩
end
section
variable {K:PySem.W.Frag} {a:Addr} {xs:List V} {own:List Str} {fr:List (Str×Nat)} {g:TG} {tc:TT} {te:TE} {fin:List V→Hp→Prop} {σ : St} {H:Hp}
def fT (J : It) (g : TG) (tc : TT) (te : TE) (fin : List V → Hp → Prop) (σ0 : St) (H1 : Hp) : Prop :=
 ∃ W : Nat → Nat → List V → St → Hp → Prop, (∃ m, W 0 m [] σ0 H1) ∧ ∀ i m ys σ' H', W i m ys σ' H' →
   (J.stop i H'∧ys.length ≤ sizeLine∧fin ys H') ∨
   (J.go i H' ∧ ∃ N : List V → St → Hp → Prop, (∀ ys2 σ2 H2, N ys2 σ2 H2 → ys2.length ≤ sizeLine ∧ ∃ m', m' < m ∧ W (i + 1) m' ys2 σ2 H2) ∧
     ∀ x H2,J.qx i H' x H2→g x σ' H2 fun σ3 H3=>tc σ3 H3 fun b H4=>if b = true then te σ3 H4 fun y H5=>N (ys ++ [y]) σ3 H5 else N ys σ3 H4)
theorem fN {σ0 : St} (Pv : Nat → List V → St → Hp → Prop) (h0 : Pv 0 [] σ0 H) (hl : ∀ i ys σ H, i ≤ xs.length → Pv i ys σ H → aH K H a xs ∧ ys.length ≤ sizeLine)
   (hs:∀ i x ys σ H,xs[i]? = some x→Pv i ys σ H→g x σ H fun σ3 H3=>tc σ3 H3 fun b H4=>if b = true then te σ3 H4 fun y H5=>Pv (i + 1) (ys ++ [y]) σ3 H5 else Pv (i + 1) ys σ3 H4)
   (hd:∀ ys σ H,Pv xs.length ys σ H→fin ys H):fT (l_ K a) g tc te fin σ0 H:=by
 refine ⟨fun i m ys σ H=>m = xs.length - i∧i ≤ xs.length∧Pv i ys σ H,⟨xs.length,by simp,Nat.zero_le _,h0⟩,?_⟩
 rintro i m ys σ H ⟨rfl,hi,p⟩
 obtain ⟨q,hz⟩:=hl i ys σ H hi p
 by_cases hlt:i < xs.length
 · refine .inr ⟨⟨xs, xs[i], q, by simp [hlt]⟩, Pv (i + 1), fun ys2 σ2 H2 p' => ⟨(hl (i + 1) ys2 σ2 H2 hlt p').2, xs.length - (i + 1), by omega, rfl, hlt, p'⟩, fun x H2 y => ?_⟩
   obtain ⟨e,y⟩:=y
   subst e
   exact hs i x ys σ _ (y xs q) p
 · have e : i = xs.length := by omega
   subst e
   exact .inl ⟨⟨xs,q,Nat.le_refl _⟩,hz,hd ys σ H p⟩
end
end L3
namespace L3
open PySem PySem.Spec PyProof.Rows L2 PySem.SeqAt
theorem a8 {H : Hp} {p q : Addr} {o u : HO} (hq : H q = some u) (hp : H p = none) : upd H p o q = some u := by
 rw [aB (aD hq hp)];exact hq
theorem ar {H:Hp} {p:Addr} {o:HO} (h:H p = none):aq H (upd H p o):=fun b u q=>a8 q h
mutual
def Dp (K : PySem.W.Frag) (H : Hp) : PyData → V → Prop
 | .none,v=>v = .aO
 | .bool b,v=>v = .bl b
 | .int i,v=>v = .int i
 | .str x,v=>v = .str x
 | .list ds,v=>∃ a xs,v = .ref a∧aH K H a xs∧da K H ds xs
 | .tuple ds,v=>∃ a xs,v = .ref a∧cw K H a xs∧da K H ds xs
 | .dict _,_=>False
def da (K : PySem.W.Frag) (H : Hp) : List PyData → List V → Prop
 | [],vs=>vs = []
 | d :: ds,vs=>∃ v r,vs = v :: r∧Dp K H d v∧da K H ds r
end
theorem i_ {K : PySem.W.Frag} {H : Hp} : ∀ ns : List Int, da K H (ns.map PyData.int) (ns.map V.int)
 | []=>by rw [List.map_nil,List.map_nil,da]
 | n :: ns => by
   rw [List.map_cons,List.map_cons,da]
   exact ⟨_,_,rfl,by rw [Dp],i_ ns⟩
theorem qv {K:PySem.W.Frag} {H:Hp} (x:Str):Dp K H (.str x) (.str x):=by rw [Dp]
theorem rW {K : PySem.W.Frag} {H : Hp} {a : Addr} {xs : List V} {ds : List PyData} (h : aH K H a xs) (q : da K H ds xs) : Dp K H (.list ds) (.ref a) := by
 rw [Dp];exact ⟨a,_,rfl,h,q⟩
theorem pP {K : PySem.W.Frag} {H : Hp} {a : Addr} {xs : List V} {ds : List PyData} (h : cw K H a xs) (q : da K H ds xs) : Dp K H (.tuple ds) (.ref a) := by
 rw [Dp];exact ⟨a,_,rfl,h,q⟩
theorem oO {K:PySem.W.Frag} {H:Hp}:da K H [] []:=by rw [da]
theorem gP {K : PySem.W.Frag} {H : Hp} {d : PyData} {ds : List PyData} {v : V} {r : List V} (h : Dp K H d v) (q : da K H ds r) : da K H (d :: ds) (v :: r) := by
 rw [da];exact ⟨_,_,rfl,h,q⟩
theorem ir : ∀ ns : List Int, PyData.canLayAll0 (ns.map PyData.int) = true
 | []=>rfl
 | n :: ns => by
   rw [List.map_cons,PyData.canLayAll0,ir ns];rfl
theorem i8 : ∀ ns : List Int, PyData.depthAll (ns.map PyData.int) = 0
 | []=>rfl
 | n :: ns => by
   rw [List.map_cons,PyData.depthAll,i8 ns];rfl
section
variable {X:Cx} {pins:List (Addr×Obj)} {σ : St} {H:Hp} {s:Shared}
mutual
theorem g0 (I : Inv X pins σ H s) : ∀ (d : PyData) (v : V) (u : Value), Dp X.K H d v → RelV v u → ∃ as, Reads s.heap u d as
 | .none, v, u, h, r => by
   rw [Dp] at h;subst h;cases (show u = Value.none from r);exact ⟨_,.none⟩
 | .bool b, v, u, h, r => by
   rw [Dp] at h;subst h;cases (show u = Value.bool b from r);exact ⟨_,.bool b⟩
 | .int i, v, u, h, r => by
   rw [Dp] at h;subst h;obtain ⟨t,e⟩:=(show ∃ t,u = Value.int i t from r);subst e;exact ⟨_,.int i t⟩
 | .str x, v, u, h, r => by
   rw [Dp] at h;subst h;obtain ⟨t,e⟩:=(show ∃ t,u = Value.str x t from r);subst e;exact ⟨_,.str x t⟩
 | .list ds, v, u, h, r => by
   rw [Dp] at h
   obtain ⟨a,xs,e,hq,ha⟩:=h
   subst e
   cases (show u = Value.ref a from r)
   obtain ⟨its,rv,pl,hz⟩:=I.list hq
   obtain ⟨o,ho,hc,n,hd⟩:=pl.isList
   obtain ⟨as,z⟩:=ip I ds xs its ha rv
   exact ⟨_,.list ho hc hd (by simpa using z)⟩
 | .tuple ds, v, u, h, r => by
   rw [Dp] at h
   obtain ⟨a,xs,e,hq,ha⟩:=h
   subst e
   cases (show u = Value.ref a from r)
   obtain ⟨its,rv,pl,hz⟩:=I.tuple hq
   obtain ⟨o,ho,hc,n,hd⟩:=pl
   obtain ⟨as,z⟩:=ip I ds xs its ha rv
   exact ⟨_,.tuple ho hc hd (by simpa using z)⟩
 | .dict _,v,u,h,r=>by rw [Dp] at h;exact h.elim
theorem ip (I : Inv X pins σ H s) : ∀ (ds : List PyData) (vs : List V) (us : List Value), da X.K H ds vs → aK vs us → ∃ as, ReadsAll s.heap us ds as
 | [], vs, us, h, r => by
   rw [da] at h;subst h;cases r;exact ⟨_,.nil⟩
 | d :: ds, vs, us, h, r => by
   rw [da] at h
   obtain ⟨v,rr,e,h1,h2⟩:=h
   subst e
   cases r with
   | cons r1 r2 =>
     obtain ⟨as,z1⟩:=g0 I d _ _ h1 r1
     obtain ⟨bs,z2⟩:=ip I ds _ _ h2 r2
     exact ⟨_,.cons z1 z2⟩
end
end
def EN (K:PySem.W.Frag):R2:=fun x y H Q=>∃ dx dy,Dp K H dx x∧Dp K H dy y∧shaped dx = true∧shaped dy = true∧Q (.bl (PyData.eqv dx dy)) H
def D0 (K:PySem.W.Frag):R2:=fun x y H Q=>∃ dx dy,Dp K H dx x∧Dp K H dy y∧shaped dx = true∧shaped dy = true∧Q (.bl (!PyData.eqv dx dy)) H
def t5 (K:PySem.W.Frag):R2:=fun x y H Q=>Lp x y H Q∨EN K x y H Q
def uv (K:PySem.W.Frag):R2:=fun x y H Q=>Lk x y H Q∨D0 K x y H Q
section
variable {X:Cx}
theorem En (hu : X.A.units + 64 < cLine) : b7 X (compareOp .Eq) (EN X.K) := by
 intro pins s σ H x y v u Q I rx ry h
 obtain ⟨dx,dy,hx,hy,sx,sy,q⟩:=h
 obtain ⟨as,ra⟩:=g0 I dx x v hx rx
 obtain ⟨bs,rb⟩:=g0 I dy y u hy ry
 exact eq_dataH ra rb sx sy hu ⟨.bl _,H,I,rfl,q⟩
theorem BX (hu : X.A.units + 64 < cLine) : b7 X (compareOp .NotEq) (D0 X.K) := by
 intro pins s σ H x y v u Q I rx ry h
 obtain ⟨dx,dy,hx,hy,sx,sy,q⟩:=h
 obtain ⟨as,ra⟩:=g0 I dx x v hx rx
 obtain ⟨bs,rb⟩:=g0 I dy y u hy ry
 exact ne_dataH ra rb sx sy hu ⟨.bl _,H,I,rfl,q⟩
theorem CN (hu:X.A.units + 64 < cLine):b7 X (compareOp .Eq) (t5 X.K):=IC.or (En hu)
theorem CV (hu:X.A.units + 64 < cLine):b7 X (compareOp .NotEq) (uv X.K):=Jz.or (BX hu)
end
theorem ph (d:PyData) (h:shaped d = true):d.canLay0 = true:=(Bool.and_eq_true_iff.mp h).1
theorem KQ {K:PySem.W.Frag} {x y:V} {H:Hp} {Q:VK} (h:tT x y = true) (q:Q (.bl (decide (x = y))) H):t5 K x y H Q:=.inl ⟨h,q⟩
theorem F8 {K:PySem.W.Frag} {x y:V} {H:Hp} {Q:VK} (h:tT x y = true) (q:Q (.bl (!decide (x = y))) H):uv K x y H Q:=.inl ⟨h,q⟩
theorem pE {K : PySem.W.Frag} {x y : V} {H : Hp} {Q : VK} (d : PyData) (hx : Dp K H d x) (hy : Dp K H d y) (hs : shaped d = true) (q : Q (.bl true) H) : t5 K x y H Q :=
 .inr ⟨d,d,hx,hy,hs,hs,by rw [eqv_refl d (ph d hs)];exact q⟩
theorem zA {K : PySem.W.Frag} {x y : V} {H : Hp} {Q : VK} (d : PyData) (hx : Dp K H d x) (hy : Dp K H d y) (hs : shaped d = true) (q : Q (.bl false) H) : uv K x y H Q :=
 .inr ⟨d,d,hx,hy,hs,hs,by rw [eqv_refl d (ph d hs)];exact q⟩
def gj : V → Value
 | .ty n=>.type n
 | .ref a=>.ref a
 | _=>.none
theorem rf {c : V} {u : Value} (r : RelV c u) (h : gj c ≠ .none) : u = gj c := by
 cases c <;> first | exact r | exact (h rfl).elim
def wk (K:PySem.W.Frag):List V→Hp→VK→Prop:=fun xs H Q=>∃ x c t b,xs = [x,c]∧gj c ≠ .none∧dG K H x t∧PySem.W.kitOne K t (gj c) = some b∧Q (.bl b) H
theorem wR {X : Cx} : dS X (.builtin "isinstance") (wk X.K) := by
 intro pins s σ H xs us Q I r h
 obtain ⟨x,c,t,b,rfl,hc,ty,e,q⟩:=h
 obtain ⟨u,w',rfl,rx,rc⟩:=vals2 r
 cases rf rc hc
 exact vh I rx ty e fun tk=>⟨.bl b,H,I.tok _,rfl,q⟩
theorem KL {K:PySem.W.Frag} {x c:V} {H:Hp} {Q:VK} {t:Value} {b:Bool} (hc:gj c ≠ .none) (ty:dG K H x t) (e:PySem.W.kitOne K t (gj c) = some b) (q:Q (.bl b) H):wk K [x,c] H Q:=⟨x,c,t,b,rfl,hc,ty,e,q⟩
def tK (K:PySem.W.Frag):List V→Hp→VK→Prop:=fun xs H Q=>∃ (p:Addr) (bs:List Bool),xs = [.ref p]∧aH K H p (bs.map V.bl)∧Q (.bl (bs.all id)) H
theorem all_range (bs : List Bool) : (List.range bs.length).all (fun i => bs.getD i false) = bs.all id := by
 induction bs with
 | nil=>rfl
 | cons b r ih =>
   rw [List.length_cons,List.range_succ_eq_map,List.all_cons,List.all_cons,List.all_map]
   rw [← ih]
   rfl
theorem wo {X : Cx} (hc : X.calm = true) : dS X (.builtin "all") (tK X.K) := by
 intro pins s σ H xs us Q I r h
 obtain ⟨p,bs,rfl,hq,q⟩:=h
 obtain ⟨u,rfl,rx⟩:=vals1 r
 cases rx
 obtain ⟨its,rv,pl,hz⟩:=I.list hq
 have hlen:=rv.length
 rw [List.length_map] at hlen
 have hlt:p < s.heap.objs.size:=by obtain ⟨o,e,_⟩:=pl.isList;exact Heap.lt_size e
 refine call_all_walk (wpAny_pyIter_list pl.isList ?_)
 refine ⟨s.heap.objs.size,_,_,_,_,_,fun i=>bs.getD i false,rfl,Walks.list (by exact I.ok.hd hc) s.heap.objs.size p (Nat.ne_of_lt hlt) its.toArray,⟨⟨_,Heap.get?_push_size _ rfl,rfl,rfl⟩,pl.isList.push _⟩,?_,?_⟩
 · intro i v s' Q' E' hP hQ'
   have hP':its[i]? = some v:=by simpa using hP
   have hi:i < its.length:=(List.getElem?_eq_some_iff.mp hP').1
   have hb : (bs.map V.bl)[i]? = some (V.bl (bs.getD i false)) := by
     rw [List.getElem?_map,List.getElem?_eq_getElem (by omega)]
     simp [List.getD,List.getElem?_eq_getElem (show i < bs.length by omega)]
   obtain ⟨u',hu',ru'⟩:=rv.get hb
   rw [hP'] at hu'
   cases hu'
   cases (show v = Value.bool _ from ru')
   exact wpAny_truthy_bool hQ'
 · intro h' tk kk
   have e : (List.range its.toArray.size).all (fun i => bs.getD i false) = bs.all id := by
     rw [List.size_toArray,← hlen];exact all_range bs
   rw [e]
   refine ⟨.bl _,H,?_,rfl,q⟩
   have I1:Inv X pins σ H { s with heap:=s.heap.push { cls:=.type "list_iterator",data:=.fields #[.ref p,.int 0 0] } }:=I.kept (t':=s.toks) fun b o e=>Heap.get?_push_of_some _ e
   have f:=I.jC (H':=H) (Nat.le_refl _) I.fresh
   exact I1.turned (it:=s.heap.objs.size) (h':=h') (t':=tk) (fun b o hb e=>kk b o (by simpa using hb) e) f.1 f.2.1 f.2.2.2.1 f.2.2.2.2.1 f.2.2.2.2.2
theorem ud:typeLookup (.type "bool") "__index__" = pure (some (.builtin "int.__index__")):=by rw [typeLookup_type,builtinLookup_eq_fast];kernel_rfl
theorem jZ {M : Model} {A : Around} {E : Value → Shared → Prop} {s : Shared} {b : Bool} {Q : Option Int → Shared → Prop} (h : Q (some (if b then 1 else 0)) s) :
   wpAny M A (Builtin.List.listSubscript? (.bool b)) Q E s:=by
 unfold Builtin.List.listSubscript?
 refine wpAny_bind (wpAny_specialOf (T:="bool") (show s.TypeIs (.bool b) "bool" from rfl) ud ?_)
 show wpAny M A (asIndex (.bool b) >>= _) Q E s
 refine wpAny_bind (wpAny_of_eq (a:=if b then 1 else 0) rfl ?_)
 show wpAny M A (if (!Builtin.List.listFitsIndex (if b then 1 else 0)) = true then _ else _) Q E s
 rw [if_neg (by cases b <;> decide)]
 exact wpAny_pure h
theorem ky {prog : Program} {w : World} {A : Around} {E : Value → Shared → Prop} {s : Shared} {l : Addr} {items : Array Value} {b : Bool} {x : Value} {Q : Value → Shared → Prop} (hl : s.heap.IsList l items)
   (hx:items[if b then 1 else 0]? = some x) (h:Q x s):wpAny (model prog w) A (getItem (.ref l) (.bool b)) Q E s:=by
 obtain ⟨o,ho,hc,ne,hd⟩:=id hl
 unfold getItem
 try with_reducible refine wpAny_holding ?_
 first | refine wpAny_bind (wpAny_pure ?_) | skip
 refine wpAny_bind (wpAny_sequenceKey hl.typeIs (by decide) ?_)
 refine wpAny_bind (wpAny_callSpecial?_slot (name := Str.ofString "__getitem__") hl.typeIs slot_list_getitem
   (wpAny_call_entry slot_list_getitem hl.typeIs entry_list_getitem ?_ (args_list_getitem _ _)))
 show wpAny _ _ (Builtin.List.listSubscript? (.bool b) >>= _) _ _ s
 refine wpAny_bind (jZ ?_)
 cases b with
 | true =>
   have hx':items[1]? = some x:=hx
   show wpAny _ _ ((seqItemAt l 1 >>= fun r=>pure (r.map (1,·))) >>= _) _ _ s
   refine wpAny_bind (wpAny_bind (wpAny_seqItemAt ho hd (wpAny_pure ?_)))
   rw [hx']
   first
     | exact wpAny_bind (wpAny_pure (wpAny_pure ⟨x,rfl,wpAny_pure h⟩))
     | exact wpAny_pure ⟨x,rfl,wpAny_pure h⟩
 | false =>
   have hx':items[0]? = some x:=hx
   show wpAny _ _ ((seqItemAt l 0 >>= fun r=>pure (r.map (0,·))) >>= _) _ _ s
   refine wpAny_bind (wpAny_bind (wpAny_seqItemAt ho hd (wpAny_pure ?_)))
   rw [hx']
   first
     | exact wpAny_bind (wpAny_pure (wpAny_pure ⟨x,rfl,wpAny_pure h⟩))
     | exact wpAny_pure ⟨x,rfl,wpAny_pure h⟩
def BR (K:PySem.W.Frag):R2:=fun x y H Q=>∃ p xs b v,x = .ref p∧y = .bl b∧aH K H p xs∧xs[if b then 1 else 0]? = some v∧Q v H
theorem Bf {X : Cx} : ji X (BR X.K) := by
 intro value slice pins s σ H x y v u Q I rx ry h hs
 obtain ⟨p,xs,b,z,rfl,rfl,hq,he,q⟩:=h
 cases rx
 cases ry
 obtain ⟨its,r,pl,hz⟩:=I.list hq
 obtain ⟨w,ew,rw'⟩:=r.get he
 exact subscriptTail_builtinR (x := w) pl.isList.typeIs slot_list_getitem.lookup
   (ky (Q:=fun r s'=>r = w∧EP X pins σ Q r s') pl.isList (by simpa using ew) ⟨rfl,z,H,I,rw',q⟩) hs
def jL (K:PySem.W.Frag):R2:=fun x y H Q=>Ls K x y H Q∨BR K x y H Q
theorem Ea {X:Cx}:ji X (jL X.K):=Cs.or Bf
theorem gm {K:PySem.W.Frag} {p:Addr} {xs:List V} {i:Int} {v:V} {H:Hp} {Q:VK} (h:aH K H p xs) (e:g9 xs i = some v) (q:Q v H):jL K (.ref p) (.int i) H Q:=.inl (.inl ⟨p,xs,i,v,rfl,rfl,h,e,q⟩)
def LD:R2:=fun x y H Q=>∃ i j,x = .str i∧y = .str j∧i.length + j.length ≤ sizeLine∧Q (.str (i ++ j)) H
def eG (K:PySem.W.Frag):R2:=fun x y H Q=>mJ (fun i j=>.int (i + j)) x y H Q∨El x y H Q∨xK K x y H Q∨LD x y H Q
theorem Bb {X:Cx}:b7 X (binaryOp .Add) (eG X.K):=B6.or (D6.or (A8.or ur))
theorem AY {K:PySem.W.Frag} {i j:Int} {H:Hp} {Q:VK} (q:Q (.int (i + j)) H):eG K (.int i) (.int j) H Q:=.inl ⟨i,j,rfl,rfl,q⟩
theorem mY {K : PySem.W.Frag} {a b : Addr} {xs ys : List V} {H : Hp} {Q : VK} (ha : H a = some (.lst xs)) (hb : H b = some (.lst ys)) (hz : xs.length + ys.length ≤ sizeLine) (q : ∀ p, H p = none → Q (.ref p) (upd H p (.lst (xs ++ ys)))) :
   eG K (.ref a) (.ref b) H Q:=.inr (.inl ⟨a,b,xs,ys,rfl,rfl,ha,hb,hz,q⟩)
def jA:R2:=fun x y H Q=>rI qX (fun i j=>.int (i * j)) x y H Q∨CW x y H Q
theorem lK {X:Cx}:b7 X (binaryOp .Mult) jA:=DH.or B_
theorem wD {i j:Int} {H:Hp} {Q:VK} (h:qX i j) (q:Q (.int (i * j)) H):jA (.int i) (.int j) H Q:=.inl ⟨i,j,rfl,rfl,h,q⟩
def tO (K:PySem.W.Frag):V→Option Int→Option Int→Hp→VK→Prop:=fun x lo hi H Q=>DI K x lo hi H Q∨C3 K x lo hi H Q
theorem ED {X:Cx}:kP X (tO X.K):=BE.or Dv
structure eF (P : Program) (w : World) (K : PySem.W.Frag) (mg : Str → Option Value) (base : Heap) (CX : dO) (k : Nat) (x : Str) (sp : Sp) : Prop where
 ex:∃ (f:Addr) (fd:FuncData) (ps:List Str),eO P w K mg base CX k f fd ps sp∧mg x = some (.ref f)∧PySem.W.keepIn K (.ref f) = true∧Binds K fd ps []
structure bW (P : Program) (w : World) (K : PySem.W.Frag) (mg : Str → Option Value) (base : Heap) (CX : dO) (k : Nat) (C : Addr) (m : Str) (sp : Sp) : Prop where
 cl:de K C
 ex:∃ (f:Addr) (fd:FuncData) (ps:List Str),eB K C m f∧eO P w K mg base CX k f fd ps sp∧Binds K fd ps []
structure gv (P : Program) (w : World) (K : PySem.W.Frag) (mg : Str → Option Value) (base : Heap) (CX : dO) (k : Nat) (x : Str) (C : Addr) (sp : Sp) : Prop where
 ex:∃ (f:Addr) (fd:FuncData) (ps:List Str),Mk K C f∧eO P w K mg base CX k f fd ps sp∧mg x = some (.ref C)∧Binds K fd ps []
theorem bW.mono {P : Program} {w : World} {K : PySem.W.Frag} {mg : Str → Option Value} {base : Heap} {CX : dO} {j k : Nat} {C : Addr} {m : Str} {sp : Sp} (M : bW P w K mg base CX j C m sp) (h : j ≤ k) : bW P w K mg base CX k C m sp := by
 obtain ⟨f,fd,ps,a,b,c⟩:=M.ex
 exact ⟨M.cl,f,fd,ps,a,b.mono h,c⟩
def qq (sp:Sp) (E:XK) (t:TA):TE:=fun σ H Q=>t σ H fun vs H1=>sp vs H1 Q E
def q0 (C : Addr) (sp : Sp) (E : XK) (t : TA) : TE := fun σ H Q => t σ H fun vs H1 => ∀ x dx, H1 x = none → H1 dx = none → dx ≠ x →
 sp (.ref x :: vs) (upd (upd H1 dx (.own x)) x (.ins C dx [])) (fun v H2=>v = .aO∧Q (.ref x) H2) E
def pQ (P : Program) (w : World) (K : PySem.W.Frag) (mg : Str → Option Value) (base : Heap) (CX : dO) (k : Nat) (m : Str) (E : XK) (ta : TE) (t : TA) : TE := fun σ H Q => ta σ H fun x H1 =>
 ∃ a C dx fs sp,x = .ref a∧H1 a = some (.ins C dx fs)∧fs.lookup m = none∧bW P w K mg base CX k C m sp∧t σ H1 fun vs H2=>sp (.ref a :: vs) H2 Q E
section
variable {X:Cx} {CX:dO} {k:Nat} {C:Addr} {sp:Sp} {E:XK} {x m:Str} {p pos apos:Pos} {e o:Expr} {es:List Expr} {ta:TE} {t:TA}
theorem ay (G : eF X.prog X.w X.K X.mg X.base CX k x sp) (hr : bR k X.A) (hx : eL CX X E) (hg : Gl X x) (ha : PA X (e :: es) t) (hdb : (x == ("__debug__" : Str)) = false := by decide)
   (he:starEach (e :: es) X.env = (false,eval e X.env) :: starEach es X.env:=by rfl) (hpl:(backTo pos (starEach es X.env)).any (·.1) = false:=by rfl):PE X (.Call (.Name x p) (e :: es) [] pos) (qq sp E t):=by
 obtain ⟨f,fd,ps,F,hm,hk,hb⟩:=G.ex
 have z:=Bk (p:=p) (pos:=pos) F hr hg hm hk hb .nil hx ha hdb he hpl
 intro pins s σ H Q I h
 refine z pins s σ H Q I ?_
 have e1 : zM sp [] E t = qq sp E t := by
   funext σ H Q
   show t σ H (fun vs H1=>sp (vs ++ []) H1 Q E) = t σ H (fun vs H1=>sp vs H1 Q E)
   simp only [List.append_nil]
 rw [e1];exact h
theorem b3 (G : gv X.prog X.w X.K X.mg X.base CX k x C sp) (hr : bR (k + 1) X.A) (hx : eL CX X E) (hg : Gl X x) (ha : PA X (e :: es) t) (hdb : (x == ("__debug__" : Str)) = false := by decide)
   (he:starEach (e :: es) X.env = (false,eval e X.env) :: starEach es X.env:=by rfl) (hpl:(backTo pos (starEach es X.env)).any (·.1) = false:=by rfl):PE X (.Call (.Name x p) (e :: es) [] pos) (q0 C sp E t):=by
 obtain ⟨f,fd,ps,M,F,hm,hb⟩:=G.ex
 have z:=Br (p:=p) (pos:=pos) M F hr hg hm hb .nil hx ha hdb he hpl
 intro pins s σ H Q I h
 refine z pins s σ H Q I ?_
 have e1 : AL C sp [] E t = q0 C sp E t := by
   funext σ H Q
   show t σ H (fun vs H1=>∀ x dx,H1 x = none→H1 dx = none→dx ≠ x→sp (.ref x :: (vs ++ [])) _ _ E) = t σ H (fun vs H1=>∀ x dx,H1 x = none→H1 dx = none→dx ≠ x→sp (.ref x :: vs) _ _ E)
   simp only [List.append_nil]
 rw [e1];exact h
theorem uW {pl : Sem Bool} (he : PE X o ta) (hr : bR k X.A) (hx : eL CX X E)
   (ht : eval (.Call (.Attribute o m apos) [] [] pos) X.env = (do
     let ov ← eval o X.env
     standAt apos.atName
     let (f,first) ← holding [ov] (getMethod ov m pl)
     callWith pos f first (backTo pos (starEach [] X.env)) (backToKw pos (keywordEach [] X.env))):=by rfl) :
   PE X (.Call (.Attribute o m apos) [] [] pos) (pQ X.prog X.w X.K X.mg X.base CX k m E ta gH):=by
 intro pins s σ H Q I h
 refine PySem.W.methodCall_KW (pl:=pl) (aY (he pins s σ H _ I h) fun u s1 ⟨x,H1,I1,rx,a,C,dx,fs,sp,ex,ea,l,M,q⟩=>?_) ht
 subst ex
 obtain rfl:u = Value.ref a:=rx
 obtain ⟨f,fd,ps,hm,F,hb⟩:=M.ex
 refine md I1 ea M.cl hm l ?_
 exact PySem.W.callWith_K0 (first:=[.ref a]) I1.cP hm.kp (rg (us:=[.ref a]) (vs:=[.ref a]) F hr hb .nil hx I1 (.cons rfl .nil) q)
end
theorem dc:bootBuiltins "len" = some (.builtin "len"):=by decide +kernel
theorem uh:bootBuiltins "all" = some (.builtin "all"):=by decide +kernel
theorem cy:bootBuiltins "isinstance" = some (.builtin "isinstance"):=by decide +kernel
theorem xQ:bootBuiltins "int" = some (.type "int"):=by decide +kernel
theorem AU:bootBuiltins "tuple" = some (.type "tuple"):=by decide +kernel
theorem mm:bootBuiltins "str" = some (.type "str"):=by decide +kernel
def DZ (K:PySem.W.Frag) (f:Str):V→Hp→VK→Prop:=fun x H1 Q=>∃ a C dx fs v,x = .ref a∧H1 a = some (.ins C dx fs)∧de K C∧aT K C f∧fs.lookup f = some v∧Q v H1
def Aw (P : Program) (w : World) (K : PySem.W.Frag) (mg : Str → Option Value) (base : Heap) (CX : dO) (k : Nat) (m : Str) (E : XK) (σ : St) (t : TA) : V → Hp → VK → Prop := fun x H1 Q =>
 ∃ a C dx fs sp,x = .ref a∧H1 a = some (.ins C dx fs)∧fs.lookup m = none∧bW P w K mg base CX k C m sp∧t σ H1 fun vs H2=>sp (.ref a :: vs) H2 Q E
def AI (K:PySem.W.Frag) (f:Str) (y:V) (D:Ends) (σ : St):V→Hp→Prop:=fun x H2=>∃ a C dx fs,x = .ref a∧H2 a = some (.ins C dx fs)∧de K C∧aT K C f∧fs.length < 1000∧D.nx σ (upd H2 a (.ins C dx (aN f y fs)))
def qB (K:PySem.W.Frag):List V→Hp→VK→Prop:=fun xs H Q=>∃ x n,xs = [x]∧EB K x H n∧Q (.int n) H
theorem vI {X:Cx}:dS X (.builtin "len") (qB X.K):=xB
theorem uZ {K:PySem.W.Frag} {p:Addr} {xs:List V} {H:Hp} {Q:VK} (h:aH K H p xs) (q:Q (.int xs.length) H):qB K [.ref p] H Q:=⟨.ref p,xs.length,rfl,.inl ⟨xs,h,rfl⟩,q⟩
theorem tW {K:PySem.W.Frag} {p:Addr} {bs:List Bool} {H:Hp} {Q:VK} (h:aH K H p (bs.map V.bl)) (q:Q (.bl (bs.all id)) H):tK K [.ref p] H Q:=⟨p,bs,rfl,h,q⟩
theorem yw {K:PySem.W.Frag} {p:Addr} {xs:List V} {lo hi:Option Int} {H:Hp} {Q:VK} (h:aH K H p xs) (q:∀ l,H l = none→Q (.ref l) (upd H l (.lst (gB xs lo hi)))):tO K (.ref p) lo hi H Q:=.inl ⟨p,xs,rfl,h,q⟩
def wj (K:PySem.W.Frag) (x:V) (H:Hp) (Q:Bool→Hp→Prop):Prop:=∃ k,xD K x H k∧Q k H
theorem Ef {K:PySem.W.Frag} {b:Bool} {H:Hp} {Q:Bool→Hp→Prop} (q:Q b H):wj K (.bl b) H Q:=⟨b,rfl,q⟩
theorem FZ {A B:Prop} (h:B):if (!true) = true then A else B:=h
theorem IH {A B:Prop} (h:A):if (!false) = true then A else B:=h
theorem sW {K:PySem.W.Frag} {H:Hp} {a p:Addr} {xs:List V} {o:HO} (h:aH K H a xs) (hp:H p = none):aH K (upd H p o) a xs:=aq.seq (ar hp) h
theorem xC {l:Addr} {xs:List V} {y:V} {H:Hp} {Q:VK} (h:H l = some (.lst xs)) (z:xs.length < sizeLine) (q:Q .aO (upd H l (.lst (xs ++ [y])))):ng (.ref l) [y] H Q:=⟨l,xs,y,rfl,rfl,h,z,q⟩
theorem ty_list {K:PySem.W.Frag} {H:Hp} {p:Addr} {xs:List V} (h:H p = some (.lst xs)):ro K "list" (.ref p) H:=.inl ⟨rfl,xs,aH.of h⟩
def EC (J : It) (g : TG) (tb : TS) (D : Ends) (σ : St) (H1 : Hp) : Prop := ∃ W : Nat → Nat → St → Hp → Prop, (∃ m, W 0 m σ H1) ∧ ∀ i m σ H, W i m σ H →
 (J.stop i H∧D.nx σ H)∨(J.go i H∧∃ N:St→Hp→Prop,(∀ σ' H',N σ' H'→∃ m',m' < m∧W (i + 1) m' σ' H')∧∀ x H',J.qx i H x H'→g x σ H' fun σ2 H2=>tb { D with nx:=N,ct:=N,bk:=D.nx } σ2 H2)
theorem Js {wi:TI} {g:TG} {tb:TS} {D:Ends} {σ : St} {H:Hp} (q:wi σ H fun J H1=>EC J g tb D σ H1):B8 wi g tb D σ H:=q
def w4 (K:PySem.W.Frag) (tl:TE):TI:=fun σ H R=>tl σ H fun x H1=>∃ a,x = .ref a∧(((∃ xs,aH K H1 a xs)∧R (l_ K a) H1)∨((∃ xs,cw K H1 a xs)∧R (ES K a) H1))
theorem Eu {K:PySem.W.Frag} {tl:TE} {σ : St} {H:Hp} {R:It→Hp→Prop} (q:tl σ H fun x H1=>∃ a,x = .ref a∧(((∃ xs,aH K H1 a xs)∧R (l_ K a) H1)∨((∃ xs,cw K H1 a xs)∧R (ES K a) H1))):w4 K tl σ H R:=q
theorem BS {ta:TA} {σ : St} {H:Hp} {R:It→Hp→Prop} (q:ta σ H fun vs H1=>∃ j:Int,vs = [.int j]∧-(2 ^ 62) ≤ j∧j < 2 ^ 62∧R (oX 0 j.toNat) H1):AD ta σ H R:=q
theorem De {X : Cx} {tg l : Expr} {tl : TE} (hl : PE X l tl) : PI X tg l (w4 X.K tl) := by
 intro pins s σ H R I h
 refine aY (hl pins s σ H _ I h) fun v s1 ⟨x,H1,I1,r1,q1⟩=>?_
 obtain ⟨a,e,hq⟩:=q1
 subst e
 cases r1
 rcases hq with ⟨⟨xs,hq⟩,q⟩ | ⟨⟨xs,hq⟩,q⟩
 · obtain ⟨its, rv, p, hz⟩ := I1.list hq
   refine wpAny_pyIter_list p.isList ?_
   refine ⟨s1.heap.objs.size,[s1.heap.objs.size],_,_,H1,rfl,I1.kept (t':=s1.toks) fun b o e=>Heap.get?_push_of_some _ e,oW a _,⟨_,Heap.get?_push_size _ rfl,rfl,rfl⟩,fun b hb=>?_,q⟩
   have e:b = s1.heap.objs.size:=by simpa using hb
   subst e
   exact I1.jC (Nat.le_refl _) (I1.ax.fresh (Nat.le_refl _))
 · obtain ⟨its, rv, p, hz⟩ := I1.tuple hq
   refine wpAny_pyIter_tuple (show s1.heap.IsTuple a its.toArray from p) ?_
   refine ⟨s1.heap.objs.size,[s1.heap.objs.size],_,_,H1,rfl,I1.kept (t':=s1.toks) fun b o e=>Heap.get?_push_of_some _ e,t6 a _,⟨_,Heap.get?_push_size _ rfl,rfl,rfl⟩,fun b hb=>?_,q⟩
   have e:b = s1.heap.objs.size:=by simpa using hb
   subst e
   exact I1.jC (Nat.le_refl _) (I1.ax.fresh (Nat.le_refl _))
section
variable {σ : St} {H:Hp} {Q:VK}
theorem FA {i:Nat} {v:V} (h : σ[i]? = some (some v)) (q:Q v H):cn i σ H Q:=⟨v,h,q⟩
theorem Nw {v:V} (q:Q v H):tC v σ H Q:=q
theorem MH {r:R2} {ta tb:TE} (q:ta σ H fun x H1=>tb σ H1 fun y H2=>r x y H2 Q):cv r ta tb σ H Q:=q
theorem M0 {r:V→Hp→VK→Prop} {ta:TE} (q:ta σ H fun x H1=>r x H1 Q):Ll r ta σ H Q:=q
theorem NQ {g:Int→V} {i:Int} (q:Q (g i) H):rU g (.int i) H Q:=⟨i,rfl,q⟩
theorem ML {g:Int→Int→V} {i j:Int} (q:Q (g i j) H):mJ g (.int i) (.int j) H Q:=⟨i,j,rfl,rfl,q⟩
theorem NP {C:Int→Int→Prop} {g:Int→Int→V} {i j:Int} (h:C i j) (q:Q (g i j) H):rI C g (.int i) (.int j) H Q:=⟨i,j,rfl,rfl,h,q⟩
theorem ME {r:List V→Hp→VK→Prop} {t:TA} (q:t σ H fun vs H1=>r vs H1 Q):zT r t σ H Q:=q
theorem Bj {sp:Sp} {E:XK} {t:TA} (q:t σ H fun vs H1=>sp vs H1 Q E):qq sp E t σ H Q:=q
theorem Bl {C:Addr} {sp:Sp} {E:XK} {t:TA} (q:t σ H fun vs H1=>∀ x dx,H1 x = none→H1 dx = none→dx ≠ x→sp (.ref x :: vs) (upd (upd H1 dx (.own x)) x (.ins C dx [])) (fun v H2=>v = .aO∧Q (.ref x) H2) E):q0 C sp E t σ H Q:=q
theorem AZ {P:Program} {w:World} {K:PySem.W.Frag} {mg:Str→Option Value} {base:Heap} {CX:dO} {k:Nat} {m:Str} {E:XK} {ta:TE} {t:TA} (q:ta σ H fun x H1=>Aw P w K mg base CX k m E σ t x H1 Q):pQ P w K mg base CX k m E ta t σ H Q:=q
theorem BC {P : Program} {w : World} {K : PySem.W.Frag} {mg : Str → Option Value} {base : Heap} {CX : dO} {k : Nat} {m : Str} {E : XK} {t : TA} {p C dx : Addr} {fs : List (Str × V)} {sp : Sp} (h : H p = some (.ins C dx fs)) (l : fs.lookup m = none) (M : bW P w K mg base CX k C m sp)
   (q:t σ H fun vs H2=>sp (.ref p :: vs) H2 Q E):Aw P w K mg base CX k m E σ t (.ref p) H Q:=⟨p,C,dx,fs,sp,rfl,h,l,M,q⟩
theorem K3 {K:PySem.W.Frag} {ta:TE} {f:Str} (q:ta σ H fun x H1=>DZ K f x H1 Q):xt K ta f σ H Q:=q
theorem Dl {K:PySem.W.Frag} {f:Str} {p C dx:Addr} {fs:List (Str×V)} {v:V} (h:H p = some (.ins C dx fs)) (c:de K C) (n:aT K C f) (l:fs.lookup f = some v) (q:Q v H):DZ K f (.ref p) H Q:=⟨p,C,dx,fs,v,rfl,h,c,n,l,q⟩
theorem Ia {t:TA} (q:t σ H fun xs H1=>xs.length ≤ sizeLine∧∀ p,H1 p = none→Q (.ref p) (upd H1 p (.tup xs))):DD t σ H Q:=q
theorem Hu {t:TA} (q:t σ H fun xs H1=>xs.length ≤ sizeLine∧∀ p,H1 p = none→Q (.ref p) (upd H1 p (.lst xs))):lM t σ H Q:=q
theorem EJ {ta tb:TE} (q:ta σ H fun x H1=>∃ c,x = .bl c∧if c = true then tb σ H1 Q else Q (.bl false) H1):ym ta tb σ H Q:=q
theorem CD {ta:TE} (q:ta σ H fun x H1=>∃ c,x = .bl c∧Q (.bl (!c)) H1):Ab ta σ H Q:=q
theorem MA {r:V→Option Int→Option Int→Hp→VK→Prop} {te:TE} {tl th:TO} (q:te σ H fun x H1=>tl σ H1 fun l H2=>th σ H2 fun u H3=>r x l u H3 Q):Lm r te tl th σ H Q:=q
theorem Mq {K:PySem.W.Frag} {T:String} {r:V→List V→Hp→VK→Prop} {to:TE} {t:TA} (q:to σ H fun x H1=>ro K T x H1∧t σ H1 fun xs H2=>r x xs H2 Q):we K T r to t σ H Q:=q
end
section
variable {σ : St} {H:Hp} {Q:List V→Hp→Prop}
theorem HD (q:Q [] H):gH σ H Q:=q
theorem Cu {ta:TE} {tr:TA} (q:ta σ H fun x H1=>tr σ H1 fun xs H2=>Q (x :: xs) H2):b8 ta tr σ H Q:=q
end
section
variable {σ : St} {H:Hp} {Q:Option Int→Hp→Prop}
theorem wK (q:Q none H):sZ σ H Q:=q
theorem Ec {t:TE} (q:t σ H fun x H1=>∃ i,x = .int i∧Q (some i) H1):Ai t σ H Q:=q
end
section
variable {σ : St} {H:Hp} {Q:Bool→Hp→Prop}
theorem D8 {t:TE} (q:t σ H fun x H'=>∃ k,x = .bl k∧Q k H'):za t σ H Q:=q
theorem GQ {t u:TT} (q:t σ H fun c H1=>if c = true then u σ H1 Q else Q false H1):D4 t u σ H Q:=q
theorem My {t u:TT} (q:t σ H fun c H1=>if c = true then Q true H1 else u σ H1 Q):Lj t u σ H Q:=q
theorem FT {t:TT} (q:t σ H fun c H1=>Q (!c) H1):EM t σ H Q:=q
theorem C4 (q:Q true H):pB σ H Q:=q
def xb (K:PySem.W.Frag) (ta:TE):TT:=fun σ H Q=>ta σ H fun x H'=>wj K x H' Q
theorem EF {X:Cx} {a:Expr} {ta:TE} (ha:PE X a ta) (he:∀ whole,isTrue a X.env whole = (do let v ← whole;standAt a.pos;holding [v] (truthy v)):=by intro _;rfl):PT X a (xb X.K ta):=wB ha he
theorem Kz {K:PySem.W.Frag} {ta:TE} (q:ta σ H fun x H'=>wj K x H' Q):xb K ta σ H Q:=q
end
section
variable {D:Ends} {σ : St} {H:Hp}
theorem D7 (q:D.nx σ H):yq D σ H:=q
theorem F2 {t u:TS} (q:t { D with nx:=u D } σ H):k9 t u D σ H:=q
theorem Jl {te:TE} (q:te σ H D.rt):xh te D σ H:=q
theorem IL {c:TT} {t u:TS} (q:c σ H fun b H1=>if b = true then t D σ H1 else u D σ H1):CC c t u D σ H:=q
theorem IV {te:TE} {g:TG} (q:te σ H fun x H1=>g x σ H1 D.nx):lG te g D σ H:=q
theorem Du {te:TE} (q:te σ H fun _ H1=>D.nx σ H1):t_ te D σ H:=q
theorem CS {K:PySem.W.Frag} {ta tv:TE} {f:Str} (q:tv σ H fun y H1=>ta σ H1 fun x H2=>AI K f y D σ x H2):xy K ta tv f D σ H:=q
theorem Bg {K:PySem.W.Frag} {f:Str} {y:V} {p C dx:Addr} {fs:List (Str×V)} (h:H p = some (.ins C dx fs)) (c:de K C) (n:aT K C f) (l:fs.length < 1000) (q:D.nx σ (upd H p (.ins C dx (aN f y fs)))):AI K f y D σ (.ref p) H:=⟨p,C,dx,fs,rfl,h,c,n,l,q⟩
end
theorem eW {c A B : Prop} [Decidable c] (h1 : c → A) (h2 : ¬ c → B) : if decide c = true then A else B := by
 by_cases h:c
 · rw [if_pos (decide_eq_true h)];exact h1 h
 · rw [if_neg (by rw [decide_eq_false h];exact Bool.false_ne_true)];exact h2 h
theorem mG {c A B : Prop} [Decidable c] (h1 : ¬ c → A) (h2 : c → B) : if (!decide c) = true then A else B := by
 by_cases h:c
 · rw [if_neg (by rw [decide_eq_true h];decide)];exact h2 h
 · rw [if_pos (by rw [decide_eq_false h];rfl)];exact h1 h
theorem gS {a b : Int} {A B : Prop} (h1 : a = b → A) (h2 : a ≠ b → B) : if decide (V.int a = V.int b) = true then A else B :=
 eW (fun e=>h1 (by cases e;rfl)) fun e=>h2 fun z=>e (by rw [z])
theorem lY {a b : Int} {A B : Prop} (h1 : a ≠ b → A) (h2 : a = b → B) : if (!decide (V.int a = V.int b)) = true then A else B :=
 mG (fun e=>h1 fun z=>e (by rw [z])) fun e=>h2 (by cases e;rfl)
end L3
namespace L3
open PySem PySem.Spec PyProof.Rows L2
section
variable {P:Program} {w:World} {K:PySem.W.Frag} {mg:Str→Option Value} {base:Heap} {x qual:Str} {st:Stmt} {N ps:List Str} {sp:Sp} {C:Addr}
def BodyOk (P : Program) (w : World) (K : PySem.W.Frag) (mg : Str → Option Value) (base : Heap) (k : Nat) (qual : Str) (st : Stmt) (N : List Str) (sp : Sp) : Prop :=
 ∀ (f : Addr) (cdv : Value) (A : Around) (outer : List Env) (s : Shared) (H : Hp) (vs : List V) (Q : VK) (E : XK), bR k (A.deeper (envOfC qual (af st) s.heap.objs.size f cdv)) → sp vs H Q E →
   ∃ t,gu (eK cm P w K mg base N qual (af st) f cdv A outer s H E).br (aw st) t∧t { nx:=fun _ H'=>Q .aO H',rt:=Q } (start N vs) H
theorem fm (k : Nat) (h : ∃ f fd, be K x qual st f fd ∧ mg x = some (.ref f) ∧ Binds K fd ps []) (S : aA N ps (af st)) (len : ∀ vs H Q E, sp vs H Q E → vs.length = ps.length)
   (hbody:BodyOk P w K mg base k qual st N sp):eF P w K mg base cm (k + 1) x sp:=by
 obtain ⟨f,fd,F,hm,hb⟩:=h
 exact ⟨f,fd,ps,F.ok S len (hbody f),hm,F.kp,hb⟩
theorem b4 (k : Nat) (c : de K C) (h : ∃ f fd, be K x qual st f fd ∧ eB K C x f ∧ Binds K fd ps []) (S : aA N ps (af st)) (len : ∀ vs H Q E, sp vs H Q E → vs.length = ps.length)
   (hbody:BodyOk P w K mg base k qual st N sp):bW P w K mg base cm (k + 1) C x sp:=by
 obtain ⟨f,fd,F,hm,hb⟩:=h
 exact ⟨c,f,fd,ps,hm,F.ok S len (hbody f),hb⟩
end
end L3
namespace L3
open PySem PySem.Spec PyProof.Rows L2 PySem.SeqAt
section
variable {X:Cx} {K:PySem.W.Frag}
theorem bo (h:X.K = K):b7 X (binaryOp .Add) (eG K):=by subst h;exact Bb
theorem bz (h:X.K = K) (hu:X.A.units + 64 < cLine):b7 X (compareOp .Eq) (t5 K):=by subst h;exact CN hu
theorem iU (h:X.K = K) (hu:X.A.units + 64 < cLine):b7 X (compareOp .NotEq) (uv K):=by subst h;exact CV hu
theorem DW (h:X.K = K):b7 X (compareOp .In) (BY K false):=by subst h;exact uQ
theorem c6 (h:X.K = K):ji X (jL K):=by subst h;exact Ea
theorem xk (h:X.K = K):kP X (tO K):=by subst h;exact ED
theorem gZ {tg l:Expr} {tl:TE} (h:X.K = K) (hl:PE X l tl):PI X tg l (w4 K tl):=by subst h;exact De hl
theorem bA (h:X.K = K):dS X (.builtin "len") (qB K):=by subst h;exact vI
theorem ib (h:X.K = K):dS X (.builtin "isinstance") (wk K):=by subst h;exact wR
theorem jY (h:X.K = K) (hc:X.calm = true):dS X (.builtin "all") (tK K):=by subst h;exact wo hc
def CH (K:PySem.W.Frag):List V→Hp→VK→Prop:=fun xs H Q=>∃ p ys,xs = [.ref p]∧((aH K H p ys∧∀ l,H l = none→Q (.ref l) (upd H l (.tup ys)))∨(cw K H p ys∧Q (.ref p) H))
theorem vO (h:X.K = K):dS X (.type "tuple") (CH K):=by subst h;exact pz
theorem a9 {e:Expr} {f:Str} {pos:Pos} {ta:TE} (h:X.K = K) (he:PE X e ta) (hb:attributeBase e f X.env (eval e X.env) = eval e X.env:=by rfl):PE X (.Attribute e f pos) (xt K ta f):=by subst h;exact DY he hb
theorem a_ {o value : Expr} {f : Str} {pos pos' : Pos} {ta tv : TE} (h : X.K = K) (ha : PE X o ta) (hv : PE X value tv) (hs : swapsWith value (some (.Attribute o f pos')) pos.line X.env = pure false := by rfl) :
   PS X (.Assign [.Attribute o f pos'] value pos) (xy K ta tv f):=by subst h;exact DU ha hv hs
theorem fh {a:Expr} {ta:TE} (h:X.K = K) (ha:PE X a ta) (he:∀ whole,isTrue a X.env whole = (do let v ← whole;standAt a.pos;holding [v] (truthy v)):=by intro _;rfl):PT X a (xb K ta):=by subst h;exact EF ha he
theorem BA {es : List Expr} {k : Nat} {t : kN} {n : Nat} {pos : Pos} (hK : X.K = K) (hc : X.calm = true) (h : vM X es t)
   (hn:(assignEach es X.env).length = n:=by rfl) (hst:(assignEach es X.env).findIdx? (·.1) = none:=by rfl):PG X (.Tuple es k pos) (xq K n t):=by subst hK;exact Ei hc h hn hst
theorem fj {o e : Expr} {es : List Expr} {to : TE} {t : TA} {name : Str} {apos cpos : Pos} {T id : String} {r : V → List V → Hp → VK → Prop} (h : X.K = K) (pa : PlainAttrs T) (slot : Slot T name id) (hty : typeOf (.builtin id) = pure (.type "method_descriptor")) (hm : vV X id r) (ho : PE X o to) (ha : PA X (e :: es) t)
   (hbase:attributeBase o name X.env (eval o X.env) = eval o X.env:=by rfl)
   (hfew : ((backTo cpos (starEach (e :: es) X.env)).all (fun x => !x.1) && (backToKw cpos (keywordEach [] X.env)).all (fun x => x.1.isSome)
     && decide ((e :: es).length + ([]:List Keyword).length + (if ([]:List Keyword).isEmpty then 0 else 1) < 30)) = true:=by rfl)
   (hline:(apos.endLine == cpos.line) = true:=by rfl) (hs:starEach (e :: es) X.env = (false,eval e X.env) :: starEach es X.env:=by rfl) (hplain:(backTo cpos (starEach es X.env)).any (·.1) = false:=by rfl) :
   PE X (.Call (.Attribute o name apos) (e :: es) [] cpos) (we K T r to t):=by subst h;exact Fi pa slot hty hm ho ha hbase hfew hline hs hplain
end
section
variable {X:Cx} {P:Program} {w:World} {K:PySem.W.Frag} {mg:Str→Option Value} {base:Heap} {CX:dO} {k:Nat} {E:XK} {m:Str} {pos apos:Pos} {e o:Expr} {es:List Expr} {ta:TE} {t:TA}
theorem uB {pl : Sem Bool} (hP : X.prog = P ∧ X.w = w ∧ X.K = K ∧ X.mg = mg ∧ X.base = base) (he : PE X o ta) (hr : bR k X.A) (hx : eL CX X E)
   (ht : eval (.Call (.Attribute o m apos) [] [] pos) X.env = (do
     let ov ← eval o X.env
     standAt apos.atName
     let (f,first) ← holding [ov] (getMethod ov m pl)
     callWith pos f first (backTo pos (starEach [] X.env)) (backToKw pos (keywordEach [] X.env))):=by rfl) :
   PE X (.Call (.Attribute o m apos) [] [] pos) (pQ P w K mg base CX k m E ta gH):=by
 obtain ⟨rfl,rfl,rfl,rfl,rfl⟩:=hP
 exact uW (pl:=pl) he hr hx ht
end
end L3
namespace L3
open PySem PySem.Spec PyProof.Rows L2 PySem.SeqAt
theorem BH {H:Hp} {R:Addr→Prop} (q:∀ p,H p = none→R p):∀ p,H p = none→R p:=q
theorem Bz {n:Nat} {R:Prop} (h:n ≤ sizeLine) (q:R):n ≤ sizeLine∧R:=⟨h,q⟩
theorem jS {H H' : Hp} {q : Addr} (s : aq H H') (h : H' q = none) : H q = none := by
 cases e:H q with
 | none=>rfl
 | some u=>rw [s _ _ e] at h;cases h
theorem same_none {H H1:Hp} {p:Addr} {o:HO} (s:aq H H1) (h:H1 p = none):aq H (upd H1 p o):=s.trans (ar h)
def jw {α : Type} (xs:List α) (f : α→V) (Sg:St→Prop) (H:Hp) (i:Nat) (ys:List V) (σ : St) (H1:Hp):Prop:=aq H H1∧Sg σ∧ys = (xs.take i).map f
theorem jw.next {α : Type} {xs : List α} {f : α → V} {Sg : St → Prop} {H H1 H5 : Hp} {i : Nat} {ys : List V} {σ σ3 : St} {x : α} {y : V} (c : jw xs f Sg H i ys σ H1) (hx : xs[i]? = some x) (e : y = f x) (s : aq H H5) (sg : Sg σ3) : jw xs f Sg H (i + 1) (ys ++ [y]) σ3 H5 := by
 obtain ⟨_,_,rfl⟩:=c
 refine ⟨s,sg,?_⟩
 subst e
 rw [List.take_add_one,hx,Option.toList_some,List.map_append];rfl
theorem yO {b : Bool} {A B : Prop} (h1 : b = true → A) (h2 : b = false → B) : if b = true then A else B := by
 cases b with
 | true=>exact h1 rfl
 | false=>exact h2 rfl
theorem Mr {j:Int} {R:Prop} (h1 : -(2 ^ 62) ≤ j) (h2:j < 2 ^ 62) (q:R) : -(2 ^ 62) ≤ j∧j < 2 ^ 62∧R:=⟨h1,h2,q⟩
theorem Jj {K:PySem.W.Frag} {H:Hp} {a:Addr} {xs:List V} {A B:Prop} (h:aH K H a xs) (q:A):((∃ xs,aH K H a xs)∧A)∨((∃ xs,cw K H a xs)∧B):=.inl ⟨⟨xs,h⟩,q⟩
theorem Fy {K:PySem.W.Frag} {H:Hp} {p:Addr} {xs:List V} {R:Prop} (h:H p = some (.lst xs)) (q:R):ro K "list" (.ref p) H∧R:=⟨ty_list h,q⟩
theorem DN {i:Nat} {v:V} {σ σ':St} {H:Hp} {Q:St→Hp→Prop} (h : σ.set i (some v) = σ') (q:Q σ' H):fq i v σ H Q:=by subst h;exact q
theorem bb {N:List Str} {vs:List V} {σ':St} {t:TS} {D:Ends} {H:Hp} (h:start N vs = σ') (q:t D σ' H):t D (start N vs) H:=by subst h;exact q
theorem w6 {i:Nat} {own:List Str} {fr:List (Str×Nat)} {wi:TI} {g:TG} {tc:TT} {te:TE} {D:Ends} {σ σi:St} {H:Hp} (h:dH own fr σ = σi) (q:wi σ H fun J H1=>fT J g tc te (fun ys H3=>∀ p,H3 p = none→fq i (.ref p) σ (upd H3 p (.lst ys)) D.nx) σi H1):rL i own fr wi g tc te D σ H:=by subst h;exact q
theorem wH {own:List Str} {fr:List (Str×Nat)} {wi:TI} {g:TG} {tc:TT} {te:TE} {σ σi:St} {H:Hp} {Q:VK} (h:dH own fr σ = σi) (q:wi σ H fun J H1=>fT J g tc te (fun ys H3=>∀ p,H3 p = none→Q (.ref p) (upd H3 p (.lst ys))) σi H1):pO own fr wi g tc te σ H Q:=by subst h;exact q
def wV:R2:=fun x y H Q=>y = .aO∧Q (.bl (decide (x = .aO))) H
theorem sN {X:Cx}:b7 X (compareOp .Is) wV:=Ce
theorem CG {p:Addr} {H:Hp} {Q:VK} (q:Q (.bl false) H):wV (.ref p) .aO H Q:=⟨rfl,q⟩
theorem DO {H:Hp} {Q:VK} (q:Q (.bl true) H):wV .aO .aO H Q:=⟨rfl,q⟩
theorem JL {K:PySem.W.Frag} {p:Addr} {xs:List V} {x:V} {H:Hp} {Q:VK} (h:aH K H p xs) (f1:ft x = true) (f2:xs.all ft = true) (q:Q (.bl (qN x xs)) H):BY K false x (.ref p) H Q:=⟨p,xs,rfl,.inl h,f1,f2,q⟩
end L3
namespace L3
open PySem PySem.Spec PyProof.Rows L2 PySem.SeqAt
section
variable {P:Program} {w:World} {K:PySem.W.Frag} {mg:Str→Option Value} {base:Heap}
end
section
variable {X:Cx} {CX:dO} {k:Nat} {C:Addr} {sp:Sp} {E:XK} {x m:Str} {p pos apos:Pos} {e o:Expr} {es:List Expr} {ta:TE} {t:TA}
end
section
variable {P:Program} {w:World} {K:PySem.W.Frag} {mg:Str→Option Value} {base:Heap} {x qual:Str} {st:Stmt} {N ps:List Str} {sp:Sp} {C:Addr}
end
theorem BM {K : PySem.W.Frag} {a b : Addr} {xs ys : List V} {H : Hp} {Q : VK} (ha : cw K H a xs) (hb : cw K H b ys) (h1 : xs ≠ []) (h2 : ys ≠ []) (hz : xs.length + ys.length ≤ sizeLine) (q : ∀ p, H p = none → Q (.ref p) (upd H p (.tup (xs ++ ys)))) :
   eG K (.ref a) (.ref b) H Q:=.inr (.inr (.inl ⟨a,b,xs,ys,rfl,rfl,ha,hb,h1,hz,fun e=>absurd e h2,fun _=>q⟩))
section
variable {K:PySem.W.Frag} {a:Addr} {xs:List V} {g:TG} {tc:TT} {te:TE} {fin:List V→Hp→Prop} {H:Hp}
end
end L3
namespace L3
open PySem PySem.Spec PyProof.Rows
section
variable {prog:Program} {w:World} {A:Around} {E:Value→Shared→Prop} {s:Shared}
end
section
variable {prog:Program} {w:World} {A:Around} {E:Value→Shared→Prop} {s:Shared}
end
end L3
namespace L3
open PySem PySem.Spec PyProof.Rows L2
theorem wb {X : Cx} {pins : List (Addr × Obj)} {σ : St} {H : Hp} {s : Shared} {h' : Heap} {ch : List Addr} {T : Addr} {xs : List V} (I : Inv X pins σ H s) (hf : ∀ b ∈ ch, hX X pins H b) (hT : s.heap.objs.size ≤ T)
   (k:∀ b o,b ∉ ch→s.heap.get? b = some o→h'.get? b = some o) (kc:∀ b ∈ ch,∃ o,h'.get? b = some o) (new:bH X.prog X.w (upd H T (.tup xs)) h' T (.tup xs)):Inv X pins σ (upd H T (.tup xs)) { s with heap:=h' }:=by
 have hn:H T = none:=I.ax.fresh hT
 have nc:∀ b u,H b = some u→b ∉ ch:=fun b u e hb=>by rw [(hf b hb).1] at e;cases e
 have nT:∀ b o,s.heap.get? b = some o→b ≠ T:=fun b o e z=>absurd (Heap.lt_size e) (by rw [z];exact Nat.not_lt.mpr hT)
 refine I.i6 (ch:=ch) rfl ⟨fun b o e _ _ hc=>k b o hc e,fun b o e _ _ hc=>⟨o.slots,k b o hc e⟩,fun b o e n _=>by rw [aB (nT b o e)];exact n,fun b o e hc=>⟨o,k b o hc e⟩,fun b xs e=>?_,fun b o u e=>?_,fun b ps e=>⟨#[],?_⟩⟩ ?_ I.bare ?_
 · rw [aB (aD e hn)];exact e
 · rw [aB (aD e hn)];exact e
 · rw [aB (aD e hn),e];simp
 · intro b u e
   by_cases hb:b = T
   · subst hb
     rw [ak] at e
     cases e
     exact new
   · rw [aB hb] at e
     refine (I.ax b u e).gb (fun c v hc q=>k c v ?_ q) (fun c q=>by rw [aB (aD q hn)];exact q) fun c ys q=>by rw [aB (aD q hn)];exact q
     rcases hc with z | z
     · rw [z];exact nc b u e
     · exact nc c _ z
 · intro b hb
   obtain ⟨f0,f1,f2,f3,f4,f5⟩:=hf b hb
   exact ⟨f3,f1,f4,f5⟩
theorem Gm:bootBuiltins "zip" = some (.type "zip"):=by decide +kernel
end L3
namespace L3
open PySem PySem.Spec PyProof.Rows L2
def ux (w:World) (l:List (Str×Int×Tok×Tok)):List DictEntry:=l.map fun p=>{ hash:=PyData.keyHash w.params p.1,key:=.str p.1 p.2.2.1,val:=.int p.2.1 p.2.2.2 }
def eC (kvs:List (Str×Int)):List (Key×V):=kvs.map fun p=>((Sum.inr p.1:Key),V.int p.2)
structure hU (w : World) (K : PySem.W.Frag) (a : Addr) (kvs : List (Str × Int)) : Prop where
 sys:(a == sysModules) = false
 nd:((eC kvs).map (·.1)).Nodup
 ex:∃ (l:List (Str×Int×Tok×Tok)) (ep:Nat),l.map (fun p=>(p.1,p.2.1)) = kvs∧K.lookup a = some { cls:=.type "dict",dict:=none,data:=.dict (ux w l).toArray ep,slots:=#[] }
theorem qS : ∀ l : List (Str × Int × Tok × Tok), KV (eC (l.map fun p => (p.1, p.2.1))) (l.map fun p => ((Sum.inr p.1 : Key), Value.int p.2.1 p.2.2.2))
 | []=>.nil
 | p :: l=>.cons ⟨rfl,⟨_,rfl⟩⟩ (qS l)
theorem o6 {P : Program} {w : World} : ∀ l : List (Str × Int × Tok × Tok), Pairs (bG P w) (ux w l) (l.map fun p => ((Sum.inr p.1 : Key), Value.int p.2.1 p.2.2.2))
 | []=>.nil
 | p :: l=>.cons (i3 (k:=.inr p.1) ⟨_,rfl⟩) rfl (o6 l)
theorem hU.dict {P : Program} {w : World} {K : PySem.W.Frag} {a : Addr} {kvs : List (Str × Int)} {h : Heap} (c : hU w K a kvs) (x : K.In h) : ∃ vs, KV (eC kvs) vs ∧ h.DictOf (bG P w) a vs := by
 obtain ⟨l,ep,rfl,lk⟩:=c.ex
 refine ⟨_,qS l,_,(ux w l).toArray,ep,x _ _ lk,⟨rfl,rfl,rfl⟩,rfl,fun e he=>?_,by rw [List.toList_toArray];exact o6 l,?_⟩
 · have he : e ∈ ux w l := by simpa using he
   obtain ⟨p,_,rfl⟩:=List.mem_map.mp he
   exact ⟨.inr p.1,i3 (k:=.inr p.1) ⟨_,rfl⟩,rfl⟩
 · rw [← (qS l).keys];exact c.nd
def ua (w:World) (K:PySem.W.Frag) (neg:Bool):R2:=fun y x H Q=>∃ a kvs t,y = .str t∧x = .ref a∧hU w K a kvs∧Q (.bl (if neg then !(bY (eC kvs) (.inr t)).isSome else (bY (eC kvs) (.inr t)).isSome)) H
theorem vQ {X : Cx} {w : World} {K : PySem.W.Frag} (hw : X.w = w) (hK : X.K = K) : b7 X (compareOp .NotIn) (ua w K true) := by
 subst hw hK
 intro pins s σ H y x v u Q I ry rx h
 obtain ⟨a,kvs,t,rfl,rfl,c,q⟩:=h
 cases rx
 obtain ⟨vs,rel,dd⟩:=c.dict (P:=X.prog) I.cP
 refine wpAny_notIn_of (i3 (k:=.inr t) ry) c.sys dd.mapOf ?_
 rw [← (rel.val (.inr t)).vC]
 exact ⟨.bl _,H,I.tok _,rfl,q⟩
def ya (w:World) (K:PySem.W.Frag) (td ty:TE):TE:=fun σ H Q=>td σ H fun x H1=>ty σ H1 fun y H2=>∃ a kvs t v,x = .ref a∧y = .str t∧hU w K a kvs∧bY (eC kvs) (.inr t) = some v∧Q v H2
theorem Bd {X : Cx} {w : World} {K : PySem.W.Frag} {o i : Expr} {td ty : TE} {pos : Pos} (hw : X.w = w) (hK : X.K = K) (ho : PE X o td) (hi : PE X i ty) (hs : BU i) : PE X (.Subscript o i pos) (ya w K td ty) := by
 subst hw hK
 intro pins s σ H Q I h
 refine Bh PySem.F.slot_dict_getitem.lookup hs (aY (ho pins s σ H _ I h) fun u s1 ⟨x,H1,I1,rx,q1⟩=>aY (hi pins s1 σ H1 _ I1 q1) fun iv s2 ⟨y,H2,I2,ry,a,kvs,t,v,ex,ey,c,e,q2⟩=>?_)
 subst ex ey
 obtain rfl:u = Value.ref a:=rx
 obtain ⟨vs,rel,dd⟩:=c.dict (P:=X.prog) I2.cP
 obtain ⟨w',hw,rw'⟩:=eR.some_of (v:=v) (o:=valueAt vs (.inr t)) (by rw [← e];exact rel.val (.inr t))
 exact ⟨dd.typeIs,wpAny_getItem_of (i3 (k:=.inr t) ry) dd.mapOf hw ⟨v,H2,I2.tok _,rw',q2⟩⟩
theorem yb {w:World} {K:PySem.W.Frag} {neg:Bool} {a:Addr} {kvs:List (Str×Int)} {t:Str} {H:Hp} {Q:VK} (c:hU w K a kvs) (q:Q (.bl (if neg then !(bY (eC kvs) (.inr t)).isSome else (bY (eC kvs) (.inr t)).isSome)) H):ua w K neg (.str t) (.ref a) H Q:=⟨a,kvs,t,rfl,rfl,c,q⟩
theorem Cm {w:World} {K:PySem.W.Frag} {td ty:TE} {σ : L2.St} {H:Hp} {Q:VK} (q:td σ H fun x H1=>ty σ H1 fun y H2=>∃ a kvs t v,x = .ref a∧y = .str t∧hU w K a kvs∧bY (eC kvs) (.inr t) = some v∧Q v H2):ya w K td ty σ H Q:=q
theorem BF {w:World} {K:PySem.W.Frag} {a:Addr} {kvs:List (Str×Int)} {t:Str} {v:V} {R:V→Prop} (c:hU w K a kvs) (e:bY (eC kvs) (.inr t) = some v) (q:R v):∃ a' kvs t' v,V.ref a = .ref a'∧V.str t = .str t'∧hU w K a' kvs∧bY (eC kvs) (.inr t') = some v∧R v:=⟨a,kvs,t,v,rfl,rfl,c,e,q⟩
end L3
namespace L3
open PySem PySem.Spec PyProof.Rows L2 PySem.SeqAt
theorem PS.br {X : Cx} {st : Stmt} {t : TS} (h : PS X.br st t) : PS X st t := fun pins s σ H D I hw =>
 wpAny_mono (h pins s σ H D (I.eE _) hw) (fun _ _ q=>q.cX) fun _ _ z=>z.elim
theorem PA.br {X : Cx} {es : List Expr} {t : TA} (h : PA X.br es t) : PA X es t := fun pos pins s σ H Q I hw =>
 wpAny_mono (h pos pins s σ H Q (I.eE _) hw) (fun _ _ ⟨v,H',I',r,q⟩=>⟨v,H',I'.cX,r,q⟩) fun _ _ z=>z.elim
theorem u9 {P : Program} {w : World} {H : Hp} {h0 h5 : Heap} {l : List Addr} (x : cC P w H h0) (hl : ∀ b ∈ l, H b = none) (k : (PySem.W.hideAll h0 l).StaysIn h5) : cC P w H h5 := fun a o e => by
 refine (x a o e).gb (fun b u hb q=>k b u (PySem.W.hideAll_get _ q fun hm=>?_)) (fun _ q=>q) fun _ _ q=>q
 have hn:=hl b hm
 rcases hb with rfl | hb
 · rw [e] at hn;cases hn
 · rw [hb] at hn;cases hn
theorem wM {fs : List Addr} {H H' : Hp} {h h0 h5 : Heap} {l : List Addr} (u : Un fs [] H H' h h0) (hl : ∀ b ∈ l, b ∈ fs ∨ h.objs.size ≤ b) (k : (PySem.W.hideAll h0 l).StaysIn h5) (up : h0.UpToSlots h5)
   (hf:∀ b ∈ fs,H b = none∧∀ o,h.get? b = some o→∀ vs,o.data ≠ .fields vs):Un fs [] H H' h h5:=by
 have nl : ∀ b o, h.get? b = some o → b ∉ fs → b ∉ l := fun b o q hb hm => by
   rcases hl b hm with z | z
   · exact hb z
   · exact absurd (Nat.lt_of_lt_of_le (Heap.lt_size q) z) (Nat.lt_irrefl _)
 have sl : ∀ b o, h.get? b = some o → b ∈ fs → ∃ sl, h5.get? b = some { o with slots := sl } := fun b o q hb => by
   obtain ⟨s1,e1⟩:=u.slot b o q (hf b hb).1 hb (by simp)
   obtain ⟨s2,e2⟩:=up b _ e1 ((hf b hb).2 o q)
   exact ⟨s2,e2⟩
 refine ⟨fun b o q n hb hx=>k b o (PySem.W.hideAll_get _ (u.keep b o q n hb hx) (nl b o q hb)),fun b o q _ hb _=>sl b o q hb,u.free,fun b o q hx=>?_,u.fU,u.fz,u.fV⟩
 by_cases hb:b ∈ fs
 · obtain ⟨s2, e2⟩ := sl b o q hb
   exact ⟨_,e2⟩
 · obtain ⟨o', e'⟩ := u.there b o q hx
   exact ⟨o',k b o' (PySem.W.hideAll_get _ e' (nl b o q hb))⟩
structure qV (P : Program) (w : World) (outer : List Env) (H : Hp) (s : Shared) (ea C : Addr) (H' : Hp) (s' : Shared) : Prop where
 os:s'.os = s.os
 bare:AllBare s'.gens
 ex : ∃ (h0 : Heap) (l : List Addr) (a0 : Value), Un (b6 outer) [] H H' s.heap h0 ∧ cC P w H' h0 ∧ (∀ b ∈ l, H' b = none ∧ (b ∈ b6 outer ∨ s.heap.objs.size ≤ b)) ∧ h0.get? ea = none ∧
   Heap.FlyingW (PySem.W.hideAll h0 l) outer ea (.ref C) a0 s'.heap∧h0.UpToSlots s'.heap
def bB (P:Program) (w:World):dO:=fun outer H s E e s'=>∃ (ea C:Addr) (H':Hp),e = .ref ea∧qV P w outer H s ea C H' s'∧E (.ref C) none H'
structure ja (K : PySem.W.Frag) (mg : Str → Option Value) (x : Str) (C : Addr) : Prop where
 glob:mg x = some (.ref C)
 ex:PySem.W.excIn K C [.type "ValueError",.type "Exception",.type "BaseException",.type "object"] "ValueError.__new__" = true
theorem ja.obj {K : PySem.W.Frag} {mg : Str → Option Value} {x : Str} {C : Addr} {h : Heap} (c : ja K mg x C) (X : K.In h) :
   ∃ (bm : List Value) (N : Addr) (nm qn : Str) (bs : List Value) (hd : Bool) (sn : List Str) (sub : List Value) (ab : Bool) (col : Option Bool) (dd : Option Addr) (k0 k1 k2 k3 k5 : Option Value) (mN : Str → Option Value),
     h.get? C = some (excClassObj nm qn C N bs bm hd sn sub ab col dd k0 k1 k2 k3 k5 "ValueError.__new__")∧h.Ns N mN∧mN "__init__" = none ∧
     OwnTail h [.type "ValueError",.type "Exception",.type "BaseException",.type "object"] bm:=by
 have hq:=c.ex
 unfold PySem.W.excIn at hq
 split at hq
 · rename_i dd cd sl hlk
   split at hq
   · rename_i C' bm k0 k1 k2 k3 id k5 hmro hsl
     simp only [Bool.and_eq_true,Bool.not_eq_true',beq_iff_eq] at hq
     obtain ⟨⟨⟨⟨⟨e1,e2⟩,e3⟩,e4⟩,e5⟩,e6⟩:=hq
     subst e1 e2
     obtain ⟨nm,bs,mro,ns,qn,hd,sn,sub,ab,col,del⟩:=cd
     dsimp only at hmro e3 e5 e6
     subst hmro e3
     obtain ⟨sl⟩:=sl
     dsimp only at hsl
     subst hsl
     exact ⟨bm,ns,nm,qn,bs,hd,sn,sub,ab,col,dd,k0,k1,k2,k3,k5,_,X _ _ hlk,.of_isNs (PySem.W.isNs_of_in X e5),PySem.W.nsMap_none_of_in X e5 e6,PySem.W.tail_of_in X e4⟩
   · cases hq
 · cases hq
end L3
namespace L3
open PySem PySem.Spec PyProof.Rows L2 PySem.SeqAt
def uK (C:Addr) (E:XK) (t:TA):TS:=fun _ σ H=>t σ H fun vs H1=>vs.length ≤ 1000∧E (.ref C) none H1
theorem xn {X : Cx} (hst : X.stack = X.env :: X.outer) (hfr : X.env.frame = some X.env.locals) : b6 X.stack = X.env.locals :: b6 X.outer := by
 rw [hst];unfold b6;rw [List.filterMap_cons,hfr]
theorem rl {X : Cx} {pins : List (Addr × Obj)} {σ : St} {H : Hp} {s : Shared} {h' : Heap} {e C : Addr} {args : List Value} {Q : Unit → Shared → Prop} {Ex : Value → Shared → Prop} (I : Inv X pins σ H s)
   (hst:X.stack = X.env :: X.outer) (hfr:X.env.frame = some X.env.locals) (hex:X.ex = []) (hx:Heap.MadeExcOf s.heap h' e (.ref C) args)
   (hQ:∀ s',qV X.prog X.w X.outer X.H₀ X.s₀ e C H s'→Q () s'):wpAny (model X.prog X.w) X.A (leaving X.env (.ref e)) Q Ex { s with heap:=h' }:=by
 have hfs:=xn hst hfr
 have hin:∀ env ∈ X.stack,∀ a,env.frame = some a→a ∈ b6 X.stack:=fun env he b hb=>List.mem_filterMap.mpr ⟨env,he,hb⟩
 have hl : s.heap.FunFrames (PySem.W.hideAll s.heap (b6 X.stack)) (X.env :: X.outer) := by
   have z:=PySem.W.funFrames_hide I.stack hin
   rw [hst] at z ⊢;exact z
 refine wpAny_leaves_madeW (s:={ s with heap:=h' }) (by rw [← hst];exact I.ok.frames) hfr (fun b o q=>PySem.W.of_hideAll _ q) hl hx fun h2 t x1 _ _ x4=>hQ _ ⟨I.os,I.bare,?_⟩
 have hb:=I.base
 rw [hex] at hb
 refine ⟨s.heap,b6 X.stack,.ref t,hb,I.ax,fun b hm=>⟨I.gX b hm,?_⟩,hx.new,x1,(Heap.UpToSlots.of_keeps hx.keeps).trans x4⟩
 rw [hfs] at hm
 rcases List.mem_cons.mp hm with rfl | hm
 · exact .inr I.ok.above
 · exact .inl hm
theorem gf {P : Program} {w : World} {K : PySem.W.Frag} {mg : Str → Option Value} {base : Heap} {N : List Str} {qual : Str} {scope : Scope} {f : Addr} {cd : Value} {A : Around} {outer : List Env} {s0 : Shared} {H0 : Hp} {E : XK}
   {C:Addr} {x:Str} {np cpos pos:Pos} {e0:Expr} {es:List Expr} {t:TA} (c:ja K mg x C) (hg:Gl (eK (bB P w) P w K mg base N qual scope f cd A outer s0 H0 E) x)
   (ha:PA (eK (bB P w) P w K mg base N qual scope f cd A outer s0 H0 E).br (e0 :: es) t) (hdb:(x == ("__debug__" : Str)) = false:=by decide)
   (he:starEach (e0 :: es) (eK (bB P w) P w K mg base N qual scope f cd A outer s0 H0 E).env = (false,eval e0 (eK (bB P w) P w K mg base N qual scope f cd A outer s0 H0 E).env) :: starEach es (eK (bB P w) P w K mg base N qual scope f cd A outer s0 H0 E).env:=by rfl)
   (hpl:(backTo cpos (starEach es (eK (bB P w) P w K mg base N qual scope f cd A outer s0 H0 E).env)).any (·.1) = false:=by rfl) :
   PS (eK (bB P w) P w K mg base N qual scope f cd A outer s0 H0 E) (.Raise (some (.Call (.Name x np) (e0 :: es) [] cpos)) none pos) (uK C E t):=by
 intro pins s σ H D I h
 obtain ⟨bm,N',nm,qn,bs,hd,sn,sub,ab,col,dd,k0,k1,k2,k3,k5,mN,hC,hN,hni,TL⟩:=c.obj I.ok.mod.tj
 refine wpAny_Raise_call_subU (C := C) (mN := mN) (N := N') (nm := nm) (q := qn) (bs := bs) (bm := bm) (hdct := hd) (sn := sn) (sub := sub) (ab := ab) (col := col) (dd := dd) (k0 := k0) (k1 := k1) (k2 := k2) (k3 := k3) (k5 := k5)
   PySem.F.excBase_ValueError (by decide +kernel) PySem.F.excBase_ValueError (TL.hasType (by decide +kernel)) (I.ok.hd rfl) (by rw [he];show (false || (backTo cpos (starEach es _)).any (·.1)) = false;rw [hpl];rfl) hni ?_
 refine fZ I hg c.glob ⟨rfl,?_⟩ hdb
 have hargs:=(L3.PA.br ha) cpos pins s σ H _ I h
 rw [he] at hargs ⊢
 refine Calls.evalArgs_plain (aY hargs fun us s1 ⟨vs,H1,I1,r,hlen,q⟩=>?_)
 refine ⟨rfl,?_,I1.bk _ _ hC,hN.keeps I1.bk,TL.keeps I1.bk,fun h' e hm=>?_⟩
 · show us.length ≤ sizeLine
   rw [← r.length]
   exact Nat.le_trans hlen (by decide +kernel)
 · exact rl (X:=eK (bB P w) P w K mg base N qual scope f cd A outer s0 H0 E) I1 rfl rfl rfl hm fun s' th=>⟨e,C,H1,rfl,th,q⟩
theorem aC {P : Program} {w : World} {K : PySem.W.Frag} {mg : Str → Option Value} {base : Heap} {N : List Str} {qual : Str} {scope : Scope} {f : Addr} {cd : Value} {A : Around} {outer : List Env} {s0 : Shared} {H0 : Hp} {E : XK} :
   eL (bB P w) (eK (bB P w) P w K mg base N qual scope f cd A outer s0 H0 E) E:=by
 intro pins σ H s e s' I h
 obtain ⟨ea,C,H',rfl,⟨os,bare,h0,l,a0,u,ax,hl,hn,fl,up⟩,q⟩:=h
 show wpAny _ _ (leaving _ (.ref ea)) _ _ s'
 refine wpAny_leaves_onW (outer:=outer) I.ok.frames rfl fl fun h2 fl2 up2=>⟨ea,C,H',rfl,⟨os.trans I.os,bare,h0,l,a0,?_,ax,fun b hb=>⟨(hl b hb).1,?_⟩,hn,fl2,up.trans up2⟩,q⟩
 · have J := I.call (h' := h0) (g' := s'.gens) (d' := s'.drawn) (t' := s'.toks) (ch := []) u ax bare (fun b z => absurd z (by simp))
   exact J.base
 · rcases (hl b hb).2 with z | z
   · have z' : b ∈ b6 (envOfC qual scope s0.heap.objs.size f cd :: outer) := z
     have e1:b6 (envOfC qual scope s0.heap.objs.size f cd :: outer) = s0.heap.objs.size :: b6 outer:=by unfold b6;rw [List.filterMap_cons];rfl
     rw [e1] at z'
     rcases List.mem_cons.mp z' with rfl | z'
     · exact .inr (Nat.le_refl _)
     · exact .inl z'
   · exact .inr (Nat.le_trans I.sz z)
end L3
namespace L3
open PySem PySem.Spec PyProof.Rows L2 PySem.SeqAt
section
variable {P:Program} {w:World} {K:PySem.W.Frag} {mg:Str→Option Value} {base:Heap} {x qual:Str} {st:Stmt} {N ps:List Str} {sp:Sp} {C:Addr} {k:Nat}
def ug (P : Program) (w : World) (K : PySem.W.Frag) (mg : Str → Option Value) (base : Heap) (k : Nat) (qual : Str) (st : Stmt) (N : List Str) (sp : Sp) : Prop :=
 ∀ (f : Addr) (cdv : Value) (A : Around) (outer : List Env) (s : Shared) (H : Hp) (vs : List V) (Q : VK) (E : XK), bR k (A.deeper (envOfC qual (af st) s.heap.objs.size f cdv)) → sp vs H Q E →
   ∃ t,gu (eK (bB P w) P w K mg base N qual (af st) f cdv A outer s H E) (aw st) t∧t { nx:=fun _ H'=>Q .aO H',rt:=Q } (start N vs) H
theorem be.Lq {f : Addr} {fd : FuncData} (F : be K x qual st f fd) (S : aA N ps (af st)) (len : ∀ vs H Q E, sp vs H Q E → vs.length = ps.length) (hbody : ug P w K mg base k qual st N sp) : eO P w K mg base (bB P w) (k + 1) f fd ps sp := by
 obtain ⟨oc,od,kV,doc,pm,an,cdv,ct,osl,rfl,lk,hcd⟩:=F.ex
 exact zB lk hcd S len fun A outer s H vs Q E hr hsp=>hbody f cdv A outer s H vs Q E hr hsp
theorem gx (k : Nat) (h : ∃ f fd, be K x qual st f fd ∧ mg x = some (.ref f) ∧ Binds K fd ps []) (S : aA N ps (af st)) (len : ∀ vs H Q E, sp vs H Q E → vs.length = ps.length)
   (hbody:ug P w K mg base k qual st N sp):eF P w K mg base (bB P w) (k + 1) x sp:=by
 obtain ⟨f,fd,F,hm,hb⟩:=h
 exact ⟨f,fd,ps,be.Lq F S len hbody,hm,F.kp,hb⟩
end
section
variable {X:Cx} {pins:List (Addr×Obj)} {σ : St} {H:Hp} {s:Shared}
theorem BG {M : Model} {A : Around} {E : Value → Shared → Prop} {i : Nat} {n : Str} {pos : Pos} {Q : Unit → Shared → Prop} (I : Inv X pins σ H s) (hN : X.N.Nodup) (hi : X.N[i]? = some n) (hk : X.env.scope.names.lookup n = some .local)
   (h:∀ s',Inv X pins (σ.set i none) H s'→Q () s'):wpAny M A (do bindName X.env n .none;unbindBehindTheSuite X.env n pos) Q E s:=by
 obtain ⟨m,hn,hl⟩:=id I.loc
 have hiσ : i < σ.length:=by rw [I.len];exact (List.getElem?_eq_some_iff.mp hi).1
 have j8:=I.j8
 obtain ⟨oL,_,_,hoL,_⟩:=id hn
 refine wpAny_nameGoes_keeps hk hn (by rw [I.ok.kind];rfl) fun h' v hn' hs=>h _ ?_
 have lo:∀ b o,X.s₀.heap.get? b = some o→h'.get? b = s.heap.get? b:=fun b o e=>hs.2 b (Nat.ne_of_lt (Nat.lt_of_lt_of_le (Heap.lt_size e) I.ok.above))
 refine ⟨I.ok,I.os,I.bare,⟨fun b o e n hb hx=>?_,fun b o e n hb hx=>?_,I.base.free,fun b o e hx=>?_,I.base.fU,I.base.fz,I.base.fV⟩,⟨_,hn',fun j y v' e1 e2 e3=>?_⟩,fun y c e=>?_,I.free,I.ed,fun p hp=>?_,fun b ob e=>?_,by simpa using I.len⟩
 · rw [lo b o e];exact I.base.keep b o e n hb hx
 · rw [lo b o e];exact I.base.slot b o e n hb hx
 · rw [lo b o e];exact I.base.there b o e hx
 · by_cases hj : j = i
   · subst hj
     rw [List.getElem?_set_self hiσ] at e2
     cases e2
   · rw [List.getElem?_set_ne (Ne.symm hj)] at e2
     obtain ⟨u',r',q⟩:=hl j y v' e1 e2 e3
     refine ⟨u',r',?_⟩
     rcases q with ⟨k,e⟩ | ⟨k,c,e,z⟩
     · have ne : y ≠ n := fun e => hj (lP hN e1 (e ▸ hi))
       exact .inl ⟨k,by simp [ne,e]⟩
     · exact .inr ⟨k,c,e,z.sameBut hs (j8 y c e)⟩
 · obtain ⟨w', z⟩ := I.cell y c e
   exact ⟨w',z.sameBut hs (j8 y c e)⟩
 · obtain ⟨e, n, ne, nf, d⟩ := I.pin p hp
   exact ⟨(hs.2 p.1 ne).trans e,n,ne,nf,d⟩
 · refine (I.ax b ob e).gb (fun c w' hc q => (hs.2 c ?_).trans q) (fun _ q => q) fun _ _ q => q
   rintro rfl
   have hf:=I.free
   rcases hc with hc | hc
   · rw [hc,e] at hf;cases hf
   · rw [hc] at hf;cases hf
abbrev Cx.sup (X:Cx) (e:Addr) (pl:List (Addr×Obj)):Cx:={ X with A:=X.A.mark (some (.ref e)),calm:=false,xe:=fun _ _=>False,pn:=X.pn ++ pl }
theorem Cx.Ok.sup {e : Addr} {pl : List (Addr × Obj)} (ok : X.Ok) : (Cx.sup X e pl).Ok :=
 ⟨ok.mod,ok.kind,ok.glob,ok.blt,ok.above,ok.inj,ok.has,ok.rJ,(fun z=>by cases z),ok.frames,ok.sV,ok.xY,ok.bs,ok.jh,ok.i4,ok.nP,ok.fA,ok.lW⟩
theorem Cx.Ok.tV {e : Addr} {pl : List (Addr × Obj)} (ok : (Cx.sup X e pl).Ok) (h : X.calm = true → X.A.handled = none) : X.Ok :=
 ⟨ok.mod,ok.kind,ok.glob,ok.blt,ok.above,ok.inj,ok.has,ok.rJ,h,ok.frames,ok.sV,ok.xY,ok.bs,ok.jh,ok.i4,ok.nP,ok.fA,ok.lW⟩
theorem Inv.sup {e : Addr} {pl : List (Addr × Obj)} (I : Inv X pins σ H s) (h : ∀ p ∈ pl, s.heap.get? p.1 = some p.2 ∧ H p.1 = none ∧ p.1 ≠ X.env.locals ∧ p.1 ∉ X.fs ∧ ∀ v, p.2.data ≠ .cell v) : Inv (Cx.sup X e pl) pins σ H s :=
 ⟨Cx.Ok.sup I.ok, I.os, I.bare, I.base, I.loc, I.cell, I.free, I.ed, fun p hp => by
   rcases List.mem_append.mp hp with hp | hp
   · rcases List.mem_append.mp hp with hp | hp
     · exact I.pin p (List.mem_append_left _ hp)
     · exact h p hp
   · exact I.pin p (List.mem_append_right _ hp),I.ax,I.len⟩
theorem Inv.tV {e : Addr} {pl : List (Addr × Obj)} (I : Inv (Cx.sup X e pl) pins σ H s) (h : X.calm = true → X.A.handled = none) : Inv X pins σ H s :=
 ⟨Cx.Ok.tV I.ok h, I.os, I.bare, I.base, I.loc, I.cell, I.free, I.ed, fun p hp => by
   rcases List.mem_append.mp hp with hp | hp
   · exact I.pin p (List.mem_append_left _ (List.mem_append_left _ hp))
   · exact I.pin p (List.mem_append_right _ hp),I.ax,I.len⟩
end
end L3
namespace L3
open PySem PySem.Spec PyProof.Rows L2 PySem.SeqAt
def tM (X : Cx) (pins : List (Addr × Obj)) (σ : St) (Ew : XK) (ex : Value) (s' : Shared) : Prop :=
 ∃ (ea C:Addr) (H1:Hp) (s1:Shared) (H':Hp),ex = .ref ea∧Inv X pins σ H1 s1∧qV X.prog X.w X.stack H1 s1 ea C H' s'∧Ew (.ref C) none H'
abbrev TB:=Ends→XK→St→Hp→Prop
def PB (X : Cx) (body : List Stmt) (tb : TB) : Prop :=
 ∀ (pins:List (Addr×Obj)) (s:Shared) (σ : St) (H:Hp) (D:Ends) (Ew:XK),Inv X pins σ H s→tb D Ew σ H→wpAny (model X.prog X.w) X.A (execs body X.env) (SP X pins D) (tM X pins σ Ew) s
section
variable {X:Cx} {pins:List (Addr×Obj)} {σ : St} {H:Hp} {s:Shared} {k:Nat} {g x n:Str} {sp:Sp} {e:Expr} {es:List Expr} {t:TA} {gp cpos pos py:Pos}
theorem kG {Q : VK} {Ew : XK} (G : eF X.prog X.w X.K X.mg X.base (bB X.prog X.w) k g sp) (hr : bR k X.A) (hg : Gl X g) (ha : PA X.br (e :: es) t) (I : Inv X pins σ H s) (h : t σ H fun vs H1 => sp vs H1 Q Ew)
   (hdb:(g == ("__debug__" : Str)) = false) (he:starEach (e :: es) X.env = (false,eval e X.env) :: starEach es X.env) (hpl:(backTo cpos (starEach es X.env)).any (·.1) = false) :
   wpAny (model X.prog X.w) X.A (eval (.Call (.Name g gp) (e :: es) [] cpos) X.env) (EP X pins σ Q) (tM X pins σ Ew) s:=by
 obtain ⟨f,fd,ps,F,hm,hk,hb⟩:=G.ex
 refine wpAny_Call_Name_kw (fZ I hg hm ?_ hdb)
 refine PySem.W.callWith_K (h₀:=X.base) I.ok.mod.tj hk (wpAny_mono (ha cpos pins s σ H _ (I.eE _) h) (fun us s1 ⟨vs,H1,I1,r,q⟩=>⟨I1.cP,?_⟩) fun _ _ z=>z.elim) he hpl
 have J:Inv X pins σ H1 s1:=I1.cX
 have hl:us.length = ps.length:=by rw [← r.length];exact F.len _ _ _ _ q
 have hbd:=hb s1 us J.cP (by rw [List.append_nil];exact hl)
 rw [List.append_nil] at hbd
 refine wpAny_call (codeAny_mono (F.run X.A X.stack s1 H1 ⟨us,[]⟩ us vs Q Ew hr J.wW hbd r q) fun r2 s' hq=>?_)
 cases r2 with
 | error ex =>
   obtain ⟨ea,C,H',rfl,th,q2⟩:=(show bB X.prog X.w X.stack H1 s1 Ew ex s' from hq)
   exact ⟨ea,C,H1,s1,H',rfl,J,th,q2⟩
 | ok fl =>
   cases fl with
   | ret u=>exact J.after hq
   | next=>exact False.elim hq
   | brk=>exact False.elim hq
   | cont=>exact False.elim hq
end
end L3
namespace L3
open PySem PySem.Spec PyProof.Rows L2 PySem.SeqAt
section
variable {X:Cx} {pins:List (Addr×Obj)} {σ : St} {H H1 H':Hp} {s s1 s':Shared} {ea C:Addr}
theorem jI {h0 h5 : Heap} {l : List Addr} (I : Inv X pins σ H1 s1) (os : s'.os = s1.os) (bare : AllBare s'.gens) (u : Un (b6 X.stack) [] H1 H' s1.heap h0) (ax : cC X.prog X.w H' h0)
   (hl:∀ b ∈ l,H' b = none∧(b ∈ b6 X.stack∨s1.heap.objs.size ≤ b)) (k:(PySem.W.hideAll h0 l).StaysIn h5) (up:h0.UpToSlots h5):Inv X pins σ H' { s' with heap:=h5 } :=
 I.i6 (s' := { s' with heap := h5 }) os (wM u (fun b hb => (hl b hb).2) k up fun b hb => ⟨I.gX b hb, fun o q => by
   obtain ⟨_,o',q',d⟩:=I.stack.mem hb
   rw [q] at q';cases q';exact d⟩) (u9 ax (fun b hb=>(hl b hb).1) k) bare (fun b z=>absurd z (by simp))
theorem xp (I : Inv X pins σ H' s') (hn : s'.heap.get? ea = none) : H' ea = none ∧ ea ≠ X.env.locals ∧ ea ∉ X.fs := by
 refine ⟨?_,fun z=>?_,fun z=>?_⟩
 · cases q : H' ea with
   | none=>rfl
   | some o =>
     obtain ⟨o', e'⟩ : ∃ o', s'.heap.get? ea = some o' := by
       have z:=I.ax ea o q
       clear q
       induction o with
       | lst xs=>obtain ⟨_,_,_,_,e⟩:=z;exact ⟨_,e⟩
       | tup xs=>obtain ⟨_,_,_,ob,e,_⟩:=z;exact ⟨_,e⟩
       | dK kvs=>obtain ⟨_,_,_,_,ob,_,_,e,_⟩:=z;exact ⟨_,e⟩
       | dT kvs=>obtain ⟨_,_,_,_,ob,_,_,e,_⟩:=z;exact ⟨_,e⟩
       | set S n=>obtain ⟨ob,_,_,_,e,_⟩:=z;exact ⟨_,e⟩
       | ins C dx fs=>obtain ⟨_,_,_,e,_⟩:=z;exact ⟨_,e⟩
       | own y=>obtain ⟨_,e⟩:=z;exact ⟨_,e⟩
       | xd fs=>obtain ⟨_,⟨od,_,_,e,_⟩,_⟩:=z;exact ⟨_,e⟩
       | AR lo hi=>obtain ⟨_,_,_,e⟩:=z;exact ⟨_,e⟩
       | g6 ob u=>obtain ⟨e,_⟩:=z;exact ⟨_,e⟩
       | oS ps=>exact ⟨_,z⟩
       | met f y=>exact ⟨_,z⟩
       | ext φ=>obtain ⟨_,⟨_,e⟩,_⟩:=z;exact ⟨_,e⟩
     rw [hn] at e';cases e'
 · obtain ⟨m, ⟨o, _, _, e, _⟩, _⟩ := I.loc
   rw [← z,hn] at e;cases e
 · obtain ⟨_, o, e, _⟩ := I.fA.mem z
   rw [hn] at e;cases e
end
end L3
namespace L3
open PySem PySem.Spec PyProof.Rows L2 PySem.SeqAt PySem.W Builtin Builtin.ObjectAttr Builtin.Getset_descriptor
structure g4 (K : PySem.W.Frag) (C : Addr) : Prop where
 cl:(PySem.W.clsIn K C).isSome = true
 ga:PySem.W.findIn K (.ref C) "__getattribute__" = some (some (.builtin "BaseException.__getattribute__"))
 gt:PySem.W.findIn K (.ref C) "__getattr__" = some none
 co:PySem.W.findIn K (.ref C) "__class__" = some (some (.builtin "object.__class__"))
 gs:PySem.W.specialIn K (.builtin "object.__class__") "__get__" = some (some (.builtin "getset_descriptor.__get__"))
 tk:PySem.W.takesIn K (.builtin "object.__class__") = some true
 mo:PySem.W.mroIn K C (.type "object") = some true
 mb:PySem.W.mroIn K C (.type "BaseException") = some true
section
variable {prog:Program} {w:World} {A:Around} {E:Value→Shared→Prop} {s:Shared} {K:PySem.W.Frag} {x C:Addr} {ox:Obj}
theorem g5 {M : Model} {h : Heap} (hx : h.get? x = some ox) (hc : ox.cls = .ref C) : Looks M h (typeOf (.ref x)) (.ref C) := by
 rw [← hc];exact (Looks.ld hx).andThen .now
theorem A9 {R : Result → Shared → Prop} {tp : Value} (X : K.In s.heap) (hx : s.heap.get? x = some ox) (hc : ox.cls = .ref C) (F : g4 K C) (h : R (.ok (.ret (.ref C))) s) :
   codeAny (model prog w) A (.call (.builtin "getset_descriptor.__get__") ⟨[.builtin "object.__class__",.ref x,tp],[]⟩) R s:=by
 obtain ⟨hh,g,dr,t,os⟩:=s
 have LT:=g5 (M:=model prog w) hx hc
 have LM:=looks_mroIn (M:=model prog w) X F.mo
 have hty:Shared.TypeIs ⟨hh,g,dr,t,os⟩ (.builtin "object.__class__") "getset_descriptor":=KF.type_class
 refine codeAny_call_builtin KF.slot_gs.plain KF.entry_gs ?_
 refine KF.slot_gs.check _ _ _ _ _ _ _ _ hty (KF.args_gs _ _ _) ?_
 unfold Builtin.«getset_descriptor.__get__» descrGet
 rw [dga_obj]
 refine wpAny_bind (wpAny_pure ?_)
 unfold descrGetter descrCheckInstance descrNameAndClass PySem.isInstance
 simp only [KF.owner_class]
 repeat lk
 refine ⟨Code.quiet_builtin _ (by decide +kernel),codeAny_builtin KF.entry_class ?_⟩
 unfold Builtin.«object.__class__» PySem.shownTypeOf
 repeat lk
 exact h
theorem wQ {M : Model} {h : Heap} (X : K.In h) (F : g4 K C) : Looks M h (find (.ref x) (.ref C) "__class__") (.bind (.builtin "getset_descriptor.__get__") (.builtin "object.__class__")) := by
 refine (looks_findIn (M:=M) X F.co).andThen ?_
 refine (show Looks M h (getOf (some (.builtin "object.__class__"))) (some (.builtin "getset_descriptor.__get__")) from looks_specialIn X F.gs).andThen ?_
 have L3:=looks_takesIn (M:=M) X F.tk
 exact (show Looks M h (dataDescriptor? (some (.builtin "object.__class__")) (some (.builtin "getset_descriptor.__get__"))) (some (.builtin "getset_descriptor.__get__",.builtin "object.__class__")) from L3.andThen .now).andThen (Looks.tag .now)
end
end L3
namespace L3
open PySem PySem.Spec PyProof.Rows L2 PySem.SeqAt PySem.W Builtin Builtin.ObjectAttr Builtin.Getset_descriptor
section
variable {prog:Program} {w:World} {A:Around} {E:Value→Shared→Prop} {s:Shared} {K:PySem.W.Frag} {x C:Addr} {ox:Obj}
theorem uS {Q : Fin → Shared → Prop} {tk : Tok} (X : K.In s.heap) (hx : s.heap.get? x = some ox) (hc : ox.cls = .ref C) (F : g4 K C) (h : Q (.done (.ret (.ref C))) s) :
   wpAny (model prog w) A (Builtin.«object.__getattribute__» ⟨[.ref x,.str "__class__" tk],[]⟩) Q E s:=by
 obtain ⟨hh,g,dr,t,os⟩:=s
 have LT:=g5 (M:=model prog w) hx hc
 have LF:=wQ (M:=model prog w) (x:=x) X F
 unfold Builtin.«object.__getattribute__»
 repeat (first | with_reducible refine wpAny_call ?_ | lk)
 refine A9 X hx hc F ?_
 repeat lk
 exact h
theorem vT {M : Model} {nameV : Value} {Q : Unit → Shared → Prop} (X : K.In s.heap) (hx : s.heap.get? x = some ox) (hc : ox.cls = .ref C) (F : g4 K C) (h : Q () s) :
   wpAny M A (checkBuiltinCall "BaseException.__getattribute__" ⟨[.ref x,nameV],[]⟩) Q E s:=by
 obtain ⟨hh,g,dr,t,os⟩:=s
 have LT:=g5 (M:=M) hx hc
 have LM:=looks_mroIn (M:=M) X F.mb
 have k1:builtinKind "BaseException.__getattribute__" = some .slot:=by decide +kernel
 have k2:splitId "BaseException.__getattribute__" = some ("BaseException","__getattribute__"):=by decide +kernel
 have k3:=PySem.F.args_bexc_ga (.ref x) nameV
 simp only [checkBuiltinCall,k1,k2]
 refine wpAny_bind ?_
 unfold PySem.isInstance
 repeat lk
 exact h
theorem vU {Q : Option Value → Shared → Prop} (X : K.In s.heap) (hx : s.heap.get? x = some ox) (hc : ox.cls = .ref C) (F : g4 K C) (h : Q (some (.ref C)) { s with toks := s.toks + 1 }) :
   wpAny (model prog w) A (getAttr? (.ref x) "__class__") Q E s:=by
 obtain ⟨hh,g,dr,t,os⟩:=s
 have LT:=g5 (M:=model prog w) hx hc
 have LG:=looks_findIn (M:=model prog w) X F.ga
 have LH:=looks_findIn (M:=model prog w) X F.gt
 unfold getAttr? getAttrBy? getAttrBy
 refine wpAny_bind (wpAny_mkText (wpAny_bind (wpAny_attempt (wpAny_holding (wpAny_bind (LT.at ?_))))))
 refine wpAny_bind (LG.at ?_)
 have n1 : (onTheHeap (.ref C) && Value.builtin "BaseException.__getattribute__" == Value.builtin "object.__getattribute__") = false := by
   show (true && Value.builtin "BaseException.__getattribute__" == Value.builtin "object.__getattribute__") = false
   decide +kernel
 show wpAny _ _ (if (onTheHeap (.ref C) && Value.builtin "BaseException.__getattribute__" == Value.builtin "object.__getattribute__") = true then _ else getAttrByItsOwn _ _ _ _ _ _) _ _ _
 rw [n1,if_neg Bool.false_ne_true]
 unfold getAttrByItsOwn hookBefore
 refine wpAny_bind (LH.at ?_)
 refine wpAny_bind (wpAny_attempt (wpAny_holding ?_))
 have b1:=PySem.F.excAttr_ValueError.ga.bind (.ref x)
 show wpAny _ _ (boundAndCalled _ _ _) _ _ _
 unfold boundAndCalled
 rw [b1]
 refine wpAny_bind (wpAny_pure ?_)
 refine wpAny_call (codeAny_call_builtin PySem.F.excAttr_ValueError.ga.plain PySem.F.entry_bexc_ga (vT (s:=⟨hh,g,dr,t + 1,os⟩) X hx hc F (uS (s:=⟨hh,g,dr,t + 1,os⟩) X hx hc F ?_)))
 exact handed_on rfl (wpAny_pure h)
theorem Be (hc : ox.cls = .ref C) (F : g4 K C) : KitX K (.ref x) (.ref C) (fun h => h.get? x = some ox) where
 ty:=fun _ _ _ p=>g5 p hc
 it := fun _ _ X _ => by
   obtain ⟨cd,hcd⟩:=Option.isSome_iff_exists.mp F.cl
   unfold clsIn at hcd
   split at hcd
   · rename_i hlk
     intro A' Q' E' s' k q
     unfold isType loadHead
     exact wpAny_bind (wpAny_loadPart (k _ _ (X _ _ hlk)) (wpAny_pure q))
   · cases hcd
 ne := fun h tp dd its n sl X htp => by
   obtain ⟨cd,hcd⟩:=Option.isSome_iff_exists.mp F.cl
   refine Bool.eq_false_iff.mpr fun q=>?_
   have e:C = tp:=Value.ref.inj (beq_iff_eq.mp q)
   subst e
   unfold clsIn at hcd
   split at hcd
   · rename_i hlk
     have z:=(X _ _ hlk).symm.trans htp
     cases z
   · cases hcd
 ca:=fun X p k=>vU X p hc F k
def ub (K:PySem.W.Frag) (ea C:Addr):List V→Hp→VK→Prop:=fun xs H Q=>∃ c b,xs = [.ref ea,c]∧gj c ≠ .none∧kitOne K (.ref C) (gj c) = some b∧Q (.bl b) H
theorem uN {X : Cx} {ea : Addr} {oe : Obj} (hp : (ea, oe) ∈ X.pn) (hc : oe.cls = .ref C) (F : g4 X.K C) : dS X (.builtin "isinstance") (ub X.K ea C) := by
 intro pins s σ H xs us Q I r h
 obtain ⟨c,b,rfl,hn,e,q⟩:=h
 obtain ⟨u,w',rfl,rx,rc⟩:=vals2 r
 cases rf rc hn
 cases (show u = Value.ref ea from rx)
 exact kia_one (Be hc F) I.cP (I.pin (ea,oe) (List.mem_append_left _ hp)).1 e (fun z=>nomatch z) fun tk=>⟨.bl b,H,I.tok _,rfl,q⟩
theorem ee {K:PySem.W.Frag} {ea C:Addr} {c:V} {H:Hp} {Q:VK} {b:Bool} (hc:gj c ≠ .none) (e:kitOne K (.ref C) (gj c) = some b) (q:Q (.bl b) H):ub K ea C [.ref ea,c] H Q:=⟨c,b,rfl,hc,e,q⟩
theorem gT {X:Cx} {K:PySem.W.Frag} {ea C:Addr} {oe:Obj} (h:X.K = K) (hp:(ea,oe) ∈ X.pn) (hc:oe.cls = .ref C) (F:g4 K C):dS X (.builtin "isinstance") (ub K ea C):=by subst h;exact uN hp hc F
theorem By {C:Addr} {E:XK} {t:TA} {D:Ends} {σ : L2.St} {H:Hp} (h:t σ H fun vs H1=>vs.length ≤ 1000∧E (.ref C) none H1):uK C E t D σ H:=h
end
end L3
namespace L3
open PySem PySem.Spec PyProof.Rows L2 PySem.SeqAt
section
variable {X:Cx} {k:Nat} {g:Str} {sp:Sp} {e c:Expr} {es:List Expr} {t:TA} {gp cpos pos:Pos} {b1 b2:List Stmt} {tc:TT} {t1 t2:TB}
def Lo (tc:TT) (t1 t2:TB):TB:=fun D Ew σ H=>tc σ H fun b H1=>if b = true then t1 D Ew σ H1 else t2 D Ew σ H1
theorem GG (hc : PT X.br c tc) (h1 : PB X b1 t1) (h2 : PB X b2 t2) : PB X [.If c b1 b2 pos] (Lo tc t1 t2) := by
 intro pins s σ H D Ew I h
 refine wpAny_execs_cons (wpAny_If (wpAny_mono (hc pins s σ H _ (I.eE _) h) (fun b s1 ⟨H1,I1,q1⟩=>?_) fun _ _ z=>z.elim))
 have J:Inv X pins σ H1 s1:=I1.cX
 cases b with
 | true=>exact wpAny_mono (h1 pins s1 σ H1 D Ew J q1) (fun f s2 q=>by cases f <;> first | exact wpAny_execs_nil q | exact q) fun _ _ z=>z
 | false=>exact wpAny_mono (h2 pins s1 σ H1 D Ew J q1) (fun f s2 q=>by cases f <;> first | exact wpAny_execs_nil q | exact q) fun _ _ z=>z
end
section
variable {X:Cx} {v:Expr} {tv:TE} {x y:Str} {j1 j2:Nat} {p0 p1 p2 p3:Pos}
def AS (x y:Str) (tv:TE):TE:=fun σ H Q=>tv σ H fun u H1=>∃ i,u = .int i∧i.natAbs.log2 < 1920∧(Str.empty ++ x ++ Str.ofString (toString i)).length ≤ sizeLine∧(Str.empty ++ x ++ Str.ofString (toString i) ++ y).length ≤ sizeLine∧Q (.str (Str.empty ++ x ++ Str.ofString (toString i) ++ y)) H1
theorem Bc (hv : PE X v tv) (hx : (Str.empty ++ x).length ≤ sizeLine := by decide +kernel) : PE X (.JoinedStr [.Constant (.str x) j1 p1, .FormattedValue v (-1) none p2, .Constant (.str y) j2 p3] p0) (AS x y tv) := by
 intro pins s σ H Q I h
 refine JoinedStr_many (joinParts_cons (aY (ai (X:=X) pins s σ H (fun u H'=>u = .str x∧H' = H) I ⟨rfl,rfl⟩) fun u1 s1 ⟨v1,H1,I1,r1,e1,e2⟩=>?_))
 subst e1 e2
 obtain ⟨t1,rfl⟩:=r1
 refine ⟨hx,joinParts_cons (FormattedValue_plain (aY (hv pins s1 σ H1 _ I1 h) fun u2 s2 ⟨v2,H2,I2,r2,i,e,hd,hy,hz,q⟩=>?_))⟩
 subst e
 obtain ⟨t2,rfl⟩:=r2
 refine formatField_int_small hd ?_
 refine ⟨hy,joinParts_cons (aY (ai (X:=X) pins _ σ H2 (fun u H'=>u = .str y∧H' = H2) (I2.tok _) ⟨rfl,rfl⟩) fun u3 s3 ⟨v3,H3,I3,r3,e3,e4⟩=>?_)⟩
 subst e3 e4
 obtain ⟨t3,rfl⟩:=r3
 exact ⟨hz,joinParts_nil ⟨.str _,_,I3.tok _,⟨_,rfl⟩,q⟩ hz⟩
end
end L3
namespace L3
open PySem PySem.Spec PyProof.Rows
section
variable {prog:Program} {w:World} {A:Around} {E:Value→Shared→Prop} {s:Shared}
end
section
variable {prog:Program} {w:World} {A:Around} {E:Value→Shared→Prop} {s:Shared}
end
end L3
namespace L3
open PySem PySem.Spec PyProof.Rows L2
end L3
namespace L3
open PySem PySem.Spec PyProof.Rows L2 PySem.SeqAt
end L3
namespace L3
open PySem PySem.Spec PyProof.Rows L2 PySem.SeqAt
section
variable {P:Program} {w:World} {K:PySem.W.Frag} {mg:Str→Option Value} {base:Heap} {dv:Value}
end
section
variable {X:Cx} {CX:dO} {k:Nat} {C:Addr} {dV:V} {sp:Sp} {E:XK} {x m:Str} {p pos apos:Pos} {e o:Expr} {es:List Expr} {ta:TE} {t:TA}
end
section
variable {P:Program} {w:World} {K:PySem.W.Frag} {mg:Str→Option Value} {base:Heap} {x qual:Str} {st:Stmt} {N ps:List Str} {sp:Sp} {C:Addr}
theorem cY {y : Str} (k : Nat) (hy : mg y = some (.ref C)) (h : ∃ f fd, be K "__init__" qual st f fd ∧ Mk K C f ∧ Binds K fd ps []) (S : aA N ps (af st)) (len : ∀ vs H Q E, sp vs H Q E → vs.length = ps.length)
   (hbody:ug P w K mg base k qual st N sp):gv P w K mg base (bB P w) (k + 1) y C sp:=by
 obtain ⟨f,fd,F,hm,hb⟩:=h
 exact ⟨f,fd,ps,hm,be.Lq F S len hbody,hy,hb⟩
end
end L3
namespace FB
open PySem PySem.Spec PyProof.Rows L2 L3 PySem.SeqAt
inductive Rw where
 | set (b n:Int) | copy (b o:Int) | add (b o t:Int) | sub (b o t:Int) | mul (b o t:Int) | less (b o t:Int)
 | grow (m:Int) | shrink (m:Int) | put (b c:Int) | get (b c:Int)
 | gD (t:Int) | branch (b t:Int) | call (t:Int) | back (b:Int) | drop (b:Int)
def cA (b:Int):Prop:=0 ≤ b∧b ≤ 7
def isVal (n:Int):Prop:=0 ≤ n∧n ≤ 4294967295
def iA (n:Int):Prop:=0 ≤ n∧n ≤ 4000
def mz (n:Int):Prop:=0 ≤ n∧n ≤ 2000
def Rw.ok : Rw → Prop
 | .set b n=>cA b∧isVal n
 | .copy b o=>cA b∧cA o
 | .add b o t | .sub b o t | .mul b o t | .less b o t=>cA b∧cA o∧cA t
 | .grow m | .shrink m=>iA m
 | .put b c | .get b c=>cA b∧iA c
 | .gD t | .call t=>mz t
 | .branch b t=>cA b∧mz t
 | .back b | .drop b=>cA b
def gI (xs:List Int) (i:Int):Int:=xs.getD i.toNat 0
def sI (xs:List Int) (i v:Int):List Int:=xs.set i.toNat v
theorem vm (xs:List Int) (i v:Int):(sI xs i v).length = xs.length:=by unfold sI;exact List.length_set ..
theorem FI {xs : List Int} {i : Int} (h0 : 0 ≤ i) (h1 : i < xs.length) : g9 (xs.map V.int) i = some (.int (gI xs i)) := by
 have e:i = ((i.toNat:Nat):Int):=by omega
 have hl:i.toNat < xs.length:=by omega
 have z : g9 (xs.map V.int) ((i.toNat : Nat) : Int) = some (.int (gI xs i)) := ek (by
   rw [List.getElem?_map,List.getElem?_eq_getElem hl]
   simp [gI,List.getD,List.getElem?_eq_getElem hl])
 rw [← e] at z;exact z
theorem D5 {K:PySem.W.Frag} {p:Addr} {xs:List Int} {H:Hp} {Q:VK} (h:aH K H p (xs.map V.int)) (q:Q (.int xs.length) H):qB K [.ref p] H Q:=uZ h (by rw [List.length_map];exact q)
def ot (xs:List Int) (lo hi:Option Int):List Int:=(xs.drop (HT.bj xs.length 0 lo)).take (HT.bj xs.length xs.length hi - HT.bj xs.length 0 lo)
theorem wF (xs : List Int) (lo hi : Option Int) : gB (xs.map V.int) lo hi = (ot xs lo hi).map V.int := by
 unfold gB ot;rw [List.length_map,List.map_take,List.map_drop]
theorem xx (xs : List Int) (lo hi : Option Int) : (ot xs lo hi).length ≤ xs.length := by
 unfold ot;rw [List.length_take,List.length_drop];omega
theorem GY {K : PySem.W.Frag} {p : Addr} {xs : List Int} {lo hi : Option Int} {H : Hp} {Q : VK} (h : aH K H p (xs.map V.int)) (q : ∀ l, H l = none → Q (.ref l) (upd H l (.lst ((ot xs lo hi).map V.int)))) : tO K (.ref p) lo hi H Q :=
 yw h (by rw [wF];exact q)
def Rw.c5 : Rw → Str × List Int
 | .set b n=>("set",[b,n])
 | .copy b o=>("copy",[b,o])
 | .add b o t=>("add",[b,o,t])
 | .sub b o t=>("sub",[b,o,t])
 | .mul b o t=>("mul",[b,o,t])
 | .less b o t=>("less",[b,o,t])
 | .grow m=>("grow",[m])
 | .shrink m=>("shrink",[m])
 | .put b c=>("put",[b,c])
 | .get b c=>("get",[b,c])
 | .gD t=>("jump",[t])
 | .branch b t=>("branch",[b,t])
 | .call t=>("call",[t])
 | .back b=>("back",[b])
 | .drop b=>("drop",[b])
def Rw.wy : Rw → List (Str × V)
 | .set b n=>aN "number" (.int n) (aN "box" (.int b) [])
 | .copy b o=>aN "one" (.int o) (aN "box" (.int b) [])
 | .add b o t | .sub b o t | .mul b o t | .less b o t=>aN "other" (.int t) (aN "one" (.int o) (aN "box" (.int b) []))
 | .grow m | .shrink m=>aN "many" (.int m) []
 | .put b c | .get b c=>aN "cell" (.int c) (aN "box" (.int b) [])
 | .gD t | .call t=>aN "target" (.int t) []
 | .branch b t=>aN "target" (.int t) (aN "box" (.int b) [])
 | .back b | .drop b=>aN "box" (.int b) []
structure aP where
 NW:Addr
 bV:Addr
 bC:Addr
 bP:Addr
 bO:Addr
 bN:Addr
 bw:Addr
 bJ:Addr
 bh:Addr
 bU:Addr
 bX:Addr
 bI:Addr
 a6:Addr
 bK:Addr
 bL:Addr
 bM:Addr
 EU:Addr
 Hd:Addr
 aR:Addr
 aW:Addr
 Lu:Addr
 aV:Addr
 Nv:Addr
 Lr:Addr
 Ln:Addr
 Nk:Addr
 EW:Addr
 LI:Addr
 MP:Addr
 Nu:Addr
 Nt:Addr
 dZ:Addr
 Dr:Addr
 EV:Addr
 Nr:Addr
 ET:Addr
def Rw.cls (a : aP) : Rw → Addr
 | .set ..=>a.bV
 | .copy ..=>a.bC
 | .add ..=>a.bP
 | .sub ..=>a.bO
 | .mul ..=>a.bN
 | .less ..=>a.bw
 | .grow ..=>a.bJ
 | .shrink ..=>a.bh
 | .put ..=>a.bU
 | .get ..=>a.bX
 | .gD ..=>a.bI
 | .branch ..=>a.a6
 | .call ..=>a.bK
 | .back ..=>a.bL
 | .drop ..=>a.bM
def e7 (a:aP) (H:Hp) (p:Addr) (r:Rw):Prop:=∃ dx,H p = some (.ins (r.cls a) dx r.wy)
theorem e7.same {a:aP} {H H':Hp} {p:Addr} {r:Rw} (h:e7 a H p r) (s:aq H H'):e7 a H' p r:=let ⟨dx,e⟩:=h;⟨dx,s _ _ e⟩
theorem fS {H:Hp} {x:Addr} {o1 o2:HO}:∀ b o,H b = some o→b ≠ x→upd (upd H x o1) x o2 b = some o:=fun b o e ne=>by rw [aB ne,aB ne];exact e
theorem cW {H:Hp} {x:Addr} {o1:HO}:∀ b o,H b = some o→b ≠ x→upd H x o1 b = some o:=fun b o e ne=>by rw [aB ne];exact e
theorem iZ {H:Hp} {x:Addr} {o1 o2 o3:HO}:∀ b o,H b = some o→b ≠ x→upd (upd (upd H x o1) x o2) x o3 b = some o:=fun b o e ne=>by rw [aB ne,aB ne,aB ne];exact e
def bg (a:aP) (r:Rw):Sp:=fun vs H Q _=>∃ (x:Addr),vs = [.ref x]∧e7 a H x r∧∀ p,H p = none→Q (.ref p) (upd H p (.tup (.str r.c5.1 :: r.c5.2.map V.int)))
def cellAt (ns:List Int) (k:Int):Int:=ns.getD k.toNat 0
def lu (K:PySem.W.Frag):Sp:=fun vs H Q _=>∃ (p:Addr) (ns:List Int) (k:Int),vs = [.ref p,.int k]∧aH K H p (ns.map V.int)∧0 ≤ k∧Q (.int (cellAt ns k)) H
theorem wC {K:PySem.W.Frag} {p:Addr} {ns:List Int} {k:Int} {H:Hp} {Q:VK} {E:XK} (h:aH K H p (ns.map V.int)) (h0 : 0 ≤ k) (q:Q (.int (cellAt ns k)) H):lu K [.ref p,.int k] H Q E:=⟨p,ns,k,rfl,h,h0,q⟩
theorem tQ {ns : List Int} {k : Int} (h0 : 0 ≤ k) (h : ¬ k < ns.length) : cellAt ns k = 0 := by
 unfold cellAt
 rw [List.getD_eq_getElem?_getD,List.getElem?_eq_none (by omega)]
 rfl
def ui (K:PySem.W.Frag):Sp:=fun vs H Q _=>∃ (a:Addr) (ns:List Int),vs = [.ref a]∧aH K H a (ns.map V.int)∧ns.length ≤ 63∧∀ H',Q (.bl true) H'
theorem Bs {fs:List (Str×V)} {f g:Str} {v w:V} (h:f ≠ g) (e:fs.lookup f = some w):(aN g v fs).lookup f = some w:=by rw [fk,if_neg h];exact e
theorem qY {fs:List (Str×V)} {f:Str} {v:V}:(aN f v fs).lookup f = some v:=by rw [fk,if_pos rfl]
theorem A7 {fs:List (Str×V)} {f g:Str} {v:V} (h:f ≠ g) (e:fs.lookup f = none):(aN g v fs).lookup f = none:=by rw [fk,if_neg h];exact e
theorem iN {fs:List (Str×V)} {f:Str} {v:V} {n:Nat} (e:fs.length ≤ n):(aN f v fs).length ≤ n + 1:=Nat.le_trans (ik _ _ _) (Nat.succ_le_succ e)
end FB
namespace L3
open PySem PySem.Spec PyProof.Rows L2 PySem.SeqAt
section
variable {prog:Program} {w:World} {A:Around} {E:Value→Shared→Prop} {h:Heap} {g:Array GenState} {d:Drawn} {t:Nat} {os:OsState}
variable {nm q:Str} {C N:Addr} {bs bm bmB:List Value} {hdct:Bool} {sn:List Str} {sub:List Value} {ab:Bool} {col:Option Bool} {dd:Option Addr} {k0 k1 k2 k3 k5:Option Value} {B Bn newId nid initId inN:String} {bmN:List Value}
end
end L3
namespace L3
open PySem PySem.Spec PyProof.Rows L2 PySem.SeqAt
end L3
namespace L3
open PySem PySem.Spec PyProof.Rows L2 PySem.SeqAt PySem.W Builtin Builtin.ObjectAttr
section
variable {prog:Program} {w:World} {A:Around} {E:Value→Shared→Prop} {s:Shared} {K:PySem.W.Frag} {x C t:Addr} {name:Str} {v:Value}
end
end L3
namespace L3
open PySem PySem.Spec PyProof.Rows L2 PySem.SeqAt
section
variable {X:Cx} {pins:List (Addr×Obj)} {σ : L2.St} {H:Hp} {s:Shared} {a C:Addr} {f:Str} {A:Around} {E:Value→Shared→Prop}
end
end L3
namespace L3
open PySem PySem.Spec PyProof.Rows L2 PySem.SeqAt
section
variable {M:Model} {A:Around} {E:Value→Shared→Prop} {s:Shared}
end
end L3
namespace L3
open PySem PySem.Spec PyProof.Rows L2 PySem.SeqAt
section
variable {M:Model} {A:Around} {E:Value→Shared→Prop} {env:Env}
variable {nm q:Str} {C N:Addr} {bs bm:List Value} {hdct:Bool} {sn:List Str} {sub:List Value} {ab:Bool} {col:Option Bool} {dd:Option Addr} {k0 k1 k2 k3 k5:Option Value} {newId:String}
end
section
variable {prog:Program} {w:World} {A:Around} {E:Value→Shared→Prop} {s:Shared} {env:Env}
variable {nm q:Str} {C N:Addr} {bs bm bmB:List Value} {hdct:Bool} {sn:List Str} {sub:List Value} {ab:Bool} {col:Option Bool} {dd:Option Addr} {k0 k1 k2 k3 k5:Option Value} {B Bn newId nid initId inN:String} {bmN:List Value}
end
end L3
namespace L3
open PySem PySem.Spec PyProof.Rows L2 PySem.SeqAt
section
variable {P:Program} {w:World} {K:PySem.W.Frag} {mg:Str→Option Value} {base:Heap} {x qual:Str} {st:Stmt} {N ps:List Str} {sp:Sp} {C:Addr} {k:Nat}
end
section
variable {X:Cx} {pins:List (Addr×Obj)} {σ : L2.St} {H:Hp} {s:Shared} {k:Nat} {g x n:Str} {sp:Sp} {e:Expr} {es:List Expr} {t:TA} {tx:TEX} {ta:TAX} {te:TE} {gp cpos pos py:Pos}
end
end L3
namespace L3
open PySem PySem.Spec PyProof.Rows L2 PySem.SeqAt PySem.W Builtin Builtin.ObjectAttr
section
variable {prog:Program} {w:World} {A:Around} {E:Value→Shared→Prop} {s:Shared} {K:PySem.W.Frag} {x C dx:Addr} {ox od:Obj} {name:Str} {v:Value}
end
section
variable {X:Cx} {pins:List (Addr×Obj)} {σ : L2.St} {C fI:Addr}
end
end L3
namespace L3
open PySem PySem.Spec PyProof.Rows L2 PySem.SeqAt
def yt (x:Str) (tv:TE):TE:=fun σ H Q=>tv σ H fun u H1=>∃ i,u = .int i∧i.natAbs.log2 < 1900∧Q (.str (Str.empty ++ x ++ Str.ofString (toString i))) H1
theorem Bv {X : Cx} {v : Expr} {tv : TE} {x : Str} {j1 : Nat} {p0 p1 p2 : Pos} (hv : PE X v tv) (hx : (Str.empty ++ x).length ≤ 1000 := by decide +kernel) : PE X (.JoinedStr [.Constant (.str x) j1 p1, .FormattedValue v (-1) none p2] p0) (yt x tv) := by
 intro pins s σ H Q I h
 refine JoinedStr_many (joinParts_cons (aY (ai (X:=X) pins s σ H (fun u H'=>u = .str x∧H' = H) I ⟨rfl,rfl⟩) fun u1 s1 ⟨v1,H1,I1,r1,e1,e2⟩=>?_))
 subst e1 e2
 obtain ⟨t1,rfl⟩:=r1
 refine ⟨by rw [sizeLine_eq];omega,joinParts_cons (FormattedValue_plain (aY (hv pins s1 σ H1 _ I1 h) fun u2 s2 ⟨v2,H2,I2,r2,i,e,hd,q⟩=>?_))⟩
 subst e
 obtain ⟨t2,rfl⟩:=r2
 have hl:=int_text_len_1921 (i:=i) (by omega)
 have hz : (Str.empty ++ x ++ Str.ofString (toString i)).length ≤ sizeLine := by
   rw [sizeLine_eq]
   have : (Str.empty ++ x ++ Str.ofString (toString i)).length = (Str.empty ++ x).length + (Str.ofString (toString i)).length := by
     show Array.size _ = Array.size _ + Array.size _
     exact Array.size_append
   omega
 refine formatField_int_small (by omega) ?_
 exact ⟨hz,joinParts_nil ⟨.str _,_,(I2.tok _).tok _,⟨_,rfl⟩,q⟩ hz⟩
theorem Co {x:Str} {tv:TE} {σ : L2.St} {H:Hp} {Q:VK} (h:tv σ H fun u H1=>∃ i,u = .int i∧i.natAbs.log2 < 1900∧Q (.str (Str.empty ++ x ++ Str.ofString (toString i))) H1):yt x tv σ H Q:=h
theorem oR {i : Int} (h1 : -(2 ^ 62) ≤ i) (h2 : i < 2 ^ 62) : i.natAbs.log2 < 1900 := by
 have h3:i.natAbs < 2 ^ 63:=by omega
 by_cases h0:i.natAbs = 0
 · rw [h0];decide
 · have := (Nat.log2_lt h0).mpr h3
   omega
end L3
namespace L3
open PySem PySem.Spec PyProof.Rows L2 PySem.SeqAt
end L3
namespace L3
open PySem PySem.Spec PyProof.Rows L2 PySem.SeqAt
section
variable {prog:Program} {w:World} {A:Around} {E:Value→Shared→Prop} {s:Shared}
end
end L3
namespace L3
open PySem PySem.Spec PyProof.Rows L2 PySem.SeqAt
section
variable {M:Model} {A:Around} {E:Value→Shared→Prop}
variable {nm q:Str} {D N:Addr} {bs bm:List Value} {hdct:Bool} {sn:List Str} {sub:List Value} {ab:Bool} {col:Option Bool} {dd:Option Addr} {k0 k1 k2 k3 k5:Option Value} {newId:String}
end
section
variable {X:Cx} {pins:List (Addr×Obj)} {σ : St} {H H1 H':Hp} {s s1 s':Shared} {ea C:Addr}
end
end L3
namespace L3
open PySem PySem.Spec PyProof.Rows L2
section
variable {prog:Program} {w:World} {A:Around} {E:Value→Shared→Prop} {s:Shared}
theorem xi {t u : Addr} {xs ys : Array Value} {Q : Value → Shared → Prop} (h1 : s.heap.IsList t xs) (h2 : s.heap.IsList u ys)
   (q : ∀ h' n, n = s.heap.objs.size → IsZip h' (n + 4) (n + 2) (n + 3) .none → IsPair h' (n + 2) (.ref n) (.ref (n + 1)) → IsPair h' (n + 3) .none .none → h'.IsListIter n t 0 → h'.IsListIter (n + 1) u 0 →
     (∀ c o,s.heap.get? c = some o→h'.get? c = some o)→Q (.ref (n + 4)) { s with heap:=h' }):wpAny (model prog w) A (call (.type "zip") [.ref t,.ref u]) Q E s :=
 call_zip_2 h1 h2 fun h' a1 a2 a3 a4 a5 _ a7=>q h' _ rfl a1 a2 a3 a4 a5 a7
theorem rQ {z TI TO i1 i2 t1 t2 : Addr} {k : Nat} {xs ys : Array Value} {a b : Value} {Q : Option Value → Shared → Prop} (D : ZipApart z TI TO i1 i2 t1 t2) (hz : IsZip s.heap z TI TO .none) (hTI : IsPair s.heap TI (.ref i1) (.ref i2)) (hTO : IsPair s.heap TO a b)
   (h1:s.heap.IsListIter i1 t1 k) (h2:s.heap.IsListIter i2 t2 k) (ht1:s.heap.IsList t1 xs) (ht2:s.heap.IsList t2 ys)
   (q1 : ∀ x y, xs[k]? = some x → ys[k]? = some y → ∀ h', IsZip h' z TI TO (rawInt s.heap.objs.size) → IsPair h' TO x y → h'.IsListIter i1 t1 (k + 1) → h'.IsListIter i2 t2 (k + 1) → IsPair h' s.heap.objs.size x y →
     (∀ c o,c ≠ z→c ≠ TO→c ≠ i1→c ≠ i2→s.heap.get? c = some o→h'.get? c = some o)→Q (some (.ref s.heap.objs.size)) { s with heap:=h' })
   (q2:(xs[k]? = none∨ys[k]? = none)→A.handled = none∧∀ h',(∀ c o,c ≠ z→c ≠ TO→c ≠ i1→c ≠ i2→s.heap.get? c = some o→h'.get? c = some o)→Q none { s with heap:=h' }) :
   wpAny (model prog w) A (pyNext (.ref z)) Q E s:=by
 cases hx:xs[k]? with
 | none =>
   obtain ⟨hh,q⟩:=q2 (.inl hx)
   exact wpAny_pyNext_zip_end hh D hz hTI hTO h1 h2 ht1 ht2 (.inl hx) q
 | some x =>
   cases hy:ys[k]? with
   | none =>
     obtain ⟨hh,q⟩:=q2 (.inr hy)
     exact wpAny_pyNext_zip_end hh D hz hTI hTO h1 h2 ht1 ht2 (.inr hy) q
   | some y=>exact wpAny_pyNext_zip_item D hz hTI hTO h1 h2 ht1 ht2 hx hy fun h' a1 a2 a3 a4 a5 _ a7=>q1 x y hx hy h' a1 a2 a3 a4 a5 a7
end
def tS (K : PySem.W.Frag) (a b : Addr) : It :=
 ⟨fun i H => ∃ xs ys x y, aH K H a xs ∧ aH K H b ys ∧ xs[i]? = some x ∧ ys[i]? = some y,
  fun i H v H'=>∃ T x y,v = .ref T∧H T = none∧H' = upd H T (.tup [x,y])∧∀ xs ys,aH K H a xs→aH K H b ys→xs[i]? = some x∧ys[i]? = some y,
  fun i H=>∃ xs ys,aH K H a xs∧aH K H b ys∧(xs.length ≤ i∨ys.length ≤ i)⟩
theorem uD {P : Program} {w : World} {K : PySem.W.Frag} {es : List Expr} {n : Nat} {pos : Pos} {a b z TI TO i1 i2 : Addr} (D : ZipApart z TI TO i1 i2 a b) :
   Turn P w K (.Tuple es n pos) (tS K a b) [z,TI,TO,i1,i2] z (fun i h=>IsZip h z TI TO .none∧IsPair h TI (.ref i1) (.ref i2)∧(∃ x y,IsPair h TO x y)∧h.IsListIter i1 a i∧h.IsListIter i2 b i) where
 mem:=by simp
 obj := fun i h st c hc => by
   obtain ⟨hz,hI,⟨x,y,hO⟩,⟨o1,e1,_,d1⟩,⟨o2,e2,_,d2⟩⟩:=st
   have hc:c = z∨c = TI∨c = TO∨c = i1∨c = i2:=by simpa using hc
   rcases hc with rfl | rfl | rfl | rfl | rfl
   · exact ⟨_,hz,fun v e=>by cases e⟩
   · exact ⟨_,hI,fun v e=>by cases e⟩
   · exact ⟨_,hO,fun v e=>by cases e⟩
   · exact ⟨_,e1,fun v e=>by rw [d1] at e;cases e⟩
   · exact ⟨_,e2,fun v e=>by rw [d2] at e;cases e⟩
 keep := fun i h h' st k => by
   obtain ⟨hz,hI,⟨x,y,hO⟩,h1,h2⟩:=st
   exact ⟨k z (by simp) _ hz,k TI (by simp) _ hI,⟨x,y,k TO (by simp) _ hO⟩,h1.at fun o e=>k i1 (by simp) o e,h2.at fun o e=>k i2 (by simp) o e⟩
 item := by
   intro X hP hw hK hc i pins s σ H E I hf st hg
   subst hP hw hK
   obtain ⟨hz,hI,⟨x0,y0,hO⟩,h1,h2⟩:=st
   obtain ⟨xs,ys,x,y,hq1,hq2,hx,hy⟩:=hg
   obtain ⟨its1,rv1,p1,_⟩:=I.list hq1
   obtain ⟨its2,rv2,p2,_⟩:=I.list hq2
   obtain ⟨u,hu,ru⟩:=rv1.get hx
   obtain ⟨v,hv,rv⟩:=rv2.get hy
   refine rQ D hz hI hO h1 h2 (p1.isList) (p2.isList) (fun u' v' hu' hv' h' z1 z2 z3 z4 z5 kk=>?_) fun he=>?_
   · have e1 : u' = u := by simpa [hu] using hu'.symm
     have e2:v' = v:=by simpa [hv] using hv'.symm
     subst e1 e2
     refine ⟨_,rfl,wpAny_letOwnedTupleGo_zip z1 fun h2' hz2 s2=>?_⟩
     have T0:H s.heap.objs.size = none:=I.ax.fresh (Nat.le_refl _)
     have tz:s.heap.objs.size ≠ z:=Nat.ne_of_gt (Heap.lt_size hz)
     have J : Inv X pins σ (upd H s.heap.objs.size (.tup [x, y])) { s with heap := h2' } := by
       refine wb (ch:=[z,TI,TO,i1,i2]) I hf (Nat.le_refl _) (fun c o hc e=>?_) (fun c hc=>?_) ?_
       · have c1 : c ≠ z := fun q => hc (by simp [q])
         exact s2.extBut _ _ c1 (kk c o c1 (fun q=>hc (by simp [q])) (fun q=>hc (by simp [q])) (fun q=>hc (by simp [q])) e)
       · have hc : c = z ∨ c = TI ∨ c = TO ∨ c = i1 ∨ c = i2 := by simpa using hc
         rcases hc with rfl | rfl | rfl | rfl | rfl
         · exact ⟨_,hz2⟩
         · exact ⟨_,s2.extBut _ _ D.TIz (kk _ _ D.TIz D.TITO D.TIi1 D.TIi2 hI)⟩
         · exact ⟨_,s2.extBut _ _ D.TOz z2⟩
         · obtain ⟨o,e,_⟩:=z3;exact ⟨o,s2.extBut _ _ D.i1z e⟩
         · obtain ⟨o,e,_⟩:=z4;exact ⟨o,s2.extBut _ _ D.i2z e⟩
       · exact ⟨by show 2 ≤ sizeLine;decide,[u',v'],.cons ru (.cons rv .nil),⟨_,s2.extBut _ _ tz z5,rfl,_,rfl⟩⟩
     refine ⟨.ref s.heap.objs.size,_,J,rfl,⟨_,x,y,rfl,T0,rfl,fun xs' ys' q1 q2=>?_⟩,⟨hz2,s2.extBut _ _ D.TIz (kk _ _ D.TIz D.TITO D.TIi1 D.TIi2 hI),⟨_,_,s2.extBut _ _ D.TOz z2⟩,z3.at fun o e=>s2.extBut _ _ D.i1z e,z4.at fun o e=>s2.extBut _ _ D.i2z e⟩,fun c hc=>?_⟩
     · rw [I.lq q1 hq1,I.lq q2 hq2];exact ⟨hx,hy⟩
     · have hlt : c < s.heap.objs.size := by
         have hc:c = z∨c = TI∨c = TO∨c = i1∨c = i2:=by simpa using hc
         rcases hc with e | e | e | e | e <;> rw [e]
         · exact Heap.lt_size hz
         · exact Heap.lt_size hI
         · exact Heap.lt_size hO
         · obtain ⟨o,e,_⟩:=h1;exact Heap.lt_size e
         · obtain ⟨o,e,_⟩:=h2;exact Heap.lt_size e
       rw [aB (Nat.ne_of_lt hlt)];exact (hf c hc).1
   · exfalso
     rcases he with he | he
     · simp [hu] at he
     · simp [hv] at he
 done := by
   intro X hP hw hK hc i pins s σ H E I hf st hg
   subst hP hw hK
   obtain ⟨hz,hI,⟨x0,y0,hO⟩,h1,h2⟩:=st
   obtain ⟨xs,ys,hq1,hq2,hl⟩:=hg
   obtain ⟨its1,rv1,p1,_⟩:=I.list hq1
   obtain ⟨its2,rv2,p2,_⟩:=I.list hq2
   have l1:=rv1.length
   have l2:=rv2.length
   refine rQ D hz hI hO h1 h2 (p1.isList) (p2.isList) (fun u' v' hu' hv' h' z1 z2 z3 z4 z5 kk=>?_) fun he=>⟨I.ok.hd hc,fun h' kk=>⟨rfl,?_⟩⟩
   · exfalso
     have g1:i < its1.length:=by simpa using (Array.getElem?_eq_some_iff.mp hu').1
     have g2:i < its2.length:=by simpa using (Array.getElem?_eq_some_iff.mp hv').1
     omega
   · have hnc : ∀ c o, c ∉ [z, TI, TO, i1, i2] → s.heap.get? c = some o → h'.get? c = some o := fun c o hc e => kk c o (fun q => hc (by simp [q])) (fun q => hc (by simp [q])) (fun q => hc (by simp [q])) (fun q => hc (by simp [q])) e
     refine I.i6 (s':={ s with heap:=h' }) (ch:=[z,TI,TO,i1,i2]) rfl ⟨fun b o e _ _ hc=>hnc b o hc e,fun b o e _ _ hc=>⟨o.slots,hnc b o hc e⟩,fun b o e n _=>n,fun b o e hc=>⟨o,hnc b o hc e⟩,fun _ _ e=>e,fun _ _ _ e=>e,fun b ps e=>⟨#[],by rw [e];simp⟩⟩ (fun b u e=>?_) I.bare ?_
     · have nc : ∀ b u, H b = some u → b ∉ [z, TI, TO, i1, i2] := fun b u e hb => by rw [(hf b hb).1] at e; cases e
       refine (I.ax b u e).gb (fun c v hc q=>hnc c v ?_ q) (fun _ q=>q) fun _ _ q=>q
       rcases hc with q | q
       · rw [q];exact nc b u e
       · exact nc c _ q
     · intro b hb
       obtain ⟨f0,f1,f2,f3,f4,f5⟩:=hf b hb
       exact ⟨f3,f1,f4,f5⟩
 self:=fun _ _ _ _ _ st h=>wpAny_pyIter_zip st.1 h
def Ae (K:PySem.W.Frag) (ta:TA):TI:=fun σ H R=>ta σ H fun vs H1=>∃ a b xs ys,vs = [.ref a,.ref b]∧aH K H1 a xs∧aH K H1 b ys∧R (tS K a b) H1
theorem xo {X : Cx} {K : PySem.W.Frag} {es : List Expr} {n : Nat} {tpos : Pos} {a b : Expr} {ta : TA} {p pos : Pos} (hK : X.K = K) (hg : Gl X "zip") (hm : X.mg "zip" = none) (ha : PA X [a, b] ta) (hs : starEach [a, b] X.env = [(false, eval a X.env), (false, eval b X.env)] := by rfl) (hs2 : starEach [b] X.env = [(false, eval b X.env)] := by rfl) :
   PI X (.Tuple es n tpos) (.Call (.Name "zip" p) [a,b] [] pos) (Ae K ta):=by
 subst hK
 intro pins s σ H R I h
 refine Call_ (jE I hg hm Gm (PyProof.Rows.callWith_type1 (aY (ha pos pins s σ H _ I h) fun us s1 ⟨vs,H1,I1,r1,q1⟩=>?_) (by rw [hs,hs2]) (by rw [hs2];rfl)))
 obtain ⟨x,y,xs,ys,e,hx,hy,q⟩:=q1
 subst e
 cases r1 with
 | cons r rr =>
   cases rr with
   | cons r' rr =>
     cases rr
     cases r
     cases r'
     obtain ⟨its1,rv1,p1,_⟩:=I1.list hx
     obtain ⟨its2,rv2,p2,_⟩:=I1.list hy
     have lx:x < s1.heap.objs.size:=(by obtain ⟨o,n,e,_⟩:=p1;exact Heap.lt_size e)
     have ly:y < s1.heap.objs.size:=(by obtain ⟨o,n,e,_⟩:=p2;exact Heap.lt_size e)
     refine xi (p1.isList) (p2.isList) fun h' m hm' z1 z2 z3 z4 z5 kk=>?_
     subst hm'
     refine wpAny_pyIter_zip z1 ⟨_,[s1.heap.objs.size + 4,s1.heap.objs.size + 2,s1.heap.objs.size + 3,s1.heap.objs.size,s1.heap.objs.size + 1],_,_,H1,rfl,I1.kept (t':=s1.toks) kk,uD ⟨?_,?_,?_,?_,?_,?_,?_,?_,?_,?_,?_,?_,?_,?_,?_,?_,?_,?_⟩,⟨z1,z2,⟨_,_,z3⟩,z4,z5⟩,fun c hc=>?last,q⟩
     case last =>
       have hc:c = s1.heap.objs.size + 4∨c = s1.heap.objs.size + 2∨c = s1.heap.objs.size + 3∨c = s1.heap.objs.size∨c = s1.heap.objs.size + 1:=by simpa using hc
       have hge:s1.heap.objs.size ≤ c:=by rcases hc with e | e | e | e | e <;> rw [e] <;> first | exact Nat.le_add_right _ _ | exact Nat.le_refl _
       exact I1.jC hge (I1.ax.fresh hge)
     all_goals (intro e;have e' : @Eq Nat _ _:=e;have lx' : @LT.lt Nat _ _ _:=lx;have ly' : @LT.lt Nat _ _ _:=ly;omega)
theorem CP {K:PySem.W.Frag} {ta:TA} {σ : St} {H:Hp} {R:It→Hp→Prop} (q:ta σ H fun vs H1=>∃ a b xs ys,vs = [.ref a,.ref b]∧aH K H1 a xs∧aH K H1 b ys∧R (tS K a b) H1):Ae K ta σ H R:=q
theorem t9 {K : PySem.W.Frag} {a b : Addr} {α : Type} {xs : List α} {e1 e2 : α → V} {g : TG} {tc : TT} {te : TE} {fin : List V → Hp → Prop} {σ0 : St} {H : Hp} (f : α → V) (Sg : St → Prop) (ha : aH K H a (xs.map e1)) (hb : aH K H b (xs.map e2)) (hz : xs.length ≤ sizeLine) (h0 : Sg σ0)
   (hs : ∀ (i : Nat) (x : α) (ys : List V) (σ : St) (H1 : Hp) (T : Addr), xs[i]? = some x → jw xs f Sg H i ys σ H1 → aq H H1 → Sg σ → H1 T = none →
     g (.ref T) σ (upd H1 T (.tup [e1 x,e2 x])) fun σ3 H3=>tc σ3 H3 fun b H4=>if b = true then te σ3 H4 fun y H5=>jw xs f Sg H (i + 1) (ys ++ [y]) σ3 H5 else jw xs f Sg H (i + 1) ys σ3 H4)
   (hd:∀ H1,aq H H1→fin (xs.map f) H1):fT (tS K a b) g tc te fin σ0 H:=by
 refine ⟨fun i m ys σ H1=>m = xs.length - i∧i ≤ xs.length∧jw xs f Sg H i ys σ H1,⟨xs.length,by simp,Nat.zero_le _,aq.refl _,h0,rfl⟩,?_⟩
 rintro i m ys σ H1 ⟨rfl,hi,c⟩
 obtain ⟨s,sg,rfl⟩:=id c
 by_cases hlt:i < xs.length
 · refine .inr ⟨⟨_, _, e1 xs[i], e2 xs[i], aq.seq s ha, aq.seq s hb, by simp [hlt], by simp [hlt]⟩, jw xs f Sg H (i + 1), fun ys2 σ2 H2 p' => ⟨?_, xs.length - (i + 1), by omega, rfl, hlt, p'⟩, fun v H2 y => ?_⟩
   · obtain ⟨_, _, rfl⟩ := p'
     rw [List.length_map,List.length_take];omega
   · obtain ⟨T, x, y', rfl, hT, rfl, hxy⟩ := y
     obtain ⟨q1,q2⟩:=hxy _ _ (aq.seq s ha) (aq.seq s hb)
     have e1':e1 xs[i] = x:=by simpa [hlt] using q1
     have e2':e2 xs[i] = y':=by simpa [hlt] using q2
     rw [← e1',← e2']
     exact hs i xs[i] _ σ H1 T (by simp [hlt]) c s sg hT
 · have e : i = xs.length := by omega
   subst e
   refine .inl ⟨⟨_,_,aq.seq s ha,aq.seq s hb,.inl (by simp)⟩,?_,?_⟩
   · rw [List.length_map,List.length_take];omega
   · rw [List.take_length];exact hd H1 s
end L3
namespace L3
open PySem PySem.Spec PyProof.Rows L2
theorem wU {K:PySem.W.Frag} {p:Addr} {xs:List V} {H:Hp} {Q:VK} (h:aH K H p xs) (q:∀ l,H l = none→Q (.ref l) (upd H l (.tup xs))):CH K [.ref p] H Q:=⟨p,xs,rfl,.inl ⟨h,q⟩⟩
end L3
namespace L3
open PySem PySem.Spec PyProof.Rows L2 PySem.SeqAt
section
variable {X:Cx} {k:Nat} {x m:Str} {e o:Expr} {es:List Expr} {ta:TE} {t:TA} {apos cpos pos py:Pos}
end
end L3
namespace L3
open PySem PySem.Spec PyProof.Rows L2 PySem.SeqAt
section
variable {X:Cx} {pins:List (Addr×Obj)} {σ : L2.St} {C fI:Addr}
end
end L3
namespace L3
open PySem PySem.Spec PyProof.Rows L2 PySem.SeqAt
section
variable {prog:Program} {w:World} {A:Around} {E:Value→Shared→Prop} {s:Shared}
end
section
variable {M:Model} {A:Around} {E:Value→Shared→Prop} {s:Shared}
end
end L3
namespace L3
open PySem PySem.Spec PyProof.Rows L2 PySem.SeqAt
section
variable {X:Cx} {pins:List (Addr×Obj)} {σ : L2.St} {H:Hp} {s:Shared}
end
end L3
namespace L3
open PySem PySem.Spec PyProof.Rows L2 PySem.SeqAt
end L3
namespace L3
open PySem PySem.Spec PyProof.Rows L2 PySem.SeqAt
end L3
namespace L3
open PySem PySem.Spec PyProof.Rows L2 PySem.SeqAt
end L3
namespace L3
open PySem PySem.Spec PyProof.Rows L2 PySem.SeqAt
end L3
namespace L3
open PySem PySem.Spec PyProof.Rows L2 PySem.SeqAt
end L3
namespace L3
open PySem PySem.Spec PyProof.Rows L2 PySem.SeqAt
section
variable {X:Cx} {C:Addr}
end
end L3
namespace L3
open PySem PySem.Spec PyProof.Rows L2 PySem.SeqAt
end L3
namespace L3
open PySem PySem.Spec PyProof.Rows L2 PySem.SeqAt
end L3
namespace L3
open PySem PySem.Spec PyProof.Rows L2 PySem.SeqAt
end L3
namespace L3
open PySem PySem.Spec PyProof.Rows L2 PySem.SeqAt PySem.Builtin PySem.Builtin.Str
theorem tf : ∀ {ts : List Str} {its : List Value}, aK (ts.map V.str) its → ∃ l : List (Str × Tok), its = strValues l ∧ l.map (·.1) = ts
 | [],its,h=>by cases h;exact ⟨[],rfl,rfl⟩
 | t :: r, its, h => by
   cases h with
   | cons h1 h2 =>
     obtain ⟨tk,rfl⟩:=h1
     obtain ⟨l,rfl,e⟩:=tf h2
     exact ⟨(t,tk) :: l,rfl,by rw [List.map_cons,e]⟩
theorem pf : ∀ (l : List (Str × Tok)), aK ((l.map (·.1)).map V.str) (strValues l)
 | []=>.nil
 | p :: r=>.cons ⟨p.2,rfl⟩ (pf r)
def rJoin (K:PySem.W.Frag):V→List V→Hp→VK→Prop:=fun x vs H Q=>∃ sep l ts,x = .str sep∧vs = [.ref l]∧aH K H l (ts.map V.str)∧JoinOk sep ts = true∧Q (.str (PySem.Str.join sep ts)) H
theorem nJ {X : Cx} {K : PySem.W.Frag} (hK : X.K = K) : vV X "str.join" (rJoin K) := by
 subst hK
 intro pins s σ H x vs v us Q I rx rv h
 obtain ⟨sep,l,ts,rfl,rfl,hq,ax,q⟩:=h
 obtain ⟨tk,rfl⟩:=rx
 obtain ⟨u,rfl,ru⟩:=vals1 rv
 cases ru
 obtain ⟨its,rv',hp,_⟩:=I.list hq
 obtain ⟨pl,rfl,ht⟩:=tf rv'
 refine SC.join hp.isList ht ax fun t' k=>⟨.str (Txt.join sep ts),H,I.tok _,⟨_,rfl⟩,?_⟩
 rw [show Txt.join sep ts = PySem.Str.join sep ts from StrLaws.glued_eq_join sep ts]
 exact q
theorem rS {K:PySem.W.Frag} {sep:Str} {l:Addr} {ts:List Str} {H:Hp} {Q:VK} (h:aH K H l (ts.map V.str)) (ax:JoinOk sep ts = true) (q:Q (.str (PySem.Str.join sep ts)) H):rJoin K (.str sep) [.ref l] H Q:=⟨sep,l,ts,rfl,rfl,h,ax,q⟩
def vw:V→List V→Hp→VK→Prop:=fun x vs H Q=>∃ t sep,x = .str t∧vs = [.str sep]∧(sep.length == 0) = false∧t.length ≤ sizeLine∧(Txt.split t sep).length ≤ sizeLine∧∀ p,H p = none→Q (.ref p) (upd H p (.lst ((Txt.split t sep).map V.str)))
theorem jb {X : Cx} : vV X "str.split" vw := by
 intro pins s σ H x vs v us Q I rx rv h
 obtain ⟨t,sep,rfl,rfl,hy,z1,z3,q⟩:=h
 obtain ⟨tk,rfl⟩:=rx
 obtain ⟨u,rfl,tu,rfl⟩:=vals1 rv
 have fin : ∀ (l : List (Str × Tok)) (k : Nat), l.map (·.1) = Txt.split t sep → EP X pins σ Q (.ref s.heap.objs.size) { s with heap := s.heap.push { cls := .type "list", data := .seq (strValues l).toArray }, toks := k } := fun l k e =>
   ⟨.ref s.heap.objs.size,_,I.laid (t':=k) (fun b o w=>Heap.get?_push_of_some _ w) (Nat.le_refl _) (show bH X.prog X.w _ _ _ (.lst ((Txt.split t sep).map V.str)) from ⟨by rw [List.length_map];exact z3,strValues l,0,by rw [← e];exact pf l,Heap.get?_push_size _ rfl⟩),rfl,q _ (I.ax.fresh (Nat.le_refl _))⟩
 cases h1:(decide (t.length < sep.length) || decide (strKind t < strKind sep)) with
 | true =>
   refine call_meets F.slot_str_split (typeIs_str _ _ _) F.entry_str_split (F.args_str_split_2 _ _) (meets_str_split_cannot_occur t sep tk tu h1) ?_
   exact fin [(t,tk)] s.toks (by unfold Txt.split;rw [if_pos h1];rfl)
 | false =>
   have n1 : ¬ ((decide (t.length < sep.length) || decide (strKind t < strKind sep)) = true):=by rw [h1];decide
   cases hf:(occurrences t sep 0 t.length (t.length + 1)).isEmpty with
   | true =>
     refine call_meets F.slot_str_split (typeIs_str _ _ _) F.entry_str_split (F.args_str_split_2 _ _) (meets_str_split_not_found t sep tk tu h1 hy hf) ?_
     exact fin [(t,tk)] s.toks (by unfold Txt.split;rw [if_neg n1,if_pos hf];rfl)
   | false =>
     have n2 : ¬ ((occurrences t sep 0 t.length (t.length + 1)).isEmpty = true):=by rw [hf];decide
     have z2 : (partsBetween t (occurrences t sep 0 t.length (t.length + 1)) sep.length).length ≤ sizeLine := by
       have z4:=z3
       unfold Txt.split at z4
       rw [if_neg n1,if_neg n2] at z4
       exact z4
     refine call_meets F.slot_str_split (typeIs_str _ _ _) F.entry_str_split (F.args_str_split_2 _ _) (meets_str_split_sep t sep tk tu h1 hy hf z1 z2) ?_
     have:=fin (numbered s.toks (partsBetween t (occurrences t sep 0 t.length (t.length + 1)) sep.length)) (s.toks + (partsBetween t (occurrences t sep 0 t.length (t.length + 1)) sep.length).length) (by rw [numbered_texts];unfold Txt.split;rw [if_neg n1,if_neg n2])
     rw [← strsFrom_eq] at this
     exact this
theorem kd {t sep : PySem.Str} {ws : List PySem.Str} {H : Hp} {Q : VK} (hy : (sep.length == 0) = false) (z1 : t.length ≤ sizeLine) (e : Txt.split t sep = ws) (z3 : ws.length ≤ sizeLine) (q : ∀ p, H p = none → Q (.ref p) (upd H p (.lst (ws.map V.str)))) : vw (.str t) [.str sep] H Q := by
 subst e
 exact ⟨t,sep,rfl,rfl,hy,z1,z3,q⟩
def y9:List V→Hp→VK→Prop:=fun xs H Q=>∃ x n,xs = [.str x]∧PySem.intText? x = some n∧x.length ≤ 640∧Q (.int n) H
theorem o_ {X : Cx} : dS X (.type "int") y9 := by
 intro pins s σ H xs us Q I r h
 obtain ⟨x,n,rfl,hn,hl,q⟩:=h
 obtain ⟨u,rfl,tu,rfl⟩:=vals1 r
 exact PySem.W.KIN.call_text hn hl ⟨.int n,H,I.tok _,⟨_,rfl⟩,q⟩
end L3
namespace L3
open PySem PySem.Spec PyProof.Rows L2 PySem.SeqAt PySem.Builtin PySem.Builtin.Str PySem.StrLaws
theorem j4 {a b : PySem.Str} (h : a.cps.toList = b.cps.toList) : a = b := by
 obtain ⟨a⟩:=a
 obtain ⟨b⟩:=b
 have e:a = b:=Array.toList_inj.mp h
 rw [e]
end L3
namespace L3
open PySem PySem.Spec PyProof.Rows L2 PySem.SeqAt
def qJ (x:Str):It:=⟨fun i _=>∃ c,x.cps[i]? = some c,fun i H v H'=>H' = H∧∃ c,x.cps[i]? = some c∧v = .str ⟨#[c]⟩,fun i _=>x.cps[i]? = none⟩
theorem vJ {P : Program} {w : World} {K : PySem.W.Frag} {tg : Expr} (x : Str) (t : Tok) (it : Addr) : Turn P w K tg (qJ x) [it] it (fun i h => h.IsStrIter it "str_ascii_iterator" x t i) where
 mem:=by simp
 obj := fun i h st b hb => by
   have e:b = it:=by simpa using hb
   subst e
   obtain ⟨o,e,c,d⟩:=st
   exact ⟨o,e,fun v z=>by rw [d] at z;cases z⟩
 keep := fun i h h' st k => by
   obtain ⟨o,e,c,d⟩:=st
   exact ⟨o,k it (by simp) o e,c,d⟩
 item := by
   intro X hP hw hK hc i pins s σ H E I hf st hg
   subst hP hw hK
   obtain ⟨c,hx⟩:=hg
   obtain ⟨f0,f1,f2,f3,f4,f5⟩:=hf it (by simp)
   refine wpAny_pyNext_ascii_item st hx fun h' st' sb=>?_
   have I1:Inv X pins σ H { s with heap:=h',toks:=s.toks + 1 }:=I.turned (t':=s.toks + 1) (fun b o hb e=>(sb.2 b hb).trans e) f0 f1 f3 f4 f5
   obtain ⟨o,e,cc,d⟩:=id st'
   exact ⟨_,rfl,mE (s:={ s with heap:=h',toks:=s.toks + 1 }) e cc d (by decide) ⟨.str ⟨#[c]⟩,H,I1,⟨_,rfl⟩,⟨rfl,c,hx,rfl⟩,st',fun b hb=>(hf b hb).1⟩⟩
 done := by
   intro X hP hw hK hc i pins s σ H E I hf st hg
   subst hP hw hK
   obtain ⟨f0,f1,f2,f3,f4,f5⟩:=hf it (by simp)
   exact wpAny_pyNext_ascii_end (I.ok.hd hc) st hg fun h' eb=>⟨rfl,I.turned (t':=s.toks) (fun b o hb e=>eb b o hb e) f0 f1 f3 f4 f5⟩
 self:=fun _ _ _ _ _ st h=>wpAny_pyIter_striter_ascii st h
theorem vx {P : Program} {w : World} {K : PySem.W.Frag} {tg : Expr} (x : Str) (t : Tok) (it : Addr) : Turn P w K tg (qJ x) [it] it (fun i h => h.IsStrIter it "str_iterator" x t i) where
 mem:=by simp
 obj := fun i h st b hb => by
   have e:b = it:=by simpa using hb
   subst e
   obtain ⟨o,e,c,d⟩:=st
   exact ⟨o,e,fun v z=>by rw [d] at z;cases z⟩
 keep := fun i h h' st k => by
   obtain ⟨o,e,c,d⟩:=st
   exact ⟨o,k it (by simp) o e,c,d⟩
 item := by
   intro X hP hw hK hc i pins s σ H E I hf st hg
   subst hP hw hK
   obtain ⟨c,hx⟩:=hg
   obtain ⟨f0,f1,f2,f3,f4,f5⟩:=hf it (by simp)
   refine wpAny_pyNext_wide_item st hx fun h' st' sb=>?_
   have I1:Inv X pins σ H { s with heap:=h',toks:=s.toks + 1 }:=I.turned (t':=s.toks + 1) (fun b o hb e=>(sb.2 b hb).trans e) f0 f1 f3 f4 f5
   obtain ⟨o,e,cc,d⟩:=id st'
   exact ⟨_,rfl,mE (s:={ s with heap:=h',toks:=s.toks + 1 }) e cc d (by decide) ⟨.str ⟨#[c]⟩,H,I1,⟨_,rfl⟩,⟨rfl,c,hx,rfl⟩,st',fun b hb=>(hf b hb).1⟩⟩
 done := by
   intro X hP hw hK hc i pins s σ H E I hf st hg
   subst hP hw hK
   obtain ⟨f0,f1,f2,f3,f4,f5⟩:=hf it (by simp)
   exact wpAny_pyNext_wide_end (I.ok.hd hc) st hg fun h' eb=>⟨rfl,I.turned (t':=s.toks) (fun b o hb e=>eb b o hb e) f0 f1 f3 f4 f5⟩
 self:=fun _ _ _ _ _ st h=>wpAny_pyIter_striter_wide st h
def C9 (tl:TE):TI:=fun σ H R=>tl σ H fun v H1=>∃ x,v = .str x∧R (qJ x) H1
theorem Cv {tl:TE} {σ : L2.St} {H:Hp} {R:It→Hp→Prop} (q:tl σ H fun v H1=>∃ x,v = .str x∧R (qJ x) H1):C9 tl σ H R:=q
theorem u6 {X : Cx} {tg l : Expr} {tl : TE} (hl : PE X l tl) : PI X tg l (C9 tl) := by
 intro pins s σ H R I h
 refine aY (hl pins s σ H _ I h) fun v s1 ⟨x0,H1,I1,r1,q1⟩=>?_
 obtain ⟨x,e,q⟩:=q1
 subst e
 obtain ⟨tk,rfl⟩:=r1
 cases ha:x.cps.all (· < 128)
 · refine wpAny_pyIter_wide ha ?_
   refine ⟨s1.heap.objs.size,[s1.heap.objs.size],_,_,H1,rfl,I1.kept (t':=s1.toks) fun b o e=>Heap.get?_push_of_some _ e,vx x tk _,⟨_,Heap.get?_push_size _ rfl,rfl,rfl⟩,fun b hb=>?_,q⟩
   have e:b = s1.heap.objs.size:=by simpa using hb
   subst e
   exact I1.jC (Nat.le_refl _) (I1.ax.fresh (Nat.le_refl _))
 · refine wpAny_pyIter_ascii ha ?_
   refine ⟨s1.heap.objs.size,[s1.heap.objs.size],_,_,H1,rfl,I1.kept (t':=s1.toks) fun b o e=>Heap.get?_push_of_some _ e,vJ x tk _,⟨_,Heap.get?_push_size _ rfl,rfl,rfl⟩,fun b hb=>?_,q⟩
   have e:b = s1.heap.objs.size:=by simpa using hb
   subst e
   exact I1.jC (Nat.le_refl _) (I1.ax.fresh (Nat.le_refl _))
end L3
namespace L3
open PySem PySem.Spec PyProof.Rows L2 PySem.SeqAt PySem.NumText
section
variable {g:TG} {tc:TT} {te:TE} {fin:List V→Hp→Prop} {H:Hp}
theorem pZ {σ0 : L2.St} {x : PySem.Str} (Pv : Nat → List V → L2.St → Hp → Prop) (h0 : Pv 0 [] σ0 H) (hl : ∀ i ys σ H, i ≤ x.cps.toList.length → Pv i ys σ H → ys.length ≤ sizeLine)
   (hs:∀ i c ys σ H,x.cps.toList[i]? = some c→Pv i ys σ H→g (.str ⟨#[c]⟩) σ H fun σ3 H3=>tc σ3 H3 fun b H4=>if b = true then te σ3 H4 fun y H5=>Pv (i + 1) (ys ++ [y]) σ3 H5 else Pv (i + 1) ys σ3 H4)
   (hd:∀ ys σ H,Pv x.cps.toList.length ys σ H→fin ys H):fT (qJ x) g tc te fin σ0 H:=by
 refine ⟨fun i m ys σ H=>m = x.cps.toList.length - i∧i ≤ x.cps.toList.length∧Pv i ys σ H,⟨x.cps.toList.length,by simp,Nat.zero_le _,h0⟩,?_⟩
 rintro i m ys σ H ⟨rfl,hi,p⟩
 by_cases hlt:i < x.cps.toList.length
 · refine .inr ⟨⟨x.cps.toList[i], by rw [← Array.getElem?_toList]; exact List.getElem?_eq_getElem hlt⟩, Pv (i + 1), fun ys2 σ2 H2 p' => ⟨hl (i + 1) ys2 σ2 H2 hlt p', x.cps.toList.length - (i + 1), by omega, rfl, hlt, p'⟩, fun v H2 y => ?_⟩
   obtain ⟨e,c,hc,rfl⟩:=y
   subst e
   exact hs i c ys σ _ (by rw [Array.getElem?_toList];exact hc) p
 · have e : i = x.cps.toList.length := by omega
   subst e
   exact .inl ⟨by show x.cps[_]? = none;rw [← Array.getElem?_toList];exact List.getElem?_eq_none (Nat.le_refl _),hl _ ys σ H hi p,hd ys σ H p⟩
end
def wG:R2:=fun x y H Q=>∃ c j,x = .str ⟨#[c]⟩∧y = .str j∧Q (.bl (decide (c ∈ j.cps.toList))) H
theorem u5 {X : Cx} : b7 X (compareOp .In) wG := by
 intro pins s σ H x y v u Q I rx ry h
 obtain ⟨c,j,rfl,rfl,q⟩:=h
 exact vP pins s σ H _ _ v u Q I rx ry ⟨_,j,rfl,rfl,by rw [PySem.StrLaws.found_one];exact q⟩
end L3
namespace HT
open PySem PyProof.Rows
section
variable {prog:Program} {w:World} {A:Around} {E:Value→Shared→Prop} {s:Shared}
end
end HT
namespace L3
open PySem PySem.Spec PyProof.Rows L2 PySem.SeqAt
end L3
namespace L3
open PySem PySem.Spec PyProof.Rows L2 PySem.SeqAt
section
variable {X:Cx} {CX:dO} {k:Nat} {sp:Sp} {E:XK} {x:Str} {p pos:Pos} {e:Expr} {es:List Expr} {t:TA}
end
section
variable {P:Program} {w:World} {K:PySem.W.Frag} {mg:Str→Option Value} {base:Heap} {x qual:Str} {st:Stmt} {N ps:List Str} {sp:Sp}
end
end L3
namespace L3
open PySem PySem.Spec PyProof.Rows
section
variable {prog:Program} {w:World} {A:Around} {E:Value→Shared→Prop} {s:Shared}
end
section
variable {prog:Program} {w:World} {A:Around} {E:Value→Shared→Prop} {s:Shared}
end
end L3
namespace L3
open PySem PySem.Spec PyProof.Rows L2
end L3
namespace L3
open PySem PySem.Spec PyProof.Rows L2 PySem.SeqAt
theorem nh {e : Value} {env env' : Env} (h : env.frame = env'.frame) : noteFrame e env = noteFrame e env' := by
 unfold noteFrame PySem.frameOf
 rw [h]
theorem sv {M : Model} {A : Around} {E : Value → Shared → Prop} {s : Shared} {base : Heap} {env : Env} {outer : List Env} {L e : Addr} {cls a0 fl : Value} {Q : Unit → Shared → Prop}
   (hfr:A.frames = some (env :: outer)) (hf:env.frame = some L) (hkb:base.StaysIn s.heap) (hen:base.get? e = none) (hl:s.heap.FunFrames base (env :: outer)) (ht:s.heap.TracedAtW base e cls a0 fl)
   (hQ:∀ h',Heap.FlyingW base outer e cls a0 h'→s.heap.UpToSlots h'→Q () { s with heap:=h' }):wpAny M A (leaving env (.ref e)) Q E s:=by
 by_cases hfl:fl = rawInt L
 · subst hfl
   unfold leaving
   refine wpAny_bind (wpAny_noteFrame_againW hf ht ?_)
   refine wpAny_landsW (base:=base) (l:=env :: outer) ⟨hkb,hen,hl,ht⟩ fun h' hfl up=>?_
   obtain ⟨k1,k2,⟨_,_,k3⟩,k4⟩:=hfl
   exact hQ h' ⟨k1,k2,k3,k4⟩ up
 · obtain ⟨oe, vs, T, oT, ts, he, ⟨hcls, h0⟩, hd, h1, hnT, hTe, hT, hdT, h3⟩ := ht
   subst hcls
   unfold leaving noteFrame
   simp only [hf]
   refine wpAny_bind (wpAny_bind (wpAny_field he hd h1 ?_))
   rw [if_pos (show (Value.ref T != Value.none) = true from by simp)]
   refine wpAny_bind (wpAny_field hT hdT h3 ?_)
   rw [if_neg (show ¬ ((fl == rawInt L) = true) from fun z=>hfl (by simpa using z))]
   refine wpAny_bind (wpAny_setField hT hdT (Array.getElem?_eq_some_iff.mp h3).1 ?_)
   have other:∀ b,b ≠ T→(s.heap.update T (Obj.mapFields (·.setIfInBounds 3 Value.none))).get? b = s.heap.get? b:=fun b hb=>Heap.get?_update_other _ _ (Ne.symm hb)
   have noRecord : ∀ b o, s.heap.get? b = some o → (∀ vs, o.data ≠ .fields vs) → b ≠ T := fun b o hb hnf q => by
     rw [q,hT] at hb;injection hb with hb;subst hb;exact hnf ts hdT
   refine wpAny_newEntryW hfr (hl.of_keeps fun b o hb hnf => ⟨o, (other b (noRecord b o hb hnf)).trans hb, rfl⟩) hf ((other e (Ne.symm hTe)).trans he)
     (fun b o hbo=>(other b fun q=>by rw [q,hnT] at hbo;cases hbo).trans (hkb b o hbo)) hen hd (Array.getElem?_eq_some_iff.mp h1).1 h0
     fun h' ⟨x1,⟨_,_,x2⟩,x3,x4⟩=>hQ h' ⟨x1,hen,x2,x3⟩ fun b o hb hnf=>x4 b o ((other b (noRecord b o hb hnf)).trans hb) hnf
theorem si {α : Type} {M : Model} {A : Around} {E : Value → Shared → Prop} {s : Shared} {base : Heap} {l : List Env} {env : Env} {e : Addr} {cls a0 fl : Value} {what : String} {Q : α → Shared → Prop}
   (hkb:base.StaysIn s.heap) (hl:s.heap.FunFrames base l) (ht:s.heap.TracedAtW base e cls a0 fl)
   (h:∀ h' fl',base.StaysIn h'→h'.FunFrames base l→h'.TracedAtW base e cls a0 fl'→s.heap.UpToSlots h'→E (.ref e) { s with heap:=h' }):wpAny M A (PySem.passOn what (.ref e) env:Sem α) Q E s:=by
 obtain ⟨oe,vs,T,oT,ts,he,hcls,hd,h1,hnT,hTe,hT,hdT,h3⟩:=ht
 have hsz3 : 3 < ts.size:=(Array.getElem?_eq_some_iff.mp h3).1
 unfold PySem.passOn
 refine wpAny_bind (wpAny_field he hd h1 ?_)
 rw [if_neg (show ¬ ((Value.ref T == Value.none) = true) from by simp)]
 refine wpAny_bind ?_
 unfold setFlight
 refine wpAny_bind (wpAny_field he hd h1 ?_)
 rw [if_pos (show (Value.ref T != Value.none) = true from by simp)]
 have other:∀ b,b ≠ T→(s.heap.update T (Obj.mapFields (·.setIfInBounds 3 (env.frame.elim Value.none fun f=>rawInt f)))).get? b = s.heap.get? b:=fun b hb=>Heap.get?_update_other _ _ (Ne.symm hb)
 have noRecord : ∀ b o, s.heap.get? b = some o → (∀ vs, o.data ≠ .fields vs) → b ≠ T := fun b o hb hnf q => by
   rw [q,hT] at hb;injection hb with hb;subst hb;exact hnf ts hdT
 refine wpAny_setField hT hdT hsz3 (wpAny_throw (h _ (env.frame.elim .none fun f=>rawInt f) ?_ ?_ ?_ ?_))
 · exact fun b o hbo=>(other b fun q=>by rw [q,hnT] at hbo;cases hbo).trans (hkb b o hbo)
 · exact hl.of_keeps fun b o hb hnf=>⟨o,(other b (noRecord b o hb hnf)).trans hb,rfl⟩
 · exact ⟨oe,vs,T,_,_,(other e (Ne.symm hTe)).trans he,hcls,hd,h1,hnT,hTe,Heap.get?_update_self _ hT (Obj.isFreed_of_fields (Obj.data_mapFields hdT _)),Obj.data_mapFields hdT _,by simp [hsz3]⟩
 · exact fun b o hb hn=>⟨o.slots,(other b (noRecord b o hb hn)).trans hb⟩
section
variable {X:Cx} {tg elt iter:Expr} {ifs:List Expr} {scope:Scope} {cl:List (Str×Addr)} {own:List Str} {fr:List (Str×Nat)} {wi:TI} {g:TG} {tc:TT} {te:TE} {pos:Pos} {E:XK}
def bp (X : Cx) (E : XK) (scope : Scope) (cl : List (Str × Addr)) (own : List Str) (fr : List (Str × Nat)) (C : Addr) (s2 : Shared) (H2 : Hp) (fp : List Addr) : Cx :=
 { aJ X scope cl own fr C s2 H2 fp with xe:=fun e s'=>∃ pins σ H s,Inv (aJ X scope cl own fr C s2 H2 fp) pins σ H s∧bB X.prog X.w X.stack H s E e s' }
theorem uz {P : Program} {w : World} {C : Addr} {s2 : Shared} {H2 : Hp} {fp : List Addr} (h1 : X.prog = P := by rfl) (h2 : X.w = w := by rfl) : eL (bB P w) (bp X E scope cl own fr C s2 H2 fp) E := by
 subst h1 h2
 intro pins σ H s e s' I h
 exact ⟨pins,σ,H,s,I.eE _,h⟩
theorem r9 {pins pinsY : List (Addr × Obj)} {σ σY : St} {H2 HY : Hp} {s2 sY s' : Shared} {C : Addr} {fp : List Addr} {e : Value} (I2 : Inv X pins σ H2 s2) (hst : X.stack = X.env :: X.outer) (hfr : X.env.frame = some X.env.locals) (hex : X.ex = [])
   (IY:Inv (aJ X scope cl own fr C s2 H2 fp) pinsY σY HY sY) (hC:s2.heap.objs.size ≤ C) (hCs:C ∉ L2.b6 X.stack) (f2:∀ b ∈ fp,hX X pins H2 b) (th:bB X.prog X.w X.stack HY sY E e s')
   {XE:Value→Shared→Prop}
   (hx:∀ e s'',wpAny (model X.prog X.w) X.A (leaving X.env e) (fun _ s3=>bB X.prog X.w X.outer X.H₀ X.s₀ E e s3) (fun e' s3=>bB X.prog X.w X.outer X.H₀ X.s₀ E e' s3) s''→XE e s'') :
   notedBy (model X.prog X.w) X.A (compEnvC scope cl C X.env) (fun x s3=>∃ m,s3.heap.Ns C m∧∀ h',Heap.SameBut C s3.heap h'→∀ cenv:Env,cenv.locals = C→wpAny (model X.prog X.w) X.A (PySem.passOn "comprehension.variables-let-go" x cenv:Sem Value) (fun _ _=>False) XE { s3 with heap:=h' }) e s':=by
 obtain ⟨ea,C',H',rfl,⟨os,bare,h0,l,a0,u,ax,hl,hn,fl,up⟩,q⟩:=th
 have J:Inv X pins σ HY sY:=I2.i6 (ch:=fp) IY.os IY.base IY.ax IY.bare fun b hb=>⟨(f2 b hb).2.2.2.1,(f2 b hb).2.1,(f2 b hb).2.2.2.2.1,(f2 b hb).2.2.2.2.2⟩
 obtain ⟨m,hns,_⟩:=id IY.loc
 have hCY:HY C = none:=IY.free
 have hClt:C < sY.heap.objs.size:=IY.lt
 have hns0 : h0.Ns C m := by
   obtain ⟨o,es,ep,ho,r⟩:=hns
   exact ⟨o,es,ep,u.keep C o ho hCY hCs (by simp),r⟩
 have hCl : C ∉ l := fun hm => by
   rcases (hl C hm).2 with z | z
   · exact hCs z
   · exact absurd hClt (Nat.not_lt.mpr z)
 have hCH' : H' C = none := by
   obtain ⟨o,es,ep,ho,r⟩:=hns
   exact u.free C o ho hCY (by simp)
 have fl':Heap.FlyingW (PySem.W.hideAll h0 l) (X.env :: X.outer) ea (.ref C') a0 s'.heap:=by rw [← hst];exact fl
 have hbC : ∃ o, (PySem.W.hideAll h0 l).get? C = some o := by
   obtain ⟨o,es,ep,ho,r⟩:=hns0
   exact ⟨o,PySem.W.hideAll_get _ ho hCl⟩
 unfold notedBy
 rw [nh (env':=X.env) (by rfl)]
 refine wpAny_looks_onW (by rw [← hst];exact J.ok.frames) hfr fl' fun h4 held4 up4=>⟨m,(up.trans up4).ns hns0,fun h5 sb cenv _=>?_⟩
 obtain ⟨k1,k2,k3,k4⟩:=held4
 -- without the block's own names
 have hbn : ∀ b o, (PySem.W.hideAll (PySem.W.hideAll h0 [C]) l).get? b = some o → b ≠ C ∧ (PySem.W.hideAll h0 l).get? b = some o := fun b o z => by
   have z1:=PySem.W.of_hideAll _ z
   have hbC' : b ≠ C := fun e => by
     rw [e,PySem.W.hideAll_none [C] (by simp)] at z1;cases z1
   have z2:=PySem.W.of_hideAll _ z1
   refine ⟨hbC',PySem.W.hideAll_get _ z2 fun hm=>?_⟩
   rw [PySem.W.hideAll_none _ hm] at z;cases z
 have hbnone : ∀ b, (PySem.W.hideAll h0 l).get? b = none → (PySem.W.hideAll (PySem.W.hideAll h0 [C]) l).get? b = none := fun b z => by
   cases z2:(PySem.W.hideAll (PySem.W.hideAll h0 [C]) l).get? b with
   | none=>rfl
   | some o=>rw [(hbn b o z2).2] at z;cases z
 have neC : ∀ b, (PySem.W.hideAll h0 l).get? b = none → b ≠ C := fun b z e => by
   obtain ⟨o,ho⟩:=hbC
   rw [e,ho] at z;cases z
 have k1':(PySem.W.hideAll (PySem.W.hideAll h0 [C]) l).StaysIn h5:=fun b o z=>(sb.2 b (hbn b o z).1).trans (k1 b o (hbn b o z).2)
 have k3' : h5.FunFrames (PySem.W.hideAll (PySem.W.hideAll h0 [C]) l) (X.env :: X.outer) := by
   have gen : ∀ L : List Env, h4.FunFrames (PySem.W.hideAll h0 l) L → h5.FunFrames (PySem.W.hideAll (PySem.W.hideAll h0 [C]) l) L := by
     intro L
     induction L with
     | nil=>intro _;trivial
     | cons en rest ih =>
       rintro ⟨z1,⟨F,o,z2,z3,z4,z5⟩,z6⟩
       exact ⟨z1,⟨F,o,z2,hbnone _ z3,(sb.2 F (neC F z3)).trans z4,z5⟩,ih z6⟩
   exact gen _ k3
 have k4' : h5.TracedAtW (PySem.W.hideAll (PySem.W.hideAll h0 [C]) l) ea (.ref C') a0 (rawInt X.env.locals) := by
   obtain ⟨oe,vs,T,oT,ts,he,hcls,hd,h1,hnT,hTe,hT,hdT,h3⟩:=k4
   exact ⟨oe,vs,T,oT,ts,(sb.2 ea (neC ea k2)).trans he,hcls,hd,h1,hbnone _ hnT,hTe,(sb.2 T (neC T hnT)).trans hT,hdT,h3⟩
 have up5 : (PySem.W.hideAll h0 [C]).UpToSlots h5 := fun b o z hnf => by
   have hb:b ≠ C:=fun e=>by rw [e,PySem.W.hideAll_none [C] (by simp)] at z;cases z
   obtain ⟨sl,z2⟩:=(up.trans up4) b o (PySem.W.of_hideAll _ z) hnf
   exact ⟨sl,(sb.2 b hb).trans z2⟩
 refine si (s:={ s' with heap:=h5 }) k1' k3' k4' fun h6 fl6 s1 s2' s3 up6=>hx _ _ ?_
 refine sv (s:={ s' with heap:=h6 }) (by rw [← hst];exact J.ok.frames) hfr s1 (hbnone _ k2) s2' s3 fun h7 fl7 up7=>⟨ea,C',H',rfl,⟨os.trans J.os,bare,PySem.W.hideAll h0 [C],l,a0,?_,?_,fun b hb=>⟨(hl b hb).1,?_⟩,?_,fl7,(up5.trans up6).trans up7⟩,q⟩
 · have J2 := J.call (h' := h0) (g' := s'.gens) (d' := s'.drawn) (t' := s'.toks) (ch := []) u ax bare (fun b z => absurd z (by simp))
   have bs:=J2.base
   rw [hex] at bs
   have low:∀ b o,X.s₀.heap.get? b = some o→b ≠ C:=fun b o z e=>absurd (Heap.lt_size z) (Nat.not_lt.mpr (by rw [e];exact Nat.le_trans I2.sz hC))
   have hid:∀ b o o',X.s₀.heap.get? b = some o'→h0.get? b = some o→(PySem.W.hideAll h0 [C]).get? b = some o:=fun b o o' z1 z2=>PySem.W.hideAll_get _ z2 (by simpa using low b o' z1)
   refine ⟨fun b o z n hb hx=>hid b _ _ z (bs.keep b o z n hb hx),fun b o z n hb hx=>?_,bs.free,fun b o z hx=>?_,bs.fU,bs.fz,bs.fV⟩
   · obtain ⟨sl, z2⟩ := bs.slot b o z n hb hx
     exact ⟨sl,hid b _ _ z z2⟩
   · obtain ⟨o', z2⟩ := bs.there b o z hx
     exact ⟨o',hid b _ _ z z2⟩
 · intro b o z
   refine (ax b o z).gb (fun c w' hc q'=>PySem.W.hideAll_get _ q' fun hm=>?_) (fun _ q'=>q') fun _ _ q'=>q'
   have e:c = C:=by simpa using hm
   subst e
   rcases hc with rfl | hc
   · rw [z] at hCH';cases hCH'
   · rw [hc] at hCH';cases hCH'
 · rcases (hl b hb).2 with z | z
   · rw [hst] at z
     have e1:L2.b6 (X.env :: X.outer) = X.env.locals :: L2.b6 X.outer:=by unfold L2.b6;rw [List.filterMap_cons,hfr]
     rw [e1] at z
     rcases List.mem_cons.mp z with rfl | z
     · exact .inr I2.ok.above
     · exact .inl z
   · exact .inr (Nat.le_trans J.sz z)
 · cases z : (PySem.W.hideAll h0 [C]).get? ea with
   | none=>rfl
   | some o=>rw [PySem.W.of_hideAll _ z] at hn;cases hn
end
end L3
namespace L3
open PySem PySem.Spec PyProof.Rows L2 PySem.SeqAt
section
variable {X:Cx} {tg elt iter:Expr} {ifs:List Expr} {scope:Scope} {cl:List (Str×Addr)} {own:List Str} {fr:List (Str×Nat)} {wi:TI} {g:TG} {tc:TT} {te:TE} {pos:Pos} {E:XK}
theorem mP (hst : X.stack = X.env :: X.outer) (hfr : X.env.frame = some X.env.locals) (hex : X.ex = []) (hx : ∀ e s'', wpAny (model X.prog X.w) X.A (leaving X.env e) (fun _ s3 => bB X.prog X.w X.outer X.H₀ X.s₀ E e s3) (fun e' s3 => bB X.prog X.w X.outer X.H₀ X.s₀ E e' s3) s'' → X.xe e s'') (hc : X.calm = true) (S : gy X scope cl own fr) (hi : PI X tg iter wi) (hg : ∀ C s2 H2 fp, PG (bp X E scope cl own fr C s2 H2 fp) tg g)
   (ht:∀ C s2 H2 fp,mK (bp X E scope cl own fr C s2 H2 fp) ifs tc) (he:∀ C s2 H2 fp,PE (bp X E scope cl own fr C s2 H2 fp) elt te)
   {pins:List (Addr×Obj)} {s:Shared} {σ : St} {H:Hp} {fin:List V→Hp→Prop} (I:Inv X pins σ H s) (h:pC own fr wi g tc te fin σ H)
   {RR:Value→Addr→Result→Shared→Prop}
   (hR:∀ (D C:Addr) (s4:Shared) (H3:Hp) (ys:List V) (m:Str→Option Value),H3 D = none→Inv X pins σ (upd H3 D (.lst ys)) s4→s4.heap.Ns C m→Off X pins (upd H3 D (.lst ys)) C→fin ys H3→RR (.ref D) C (.ok .next) s4)
   (hE:∀ (D C:Addr) (e:Value) (s4:Shared),(∃ m,s4.heap.Ns C m∧∀ h',Heap.SameBut C s4.heap h'→∀ cenv:Env,cenv.locals = C→wpAny (model X.prog X.w) X.A (PySem.passOn "comprehension.variables-let-go" e cenv:Sem Value) (fun _ _=>False) X.xe { s4 with heap:=h' })→RR (.ref D) C (.error e) s4) :
   wpAny (model X.prog X.w) X.A (eval iter X.env) (fun x s1 => wpAny (model X.prog X.w) X.A (pyIter x) (fun itv s2 => wpAny (model X.prog X.w) X.A (newList []) (fun acc s3 =>
     wpAny (model X.prog X.w) X.A (newFunctionEnv scope X.env.globals cl [] X.env.qual none .none (some X.env)) (fun cenv s4 =>
       codeAny (model X.prog X.w) X.A (.compStart (.ListComp elt [⟨tg,iter,ifs,0⟩] scope pos) 0 itv acc { cenv with scope:=relabel scope X.env }) (RR acc cenv.locals) s4) X.xe s3) X.xe s2) X.xe s1) X.xe s:=by
 refine aY (hi pins s σ H _ I h) fun v s1 h1=>aY h1 fun itv s2 h2=>?_
 obtain ⟨it,fp,tn,J,H2,rfl,I2,T,st2,f2,W,⟨m0,w0⟩,turn⟩:=h2
 refine wpAny_newObj_type (wpAny_newFunctionEnv S.iz (by intro y hy;simp at hy) (fun h1 hns1 hsb1=>?_) S.kind)
 dsimp only at hns1 hsb1 ⊢
 generalize hHP:s2.heap.push { cls:=.type "list",dict:=none,data:=.seq ([]:List Value).toArray } = HP at hns1 hsb1 ⊢
 have hC:HP.objs.size = s2.heap.objs.size + 1:=by rw [← hHP,Heap.size_push]
 have hDC:s2.heap.objs.size ≠ HP.objs.size:=by rw [hC];exact Nat.ne_of_lt (Nat.lt_succ_self _)
 have below:∀ b,b < s2.heap.objs.size→b ≠ HP.objs.size∧b ≠ s2.heap.objs.size:=fun b hb=>⟨by rw [hC];exact Nat.ne_of_lt (Nat.lt_succ_of_lt hb),Nat.ne_of_lt hb⟩
 have old:∀ b o,s2.heap.get? b = some o→h1.get? b = some o:=fun b o e=>hsb1.extBut b o (below b (Heap.lt_size e)).1 (Heap.get?_push_of_some _ (hHP ▸ Heap.get?_push_of_some _ e))
 have hacc:h1.get? s2.heap.objs.size = some (bx []):=hsb1.extBut _ _ hDC (Heap.get?_push_of_some _ (hHP ▸ Heap.get?_push_size _ rfl))
 have hfpo:∀ b ∈ fp,b < s2.heap.objs.size:=fun b hb=>by obtain ⟨o,e,_⟩:=T.obj 0 _ st2 b hb;exact Heap.lt_size e
 have hcells:∀ x c,cl.lookup x = some c→X.env.cells.lookup x = some c:=fun x c e=>S.cells.get e
 have hcD:∀ x c,X.env.cells.lookup x = some c→c < s2.heap.objs.size:=fun x c e=>by obtain ⟨v,q⟩:=I2.cell x c e;exact q.lt
 have st1:tn 0 h1:=T.keep _ _ _ st2 fun b _ o e=>old b o e
 have hDfree:H2 s2.heap.objs.size = none:=I2.ax.fresh (Nat.le_refl _)
 have hCfree:H2 HP.objs.size = none:=I2.ax.fresh (by rw [hC];exact Nat.le_succ _)
 have nostk : ∀ b, s2.heap.objs.size ≤ b → b ∉ L2.b6 X.stack := fun b hb hm => by
   rcases List.mem_cons.mp (I2.eM b hm) with e | e
   · exact absurd I2.lt (by rw [← e];exact Nat.not_lt.mpr hb)
   · exact I2.uf hb e
 have hDlt:s2.heap.objs.size < h1.objs.size:=Heap.lt_size hacc
 -- the block's context
 have YOk : (bp X E scope cl own fr HP.objs.size s2 H2 fp).Ok := by
   refine ⟨I2.ok.mod, S.kind, I2.ok.glob, I2.ok.blt, ?_, fun x y c e1 e2 => I2.ok.inj x y c (hcells _ _ e1) (hcells _ _ e2), fun x hx => ?_, fun x c hf => ?_, I2.ok.hd, I2.ok.frames, .inl rfl, fun b hb => ⟨?_, fun x c e => ?_⟩,
     I2.bs,Nat.le_trans I2.ok.jh I2.sz,fun b o e hb=>?_,fun b hb hm=>?_,I2.stack,I2.gX⟩
   · show s2.heap.objs.size ≤ HP.objs.size
     rw [hC];exact Nat.le_succ _
   · exact c_ (env:=X.env) S.iz S.has hx
   · cases hf
   · exact (below b (hfpo b hb)).1
   · exact (f2 b hb).2.2.2.2.1 x c (hcells _ _ e)
   · rcases (f2 b hb).2.2.2.1 with z | z
     · exact I2.ok.i4 b o e z
     · exact absurd (Heap.lt_size (I2.ok.bs b o e).1) (Nat.not_lt.mpr z)
   · rcases List.mem_cons.mp (I2.eM b hm) with e | e
     · exact (f2 b hb).2.1 e
     · exact (f2 b hb).2.2.1 e
 have hpinD : ∀ {h' : Heap} {its : List Value} {H' : Hp}, h'.get? s2.heap.objs.size = some (bx its) → H' s2.heap.objs.size = none → ∀ p ∈ ([(s2.heap.objs.size, bx its)] : List (Addr × Obj)),
     h'.get? p.1 = some p.2∧H' p.1 = none∧p.1 ≠ HP.objs.size∧p.1 ∉ L2.b6 X.stack∧∀ v,p.2.data ≠ .cell v:=fun {h' its H'} e n p hp=>by
   have e1:p = (s2.heap.objs.size,bx its):=by simpa using hp
   subst e1
   exact ⟨e,n,hDC,nostk _ (Nat.le_refl _),fun v z=>by cases z⟩
 have IY : Inv (bp X E scope cl own fr HP.objs.size s2 H2 fp) [(s2.heap.objs.size, bx [])] (dH own fr σ) H2 { s2 with heap := h1, toks := s2.toks + ([] : List (Str × Value)).length } := by
   refine ⟨YOk,rfl,I2.bare,Un.kept old,⟨_,hns1,fun i x v e1 e2 e3=>?_⟩,fun x c e=>?_,hCfree,fun x c e=>I2.ed x c (hcells _ _ e),hpinD hacc hDfree,I2.ax.kept old,?_⟩
   · have e1' : (own ++ fr.map (·.1))[i]? = some x := e1
     have e2':(own.map (fun _=>(none:Option V)) ++ fr.map fun p=>(σ[p.2]?).join)[i]? = some (some v):=e2
     by_cases hi':i < own.length
     · rw [List.getElem?_append_left (by simpa using hi'), List.getElem?_map] at e2'
       rw [List.getElem?_eq_getElem hi'] at e2'
       cases e2'
     · rw [List.getElem?_append_right (by simpa using hi'), List.getElem?_map] at e2'
       rw [List.getElem?_append_right (Nat.not_lt.mp hi'),List.getElem?_map] at e1'
       rw [List.length_map] at e2'
       cases ef:fr[i - own.length]? with
       | none=>rw [ef] at e1';cases e1'
       | some p =>
         rw [ef] at e1' e2'
         have ex:p.1 = x:=Option.some.inj e1'
         have ev:(σ[p.2]?).join = some v:=Option.some.inj e2'
         obtain ⟨hN,hk,hk2,hs⟩:=S.b6.get ef
         have eσ : σ[p.2]? = some (some v) := by
           cases q : σ[p.2]? with
           | none=>rw [q] at ev;cases ev
           | some o=>rw [q] at ev;exact congrArg some ev
         obtain ⟨m,hn,hl⟩:=I2.loc
         obtain ⟨u,r,l⟩:=hl p.2 p.1 v hN eσ (by rcases hk with k | k;exact .inr (.inl k);exact .inr (.inr k))
         subst ex
         obtain ⟨c,ec⟩:=Option.isSome_iff_exists.mp hs
         refine ⟨u,r,.inr ⟨hk2,c,ec,?_⟩⟩
         rcases l with ⟨hl1,_⟩ | ⟨_,c',ec',z⟩
         · have hl1' : X.env.scope.names.lookup p.1 = some .local := hl1
           rcases hk with z | z
           · rw [z] at hl1';cases hl1'
           · rw [z] at hl1';cases hl1'
         · have := hcells _ _ ec
           rw [ec'] at this
           cases this
           exact z.keeps old
   · obtain ⟨v, z⟩ := I2.cell x c (hcells _ _ e)
     exact ⟨v,z.keeps old⟩
   · show (own.map (fun _ => (none : Option V)) ++ fr.map fun p => (σ[p.2]?).join).length = (own ++ fr.map (·.1)).length
     simp
 have stat : ∀ {its : List Value} {H' : Hp}, (∀ b ∈ fp, H' b = none) → ∀ b ∈ fp, hX (bp X E scope cl own fr HP.objs.size s2 H2 fp) [(s2.heap.objs.size, bx its)] H' b := fun {its H'} hn b hb =>
   ⟨hn b hb, (below b (hfpo b hb)).1, fun hm => by
       rcases List.mem_cons.mp (I2.eM b hm) with e | e
       · exact (f2 b hb).2.1 e
       · exact (f2 b hb).2.2.1 e,.inl hb,fun x c e=>(f2 b hb).2.2.2.2.1 x c (hcells _ _ e),fun p hp=>by
       have e1 : p = (s2.heap.objs.size, bx its) := by
         have hp':p ∈ ([]:List (Addr×Obj)) ++ [(s2.heap.objs.size,bx its)]:=hp
         simpa using hp'
       subst e1
       exact (below b (hfpo b hb)).2.symm⟩
 have loop : ∀ s3 : Shared, s3 = { s2 with heap := h1, toks := s2.toks + ([] : List (Str × Value)).length } →
     codeAny (model X.prog X.w) X.A (.compLoop (.ListComp elt [⟨tg,iter,ifs,0⟩] scope pos) 0 (.ref it) (.ref s2.heap.objs.size) (compEnvC scope cl HP.objs.size X.env)) (RR (.ref s2.heap.objs.size) HP.objs.size) s3:=by
   rintro s3 rfl
   refine iq (fun n s' => ∃ i ys its σ' H', Inv (bp X E scope cl own fr HP.objs.size s2 H2 fp) [(s2.heap.objs.size, bx its)] σ' H' s' ∧ aK ys its ∧ tn i s'.heap ∧ (∀ b ∈ fp, H' b = none) ∧ W i n ys σ' H') ?_ m0
     ⟨0,[],[],dH own fr σ,H2,IY,.nil,st1,fun b hb=>(f2 b hb).1,w0⟩
   have thr : ∀ e s', (bp X E scope cl own fr HP.objs.size s2 H2 fp).xe e s' → notedBy (model X.prog X.w) X.A (compEnvC scope cl HP.objs.size X.env) (fun e s' => RR (.ref s2.heap.objs.size) HP.objs.size (.error e) s') e s' := by
     rintro e s' ⟨pinsY,σY,HY,sY,IY',th⟩
     have z:=r9 (XE:=X.xe) I2 hst hfr hex IY' (by rw [hC];exact Nat.le_succ _) (nostk _ (by rw [hC];exact Nat.le_succ _)) f2 th hx
     unfold notedBy at z ⊢
     exact wpAny_mono z (fun _ s3 h3=>hE _ _ _ _ h3) fun e3 s3 h3=>hE _ _ _ _ h3
   rintro n s3 ⟨i,ys,its,σ3,H3,I3,rv,st3,fr3,w3⟩
   rcases turn i n ys σ3 H3 w3 with ⟨stop,hz,qn⟩ | ⟨go,N,hN,step⟩
   · refine wpAny_mono (T.done (bp X E scope cl own fr HP.objs.size s2 H2 fp) rfl rfl rfl hc i _ s3 σ3 H3 (fun _ _ => False) I3 (stat fr3) st3 stop) (fun r s4 h4 => ?_) fun _ _ f => f.elim
     obtain ⟨hr,I4⟩:=h4
     subst hr
     obtain ⟨eD,nD,_⟩:=I4.pin (s2.heap.objs.size,bx its) (by simp [bp,aJ])
     obtain ⟨m,hn,_⟩:=id I4.loc
     have nC:H3 HP.objs.size = none:=I4.free
     have bu:=I4.base
     have J4 : Inv X pins σ (upd H3 s2.heap.objs.size (.lst ys)) s4 := by
       refine I2.i6 (ch:=fp) I4.os ⟨fun b o e n hb hx=>bu.keep b o e n hb hx,fun b o e n hb hx=>bu.slot b o e n hb hx,fun b o e n hx=>?_,fun b o e hx=>bu.there b o e hx,fun b xs e=>?_,fun b o u e=>?_,fun b ps e=>?_⟩ ?_ I4.bare ?_
       · rw [aB (below b (Heap.lt_size e)).2];exact bu.free b o e n hx
       · have z := bu.fU b xs e
         rw [aB (aD z nD)];exact z
       · have z := bu.fz b o u e
         rw [aB (aD z nD)];exact z
       · obtain ⟨more, z⟩ := bu.fV b ps e
         exact ⟨more,by rw [aB (aD z nD)];exact z⟩
       · intro b o e
         by_cases hb:b = s2.heap.objs.size
         · subst hb
           rw [ak] at e
           cases e
           exact ⟨hz,its,its.length,rv,eD⟩
         · rw [aB hb] at e
           exact (I4.ax b o e).gb (fun c u _ q=>q) (fun c q=>by rw [aB (aD q nD)];exact q) fun c xs q=>by rw [aB (aD q nD)];exact q
       · intro b hb
         exact ⟨(f2 b hb).2.2.2.1,(f2 b hb).2.1,(f2 b hb).2.2.2.2.1,(f2 b hb).2.2.2.2.2⟩
     refine hR _ _ s4 H3 ys m nD J4 hn ⟨?_,?_,?_,?_,?_⟩ qn
     · rw [aB hDC.symm];exact nC
     · exact Nat.ne_of_gt (Nat.lt_of_lt_of_le I2.lt (by rw [hC];exact Nat.le_succ _))
     · exact Nat.le_trans I2.sz (by rw [hC];exact Nat.le_succ _)
     · exact fun x c e=>(below c (hcD x c e)).1
     · exact fun p hp=>(below p.1 (Heap.lt_size (I2.pin p hp).1)).1
   · refine wpAny_mono (T.item (bp X E scope cl own fr HP.objs.size s2 H2 fp) rfl rfl rfl hc i _ s3 σ3 H3 (fun _ _ => False) I3 (stat fr3) st3 go) (fun r s4 h4 => ?_) fun _ _ f => f.elim
     obtain ⟨u,hr,h4⟩:=h4
     subst hr
     refine wpAny_mono h4 (fun _ s5 h5=>?_) fun _ _ f=>f.elim
     obtain ⟨x,H5,I5,r5,y5,st5,fr5⟩:=h5
     have I5':=I5.pinned (stat fr5) (T.obj _ _ st5)
     refine wpAny_mono (hg _ _ _ _ _ s5 σ3 H5 x u _ I5' r5 (step x H5 y5)) (fun _ s6 h6=>?_) thr
     obtain ⟨σ6,H6,I6,q6⟩:=h6
     refine wpAny_mono (ht _ _ _ _ _ s6 σ6 H6 _ I6 q6) (fun ok s7 h7=>?_) thr
     obtain ⟨H7,I7,q7⟩:=h7
     have keepT : ∀ {σ8 : St} {H8 : Hp} {s8 : Shared} {l : List (Addr × Obj)}, Inv (bp X E scope cl own fr HP.objs.size s2 H2 fp) (l ++ cO fp s5.heap) σ8 H8 s8 → tn (i + 1) s8.heap ∧ ∀ b ∈ fp, H8 b = none := fun {σ8 H8 s8 l} I8 => by
       refine ⟨T.keep _ _ _ st5 fun b hb o e=>(I8.pin (b,o) (List.mem_append_right _ (List.mem_append_right _ (df hb e)))).1,fun b hb=>?_⟩
       obtain ⟨o,e,_⟩:=T.obj _ _ st5 b hb
       exact (I8.pin (b,o) (List.mem_append_right _ (List.mem_append_right _ (df hb e)))).2.1
     cases ok with
     | false =>
       rw [if_neg Bool.false_ne_true] at q7 ⊢
       obtain ⟨_,m',hm,w7⟩:=hN _ _ _ q7
       exact ⟨m',hm,i + 1,ys,its,σ6,H7,I7.gh,rv,(keepT I7).1,(keepT I7).2,w7⟩
     | true =>
       rw [if_pos rfl] at q7 ⊢
       refine wpAny_mono (he _ _ _ _ _ s7 σ6 H7 _ I7 q7) (fun y s8 h8=>?_) thr
       obtain ⟨yv,H8,I8,r8,n8⟩:=h8
       obtain ⟨hlt',m',hm,w8⟩:=hN _ _ _ n8
       have hlt:ys.length < sizeLine:=by rw [List.length_append] at hlt';exact hlt'
       obtain ⟨eD,nD,nL,_,_⟩:=I8.pin (s2.heap.objs.size,bx its) (by simp [bp,aJ])
       refine append_at (its:=its.toArray) (n:=its.length) (hsz:=by rw [List.size_toArray,← rv.length];exact Nat.le_of_lt hlt) eD fun h9 sb9 eD9=>?_
       have I8p:Inv (bp X E scope cl own fr HP.objs.size s2 H2 fp) (cO fp s5.heap) σ6 H8 s8:=I8.fD fun p hp=>I8.pin p (List.mem_append_right _ (List.mem_append_right _ hp))
       have I9p : Inv (bp X E scope cl own fr HP.objs.size s2 H2 fp) (cO fp s5.heap) σ6 H8 { s8 with heap := h9 } :=
         I8p.turned (t' := s8.toks) (fun b o hb e => (sb9.2 b hb).trans e) nD nL (.inr (Nat.le_refl _)) (fun x c e => (below c (hcD x c (hcells _ _ e))).2) fun p hp => by
           have hp':p ∈ cO fp s5.heap:=by simpa [bp,aJ] using hp
           exact (below p.1 (hfpo _ (ie hp').1)).2
       have eD9':h9.get? s2.heap.objs.size = some (bx (its ++ [y])):=eD9.trans (congrArg some (jD its y))
       have I9:Inv (bp X E scope cl own fr HP.objs.size s2 H2 fp) [(s2.heap.objs.size,bx (its ++ [y]))] σ6 H8 { s8 with heap:=h9 }:=I9p.fD (hpinD eD9' nD)
       have K9:=keepT (l:=[]) (by simpa using I9p)
       exact ⟨m',hm,i + 1,ys ++ [yv],its ++ [y],σ6,H8,I9,rv.append (.cons r8 .nil),K9.1,K9.2,w8⟩
 exact codeAny_compStart_list (loop _ rfl) (T.self _ 0 _ _ _ st1 (loop _ rfl))
theorem wg (hst : X.stack = X.env :: X.outer) (hfr : X.env.frame = some X.env.locals) (hex : X.ex = []) (hx : ∀ e s'', wpAny (model X.prog X.w) X.A (leaving X.env e) (fun _ s3 => bB X.prog X.w X.outer X.H₀ X.s₀ E e s3) (fun e' s3 => bB X.prog X.w X.outer X.H₀ X.s₀ E e' s3) s'' → X.xe e s'') (hc : X.calm = true) (S : gy X scope cl own fr) (hi : PI X tg iter wi) (hg : ∀ C s2 H2 fp, PG (bp X E scope cl own fr C s2 H2 fp) tg g)
   (ht:∀ C s2 H2 fp,mK (bp X E scope cl own fr C s2 H2 fp) ifs tc) (he:∀ C s2 H2 fp,PE (bp X E scope cl own fr C s2 H2 fp) elt te)
   (hs:∀ x,foldedSetIterable iter X.env x = pure x:=by intro _;rfl):PE X (.ListComp elt [⟨tg,iter,ifs,0⟩] scope pos) (pO own fr wi g tc te):=by
 intro pins s σ H Q I h
 rw [eval_ListComp]
 refine wpAny_comprehension_free (use:=none) rfl hs S.pJ S.kind S.names ?_
 refine mP hst hfr hex hx hc S hi hg ht he I h (fun D C s4 H3 ys m nD J hn off q=>?_) (fun D C e s4 z=>z)
 refine ⟨m,hn,fun h' sb=>⟨.ref D,_,J.turned (t':=s4.toks) (fun b o hb e=>(sb.2 b hb).trans e) off.none off.loc (.inr off.above) off.cell off.pin,rfl,q D nD⟩⟩
theorem xE {i : Nat} {y : Str} {py spos : Pos} (hst : X.stack = X.env :: X.outer) (hfr : X.env.frame = some X.env.locals) (hex : X.ex = []) (hxx : ∀ e s'', wpAny (model X.prog X.w) X.A (leaving X.env e) (fun _ s3 => bB X.prog X.w X.outer X.H₀ X.s₀ E e s3) (fun e' s3 => bB X.prog X.w X.outer X.H₀ X.s₀ E e' s3) s'' → X.xe e s'') (hN : X.N.Nodup) (hi' : X.N[i]? = some y) (hx : X.env.scope.names.lookup y = some .local) (hc : X.calm = true) (S : gy X scope cl own fr) (hi : PI X tg iter wi) (hg : ∀ C s2 H2 fp, PG (bp X E scope cl own fr C s2 H2 fp) tg g)
   (ht:∀ C s2 H2 fp,mK (bp X E scope cl own fr C s2 H2 fp) ifs tc) (he:∀ C s2 H2 fp,PE (bp X E scope cl own fr C s2 H2 fp) elt te)
   (hsw:swapsWith (.ListComp elt [⟨tg,iter,ifs,0⟩] scope pos) (some (.Name y py)) spos.line X.env = pure true:=by rfl)
   (hs:∀ x,foldedSetIterable iter X.env x = pure x:=by intro _;rfl):PS X (.Assign [.Name y py] (.ListComp elt [⟨tg,iter,ifs,0⟩] scope pos) spos) (rL i own fr wi g tc te):=by
 intro pins s σ H D I h
 rw [exec_Assign_Name_used _ _ _ _ hsw]
 refine wpAny_bind (wpAny_standAt (wpAny_bind ?_))
 show wpAny _ X.A (do let _ ← comprehension (.ListComp elt [⟨tg,iter,ifs,0⟩] scope pos) scope X.env _ (newList []) false (eval iter X.env) (some (assign (.Name y py) X.env))) _ _ s
 refine wpAny_bind (wpAny_mono (wpAny_comprehension_free (use:=some (assign (.Name y py) X.env)) (Q:=fun _ s'=>SP X pins D .next s') rfl hs S.pJ S.kind S.names ?_) (fun _ s' hq=>wpAny_pure (wpAny_pure hq)) fun _ _ e=>e)
 refine mP hst hfr hex hxx hc S hi hg ht he I h (fun Da C s4 H3 ys m nD J hn off q=>?_) (fun D C e s4 z=>z)
 show wpAny _ X.A (assign (.Name y py) X.env (.ref Da)) _ _ _
 refine wpAny_assign_Name (ia J hN hi' (.inl hx) (v:=.ref Da) rfl (fun s5 I5 hsb=>?_) (.inr hx))
 obtain ⟨a,sb,ha⟩:=hsb
 have nCa : C ≠ a := by
   rcases ha with z | z
   · rw [z];exact off.loc
   · exact (off.cell _ _ z).symm
 refine ⟨m,hn.sameBut sb nCa,fun h' sb'=>⟨_,_,I5.turned (t':=s5.toks) (fun b o hb e=>(sb'.2 b hb).trans e) off.none off.loc (.inr off.above) off.cell off.pin,q Da nD⟩⟩
end
end L3
namespace L3
open PySem PySem.Spec PyProof.Rows L2 PySem.SeqAt
section
variable {X:Cx} {tg elt iter:Expr} {ifs:List Expr} {scope:Scope} {cl:List (Str×Addr)} {own:List Str} {fr:List (Str×Nat)} {wi:TI} {g:TG} {tc:TT} {te:TE} {pos:Pos} {E:XK}
theorem tL (hc : X.calm = true) (S : gy X scope cl own fr) (hg : ∀ C s2 H2 fp, PG (aJ X scope cl own fr C s2 H2 fp) tg g)
   (ht:∀ C s2 H2 fp,mK (aJ X scope cl own fr C s2 H2 fp) ifs tc) (he:∀ C s2 H2 fp,PE (aJ X scope cl own fr C s2 H2 fp) elt te)
   {pins:List (Addr×Obj)} {s1:Shared} {σ : St} {fin:List V→Hp→Prop} {v:Value} (h1:wpAny (model X.prog X.w) X.A (pyIter v) (zD X pins σ tg fun J H1=>fT J g tc te fin (dH own fr σ) H1) X.xe s1)
   {RR:Value→Addr→Result→Shared→Prop}
   (hR:∀ (D C:Addr) (s4:Shared) (H3:Hp) (ys:List V) (m:Str→Option Value),H3 D = none→Inv X pins σ (upd H3 D (.lst ys)) s4→s4.heap.Ns C m→Off X pins (upd H3 D (.lst ys)) C→fin ys H3→RR (.ref D) C (.ok .next) s4) :
   wpAny (model X.prog X.w) X.A (pyIter v) (fun itv s2 => wpAny (model X.prog X.w) X.A (newList []) (fun acc s3 =>
     wpAny (model X.prog X.w) X.A (newFunctionEnv scope X.env.globals cl [] X.env.qual none .none (some X.env)) (fun cenv s4 =>
       codeAny (model X.prog X.w) X.A (.compStart (.ListComp elt [⟨tg,iter,ifs,0⟩] scope pos) 0 itv acc { cenv with scope:=relabel scope X.env }) (RR acc cenv.locals) s4) X.xe s3) X.xe s2) X.xe s1:=by
 refine aY h1 fun itv s2 h2=>?_
 obtain ⟨it,fp,tn,J,H2,rfl,I2,T,st2,f2,W,⟨m0,w0⟩,turn⟩:=h2
 refine wpAny_newObj_type (wpAny_newFunctionEnv S.iz (by intro y hy;simp at hy) (fun h1 hns1 hsb1=>?_) S.kind)
 dsimp only at hns1 hsb1 ⊢
 generalize hHP:s2.heap.push { cls:=.type "list",dict:=none,data:=.seq ([]:List Value).toArray } = HP at hns1 hsb1 ⊢
 have hC:HP.objs.size = s2.heap.objs.size + 1:=by rw [← hHP,Heap.size_push]
 have hDC:s2.heap.objs.size ≠ HP.objs.size:=by rw [hC];exact Nat.ne_of_lt (Nat.lt_succ_self _)
 have below:∀ b,b < s2.heap.objs.size→b ≠ HP.objs.size∧b ≠ s2.heap.objs.size:=fun b hb=>⟨by rw [hC];exact Nat.ne_of_lt (Nat.lt_succ_of_lt hb),Nat.ne_of_lt hb⟩
 have old:∀ b o,s2.heap.get? b = some o→h1.get? b = some o:=fun b o e=>hsb1.extBut b o (below b (Heap.lt_size e)).1 (Heap.get?_push_of_some _ (hHP ▸ Heap.get?_push_of_some _ e))
 have hacc:h1.get? s2.heap.objs.size = some (bx []):=hsb1.extBut _ _ hDC (Heap.get?_push_of_some _ (hHP ▸ Heap.get?_push_size _ rfl))
 have hfpo:∀ b ∈ fp,b < s2.heap.objs.size:=fun b hb=>by obtain ⟨o,e,_⟩:=T.obj 0 _ st2 b hb;exact Heap.lt_size e
 have hcells:∀ x c,cl.lookup x = some c→X.env.cells.lookup x = some c:=fun x c e=>S.cells.get e
 have hcD:∀ x c,X.env.cells.lookup x = some c→c < s2.heap.objs.size:=fun x c e=>by obtain ⟨v,q⟩:=I2.cell x c e;exact q.lt
 have st1:tn 0 h1:=T.keep _ _ _ st2 fun b _ o e=>old b o e
 have hDfree:H2 s2.heap.objs.size = none:=I2.ax.fresh (Nat.le_refl _)
 have hCfree:H2 HP.objs.size = none:=I2.ax.fresh (by rw [hC];exact Nat.le_succ _)
 have nostk : ∀ b, s2.heap.objs.size ≤ b → b ∉ L2.b6 X.stack := fun b hb hm => by
   rcases List.mem_cons.mp (I2.eM b hm) with e | e
   · exact absurd I2.lt (by rw [← e];exact Nat.not_lt.mpr hb)
   · exact I2.uf hb e
 have hDlt:s2.heap.objs.size < h1.objs.size:=Heap.lt_size hacc
 -- the block's context
 have YOk : (aJ X scope cl own fr HP.objs.size s2 H2 fp).Ok := by
   refine ⟨I2.ok.mod, S.kind, I2.ok.glob, I2.ok.blt, ?_, fun x y c e1 e2 => I2.ok.inj x y c (hcells _ _ e1) (hcells _ _ e2), fun x hx => ?_, fun x c hf => ?_, I2.ok.hd, I2.ok.frames, .inl rfl, fun b hb => ⟨?_, fun x c e => ?_⟩,
     I2.bs,Nat.le_trans I2.ok.jh I2.sz,fun b o e hb=>?_,fun b hb hm=>?_,I2.stack,I2.gX⟩
   · show s2.heap.objs.size ≤ HP.objs.size
     rw [hC];exact Nat.le_succ _
   · exact c_ (env:=X.env) S.iz S.has hx
   · cases hf
   · exact (below b (hfpo b hb)).1
   · exact (f2 b hb).2.2.2.2.1 x c (hcells _ _ e)
   · rcases (f2 b hb).2.2.2.1 with z | z
     · exact I2.ok.i4 b o e z
     · exact absurd (Heap.lt_size (I2.ok.bs b o e).1) (Nat.not_lt.mpr z)
   · rcases List.mem_cons.mp (I2.eM b hm) with e | e
     · exact (f2 b hb).2.1 e
     · exact (f2 b hb).2.2.1 e
 have hpinD : ∀ {h' : Heap} {its : List Value} {H' : Hp}, h'.get? s2.heap.objs.size = some (bx its) → H' s2.heap.objs.size = none → ∀ p ∈ ([(s2.heap.objs.size, bx its)] : List (Addr × Obj)),
     h'.get? p.1 = some p.2∧H' p.1 = none∧p.1 ≠ HP.objs.size∧p.1 ∉ L2.b6 X.stack∧∀ v,p.2.data ≠ .cell v:=fun {h' its H'} e n p hp=>by
   have e1:p = (s2.heap.objs.size,bx its):=by simpa using hp
   subst e1
   exact ⟨e,n,hDC,nostk _ (Nat.le_refl _),fun v z=>by cases z⟩
 have IY : Inv (aJ X scope cl own fr HP.objs.size s2 H2 fp) [(s2.heap.objs.size, bx [])] (dH own fr σ) H2 { s2 with heap := h1, toks := s2.toks + ([] : List (Str × Value)).length } := by
   refine ⟨YOk,rfl,I2.bare,Un.kept old,⟨_,hns1,fun i x v e1 e2 e3=>?_⟩,fun x c e=>?_,hCfree,fun x c e=>I2.ed x c (hcells _ _ e),hpinD hacc hDfree,I2.ax.kept old,?_⟩
   · have e1' : (own ++ fr.map (·.1))[i]? = some x := e1
     have e2':(own.map (fun _=>(none:Option V)) ++ fr.map fun p=>(σ[p.2]?).join)[i]? = some (some v):=e2
     by_cases hi':i < own.length
     · rw [List.getElem?_append_left (by simpa using hi'), List.getElem?_map] at e2'
       rw [List.getElem?_eq_getElem hi'] at e2'
       cases e2'
     · rw [List.getElem?_append_right (by simpa using hi'), List.getElem?_map] at e2'
       rw [List.getElem?_append_right (Nat.not_lt.mp hi'),List.getElem?_map] at e1'
       rw [List.length_map] at e2'
       cases ef:fr[i - own.length]? with
       | none=>rw [ef] at e1';cases e1'
       | some p =>
         rw [ef] at e1' e2'
         have ex:p.1 = x:=Option.some.inj e1'
         have ev:(σ[p.2]?).join = some v:=Option.some.inj e2'
         obtain ⟨hN,hk,hk2,hs⟩:=S.b6.get ef
         have eσ : σ[p.2]? = some (some v) := by
           cases q : σ[p.2]? with
           | none=>rw [q] at ev;cases ev
           | some o=>rw [q] at ev;exact congrArg some ev
         obtain ⟨m,hn,hl⟩:=I2.loc
         obtain ⟨u,r,l⟩:=hl p.2 p.1 v hN eσ (by rcases hk with k | k;exact .inr (.inl k);exact .inr (.inr k))
         subst ex
         obtain ⟨c,ec⟩:=Option.isSome_iff_exists.mp hs
         refine ⟨u,r,.inr ⟨hk2,c,ec,?_⟩⟩
         rcases l with ⟨hl1,_⟩ | ⟨_,c',ec',z⟩
         · have hl1' : X.env.scope.names.lookup p.1 = some .local := hl1
           rcases hk with z | z
           · rw [z] at hl1';cases hl1'
           · rw [z] at hl1';cases hl1'
         · have := hcells _ _ ec
           rw [ec'] at this
           cases this
           exact z.keeps old
   · obtain ⟨v, z⟩ := I2.cell x c (hcells _ _ e)
     exact ⟨v,z.keeps old⟩
   · show (own.map (fun _ => (none : Option V)) ++ fr.map fun p => (σ[p.2]?).join).length = (own ++ fr.map (·.1)).length
     simp
 have stat : ∀ {its : List Value} {H' : Hp}, (∀ b ∈ fp, H' b = none) → ∀ b ∈ fp, hX (aJ X scope cl own fr HP.objs.size s2 H2 fp) [(s2.heap.objs.size, bx its)] H' b := fun {its H'} hn b hb =>
   ⟨hn b hb, (below b (hfpo b hb)).1, fun hm => by
       rcases List.mem_cons.mp (I2.eM b hm) with e | e
       · exact (f2 b hb).2.1 e
       · exact (f2 b hb).2.2.1 e,.inl hb,fun x c e=>(f2 b hb).2.2.2.2.1 x c (hcells _ _ e),fun p hp=>by
       have e1 : p = (s2.heap.objs.size, bx its) := by
         have hp':p ∈ ([]:List (Addr×Obj)) ++ [(s2.heap.objs.size,bx its)]:=hp
         simpa using hp'
       subst e1
       exact (below b (hfpo b hb)).2.symm⟩
 have loop : ∀ s3 : Shared, s3 = { s2 with heap := h1, toks := s2.toks + ([] : List (Str × Value)).length } →
     codeAny (model X.prog X.w) X.A (.compLoop (.ListComp elt [⟨tg,iter,ifs,0⟩] scope pos) 0 (.ref it) (.ref s2.heap.objs.size) (compEnvC scope cl HP.objs.size X.env)) (RR (.ref s2.heap.objs.size) HP.objs.size) s3:=by
   rintro s3 rfl
   refine iq (fun n s' => ∃ i ys its σ' H', Inv (aJ X scope cl own fr HP.objs.size s2 H2 fp) [(s2.heap.objs.size, bx its)] σ' H' s' ∧ aK ys its ∧ tn i s'.heap ∧ (∀ b ∈ fp, H' b = none) ∧ W i n ys σ' H') ?_ m0
     ⟨0,[],[],dH own fr σ,H2,IY,.nil,st1,fun b hb=>(f2 b hb).1,w0⟩
   rintro n s3 ⟨i,ys,its,σ3,H3,I3,rv,st3,fr3,w3⟩
   rcases turn i n ys σ3 H3 w3 with ⟨stop,hz,qn⟩ | ⟨go,N,hN,step⟩
   · refine wpAny_mono (T.done (aJ X scope cl own fr HP.objs.size s2 H2 fp) rfl rfl rfl hc i _ s3 σ3 H3 (fun _ _ => False) I3 (stat fr3) st3 stop) (fun r s4 h4 => ?_) fun _ _ f => f.elim
     obtain ⟨hr,I4⟩:=h4
     subst hr
     obtain ⟨eD,nD,_⟩:=I4.pin (s2.heap.objs.size,bx its) (by simp [aJ])
     obtain ⟨m,hn,_⟩:=id I4.loc
     have nC:H3 HP.objs.size = none:=I4.free
     have bu:=I4.base
     have J4 : Inv X pins σ (upd H3 s2.heap.objs.size (.lst ys)) s4 := by
       refine I2.i6 (ch:=fp) I4.os ⟨fun b o e n hb hx=>bu.keep b o e n hb hx,fun b o e n hb hx=>bu.slot b o e n hb hx,fun b o e n hx=>?_,fun b o e hx=>bu.there b o e hx,fun b xs e=>?_,fun b o u e=>?_,fun b ps e=>?_⟩ ?_ I4.bare ?_
       · rw [aB (below b (Heap.lt_size e)).2];exact bu.free b o e n hx
       · have z := bu.fU b xs e
         rw [aB (aD z nD)];exact z
       · have z := bu.fz b o u e
         rw [aB (aD z nD)];exact z
       · obtain ⟨more, z⟩ := bu.fV b ps e
         exact ⟨more,by rw [aB (aD z nD)];exact z⟩
       · intro b o e
         by_cases hb:b = s2.heap.objs.size
         · subst hb
           rw [ak] at e
           cases e
           exact ⟨hz,its,its.length,rv,eD⟩
         · rw [aB hb] at e
           exact (I4.ax b o e).gb (fun c u _ q=>q) (fun c q=>by rw [aB (aD q nD)];exact q) fun c xs q=>by rw [aB (aD q nD)];exact q
       · intro b hb
         exact ⟨(f2 b hb).2.2.2.1,(f2 b hb).2.1,(f2 b hb).2.2.2.2.1,(f2 b hb).2.2.2.2.2⟩
     refine hR _ _ s4 H3 ys m nD J4 hn ⟨?_,?_,?_,?_,?_⟩ qn
     · rw [aB hDC.symm];exact nC
     · exact Nat.ne_of_gt (Nat.lt_of_lt_of_le I2.lt (by rw [hC];exact Nat.le_succ _))
     · exact Nat.le_trans I2.sz (by rw [hC];exact Nat.le_succ _)
     · exact fun x c e=>(below c (hcD x c e)).1
     · exact fun p hp=>(below p.1 (Heap.lt_size (I2.pin p hp).1)).1
   · refine wpAny_mono (T.item (aJ X scope cl own fr HP.objs.size s2 H2 fp) rfl rfl rfl hc i _ s3 σ3 H3 (fun _ _ => False) I3 (stat fr3) st3 go) (fun r s4 h4 => ?_) fun _ _ f => f.elim
     obtain ⟨u,hr,h4⟩:=h4
     subst hr
     refine wpAny_mono h4 (fun _ s5 h5=>?_) fun _ _ f=>f.elim
     obtain ⟨x,H5,I5,r5,y5,st5,fr5⟩:=h5
     have I5':=I5.pinned (stat fr5) (T.obj _ _ st5)
     refine wpAny_mono (hg _ _ _ _ _ s5 σ3 H5 x u _ I5' r5 (step x H5 y5)) (fun _ s6 h6=>?_) fun _ _ f=>f.elim
     obtain ⟨σ6,H6,I6,q6⟩:=h6
     refine wpAny_mono (ht _ _ _ _ _ s6 σ6 H6 _ I6 q6) (fun ok s7 h7=>?_) fun _ _ f=>f.elim
     obtain ⟨H7,I7,q7⟩:=h7
     have keepT : ∀ {σ8 : St} {H8 : Hp} {s8 : Shared} {l : List (Addr × Obj)}, Inv (aJ X scope cl own fr HP.objs.size s2 H2 fp) (l ++ cO fp s5.heap) σ8 H8 s8 → tn (i + 1) s8.heap ∧ ∀ b ∈ fp, H8 b = none := fun {σ8 H8 s8 l} I8 => by
       refine ⟨T.keep _ _ _ st5 fun b hb o e=>(I8.pin (b,o) (List.mem_append_right _ (List.mem_append_right _ (df hb e)))).1,fun b hb=>?_⟩
       obtain ⟨o,e,_⟩:=T.obj _ _ st5 b hb
       exact (I8.pin (b,o) (List.mem_append_right _ (List.mem_append_right _ (df hb e)))).2.1
     cases ok with
     | false =>
       rw [if_neg Bool.false_ne_true] at q7 ⊢
       obtain ⟨_,m',hm,w7⟩:=hN _ _ _ q7
       exact ⟨m',hm,i + 1,ys,its,σ6,H7,I7.gh,rv,(keepT I7).1,(keepT I7).2,w7⟩
     | true =>
       rw [if_pos rfl] at q7 ⊢
       refine wpAny_mono (he _ _ _ _ _ s7 σ6 H7 _ I7 q7) (fun y s8 h8=>?_) fun _ _ f=>f.elim
       obtain ⟨yv,H8,I8,r8,n8⟩:=h8
       obtain ⟨hlt',m',hm,w8⟩:=hN _ _ _ n8
       have hlt:ys.length < sizeLine:=by rw [List.length_append] at hlt';exact hlt'
       obtain ⟨eD,nD,nL,_,_⟩:=I8.pin (s2.heap.objs.size,bx its) (by simp [aJ])
       refine append_at (its:=its.toArray) (n:=its.length) (hsz:=by rw [List.size_toArray,← rv.length];exact Nat.le_of_lt hlt) eD fun h9 sb9 eD9=>?_
       have I8p:Inv (aJ X scope cl own fr HP.objs.size s2 H2 fp) (cO fp s5.heap) σ6 H8 s8:=I8.fD fun p hp=>I8.pin p (List.mem_append_right _ (List.mem_append_right _ hp))
       have I9p : Inv (aJ X scope cl own fr HP.objs.size s2 H2 fp) (cO fp s5.heap) σ6 H8 { s8 with heap := h9 } :=
         I8p.turned (t' := s8.toks) (fun b o hb e => (sb9.2 b hb).trans e) nD nL (.inr (Nat.le_refl _)) (fun x c e => (below c (hcD x c (hcells _ _ e))).2) fun p hp => by
           have hp':p ∈ cO fp s5.heap:=by simpa [aJ] using hp
           exact (below p.1 (hfpo _ (ie hp').1)).2
       have eD9':h9.get? s2.heap.objs.size = some (bx (its ++ [y])):=eD9.trans (congrArg some (jD its y))
       have I9:Inv (aJ X scope cl own fr HP.objs.size s2 H2 fp) [(s2.heap.objs.size,bx (its ++ [y]))] σ6 H8 { s8 with heap:=h9 }:=I9p.fD (hpinD eD9' nD)
       have K9:=keepT (l:=[]) (by simpa using I9p)
       exact ⟨m',hm,i + 1,ys ++ [yv],its ++ [y],σ6,H8,I9,rv.append (.cons r8 .nil),K9.1,K9.2,w8⟩
 exact codeAny_compStart_list (loop _ rfl) (T.self _ 0 _ _ _ st1 (loop _ rfl))
end
end L3
namespace L3
open PySem PySem.Spec PyProof.Rows L2 PySem.SeqAt
section
variable {X:Cx} {k km:Nat} {x gn m:Str} {sp:Sp} {e:Expr} {es:List Expr} {t:TA} {gp cpos apos mpos pos py:Pos}
def vj (P : Program) (w : World) (K : PySem.W.Frag) (mg : Str → Option Value) (base : Heap) (km : Nat) (m : Str) (sp : Sp) (i : Nat) (t : TA) : TB := fun D Ew σ H => t σ H fun vs H1 => sp vs H1 (fun v H2 =>
 ∃ a C dx fs spm,v = .ref a∧H2 a = some (.ins C dx fs)∧fs.lookup m = none∧bW P w K mg base cm km C m spm∧spm [.ref a] H2 (fun v H3=>D.nx (σ.set i (some v)) H3) (fun _ _ _=>False)) Ew
theorem xA {pl : Sem Bool} {i : Nat} {P : Program} {w : World} {K : PySem.W.Frag} {mg : Str → Option Value} {base : Heap} (hP : X.prog = P ∧ X.w = w ∧ X.K = K ∧ X.mg = mg ∧ X.base = base) (hN : X.N.Nodup) (hi : X.N[i]? = some x) (hx : Loc X.env.scope x)
   (G:eF X.prog X.w X.K X.mg X.base (bB X.prog X.w) k gn sp) (hr:bR k X.A) (hrm:bR km X.A) (hg:Gl X gn) (ha:PA X.br (e :: es) t)
   (hf:X.fn x = true∨X.env.scope.names.lookup x = some .local:=by first | exact .inl rfl | exact .inr rfl | assumption) (hdb:(gn == ("__debug__" : Str)) = false:=by decide)
   (he:starEach (e :: es) X.env = (false,eval e X.env) :: starEach es X.env:=by rfl) (hpl:(backTo cpos (starEach es X.env)).any (·.1) = false:=by rfl)
   (ht : eval (.Call (.Attribute (.Call (.Name gn gp) (e :: es) [] cpos) m apos) [] [] mpos) X.env = (do
     let ov ← eval (.Call (.Name gn gp) (e :: es) [] cpos) X.env
     standAt apos.atName
     let (f,first) ← holding [ov] (getMethod ov m pl)
     callWith mpos f first (backTo mpos (starEach [] X.env)) (backToKw mpos (keywordEach [] X.env))):=by rfl) :
   PB X [.Assign [.Name x py] (.Call (.Attribute (.Call (.Name gn gp) (e :: es) [] cpos) m apos) [] [] mpos) pos] (vj P w K mg base km m sp i t):=by
 obtain ⟨rfl,rfl,rfl,rfl,rfl⟩:=hP
 intro pins s σ H D Ew I h
 refine wpAny_execs_cons (wpAny_Assign_Name (wpAny_mono (Q:=EP X pins σ (fun v H3=>D.nx (σ.set i (some v)) H3)) (E:=tM X pins σ Ew) ?_ (fun v s1 ⟨y,H1,I1,r1,q1⟩=>?_) fun _ _ z=>z) rfl)
 · refine PySem.W.methodCall_KW (pl := pl) (wpAny_mono (kG G hr hg ha I h hdb he hpl) (fun u s1 ⟨xv, H1, I1, rx, a, C, dx, fs, spm, ex, ea, l, M, q⟩ => ?_) fun _ _ z => z) ht
   subst ex
   obtain rfl:u = Value.ref a:=rx
   obtain ⟨f,fd,ps,hm,F,hb⟩:=M.ex
   refine md I1 ea M.cl hm l ?_
   refine PySem.W.callWith_K0 (first:=[.ref a]) I1.cP hm.kp ?_
   have z:=rg (X:=X.br) (us:=[.ref a]) (vs:=[.ref a]) (dvs:=[]) (ds:=[]) (E:=fun _ _ _=>False) F hrm hb .nil d8 (I1.eE _) (.cons rfl .nil) q
   exact wpAny_mono z (fun u2 s2 ⟨y,H2,I2,r2,q2⟩=>⟨y,H2,I2.cX,r2,q2⟩) fun _ _ z=>z.elim
 · exact iX I1 hN hi hx r1 (fun s2 I2=>wpAny_execs_nil ⟨_,H1,I2,q1⟩) hf
end
section
variable {X:Cx} {tg elt:Expr} {ifs:List Expr} {scope:Scope} {cl:List (Str×Addr)} {own:List Str} {fr:List (Str×Nat)} {g:TG} {tc:TT} {te:TE} {pos:Pos} {k:Nat} {gn:Str} {sp:Sp} {e:Expr} {es:List Expr} {t:TA} {gp cpos:Pos}
def vD (K : PySem.W.Frag) (sp : Sp) (i : Nat) (own : List Str) (fr : List (Str × Nat)) (t : TA) (g : TG) (tc : TT) (te : TE) : TB := fun D Ew σ H => t σ H fun vs H1 => sp vs H1 (fun v H2 =>
 ∃ a xs,v = .ref a∧aH K H2 a xs∧fT (l_ K a) g tc te (fun ys H3=>∀ p,H3 p = none→D.nx (σ.set i (some (.ref p))) (upd H3 p (.lst ys))) (dH own fr σ) H2) Ew
theorem xu {i : Nat} {y : Str} {py spos : Pos} {K : PySem.W.Frag} (hK : X.K = K) (hN : X.N.Nodup) (hi' : X.N[i]? = some y) (hx : X.env.scope.names.lookup y = some .local) (hc : X.calm = true) (S : gy X.br scope cl own fr)
   (G:eF X.prog X.w X.K X.mg X.base (bB X.prog X.w) k gn sp) (hr:bR k X.A) (hgl:Gl X gn) (ha:PA X.br (e :: es) t) (hg:∀ C s2 H2 fp,PG (aJ X.br scope cl own fr C s2 H2 fp) tg g)
   (ht:∀ C s2 H2 fp,mK (aJ X.br scope cl own fr C s2 H2 fp) ifs tc) (he:∀ C s2 H2 fp,PE (aJ X.br scope cl own fr C s2 H2 fp) elt te)
   (hdb:(gn == ("__debug__" : Str)) = false:=by decide) (hst:starEach (e :: es) X.env = (false,eval e X.env) :: starEach es X.env:=by rfl) (hpl:(backTo cpos (starEach es X.env)).any (·.1) = false:=by rfl)
   (hsw:swapsWith (.ListComp elt [⟨tg,.Call (.Name gn gp) (e :: es) [] cpos,ifs,0⟩] scope pos) (some (.Name y py)) spos.line X.env = pure true:=by rfl)
   (hs:∀ x,foldedSetIterable (.Call (.Name gn gp) (e :: es) [] cpos) X.env x = pure x:=by intro _;rfl) :
   PB X [.Assign [.Name y py] (.ListComp elt [⟨tg,.Call (.Name gn gp) (e :: es) [] cpos,ifs,0⟩] scope pos) spos] (vD K sp i own fr t g tc te):=by
 subst hK
 intro pins s σ H D Ew I h
 refine wpAny_execs_cons ?_
 rw [exec_Assign_Name_used _ _ _ _ hsw]
 refine wpAny_bind (wpAny_standAt (wpAny_bind ?_))
 show wpAny _ X.A (do let _ ← comprehension (.ListComp elt [⟨tg,.Call (.Name gn gp) (e :: es) [] cpos,ifs,0⟩] scope pos) scope X.env _ (newList []) false (eval (.Call (.Name gn gp) (e :: es) [] cpos) X.env) (some (assign (.Name y py) X.env))) _ _ s
 refine wpAny_bind (wpAny_mono (wpAny_comprehension_free (use:=some (assign (.Name y py) X.env)) (Q:=fun _ s'=>SP X pins D .next s') rfl hs S.pJ S.kind S.names ?_) (fun _ s' hq=>wpAny_pure (wpAny_pure (wpAny_execs_nil hq))) fun _ _ e=>e)
 refine wpAny_mono (kG G hr hgl ha I h hdb hst hpl) (fun v s1 ⟨xv,H1,I1,rx,a,xs,ex,hq,q⟩=>?_) fun _ _ z=>z
 subst ex
 obtain rfl:v = Value.ref a:=rx
 have J1:Inv X.br pins σ H1 s1:=I1.eE _
 have h1 : wpAny (model X.br.prog X.br.w) X.br.A (pyIter (.ref a)) (zD X.br pins σ tg fun J H1 => fT J g tc te (fun ys H3 => ∀ p, H3 p = none → D.nx (σ.set i (some (.ref p))) (upd H3 p (.lst ys))) (dH own fr σ) H1) X.br.xe s1 := by
   obtain ⟨its,rv,p,hz⟩:=J1.list hq
   refine wpAny_pyIter_list p.isList ?_
   refine ⟨s1.heap.objs.size,[s1.heap.objs.size],_,_,H1,rfl,J1.kept (t':=s1.toks) fun b o e=>Heap.get?_push_of_some _ e,oW a _,⟨_,Heap.get?_push_size _ rfl,rfl,rfl⟩,fun b hb=>?_,q⟩
   have e:b = s1.heap.objs.size:=by simpa using hb
   subst e
   exact J1.jC (Nat.le_refl _) (J1.ax.fresh (Nat.le_refl _))
 have cb := tL (X := X.br) (elt := elt) (iter := .Call (.Name gn gp) (e :: es) [] cpos) (ifs := ifs) (pos := pos) hc S hg ht he h1 (RR := fun acc C => compPost (model X.prog X.w) X.A (fun _ _ => False) (some (assign (.Name y py) X.env)) (fun _ s' => SP X pins D .next s') acc C)
   (fun Da C s4 H3 ys m nD J hn off q=>?_)
 · refine wpAny_mono cb (fun itv s2 h2 => wpAny_mono h2 (fun acc s3 h3 => wpAny_mono h3 (fun cenv s4 h4 => codeAny_mono h4 fun r s' hr => ?_) fun _ _ z => z.elim) fun _ _ z => z.elim) fun _ _ z => z.elim
   cases r with
   | ok f=>exact wpAny_mono hr (fun _ _ z=>z) fun _ _ z=>z.elim
   | error xv =>
     obtain ⟨m,hn,z⟩:=hr
     exact ⟨m,hn,fun h' sb cenv' hl=>wpAny_mono (z h' sb cenv' hl) (fun _ _ w=>w) fun _ _ w=>w.elim⟩
 · show wpAny _ X.A (assign (.Name y py) X.env (.ref Da)) _ _ _
   refine wpAny_assign_Name (ia (X:=X.br) J hN hi' (.inl hx) (v:=.ref Da) rfl (fun s5 I5 hsb=>?_) (.inr hx))
   obtain ⟨b,sb,hb⟩:=hsb
   have nCa : C ≠ b := by
     rcases hb with z | z
     · rw [z];exact off.loc
     · exact (off.cell _ _ z).symm
   exact ⟨m,hn.sameBut sb nCa,fun h' sb'=>⟨_,_,(I5.turned (t':=s5.toks) (fun b o hb e=>(sb'.2 b hb).trans e) off.none off.loc (.inr off.above) off.cell off.pin).cX,q Da nD⟩⟩
end
section
variable {M:Model} {A:Around} {E:Value→Shared→Prop}
variable {nm q:Str} {D N:Addr} {bs bm:List Value} {hdct:Bool} {sn:List Str} {sub:List Value} {ab:Bool} {col:Option Bool} {dd:Option Addr} {k0 k1 k2 k3 k5:Option Value} {newId:String}
theorem ql {K : PySem.W.Frag} {h : Heap} {g : Array GenState} {d : Drawn} {t : Nat} {os : OsState} {e C : Addr} {oe : Obj} {Q : Bool → Shared → Prop} {b : Bool} (X : K.In h)
   (hD:h.get? D = some (excClassObj nm q D N bs bm hdct sn sub ab col dd k0 k1 k2 k3 k5 newId)) (hbase:bm.contains (.type "BaseException") = true) (he:h.get? e = some oe) (hcls:oe.cls = .ref C) (hup:PySem.W.mroIn K C (.ref D) = some b)
   (hq:Q b ⟨h,g,d,t,os⟩):wpAny M A (excMatches (.ref e) (.ref D)) Q E ⟨h,g,d,t,os⟩:=by
 have hcB:(Value.ref D :: bm).contains (.type "BaseException") = true:=by rw [List.contains_cons,hbase,Bool.or_true]
 have f:=tc_notTuple
 unfold excMatches
 cases b
 all_goals repeat (first | (with_reducible refine wpAny_loadPart_at he ?_;rw [hcls]) | with_reducible refine wpAny_loadPart_at hD ?_ | (with_reducible refine (PySem.W.looks_mroIn X hup).at ?_) | (with_reducible refine wpAny_isSubtype_exc hD ?_;rw [hcB]) | wp_step)
 all_goals exact hq
end
section
variable {X:Cx} {pins:List (Addr×Obj)} {σ : St} {H H1 H':Hp} {s s1 s':Shared} {ea C:Addr}
def eN (D:Ends) (i:Nat):Ends:={ nx:=fun σ' H'=>D.nx (σ'.set i none) H',rt:=fun _ _=>False }
theorem mn {x n : Str} {np hpos : Pos} {b0 : Stmt} {suite : List Stmt} {rest : List ExceptHandler} {i : Nat} {th : Addr → TS} {D : Ends} {h0 h5 : Heap} {l : List Addr} {a0 : Value} (hh : X.calm = true → X.A.handled = none)
   (c:ja X.K X.mg x C) (hg:Gl X x) (hN:X.N.Nodup) (hi:X.N[i]? = some n) (hn:X.env.scope.names.lookup n = some .local)
   (hs:∀ ea oe,oe.cls = .ref C→(∃ vs,oe.data = .fields vs)→gu (Cx.sup X ea [(ea,oe)]) (b0 :: suite) (th ea)) (hdb:(x == ("__debug__" : Str)) = false)
   (I:Inv X pins σ H1 s1) (os:s'.os = s1.os) (bare:AllBare s'.gens) (u:Un (L2.b6 X.stack) [] H1 H' s1.heap h0) (ax:cC X.prog X.w H' h0) (hl:∀ b ∈ l,H' b = none∧(b ∈ L2.b6 X.stack∨s1.heap.objs.size ≤ b))
   (fl5:Heap.FlyingW (PySem.W.hideAll h0 l) (X.env :: X.outer) ea (.ref C) a0 h5) (up:h0.UpToSlots h5) (ap:H' ea = none∧ea ≠ X.env.locals∧ea ∉ X.fs)
   (q:th ea (eN D i) (σ.set i (some (.ref ea))) H') :
   wpAny (model X.prog X.w) X.A (handleBy (.ref ea) X.env (.ExceptHandler (some (.Name x np)) (some n) (b0 :: suite) hpos :: rest)) (SP X pins D) X.xe { s' with heap:=h5 }:=by
 have I5:Inv X pins σ H' { s' with heap:=h5 }:=jI I os bare u ax hl fl5.1 up
 obtain ⟨oe,hoe,hoec⟩:=fl5.there
 refine wpAny_handleBy_cons (codeAny_handlers_test (fZ (X:=Cx.sup X ea []) (Inv.sup I5 (fun p hp=>nomatch hp)) hg c.glob ?_ hdb)) (by intro z;cases z)
 obtain ⟨bm,N',nm,qn,bs,hd,sn,sub,ab,col,dd,k0,k1,k2,k3,k5,mN,hC,hNs,hni,TL⟩:=c.obj I5.cP
 refine wpAny_excMatches_sub_self hC hoe hoec (TL.hasType (by decide +kernel)) (codeAny_handlers_suite_as ?_)
 refine lands_againW fl5 fun h6 fl6 up6=>?_
 have I6:Inv X pins σ H' { s' with heap:=h6 }:=jI I os bare u ax hl fl6.1 (up.trans up6)
 obtain ⟨oe6,vs6,hoe6,hoec6,hoed6,_⟩:=fl6.first
 have I6p : Inv (Cx.sup X ea [(ea, oe6)]) pins σ H' { s' with heap := h6 } := Inv.sup I6 fun p hp => by
   have e:p = (ea,oe6):=by simpa using hp
   subst e
   exact ⟨hoe6,ap.1,ap.2.1,ap.2.2,fun v z=>by rw [hoed6] at z;cases z⟩
 refine iX (X:=Cx.sup X ea [(ea,oe6)]) I6p hN hi (.inl hn) (show RelV (.ref ea) (.ref ea) from rfl) (fun s7 I7=>?_) (.inr hn)
 refine wpAny_mono (hs ea oe6 hoec6 ⟨vs6,hoed6⟩ pins s7 _ H' _ I7 q) (fun f s8 q8=>?_) fun _ _ z=>z.elim
 cases f with
 | next =>
   obtain ⟨σ',H'',I8,q9⟩:=q8
   exact BG (Inv.tV I8 hh) hN hi hn fun s9 I9=>⟨_,H'',I9,q9⟩
 | brk=>obtain ⟨_,_,_,z⟩:=q8;exact z.elim
 | cont=>obtain ⟨_,_,_,z⟩:=q8;exact z.elim
 | ret v=>obtain ⟨_,_,_,_,_,z⟩:=q8;exact z.elim
def yn (tb : TB) (C1 C2 : Addr) (i : Nat) (th1 th2 : Addr → TS) : TS := fun D σ H =>
 tb D (fun c _ H2=>(c = .ref C1∧∀ ea,H2 ea = none→th1 ea (eN D i) (σ.set i (some (.ref ea))) H2)∨(c = .ref C2∧∀ ea,H2 ea = none→th2 ea (eN D i) (σ.set i (some (.ref ea))) H2)) σ H
theorem Bw {body : List Stmt} {tb : TB} {x1 x2 n : Str} {np1 np2 hp1 hp2 pos : Pos} {b1 b2 : Stmt} {su1 su2 : List Stmt} {i : Nat} {th1 th2 : Addr → TS} {C1 C2 : Addr} (hst : X.stack = X.env :: X.outer) (hfr : X.env.frame = some X.env.locals) (hc : X.calm = true)
   (hb:PB X body tb) (c1:ja X.K X.mg x1 C1) (c2:ja X.K X.mg x2 C2) (hno:PySem.W.mroIn X.K C2 (.ref C1) = some false) (hg1:Gl X x1) (hg2:Gl X x2) (hN:X.N.Nodup) (hi:X.N[i]? = some n) (hn:X.env.scope.names.lookup n = some .local)
   (hs1:∀ ea oe,oe.cls = .ref C1→(∃ vs,oe.data = .fields vs)→gu (Cx.sup X ea [(ea,oe)]) (b1 :: su1) (th1 ea))
   (hs2:∀ ea oe,oe.cls = .ref C2→(∃ vs,oe.data = .fields vs)→gu (Cx.sup X ea [(ea,oe)]) (b2 :: su2) (th2 ea)) (hdb1:(x1 == ("__debug__" : Str)) = false:=by decide) (hdb2:(x2 == ("__debug__" : Str)) = false:=by decide) :
   PS X (.Try body [.ExceptHandler (some (.Name x1 np1)) (some n) (b1 :: su1) hp1,.ExceptHandler (some (.Name x2 np2)) (some n) (b2 :: su2) hp2] [] [] pos) (yn tb C1 C2 i th1 th2):=by
 intro pins s σ H D I0 h
 refine wpAny_Try_except (wpAny_mono (hb pins s σ H D _ I0 h) (fun f s1 q=>?_) fun ex s' q=>?_)
 · cases f with
   | next=>exact wpAny_execs_nil q
   | brk=>exact q
   | cont=>exact q
   | ret u=>exact q
 obtain ⟨ea,C',H1,s1,H',rfl,I,⟨os,bare,h0,l,a0,u,ax,hl,hnew,fl,up⟩,q⟩:=q
 have hh:X.calm = true→X.A.handled = none:=I.ok.hd
 have fl':Heap.FlyingW (PySem.W.hideAll h0 l) (X.env :: X.outer) ea (.ref C') a0 s'.heap:=by rw [← hst];exact fl
 have ap:=xp (I.call (h':=h0) (g':=s'.gens) (d':=s'.drawn) (t':=s'.toks) (ch:=[]) u ax bare (fun b z=>absurd z (by simp))) hnew
 refine wpAny_looks_onW (by rw [← hst];exact I.ok.frames) hfr fl' fun h4 held4 up4=>?_
 refine wpAny_landsW held4 fun h5 fl5 up5=>?_
 rcases q with ⟨ec,q⟩ | ⟨ec,q⟩
 · cases ec
   exact mn hh c1 hg1 hN hi hn hs1 hdb1 I os bare u ax hl fl5 ((up.trans up4).trans up5) ap (q ea ap.1)
 · cases ec
   have I5:Inv X pins σ H' { s' with heap:=h5 }:=jI I os bare u ax hl fl5.1 ((up.trans up4).trans up5)
   obtain ⟨oe,hoe,hoec⟩:=fl5.there
   refine wpAny_handleBy_cons (codeAny_handlers_test (fZ (X:=Cx.sup X ea []) (Inv.sup I5 (fun p hp=>nomatch hp)) hg1 c1.glob ?_ hdb1)) (by intro z;cases z)
   obtain ⟨bm,N',nm,qn,bs,hd,sn,sub,ab,col,dd,k0,k1,k2,k3,k5,mN,hC,hNs,hni,TL⟩:=c1.obj I5.cP
   refine ql I5.cP hC (TL.hasType (by decide +kernel)) hoe hoec hno ?_
   exact mn hh c2 hg2 hN hi hn hs2 hdb2 I os bare u ax hl fl5 ((up.trans up4).trans up5) ap (q ea ap.1)
theorem DM {tb : TB} {C1 C2 : Addr} {i : Nat} {th1 th2 : Addr → TS} {D : Ends} {σ : St} {H : Hp}
   (h:tb D (fun c _ H2=>(c = .ref C1∧∀ ea,H2 ea = none→th1 ea (eN D i) (σ.set i (some (.ref ea))) H2)∨(c = .ref C2∧∀ ea,H2 ea = none→th2 ea (eN D i) (σ.set i (some (.ref ea))) H2)) σ H):yn tb C1 C2 i th1 th2 D σ H:=h
end
end L3
namespace L3
open PySem PySem.Spec PyProof.Rows L2 PySem.SeqAt PySem.Builtin PySem.Builtin.Str
def yQ:V→List V→Hp→VK→Prop:=fun x vs H Q=>∃ a b kvs more,x = .ref a∧vs = [.ref b]∧a ≠ b∧H a = some (.dK kvs)∧H b = some (.dK more)∧kvs.length + more.length ≤ sizeLine∧Q .aO (upd H a (.dK (fR kvs more)))
theorem tm {X : Cx} : vV X "dict.update" yQ := by
 intro pins s σ H x xs v us Q I rx rs h
 obtain ⟨a,b,kvs,more,rfl,rfl,hab,ea,eb,hz,q⟩:=h
 cases rx
 obtain ⟨u,rfl,ru⟩:=vals1 rs
 cases ru
 obtain ⟨z,hd,vs,rel,dd⟩:=tN I.ax ea
 obtain ⟨z2,hd2,vs2,rel2,dd2⟩:=tN I.ax eb
 refine call_meetsIn PySem.F.slot_dict_update dd.typeIs PySem.F.entry_dict_update (PySem.F.args_dict_update_2 _ _) (meets_dict_update (bG X.prog X.w) a b hab hd2) ⟨vs,vs2,dd,dd2,by rw [← rel.length,← rel2.length];exact hz,fun h' dd' _ hs=>⟨.aO,_,?_,rfl,q⟩⟩
 have he:∃ q,h'.get? a = some q:=let ⟨q,_,_,hq,_⟩:=dd';⟨q,hq⟩
 have hl:=gJ more kvs
 exact tE (t':=s.toks) I (by rw [ea];exact True.intro) hs he (vR (by omega) hd (KV.merge rel2 rel) dd')
theorem vq {a b:Addr} {kvs more:List (Key×V)} {H:Hp} {Q:VK} (hab:a ≠ b) (ha:H a = some (.dK kvs)) (hb:H b = some (.dK more)) (hz:kvs.length + more.length ≤ sizeLine) (q:Q .aO (upd H a (.dK (fR kvs more)))):yQ (.ref a) [.ref b] H Q:=⟨a,b,kvs,more,rfl,rfl,hab,ha,hb,hz,q⟩
def Ct:V→Option Int→Option Int→Hp→VK→Prop:=fun x _ _ H Q=>∃ u,x = .str u∧u.length ≤ sizeLine∧∀ t:PySem.Str,t.length ≤ u.length→Q (.str t) H
theorem mj {X : Cx} : kP X Ct := by
 intro pins s σ H x v vl vu lo hi sl Q I rx hs pl pu h
 obtain ⟨u,rfl,hz,q⟩:=h
 obtain ⟨t,rfl⟩:=rx
 refine ⟨"str",_,F.slot_str_getitem.lookup,typeIs_str _ _ _,?_⟩
 obtain ⟨l, rfl⟩ : ∃ l : Option (Int × Tok), vl = partValue l := by
   cases pl with
   | none=>exact ⟨none,rfl⟩
   | int i t=>exact ⟨some (i,t),rfl⟩
 obtain ⟨u', rfl⟩ : ∃ l : Option (Int × Tok), vu = partValue l := by
   cases pu with
   | none=>exact ⟨none,rfl⟩
   | int i t=>exact ⟨some (i,t),rfl⟩
 refine wpAny_getItem_str_slice (l:=l) (u:=u') (st:=none) hs rfl ?_
 have hle : (⟨((slicePicked u l u' none).filterMap (u.cps[·]?)).toArray⟩ : PySem.Str).length ≤ u.length := by
   show (List.toArray _).size ≤ _
   rw [List.size_toArray]
   exact Nat.le_trans (List.length_filterMap_le ..) (sliceIndices_le _ _ _)
 unfold sliceMade
 split
 · exact ⟨.str u,H,I,⟨t,rfl⟩,q u (Nat.le_refl _)⟩
 · exact ⟨Nat.le_trans hle hz,.str _,H,I.tok _,⟨_,rfl⟩,q _ hle⟩
theorem pD {u:PySem.Str} {lo hi:Option Int} {H:Hp} {Q:VK} (hz:u.length ≤ sizeLine) (q:∀ t:PySem.Str,t.length ≤ u.length→Q (.str t) H):Ct (.str u) lo hi H Q:=⟨u,rfl,hz,q⟩
def vy (x:PySem.Str) (tv:TE):TE:=fun σ H Q=>tv σ H fun u H1=>∃ t,u = .str t∧t.length ≤ 2000000∧Q (.str (Str.empty ++ x ++ t)) H1
theorem wO {X : Cx} {v : Expr} {tv : TE} {x : PySem.Str} {j1 : Nat} {p0 p1 p2 : Pos} (hv : PE X v tv) (hx : (Str.empty ++ x).length ≤ 1000 := by decide +kernel) : PE X (.JoinedStr [.Constant (.str x) j1 p1, .FormattedValue v (-1) none p2] p0) (vy x tv) := by
 intro pins s σ H Q I h
 refine JoinedStr_many (joinParts_cons (aY (ai (X:=X) pins s σ H (fun u H'=>u = .str x∧H' = H) I ⟨rfl,rfl⟩) fun u1 s1 ⟨v1,H1,I1,r1,e1,e2⟩=>?_))
 subst e1 e2
 obtain ⟨t1,rfl⟩:=r1
 refine ⟨by rw [sizeLine_eq];omega,joinParts_cons (FormattedValue_plain (aY (hv pins s1 σ H1 _ I1 h) fun u2 s2 ⟨v2,H2,I2,r2,i,e,hd,q⟩=>?_))⟩
 subst e
 obtain ⟨t2,rfl⟩:=r2
 have hz : (Str.empty ++ x ++ i).length ≤ sizeLine := by
   rw [sizeLine_eq]
   have : (Str.empty ++ x ++ i).length = (Str.empty ++ x).length + i.length := by
     show Array.size _ = Array.size _ + Array.size _
     exact Array.size_append
   omega
 refine formatField_str (fun t' tk=>?_) (by rw [sizeLine_eq];omega)
 exact ⟨hz,joinParts_nil ⟨.str _,_,(I2.tok _).tok _,⟨_,rfl⟩,q⟩ hz⟩
theorem AW {x t:PySem.Str} {tv:TE} {σ : L2.St} {H:Hp} {Q:VK} (h:tv σ H fun u H1=>∃ t,u = .str t∧t.length ≤ 2000000∧Q (.str (Str.empty ++ x ++ t)) H1):vy x tv σ H Q:=h
theorem ue (x y z : PySem.Str) (t u v w : Tok) (h0 : (u == 0 || v == 0) = false) (huv : (u == v) = false) (hyz : (y == z) = false) (hl : tooLong (x.length + (occurrences x y 0 x.length 1).length * z.length) = false) :
   Gives («str.replace» ⟨[.str x t,.str y u,.str z v,.int 1 w],[]⟩) (if ((occurrences x y 0 x.length 1).isEmpty || (y.length == 0 && z.length == 0)) = true then .val (.str x t) else .str (glued z (partsBetween x (occurrences x y 0 x.length 1) y.length))):=by
 show Gives (if ((occurrences x y 0 x.length 1).isEmpty || (y.length == 0 && z.length == 0)) = true then (do rule "str.replace.nothing"; ret (.str x t)) else
         (do let same ← isSame (.str y u) (.str z v)
             if same = true then (do rule "str.replace.old-is-new";ret (.str x t)) else
             if tooLong (x.length + (occurrences x y 0 x.length 1).length * z.length) = true then unsupported "str.replace:memory" else
             retStr (glued z (partsBetween x (occurrences x y 0 x.length 1) y.length)))) _
 cases hc:((occurrences x y 0 x.length 1).isEmpty || (y.length == 0 && z.length == 0))
 · rw [isSame_str_other y z u v h0 huv hyz, hl]
   exact .of_eq rfl
 · exact .rule (.of_eq rfl)
theorem wI (x y z : PySem.Str) (hy : 1 ≤ y.length) : (glued z (partsBetween x (occurrences x y 0 x.length 1) y.length)).length ≤ x.length + z.length := by
 have h1:=StrLaws.occ_length_le x y 0 x.length 1
 have hs:(glued y (partsBetween x (occurrences x y 0 x.length 1) y.length)).length = x.length:=by rw [StrLaws.glued_between_self]
 rw [size_glued,length_partsBetween,Nat.add_sub_cancel] at hs
 rw [size_glued,length_partsBetween,Nat.add_sub_cancel]
 have h2:(occurrences x y 0 x.length 1).length * z.length ≤ 1 * z.length:=Nat.mul_le_mul_right _ h1
 omega
section
variable {X:Cx} {x y:PySem.Str} {o n:PySem.Str} {k:Int}
theorem sQ {pins : List (Addr × Obj)} {σ : L2.St} {H : Hp} {s : Shared} {E : Value → Shared → Prop} {i : Nat} {x : PySem.Str} {v : V} {pos : Pos} {Q : Value → Shared → Prop} (I : Inv X pins σ H s) (hN : X.N[i]? = some x) (hv : sS X.env.scope x) (e : σ[i]? = some (some v)) (h : ∀ u, RelV v u → Q u s)
   (hd:(x == ("__debug__" : Str)) = false:=by decide) (hcd:(x == ("__classdict__" : Str)) = false:=by decide):wpAny (model X.prog X.w) X.A (eval (.Name x pos) X.env) Q E s:=by
 obtain ⟨m,hn,hl⟩:=I.loc
 obtain ⟨u,r,l⟩:=hl i x v hN e hv
 have fin:=h u r
 rcases l with ⟨hk,hm⟩ | ⟨hk,c,hc,hcell⟩
 · exact wpAny_Name (wpAny_loadName_local I.ok.kind hk hn hm fin) hd
 · rcases hk with hk | hk
   · exact wpAny_Name (wpAny_loadName_cell I.ok.kind hk hc hcell fin) hd
   · exact wpAny_Name (wpAny_loadName_free I.ok.kind hk hc hcell fin hcd) hd
def vG (i j:Nat) (k:Int) (n:PySem.Str):TS:=fun D σ H=>∃ v t,σ[i]? = some (some (.int v))∧σ[j]? = some (some (.str t))∧t.length ≤ 1000000∧(v ≠ k→D.nx σ H)∧(v = k→∀ r:PySem.Str,r.length ≤ t.length + n.length→D.rt (.str r) H)
theorem wq {i j c1 c2 c3 c4 : Nat} {py cp cpos px apos p1 p2 p3 callpos rpos pos : Pos} (hNi : X.N[i]? = some y) (hvi : sS X.env.scope y) (hNj : X.N[j]? = some x) (hvj : sS X.env.scope x) (ho : 1 ≤ o.length) (hn : n.length ≤ 100) (hon : (o == n) = false)
   (hdi:(y == ("__debug__" : Str)) = false:=by decide) (hci:(y == ("__classdict__" : Str)) = false:=by decide) (hdj:(x == ("__debug__" : Str)) = false:=by decide) (hcj:(x == ("__classdict__" : Str)) = false:=by decide)
   (hm:behindInMarks .Eq (.Constant (.int k) c1 cp) = false:=by first | exact wu _ (by decide) (by decide) | rfl)
   (hbase:attributeBase (.Name x px) "replace" X.env (eval (.Name x px) X.env) = eval (.Name x px) X.env:=by rfl)
   (hfew : ((backTo callpos (starEach [.Constant (.str o) c2 p1, .Constant (.str n) c3 p2, .Constant (.int 1) c4 p3] X.env)).all (fun x => !x.1) && (backToKw callpos (keywordEach [] X.env)).all (fun x => x.1.isSome)
     && decide (([.Constant (.str o) c2 p1,.Constant (.str n) c3 p2,.Constant (.int 1) c4 p3]:List Expr).length + ([]:List Keyword).length + (if ([]:List Keyword).isEmpty then 0 else 1) < 30)) = true:=by rfl)
   (hline:(apos.endLine == callpos.line) = true:=by rfl) :
   PS X (.If (.Compare (.Name y py) [.Eq] [.Constant (.int k) c1 cp] cpos) [.Return (some (.Call (.Attribute (.Name x px) "replace" apos) [.Constant (.str o) c2 p1,.Constant (.str n) c3 p2,.Constant (.int 1) c4 p3] [] callpos)) rpos] [] pos) (vG i j k n):=by
 intro pins s σ H D I h
 obtain ⟨v,t,ei,ej,hz,q1,q2⟩:=h
 refine wpAny_If (wpAny_isTrue_Compare1 (sQ I hNi hvi ei (fun u ru=>?_) hdi hci) hm)
 obtain ⟨tk,rfl⟩:=ru
 refine wpAny_Constant_int ?_
 refine eq_int ?_
 refine wpAny_truthy_bool ?_
 have I1:Inv X pins σ H { s with toks:=s.toks + 1 }:=I.tok _
 by_cases hv:v = k
 · rw [show (v == k) = true from by simpa using hv]
   rw [if_pos rfl]
   refine wpAny_execs_cons (wpAny_Return_some ?_)
   refine wpAny_Call_method_late hbase hfew hline rfl (sQ I1 hNj hvj ej (fun u ru=>?_) hdj hcj)
   obtain ⟨tx,rfl⟩:=ru
   refine ⟨"str","str.replace",PySem.F.plainAttrs_str,PySem.F.slot_str_replace,PySem.F.type_str_replace,typeIs_str _ _ _,(fun b z=>by cases z),?_⟩
   refine Calls.callWith_builtin rfl (Calls.evalArgs_plain ?_)
   refine Calls.spliced_cons (x:=eval (.Constant (.str o) c2 p1) X.env) (rest:=[(false,eval (.Constant (.str n) c3 p2) X.env),(false,eval (.Constant (.int 1) c4 p3) X.env)]) (Calls.Constant_str (k:=c2) (pos:=p1) (Calls.spliced_cons (Calls.Constant_str (k:=c3) (pos:=p2) (Calls.spliced_cons (wpAny_Constant_int (Calls.spliced_nil ?_))))))
   refine call_gives PySem.F.slot_str_replace (typeIs_str _ _ _) PySem.F.entry_str_replace (PySem.F.args_str_replace_4 _ _ _ _) (ue t o n tx _ _ _ (by simp) (by simp) hon ?_) ?_
   · have h1 := StrLaws.occ_length_le t o 0 t.length 1
     have h2:(occurrences t o 0 t.length 1).length * n.length ≤ 1 * n.length:=Nat.mul_le_mul_right _ h1
     unfold tooLong
     rw [sizeLine_eq]
     exact decide_eq_false (by omega)
   · have hl := wI t o n ho
     split
     · exact ⟨.str t,σ,H,(((I1.tok _).tok _).tok _),⟨_,rfl⟩,q2 hv t (by omega)⟩
     · exact ⟨by rw [sizeLine_eq];omega,.str _,σ,H,((((I1.tok _).tok _).tok _).tok _),⟨_,rfl⟩,q2 hv _ hl⟩
 · rw [show (v == k) = false from by simpa using hv]
   rw [if_neg Bool.false_ne_true]
   exact wpAny_execs_nil ⟨σ,H,I1,q1 hv⟩
end
end L3
namespace FB
open PySem PySem.Spec PyProof.Rows L2 L3 PySem.SeqAt
local macro_rules | `(tactic| walk_at "clok") => `(tactic| repeat (first | exact True.intro | refine ⟨rfl, ?_⟩))
local macro_rules | `(tactic| walk_at "frok") => `(tactic| repeat (first | exact True.intro | refine ⟨⟨rfl, (by first | exact Or.inl rfl | exact Or.inr rfl), (by first | exact Or.inl rfl | exact Or.inr rfl), rfl⟩, ?_⟩))
local macro_rules | `(tactic| walk_at "hlk") => `(tactic| first | (with_reducible assumption) | (exact ak) | ((with_reducible refine' a8 ?x ?y); (case y => with_reducible assumption); (case x => walk_at "hlk")) | ((fail_if_success (((with_reducible refine' a8 ?x ?y); (case y => with_reducible assumption)))); (with_reducible refine' look_ne ?x ?y); (case x => walk_at "ne"); (case y => walk_at "hlk")) | ((with_reducible refine' same_at ?x ?y); (case x => with_reducible assumption); (case y => walk_at "hlk")))
local macro_rules | `(tactic| walk_at "ne") => `(tactic| first | (with_reducible assumption) | (apply Ne.symm; (with_reducible assumption)) | ((with_reducible refine' aD ?x ?y); (case y => with_reducible assumption); (case x => walk_at "hlk")) | (apply Ne.symm; (with_reducible refine' aD ?x ?y); (case y => with_reducible assumption); (case x => walk_at "hlk")))
local macro_rules | `(tactic| walk_at "sql") => `(tactic| first | (with_reducible assumption) | (refine' aH.of ?x; (case x => first | (with_reducible assumption) | (exact ak))) | ((with_reducible refine' sW ?x ?y); (case y => with_reducible assumption); (case x => walk_at "sql")) | ((fail_if_success (((with_reducible refine' sW ?x ?y); (case y => with_reducible assumption)))); first | ((with_reducible refine' sql_upd ?s ?h ?q); (case h => with_reducible assumption); (case s => walk_at "same"); (case q => walk_at "sql")) | (refine' aH.of ?x; (case x => (with_reducible refine' look_ne ?x2 ?y2); (case x2 => walk_at "ne"); (case y2 => walk_at "hlk")))) | ((with_reducible refine' aq.seq ?x ?y); (case x => with_reducible assumption); (case y => walk_at "sql")))
local macro_rules | `(tactic| walk_at "sqt") => `(tactic| first | (with_reducible assumption) | (refine' cw.of ?x; (case x => first | (with_reducible assumption) | (exact ak))) | ((with_reducible refine' sqt_new ?x ?y); (case y => with_reducible assumption); (case x => walk_at "sqt")) | ((fail_if_success (((with_reducible refine' sqt_new ?x ?y); (case y => with_reducible assumption)))); first | ((with_reducible refine' sqt_upd ?s ?h ?q); (case h => with_reducible assumption); (case s => walk_at "same"); (case q => walk_at "sqt")) | (refine' cw.of ?x; (case x => (with_reducible refine' look_ne ?x2 ?y2); (case x2 => walk_at "ne"); (case y2 => walk_at "hlk")))) | ((with_reducible refine' SqT_same ?x ?y); (case x => with_reducible assumption); (case y => walk_at "sqt")))
local macro_rules | `(tactic| walk_at "lk") => `(tactic| first | (with_reducible exact qY) | (refine' Bs ?x ?y; (case x => decide +kernel); (case y => walk_at "lk")) | exact qY)
local macro_rules | `(tactic| walk_at "nolk") => `(tactic| first | (with_reducible rfl) | (refine' A7 ?x ?y; (case x => decide +kernel); (case y => walk_at "nolk")) | rfl)
local macro_rules | `(tactic| walk_at "fewf") => `(tactic| first | exact Nat.lt_of_le_of_lt (Nat.le_refl 0) (by decide) | exact Nat.lt_of_le_of_lt (iN (Nat.le_refl 0)) (by decide) | exact Nat.lt_of_le_of_lt (iN (iN (Nat.le_refl 0))) (by decide) | exact Nat.lt_of_le_of_lt (iN (iN (iN (Nat.le_refl 0)))) (by decide))
local macro_rules | `(tactic| walk_at "small") => `(tactic| first | exact Nat.le_of_ble_eq_true rfl | (show _ ≤ sizeLine; rw [sizeLine_eq]; first | omega | (simp only [List.length_map, List.length_cons, List.length_nil, List.length_append, List.length_replicate, List.length_set, List.length_range]; omega)))
local macro_rules | `(tactic| walk_at "r1") => `(tactic| with_reducible first
 | refine FA (by with_unfolding_all rfl) ?_
 | refine Nw ?_ | refine MH ?_ | refine ML ?_ | refine AY ?_ | refine F2 ?_ | refine IV ?_ | (refine' DN ?x ?_;(case x=>simp only [List.set_cons_succ,List.set_cons_zero];rfl)) | refine Jl ?_ | refine IL ?_ | refine D8 ?_
 | refine Cu ?_ | refine HD ?_ | refine ME ?_ | refine Bj ?_ | refine Bl ?_ | refine AZ ?_ | refine K3 ?_ | refine Kz ?_ | refine Ef ?_ | refine r_truI ?_
 | refine FT ?_ | refine GQ ?_ | refine My ?_ | refine D7 ?_ | refine Du ?_ | refine CS ?_ | refine r_retN ?_ | refine M0 ?_ | refine NQ ?_ | refine r_if ?_
 | refine EJ ?_ | refine r_orV ?_ | refine CD ?_ | refine MA ?_ | refine Ec ?_ | refine wK ?_ | refine Mq ?_ | refine r_bm0 ?_ | refine Ia ?_ | refine Hu ?_ | refine r_two ?_
 | (refine' wH ?x ?_;(case x=>with_unfolding_all rfl)) | (refine' w6 ?x ?_;(case x=>with_unfolding_all rfl)) | refine Js ?_ | refine Eu ?_ | refine BS ?_ | refine r_rng2 ?_ | refine C4 ?_
 | refine CG ?_ | refine DO ?_ | refine r_isNi ?_ | refine r_notNr ?_ | refine r_notNn ?_ | refine r_notNi ?_
 | refine M_ ?_ | refine Ly ?_ | refine FZ ?_ | refine IH ?_
 | refine ⟨_,rfl,?_⟩)
local macro_rules | `(tactic| walk_at "r2") => `(tactic| first
 | ((with_reducible refine' Dl ?h ?c ?n ?l ?_);(case h=>walk_at "hlk");(case c=>walk_at "cls");(case n=>walk_at "noat");(case l=>walk_at "lk"))
 | ((with_reducible refine' Bg ?h ?c ?n ?l ?_);(case h=>walk_at "hlk");(case c=>walk_at "cls");(case n=>walk_at "noat");(case l=>walk_at "fewf"))
 | ((with_reducible refine' D5 ?h ?_);(case h=>walk_at "sql"))
 | ((with_reducible refine' uZ ?h ?_);(case h=>walk_at "sql"))
 | ((with_reducible refine' r_lenT ?h ?_);(case h=>walk_at "sqt"))
 | ((with_reducible refine' r_listL ?h ?_);(case h=>walk_at "sql"))
 | ((with_reducible refine' r_listT ?h ?_);(case h=>walk_at "sqt"))
 | ((with_reducible refine' KQ ?h ?_);(case h=>rfl))
 | ((with_reducible refine' F8 ?h ?_);(case h=>rfl)))
local macro_rules | `(tactic| walk_at "none") => `(tactic| first | (with_reducible assumption) | ((with_reducible refine' jS ?x ?y); (case y => with_reducible assumption); (case x => walk_at "same")))
local macro_rules | `(tactic| walk_at "same") => `(tactic| first | (with_reducible assumption) | (with_reducible exact aq.refl _) | ((with_reducible refine' same_none ?x ?y); (case y => with_reducible assumption); (case x => walk_at "same")) | ((fail_if_success (((with_reducible refine' same_none ?x ?y); (case y => with_reducible assumption)))); (with_reducible refine' same_upd ?x ?y); (case y => walk_at "none"); (case x => walk_at "same")) | ((with_reducible refine' aq.trans ?x ?y); (case y => with_reducible assumption); (case x => walk_at "same")))
local macro_rules | `(tactic| walk_at "tt") => `(tactic| first | assumption | omega | with_unfolding_all rfl | decide | (simp only [List.length_map, List.length_cons, List.length_nil, List.length_append, List.length_replicate, List.length_set, vm]; omega))
local macro_rules | `(tactic| walk_at "nn") => `(tactic| first | assumption | omega | decide | (simp only [List.length_map, List.length_cons, List.length_nil, List.length_append, List.length_replicate, List.length_set, vm]; omega))
local macro_rules | `(tactic| walk_at "cond") => `(tactic| first
 | ((with_reducible refine' NP ?h ?_);(case h=>first | exact ⟨by decide,by decide⟩ | (show (0:Int) < _;first | decide | omega) | (show (0:Int) ≤ _;first | decide | omega)))
 | ((with_reducible refine' yO ?x ?_);(case x=>intro hh;exact absurd hh (by decide));intro _)
 | ((with_reducible refine' yO ?_ ?x);(case x=>intro hh;exact absurd hh (by decide));intro _)
 | ((with_reducible refine' gS ?x ?_);(case x=>intro hh;exact absurd hh (by walk_at "nn"));intro _)
 | ((with_reducible refine' gS ?_ ?x);(case x=>intro hh;exact absurd (by walk_at "tt") hh);intro _)
 | ((with_reducible refine' lY ?x ?_);(case x=>intro hh;exact absurd (by walk_at "tt") hh);intro _)
 | ((with_reducible refine' lY ?_ ?x);(case x=>intro hh;exact absurd hh (by walk_at "nn"));intro _)
 | ((with_reducible refine' eW ?x ?_);(case x=>intro hh;exact absurd hh (by walk_at "nn"));intro _)
 | ((with_reducible refine' eW ?_ ?x);(case x=>intro hh;exact absurd (by walk_at "tt") hh);intro _)
 | ((with_reducible refine' mG ?x ?_);(case x=>intro hh;exact absurd (by walk_at "tt") hh);intro _)
 | ((with_reducible refine' mG ?_ ?x);(case x=>intro hh;exact absurd hh (by walk_at "nn"));intro _))
local macro_rules | `(tactic| walk_at "at") => `(tactic| first | assumption | ((with_reducible refine' FI ?x ?y); (case x => walk_at "tt"); (case y => walk_at "tt")) | ((with_reducible refine' gI_neg ?x ?y); (case x => walk_at "tt"); (case y => walk_at "tt")) | rfl)
local macro_rules | `(tactic| walk_at "calls") => `(tactic| first
 | ((with_reducible refine' r_bounded ?a ?b ?_);(case a=>omega);(case b=>omega))
 | ((with_reducible refine' r_withBox ?h ?a ?b ?_);(case h=>walk_at "sql");(case a=>omega);(case b=>omega))
 | ((with_reducible refine' wC ?h ?a ?_);(case h=>walk_at "sql");(case a=>omega))
 | (with_reducible refine r_whole ?_) | (with_reducible refine r_without ?_) | (with_reducible refine r_filled ?_)
 | ((with_reducible refine' r_boxPl ?a ?b ?_);(case a=>omega);(case b=>omega))
 | ((with_reducible refine' r_cellPl ?a ?b ?c ?_);(case a=>omega);(case b=>omega);(case c=>omega))
 | ((with_reducible refine' r_setI ?x ?y ?z ?_);(case x=>walk_at "hlk");(case y=>walk_at "tt");(case z=>walk_at "tt"))
 | ((with_reducible refine' r_setIN ?x ?y ?z ?_);(case x=>walk_at "hlk");(case y=>walk_at "tt");(case z=>walk_at "tt"))
 | ((with_reducible refine' r_ixT ?h ?e ?_);(case h=>walk_at "sqt");(case e=>walk_at "at"))
 | ((with_reducible refine' gm ?h ?e ?_);(case h=>walk_at "sql");(case e=>walk_at "at"))
 | (with_reducible refine r_gSub ?_))
local macro_rules | `(tactic| walk_at "ty") => `(tactic| first | (with_reducible exact dG.int _) | (with_reducible exact dG.bl _) | (with_reducible exact dG.str _) | (with_reducible exact dG.aO) | (refine' dG.lst ?x; (case x => walk_at "hlk")) | (refine' dG.tup ?x; (case x => walk_at "hlk")))
local macro_rules | `(tactic| walk_at "dp") => `(tactic| first | (with_reducible exact dp_int _) | (with_reducible exact qv _) | (with_reducible exact dp_bool _) | (with_reducible exact dp_none) | ((with_reducible refine' dp_ints ?x); (case x => walk_at "sql")) | ((with_reducible refine' rW ?x ?y); (case x => walk_at "sql"); (case y => walk_at "dps")) | ((with_reducible refine' pP ?x ?y); (case x => walk_at "sqt"); (case y => walk_at "dps")))
local macro_rules | `(tactic| walk_at "dps") => `(tactic| first | (with_reducible exact oO) | ((with_reducible refine' gP ?x ?y); (case x => walk_at "dp"); (case y => walk_at "dps")))
local macro_rules | `(tactic| walk_at "shaped") => `(tactic| first | exact shaped_ints _ | (unfold shaped; simp [PyData.canLay0, PyData.canLayAll0, ir, PyData.depth, PyData.depthAll, i8]))
local macro_rules | `(tactic| walk_at "eqd") => `(tactic| first
 | ((with_reducible refine' pE ?d ?x ?y ?s ?_);(case x=>walk_at "dp");(case y=>walk_at "dp");(case s=>walk_at "shaped"))
 | ((with_reducible refine' zA ?d ?x ?y ?s ?_);(case x=>walk_at "dp");(case y=>walk_at "dp");(case s=>walk_at "shaped")))
local macro_rules | `(tactic| walk_at "r3") => `(tactic| first
 | (with_reducible refine BH (fun _ _=>?_))
 | ((with_reducible refine' Bz ?x ?_);(case x=>walk_at "small"))
 | ((with_reducible refine' Mr ?x ?y ?_);(case x=>walk_at "tt");(case y=>walk_at "tt"))
 | ((with_reducible refine' r_62b ?x ?y ?z ?u ?_);(case x=>walk_at "tt");(case y=>walk_at "tt");(case z=>walk_at "tt");(case u=>walk_at "tt"))
 | ((with_reducible refine' Jj ?x ?_);(case x=>walk_at "sql"))
 | ((with_reducible refine' r_itT ?x ?_);(case x=>walk_at "sqt"))
 | ((with_reducible refine' GY ?x ?_);(case x=>walk_at "sql"))
 | ((with_reducible refine' yw ?x ?_);(case x=>walk_at "sql"))
 | ((with_reducible refine' r_timesZ ?x ?y ?z ?_);(case x=>walk_at "hlk");(case y=>walk_at "tt");(case z=>walk_at "tt"))
 | ((with_reducible refine' r_plusII ?x ?y ?z ?_);(case x=>walk_at "hlk");(case y=>walk_at "hlk");(case z=>walk_at "small"))
 | ((with_reducible refine' Fy ?x ?_);(case x=>walk_at "hlk"))
 | ((with_reducible refine' wD ?h ?_);(case h=>walk_at "cmul"))
 | ((with_reducible refine' r_sum ?h ?_);(case h=>walk_at "sql"))
 | ((with_reducible refine' r_inT ?h ?x ?y ?_);(case h=>walk_at "sqt");(case x=>rfl);(case y=>rfl))
 | ((with_reducible refine' r_clear ?x ?_);(case x=>walk_at "hlk"))
 | ((with_reducible refine' xC ?x ?y ?_);(case x=>walk_at "hlk");(case y=>walk_at "small"))
 | ((with_reducible refine' KL ?c ?t ?e ?_);(case c=>exact fun z=>nomatch z);(case t=>walk_at "ty");(case e=>walk_at "kit")))
local macro_rules | `(tactic| walk_at "rd") => `(tactic| repeat (first | walk_at "r1" | walk_at "r3" | walk_at "r2" | walk_at "cond" | walk_at "calls" | walk_at "mine"))
local macro_rules | `(tactic| walk_at "rds") => `(tactic| repeat' (first | walk_at "r1" | walk_at "r3" | walk_at "r2" | walk_at "cond" | walk_at "calls" | walk_at "mine" | walk_at "cs"))
local macro_rules | `(tactic| walk_at "sp") => `(tactic| (repeat' split) <;> first | assumption | rfl | (exfalso; omega))
local macro_rules | `(tactic| walk_at "rok") => `(tactic| first | assumption | exact ⟨by omega, by omega⟩)
local macro_rules | `(tactic| walk_at "cmul") => `(tactic| first | exact Or.inl ⟨by decide, by decide⟩ | exact Or.inr ⟨by decide, by decide⟩ | exact Or.inl ⟨by omega, by omega⟩ | exact Or.inr ⟨by omega, by omega⟩)
set_option hygiene false
local macro_rules | `(tactic| walk_at "cs") => `(tactic| with_reducible first | refine gS (fun hh => ?_) (fun hh => ?_) | refine lY (fun hh => ?_) (fun hh => ?_) | refine eW (fun hh => ?_) (fun hh => ?_) | refine mG (fun hh => ?_) (fun hh => ?_) | (refine' r_ixDi ?h (fun hh => ?_) (fun hh => ?_); (case h => walk_at "sql")) | (refine' r_ixD ?h (fun hh => ?_) (fun hh => ?_); (case h => walk_at "sql")))
local macro_rules | `(tactic| walk_at "tf") => `(tactic| (show Q _ _; refine' q _ _ _ _ ?zs ?NG ?NT ?NN ?NM ?NB ?Ny ?zt ?zb ?zp; (case zt => walk_at "hlk"); (case zb => walk_at "hlk"); (case zp => walk_at "hlk"); (case zs => walk_at "same"); (case NG => walk_at "none"); (case NT => walk_at "none"); (case NN => walk_at "none"); (case NM => walk_at "ne"); (case NB => walk_at "ne"); (case Ny => walk_at "ne")))
local macro_rules | `(tactic| walk_at "cls") => `(tactic| first | assumption | exact T.oa | exact T.mZ | exact T.jU | exact T.nG | exact T.oE | exact T.nH | exact T.j3 | exact T.pK | exact T.m7 | exact T.p7 | exact T.ri | exact T.nu | exact T.qi | exact T.qO | exact T.qw)
local macro_rules | `(tactic| walk_at "noat") => `(tactic| first | assumption | exact T.eZ | exact T.ez | exact T.c9 | exact T.c8 | exact T.c7 | exact T.e_ | exact T.dI | exact T.cD | exact T.fC | exact T.dN | exact T.fb | exact T.e8 | exact T.fQ | exact T.eY | exact T.fB | exact T.eX | exact T.fc | exact T.fe | exact T.dJ | exact T.fP | exact T.fL | exact T.eA | exact T.fE | exact T.fH | exact T.eu | exact T.fG | exact T.fF | exact T.el)
local macro_rules | `(tactic| walk_at "kit") => `(tactic| first | assumption | exact T.fJ | exact T.cT | exact T.fK | exact T.fg | exact T.eo)
set_option hygiene true
def top (i:Nat):Stmt:=PySem.Challenge.pw_frameback_k10_code_texts_refused.main.body.getD i (.Pass ⟨0,0,0,0⟩)
abbrev eT:Stmt:=top 11
theorem tI:aA ["number","top"] ["number","top"] (af eT):=⟨rfl,rfl,rfl,by decide +kernel,rfl,by decide +kernel,by decide +kernel⟩
abbrev dg:Stmt:=top 15
theorem rY:aA ["word"] ["word"] (af dg):=⟨rfl,rfl,rfl,by decide +kernel,rfl,by decide +kernel,by decide +kernel⟩
abbrev cH:Stmt:=top 16
theorem oi:aA ["word"] ["word"] (af cH):=⟨rfl,rfl,rfl,by decide +kernel,rfl,by decide +kernel,by decide +kernel⟩
abbrev dP:Stmt:=inClass (top 19) 0
theorem sr:aA ["self","box","number"] ["self","box","number"] (af dP):=⟨rfl,rfl,rfl,by decide +kernel,rfl,by decide +kernel,by decide +kernel⟩
abbrev d0:Stmt:=inClass (top 19) 3
theorem sL:aA ["self"] ["self"] (af d0):=⟨rfl,rfl,rfl,by decide +kernel,rfl,by decide +kernel,by decide +kernel⟩
abbrev dB:Stmt:=inClass (top 20) 0
theorem rj:aA ["self","box","one"] ["self","box","one"] (af dB):=⟨rfl,rfl,rfl,by decide +kernel,rfl,by decide +kernel,by decide +kernel⟩
abbrev dw:Stmt:=inClass (top 20) 3
theorem qz:aA ["self"] ["self"] (af dw):=⟨rfl,rfl,rfl,by decide +kernel,rfl,by decide +kernel,by decide +kernel⟩
abbrev av:Stmt:=inClass (top 21) 0
theorem dE:aA ["self","box","one","other"] ["self","box","one","other"] (af av):=⟨rfl,rfl,rfl,by decide +kernel,rfl,by decide +kernel,by decide +kernel⟩
abbrev d_:Stmt:=inClass (top 22) 1
theorem sq:aA ["self"] ["self"] (af d_):=⟨rfl,rfl,rfl,by decide +kernel,rfl,by decide +kernel,by decide +kernel⟩
abbrev d6:Stmt:=inClass (top 23) 1
theorem sh:aA ["self"] ["self"] (af d6):=⟨rfl,rfl,rfl,by decide +kernel,rfl,by decide +kernel,by decide +kernel⟩
abbrev dQ:Stmt:=inClass (top 24) 1
theorem se:aA ["self"] ["self"] (af dQ):=⟨rfl,rfl,rfl,by decide +kernel,rfl,by decide +kernel,by decide +kernel⟩
abbrev dh:Stmt:=inClass (top 25) 1
theorem rE:aA ["self"] ["self"] (af dh):=⟨rfl,rfl,rfl,by decide +kernel,rfl,by decide +kernel,by decide +kernel⟩
abbrev dq:Stmt:=inClass (top 26) 0
theorem qf:aA ["self","many"] ["self","many"] (af dq):=⟨rfl,rfl,rfl,by decide +kernel,rfl,by decide +kernel,by decide +kernel⟩
abbrev dz:Stmt:=inClass (top 26) 3
theorem qH:aA ["self"] ["self"] (af dz):=⟨rfl,rfl,rfl,by decide +kernel,rfl,by decide +kernel,by decide +kernel⟩
abbrev cF:Stmt:=inClass (top 27) 0
theorem mX:aA ["self","many"] ["self","many"] (af cF):=⟨rfl,rfl,rfl,by decide +kernel,rfl,by decide +kernel,by decide +kernel⟩
abbrev cJ:Stmt:=inClass (top 27) 4
theorem og:aA ["self"] ["self"] (af cJ):=⟨rfl,rfl,rfl,by decide +kernel,rfl,by decide +kernel,by decide +kernel⟩
abbrev aZ:Stmt:=inClass (top 28) 0
theorem g_:aA ["self","box","cell"] ["self","box","cell"] (af aZ):=⟨rfl,rfl,rfl,by decide +kernel,rfl,by decide +kernel,by decide +kernel⟩
abbrev dU:Stmt:=inClass (top 29) 2
theorem sE:aA ["self"] ["self"] (af dU):=⟨rfl,rfl,rfl,by decide +kernel,rfl,by decide +kernel,by decide +kernel⟩
abbrev dX:Stmt:=inClass (top 30) 2
theorem sH:aA ["self"] ["self"] (af dX):=⟨rfl,rfl,rfl,by decide +kernel,rfl,by decide +kernel,by decide +kernel⟩
abbrev dA:Stmt:=inClass (top 32) 0
theorem qc:aA ["self","target"] ["self","target"] (af dA):=⟨rfl,rfl,rfl,by decide +kernel,rfl,by decide +kernel,by decide +kernel⟩
abbrev dm:Stmt:=inClass (top 32) 3
theorem pW:aA ["self"] ["self"] (af dm):=⟨rfl,rfl,rfl,by decide +kernel,rfl,by decide +kernel,by decide +kernel⟩
abbrev cG:Stmt:=inClass (top 33) 0
theorem om:aA ["self","box","target"] ["self","box","target"] (af cG):=⟨rfl,rfl,rfl,by decide +kernel,rfl,by decide +kernel,by decide +kernel⟩
abbrev cK:Stmt:=inClass (top 33) 3
theorem mU:aA ["self"] ["self"] (af cK):=⟨rfl,rfl,rfl,by decide +kernel,rfl,by decide +kernel,by decide +kernel⟩
abbrev dj:Stmt:=inClass (top 34) 0
theorem r6:aA ["self","target"] ["self","target"] (af dj):=⟨rfl,rfl,rfl,by decide +kernel,rfl,by decide +kernel,by decide +kernel⟩
abbrev dk:Stmt:=inClass (top 34) 3
theorem qr:aA ["self"] ["self"] (af dk):=⟨rfl,rfl,rfl,by decide +kernel,rfl,by decide +kernel,by decide +kernel⟩
abbrev dC:Stmt:=inClass (top 35) 0
theorem rV:aA ["self","box"] ["self","box"] (af dC):=⟨rfl,rfl,rfl,by decide +kernel,rfl,by decide +kernel,by decide +kernel⟩
abbrev dt:Stmt:=inClass (top 35) 3
theorem qA:aA ["self"] ["self"] (af dt):=⟨rfl,rfl,rfl,by decide +kernel,rfl,by decide +kernel,by decide +kernel⟩
abbrev dn:Stmt:=inClass (top 36) 0
theorem qZ:aA ["self","box"] ["self","box"] (af dn):=⟨rfl,rfl,rfl,by decide +kernel,rfl,by decide +kernel,by decide +kernel⟩
abbrev di:Stmt:=inClass (top 36) 3
theorem rm:aA ["self"] ["self"] (af di):=⟨rfl,rfl,rfl,by decide +kernel,rfl,by decide +kernel,by decide +kernel⟩
abbrev cL:Stmt:=top 39
theorem nY:aA ["word","number"] ["word","number"] (af cL):=⟨rfl,rfl,rfl,by decide +kernel,rfl,by decide +kernel,by decide +kernel⟩
abbrev cM:Stmt:=top 40
theorem oz:aA ["word","first","second"] ["word","first","second"] (af cM):=⟨rfl,rfl,rfl,by decide +kernel,rfl,by decide +kernel,by decide +kernel⟩
abbrev b9:Stmt:=top 41
theorem lh:aA ["word","first","second","third"] ["word","first","second","third"] (af b9):=⟨rfl,rfl,rfl,by decide +kernel,rfl,by decide +kernel,by decide +kernel⟩
abbrev b5:Stmt:=top 42
theorem ku:aA ["text"] ["text"] (af b5):=⟨rfl,rfl,rfl,by decide +kernel,rfl,by decide +kernel,by decide +kernel⟩
abbrev d7:Stmt:=top 43
theorem gq:aA ["text","words","word","numbers"] ["text"] (af d7):=⟨rfl,rfl,rfl,by decide +kernel,rfl,by decide +kernel,by decide +kernel⟩
abbrev dD:Stmt:=top 44
theorem jz:aA ["text","lines"] ["text"] (af dD):=⟨rfl,rfl,rfl,by decide +kernel,rfl,by decide +kernel,by decide +kernel⟩
abbrev cE:Stmt:=top 46
theorem nK:aA ["_law_script","_law_k"] ["_law_script","_law_k"] (af cE):=⟨rfl,rfl,rfl,by decide +kernel,rfl,by decide +kernel,by decide +kernel⟩
abbrev dW:Stmt:=top 47
theorem il:aA ["_law_word","_law_some","_law_more"] ["_law_word"] (af dW):=⟨rfl,rfl,rfl,by decide +kernel,rfl,by decide +kernel,by decide +kernel⟩
abbrev eQ:Stmt:=top 48
theorem bE:aA ["_law_cell","_law_words","_law_word","_law_most_here","_law_parts","_law_k","_law_top","_law_far","_law_some","_law_odd","_law_sign"] ["_law_cell"] (af eQ):=⟨rfl,rfl,rfl,by decide +kernel,rfl,by decide +kernel,by decide +kernel⟩
abbrev dY:Stmt:=top 49
theorem eh:aA ["_law_cell","_law_signs","_law_text","_law_rest","_law_k"] ["_law_cell","_law_signs"] (af dY):=⟨rfl,rfl,rfl,by decide +kernel,rfl,by decide +kernel,by decide +kernel⟩
abbrev cI:Stmt:=top 50
theorem dM:aA ["_law_text","_law_cell","_law_way","_law_at"] ["_law_text","_law_cell"] (af cI):=⟨rfl,rfl,rfl,by decide +kernel,rfl,by decide +kernel,by decide +kernel⟩
abbrev cZ:Stmt:=top 51
theorem pq:aA ["_law_word"] ["_law_word"] (af cZ):=⟨rfl,rfl,rfl,by decide +kernel,rfl,by decide +kernel,by decide +kernel⟩
abbrev c0:Stmt:=top 52
theorem fo:aA ["_law_line","_law_words","_law_most_here","_law_numbers"] ["_law_line"] (af c0):=⟨rfl,rfl,rfl,by decide +kernel,rfl,by decide +kernel,by decide +kernel⟩
abbrev eP:Stmt:=top 53
theorem gR:aA ["_law_text","_law_lines","_law_found","_law_one"] ["_law_text"] (af eP):=⟨rfl,rfl,rfl,by decide +kernel,rfl,by decide +kernel,by decide +kernel⟩
abbrev d9:Stmt:=top 54
theorem bT:aA ["_law_alone","_law_text","_law_found","_law_word","_law_plain","e"] ["_law_alone","_law_text"] (af d9):=⟨rfl,rfl,rfl,by decide +kernel,rfl,by decide +kernel,by decide +kernel⟩
abbrev fX:Stmt:=top 55
theorem ju:aA ["_law_script","_law_text","_law_line"] ["_law_script"] (af fX):=⟨rfl,rfl,rfl,by decide +kernel,rfl,by decide +kernel,by decide +kernel⟩
structure Txt (w : World) (K : PySem.W.Frag) (mg : Str → Option Value) (a : aP) : Prop where
 ij:mg "all" = none
 iW:mg "int" = none
 bt:mg "isinstance" = none
 cf:mg "len" = none
 gc:mg "range" = none
 gk:mg "str" = none
 gU:mg "tuple" = none
 j9:mg "zip" = none
 lj:mg "COUNTS" = some (.ref a.dZ)
 i9:hU w K a.dZ [("set",2),("copy",2),("add",3),("sub",3),("mul",3),("less",3),("grow",1),("shrink",1),("put",2),("get",2),("jump",1),("branch",2),("call",1),("back",1),("drop",1)]
 fO:∃ t,mg "FIGURES" = some (Value.str "0123456789" t)
 cQ:∃ t,mg "MOST_FIGURES" = some (Value.int 10 t)
 aS:∃ t,mg "TOP_BOX" = some (Value.int 7 t)
 cq:∃ t,mg "TOP_CELLS" = some (Value.int 4000 t)
 dR:∃ t,mg "TOP_ROWS" = some (Value.int 2000 t)
 cz:∃ t,mg "TOP_TARGET" = some (Value.int 2000 t)
 er:∃ t,mg "TOP_VALUE" = some (Value.int 4294967295 t)
 kl:mg "Add" = some (.ref a.bP)
 iP:mg "Back" = some (.ref a.bL)
 gg:mg "Branch" = some (.ref a.a6)
 iM:mg "Call" = some (.ref a.bK)
 ix:mg "Copy" = some (.ref a.bC)
 iu:mg "Drop" = some (.ref a.bM)
 cx:mg "FrameError" = some (.ref a.aR)
 kg:mg "Get" = some (.ref a.bX)
 iD:mg "Grow" = some (.ref a.bJ)
 iE:mg "Jump" = some (.ref a.bI)
 iF:mg "Less" = some (.ref a.bw)
 j_:mg "Mul" = some (.ref a.bN)
 gi:mg "NoRow" = some (.ref a.aW)
 fu:mg "NoText" = some (.ref a.aV)
 ko:mg "Put" = some (.ref a.bU)
 kh:mg "Set" = some (.ref a.bV)
 f_:mg "Shrink" = some (.ref a.bh)
 kb:mg "Sub" = some (.ref a.bO)
 oa:de K a.bM
 eZ:aT K a.bM "box"
 vZ:∃ f fd,be K "__init__" "Drop.__init__" dn f fd∧Mk K a.bM f∧Binds K fd ["self","box"] []
 kQ:∃ f fd,be K "told" "Drop.told" di f fd∧eB K a.bM "told" f∧Binds K fd ["self"] []
 mZ:de K a.bJ
 ez:aT K a.bJ "many"
 vk:∃ f fd,be K "__init__" "Grow.__init__" dq f fd∧Mk K a.bJ f∧Binds K fd ["self","many"] []
 kI:∃ f fd,be K "told" "Grow.told" dz f fd∧eB K a.bJ "told" f∧Binds K fd ["self"] []
 jU:de K a.bh
 c9:aT K a.bh "many"
 qM:∃ f fd,be K "__init__" "Shrink.__init__" cF f fd∧Mk K a.bh f∧Binds K fd ["self","many"] []
 je:∃ f fd,be K "told" "Shrink.told" cJ f fd∧eB K a.bh "told" f∧Binds K fd ["self"] []
 nG:de K a.bI
 c8:aT K a.bI "target"
 vc:∃ f fd,be K "__init__" "Jump.__init__" dA f fd∧Mk K a.bI f∧Binds K fd ["self","target"] []
 kO:∃ f fd,be K "told" "Jump.told" dm f fd∧eB K a.bI "told" f∧Binds K fd ["self"] []
 oE:de K a.bK
 c7:aT K a.bK "target"
 vW:∃ f fd,be K "__init__" "Call.__init__" dj f fd∧Mk K a.bK f∧Binds K fd ["self","target"] []
 kH:∃ f fd,be K "told" "Call.told" dk f fd∧eB K a.bK "told" f∧Binds K fd ["self"] []
 nH:de K a.bL
 e_:aT K a.bL "box"
 vv:∃ f fd,be K "__init__" "Back.__init__" dC f fd∧Mk K a.bL f∧Binds K fd ["self","box"] []
 kS:∃ f fd,be K "told" "Back.told" dt f fd∧eB K a.bL "told" f∧Binds K fd ["self"] []
 j3:de K a.a6
 dI:aT K a.a6 "box"
 cD:aT K a.a6 "target"
 rG:∃ f fd,be K "__init__" "Branch.__init__" cG f fd∧Mk K a.a6 f∧Binds K fd ["self","box","target"] []
 jd:∃ f fd,be K "told" "Branch.told" cK f fd∧eB K a.a6 "told" f∧Binds K fd ["self"] []
 pK:de K a.bV
 fC:aT K a.bV "box"
 dN:aT K a.bV "number"
 xS:∃ f fd,be K "__init__" "Set.__init__" dP f fd∧Mk K a.bV f∧Binds K fd ["self","box","number"] []
 ml:∃ f fd,be K "told" "Set.told" d0 f fd∧eB K a.bV "told" f∧Binds K fd ["self"] []
 m7:de K a.bC
 fb:aT K a.bC "box"
 e8:aT K a.bC "one"
 vb:∃ f fd,be K "__init__" "Copy.__init__" dB f fd∧Mk K a.bC f∧Binds K fd ["self","box","one"] []
 kY:∃ f fd,be K "told" "Copy.told" dw f fd∧eB K a.bC "told" f∧Binds K fd ["self"] []
 p7:de K a.bU
 fQ:aT K a.bU "box"
 eY:aT K a.bU "cell"
 zK:∃ f fd,be K "__init__" "Reaching.__init__" aZ f fd∧Mk K a.bU f∧Binds K fd ["self","box","cell"] []
 mH:∃ f fd,be K "told" "Put.told" dU f fd∧eB K a.bU "told" f∧Binds K fd ["self"] []
 ri:de K a.bX
 fB:aT K a.bX "box"
 eX:aT K a.bX "cell"
 zS:∃ f fd,be K "__init__" "Reaching.__init__" aZ f fd∧Mk K a.bX f∧Binds K fd ["self","box","cell"] []
 mR:∃ f fd,be K "told" "Get.told" dX f fd∧eB K a.bX "told" f∧Binds K fd ["self"] []
 nu:de K a.bw
 fc:aT K a.bw "box"
 fe:aT K a.bw "one"
 dJ:aT K a.bw "other"
 vp:∃ f fd,be K "__init__" "Reckoning.__init__" av f fd∧Mk K a.bw f∧Binds K fd ["self","box","one","other"] []
 k6:∃ f fd,be K "told" "Less.told" dh f fd∧eB K a.bw "told" f∧Binds K fd ["self"] []
 qi:de K a.bP
 fP:aT K a.bP "box"
 fL:aT K a.bP "one"
 eA:aT K a.bP "other"
 yC:∃ f fd,be K "__init__" "Reckoning.__init__" av f fd∧Mk K a.bP f∧Binds K fd ["self","box","one","other"] []
 mv:∃ f fd,be K "told" "Add.told" d_ f fd∧eB K a.bP "told" f∧Binds K fd ["self"] []
 qO:de K a.bO
 fE:aT K a.bO "box"
 fH:aT K a.bO "one"
 eu:aT K a.bO "other"
 xV:∃ f fd,be K "__init__" "Reckoning.__init__" av f fd∧Mk K a.bO f∧Binds K fd ["self","box","one","other"] []
 mO:∃ f fd,be K "told" "Sub.told" d6 f fd∧eB K a.bO "told" f∧Binds K fd ["self"] []
 qw:de K a.bN
 fG:aT K a.bN "box"
 fF:aT K a.bN "one"
 el:aT K a.bN "other"
 zz:∃ f fd,be K "__init__" "Reckoning.__init__" av f fd∧Mk K a.bN f∧Binds K fd ["self","box","one","other"] []
 mM:∃ f fd,be K "told" "Mul.told" dQ f fd∧eB K a.bN "told" f∧Binds K fd ["self"] []
 q_:ja K mg "FrameError" a.aR
 pw:g4 K a.aR
 n9:ja K mg "NoRow" a.aW
 lD:g4 K a.aW
 fw:ja K mg "NoText" a.aV
 jq:g4 K a.aV
 cB:PySem.W.mroIn K a.aW (.ref a.aV) = some false
 ba:PySem.W.kitOne K (.ref a.aV) (.ref a.aR) = some true
 bF:PySem.W.kitOne K (.ref a.aV) (.ref a.aW) = some false
 bD:PySem.W.kitOne K (.ref a.aW) (.ref a.aR) = some true
 b_:PySem.W.kitOne K (.ref a.aW) (.ref a.aV) = some false
 fJ:PySem.W.kitOne K (.type "str") (.type "str") = some true
 cT:PySem.W.kitOne K (.type "NoneType") (.type "str") = some false
 fK:PySem.W.kitOne K (.type "int") (.type "str") = some false
 fg:PySem.W.kitOne K (.type "list") (.type "str") = some false
 eo:PySem.W.kitOne K (.type "tuple") (.type "str") = some false
 lZ:∃ f fd,be K "bounded" "bounded" eT f fd∧mg "bounded" = some (.ref f)∧Binds K fd ["number","top"] []
 jk:∃ f fd,be K "is_number" "is_number" dg f fd∧mg "is_number" = some (.ref f)∧Binds K fd ["word"] []
 iQ:∃ f fd,be K "read_number" "read_number" cH f fd∧mg "read_number" = some (.ref f)∧Binds K fd ["word"] []
 iS:∃ f fd,be K "made_of_one" "made_of_one" cL f fd∧mg "made_of_one" = some (.ref f)∧Binds K fd ["word","number"] []
 iV:∃ f fd,be K "made_of_two" "made_of_two" cM f fd∧mg "made_of_two" = some (.ref f)∧Binds K fd ["word","first","second"] []
 h_:∃ f fd,be K "made_of_three" "made_of_three" b9 f fd∧mg "made_of_three" = some (.ref f)∧Binds K fd ["word","first","second","third"] []
 gN:∃ f fd,be K "asked_for_text" "asked_for_text" b5 f fd∧mg "asked_for_text" = some (.ref f)∧Binds K fd ["text"] []
 kM:∃ f fd,be K "read_row" "read_row" d7 f fd∧mg "read_row" = some (.ref f)∧Binds K fd ["text"] []
 jP:∃ f fd,be K "read_code" "read_code" dD f fd∧mg "read_code" = some (.ref f)∧Binds K fd ["text"] []
 iH:∃ f fd,be K "_law_cell_at" "_law_cell_at" cE f fd∧mg "_law_cell_at" = some (.ref f)∧Binds K fd ["_law_script","_law_k"] []
 k8:∃ f fd,be K "_law_most" "_law_most" dW f fd∧mg "_law_most" = some (.ref f)∧Binds K fd ["_law_word"] []
 lV:∃ f fd,be K "_law_row" "_law_row" eQ f fd∧mg "_law_row" = some (.ref f)∧Binds K fd ["_law_cell"] []
 kD:∃ f fd,be K "_law_free" "_law_free" dY f fd∧mg "_law_free" = some (.ref f)∧Binds K fd ["_law_cell","_law_signs"] []
 iB:∃ f fd,be K "_law_changed" "_law_changed" cI f fd∧mg "_law_changed" = some (.ref f)∧Binds K fd ["_law_text","_law_cell"] []
 jg:∃ f fd,be K "_law_number" "_law_number" cZ f fd∧mg "_law_number" = some (.ref f)∧Binds K fd ["_law_word"] []
 jf:∃ f fd,be K "_law_due_of" "_law_due_of" c0 f fd∧mg "_law_due_of" = some (.ref f)∧Binds K fd ["_law_line"] []
 lU:∃ f fd,be K "_law_due" "_law_due" eP f fd∧mg "_law_due" = some (.ref f)∧Binds K fd ["_law_text"] []
 kE:∃ f fd,be K "_law_told" "_law_told" d9 f fd∧mg "_law_told" = some (.ref f)∧Binds K fd ["_law_alone","_law_text"] []
 Dw:∃ f fd,be K "law" "law" fX f fd∧mg "law" = some (.ref f)∧Binds K fd ["_law_script"] []
def mI (a:aP):Sp:=fun vs H Q E=>∃ n top:Int,vs = [.int n,.int top]∧0 ≤ top∧top ≤ 4294967295∧(0 ≤ n∧n ≤ top→Q (.int n) H)∧(¬ (0 ≤ n∧n ≤ top)→E (.ref a.aW) none H)
def zV (a:aP) (H:Hp) (x dx C:Addr) (r:Rw) (Q:VK) (E:XK):Prop:=H x = some (.ins C dx [])∧(r.ok→∀ H',(∀ b o,H b = some o→b ≠ x→H' b = some o)→H' x = some (.ins C dx r.wy)→Q .aO H')∧(¬ r.ok→∀ H',(∀ b o,H b = some o→b ≠ x→H' b = some o)→E (.ref a.aW) none H')
def cS (a:aP) (C:Addr) (mk:Int→Rw):Sp:=fun vs H Q E=>∃ (x dx:Addr) (i:Int),vs = [.ref x,.int i]∧zV a H x dx C (mk i) Q E
def dF (a:aP) (C:Addr) (mk:Int→Int→Rw):Sp:=fun vs H Q E=>∃ (x dx:Addr) (i j:Int),vs = [.ref x,.int i,.int j]∧zV a H x dx C (mk i j) Q E
def ff (a:aP) (C:Addr) (mk:Int→Int→Int→Rw):Sp:=fun vs H Q E=>∃ (x dx:Addr) (i j k:Int),vs = [.ref x,.int i,.int j,.int k]∧zV a H x dx C (mk i j k) Q E
theorem lA {C : Addr} {a : aP} {r : Rw} {H : Hp} {Q : VK} {E : XK} (hc : r.cls a = C) (q : r.ok → ∀ p H', aq H H' → H p = none → e7 a H' p r → Q (.ref p) H') (e : ¬ r.ok → ∀ H', aq H H' → E (.ref a.aW) none H') {x dx : Addr} (hx : H x = none) (hdx : H dx = none) :
   zV a (upd (upd H dx (.own x)) x (.ins C dx [])) x dx C r (fun v H2=>v = .aO∧Q (.ref x) H2) E:=by
 have kk : ∀ H', (∀ b o, upd (upd H dx (.own x)) x (.ins C dx []) b = some o → b ≠ x → H' b = some o) → aq H H' := fun H' kp b o z =>
   kp b o (by rw [aB (aD z hx),aB (aD z hdx)];exact z) (aD z hx)
 exact ⟨ak,fun ok H' kp hH'=>⟨rfl,q ok x H' (kk H' kp) hx ⟨dx,by rw [hc];exact hH'⟩⟩,fun no H' kp=>e no H' (kk H' kp)⟩
theorem gW {C : Addr} {mk : Int → Rw} {a : aP} {i : Int} {H : Hp} {Q : VK} {E : XK} (hc : (mk i).cls a = C) (q : (mk i).ok → ∀ p H', aq H H' → H p = none → e7 a H' p (mk i) → Q (.ref p) H') (e : ¬ (mk i).ok → ∀ H', aq H H' → E (.ref a.aW) none H') :
   ∀ x dx,H x = none→H dx = none→dx ≠ x→cS a C mk (.ref x :: [.int i]) (upd (upd H dx (.own x)) x (.ins C dx [])) (fun v H2=>v = .aO∧Q (.ref x) H2) E:=fun x dx hx hdx _=>⟨x,dx,i,rfl,lA hc q e hx hdx⟩
theorem iJ {C : Addr} {mk : Int → Int → Rw} {a : aP} {i j : Int} {H : Hp} {Q : VK} {E : XK} (hc : (mk i j).cls a = C) (q : (mk i j).ok → ∀ p H', aq H H' → H p = none → e7 a H' p (mk i j) → Q (.ref p) H') (e : ¬ (mk i j).ok → ∀ H', aq H H' → E (.ref a.aW) none H') :
   ∀ x dx,H x = none→H dx = none→dx ≠ x→dF a C mk (.ref x :: [.int i,.int j]) (upd (upd H dx (.own x)) x (.ins C dx [])) (fun v H2=>v = .aO∧Q (.ref x) H2) E:=fun x dx hx hdx _=>⟨x,dx,i,j,rfl,lA hc q e hx hdx⟩
theorem ki {C : Addr} {mk : Int → Int → Int → Rw} {a : aP} {i j k : Int} {H : Hp} {Q : VK} {E : XK} (hc : (mk i j k).cls a = C) (q : (mk i j k).ok → ∀ p H', aq H H' → H p = none → e7 a H' p (mk i j k) → Q (.ref p) H') (e : ¬ (mk i j k).ok → ∀ H', aq H H' → E (.ref a.aW) none H') :
   ∀ x dx,H x = none→H dx = none→dx ≠ x→ff a C mk (.ref x :: [.int i,.int j,.int k]) (upd (upd H dx (.own x)) x (.ins C dx [])) (fun v H2=>v = .aO∧Q (.ref x) H2) E:=fun x dx hx hdx _=>⟨x,dx,i,j,k,rfl,lA hc q e hx hdx⟩
def kinds : List (Str × List Int) := [("set", [7, 4294967295]), ("copy", [7, 7]), ("add", [7, 7, 7]), ("sub", [7, 7, 7]), ("mul", [7, 7, 7]), ("less", [7, 7, 7]), ("grow", [4000]), ("shrink", [4000]), ("put", [7, 4000]), ("get", [7, 4000]),
 ("jump",[2000]),("branch",[7,2000]),("call",[2000]),("back",[7]),("drop",[7])]
def eI (xs ms:List Int):Bool:=((xs.zip ms).map fun x=>decide (0 ≤ x.1) && decide (x.1 ≤ x.2)).all id
theorem w5 (i : Nat) (w : Str) (ms : List Int) (h : kinds[i]? = some (w, ms)) : 1 ≤ ms.length ∧ ms.length ≤ 3 ∧ ∀ m ∈ ms, 0 ≤ m := by
 have hm:(w,ms) ∈ kinds:=List.mem_of_getElem? h
 have hall:∀ k ∈ kinds,1 ≤ k.2.length∧k.2.length ≤ 3∧∀ m ∈ k.2,0 ≤ m:=by decide +kernel
 exact hall _ hm
theorem u4 (i : Nat) (w : Str) (ms xs : List Int) (h : kinds[i]? = some (w, ms)) (hl : xs.length = ms.length) : ∃ r : Rw, r.c5 = (w, xs) ∧ (eI xs ms = true ↔ r.ok) := by
 have len1:∀ l:List Int,l.length = 1→∃ x,l = [x]:=fun l h=>match l,h with | [x],_=>⟨x,rfl⟩
 have len2:∀ l:List Int,l.length = 2→∃ x y,l = [x,y]:=fun l h=>match l,h with | [x,y],_=>⟨x,y,rfl⟩
 have len3:∀ l:List Int,l.length = 3→∃ x y z,l = [x,y,z]:=fun l h=>match l,h with | [x,y,z],_=>⟨x,y,z,rfl⟩
 match i,h with
 | 0,h=>cases h;obtain ⟨x,y,rfl⟩:=len2 xs hl;exact ⟨.set x y,rfl,by simp [eI,Rw.ok,cA,isVal]⟩
 | 1,h=>cases h;obtain ⟨x,y,rfl⟩:=len2 xs hl;exact ⟨.copy x y,rfl,by simp [eI,Rw.ok,cA]⟩
 | 2,h=>cases h;obtain ⟨x,y,z,rfl⟩:=len3 xs hl;exact ⟨.add x y z,rfl,by simp [eI,Rw.ok,cA]⟩
 | 3,h=>cases h;obtain ⟨x,y,z,rfl⟩:=len3 xs hl;exact ⟨.sub x y z,rfl,by simp [eI,Rw.ok,cA]⟩
 | 4,h=>cases h;obtain ⟨x,y,z,rfl⟩:=len3 xs hl;exact ⟨.mul x y z,rfl,by simp [eI,Rw.ok,cA]⟩
 | 5,h=>cases h;obtain ⟨x,y,z,rfl⟩:=len3 xs hl;exact ⟨.less x y z,rfl,by simp [eI,Rw.ok,cA]⟩
 | 6,h=>cases h;obtain ⟨x,rfl⟩:=len1 xs hl;exact ⟨.grow x,rfl,by simp [eI,Rw.ok,iA]⟩
 | 7,h=>cases h;obtain ⟨x,rfl⟩:=len1 xs hl;exact ⟨.shrink x,rfl,by simp [eI,Rw.ok,iA]⟩
 | 8,h=>cases h;obtain ⟨x,y,rfl⟩:=len2 xs hl;exact ⟨.put x y,rfl,by simp [eI,Rw.ok,cA,iA]⟩
 | 9,h=>cases h;obtain ⟨x,y,rfl⟩:=len2 xs hl;exact ⟨.get x y,rfl,by simp [eI,Rw.ok,cA,iA]⟩
 | 10,h=>cases h;obtain ⟨x,rfl⟩:=len1 xs hl;exact ⟨.gD x,rfl,by simp [eI,Rw.ok,mz]⟩
 | 11,h=>cases h;obtain ⟨x,y,rfl⟩:=len2 xs hl;exact ⟨.branch x y,rfl,by simp [eI,Rw.ok,cA,mz]⟩
 | 12,h=>cases h;obtain ⟨x,rfl⟩:=len1 xs hl;exact ⟨.call x,rfl,by simp [eI,Rw.ok,mz]⟩
 | 13,h=>cases h;obtain ⟨x,rfl⟩:=len1 xs hl;exact ⟨.back x,rfl,by simp [eI,Rw.ok,cA]⟩
 | 14,h=>cases h;obtain ⟨x,rfl⟩:=len1 xs hl;exact ⟨.drop x,rfl,by simp [eI,Rw.ok,cA]⟩
 | (n + 15),h=>simp [kinds] at h
theorem vo (x : V) (r : List V) : gB (x :: r) (some 1) none = r := by
 unfold gB
 have e1 : HT.bj (x :: r).length 0 (some 1) = 1 := by
   rw [show HT.bj (x :: r).length 0 (some 1) = min 1 (x :: r).length from HT.AX _ _ 1,List.length_cons];omega
 have e2:HT.bj (x :: r).length (x :: r).length none = (x :: r).length:=rfl
 rw [e1,e2,List.length_cons,List.drop_succ_cons,List.drop_zero,Nat.add_sub_cancel,List.take_length]
def cV (a:aP) (H:Hp) (prs:List Addr) (rs:List Rw):Prop:=prs.length = rs.length∧∀ (i:Nat) (p:Addr) (r:Rw),prs[i]? = some p→rs[i]? = some r→e7 a H p r
theorem cV.to {a : aP} {H H' : Hp} {prs : List Addr} {rs : List Rw} (h : cV a H prs rs) (k : ∀ p ∈ prs, ∀ o, H p = some o → H' p = some o) : cV a H' prs rs :=
 ⟨h.1,fun i p r e1 e2=>let ⟨dx,e⟩:=h.2 i p r e1 e2;⟨dx,k p (List.mem_of_getElem? e1) _ e⟩⟩
theorem cV.same {a:aP} {H H':Hp} {prs:List Addr} {rs:List Rw} (h:cV a H prs rs) (s:aq H H'):cV a H' prs rs:=h.to fun _ _ _ e=>s _ _ e
theorem cV.nil {a:aP} {H:Hp}:cV a H [] []:=⟨rfl,fun i p r e=>by simp at e⟩
theorem cV.snoc {a : aP} {H : Hp} {prs : List Addr} {rs : List Rw} {p : Addr} {r : Rw} (h : cV a H prs rs) (q : e7 a H p r) : cV a H (prs ++ [p]) (rs ++ [r]) := by
 refine ⟨by rw [List.length_append,List.length_append,h.1];rfl,fun i p' r' e1 e2=>?_⟩
 by_cases hi:i < rs.length
 · rw [List.getElem?_append_left (by rw [h.1]; exact hi)] at e1
   rw [List.getElem?_append_left hi] at e2
   exact h.2 i p' r' e1 e2
 · have hi' : i = rs.length := by
     have:=(List.getElem?_eq_some_iff.mp e2).1
     rw [List.length_append] at this
     simp at this;omega
   subst hi'
   rw [List.getElem?_append_right (by omega)] at e2
   rw [List.getElem?_append_right (by rw [h.1];omega),h.1] at e1
   simp at e1 e2
   subst e1 e2
   exact q
section
open PySem.Builtin PySem.Builtin.Str
theorem Hc {K:PySem.W.Frag} {x:Str} {H:Hp} {R:Prop} (q:R):ro K "str" (.str x) H∧R:=⟨rfl,q⟩
theorem sub_len (x : Str) (a b : Nat) : (strSub x a b).length ≤ x.length := by
 show (x.cps.extract a b).size ≤ x.cps.size
 rw [Array.size_extract];omega
theorem oI (x : Str) (w : Nat) : ∀ (cuts : List Nat) (a : Nat), ∀ p ∈ PySem.StrLaws.partsFrom x w a cuts, p.length ≤ x.length
 | [],a,p,h=>by rw [List.mem_singleton.mp h];exact sub_len ..
 | c :: r, a, p, h => by
   rcases List.mem_cons.mp h with rfl | h
   · exact sub_len ..
   · exact oI x w r _ p h
theorem split_len (x y : Str) : 1 ≤ (Txt.split x y).length ∧ (Txt.split x y).length ≤ x.length + 2 := by
 unfold Txt.split
 split
 · exact ⟨Nat.le_refl _,by show 1 ≤ _;omega⟩
 · split
   · exact ⟨Nat.le_refl _,by show 1 ≤ _;omega⟩
   · rw [length_partsBetween]
     have:=StrLaws.occ_length_le x y 0 x.length (x.length + 1)
     omega
theorem fW {x y p : Str} (h : p ∈ Txt.split x y) : p.length ≤ x.length := by
 unfold Txt.split at h
 split at h
 · rw [List.mem_singleton.mp h];exact Nat.le_refl _
 · split at h
   · rw [List.mem_singleton.mp h];exact Nat.le_refl _
   · rw [PySem.StrLaws.partsBetween_eq] at h
     exact oI _ _ _ _ p h
theorem mD (x y:Str):∃ w ps,Txt.split x y = w :: ps:=List.exists_cons_of_length_pos (split_len x y).1
def fi:List Nat:=[48,49,50,51,52,53,54,55,56,57]
theorem wm {c : Nat} : c ∈ fi ↔ 48 ≤ c ∧ c ≤ 57 := by
 unfold fi
 simp only [List.mem_cons,List.not_mem_nil,or_false]
 omega
def ck (x:Str):Bool:=decide (1 ≤ x.cps.toList.length) && decide (x.cps.toList.length ≤ 10) && !(x.cps.toList.head? == some 48 && decide (1 < x.cps.toList.length)) && x.cps.toList.all fun c=>decide (c ∈ fi)
def bS (x:Str):Option Int:=if ck x = true then some ((NumText.digitsVal x.cps.toList:Nat):Int) else none
theorem mr {x : Str} (h : ck x = true) : PySem.intText? x = some ((NumText.digitsVal x.cps.toList : Nat) : Int) ∧ x.length ≤ 10 := by
 unfold ck at h
 simp only [Bool.and_eq_true,decide_eq_true_eq,List.all_eq_true] at h
 obtain ⟨⟨⟨h1,h2⟩,_⟩,h4⟩:=h
 have hl:x.length ≤ 10:=h2
 exact ⟨PySem.intText_digits (fun c hc=>wm.mp (h4 c hc)) (fun z=>by rw [z] at h1;exact absurd h1 (by decide)) (by omega),hl⟩
def bq : List Str → Option (List Int)
 | []=>some []
 | p :: r => match bS p, bq r with
   | some n,some ns=>some (n :: ns)
   | _,_=>none
theorem fY : ∀ {ps : List Str} {ns : List Int}, bq ps = some ns → ns.length = ps.length
 | [],ns,h=>by cases h;rfl
 | p :: r, ns, h => by
   unfold bq at h
   cases h1:bS p with
   | none=>rw [h1] at h;cases h
   | some n =>
     cases h2:bq r with
     | none=>rw [h1,h2] at h;cases h
     | some ms =>
       rw [h1,h2] at h;cases h
       rw [List.length_cons,List.length_cons,fY h2]
theorem kJ : ∀ {ps : List Str} {ns : List Int} {p : Str} {n : Int}, bq ps = some ns → bS p = some n → bq (ps ++ [p]) = some (ns ++ [n])
 | [], ns, p, n, h, hp => by
   cases h
   show (match bS p,some ([]:List Int) with | some n,some ns=>some (n :: ns) | _,_=>none) = _
   rw [hp];rfl
 | q :: r, ns, p, n, h, hp => by
   unfold bq at h
   cases h1:bS q with
   | none=>rw [h1] at h;cases h
   | some m =>
     cases h2:bq r with
     | none=>rw [h1,h2] at h;cases h
     | some ms =>
       rw [h1,h2] at h;cases h
       show (match bS q,bq (r ++ [p]) with | some n,some ns=>some (n :: ns) | _,_=>none) = _
       rw [h1,kJ h2 hp];rfl
theorem oM : ∀ {ps : List Str} {p : Str}, p ∈ ps → bS p = none → bq ps = none
 | q :: r, p, hm, hp => by
   unfold bq
   rcases List.mem_cons.mp hm with rfl | hm
   · rw [hp]
   · rw [oM hm hp]
     cases bS q <;> rfl
theorem mh : ∀ {ps : List Str}, bq ps = none → ∃ p ∈ ps, bS p = none
 | [],h=>by cases h
 | q :: r, h => by
   unfold bq at h
   cases h1:bS q with
   | none=>exact ⟨q,List.mem_cons_self ..,h1⟩
   | some m =>
     cases h2:bq r with
     | none=>obtain ⟨p,hp,e⟩:=mh h2;exact ⟨p,List.mem_cons_of_mem _ hp,e⟩
     | some ms=>rw [h1,h2] at h;cases h
inductive Pr where
 | text | row | tell (r:Rw)
def pG (w : Str) (xs : List Int) : Option Rw := match xs with
 | [x]=>if w = "grow" then some (.grow x) else if w = "shrink" then some (.shrink x) else if w = "jump" then some (.gD x) else if w = "call" then some (.call x) else if w = "back" then some (.back x) else if w = "drop" then some (.drop x) else none
 | [x,y]=>if w = "set" then some (.set x y) else if w = "copy" then some (.copy x y) else if w = "put" then some (.put x y) else if w = "get" then some (.get x y) else if w = "branch" then some (.branch x y) else none
 | [x,y,z]=>if w = "add" then some (.add x y z) else if w = "sub" then some (.sub x y z) else if w = "mul" then some (.mul x y z) else if w = "less" then some (.less x y z) else none
 | _=>none
theorem tU (r:Rw):pG r.c5.1 r.c5.2 = some r:=by cases r <;> rfl
def eg (w : Str) (ps : List Str) : Pr := match kinds.lookup w, bq ps with
 | some ms, some xs => if xs.length = ms.length then (match pG w xs with
     | some r=>if eI xs ms = true then .tell r else .row
     | none=>.text) else .text
 | _,_=>.text
def parse (t : Str) : Pr := match Txt.split t " " with
 | []=>.text
 | w :: ps=>eg w ps
inductive Pc where
 | bad (b:Bool) | good (rs:List Rw)
def eS : List Str → Pc
 | []=>.good []
 | l :: r => match parse l with
   | .text=>.bad true
   | .row=>.bad false
   | .tell x => match eS r with
     | .bad b=>.bad b
     | .good xs=>.good (x :: xs)
def e9 (t:Str):Pc:=if t = "" then .good [] else if 2000 < (Txt.split t "\n").length then .bad true else eS (Txt.split t "\n")
theorem g7 {w : Str} {ms : List Int} (h : kinds.lookup w = some ms) : ∃ i : Nat, kinds[i]? = some (w, ms) := by
 have gen : ∀ l : List (Str × List Int), l.lookup w = some ms → (w, ms) ∈ l := by
   intro l
   induction l with
   | nil=>intro h;cases h
   | cons p r ih =>
     intro h
     rw [List.lookup_cons] at h
     cases e:w == p.1 with
     | true =>
       rw [e] at h
       cases h
       rw [show w = p.1 from by simpa using e]
       exact List.mem_cons_self ..
     | false =>
       rw [e] at h
       exact List.mem_cons_of_mem _ (ih h)
 exact List.mem_iff_getElem?.mp (gen _ h)
theorem oQ {w:Str} {ps:List Str} (h:kinds.lookup w = none):eg w ps = .text:=by unfold eg;rw [h]
theorem i5 {w:Str} {ps:List Str} (h:bq ps = none):eg w ps = .text:=by unfold eg;rw [h];cases kinds.lookup w <;> rfl
theorem l6 {w : Str} {ps : List Str} {ms xs : List Int} (h : kinds.lookup w = some ms) (h2 : bq ps = some xs) (hl : xs.length ≠ ms.length) : eg w ps = .text := by
 unfold eg;rw [h,h2]
 show (if xs.length = ms.length then _ else Pr.text) = _
 rw [if_neg hl]
theorem my {w : Str} {ps : List Str} {ms xs : List Int} (h : kinds.lookup w = some ms) (h2 : bq ps = some xs) (hl : xs.length = ms.length) : ∃ r : Rw, r.c5 = (w, xs) ∧ (eI xs ms = true ↔ r.ok) ∧ eg w ps = if eI xs ms = true then .tell r else .row := by
 obtain ⟨i,hi⟩:=g7 h
 obtain ⟨r,ht,ax⟩:=u4 i w ms xs hi hl
 refine ⟨r,ht,ax,?_⟩
 unfold eg
 rw [h,h2]
 show (if xs.length = ms.length then (match pG w xs with | some r=>if eI xs ms = true then Pr.tell r else .row | none=>.text) else .text) = _
 rw [if_pos hl]
 have e:=tU r
 rw [ht] at e
 rw [show pG w xs = some r from e]
def counts:List (Str×Int):=[("set",2),("copy",2),("add",3),("sub",3),("mul",3),("less",3),("grow",1),("shrink",1),("put",2),("get",2),("jump",1),("branch",2),("call",1),("back",1),("drop",1)]
theorem qe:counts = kinds.map fun k=>(k.1,((k.2.length:Nat):Int)):=rfl
theorem o5 {k0 k : Key} {v0 : V} {kvs : List (Key × V)} : bY ((k0, v0) :: kvs) k = if k0 = k then some v0 else bY kvs k := by
 unfold bY
 rw [List.find?_cons]
 by_cases h:k0 = k
 · rw [if_pos h,show (decide ((k0,v0).1 = k)) = true from decide_eq_true h];rfl
 · rw [if_neg h,show (decide ((k0,v0).1 = k)) = false from decide_eq_false h]
theorem qy (w : Str) : ∀ l : List (Str × List Int), bY (eC (l.map fun k => (k.1, ((k.2.length : Nat) : Int)))) (.inr w) = (l.lookup w).map fun ms => V.int ((ms.length : Nat) : Int)
 | []=>rfl
 | p :: r => by
   have ih:=qy w r
   show bY ((Sum.inr p.1,V.int ((p.2.length:Nat):Int)) :: eC (r.map fun k=>(k.1,((k.2.length:Nat):Int)))) (.inr w) = _
   rw [o5,ih,List.lookup_cons]
   by_cases h:p.1 = w
   · rw [if_pos (by rw [h]),show (w == p.1) = true from by rw [h];exact beq_self_eq_true w];rfl
   · rw [if_neg (fun z=>h (Sum.inr.inj z)),show (w == p.1) = false from by simpa using fun z=>h z.symm]
theorem mq (w:Str):bY (eC counts) (.inr w) = (kinds.lookup w).map fun ms=>V.int ((ms.length:Nat):Int):=by rw [qe];exact qy w kinds
def mL (H:Hp) (v:V):Prop:=v = .aO∨(∃ i,v = .int i)∨∃ l xs,v = .ref l∧H l = some (.lst xs)
theorem mL.same {H H' : Hp} {v : V} (h : mL H v) (s : aq H H') : mL H' v := by
 rcases h with h | h | ⟨l,xs,h1,h2⟩
 · exact .inl h
 · exact .inr (.inl h)
 · exact .inr (.inr ⟨l,xs,h1,s _ _ h2⟩)
def p5:Sp:=fun vs H Q _=>∃ x:Str,vs = [.str x]∧x.length ≤ 1500000∧∀ H',aq H H'→Q (.bl (ck x)) H'
def mi (a:aP):Sp:=fun vs H Q E=>∃ x:Str,vs = [.str x]∧x.length ≤ 1500000∧(∀ n,bS x = some n→∀ H',aq H H'→Q (.int n) H')∧(bS x = none→∀ H',aq H H'→E (.ref a.aV) none H')
def uE (a:aP):Sp:=fun vs H Q E=>∃ v,vs = [v]∧((∃ x,v = .str x∧Q .aO H)∨(mL H v∧E (.ref a.aV) none H))
def rH (a:aP) (r:Rw) (H:Hp) (Q:VK) (E:XK):Prop:=(r.ok→∀ p H',aq H H'→e7 a H' p r→Q (.ref p) H')∧(¬ r.ok→∀ H',aq H H'→E (.ref a.aW) none H')
def qg (a:aP):Sp:=fun vs H Q E=>∃ (r:Rw) (w:Str) (n:Int),vs = [.str w,.int n]∧r.c5 = (w,[n])∧rH a r H Q E
def pN (a:aP):Sp:=fun vs H Q E=>∃ (r:Rw) (w:Str) (n m:Int),vs = [.str w,.int n,.int m]∧r.c5 = (w,[n,m])∧rH a r H Q E
def qo (a:aP):Sp:=fun vs H Q E=>∃ (r:Rw) (w:Str) (n m k:Int),vs = [.str w,.int n,.int m,.int k]∧r.c5 = (w,[n,m,k])∧rH a r H Q E
def NA (a:aP) (p:Pr) (H:Hp) (Q:VK) (E:XK):Prop:=(p = .text→∀ H',aq H H'→E (.ref a.aV) none H')∧(p = .row→∀ H',aq H H'→E (.ref a.aW) none H')∧(∀ r,p = .tell r→r.ok→∀ x H',aq H H'→e7 a H' x r→Q (.ref x) H')
def mT (a:aP):Sp:=fun vs H Q E=>∃ v,vs = [v]∧((∃ t:Str,v = .str t∧t.length ≤ 1500000∧NA a (parse t) H Q E)∨(mL H v∧E (.ref a.aV) none H))
def NV (a:aP) (p:Pc) (H:Hp) (Q:VK) (E:XK):Prop:=(p = .bad true→∀ H',aq H H'→E (.ref a.aV) none H')∧(p = .bad false→∀ H',aq H H'→E (.ref a.aW) none H')∧(∀ rs,p = .good rs→(∀ r ∈ rs,r.ok)→rs.length ≤ 2000→∀ l ps H',aq H H'→H' l = some (.lst (ps.map V.ref))→cV a H' ps rs→Q (.ref l) H')
def kR (a:aP):Sp:=fun vs H Q E=>∃ v,vs = [v]∧((∃ t:Str,v = .str t∧t.length ≤ 1500000∧NV a (e9 t) H Q E)∨(mL H v∧E (.ref a.aV) none H))
def vK:Sp:=fun vs H Q _=>∃ x:Str,vs = [.str x]∧x.length ≤ 1500000∧(∀ n,bS x = some n→∀ H',aq H H'→Q (.int n) H')∧(bS x = none→∀ H',aq H H'→Q .aO H')
def ic (r:Rw):List V:=.str r.c5.1 :: r.c5.2.map V.int
def u0:Sp:=fun vs H Q _=>∃ w:Str,vs = [.str w]∧(kinds.lookup w = none→∀ H',aq H H'→Q .aO H')∧(∀ ms,kinds.lookup w = some ms→∀ l H',aq H H'→H' l = some (.lst (ms.map V.int))→Q (.ref l) H')
def sX:Sp:=fun vs H Q _=>∃ c:Int,vs = [.int c]∧∀ (t:Str) H',aq H H'→t.length ≤ 11000→Q (.str t) H'
def vS:Sp:=fun vs H Q _=>∃ (c:Int) (sg:Str),vs = [.int c,.str sg]∧1 ≤ sg.length∧sg.length ≤ 100∧∀ (t:Str) H',aq H H'→t.length ≤ 64→Q (.str t) H'
def NK (H:Hp) (v:V):Prop:=(∃ t:Str,v = .str t∧t.length ≤ 1500000)∨mL H v
def oJ:Sp:=fun vs H Q _=>∃ (t:Str) (c:Int),vs = [.str t,.int c]∧t.length ≤ 700100∧∀ v H',aq H H'→NK H' v→Q v H'
def BN (p:Pr) (H:Hp) (Q:VK):Prop:=(p = .text→∀ H',aq H H'→Q (.str "text") H')∧(p = .row→∀ H',aq H H'→Q (.str "row") H')∧(∀ r,p = .tell r→r.ok→∀ x H',aq H H'→H' x = some (.tup (ic r))→Q (.ref x) H')
def tB:Sp:=fun vs H Q _=>∃ t:Str,vs = [.str t]∧t.length ≤ 1500000∧BN (parse t) H Q
def qW (H:Hp) (us:List V) (rs:List Rw):Prop:=us.length = rs.length∧∀ (i:Nat) (u:V) (r:Rw),us[i]? = some u→rs[i]? = some r→∃ q,u = .ref q∧H q = some (.tup (ic r))
def Ey (p:Pc) (H:Hp) (Q:VK):Prop:=(p = .bad true→∀ H',aq H H'→Q (.str "text") H')∧(p = .bad false→∀ H',aq H H'→Q (.str "row") H')∧(∀ rs,p = .good rs→(∀ r ∈ rs,r.ok)→rs.length ≤ 2000→∀ l us H',aq H H'→H' l = some (.lst us)→qW H' us rs→Q (.ref l) H')
def xH:Sp:=fun vs H Q _=>∃ v,vs = [v]∧((∃ t:Str,v = .str t∧t.length ≤ 1500000∧Ey (e9 t) H Q)∨(mL H v∧∀ H',aq H H'→Q (.str "text") H'))
def tq:Sp:=fun vs H Q _=>∃ (al:Bool) (v:V),vs = [.bl al,v]∧((∃ t:Str,v = .str t∧t.length ≤ 1500000∧(if al = true then BN (parse t) H Q else Ey (e9 t) H Q))∨(mL H v∧∀ H',aq H H'→Q (.str "text") H'))
theorem i7 {s t : Str} {A B : Prop} (h1 : s = t → A) (h2 : s ≠ t → B) : if decide (V.str s = V.str t) = true then A else B := by
 by_cases h:s = t
 · rw [if_pos (decide_eq_true (by rw [h]))];exact h1 h
 · rw [if_neg (by rw [decide_eq_false (fun z=>h (V.str.inj z))];exact Bool.false_ne_true)];exact h2 h
theorem uL {s t : Str} {A B : Prop} (h1 : s ≠ t → A) (h2 : s = t → B) : if (!decide (V.str s = V.str t)) = true then A else B := by
 by_cases h:s = t
 · rw [decide_eq_true (by rw [h]),if_neg (by decide)];exact h2 h
 · rw [decide_eq_false (fun z=>h (V.str.inj z)),if_pos (show (!false) = true from rfl)];exact h1 h
theorem kF {x : Str} {r : List Nat} (h : x.cps.toList = 48 :: r) (hn : x ≠ "0") : ck x = false := by
 have h1 : 1 < x.cps.toList.length := by
   rw [h,List.length_cons]
   cases r with
   | nil=>exact absurd (j4 h) hn
   | cons y r=>rw [List.length_cons];omega
 unfold ck
 rw [decide_eq_true h1,h]
 simp
theorem kZ {x : Str} (h : ¬ (1 ≤ x.cps.toList.length ∧ x.cps.toList.length ≤ 10)) : ck x = false := by
 unfold ck
 by_cases h1 : 1 ≤ x.cps.toList.length
 · rw [decide_eq_false (fun z=>h ⟨h1,z⟩)];simp
 · rw [decide_eq_false h1];simp
theorem g8 {K:PySem.W.Frag} {x:Str} {H:Hp} {Q:VK} (hz:x.length ≤ sizeLine) (q:Q (.int ((x.length:Nat):Int)) H):qB K [.str x] H Q:=⟨_,_,rfl,⟨hz,rfl⟩,q⟩
theorem xm {w:World} {K:PySem.W.Frag} {a:Addr} {kvs:List (Str×Int)} {t:Str} {v:V} {H:Hp} {Q:VK} (c:hU w K a kvs) (e:bY (eC kvs) (.inr t) = some v) (q:Q (.bl false) H):ua w K true (.str t) (.ref a) H Q:=yb c (by rw [if_pos rfl,e];exact q)
theorem tZ (r : Rw) : ∃ w, (∃ n, r.c5 = (w, [n])) ∨ (∃ n m, r.c5 = (w, [n, m])) ∨ ∃ n m k, r.c5 = (w, [n, m, k]) := by
 cases r
 case grow=>exact ⟨_,.inl ⟨_,rfl⟩⟩
 case shrink=>exact ⟨_,.inl ⟨_,rfl⟩⟩
 case gD=>exact ⟨_,.inl ⟨_,rfl⟩⟩
 case call=>exact ⟨_,.inl ⟨_,rfl⟩⟩
 case back=>exact ⟨_,.inl ⟨_,rfl⟩⟩
 case drop=>exact ⟨_,.inl ⟨_,rfl⟩⟩
 case set=>exact ⟨_,.inr (.inl ⟨_,_,rfl⟩)⟩
 case copy=>exact ⟨_,.inr (.inl ⟨_,_,rfl⟩)⟩
 case put=>exact ⟨_,.inr (.inl ⟨_,_,rfl⟩)⟩
 case get=>exact ⟨_,.inr (.inl ⟨_,_,rfl⟩)⟩
 case branch=>exact ⟨_,.inr (.inl ⟨_,_,rfl⟩)⟩
 case add=>exact ⟨_,.inr (.inr ⟨_,_,_,rfl⟩)⟩
 case sub=>exact ⟨_,.inr (.inr ⟨_,_,_,rfl⟩)⟩
 case mul=>exact ⟨_,.inr (.inr ⟨_,_,_,rfl⟩)⟩
 case less=>exact ⟨_,.inr (.inr ⟨_,_,_,rfl⟩)⟩
theorem pd (w:Str) (ps:List Str):gB (List.map V.str (w :: ps)) (some 1) none = ps.map V.str:=vo (V.str w) (ps.map V.str)
theorem take_snoc {α : Type} {ps:List α} {i:Nat} {p : α} (h:ps[i]? = some p):ps.take (i + 1) = ps.take i ++ [p]:=by rw [List.take_add_one,h,Option.toList_some]
theorem iG {α : Type} {f : α → V} {ps : List α} {i : Nat} {x : V} (h : (ps.map f)[i]? = some x) : ∃ p, ps[i]? = some p ∧ x = f p := by
 rw [List.getElem?_map] at h
 obtain ⟨p,hp,e⟩:=Option.map_eq_some_iff.mp h
 exact ⟨p,hp,e.symm⟩
theorem A_ {w:World} {K:PySem.W.Frag} {a:Addr} {kvs:List (Str×Int)} {t:Str} {H:Hp} {Q:VK} (c:hU w K a kvs) (e:bY (eC kvs) (.inr t) = none) (q:Q (.bl true) H):ua w K true (.str t) (.ref a) H Q:=yb c (by rw [if_pos rfl,e];exact q)
theorem jr : ∀ {ls : List Str} {rs : List Rw} {l : Str} {r : Rw}, eS ls = .good rs → parse l = .tell r → eS (ls ++ [l]) = .good (rs ++ [r])
 | [], rs, l, r, h, hl => by
   cases h
   show (match parse l with | .text=>Pc.bad true | .row=>.bad false | .tell x=>match eS [] with | .bad b=>.bad b | .good xs=>.good (x :: xs)) = _
   rw [hl];rfl
 | m :: ls, rs, l, r, h, hl => by
   unfold eS at h
   cases h1:parse m with
   | text=>rw [h1] at h;cases h
   | row=>rw [h1] at h;cases h
   | tell x =>
     rw [h1] at h
     cases h2:eS ls with
     | bad b=>rw [h2] at h;cases h
     | good xs =>
       rw [h2] at h
       cases h
       show (match parse m with | .text=>Pc.bad true | .row=>.bad false | .tell x=>match eS (ls ++ [l]) with | .bad b=>.bad b | .good xs=>.good (x :: xs)) = _
       rw [h1,jr h2 hl];rfl
theorem hV : ∀ {ls : List Str} {i : Nat} {l : Str} {rs : List Rw} {b : Bool}, ls[i]? = some l → eS (ls.take i) = .good rs → ((parse l = .text ∧ b = true) ∨ (parse l = .row ∧ b = false)) → eS ls = .bad b
 | [],i,l,rs,b,h,_,_=>by simp at h
 | m :: ls, 0, l, rs, b, h, hg, hb => by
   cases h
   unfold eS
   rcases hb with ⟨h1,rfl⟩ | ⟨h1,rfl⟩ <;> rw [h1]
 | m :: ls, i + 1, l, rs, b, h, hg, hb => by
   rw [List.take_succ_cons] at hg
   unfold eS at hg ⊢
   cases h1:parse m with
   | text=>rw [h1] at hg;cases hg
   | row=>rw [h1] at hg;cases hg
   | tell x =>
     rw [h1] at hg
     cases h2:eS (ls.take i) with
     | bad b=>rw [h2] at hg;cases hg
     | good xs=>rw [hV (i:=i) (by simpa using h) h2 hb]
theorem Bp {x y:Str} {n:Int} {σ : L2.St} {H:Hp} {Q:VK} (h1:n.natAbs.log2 < 1920) (h2:(Str.empty ++ x ++ Str.ofString (toString n)).length ≤ sizeLine) (h3:(Str.empty ++ x ++ Str.ofString (toString n) ++ y).length ≤ sizeLine) (q:Q (.str (Str.empty ++ x ++ Str.ofString (toString n) ++ y)) H):AS x y (tC (.int n)) σ H Q:=⟨n,rfl,h1,h2,h3,q⟩
end
def ma : List Int → TA
 | []=>gH
 | n :: r=>b8 (tC (.int n)) (ma r)
theorem qa : ∀ (ns : List Int) {σ : L2.St} {H : Hp} {Q : List V → Hp → Prop}, Q (ns.map V.int) H → ma ns σ H Q
 | [],_,_,_,q=>q
 | n :: r, σ, H, Q, q => by
   show ma r σ H fun xs H2=>Q (V.int n :: xs) H2
   exact qa r q
def eU (H:Hp) (ks:List (Str×List Int)) (ls:List Addr):Prop:=ls.length = ks.length∧∀ (i:Nat) (l:Addr) (k:Str×List Int),ls[i]? = some l→ks[i]? = some k→H l = some (.lst (k.2.map V.int))
theorem eU.same {H H':Hp} {ks:List (Str×List Int)} {ls:List Addr} (h:eU H ks ls) (s:aq H H'):eU H' ks ls:=⟨h.1,fun i l k e1 e2=>s _ _ (h.2 i l k e1 e2)⟩
theorem eU.upd {H : Hp} {ks : List (Str × List Int)} {ls : List Addr} {p : Addr} {o : HO} {kvs : List (Key × V)} (h : eU H ks ls) (hp : H p = some (.dK kvs)) : eU (upd H p o) ks ls := ⟨h.1, fun i l k e1 e2 => by
 have z:=h.2 i l k e1 e2
 rw [aB (fun e=>by rw [e,hp] at z;cases z)];exact z⟩
def cj (ks:List (Str×List Int)) (ls:List Addr):List (Key×V):=(ks.zip ls).map fun x=>((Sum.inr x.1.1:Key),V.ref x.2)
def Et (ks:List (Str×List Int)):List (TE×TE):=ks.map fun k=>(tC (V.str k.1),lM (ma k.2))
theorem kz : ∀ (ks : List (Str × List Int)) {σ : L2.St} {H : Hp} {Q : List (V × V) → Hp → Prop}, (∀ k ∈ ks, k.2.length ≤ 10) → (∀ (ls : List Addr) (H2 : Hp), aq H H2 → eU H2 ks ls → Q ((ks.zip ls).map fun x => (V.str x.1.1, V.ref x.2)) H2) → jK (Et ks) σ H Q
 | [],σ,H,Q,_,q=>q [] H (aq.refl _) ⟨rfl,fun i l k e=>by simp at e⟩
 | k :: r, σ, H, Q, hk, q => by
   show ma k.2 σ H fun xs H1=>xs.length ≤ sizeLine∧∀ p,H1 p = none→jK (Et r) σ (upd H1 p (.lst xs)) fun ps H3=>Q ((V.str k.1,.ref p) :: ps) H3
   have hkl:=hk k (List.mem_cons_self ..)
   refine qa k.2 ⟨by rw [List.length_map,sizeLine_eq];omega,fun l hl=>?_⟩
   refine kz r (fun k' hk'=>hk k' (List.mem_cons_of_mem _ hk')) fun ls H2 s2 hls=>q (l :: ls) H2 ((ar hl).trans s2) ⟨by rw [List.length_cons,List.length_cons,hls.1],fun i l' k' e1 e2=>?_⟩
   cases i with
   | zero=>cases e1;cases e2;exact s2 _ _ ak
   | succ i=>exact hls.2 i l' k' (by simpa using e1) (by simpa using e2)
theorem gQ : ∀ (b a : List (Key × V)), (b.map (·.1)).Nodup → (∀ k ∈ b.map (·.1), k ∉ a.map (·.1)) → fR a b = a ++ b
 | [],a,_,_=>by show a = a ++ [];rw [List.append_nil]
 | p :: r, a, hn, hd => by
   rw [List.map_cons,List.nodup_cons] at hn
   have h1 : putK a p.1 p.2 = a ++ [p] := by
     unfold putK
     rw [if_neg]
     intro z
     obtain ⟨q,hq,e⟩:=List.any_eq_true.mp z
     exact hd p.1 (by rw [List.map_cons];exact List.mem_cons_self ..) (List.mem_map.mpr ⟨q,hq,of_decide_eq_true e⟩)
   show fR (putK a p.1 p.2) r = _
   rw [h1,gQ r (a ++ [p]) hn.2 (fun k hk hm=>?_),List.append_assoc]
   · rfl
   · rw [List.map_append, List.mem_append] at hm
     rcases hm with hm | hm
     · exact hd k (by rw [List.map_cons];exact List.mem_cons_of_mem _ hk) hm
     · rw [List.map_cons, List.map_nil, List.mem_singleton] at hm
       rw [hm] at hk
       exact hn.1 hk
theorem eJ : ∀ {ks : List (Str × List Int)} {ls : List Addr}, ls.length = ks.length → (cj ks ls).map (·.1) = ks.map fun k => (Sum.inr k.1 : Key)
 | [],[],_=>rfl
 | k :: ks, l :: ls, h => by
   show _ :: (cj ks ls).map (·.1) = _ :: _
   rw [eJ (by simpa using h)]
theorem tH {k1 k2 : List (Str × List Int)} {l1 l2 : List Addr} (h : l1.length = k1.length) : cj k1 l1 ++ cj k2 l2 = cj (k1 ++ k2) (l1 ++ l2) := by
 unfold cj
 rw [List.zip_append h.symm,List.map_append]
theorem eU.app {H : Hp} {k1 k2 : List (Str × List Int)} {l1 l2 : List Addr} (a : eU H k1 l1) (b : eU H k2 l2) : eU H (k1 ++ k2) (l1 ++ l2) := ⟨by rw [List.length_append, List.length_append, a.1, b.1], fun i l k e1 e2 => by
 by_cases h:i < k1.length
 · rw [List.getElem?_append_left (by rw [a.1]; exact h)] at e1
   rw [List.getElem?_append_left h] at e2
   exact a.2 i l k e1 e2
 · rw [List.getElem?_append_right (by rw [a.1]; omega)] at e1
   rw [List.getElem?_append_right (by omega)] at e2
   rw [a.1] at e1
   exact b.2 _ l k e1 e2⟩
theorem s_ {H : Hp} (w : Str) : ∀ {ks : List (Str × List Int)} {ls : List Addr}, eU H ks ls → (ks.lookup w = none → bY (cj ks ls) (.inr w) = none) ∧ ∀ ms, ks.lookup w = some ms → ∃ l, bY (cj ks ls) (.inr w) = some (.ref l) ∧ H l = some (.lst (ms.map V.int))
 | [],[],_=>⟨fun _=>rfl,fun ms h=>by cases h⟩
 | k :: ks, l :: ls, h => by
   have ih:=@s_ H w ks ls ⟨by have:=h.1;simpa using this,fun i l' k' e1 e2=>h.2 (i + 1) l' k' (by simpa using e1) (by simpa using e2)⟩
   have e:bY (cj (k :: ks) (l :: ls)) (.inr w) = if (Sum.inr k.1:Key) = .inr w then some (.ref l) else bY (cj ks ls) (.inr w):=o5
   rw [e,List.lookup_cons]
   by_cases hw:k.1 = w
   · rw [if_pos (by rw [hw]), show (w == k.1) = true from by rw [hw]; exact beq_self_eq_true w]
     refine ⟨(fun z=>by cases z),fun ms z=>?_⟩
     cases z
     exact ⟨l,rfl,h.2 0 l k rfl rfl⟩
   · rw [if_neg (fun z => hw (Sum.inr.inj z)), show (w == k.1) = false from by simpa using fun z => hw z.symm]
     exact ih
 | [],l :: ls,h=>by have:=h.1;simp at this
 | k :: ks,[],h=>by have:=h.1;simp at this
theorem oh {ks : List (Str × List Int)} {σ : L2.St} {H : Hp} {Q : VK} (hn : ks.length ≤ 15) (hk : ∀ k ∈ ks, k.2.length ≤ 10) (hd : (ks.map fun k => (Sum.inr k.1 : Key)).Nodup)
   (q:∀ (p:Addr) (ls:List Addr) (H2:Hp),H p = none→aq (upd H p (.dK [])) H2→eU H2 ks ls→Q (.ref p) (upd H2 p (.dK (cj ks ls)))):yA (Et ks) σ H Q:=by
 intro p hp
 refine kz ks hk fun ls H2 s2 hls=>⟨s2 _ _ ak,cj ks ls,?_,?_,?_⟩
 · unfold cj
   rw [List.map_map];rfl
 · unfold cj
   rw [List.length_map,List.length_zip,hls.1];omega
 · rw [gQ (cj ks ls) [] (by rw [eJ hls.1]; exact hd) (fun _ _ z => by cases z), List.nil_append]
   exact q p ls H2 hp s2 hls
def kA:List (Str×List Int):=[("set",[7,4294967295]),("copy",[7,7]),("add",[7,7,7]),("sub",[7,7,7]),("mul",[7,7,7])]
def kB:List (Str×List Int):=[("less",[7,7,7]),("grow",[4000]),("shrink",[4000]),("put",[7,4000]),("get",[7,4000])]
def kC:List (Str×List Int):=[("jump",[2000]),("branch",[7,2000]),("call",[2000]),("back",[7]),("drop",[7])]
theorem uP:kinds = kA ++ kB ++ kC:=rfl
theorem i0 {H H2 : Hp} {p : Addr} {ks : List (Str × List Int)} {ls : List Addr} {kv : List (Key × V)} (n : H p = none) (s : aq (upd H p (.dK [])) H2) (a : eU H2 ks ls) : aq H (upd H2 p (.dK kv)) ∧ (upd H2 p (.dK kv)) p = some (.dK kv) ∧ eU (upd H2 p (.dK kv)) ks ls :=
 ⟨fun b o z => by
   have hb:b ≠ p:=fun e=>by rw [e,n] at z;cases z
   rw [aB hb]
   exact s b o (by rw [aB hb];exact z),ak,a.upd (s _ _ ak)⟩
theorem qp {H G : Hp} {p : Addr} {o : HO} (n : H p = none) (s : aq H G) : aq H (upd G p o) := fun b u z => by
 rw [aB (fun e=>by rw [e,n] at z;cases z)];exact s b u z
theorem AM {K:PySem.W.Frag} {H:Hp} {p:Addr} {kvs:List (Key×V)} {R:Prop} (h:H p = some (.dK kvs)) (q:R):ro K "dict" (.ref p) H∧R:=⟨.inr (.inr (.inl ⟨rfl,.inl ⟨kvs,h⟩⟩)),q⟩
theorem Au {K : PySem.W.Frag} {x : Str} {i : Int} {H : Hp} {Q : VK} (h0 : 0 ≤ i) (h1 : i < (x.length : Nat)) (hz : x.length ≤ sizeLine) (q : ∀ c : Nat, Q (.str ⟨#[c]⟩) H) : jL K (.str x) (.int i) H Q := by
 obtain ⟨j,rfl⟩:=Int.eq_ofNat_of_zero_le h0
 have hj:j < x.cps.toList.length:=by have:x.length = x.cps.toList.length:=rfl;omega
 exact .inl (.inr (.inr ⟨_,_,x.cps.toList[j],rfl,rfl,hz,ek (List.getElem?_eq_getElem hj),q _⟩))
theorem str_len (a b : Str) : (a ++ b).length = a.length + b.length := by
 show Array.size _ = Array.size _ + Array.size _
 exact Array.size_append
theorem f6 {K:PySem.W.Frag} {i j:Str} {H:Hp} {Q:VK} (hz:i.length + j.length ≤ sizeLine) (q:∀ t:Str,t.length = i.length + j.length→Q (.str t) H):eG K (.str i) (.str j) H Q:=.inr (.inr (.inr ⟨i,j,rfl,rfl,hz,q _ (str_len i j)⟩))
theorem tw {a b : List Key} (h : (b.all fun k => !(a.any fun x => decide (x = k))) = true) : ∀ k ∈ b, k ∉ a := fun k hk hm => by
 have z:=List.all_eq_true.mp h k hk
 rw [show (a.any fun x=>decide (x = k)) = true from List.any_eq_true.mpr ⟨k,hm,decide_eq_true rfl⟩] at z
 cases z
theorem A0 {td ty:TE} {σ : L2.St} {H:Hp} {Q:VK} (h:td σ H fun x H1=>∃ a,x = .ref a∧DK H1 a∧ty σ H1 fun y H2=>∃ o,xl H2 a y o∧Q (o.getD .aO) H2):v_ td ty σ H Q:=h
theorem t7 {w : Str} {ps : List Str} {ms : List Int} (h : kinds.lookup w = some ms) (hl : ps.length ≠ ms.length) : eg w ps = .text := by
 cases h2:bq ps with
 | none=>exact i5 h2
 | some xs=>exact l6 h h2 (by rw [fY h2];exact hl)
def optN : Option Int → V
 | some n=>.int n
 | none=>.aO
theorem wd (ps : List Str) : ((ps.map fun p => optN (bS p)).all ft) = true := by
 rw [List.all_map,List.all_eq_true]
 intro p _
 show ft (optN (bS p)) = true
 cases bS p <;> rfl
theorem xw {ps : List Str} (h : bq ps = none) : qN .aO (ps.map fun p => optN (bS p)) = true := by
 obtain ⟨p,hp,e⟩:=mh h
 unfold qN
 exact List.any_eq_true.mpr ⟨optN (bS p),List.mem_map.mpr ⟨p,hp,rfl⟩,by rw [e];rfl⟩
theorem qG : ∀ {ps : List Str} {ns : List Int}, bq ps = some ns → (ps.map fun p => optN (bS p)) = ns.map V.int
 | [],ns,h=>by cases h;rfl
 | p :: r, ns, h => by
   unfold bq at h
   cases h1:bS p with
   | none=>rw [h1] at h;cases h
   | some n =>
     cases h2:bq r with
     | none=>rw [h1,h2] at h;cases h
     | some ms =>
       rw [h1,h2] at h;cases h
       rw [List.map_cons,List.map_cons,qG h2,h1];rfl
theorem wY (ns : List Int) : qN .aO (ns.map V.int) = false := by
 unfold qN
 rw [List.any_map]
 exact Bool.eq_false_iff.mpr fun z=>by obtain ⟨n,_,e⟩:=List.any_eq_true.mp z;cases e
theorem mQ : ∀ {ps : List Str} {ns : List Int}, bq ps = some ns → ∀ n ∈ ns, 0 ≤ n
 | [],ns,h,n,hn=>by cases h;cases hn
 | p :: r, ns, h, n, hn => by
   unfold bq at h
   cases h1:bS p with
   | none=>rw [h1] at h;cases h
   | some m =>
     cases h2:bq r with
     | none=>rw [h1,h2] at h;cases h
     | some ms =>
       rw [h1,h2] at h;cases h
       rcases List.mem_cons.mp hn with rfl | hn
       · unfold bS at h1
         split at h1
         · cases h1;exact Int.natCast_nonneg _
         · cases h1
       · exact mQ h2 n hn
theorem Ba {xs ms : List Int} (h : ∀ x ∈ xs, 0 ≤ x) : ((xs.zip ms).map fun x => decide (x.1 ≤ x.2)).all id = eI xs ms := by
 unfold eI
 congr 1
 refine List.map_congr_left fun p hp=>?_
 rw [decide_eq_true (h p.1 (List.of_mem_zip hp).1),Bool.true_and]
theorem Bx {xs ms : List Int} (h : xs.length = ms.length) : (xs.zip ms).map (fun x => V.int x.1) = xs.map V.int := by
 rw [show (fun x:Int×Int=>V.int x.1) = V.int ∘ Prod.fst from rfl,← List.map_map,List.map_fst_zip (by omega)]
theorem BK {xs ms : List Int} (h : xs.length = ms.length) : (xs.zip ms).map (fun x => V.int x.2) = ms.map V.int := by
 rw [show (fun x:Int×Int=>V.int x.2) = V.int ∘ Prod.snd from rfl,← List.map_map,List.map_snd_zip (by omega)]
def vi (H:Hp) (p:Pr) (u:V):Prop:=(p = .text∧u = .str "text")∨(p = .row∧u = .str "row")∨∃ r q,p = .tell r∧r.ok∧u = .ref q∧H q = some (.tup (ic r))
theorem vi.same {H H' : Hp} {p : Pr} {u : V} (h : vi H p u) (s : aq H H') : vi H' p u := by
 rcases h with h | h | ⟨r,q,h1,h2,h3,h4⟩
 · exact .inl h
 · exact .inr (.inl h)
 · exact .inr (.inr ⟨r,q,h1,h2,h3,s _ _ h4⟩)
def lJ (H:Hp) (ls:List Str) (us:List V):Prop:=us.length = ls.length∧∀ (i:Nat) (l:Str) (u:V),ls[i]? = some l→us[i]? = some u→vi H (parse l) u
theorem lJ.same {H H':Hp} {ls:List Str} {us:List V} (h:lJ H ls us) (s:aq H H'):lJ H' ls us:=⟨h.1,fun i l u e1 e2=>(h.2 i l u e1 e2).same s⟩
theorem lJ.snoc {H : Hp} {ls : List Str} {us : List V} {l : Str} {u : V} (h : lJ H ls us) (hu : vi H (parse l) u) : lJ H (ls ++ [l]) (us ++ [u]) := ⟨by rw [List.length_append, List.length_append, h.1]; rfl, fun i l' u' e1 e2 => by
 by_cases hi:i < ls.length
 · rw [List.getElem?_append_left hi] at e1
   rw [List.getElem?_append_left (by rw [h.1];exact hi)] at e2
   exact h.2 i l' u' e1 e2
 · rw [List.getElem?_append_right (by omega)] at e1
   rw [List.getElem?_append_right (by rw [h.1];omega)] at e2
   rw [h.1] at e2
   cases hk:i - ls.length with
   | zero=>rw [hk] at e1 e2;cases e1;cases e2;exact hu
   | succ k=>rw [hk] at e1;simp at e1⟩
def hW (H:Hp) (us:List V) (rs:List Rw):Prop:=∀ (i:Nat) (u:V) (r:Rw),us[i]? = some u→rs[i]? = some r→∃ q,u = .ref q∧H q = some (.tup (ic r))
theorem hW.snoc {H : Hp} {us : List V} {rs : List Rw} {r : Rw} {q : Addr} (h : hW H us rs) (hu : us[rs.length]? = some (.ref q)) (hq : H q = some (.tup (ic r))) : hW H us (rs ++ [r]) := fun i u r' e1 e2 => by
 by_cases hi:i < rs.length
 · rw [List.getElem?_append_left hi] at e2
   exact h i u r' e1 e2
 · rw [List.getElem?_append_right (by omega)] at e2
   cases hk:i - rs.length with
   | zero =>
     have e:i = rs.length:=by omega
     subst e
     rw [hk] at e2
     cases e2
     rw [hu] at e1
     cases e1
     exact ⟨q,rfl,hq⟩
   | succ k=>rw [hk] at e2;simp at e2
theorem sM {K : PySem.W.Frag} {a b : Addr} {xs ys : List V} {H H0 : Hp} {Q : VK} (s0 : aq H0 H) (ha : H a = some (.lst xs)) (hb : H b = some (.lst ys)) (hz : xs.length + ys.length ≤ sizeLine) (q : ∀ p Hx, aq H0 Hx → Hx p = some (.lst (xs ++ ys)) → Q (.ref p) Hx) :
   eG K (.ref a) (.ref b) H Q:=mY ha hb hz fun p hp=>q p _ (s0.trans (ar hp)) ak
def hJ:List Str:=["set","copy","add","sub","mul","less","grow","shrink","put","get","jump","branch","call","back","drop","Set","","sets","row"]
theorem wx {i : Int} (h0 : 0 ≤ i) (h1 : i < 19) : ∃ w : Str, w.length ≤ 6 ∧ g9 (hJ.map V.str) i = some (.str w) := by
 obtain ⟨j,rfl⟩:=Int.eq_ofNat_of_zero_le h0
 have hj:j < hJ.length:=by show j < 19;omega
 refine ⟨hJ[j],?_,ek (by rw [List.getElem?_map,List.getElem?_eq_getElem hj];rfl)⟩
 have:∀ w ∈ hJ,w.length ≤ 6:=by decide +kernel
 exact this _ (List.getElem_mem hj)
theorem m_ {ns : List Int} {i : Int} (h0 : 0 ≤ i) (h1 : i < (ns.length : Nat)) : ∃ n ∈ ns, g9 (ns.map V.int) i = some (.int n) := by
 obtain ⟨j,rfl⟩:=Int.eq_ofNat_of_zero_le h0
 have hj:j < ns.length:=by omega
 exact ⟨ns[j],List.getElem_mem hj,ek (by rw [List.getElem?_map,List.getElem?_eq_getElem hj];rfl)⟩
theorem wA {i : Int} (h0 : 0 ≤ i) (h1 : i < 8) : ∃ w : Str, w.length ≤ 1 ∧ g9 [V.str (Str.ofString ""), V.str (Str.ofString ""), V.str (Str.ofString ""), V.str (Str.ofString ""), V.str (Str.ofString ""), V.str (Str.ofString ""), V.str (Str.ofString "0"), V.str (Str.ofString "-")] i = some (.str w) := by
 have hx:i = 0∨i = 1∨i = 2∨i = 3∨i = 4∨i = 5∨i = 6∨i = 7:=by omega
 rcases hx with rfl | rfl | rfl | rfl | rfl | rfl | rfl | rfl
 · exact ⟨"",by decide,rfl⟩
 · exact ⟨"",by decide,rfl⟩
 · exact ⟨"",by decide,rfl⟩
 · exact ⟨"",by decide,rfl⟩
 · exact ⟨"",by decide,rfl⟩
 · exact ⟨"",by decide,rfl⟩
 · exact ⟨"0",by decide,rfl⟩
 · exact ⟨"-",by decide,rfl⟩
theorem A6 {K:PySem.W.Frag} {p:Addr} {xs:List V} {i:Int} {v:V} {H:Hp} {Q:VK} (h:H p = some (.lst xs)) (hat:g9 xs i = some v) (q:∀ Hx,aq H Hx→Q v Hx):jL K (.ref p) (.int i) H Q:=gm (aH.of h) hat (q H (aq.refl _))
section
open PySem.Builtin PySem.Builtin.Str
theorem lC (sep : Str) : ∀ (ts : List Str) (k : Nat), ts.foldl (fun n t => n + t.length + sep.length) k = k + (ts.map fun t => t.length + sep.length).sum
 | [],k=>rfl
 | t :: r, k => by
   rw [List.foldl_cons,lC sep r,List.map_cons,List.sum_cons];omega
theorem q4 {α : Type} {f : α → Nat} {L : Nat} : ∀ (ts : List α), (∀ t ∈ ts, f t ≤ L) → (ts.map f).sum ≤ ts.length * L
 | [],_=>Nat.zero_le _
 | t :: r, h => by
   have h1:=q4 r fun x hx=>h x (List.mem_cons_of_mem _ hx)
   have h2:=h t (List.mem_cons_self ..)
   rw [List.map_cons,List.sum_cons,List.length_cons,Nat.succ_mul];omega
theorem joinOk_of {sep : Str} {ts : List Str} {L N : Nat} (hL : ∀ t ∈ ts, t.length + sep.length ≤ L) (hN : ts.length ≤ N) (hz : N * L ≤ 1000000) : JoinOk sep ts = true := by
 unfold JoinOk
 rw [List.foldl_toArray,lC,Nat.zero_add]
 have h1:=q4 (f:=fun t:Str=>t.length + sep.length) ts hL
 have h2:ts.length * L ≤ N * L:=Nat.mul_le_mul_right L hN
 unfold tooLong
 rw [decide_eq_false (by rw [sizeLine_eq];omega)];rfl
theorem join_le {sep : Str} {ts : List Str} {L N : Nat} (hL : ∀ t ∈ ts, t.length ≤ L) (hN : ts.length ≤ N) : (PySem.Str.join sep ts).length ≤ N * L + N * sep.length := by
 have h:=PySem.StrLaws.join_length_le sep ts
 have h1:=q4 (f:=fun t:Str=>t.length) ts hL
 have h2:ts.length * L ≤ N * L:=Nat.mul_le_mul_right L hN
 have h3:ts.length * sep.length ≤ N * sep.length:=Nat.mul_le_mul_right _ hN
 omega
end
theorem BI {n : Int} (h0 : 0 ≤ n) (h1 : n ≤ 100000000000) : n.natAbs.log2 < 1900 := by
 by_cases h:n.natAbs = 0
 · rw [h];decide
 · refine (Nat.log2_lt h).mpr (Nat.lt_of_lt_of_le (show n.natAbs < 2 ^ 37 by omega) (Nat.pow_le_pow_right (by decide) (by decide)))
theorem vf {w : Str} {ms : List Int} (h : kinds.lookup w = some ms) : ms.length ≤ 3 ∧ ∀ m ∈ ms, 0 ≤ m ∧ m ≤ 4294967295 := by
 obtain ⟨i,hi⟩:=g7 h
 have hall:∀ k ∈ kinds,k.2.length ≤ 3∧∀ m ∈ k.2,0 ≤ m∧m ≤ 4294967295:=by decide +kernel
 exact hall _ (List.mem_of_getElem? hi)
theorem Gk {tc:TT} {t1 t2:TB} {D:Ends} {Ew:XK} {σ : L2.St} {H:Hp} (h:tc σ H fun b H1=>if b = true then t1 D Ew σ H1 else t2 D Ew σ H1):Lo tc t1 t2 D Ew σ H:=h
theorem rT {P : Program} {w : World} {K : PySem.W.Frag} {mg : Str → Option Value} {base : Heap} {km : Nat} {m : Str} {sp : Sp} {i : Nat} {t : TA} {D : Ends} {Ew : XK} {σ : L2.St} {H : Hp} (h : t σ H fun vs H1 => sp vs H1 (fun v H2 =>
 ∃ a C dx fs spm,v = .ref a∧H2 a = some (.ins C dx fs)∧fs.lookup m = none∧bW P w K mg base cm km C m spm∧spm [.ref a] H2 (fun v H3=>D.nx (σ.set i (some v)) H3) (fun _ _ _=>False)) Ew):vj P w K mg base km m sp i t D Ew σ H:=h
theorem qh {K : PySem.W.Frag} {sp : Sp} {i : Nat} {own : List Str} {fr : List (Str × Nat)} {t : TA} {g : TG} {tc : TT} {te : TE} {D : Ends} {Ew : XK} {σ : L2.St} {H : Hp} (h : t σ H fun vs H1 => sp vs H1 (fun v H2 =>
 ∃ a xs,v = .ref a∧aH K H2 a xs∧fT (l_ K a) g tc te (fun ys H3=>∀ p,H3 p = none→D.nx (σ.set i (some (.ref p))) (upd H3 p (.lst ys))) (dH own fr σ) H2) Ew):vD K sp i own fr t g tc te D Ew σ H:=h
theorem hW.same {H H':Hp} {us:List V} {rs:List Rw} (h:hW H us rs) (s:aq H H'):hW H' us rs:=fun i u r e1 e2=>let ⟨q,e,k⟩:=h i u r e1 e2;⟨q,e,s _ _ k⟩
theorem hW.add {H : Hp} {us : List V} {rs : List Rw} {r : Rw} {q : Addr} (h : hW H us rs) (hr : rs[us.length]? = some r) (hq : H q = some (.tup (ic r))) : hW H (us ++ [.ref q]) rs := fun i u r' e1 e2 => by
 by_cases hi:i < us.length
 · rw [List.getElem?_append_left hi] at e1
   exact h i u r' e1 e2
 · rw [List.getElem?_append_right (by omega)] at e1
   cases hk:i - us.length with
   | zero =>
     have e:i = us.length:=by omega
     subst e
     rw [hk] at e1
     cases e1
     rw [hr] at e2
     cases e2
     exact ⟨q,rfl,hq⟩
   | succ k=>rw [hk] at e1;simp at e1
theorem tD {xs : List Str} {i : Int} {L : Nat} (hL : ∀ x ∈ xs, x.length ≤ L) (h0 : 0 ≤ i) (h1 : i < (xs.length : Nat)) : ∃ w : Str, w.length ≤ L ∧ g9 (xs.map V.str) i = some (.str w) := by
 obtain ⟨j,rfl⟩:=Int.eq_ofNat_of_zero_le h0
 have hj:j < xs.length:=by omega
 exact ⟨xs[j],hL _ (List.getElem_mem hj),ek (by rw [List.getElem?_map,List.getElem?_eq_getElem hj];rfl)⟩
theorem sO {i j:Nat} {k v:Int} {n t:Str} {D:Ends} {σ : L2.St} {H:Hp} (e1 : σ[i]? = some (some (.int v))) (e2 : σ[j]? = some (some (.str t))) (hz:t.length ≤ 1000000) (q1:v ≠ k→D.nx σ H) (q2:v = k→∀ r:Str,r.length ≤ t.length + n.length→D.rt (.str r) H):vG i j k n D σ H:=⟨v,t,e1,e2,hz,q1,q2⟩
section
open PySem.Builtin PySem.Builtin.Str
theorem Dm {l : Addr} {k : Int} {x : V} {H : Hp} {Q : VK} (h : H l = some (.lst [x])) (h0 : 0 ≤ k) (h1 : k ≤ 10000) (q : ∀ p, H p = none → Q (.ref p) (upd H p (.lst (List.replicate k.toNat x)))) : jA (.ref l) (.int k) H Q :=
 .inr ⟨l, k, [x], rfl, rfl, h, by omega, by omega, by rw [sizeLine_eq]; show 1 * _ ≤ _; omega, fun p hp => by
   rw [show (List.replicate k.toNat [x]).flatten = List.replicate k.toNat x from by simp];exact q p hp⟩
theorem ti (f : Str → Nat) (k : Nat) (x t : Str) : ((List.replicate k x ++ [t]).map f).sum = k * f x + f t := by
 simp [List.map_append,List.map_replicate]
theorem uc {sep x t : Str} {k : Nat} (h : k * (x.length + sep.length) + (t.length + sep.length) ≤ 1000000) : JoinOk sep (List.replicate k x ++ [t]) = true := by
 unfold JoinOk
 rw [List.foldl_toArray,lC,Nat.zero_add,ti (fun t=>t.length + sep.length)]
 unfold tooLong
 rw [decide_eq_false (by rw [sizeLine_eq];omega)];rfl
theorem sd {sep x t : Str} {k : Nat} : (PySem.Str.join sep (List.replicate k x ++ [t])).length ≤ k * x.length + t.length + (k + 1) * sep.length := by
 have h:=PySem.StrLaws.join_length_le sep (List.replicate k x ++ [t])
 rw [ti (fun t=>t.length)] at h
 rw [List.length_append,List.length_replicate] at h
 exact h
end
def Jq (r:Rw):List V:=.str r.c5.1 :: r.c5.2.map V.int
def eH (r:Rw):PyData:=.tuple (.str r.c5.1 :: r.c5.2.map PyData.int)
def f9 (H:Hp) (us:List V) (rs:List Rw):Prop:=us.length = rs.length∧∀ (i:Nat) (u:V) (r:Rw),us[i]? = some u→rs[i]? = some r→∃ q,u = .ref q∧H q = some (.tup (Jq r))
theorem f9.same {H H':Hp} {us:List V} {rs:List Rw} (h:f9 H us rs) (s:aq H H'):f9 H' us rs:=⟨h.1,fun i u r e1 e2=>let ⟨q,e,k⟩:=h.2 i u r e1 e2;⟨q,e,s _ _ k⟩⟩
theorem f9.dp {K : PySem.W.Frag} {H : Hp} : ∀ {us : List V} {rs : List Rw}, f9 H us rs → da K H (rs.map eH) us
 | [],[],_=>oO
 | [],_ :: _,h=>by have:=h.1;simp at this
 | _ :: _,[],h=>by have:=h.1;simp at this
 | u :: us, r :: rs, h => by
   obtain ⟨q,e,k⟩:=h.2 0 u r rfl rfl
   subst e
   exact gP (pP (cw.of k) (gP (qv _) (i_ _))) (f9.dp (us:=us) (rs:=rs) ⟨by simpa using h.1,fun i u r e1 e2=>h.2 (i + 1) u r (by simpa using e1) (by simpa using e2)⟩)
theorem pe (r : Rw) : (eH r).canLay0 = true := by
 have hw:(PyData.str r.c5.1).canLay0 = true:=by cases r <;> simp [PyData.canLay0,Rw.c5] <;> decide +kernel
 unfold eH
 rw [PyData.canLay0,PyData.canLayAll0,ir,hw];rfl
theorem o9 : ∀ rs : List Rw, PyData.canLayAll0 (rs.map eH) = true
 | []=>rfl
 | e :: es=>by rw [List.map_cons,PyData.canLayAll0,o9 es,pe];rfl
theorem kW (r : Rw) : (eH r).depth ≤ 2 := by
 unfold eH
 simp [PyData.depth,PyData.depthAll,i8]
theorem kL : ∀ rs : List Rw, PyData.depthAll (rs.map eH) ≤ 2
 | []=>by decide
 | e :: es => by
   have h1:=kW e
   have h2:=kL es
   rw [List.map_cons,PyData.depthAll]
   omega
theorem p9 (rs : List Rw) : shaped (.list (rs.map eH)) = true := by
 have:=kL rs
 unfold shaped
 rw [PyData.canLay0,o9,PyData.depth]
 simp;omega
theorem hZ (r : Rw) : shaped (eH r) = true := by
 have:=kW r
 unfold shaped
 rw [pe]
 simp;omega
theorem f7 {K:PySem.W.Frag} {H:Hp} {t:Addr} {r:Rw} (h:H t = some (.tup (.str r.c5.1 :: r.c5.2.map V.int))):Dp K H (eH r) (.ref t):=pP (cw.of h) (gP (qv _) (i_ _))
theorem qW.to {H:Hp} {us:List V} {rs:List Rw} (h:qW H us rs):f9 H us rs:=h
local macro_rules | `(tactic| walk_at "mine") => `(tactic| first | (with_reducible refine Hc ?_) | (with_reducible refine Cv ?_) | (with_reducible refine r_chain ?_) | (with_reducible refine By ?_) | (with_reducible refine Co ?_) | ((with_reducible refine' i7 ?x ?_); (case x => intro hh; exact absurd hh (by decide +kernel)); intro _) | ((with_reducible refine' i7 ?_ ?x); (case x => intro hh; exact absurd rfl hh); intro _))
section
variable {P:Program} {w:World} {K:PySem.W.Frag} {mg:Str→Option Value} {base:Heap} {a:aP}
theorem rK {K : PySem.W.Frag} {Q : VK} {cell : Int} {lc lm lp : Addr} {w : Str} {ms : List Int} {n : Nat} {H H0 : Hp} (q : ∀ (t : Str) H', aq H0 H' → t.length ≤ 11000 → Q (.str t) H') (s : aq H0 H) (n0 : H0 lp = none) (hw : w.length ≤ 6) (hm : H lm = some (.lst (ms.map V.int))) (hp : H lp = some (.lst [])) (hml : ms.length ≤ 3) (hms : ∀ m ∈ ms, 0 ≤ m ∧ m ≤ 4294967295) (hn : n ≤ ms.length + 1) (hne : lm ≠ lp) :
 EC (oX 0 n) (fq 5) (k9 (lG (cv (jL K) (cv (eG K) (cn 3) (lM (b8 (tC (V.int 9)) gH))) (cn 5)) (fq 6)) (k9 (lG (cv (rI jn fun i j=>V.int (i / j)) (cn 0) (cv (eG K) (tC (V.int 8)) (cv jA (tC (V.int 31)) (cn 5)))) (fq 7)) (k9 (lG (lM (b8 (cv (rI (fun x j=>0 < j) fun i j=>V.int (i % j)) (cn 7) (cv (eG K) (cn 6) (tC (V.int 1)))) (b8 (cv (rI (fun x j=>0 < j) fun i j=>V.int (i % j)) (cn 7) (cv (eG K) (cn 6) (tC (V.int 1)))) (b8 (tC (V.int 0)) (b8 (cn 6) (b8 (cv (rI (fun x j=>0 < j) fun i j=>V.int (i % j)) (cn 7) (tC (V.int 8))) (b8 (cv (eG K) (cn 6) (tC (V.int 1))) (b8 (cv (rI (fun x j=>0 < j) fun i j=>V.int (i % j)) (cn 7) (cv (rI wZ fun i j=>V.int (i ^ j.toNat)) (tC (V.int 10)) (tC (V.int 11)))) (b8 (cv (rI (fun x j=>0 < j) fun i j=>V.int (i % j)) (cn 7) (cv (rI wZ fun i j=>V.int (i ^ j.toNat)) (tC (V.int 10)) (tC (V.int 10)))) gH))))))))) (fq 8)) (k9 (lG (cv jA (cv (rI (fun x j=>0 < j) fun i j=>V.int (i % j)) (cv (rI (fun x j=>0 < j) fun i j=>V.int (i % j)) (cv (rI jn fun i j=>V.int (i / j)) (cn 7) (tC (V.int 7))) (tC (V.int 32))) (tC (V.int 8))) (cv (rI jn fun i j=>V.int (i / j)) (cv (rI (fun x j=>0 < j) fun i j=>V.int (i % j)) (cv (rI jn fun i j=>V.int (i / j)) (cn 7) (tC (V.int 7))) (tC (V.int 4))) (tC (V.int 3)))) (fq 9)) (k9 (lG (cv (jL K) (lM (b8 (tC (V.str (Str.ofString ""))) (b8 (tC (V.str (Str.ofString ""))) (b8 (tC (V.str (Str.ofString ""))) (b8 (tC (V.str (Str.ofString ""))) (b8 (tC (V.str (Str.ofString ""))) (b8 (tC (V.str (Str.ofString ""))) (b8 (tC (V.str (Str.ofString "0"))) (b8 (tC (V.str (Str.ofString "-"))) gH))))))))) (cn 9)) (fq 10)) (t_ (we K "list" ng (cn 4) (b8 (cv (eG K) (cn 10) (zT (fun xs H Q=>∃ i,xs = [V.int i]∧i.natAbs.log2 < 1920∧Q (V.str (Str.ofString (toString i))) H) (b8 (cv (jL K) (cn 8) (cv (rI (fun x j=>0 < j) fun i j=>V.int (i % j)) (cv (rI jn fun i j=>V.int (i / j)) (cn 7) (tC (V.int 5))) (tC (V.int 8)))) gH))) gH)))))))) { nx:=xh (we K "str" (rJoin K) (tC (V.str (Str.ofString " "))) (b8 (cv (eG K) (lM (b8 (cn 2) gH)) (cn 4)) gH)) { nx:=fun x H'=>Q V.aO H',rt:=Q },rt:=({ nx:=fun x H'=>Q V.aO H',rt:=Q }:Ends).rt } [some (V.int cell),some (V.ref lc),some (V.str w),some (V.ref lm),some (V.ref lp),none,none,none,none,none,none] H:=by
 refine o8 (fun i σ H2=>(∃ v5 v6 v7 v8 v9 v10,σ = [some (.int cell),some (.ref lc),some (.str w),some (.ref lm),some (.ref lp),v5,v6,v7,v8,v9,v10])∧(∀ b o,H b = some o→b ≠ lp→H2 b = some o)∧∃ ts:List Str,H2 lp = some (.lst (ts.map V.str))∧ts.length = i∧∀ t ∈ ts,t.length ≤ 2000) ⟨⟨_,_,_,_,_,_,rfl⟩,fun b o z _=>z,[],hp,rfl,fun t ht=>by cases ht⟩ ?_ ?_
 · rintro i σ H2 hi ⟨⟨v5, v6, v7, v8, v9, v10, rfl⟩, kp, ts, hts, htl, htn⟩
   have hm2:=kp _ _ hm hne
   walk_at "rd"
   rename_i l9 hl9
   refine sM (H0:=H2) (ar hl9) (a8 hm2 hl9) ak (by rw [List.length_map,sizeLine_eq];show _ + 1 ≤ _;omega) fun l10 H3 s3 h10=>?_
   have h10:H3 l10 = some (.lst ((ms ++ [9]).map V.int)):=by rw [List.map_append];exact h10
   obtain ⟨tp,htp,hat⟩:=m_ (ns:=ms ++ [9]) (i:=0 + (i:Int)) (by omega) (by rw [List.length_append];show _ < ((_ + 1:Nat):Int);omega)
   have htp2 : 0 ≤ tp ∧ tp ≤ 4294967295 := by
     rcases List.mem_append.mp htp with z | z
     · exact hms tp z
     · rw [List.mem_singleton.mp z];decide
   clear hl9
   obtain ⟨t1,t2⟩:=htp2
   walk_at "rd"
   refine ⟨_,_,rfl,rfl,by unfold jn;omega,?_⟩
   walk_at "rd"
   rename_i l8 hl8 l11 hl11
   generalize cell / (8 + 31 * (0 + (i:Int))) = far at *
   have hb:far / 7 % 4 / 3 = 0∨far / 7 % 4 / 3 = 1:=by omega
   have ho : 0 ≤ far / 7 % 32 % 8 * (far / 7 % 4 / 3) ∧ far / 7 % 32 % 8 * (far / 7 % 4 / 3) < 8 := by
     rcases hb with hb | hb <;> rw [hb] <;> omega
   obtain ⟨sg,hsg,hat2⟩:=wA ho.1 ho.2
   have f1:=Int.emod_nonneg far (show tp + 1 ≠ 0 by omega)
   have f2:=Int.emod_lt_of_pos far (show 0 < tp + 1 by omega)
   have e11:(10:Int) ^ Int.toNat 11 = 100000000000:=by decide
   have e10:(10:Int) ^ Int.toNat 10 = 10000000000:=by decide
   obtain ⟨nn,hnn,hat3⟩:=m_ (ns:=[far % (tp + 1),far % (tp + 1),0,tp,far % 8,tp + 1,far % 10 ^ Int.toNat 11,far % 10 ^ Int.toNat 10]) (i:=far / 5 % 8) (by omega) (by show _ < ((8:Nat):Int);omega)
   have hnb : 0 ≤ nn ∧ nn ≤ 100000000000 := by
     rw [e11,e10] at hnn
     simp only [List.mem_cons,List.not_mem_nil,or_false] at hnn
     rcases hnn with rfl | rfl | rfl | rfl | rfl | rfl | rfl | rfl <;> omega
   refine A6 ak hat2 fun H4 s4=>?_
   have h8:=s4 l8 _ (a8 ak hl11)
   have sx:aq H2 H4:=s3.trans (((ar hl8).trans (ar hl11)).trans s4)
   have hts3:=sx _ _ hts
   clear s4
   clear s3 hl8 hl11 h10 hat hat2 htp
   have hlg:=BI hnb.1 hnb.2
   have hln:=int_text_len_1921 (i:=nn) (by omega)
   walk_at "rd"
   refine ⟨by omega,?_⟩
   refine f6 (by rw [sizeLine_eq];omega) fun tx htx=>?_
   walk_at "rd"
   exact ⟨⟨_, _, _, _, _, _, rfl⟩, fun b o z hb => by rw [aB hb]; exact sx _ _ (kp b o z hb), ts ++ [tx], by rw [List.map_append]; exact ak, by rw [List.length_append, htl]; rfl, fun t ht => by
     rcases List.mem_append.mp ht with z | z
     · exact htn t z
     · rw [List.mem_singleton.mp z];omega⟩
 · rintro σ H2 ⟨⟨v5, v6, v7, v8, v9, v10, rfl⟩, kp, ts, hts, htl, htn⟩
   walk_at "rd"
   rename_i l12 hl12
   refine mY ak (a8 hts hl12) (by rw [List.length_map,sizeLine_eq];show 1 + _ ≤ _;omega) fun l13 hl13=>?_
   walk_at "rd"
   rw [show [V.str w] ++ ts.map V.str = (w :: ts).map V.str from rfl]
   have htw : ∀ t ∈ w :: ts, t.length ≤ 2000 := fun t ht => by
     rcases List.mem_cons.mp ht with rfl | z
     · omega
     · exact htn t z
   refine rS (aH.of ak) (joinOk_of (L:=2001) (N:=5) (fun t ht=>by have:=htw t ht;have e:(" " : Str).length = 1:=rfl;omega) (by rw [List.length_cons];omega) (by decide)) ?_
   refine q _ _ ?_ ?_
   · exact fun b o z => by
       have hb:b ≠ lp:=fun e=>by rw [e,n0] at z;cases z
       exact a8 (a8 (kp b o (s _ _ z) hb) hl12) hl13
   · have := join_le (sep := " ") (ts := w :: ts) (L := 2000) (N := 5) htw (by rw [List.length_cons]; omega)
     have e:(" " : Str).length = 1:=rfl
     omega
end
section
variable {P:Program} {w:World} {K:PySem.W.Frag} {mg:Str→Option Value} {base:Heap} {a:aP}
set_option maxHeartbeats 4000000 in
theorem aI (T : Txt w K mg a) : eF P w K mg base (bB P w) 1 "bounded" (mI a) := by
 refine gx (sp:=(mI a)) 0 T.lZ tI (fun vs H Q E h=>?_) (fun f cdv A outer s H vs Q E hr h=>?_)
 · obtain ⟨n, top, rfl, _⟩ := h
   rfl
 · obtain ⟨n, top, rfl, t0, t1, q, e⟩ := h
   refine ⟨_, (ag (aX (PT.br (PW.pt (mS (aF uj (pv 0) aj (aM _)) (mx (aF ke (pv 0) (pv 1) (aM _)))))) (ah (gf T.n9 rfl (aa (Bv (pv 1)) ae))) aE)
     (ah (PS.br (au (pv 0))))),?_⟩
   refine bb (σ':=[some _,some _]) rfl ?_
   walk_at "rd"
   refine eW (fun hh=>?_) (fun hh=>?_)
   · walk_at "rd"
     refine ⟨oR (by omega) (by omega),?_⟩
     walk_at "rd"
     exact ⟨by show 1 ≤ 1000;decide,e (by omega)⟩
   · walk_at "rd"
     refine eW (fun hh=>?_) (fun hh=>?_)
     · walk_at "rd"
       refine ⟨oR (by omega) (by omega),?_⟩
       walk_at "rd"
       exact ⟨by show 1 ≤ 1000;decide,e (by omega)⟩
     · walk_at "rd"
       exact q ⟨by omega,by omega⟩
end
section
variable {P:Program} {w:World} {K:PySem.W.Frag} {mg:Str→Option Value} {base:Heap} {a:aP}
set_option maxHeartbeats 4000000 in
theorem rp (T : Txt w K mg a) : eF P w K mg base cm 1 "is_number" p5 := by
 refine fm (sp:=p5) 0 T.jk rY (fun vs H Q E h=>?_) (fun f cdv A outer s H vs Q E hr h=>?_)
 · obtain ⟨x, rfl, _⟩ := h
   rfl
 · obtain ⟨x, rfl, hl, q⟩ := h
   have hll:x.cps.toList.length ≤ 1500000:=hl
   have key : ∀ (σ0 : L2.St) (hσ : ∃ v, σ0 = [v]) (fin : List V → Hp → Prop), fin (x.cps.toList.map fun c => V.bl (decide (c ∈ fi))) H → fT (qJ x) (fq 0) pB (cv wG (cn 0) (tC (V.str (Str.ofString "0123456789")))) fin σ0 H := by
     intro σ0 hσ fin hf
     refine pZ (fun i ys σ H2=>(∃ v,σ = [v])∧H2 = H∧ys = (x.cps.toList.take i).map fun c=>V.bl (decide (c ∈ fi))) ⟨hσ,rfl,rfl⟩ (fun i ys σ H2 hi ⟨_,_,e⟩=>by rw [e,List.length_map,List.length_take,sizeLine_eq];omega) ?_ ?_
     · rintro i d ys σ H2 hd ⟨⟨v, rfl⟩, rfl, rfl⟩
       walk_at "rd"
       refine ⟨d,_,rfl,rfl,?_⟩
       exact ⟨⟨_,rfl⟩,rfl,by rw [List.take_add_one,hd,Option.toList_some,List.map_append];rfl⟩
     · rintro ys σ H2 ⟨_, rfl, rfl⟩
       rw [List.take_length]
       exact hf
   have fin : ∀ p, H p = none → (1 ≤ x.cps.toList.length) → (x.cps.toList.length ≤ 10) → ¬ (x.cps.toList.head? = some 48 ∧ 1 < x.cps.toList.length) → tK K [.ref p] (upd H p (.lst (x.cps.toList.map fun c => V.bl (decide (c ∈ fi))))) Q := fun p hp h1 h2 h3 => by
     refine tW (bs:=x.cps.toList.map fun c=>decide (c ∈ fi)) (by rw [List.map_map];exact aH.of ak) ?_
     have e : (x.cps.toList.map fun c => decide (c ∈ fi)).all id = ck x := by
       unfold ck
       rw [decide_eq_true h1,decide_eq_true h2,List.all_map]
       have h4 : (x.cps.toList.head? == some 48 && decide (1 < x.cps.toList.length)) = false := by
         rw [Bool.and_eq_false_iff]
         by_cases hz:x.cps.toList.head? = some 48
         · exact .inr (decide_eq_false fun z=>h3 ⟨hz,z⟩)
         · exact .inl (by simpa using hz)
       rw [h4]
       simp only [Bool.true_and,Bool.not_false]
       rfl
     rw [e]
     exact q _ (by walk_at "same")
   refine ⟨_, (ag (aX (PW.pt (mS (aF (bz (K := K) rfl hr.units) (pv 0) ai (aM _)) (mx (aF ke (aU (bA (K := K) rfl) rfl T.cf dc (aa (pv 0) ae)) (aL (v := .int 10) rfl T.cQ.choose_spec ⟨_, rfl⟩) (aM _))))) (ah (au kn)) aE)
     (ag (aX (PW.pt (rq (aF (bz (K:=K) rfl hr.units) (cg (c6 (K:=K) rfl) (pv 0) aj (fun _ _=>rfl)) ai (aM _)) (nW (aF (iU (K:=K) rfl hr.units) (pv 0) ai (aM _))))) (ah (au kn)) aE)
     (ah (au (aU (jY (K:=K) rfl rfl) rfl T.ij uh (aa (kf (own:=["sign"]) (fr:=[]) rfl ⟨rfl,(by walk_at "clok"),(by walk_at "frok"),rfl,(by decide +kernel),(by decide +kernel),rfl⟩ (u6 (pv 0)) (fun _ _ _ _=>(cR (i:=0) (show List.Nodup [("sign" : Str)] from by decide +kernel) rfl (Or.inl rfl))) (fun _ _ _ _=>eV) (fun _ _ _ _=>(kj u5 (pv 0) (aL (v:=.str "0123456789") rfl T.fO.choose_spec ⟨_,rfl⟩) rfl))) ae)))))),?_⟩
   refine bb (σ':=[some _]) rfl ?_
   walk_at "rd"
   refine i7 (fun hh=>?_) (fun hne=>?_)
   · walk_at "rd"
     subst hh
     exact q H (aq.refl _)
   have hne2 : 1 ≤ x.cps.toList.length := by
     rcases Nat.eq_zero_or_pos x.cps.toList.length with z | z
     · exact absurd (j4 (show x.cps.toList = ("" : Str).cps.toList from List.length_eq_zero_iff.mp z)) hne
     · exact z
   walk_at "rd"
   refine ⟨_,_,rfl,⟨by rw [sizeLine_eq];omega,rfl⟩,?_⟩
   walk_at "rd"
   have hxl:x.length = x.cps.toList.length:=rfl
   refine eW (fun hh=>?_) (fun hh=>?_)
   · walk_at "rd"
     have e:ck x = false:=by unfold ck;rw [decide_eq_false (show ¬ x.cps.toList.length ≤ 10 by omega)];simp
     have q1:=q H (aq.refl _)
     rw [e] at q1
     exact q1
   obtain ⟨c,r,hcr⟩:∃ c r,x.cps.toList = c :: r:=List.exists_cons_of_length_pos hne2
   walk_at "rd"
   refine .inl (.inr (.inr ⟨_,0,c,rfl,rfl,by rw [sizeLine_eq];omega,by rw [hcr];exact ek (j:=0) rfl,?_⟩))
   walk_at "rd"
   refine i7 (fun hh2=>?_) (fun hh2=>?_)
   · have e48 : c = 48 := by
       have:=congrArg (fun x:Str=>x.cps.toList) hh2
       exact (List.cons.inj this).1
     subst e48
     walk_at "rd"
     refine uL (fun h3=>?_) (fun h3=>?_)
     · walk_at "rd"
       have q1:=q H (aq.refl _)
       rw [kF hcr h3] at q1
       exact q1
     · walk_at "rd"
       refine key _ ⟨_,rfl⟩ _ ?_
       intro p hp
       walk_at "rd"
       exact fin p hp hne2 (by omega) (fun z => by
         have z2:=z.2
         rw [h3] at z2
         exact absurd z2 (by decide))
   · walk_at "rd"
     refine key _ ⟨_,rfl⟩ _ ?_
     intro p hp
     walk_at "rd"
     exact fin p hp hne2 (by omega) (fun z => hh2 (j4 (by
       have z1:=z.1
       rw [hcr] at z1
       cases z1
       rfl)))
end
section
variable {P:Program} {w:World} {K:PySem.W.Frag} {mg:Str→Option Value} {base:Heap} {a:aP}
set_option maxHeartbeats 4000000 in
theorem sJ (T : Txt w K mg a) (b n : Int) : bW P w K mg base cm 1 a.bV "told" (bg a (.set b n)) := by
 refine b4 (sp:=(bg a (.set b n))) 0 T.pK T.ml sL (fun vs H Q E h=>?_) (fun f cdv A outer s H vs Q E hr h=>?_)
 · obtain ⟨x, rfl, _⟩ := h
   rfl
 · obtain ⟨x, rfl, ⟨dx, hx⟩, q⟩ := h
   change H x = some (.ins a.bV dx (aN "number" (.int n) (aN "box" (.int b) []))) at hx
   refine ⟨_,(ah (au (cN (aa ai (aa (a9 (K:=K) rfl (pv 0)) (aa (a9 (K:=K) rfl (pv 0)) ae)))))),?_⟩
   refine bb (σ':=[some _]) rfl ?_
   walk_at "rd"
   exact q _ (by assumption)
end
section
variable {P:Program} {w:World} {K:PySem.W.Frag} {mg:Str→Option Value} {base:Heap} {a:aP}
set_option maxHeartbeats 4000000 in
theorem pM (T : Txt w K mg a) (b o : Int) : bW P w K mg base cm 1 a.bC "told" (bg a (.copy b o)) := by
 refine b4 (sp:=(bg a (.copy b o))) 0 T.m7 T.kY qz (fun vs H Q E h=>?_) (fun f cdv A outer s H vs Q E hr h=>?_)
 · obtain ⟨x, rfl, _⟩ := h
   rfl
 · obtain ⟨x, rfl, ⟨dx, hx⟩, q⟩ := h
   change H x = some (.ins a.bC dx (aN "one" (.int o) (aN "box" (.int b) []))) at hx
   refine ⟨_,(ah (au (cN (aa ai (aa (a9 (K:=K) rfl (pv 0)) (aa (a9 (K:=K) rfl (pv 0)) ae)))))),?_⟩
   refine bb (σ':=[some _]) rfl ?_
   walk_at "rd"
   exact q _ (by assumption)
end
section
variable {P:Program} {w:World} {K:PySem.W.Frag} {mg:Str→Option Value} {base:Heap} {a:aP}
set_option maxHeartbeats 4000000 in
theorem sA (T : Txt w K mg a) (b o t : Int) : bW P w K mg base cm 1 a.bP "told" (bg a (.add b o t)) := by
 refine b4 (sp:=(bg a (.add b o t))) 0 T.qi T.mv sq (fun vs H Q E h=>?_) (fun f cdv A outer s H vs Q E hr h=>?_)
 · obtain ⟨x, rfl, _⟩ := h
   rfl
 · obtain ⟨x, rfl, ⟨dx, hx⟩, q⟩ := h
   change H x = some (.ins a.bP dx (aN "other" (.int t) (aN "one" (.int o) (aN "box" (.int b) [])))) at hx
   refine ⟨_,(ah (au (cN (aa ai (aa (a9 (K:=K) rfl (pv 0)) (aa (a9 (K:=K) rfl (pv 0)) (aa (a9 (K:=K) rfl (pv 0)) ae))))))),?_⟩
   refine bb (σ':=[some _]) rfl ?_
   walk_at "rd"
   exact q _ (by assumption)
end
section
variable {P:Program} {w:World} {K:PySem.W.Frag} {mg:Str→Option Value} {base:Heap} {a:aP}
set_option maxHeartbeats 4000000 in
theorem sG (T : Txt w K mg a) (b o t : Int) : bW P w K mg base cm 1 a.bO "told" (bg a (.sub b o t)) := by
 refine b4 (sp:=(bg a (.sub b o t))) 0 T.qO T.mO sh (fun vs H Q E h=>?_) (fun f cdv A outer s H vs Q E hr h=>?_)
 · obtain ⟨x, rfl, _⟩ := h
   rfl
 · obtain ⟨x, rfl, ⟨dx, hx⟩, q⟩ := h
   change H x = some (.ins a.bO dx (aN "other" (.int t) (aN "one" (.int o) (aN "box" (.int b) [])))) at hx
   refine ⟨_,(ah (au (cN (aa ai (aa (a9 (K:=K) rfl (pv 0)) (aa (a9 (K:=K) rfl (pv 0)) (aa (a9 (K:=K) rfl (pv 0)) ae))))))),?_⟩
   refine bb (σ':=[some _]) rfl ?_
   walk_at "rd"
   exact q _ (by assumption)
end
section
variable {P:Program} {w:World} {K:PySem.W.Frag} {mg:Str→Option Value} {base:Heap} {a:aP}
set_option maxHeartbeats 4000000 in
theorem so (T : Txt w K mg a) (b o t : Int) : bW P w K mg base cm 1 a.bN "told" (bg a (.mul b o t)) := by
 refine b4 (sp:=(bg a (.mul b o t))) 0 T.qw T.mM se (fun vs H Q E h=>?_) (fun f cdv A outer s H vs Q E hr h=>?_)
 · obtain ⟨x, rfl, _⟩ := h
   rfl
 · obtain ⟨x, rfl, ⟨dx, hx⟩, q⟩ := h
   change H x = some (.ins a.bN dx (aN "other" (.int t) (aN "one" (.int o) (aN "box" (.int b) [])))) at hx
   refine ⟨_,(ah (au (cN (aa ai (aa (a9 (K:=K) rfl (pv 0)) (aa (a9 (K:=K) rfl (pv 0)) (aa (a9 (K:=K) rfl (pv 0)) ae))))))),?_⟩
   refine bb (σ':=[some _]) rfl ?_
   walk_at "rd"
   exact q _ (by assumption)
end
section
variable {P:Program} {w:World} {K:PySem.W.Frag} {mg:Str→Option Value} {base:Heap} {a:aP}
set_option maxHeartbeats 4000000 in
theorem rR (T : Txt w K mg a) (b o t : Int) : bW P w K mg base cm 1 a.bw "told" (bg a (.less b o t)) := by
 refine b4 (sp:=(bg a (.less b o t))) 0 T.nu T.k6 rE (fun vs H Q E h=>?_) (fun f cdv A outer s H vs Q E hr h=>?_)
 · obtain ⟨x, rfl, _⟩ := h
   rfl
 · obtain ⟨x, rfl, ⟨dx, hx⟩, q⟩ := h
   change H x = some (.ins a.bw dx (aN "other" (.int t) (aN "one" (.int o) (aN "box" (.int b) [])))) at hx
   refine ⟨_,(ah (au (cN (aa ai (aa (a9 (K:=K) rfl (pv 0)) (aa (a9 (K:=K) rfl (pv 0)) (aa (a9 (K:=K) rfl (pv 0)) ae))))))),?_⟩
   refine bb (σ':=[some _]) rfl ?_
   walk_at "rd"
   exact q _ (by assumption)
end
section
variable {P:Program} {w:World} {K:PySem.W.Frag} {mg:Str→Option Value} {base:Heap} {a:aP}
set_option maxHeartbeats 4000000 in
theorem qd (T : Txt w K mg a) (m : Int) : bW P w K mg base cm 1 a.bJ "told" (bg a (.grow m)) := by
 refine b4 (sp:=(bg a (.grow m))) 0 T.mZ T.kI qH (fun vs H Q E h=>?_) (fun f cdv A outer s H vs Q E hr h=>?_)
 · obtain ⟨x, rfl, _⟩ := h
   rfl
 · obtain ⟨x, rfl, ⟨dx, hx⟩, q⟩ := h
   change H x = some (.ins a.bJ dx (aN "many" (.int m) [])) at hx
   refine ⟨_,(ah (au (cN (aa ai (aa (a9 (K:=K) rfl (pv 0)) ae))))),?_⟩
   refine bb (σ':=[some _]) rfl ?_
   walk_at "rd"
   exact q _ (by assumption)
end
section
variable {P:Program} {w:World} {K:PySem.W.Frag} {mg:Str→Option Value} {base:Heap} {a:aP}
set_option maxHeartbeats 4000000 in
theorem oo (T : Txt w K mg a) (m : Int) : bW P w K mg base cm 1 a.bh "told" (bg a (.shrink m)) := by
 refine b4 (sp:=(bg a (.shrink m))) 0 T.jU T.je og (fun vs H Q E h=>?_) (fun f cdv A outer s H vs Q E hr h=>?_)
 · obtain ⟨x, rfl, _⟩ := h
   rfl
 · obtain ⟨x, rfl, ⟨dx, hx⟩, q⟩ := h
   change H x = some (.ins a.bh dx (aN "many" (.int m) [])) at hx
   refine ⟨_,(ah (au (cN (aa ai (aa (a9 (K:=K) rfl (pv 0)) ae))))),?_⟩
   refine bb (σ':=[some _]) rfl ?_
   walk_at "rd"
   exact q _ (by assumption)
end
section
variable {P:Program} {w:World} {K:PySem.W.Frag} {mg:Str→Option Value} {base:Heap} {a:aP}
set_option maxHeartbeats 4000000 in
theorem sj (T : Txt w K mg a) (b c : Int) : bW P w K mg base cm 1 a.bU "told" (bg a (.put b c)) := by
 refine b4 (sp:=(bg a (.put b c))) 0 T.p7 T.mH sE (fun vs H Q E h=>?_) (fun f cdv A outer s H vs Q E hr h=>?_)
 · obtain ⟨x, rfl, _⟩ := h
   rfl
 · obtain ⟨x, rfl, ⟨dx, hx⟩, q⟩ := h
   change H x = some (.ins a.bU dx (aN "cell" (.int c) (aN "box" (.int b) []))) at hx
   refine ⟨_,(ah (au (cN (aa ai (aa (a9 (K:=K) rfl (pv 0)) (aa (a9 (K:=K) rfl (pv 0)) ae)))))),?_⟩
   refine bb (σ':=[some _]) rfl ?_
   walk_at "rd"
   exact q _ (by assumption)
end
section
variable {P:Program} {w:World} {K:PySem.W.Frag} {mg:Str→Option Value} {base:Heap} {a:aP}
set_option maxHeartbeats 4000000 in
theorem sk (T : Txt w K mg a) (b c : Int) : bW P w K mg base cm 1 a.bX "told" (bg a (.get b c)) := by
 refine b4 (sp:=(bg a (.get b c))) 0 T.ri T.mR sH (fun vs H Q E h=>?_) (fun f cdv A outer s H vs Q E hr h=>?_)
 · obtain ⟨x, rfl, _⟩ := h
   rfl
 · obtain ⟨x, rfl, ⟨dx, hx⟩, q⟩ := h
   change H x = some (.ins a.bX dx (aN "cell" (.int c) (aN "box" (.int b) []))) at hx
   refine ⟨_,(ah (au (cN (aa ai (aa (a9 (K:=K) rfl (pv 0)) (aa (a9 (K:=K) rfl (pv 0)) ae)))))),?_⟩
   refine bb (σ':=[some _]) rfl ?_
   walk_at "rd"
   exact q _ (by assumption)
end
section
variable {P:Program} {w:World} {K:PySem.W.Frag} {mg:Str→Option Value} {base:Heap} {a:aP}
set_option maxHeartbeats 4000000 in
theorem qT (T : Txt w K mg a) (t : Int) : bW P w K mg base cm 1 a.bI "told" (bg a (.gD t)) := by
 refine b4 (sp:=(bg a (.gD t))) 0 T.nG T.kO pW (fun vs H Q E h=>?_) (fun f cdv A outer s H vs Q E hr h=>?_)
 · obtain ⟨x, rfl, _⟩ := h
   rfl
 · obtain ⟨x, rfl, ⟨dx, hx⟩, q⟩ := h
   change H x = some (.ins a.bI dx (aN "target" (.int t) [])) at hx
   refine ⟨_,(ah (au (cN (aa ai (aa (a9 (K:=K) rfl (pv 0)) ae))))),?_⟩
   refine bb (σ':=[some _]) rfl ?_
   walk_at "rd"
   exact q _ (by assumption)
end
section
variable {P:Program} {w:World} {K:PySem.W.Frag} {mg:Str→Option Value} {base:Heap} {a:aP}
set_option maxHeartbeats 4000000 in
theorem oA (T : Txt w K mg a) (b t : Int) : bW P w K mg base cm 1 a.a6 "told" (bg a (.branch b t)) := by
 refine b4 (sp:=(bg a (.branch b t))) 0 T.j3 T.jd mU (fun vs H Q E h=>?_) (fun f cdv A outer s H vs Q E hr h=>?_)
 · obtain ⟨x, rfl, _⟩ := h
   rfl
 · obtain ⟨x, rfl, ⟨dx, hx⟩, q⟩ := h
   change H x = some (.ins a.a6 dx (aN "target" (.int t) (aN "box" (.int b) []))) at hx
   refine ⟨_,(ah (au (cN (aa ai (aa (a9 (K:=K) rfl (pv 0)) (aa (a9 (K:=K) rfl (pv 0)) ae)))))),?_⟩
   refine bb (σ':=[some _]) rfl ?_
   walk_at "rd"
   exact q _ (by assumption)
end
section
variable {P:Program} {w:World} {K:PySem.W.Frag} {mg:Str→Option Value} {base:Heap} {a:aP}
set_option maxHeartbeats 4000000 in
theorem pY (T : Txt w K mg a) (t : Int) : bW P w K mg base cm 1 a.bK "told" (bg a (.call t)) := by
 refine b4 (sp:=(bg a (.call t))) 0 T.oE T.kH qr (fun vs H Q E h=>?_) (fun f cdv A outer s H vs Q E hr h=>?_)
 · obtain ⟨x, rfl, _⟩ := h
   rfl
 · obtain ⟨x, rfl, ⟨dx, hx⟩, q⟩ := h
   change H x = some (.ins a.bK dx (aN "target" (.int t) [])) at hx
   refine ⟨_,(ah (au (cN (aa ai (aa (a9 (K:=K) rfl (pv 0)) ae))))),?_⟩
   refine bb (σ':=[some _]) rfl ?_
   walk_at "rd"
   exact q _ (by assumption)
end
section
variable {P:Program} {w:World} {K:PySem.W.Frag} {mg:Str→Option Value} {base:Heap} {a:aP}
set_option maxHeartbeats 4000000 in
theorem pX (T : Txt w K mg a) (b : Int) : bW P w K mg base cm 1 a.bL "told" (bg a (.back b)) := by
 refine b4 (sp:=(bg a (.back b))) 0 T.nH T.kS qA (fun vs H Q E h=>?_) (fun f cdv A outer s H vs Q E hr h=>?_)
 · obtain ⟨x, rfl, _⟩ := h
   rfl
 · obtain ⟨x, rfl, ⟨dx, hx⟩, q⟩ := h
   change H x = some (.ins a.bL dx (aN "box" (.int b) [])) at hx
   refine ⟨_,(ah (au (cN (aa ai (aa (a9 (K:=K) rfl (pv 0)) ae))))),?_⟩
   refine bb (σ':=[some _]) rfl ?_
   walk_at "rd"
   exact q _ (by assumption)
end
section
variable {P:Program} {w:World} {K:PySem.W.Frag} {mg:Str→Option Value} {base:Heap} {a:aP}
set_option maxHeartbeats 4000000 in
theorem qE (T : Txt w K mg a) (b : Int) : bW P w K mg base cm 1 a.bM "told" (bg a (.drop b)) := by
 refine b4 (sp:=(bg a (.drop b))) 0 T.oa T.kQ rm (fun vs H Q E h=>?_) (fun f cdv A outer s H vs Q E hr h=>?_)
 · obtain ⟨x, rfl, _⟩ := h
   rfl
 · obtain ⟨x, rfl, ⟨dx, hx⟩, q⟩ := h
   change H x = some (.ins a.bM dx (aN "box" (.int b) [])) at hx
   refine ⟨_,(ah (au (cN (aa ai (aa (a9 (K:=K) rfl (pv 0)) ae))))),?_⟩
   refine bb (σ':=[some _]) rfl ?_
   walk_at "rd"
   exact q _ (by assumption)
end
section
variable {P:Program} {w:World} {K:PySem.W.Frag} {mg:Str→Option Value} {base:Heap} {a:aP}
set_option maxHeartbeats 4000000 in
theorem gO (T : Txt w K mg a) : eF P w K mg base (bB P w) 1 "asked_for_text" (uE a) := by
 refine gx (sp:=(uE a)) 0 T.gN ku (fun vs H Q E h=>?_) (fun f cdv A outer s H vs Q E hr h=>?_)
 · obtain ⟨v, rfl, _⟩ := h
   rfl
 · obtain ⟨v, rfl, h⟩ := h
   refine ⟨_,(ah (aX (PT.br (iC (fh (K:=K) rfl (aU (ib (K:=K) rfl) rfl T.bt cy (aa (pv 0) (aa (kq (v:=.ty "str") rfl T.gk mm rfl) ae)))))) (ah (gf T.fw rfl (aa ai ae))) aE)),?_⟩
   refine bb (σ':=[some _]) rfl ?_
   rcases h with ⟨x,rfl,q⟩ | ⟨hn,e⟩
   · walk_at "rd"
     exact q
   · rcases hn with rfl | ⟨i, rfl⟩ | ⟨l, xs, rfl, hl⟩
     · walk_at "rd"
       exact ⟨by decide,e⟩
     · walk_at "rd"
       exact ⟨by decide,e⟩
     · walk_at "rd"
       exact ⟨by decide,e⟩
end
section
variable {P:Program} {w:World} {K:PySem.W.Frag} {mg:Str→Option Value} {base:Heap} {a:aP}
set_option maxHeartbeats 4000000 in
theorem oj (T : Txt w K mg a) : eF P w K mg base cm 1 "_law_cell_at" (lu K) := by
 refine fm (sp:=(lu K)) 0 T.iH nK (fun vs H Q E h=>?_) (fun f cdv A outer s H vs Q E hr h=>?_)
 · obtain ⟨p, ns, k, rfl, _⟩ := h
   rfl
 · obtain ⟨p, ns, k, rfl, hS, h0, q⟩ := h
   refine ⟨_, (ag (aX (aF uj (pv 1) (aU (bA (K := K) rfl) rfl T.cf dc (aa (pv 0) ae)) (aM _)) (ah (au (cg (c6 (K := K) rfl) (pv 0) (pv 1) (fun _ _ => rfl)))) aE)
     (ah (au aj))),?_⟩
   refine bb (σ':=[some _,some _]) rfl ?_
   walk_at "rd"
   refine eW (fun hh=>?_) (fun hh=>?_)
   · walk_at "rd"
     exact q
   · walk_at "rd"
     have e:=tQ h0 hh
     rw [e] at q
     exact q
end
section
variable {P:Program} {w:World} {K:PySem.W.Frag} {mg:Str→Option Value} {base:Heap} {a:aP}
set_option maxHeartbeats 4000000 in
theorem k7 (T : Txt w K mg a) : eF P w K mg base cm 1 "_law_most" u0 := by
 refine fm (sp:=u0) 0 T.k8 il (fun vs H Q E h=>?_) (fun f cdv A outer s H vs Q E hr h=>?_)
 · obtain ⟨w, rfl, _⟩ := h
   rfl
 · obtain ⟨w, rfl, qn, q⟩ := h
   refine' ⟨_,?mC,?_⟩
   (case mC=>(refine' ag ?NH ?NU;(case NU=>(refine' ag ?ND ?NL;(case NL=>(refine' ag ?Nz ?NC;(case NC=>(refine' ag ?NR ?NS;(case NS=>exact (ah (au (wt (Kd hr) (pv 1) (pv 0) ⟨rfl,rfl,rfl,rfl⟩))));(case NR=>(refine' iO ?NF;(case NF=>(refine' fj (K:=K) rfl PySem.F.plainAttrs_dict PySem.F.slot_dict_update PySem.F.type_dict_update tm ?MR ?M6;(case MR=>exact (pv 1));(case M6=>(refine' aa ?MC ?MI ?MB;(case MB=>rfl);(case MC=>(refine' nU ?Mg ?L9 ?Mv ?Mf ?Mb;(case Mg=>(refine' bZ ?LZ ?Lz ?Mh;(case LZ=>exact ai);(case Lz=>(refine' bc ?MJ;(case MJ=>(refine' aa ?Lx ?LJ ?MY;(case MY=>rfl);(case Lx=>exact aj);(case LJ=>exact ae)))));(case Mh=>(refine' bZ ?L_ ?MK ?LO;(case L_=>exact ai);(case MK=>(refine' bc ?MT;(case MT=>(refine' aa ?LK ?Mc ?M7;(case M7=>rfl);(case LK=>exact aj);(case Mc=>(refine' aa ?Nc ?Ni ?M5;(case M5=>rfl);(case Nc=>exact aj);(case Ni=>exact ae)))))));(case LO=>(refine' bZ ?MM ?Nl ?Mu;(case MM=>exact ai);(case Nl=>(refine' bc ?L1;(case L1=>(refine' aa ?MF ?Ma ?Nh;(case Nh=>rfl);(case MF=>exact aj);(case Ma=>exact ae)))));(case Mu=>(refine' bZ ?MV ?Mn ?LW;(case MV=>exact ai);(case Mn=>(refine' bc ?LQ;(case LQ=>(refine' aa ?MZ ?LY ?M9;(case M9=>rfl);(case MZ=>exact aj);(case LY=>exact ae)))));(case LW=>(refine' bZ ?Mi ?L8 ?Nn;(case Mi=>exact ai);(case L8=>(refine' bc ?Nb;(case Nb=>(refine' aa ?Nm ?MU ?Np;(case Np=>rfl);(case Nm=>exact aj);(case MU=>exact ae)))));(case Nn=>exact nA)))))))))));(case L9=>rfl);(case Mv=>rfl);(case Mf=>(intro z;cases z));(case Mb=>exact Nat.le_of_ble_eq_true rfl)));(case MI=>exact ae)))))))));(case Nz=>exact (iO (fj (K:=K) rfl PySem.F.plainAttrs_dict PySem.F.slot_dict_update PySem.F.type_dict_update tm (pv 1) (aa (pv 2) ae))))));(case ND=>(refine' aQ (i:=2) ?MG ?Mt ?Ng ?Na ?MX ?MQ;(case MG=>exact il.nd);(case Mt=>rfl);(case Ng=>exact (Or.inl rfl));(case MX=>rfl);(case MQ=>exact .inl rfl);(case Na=>(refine' nU ?Nd ?L4 ?LL ?LP ?L6;(case Nd=>(refine' bZ ?M4 ?LC ?M8;(case M4=>exact ai);(case LC=>(refine' bc ?MO;(case MO=>(refine' aa ?LB ?LV ?Me;(case Me=>rfl);(case LB=>exact aj);(case LV=>(refine' aa ?Mm ?LU ?Nj;(case Nj=>rfl);(case Mm=>exact aj);(case LU=>(refine' aa ?LS ?Mj ?Lv;(case Lv=>rfl);(case LS=>exact aj);(case Mj=>exact ae)))))))));(case M8=>(refine' bZ ?L7 ?Nf ?LN;(case L7=>exact ai);(case Nf=>(refine' bc ?LX;(case LX=>(refine' aa ?LA ?Mz ?MW;(case MW=>rfl);(case LA=>exact aj);(case Mz=>exact ae)))));(case LN=>(refine' bZ ?Nq ?L0 ?Ms;(case Nq=>exact ai);(case L0=>(refine' bc ?Lw;(case Lw=>(refine' aa ?L5 ?M3 ?MD;(case MD=>rfl);(case L5=>exact aj);(case M3=>exact ae)))));(case Ms=>(refine' bZ ?MN ?Mw ?Mp;(case MN=>exact ai);(case Mw=>(refine' bc ?Ml;(case Ml=>(refine' aa ?JM ?K4 ?FG;(case FG=>rfl);(case JM=>exact aj);(case K4=>(refine' aa ?JA ?Li ?HI;(case HI=>rfl);(case JA=>exact aj);(case Li=>exact ae)))))));(case Mp=>(refine' bZ ?G0 ?Jy ?F9;(case G0=>exact ai);(case Jy=>(refine' bc ?KJ;(case KJ=>(refine' aa ?Fp ?E5 ?Kq;(case Kq=>rfl);(case Fp=>exact aj);(case E5=>(refine' aa ?II ?Lg ?HJ;(case HJ=>rfl);(case II=>exact aj);(case Lg=>exact ae)))))));(case F9=>exact nA)))))))))));(case L4=>rfl);(case LL=>rfl);(case LP=>(intro z;cases z));(case L6=>exact Nat.le_of_ble_eq_true rfl)))))));(case NH=>(refine' aQ (i:=1) ?Jk ?Ks ?G7 ?J6 ?Ff ?HW;(case Jk=>exact il.nd);(case Ks=>rfl);(case G7=>exact (Or.inl rfl));(case Ff=>rfl);(case HW=>exact .inl rfl);(case J6=>(refine' nU ?Hs ?IF ?Ky ?IQ ?Gq;(case Hs=>(refine' bZ ?Gf ?Hh ?Gj;(case Gf=>exact ai);(case Hh=>(refine' bc ?Ip;(case Ip=>(refine' aa ?H_ ?Hg ?IK;(case IK=>rfl);(case H_=>exact aj);(case Hg=>(refine' aa ?IB ?Fg ?Gc;(case Gc=>rfl);(case IB=>exact aj);(case Fg=>exact ae)))))));(case Gj=>(refine' bZ ?ID ?J9 ?Jp;(case ID=>exact ai);(case J9=>(refine' bc ?JY;(case JY=>(refine' aa ?GJ ?Fe ?Fw;(case Fw=>rfl);(case GJ=>exact aj);(case Fe=>(refine' aa ?FO ?Gn ?GL;(case GL=>rfl);(case FO=>exact aj);(case Gn=>exact ae)))))));(case Jp=>(refine' bZ ?Gr ?GB ?Hl;(case Gr=>exact ai);(case GB=>(refine' bc ?K_;(case K_=>(refine' aa ?HF ?Gy ?Gg;(case Gg=>rfl);(case HF=>exact aj);(case Gy=>(refine' aa ?Ik ?KZ ?HC;(case HC=>rfl);(case Ik=>exact aj);(case KZ=>(refine' aa ?JS ?IX ?Jw;(case Jw=>rfl);(case JS=>exact aj);(case IX=>exact ae)))))))));(case Hl=>(refine' bZ ?JJ ?KY ?JU;(case JJ=>exact ai);(case KY=>(refine' bc ?I_;(case I_=>(refine' aa ?Lc ?Ga ?FV;(case FV=>rfl);(case Lc=>exact aj);(case Ga=>(refine' aa ?E2 ?Gh ?Ir;(case Ir=>rfl);(case E2=>exact aj);(case Gh=>(refine' aa ?Jd ?Fs ?Fd;(case Fd=>rfl);(case Jd=>exact aj);(case Fs=>exact ae)))))))));(case JU=>(refine' bZ ?Hv ?EZ ?JK;(case Hv=>exact ai);(case EZ=>(refine' bc ?La;(case La=>(refine' aa ?Ht ?E7 ?Ku;(case Ku=>rfl);(case Ht=>exact aj);(case E7=>(refine' aa ?IJ ?Ib ?E8;(case E8=>rfl);(case IJ=>exact aj);(case Ib=>(refine' aa ?EY ?E4 ?GW;(case GW=>rfl);(case EY=>exact aj);(case E4=>exact ae)))))))));(case JK=>exact nA)))))))))));(case IF=>rfl);(case Ky=>rfl);(case IQ=>(intro z;cases z));(case Gq=>exact Nat.le_of_ble_eq_true rfl)))))))
   refine bb (σ':=[some _,none,none]) rfl ?_
   walk_at "rd"
   refine oh (ks:=kA) (by decide) (by decide) (by decide +kernel) fun p1 l1 H1 n1 s1 a1=>?_
   obtain ⟨S1,d1,A1⟩:=i0 (kv:=cj kA l1) n1 s1 a1
   generalize upd H1 p1 (.dK (cj kA l1)) = G1 at S1 d1 A1 ⊢
   clear s1 a1
   walk_at "rd"
   refine oh (ks:=kB) (by decide) (by decide) (by decide +kernel) fun p2 l2 H2 n2 s2 a2=>?_
   obtain ⟨S2,d2,A2⟩:=i0 (kv:=cj kB l2) n2 s2 a2
   generalize upd H2 p2 (.dK (cj kB l2)) = G2 at S2 d2 A2 ⊢
   clear s2 a2
   have hne:p1 ≠ p2:=fun e=>by rw [e,n2] at d1;cases d1
   have d1':=S2 _ _ d1
   have A1':=A1.same S2
   have S3:=S1.trans S2
   clear S1 S2 A1 d1 n2
   walk_at "rd"
   refine AM d1' ?_
   walk_at "rd"
   refine vq hne d1' d2 (by unfold cj;rw [List.length_map,List.length_map,List.length_zip,List.length_zip,sizeLine_eq,A1'.1,A2.1];decide) ?_
   rw [gQ (cj kB l2) (cj kA l1) (by rw [eJ A2.1];decide +kernel) (by rw [eJ A2.1,eJ A1'.1];exact tw (by decide +kernel)),tH A1'.1]
   have A3:eU (upd G2 p1 (.dK (cj (kA ++ kB) (l1 ++ l2)))) (kA ++ kB) (l1 ++ l2):=(A1'.app A2).upd d1'
   have S4:aq H (upd G2 p1 (.dK (cj (kA ++ kB) (l1 ++ l2)))):=qp n1 S3
   have d3:(upd G2 p1 (.dK (cj (kA ++ kB) (l1 ++ l2)))) p1 = some (.dK (cj (kA ++ kB) (l1 ++ l2))):=ak
   generalize upd G2 p1 (.dK (cj (kA ++ kB) (l1 ++ l2))) = G3 at A3 S4 d3 ⊢
   clear d1' d2 A1' A2 S3 hne
   generalize l1 ++ l2 = l12 at *
   walk_at "rd"
   refine AM d3 ?_
   walk_at "rd"
   refine oh (ks:=kC) (by decide) (by decide) (by decide +kernel) fun p4 l4 H4 n4 s4 a4=>?_
   obtain ⟨S5,d4,A4⟩:=i0 (kv:=cj kC l4) n4 s4 a4
   generalize upd H4 p4 (.dK (cj kC l4)) = G4 at S5 d4 A4 ⊢
   clear s4 a4
   have hne:p1 ≠ p4:=fun e=>by rw [e,n4] at d3;cases d3
   have d3':=S5 _ _ d3
   have A3':=A3.same S5
   have S6:=S4.trans S5
   clear S4 S5 A3 d3 n4
   walk_at "rd"
   refine vq hne d3' d4 (by unfold cj;rw [List.length_map,List.length_map,List.length_zip,List.length_zip,sizeLine_eq,A3'.1,A4.1];decide) ?_
   rw [gQ (cj kC l4) (cj (kA ++ kB) l12) (by rw [eJ A4.1];decide +kernel) (by rw [eJ A4.1,eJ A3'.1];exact tw (by decide +kernel)),tH A3'.1,← uP]
   have A5:eU (upd G4 p1 (.dK (cj kinds (l12 ++ l4)))) kinds (l12 ++ l4):=(A3'.app A4).upd d3'
   have S7:aq H (upd G4 p1 (.dK (cj kinds (l12 ++ l4)))):=qp n1 S6
   have d5:(upd G4 p1 (.dK (cj kinds (l12 ++ l4)))) p1 = some (.dK (cj kinds (l12 ++ l4))):=ak
   generalize upd G4 p1 (.dK (cj kinds (l12 ++ l4))) = G5 at A5 S7 d5 ⊢
   generalize l12 ++ l4 = l5 at *
   clear d3' d4 A3' A4 S6 hne
   obtain ⟨v1,v2⟩:=s_ w A5
   walk_at "rd"
   refine A0 ?_
   walk_at "rd"
   refine ⟨.inl ⟨_,.inl d5⟩,?_⟩
   walk_at "rd"
   cases hk:kinds.lookup w with
   | none=>exact ⟨_,.inl ⟨_,.inr w,.inl d5,rfl,(v1 hk).symm⟩,qn hk _ S7⟩
   | some ms =>
     obtain ⟨l,e1,e2⟩:=v2 ms hk
     exact ⟨_,.inl ⟨_,.inr w,.inl d5,rfl,e1.symm⟩,q ms hk l _ S7 e2⟩
end
section
variable {P:Program} {w:World} {K:PySem.W.Frag} {mg:Str→Option Value} {base:Heap} {a:aP}
set_option maxHeartbeats 4000000 in
theorem sF (T : Txt w K mg a) : eF P w K mg base cm 1 "_law_free" vS := by
 refine fm (sp:=vS) 0 T.kD eh (fun vs H Q E h=>?_) (fun f cdv A outer s H vs Q E hr h=>?_)
 · obtain ⟨c, sg, rfl, _⟩ := h
   rfl
 · obtain ⟨c, sg, rfl, h1, h2, q⟩ := h
   refine ⟨_, (ag (aQ (i := 2) eh.nd rfl (Or.inl rfl) ai)
     (ag (aQ (i:=3) eh.nd rfl (Or.inl rfl) (aG cU (pv 0) aj))
     (ag (rN PassesOwn.never rfl (oP rfl T.gc (aa (aG bQ (pv 0) aj) ae)) (cR (i:=4) eh.nd rfl (Or.inl rfl)) (ag (aQ (i:=2) eh.nd rfl (Or.inl rfl) (aG (bo (K:=K) rfl) (pv 2) (cg (c6 (K:=K) rfl) (pv 1) (aG bQ (pv 3) (aU (bA (K:=K) rfl) rfl T.cf dc (aa (pv 1) ae))) (fun _ _=>rfl))))
     (ah (aQ (i:=3) eh.nd rfl (Or.inl rfl) (aG cU (pv 3) (aU (bA (K:=K) rfl) rfl T.cf dc (aa (pv 1) ae)))))))
     (ah (au (pv 2)))))),?_⟩
   refine bb (σ':=[some _,some _,none,none,none]) rfl ?_
   walk_at "rd"
   have z0 : 0 ≤ c % 64:=Int.emod_nonneg _ (by decide)
   have z1:c % 64 < 64:=Int.emod_lt_of_pos _ (by decide)
   refine o8 (fun i σ H2=>H2 = H∧∃ (t:Str) (r:Int) (v:Option V),t.length = i∧σ = [some (.int c),some (.str sg),some (.str t),some (.int r),v]) ⟨rfl,"",c / 64,none,rfl,rfl⟩ ?_ ?_
   · rintro i σ H2 hi ⟨rfl, t, r, v, ht, rfl⟩
     walk_at "rd"
     refine g8 (by rw [sizeLine_eq];omega) ?_
     have y0 : 0 ≤ r % ((sg.length:Nat):Int):=Int.emod_nonneg _ (by omega)
     have y1:r % ((sg.length:Nat):Int) < (sg.length:Nat):=Int.emod_lt_of_pos _ (by omega)
     walk_at "rd"
     refine Au y0 y1 (by rw [sizeLine_eq];omega) fun ch=>?_
     walk_at "rd"
     refine f6 (by rw [sizeLine_eq];show _ + 1 ≤ _;omega) fun t2 ht2=>?_
     have ht3:t2.length = t.length + 1:=ht2
     walk_at "rd"
     refine g8 (by rw [sizeLine_eq];omega) ?_
     walk_at "rd"
     refine ⟨_,_,rfl,rfl,by unfold jn;omega,?_⟩
     walk_at "rd"
     exact ⟨rfl,t2,_,_,by omega,rfl⟩
   · rintro σ H2 ⟨rfl, t, r, v, ht, rfl⟩
     walk_at "rd"
     exact q t _ (aq.refl _) (by omega)
end
section
variable {P:Program} {w:World} {K:PySem.W.Frag} {mg:Str→Option Value} {base:Heap} {a:aP}
set_option maxHeartbeats 4000000 in
theorem pA (T : Txt w K mg a) : eF P w K mg base cm 1 "_law_number" vK := by
 refine fm (sp:=vK) 0 T.jg pq (fun vs H Q E h=>?_) (fun f cdv A outer s H vs Q E hr h=>?_)
 · obtain ⟨x, rfl, _⟩ := h
   rfl
 · obtain ⟨x, rfl, hl, q, qn⟩ := h
   have hll:x.cps.toList.length ≤ 1500000:=hl
   have hxl:x.length = x.cps.toList.length:=rfl
   have nn:ck x = false→bS x = none:=fun z=>by unfold bS;rw [z,if_neg (by decide)]
   have key : ∀ (σ0 : L2.St) (hσ : ∃ v, σ0 = [v]) (fin : List V → Hp → Prop), fin (x.cps.toList.map fun c => V.bl (decide (c ∈ fi))) H → fT (qJ x) (fq 0) pB (cv wG (cn 0) (tC (V.str (Str.ofString "0123456789")))) fin σ0 H := by
     intro σ0 hσ fin hf
     refine pZ (fun i ys σ H2=>(∃ v,σ = [v])∧H2 = H∧ys = (x.cps.toList.take i).map fun c=>V.bl (decide (c ∈ fi))) ⟨hσ,rfl,rfl⟩ (fun i ys σ H2 hi ⟨_,_,e⟩=>by rw [e,List.length_map,List.length_take,sizeLine_eq];omega) ?_ ?_
     · rintro i d ys σ H2 hd ⟨⟨v, rfl⟩, rfl, rfl⟩
       walk_at "rd"
       refine ⟨d,_,rfl,rfl,?_⟩
       exact ⟨⟨_,rfl⟩,rfl,by rw [List.take_add_one,hd,Option.toList_some,List.map_append];rfl⟩
     · rintro ys σ H2 ⟨_, rfl, rfl⟩
       rw [List.take_length]
       exact hf
   refine ⟨_, (ag (aX (PW.pt (mS (aF uj (aU (bA (K := K) rfl) rfl T.cf dc (aa (pv 0) ae)) aj (aM _)) (mS (aF ke (aU (bA (K := K) rfl) rfl T.cf dc (aa (pv 0) ae)) aj (aM _)) (mx (iC (fh (K := K) rfl (aU (jY (K := K) rfl rfl) rfl T.ij uh (aa (kf (own := ["_law_sign"]) (fr := []) rfl ⟨rfl, (by walk_at "clok"), (by walk_at "frok"), rfl, (by decide +kernel), (by decide +kernel), rfl⟩ (u6 (pv 0)) (fun _ _ _ _ => (cR (i := 0) (show List.Nodup [("_law_sign" : Str)] from by decide +kernel) rfl (Or.inl rfl))) (fun _ _ _ _ => eV) (fun _ _ _ _ => (kj u5 (pv 0) ai rfl))) ae)))))))) (ah (au hG)) aE)
     (ag (aX (PW.pt (rq (aF (bz (K:=K) rfl hr.units) (cg (c6 (K:=K) rfl) (pv 0) aj (fun _ _=>rfl)) ai (aM _)) (nW (aF ke (aU (bA (K:=K) rfl) rfl T.cf dc (aa (pv 0) ae)) aj (aM _))))) (ah (au hG)) aE)
     (ah (au (ig o_ rfl T.iW xQ (aa (pv 0) ae)))))),?_⟩
   refine bb (σ':=[some _]) rfl ?_
   walk_at "rd"
   refine g8 (by rw [sizeLine_eq];omega) ?_
   walk_at "rd"
   refine eW (fun hh=>?_) (fun hh=>?_)
   · walk_at "rd"
     exact qn (nn (kZ (by omega))) H (aq.refl _)
   walk_at "rd"
   refine g8 (by rw [sizeLine_eq];omega) ?_
   walk_at "rd"
   refine eW (fun hh2=>?_) (fun hh2=>?_)
   · walk_at "rd"
     exact qn (nn (kZ (by omega))) H (aq.refl _)
   walk_at "rd"
   refine key _ ⟨_,rfl⟩ _ ?_
   intro p hp
   walk_at "rd"
   refine tW (bs:=x.cps.toList.map fun c=>decide (c ∈ fi)) (by rw [List.map_map];exact aH.of ak) ?_
   have sm:aq H (upd H p (.lst (x.cps.toList.map fun c=>V.bl (decide (c ∈ fi))))):=ar hp
   cases hal:(x.cps.toList.map fun c=>decide (c ∈ fi)).all id with
   | false =>
     walk_at "rd"
     refine qn (nn ?_) _ sm
     unfold ck
     rw [List.all_map] at hal
     rw [show (x.cps.toList.all fun c=>decide (c ∈ fi)) = false from hal,Bool.and_false]
   | true =>
     obtain ⟨c,r,hcr⟩:∃ c r,x.cps.toList = c :: r:=List.exists_cons_of_length_pos (by omega)
     have yes : ¬ (x.cps.toList.head? = some 48 ∧ 1 < x.cps.toList.length) → ck x = true := fun h3 => by
       unfold ck
       rw [List.all_map] at hal
       rw [show (x.cps.toList.all fun c=>decide (c ∈ fi)) = true from hal,decide_eq_true (show 1 ≤ x.cps.toList.length by omega),decide_eq_true (show x.cps.toList.length ≤ 10 by omega)]
       have h4 : (x.cps.toList.head? == some 48 && decide (1 < x.cps.toList.length)) = false := by
         rw [Bool.and_eq_false_iff]
         by_cases hz:x.cps.toList.head? = some 48
         · exact .inr (decide_eq_false fun z=>h3 ⟨hz,z⟩)
         · exact .inl (by simpa using hz)
       rw [h4];rfl
     have good : ck x = true → y9 [.str x] (upd H p (.lst (x.cps.toList.map fun c => V.bl (decide (c ∈ fi))))) Q := fun hb => by
       obtain ⟨h1,h2⟩:=mr hb
       exact ⟨_,_,rfl,h1,by omega,q _ (by unfold bS;rw [if_pos hb]) _ sm⟩
     walk_at "rd"
     refine .inl (.inr (.inr ⟨_,0,c,rfl,rfl,by rw [sizeLine_eq];omega,by rw [hcr];exact ek (j:=0) rfl,?_⟩))
     walk_at "rd"
     refine i7 (fun hh3=>?_) (fun hh3=>?_)
     · have e48 : c = 48 := by
         have:=congrArg (fun x:Str=>x.cps.toList) hh3
         exact (List.cons.inj this).1
       subst e48
       walk_at "rd"
       refine g8 (by rw [sizeLine_eq];omega) ?_
       walk_at "rd"
       refine eW (fun hh4=>?_) (fun hh4=>?_)
       · walk_at "rd"
         refine qn (nn (kF hcr (fun z=>?_))) _ sm
         rw [z] at hh4
         exact absurd hh4 (by decide)
       · walk_at "rd"
         exact good (yes fun z=>by have:=z.2;omega)
     · walk_at "rd"
       exact good (yes fun z => hh3 (j4 (by
         have z1:=z.1
         rw [hcr] at z1
         cases z1
         rfl)))
end
section
variable {P:Program} {w:World} {K:PySem.W.Frag} {mg:Str→Option Value} {base:Heap} {a:aP}
theorem oY (r : Rw) : r.wy.lookup ("told" : Str) = none := by
 cases r <;> (show List.lookup _ (aN _ _ _) = none;walk_at "nolk")
theorem kT (T : Txt w K mg a) (r : Rw) : bW P w K mg base cm 1 (r.cls a) "told" (bg a r) := by
 cases r
 · exact (sJ T _ _).mono (by decide)
 · exact (pM T _ _).mono (by decide)
 · exact (sA T _ _ _).mono (by decide)
 · exact (sG T _ _ _).mono (by decide)
 · exact (so T _ _ _).mono (by decide)
 · exact (rR T _ _ _).mono (by decide)
 · exact (qd T _).mono (by decide)
 · exact (oo T _).mono (by decide)
 · exact (sj T _ _).mono (by decide)
 · exact (sk T _ _).mono (by decide)
 · exact (qT T _).mono (by decide)
 · exact (oA T _ _).mono (by decide)
 · exact (pY T _).mono (by decide)
 · exact (pX T _).mono (by decide)
 · exact (qE T _).mono (by decide)
end
section
variable {P:Program} {w:World} {K:PySem.W.Frag} {mg:Str→Option Value} {base:Heap} {a:aP}
set_option maxHeartbeats 4000000 in
theorem nt (T : Txt w K mg a) : eF P w K mg base (bB P w) 2 "read_number" (mi a) := by
 refine gx (sp:=(mi a)) 1 T.iQ oi (fun vs H Q E h=>?_) (fun f cdv A outer s H vs Q E hr h=>?_)
 · obtain ⟨x, rfl, _⟩ := h
   rfl
 · obtain ⟨x, rfl, hl, q, e⟩ := h
   refine ⟨_, (ag (aX (PT.br (iC (fh (K := K) rfl (ay (rp (K := K) T) (hr.mono (by decide)) d8 rfl (aa (pv 0) ae))))) (ah (gf T.fw rfl (aa ai ae))) aE)
     (ah (PS.br (au (ig o_ rfl T.iW xQ (aa (pv 0) ae)))))),?_⟩
   refine bb (σ':=[some _]) rfl ?_
   walk_at "rd"
   refine ⟨x,rfl,hl,fun H1 s1=>?_⟩
   cases hb:ck x with
   | true =>
     obtain ⟨h1,h2⟩:=mr hb
     walk_at "rd"
     refine ⟨_,_,rfl,h1,by omega,q _ (by unfold bS;rw [if_pos hb]) _ s1⟩
   | false =>
     walk_at "rd"
     exact ⟨by decide,e (by unfold bS;rw [if_neg (by rw [hb];decide)]) _ s1⟩
end
section
variable {P:Program} {w:World} {K:PySem.W.Frag} {mg:Str→Option Value} {base:Heap} {a:aP}
set_option maxHeartbeats 4000000 in
theorem jv (T : Txt w K mg a) : gv P w K mg base (bB P w) 2 "Set" a.bV (dF a a.bV Rw.set) := by
 refine cY (sp:=(dF a a.bV Rw.set)) 1 T.kh T.xS sr (fun vs H Q E h=>?_) (fun f cdv A outer s H vs Q E hr h=>?_)
 · obtain ⟨x, dx, i, j, rfl, _⟩ := h
   rfl
 · obtain ⟨x, dx, i, j, rfl, hx, q, e⟩ := h
   refine ⟨_, (ag (a_ (K := K) rfl (pv 0) (ay (aI (K := K) T) (hr.mono (by decide)) aC rfl (aa (pv 1) (aa (aL (v := .int 7) rfl T.aS.choose_spec ⟨_, rfl⟩) ae))))
     (ah (a_ (K:=K) rfl (pv 0) (ay (aI (K:=K) T) (hr.mono (by decide)) aC rfl (aa (pv 2) (aa (aL (v:=.int 4294967295) rfl T.er.choose_spec ⟨_,rfl⟩) ae)))))),?_⟩
   refine bb (σ':=[some _,some _,some _]) rfl ?_
   walk_at "rd"
   refine ⟨_,_,rfl,by decide,by decide,fun h1=>?_,fun h1=>e (fun z=>h1 z.1) _ (fun b o e _=>e)⟩
   walk_at "rd"
   refine ⟨_,_,rfl,by decide,by decide,fun h2=>?_,fun h2=>e (fun z=>h2 z.2) _ cW⟩
   walk_at "rd"
   exact q ⟨h1,h2⟩ _ fS ak
end
section
variable {P:Program} {w:World} {K:PySem.W.Frag} {mg:Str→Option Value} {base:Heap} {a:aP}
set_option maxHeartbeats 4000000 in
theorem iL (T : Txt w K mg a) : gv P w K mg base (bB P w) 2 "Copy" a.bC (dF a a.bC Rw.copy) := by
 refine cY (sp:=(dF a a.bC Rw.copy)) 1 T.ix T.vb rj (fun vs H Q E h=>?_) (fun f cdv A outer s H vs Q E hr h=>?_)
 · obtain ⟨x, dx, i, j, rfl, _⟩ := h
   rfl
 · obtain ⟨x, dx, i, j, rfl, hx, q, e⟩ := h
   refine ⟨_, (ag (a_ (K := K) rfl (pv 0) (ay (aI (K := K) T) (hr.mono (by decide)) aC rfl (aa (pv 1) (aa (aL (v := .int 7) rfl T.aS.choose_spec ⟨_, rfl⟩) ae))))
     (ah (a_ (K:=K) rfl (pv 0) (ay (aI (K:=K) T) (hr.mono (by decide)) aC rfl (aa (pv 2) (aa (aL (v:=.int 7) rfl T.aS.choose_spec ⟨_,rfl⟩) ae)))))),?_⟩
   refine bb (σ':=[some _,some _,some _]) rfl ?_
   walk_at "rd"
   refine ⟨_,_,rfl,by decide,by decide,fun h1=>?_,fun h1=>e (fun z=>h1 z.1) _ (fun b o e _=>e)⟩
   walk_at "rd"
   refine ⟨_,_,rfl,by decide,by decide,fun h2=>?_,fun h2=>e (fun z=>h2 z.2) _ cW⟩
   walk_at "rd"
   exact q ⟨h1,h2⟩ _ fS ak
end
section
variable {P:Program} {w:World} {K:PySem.W.Frag} {mg:Str→Option Value} {base:Heap} {a:aP}
set_option maxHeartbeats 4000000 in
theorem iT (T : Txt w K mg a) : gv P w K mg base (bB P w) 2 "Less" a.bw (ff a a.bw Rw.less) := by
 refine cY (sp:=(ff a a.bw Rw.less)) 1 T.iF T.vp dE (fun vs H Q E h=>?_) (fun f cdv A outer s H vs Q E hr h=>?_)
 · obtain ⟨x, dx, i, j, k, rfl, _⟩ := h
   rfl
 · obtain ⟨x, dx, i, j, k, rfl, hx, q, e⟩ := h
   refine ⟨_, (ag (a_ (K := K) rfl (pv 0) (ay (aI (K := K) T) (hr.mono (by decide)) aC rfl (aa (pv 1) (aa (aL (v := .int 7) rfl T.aS.choose_spec ⟨_, rfl⟩) ae))))
     (ag (a_ (K:=K) rfl (pv 0) (ay (aI (K:=K) T) (hr.mono (by decide)) aC rfl (aa (pv 2) (aa (aL (v:=.int 7) rfl T.aS.choose_spec ⟨_,rfl⟩) ae))))
     (ah (a_ (K:=K) rfl (pv 0) (ay (aI (K:=K) T) (hr.mono (by decide)) aC rfl (aa (pv 3) (aa (aL (v:=.int 7) rfl T.aS.choose_spec ⟨_,rfl⟩) ae))))))),?_⟩
   refine bb (σ':=[some _,some _,some _,some _]) rfl ?_
   walk_at "rd"
   refine ⟨_,_,rfl,by decide,by decide,fun h1=>?_,fun h1=>e (fun z=>h1 z.1) _ (fun b o e _=>e)⟩
   walk_at "rd"
   refine ⟨_,_,rfl,by decide,by decide,fun h2=>?_,fun h2=>e (fun z=>h2 z.2.1) _ cW⟩
   walk_at "rd"
   refine ⟨_,_,rfl,by decide,by decide,fun h3=>?_,fun h3=>e (fun z=>h3 z.2.2) _ fS⟩
   walk_at "rd"
   exact q ⟨h1,h2,h3⟩ _ iZ ak
end
section
variable {P:Program} {w:World} {K:PySem.W.Frag} {mg:Str→Option Value} {base:Heap} {a:aP}
set_option maxHeartbeats 4000000 in
theorem js (T : Txt w K mg a) : gv P w K mg base (bB P w) 2 "Add" a.bP (ff a a.bP Rw.add) := by
 refine cY (sp:=(ff a a.bP Rw.add)) 1 T.kl T.yC dE (fun vs H Q E h=>?_) (fun f cdv A outer s H vs Q E hr h=>?_)
 · obtain ⟨x, dx, i, j, k, rfl, _⟩ := h
   rfl
 · obtain ⟨x, dx, i, j, k, rfl, hx, q, e⟩ := h
   refine ⟨_, (ag (a_ (K := K) rfl (pv 0) (ay (aI (K := K) T) (hr.mono (by decide)) aC rfl (aa (pv 1) (aa (aL (v := .int 7) rfl T.aS.choose_spec ⟨_, rfl⟩) ae))))
     (ag (a_ (K:=K) rfl (pv 0) (ay (aI (K:=K) T) (hr.mono (by decide)) aC rfl (aa (pv 2) (aa (aL (v:=.int 7) rfl T.aS.choose_spec ⟨_,rfl⟩) ae))))
     (ah (a_ (K:=K) rfl (pv 0) (ay (aI (K:=K) T) (hr.mono (by decide)) aC rfl (aa (pv 3) (aa (aL (v:=.int 7) rfl T.aS.choose_spec ⟨_,rfl⟩) ae))))))),?_⟩
   refine bb (σ':=[some _,some _,some _,some _]) rfl ?_
   walk_at "rd"
   refine ⟨_,_,rfl,by decide,by decide,fun h1=>?_,fun h1=>e (fun z=>h1 z.1) _ (fun b o e _=>e)⟩
   walk_at "rd"
   refine ⟨_,_,rfl,by decide,by decide,fun h2=>?_,fun h2=>e (fun z=>h2 z.2.1) _ cW⟩
   walk_at "rd"
   refine ⟨_,_,rfl,by decide,by decide,fun h3=>?_,fun h3=>e (fun z=>h3 z.2.2) _ fS⟩
   walk_at "rd"
   exact q ⟨h1,h2,h3⟩ _ iZ ak
end
section
variable {P:Program} {w:World} {K:PySem.W.Frag} {mg:Str→Option Value} {base:Heap} {a:aP}
set_option maxHeartbeats 4000000 in
theorem jN (T : Txt w K mg a) : gv P w K mg base (bB P w) 2 "Sub" a.bO (ff a a.bO Rw.sub) := by
 refine cY (sp:=(ff a a.bO Rw.sub)) 1 T.kb T.xV dE (fun vs H Q E h=>?_) (fun f cdv A outer s H vs Q E hr h=>?_)
 · obtain ⟨x, dx, i, j, k, rfl, _⟩ := h
   rfl
 · obtain ⟨x, dx, i, j, k, rfl, hx, q, e⟩ := h
   refine ⟨_, (ag (a_ (K := K) rfl (pv 0) (ay (aI (K := K) T) (hr.mono (by decide)) aC rfl (aa (pv 1) (aa (aL (v := .int 7) rfl T.aS.choose_spec ⟨_, rfl⟩) ae))))
     (ag (a_ (K:=K) rfl (pv 0) (ay (aI (K:=K) T) (hr.mono (by decide)) aC rfl (aa (pv 2) (aa (aL (v:=.int 7) rfl T.aS.choose_spec ⟨_,rfl⟩) ae))))
     (ah (a_ (K:=K) rfl (pv 0) (ay (aI (K:=K) T) (hr.mono (by decide)) aC rfl (aa (pv 3) (aa (aL (v:=.int 7) rfl T.aS.choose_spec ⟨_,rfl⟩) ae))))))),?_⟩
   refine bb (σ':=[some _,some _,some _,some _]) rfl ?_
   walk_at "rd"
   refine ⟨_,_,rfl,by decide,by decide,fun h1=>?_,fun h1=>e (fun z=>h1 z.1) _ (fun b o e _=>e)⟩
   walk_at "rd"
   refine ⟨_,_,rfl,by decide,by decide,fun h2=>?_,fun h2=>e (fun z=>h2 z.2.1) _ cW⟩
   walk_at "rd"
   refine ⟨_,_,rfl,by decide,by decide,fun h3=>?_,fun h3=>e (fun z=>h3 z.2.2) _ fS⟩
   walk_at "rd"
   exact q ⟨h1,h2,h3⟩ _ iZ ak
end
section
variable {P:Program} {w:World} {K:PySem.W.Frag} {mg:Str→Option Value} {base:Heap} {a:aP}
set_option maxHeartbeats 4000000 in
theorem jG (T : Txt w K mg a) : gv P w K mg base (bB P w) 2 "Mul" a.bN (ff a a.bN Rw.mul) := by
 refine cY (sp:=(ff a a.bN Rw.mul)) 1 T.j_ T.zz dE (fun vs H Q E h=>?_) (fun f cdv A outer s H vs Q E hr h=>?_)
 · obtain ⟨x, dx, i, j, k, rfl, _⟩ := h
   rfl
 · obtain ⟨x, dx, i, j, k, rfl, hx, q, e⟩ := h
   refine ⟨_, (ag (a_ (K := K) rfl (pv 0) (ay (aI (K := K) T) (hr.mono (by decide)) aC rfl (aa (pv 1) (aa (aL (v := .int 7) rfl T.aS.choose_spec ⟨_, rfl⟩) ae))))
     (ag (a_ (K:=K) rfl (pv 0) (ay (aI (K:=K) T) (hr.mono (by decide)) aC rfl (aa (pv 2) (aa (aL (v:=.int 7) rfl T.aS.choose_spec ⟨_,rfl⟩) ae))))
     (ah (a_ (K:=K) rfl (pv 0) (ay (aI (K:=K) T) (hr.mono (by decide)) aC rfl (aa (pv 3) (aa (aL (v:=.int 7) rfl T.aS.choose_spec ⟨_,rfl⟩) ae))))))),?_⟩
   refine bb (σ':=[some _,some _,some _,some _]) rfl ?_
   walk_at "rd"
   refine ⟨_,_,rfl,by decide,by decide,fun h1=>?_,fun h1=>e (fun z=>h1 z.1) _ (fun b o e _=>e)⟩
   walk_at "rd"
   refine ⟨_,_,rfl,by decide,by decide,fun h2=>?_,fun h2=>e (fun z=>h2 z.2.1) _ cW⟩
   walk_at "rd"
   refine ⟨_,_,rfl,by decide,by decide,fun h3=>?_,fun h3=>e (fun z=>h3 z.2.2) _ fS⟩
   walk_at "rd"
   exact q ⟨h1,h2,h3⟩ _ iZ ak
end
section
variable {P:Program} {w:World} {K:PySem.W.Frag} {mg:Str→Option Value} {base:Heap} {a:aP}
set_option maxHeartbeats 4000000 in
theorem iR (T : Txt w K mg a) : gv P w K mg base (bB P w) 2 "Grow" a.bJ (cS a a.bJ Rw.grow) := by
 refine cY (sp:=(cS a a.bJ Rw.grow)) 1 T.iD T.vk qf (fun vs H Q E h=>?_) (fun f cdv A outer s H vs Q E hr h=>?_)
 · obtain ⟨x, dx, i, rfl, _⟩ := h
   rfl
 · obtain ⟨x, dx, i, rfl, hx, q, e⟩ := h
   refine ⟨_,(ah (a_ (K:=K) rfl (pv 0) (ay (aI (K:=K) T) (hr.mono (by decide)) aC rfl (aa (pv 1) (aa (aL (v:=.int 4000) rfl T.cq.choose_spec ⟨_,rfl⟩) ae))))),?_⟩
   refine bb (σ':=[some _,some _]) rfl ?_
   walk_at "rd"
   refine ⟨_,_,rfl,by decide,by decide,fun h1=>?_,fun h1=>e (fun z=>h1 z) _ (fun b o e _=>e)⟩
   walk_at "rd"
   exact q h1 _ cW ak
end
section
variable {P:Program} {w:World} {K:PySem.W.Frag} {mg:Str→Option Value} {base:Heap} {a:aP}
set_option maxHeartbeats 4000000 in
theorem gw (T : Txt w K mg a) : gv P w K mg base (bB P w) 2 "Shrink" a.bh (cS a a.bh Rw.shrink) := by
 refine cY (sp:=(cS a a.bh Rw.shrink)) 1 T.f_ T.qM mX (fun vs H Q E h=>?_) (fun f cdv A outer s H vs Q E hr h=>?_)
 · obtain ⟨x, dx, i, rfl, _⟩ := h
   rfl
 · obtain ⟨x, dx, i, rfl, hx, q, e⟩ := h
   refine ⟨_,(ah (a_ (K:=K) rfl (pv 0) (ay (aI (K:=K) T) (hr.mono (by decide)) aC rfl (aa (pv 1) (aa (aL (v:=.int 4000) rfl T.cq.choose_spec ⟨_,rfl⟩) ae))))),?_⟩
   refine bb (σ':=[some _,some _]) rfl ?_
   walk_at "rd"
   refine ⟨_,_,rfl,by decide,by decide,fun h1=>?_,fun h1=>e (fun z=>h1 z) _ (fun b o e _=>e)⟩
   walk_at "rd"
   exact q h1 _ cW ak
end
section
variable {P:Program} {w:World} {K:PySem.W.Frag} {mg:Str→Option Value} {base:Heap} {a:aP}
set_option maxHeartbeats 4000000 in
theorem jo (T : Txt w K mg a) : gv P w K mg base (bB P w) 2 "Put" a.bU (dF a a.bU Rw.put) := by
 refine cY (sp:=(dF a a.bU Rw.put)) 1 T.ko T.zK g_ (fun vs H Q E h=>?_) (fun f cdv A outer s H vs Q E hr h=>?_)
 · obtain ⟨x, dx, i, j, rfl, _⟩ := h
   rfl
 · obtain ⟨x, dx, i, j, rfl, hx, q, e⟩ := h
   refine ⟨_, (ag (a_ (K := K) rfl (pv 0) (ay (aI (K := K) T) (hr.mono (by decide)) aC rfl (aa (pv 1) (aa (aL (v := .int 7) rfl T.aS.choose_spec ⟨_, rfl⟩) ae))))
     (ah (a_ (K:=K) rfl (pv 0) (ay (aI (K:=K) T) (hr.mono (by decide)) aC rfl (aa (pv 2) (aa (aL (v:=.int 4000) rfl T.cq.choose_spec ⟨_,rfl⟩) ae)))))),?_⟩
   refine bb (σ':=[some _,some _,some _]) rfl ?_
   walk_at "rd"
   refine ⟨_,_,rfl,by decide,by decide,fun h1=>?_,fun h1=>e (fun z=>h1 z.1) _ (fun b o e _=>e)⟩
   walk_at "rd"
   refine ⟨_,_,rfl,by decide,by decide,fun h2=>?_,fun h2=>e (fun z=>h2 z.2) _ cW⟩
   walk_at "rd"
   exact q ⟨h1,h2⟩ _ fS ak
end
section
variable {P:Program} {w:World} {K:PySem.W.Frag} {mg:Str→Option Value} {base:Heap} {a:aP}
set_option maxHeartbeats 4000000 in
theorem jV (T : Txt w K mg a) : gv P w K mg base (bB P w) 2 "Get" a.bX (dF a a.bX Rw.get) := by
 refine cY (sp:=(dF a a.bX Rw.get)) 1 T.kg T.zS g_ (fun vs H Q E h=>?_) (fun f cdv A outer s H vs Q E hr h=>?_)
 · obtain ⟨x, dx, i, j, rfl, _⟩ := h
   rfl
 · obtain ⟨x, dx, i, j, rfl, hx, q, e⟩ := h
   refine ⟨_, (ag (a_ (K := K) rfl (pv 0) (ay (aI (K := K) T) (hr.mono (by decide)) aC rfl (aa (pv 1) (aa (aL (v := .int 7) rfl T.aS.choose_spec ⟨_, rfl⟩) ae))))
     (ah (a_ (K:=K) rfl (pv 0) (ay (aI (K:=K) T) (hr.mono (by decide)) aC rfl (aa (pv 2) (aa (aL (v:=.int 4000) rfl T.cq.choose_spec ⟨_,rfl⟩) ae)))))),?_⟩
   refine bb (σ':=[some _,some _,some _]) rfl ?_
   walk_at "rd"
   refine ⟨_,_,rfl,by decide,by decide,fun h1=>?_,fun h1=>e (fun z=>h1 z.1) _ (fun b o e _=>e)⟩
   walk_at "rd"
   refine ⟨_,_,rfl,by decide,by decide,fun h2=>?_,fun h2=>e (fun z=>h2 z.2) _ cW⟩
   walk_at "rd"
   exact q ⟨h1,h2⟩ _ fS ak
end
section
variable {P:Program} {w:World} {K:PySem.W.Frag} {mg:Str→Option Value} {base:Heap} {a:aP}
set_option maxHeartbeats 4000000 in
theorem iy (T : Txt w K mg a) : gv P w K mg base (bB P w) 2 "Jump" a.bI (cS a a.bI Rw.gD) := by
 refine cY (sp:=(cS a a.bI Rw.gD)) 1 T.iE T.vc qc (fun vs H Q E h=>?_) (fun f cdv A outer s H vs Q E hr h=>?_)
 · obtain ⟨x, dx, i, rfl, _⟩ := h
   rfl
 · obtain ⟨x, dx, i, rfl, hx, q, e⟩ := h
   refine ⟨_,(ah (a_ (K:=K) rfl (pv 0) (ay (aI (K:=K) T) (hr.mono (by decide)) aC rfl (aa (pv 1) (aa (aL (v:=.int 2000) rfl T.cz.choose_spec ⟨_,rfl⟩) ae))))),?_⟩
   refine bb (σ':=[some _,some _]) rfl ?_
   walk_at "rd"
   refine ⟨_,_,rfl,by decide,by decide,fun h1=>?_,fun h1=>e (fun z=>h1 z) _ (fun b o e _=>e)⟩
   walk_at "rd"
   exact q h1 _ cW ak
end
section
variable {P:Program} {w:World} {K:PySem.W.Frag} {mg:Str→Option Value} {base:Heap} {a:aP}
set_option maxHeartbeats 4000000 in
theorem gr (T : Txt w K mg a) : gv P w K mg base (bB P w) 2 "Branch" a.a6 (dF a a.a6 Rw.branch) := by
 refine cY (sp:=(dF a a.a6 Rw.branch)) 1 T.gg T.rG om (fun vs H Q E h=>?_) (fun f cdv A outer s H vs Q E hr h=>?_)
 · obtain ⟨x, dx, i, j, rfl, _⟩ := h
   rfl
 · obtain ⟨x, dx, i, j, rfl, hx, q, e⟩ := h
   refine ⟨_, (ag (a_ (K := K) rfl (pv 0) (ay (aI (K := K) T) (hr.mono (by decide)) aC rfl (aa (pv 1) (aa (aL (v := .int 7) rfl T.aS.choose_spec ⟨_, rfl⟩) ae))))
     (ah (a_ (K:=K) rfl (pv 0) (ay (aI (K:=K) T) (hr.mono (by decide)) aC rfl (aa (pv 2) (aa (aL (v:=.int 2000) rfl T.cz.choose_spec ⟨_,rfl⟩) ae)))))),?_⟩
   refine bb (σ':=[some _,some _,some _]) rfl ?_
   walk_at "rd"
   refine ⟨_,_,rfl,by decide,by decide,fun h1=>?_,fun h1=>e (fun z=>h1 z.1) _ (fun b o e _=>e)⟩
   walk_at "rd"
   refine ⟨_,_,rfl,by decide,by decide,fun h2=>?_,fun h2=>e (fun z=>h2 z.2) _ cW⟩
   walk_at "rd"
   exact q ⟨h1,h2⟩ _ fS ak
end
section
variable {P:Program} {w:World} {K:PySem.W.Frag} {mg:Str→Option Value} {base:Heap} {a:aP}
set_option maxHeartbeats 4000000 in
theorem iI (T : Txt w K mg a) : gv P w K mg base (bB P w) 2 "Call" a.bK (cS a a.bK Rw.call) := by
 refine cY (sp:=(cS a a.bK Rw.call)) 1 T.iM T.vW r6 (fun vs H Q E h=>?_) (fun f cdv A outer s H vs Q E hr h=>?_)
 · obtain ⟨x, dx, i, rfl, _⟩ := h
   rfl
 · obtain ⟨x, dx, i, rfl, hx, q, e⟩ := h
   refine ⟨_,(ah (a_ (K:=K) rfl (pv 0) (ay (aI (K:=K) T) (hr.mono (by decide)) aC rfl (aa (pv 1) (aa (aL (v:=.int 2000) rfl T.cz.choose_spec ⟨_,rfl⟩) ae))))),?_⟩
   refine bb (σ':=[some _,some _]) rfl ?_
   walk_at "rd"
   refine ⟨_,_,rfl,by decide,by decide,fun h1=>?_,fun h1=>e (fun z=>h1 z) _ (fun b o e _=>e)⟩
   walk_at "rd"
   exact q h1 _ cW ak
end
section
variable {P:Program} {w:World} {K:PySem.W.Frag} {mg:Str→Option Value} {base:Heap} {a:aP}
set_option maxHeartbeats 4000000 in
theorem iK (T : Txt w K mg a) : gv P w K mg base (bB P w) 2 "Back" a.bL (cS a a.bL Rw.back) := by
 refine cY (sp:=(cS a a.bL Rw.back)) 1 T.iP T.vv rV (fun vs H Q E h=>?_) (fun f cdv A outer s H vs Q E hr h=>?_)
 · obtain ⟨x, dx, i, rfl, _⟩ := h
   rfl
 · obtain ⟨x, dx, i, rfl, hx, q, e⟩ := h
   refine ⟨_,(ah (a_ (K:=K) rfl (pv 0) (ay (aI (K:=K) T) (hr.mono (by decide)) aC rfl (aa (pv 1) (aa (aL (v:=.int 7) rfl T.aS.choose_spec ⟨_,rfl⟩) ae))))),?_⟩
   refine bb (σ':=[some _,some _]) rfl ?_
   walk_at "rd"
   refine ⟨_,_,rfl,by decide,by decide,fun h1=>?_,fun h1=>e (fun z=>h1 z) _ (fun b o e _=>e)⟩
   walk_at "rd"
   exact q h1 _ cW ak
end
section
variable {P:Program} {w:World} {K:PySem.W.Frag} {mg:Str→Option Value} {base:Heap} {a:aP}
set_option maxHeartbeats 4000000 in
theorem iw (T : Txt w K mg a) : gv P w K mg base (bB P w) 2 "Drop" a.bM (cS a a.bM Rw.drop) := by
 refine cY (sp:=(cS a a.bM Rw.drop)) 1 T.iu T.vZ qZ (fun vs H Q E h=>?_) (fun f cdv A outer s H vs Q E hr h=>?_)
 · obtain ⟨x, dx, i, rfl, _⟩ := h
   rfl
 · obtain ⟨x, dx, i, rfl, hx, q, e⟩ := h
   refine ⟨_,(ah (a_ (K:=K) rfl (pv 0) (ay (aI (K:=K) T) (hr.mono (by decide)) aC rfl (aa (pv 1) (aa (aL (v:=.int 7) rfl T.aS.choose_spec ⟨_,rfl⟩) ae))))),?_⟩
   refine bb (σ':=[some _,some _]) rfl ?_
   walk_at "rd"
   refine ⟨_,_,rfl,by decide,by decide,fun h1=>?_,fun h1=>e (fun z=>h1 z) _ (fun b o e _=>e)⟩
   walk_at "rd"
   exact q h1 _ cW ak
end
section
variable {P:Program} {w:World} {K:PySem.W.Frag} {mg:Str→Option Value} {base:Heap} {a:aP}
set_option maxHeartbeats 4000000 in
theorem uw (T : Txt w K mg a) : eF P w K mg base cm 2 "_law_row" sX := by
 refine fm (sp:=sX) 1 T.lV bE (fun vs H Q E h=>?_) (fun f cdv A outer s H vs Q E hr h=>?_)
 · obtain ⟨c, rfl, _⟩ := h
   rfl
 · obtain ⟨c, rfl, q⟩ := h
   refine' ⟨_,?mC,?_⟩
   (case mC=>(refine' ag ?Ju ?Ih;(case Ih=>(refine' ag ?FH ?IU;(case IU=>(refine' ag ?F4 ?F6;(case F6=>(refine' ag ?Fm ?KR;(case KR=>(refine' ag ?Kh ?Ft;(case Ft=>(refine' ag ?Jn ?Hy;(case Hy=>(refine' ag ?Jx ?Hj;(case Hj=>(refine' ag ?KO ?GR;(case GR=>exact (ah (au (fj (K:=K) rfl PySem.F.plainAttrs_str PySem.F.slot_str_join PySem.F.type_str_join (nJ (K:=K) rfl) ai (aa (aG (bo (K:=K) rfl) (bc (aa (pv 2) ae)) (pv 4)) ae)))));(case KO=>(refine' rN PassesOwn.never rfl (oP rfl T.gc (aa (aG (bo (K:=K) rfl) (aU (bA (K:=K) rfl) rfl T.cf dc (aa (pv 3) ae)) (cg (c6 (K:=K) rfl) (bc (aa aj (aa aj (aa aj (aa aj (aa aj (aa aj (aa (Ke CB aj) (aa aj ae))))))))) (aG bQ (pv 0) aj) (fun _ _=>rfl))) ae)) (cR (i:=5) bE.nd rfl (Or.inl rfl)) ?E1;(case E1=>(refine' ag ?FX ?GC;(case GC=>(refine' ag ?FE ?Gu;(case Gu=>(refine' ag ?HQ ?GP;(case GP=>(refine' ag ?Iq ?H9;(case H9=>(refine' ag ?HB ?Hw;(case Hw=>exact (ah (iO (fj (K:=K) rfl PySem.F.plainAttrs_list PySem.F.slot_list_append PySem.F.type_list_append uG (pv 4) (aa (aG (bo (K:=K) rfl) (pv 10) (ig pT rfl T.gk mm (aa (cg (c6 (K:=K) rfl) (pv 8) (aG bQ (aG cU (pv 7) aj) aj) (fun _ _=>rfl)) ae))) ae)))));(case HB=>(refine' aQ (i:=10) ?Fk ?HX ?FC ?E_ ?FJ ?JZ;(case Fk=>exact bE.nd);(case HX=>rfl);(case FC=>exact (Or.inl rfl));(case FJ=>rfl);(case JZ=>exact .inl rfl);(case E_=>exact (cg (c6 (K:=K) rfl) (bc (aa ai (aa ai (aa ai (aa ai (aa ai (aa ai (aa ai (aa ai ae))))))))) (pv 9) (fun _ _=>rfl)))))));(case Iq=>exact (aQ (i:=9) bE.nd rfl (Or.inl rfl) (aG lK (aG bQ (aG bQ (aG cU (pv 7) aj) aj) aj) (aG cU (aG bQ (aG cU (pv 7) aj) aj) aj))))));(case HQ=>(refine' aQ (i:=8) ?JF ?E3 ?Kk ?F3 ?JQ ?G9;(case JF=>exact bE.nd);(case E3=>rfl);(case Kk=>exact (Or.inl rfl));(case JQ=>rfl);(case G9=>exact .inl rfl);(case F3=>(refine' bc ?Hq;(case Hq=>(refine' aa ?HR ?Kn ?Kb;(case Kb=>rfl);(case HR=>exact (aG bQ (pv 7) (aG (bo (K:=K) rfl) (pv 6) aj)));(case Kn=>(refine' aa ?JO ?Gd ?Jr;(case Jr=>rfl);(case JO=>exact (aG bQ (pv 7) (aG (bo (K:=K) rfl) (pv 6) aj)));(case Gd=>(refine' aa ?Iu ?JT ?Hb;(case Hb=>rfl);(case Iu=>exact aj);(case JT=>(refine' aa ?Jh ?Fc ?HL;(case HL=>rfl);(case Jh=>exact (pv 6));(case Fc=>(refine' aa ?Fu ?HS ?K7;(case K7=>rfl);(case Fu=>exact (aG bQ (pv 7) aj));(case HS=>(refine' aa ?K2 ?E9 ?E6;(case E6=>rfl);(case K2=>exact (aG (bo (K:=K) rfl) (pv 6) aj));(case E9=>(refine' aa ?JD ?JE ?JV;(case JV=>rfl);(case JD=>exact (aG bQ (pv 7) (aG vn aj aj)));(case JE=>(refine' aa ?FR ?KD ?EX;(case EX=>rfl);(case FR=>exact (aG bQ (pv 7) (aG vn aj aj)));(case KD=>exact ae)))))))))))))))))))))));(case FE=>exact (aQ (i:=7) bE.nd rfl (Or.inl rfl) (aG cU (pv 0) (aG (bo (K:=K) rfl) aj (aG lK aj (pv 5))))))));(case FX=>(refine' aQ (i:=6) ?Kl ?IW ?Gb ?Ko ?Il ?Fl;(case Kl=>exact bE.nd);(case IW=>rfl);(case Gb=>exact (Or.inl rfl));(case Il=>rfl);(case Fl=>exact .inl rfl);(case Ko=>exact (cg (c6 (K:=K) rfl) (aG (bo (K:=K) rfl) (pv 3) (bc (aa aj ae))) (pv 5) (fun _ _=>rfl)))))))))));(case Jx=>exact (aQ (i:=4) bE.nd rfl (Or.inl rfl) (bc ae)))));(case Jn=>(refine' aX ?GX ?Gx ?HA;(case GX=>exact (aF sN (pv 3) hG (aM _)));(case Gx=>(refine' ah ?Hz;(case Hz=>(refine' aQ (i:=3) ?Hn ?HG ?JB ?JN ?KE ?Ho;(case Hn=>exact bE.nd);(case HG=>rfl);(case JB=>exact (Or.inl rfl));(case KE=>rfl);(case Ho=>exact .inl rfl);(case JN=>(refine' bc ?GI;(case GI=>(refine' aa ?Kc ?HE ?GK;(case GK=>rfl);(case Kc=>exact aj);(case HE=>(refine' aa ?Jf ?HM ?G6;(case G6=>rfl);(case Jf=>exact aj);(case HM=>exact ae)))))))))));(case HA=>exact aE)))));(case Kh=>exact (aQ (i:=3) bE.nd rfl (Or.inl rfl) (ay (k7 (K:=K) T) (hr.mono (by decide)) d8 rfl (aa (pv 2) ae))))));(case Fm=>exact (aQ (i:=0) bE.nd rfl (Or.inl rfl) (aG cU (pv 0) aj)))));(case F4=>exact (aQ (i:=2) bE.nd rfl (Or.inl rfl) (cg (c6 (K:=K) rfl) (pv 1) (aG (bo (K:=K) rfl) (aG bQ (pv 0) aj) (aG cU (aG bQ (aG cU (pv 0) aj) aj) aj)) (fun _ _=>rfl))))));(case FH=>(refine' aQ (i:=1) ?JG ?Ie ?Lf ?GU ?Ji ?Ld;(case JG=>exact bE.nd);(case Ie=>rfl);(case Lf=>exact (Or.inl rfl));(case Ji=>rfl);(case Ld=>exact .inl rfl);(case GU=>(refine' aG (bo (K:=K) rfl) ?Kp ?F_;(case Kp=>exact (pv 1));(case F_=>(refine' bc ?FQ;(case FQ=>(refine' aa ?Kw ?Km ?Gz;(case Gz=>rfl);(case Kw=>exact ai);(case Km=>(refine' aa ?KW ?Ic ?Ij;(case Ij=>rfl);(case KW=>exact ai);(case Ic=>(refine' aa ?JR ?Jv ?KG;(case KG=>rfl);(case JR=>exact ai);(case Jv=>(refine' aa ?Jb ?Gv ?JH;(case JH=>rfl);(case Jb=>exact ai);(case Gv=>(refine' aa ?IZ ?G_ ?GO;(case GO=>rfl);(case IZ=>exact ai);(case G_=>(refine' aa ?KC ?KS ?KN;(case KN=>rfl);(case KC=>exact ai);(case KS=>(refine' aa ?J0 ?Kr ?Hm;(case Hm=>rfl);(case J0=>exact ai);(case Kr=>exact ae)))))))))))))))))))))));(case Ju=>(refine' aQ (i:=1) ?Gw ?IA ?GF ?HH ?Kj ?FP;(case Gw=>exact bE.nd);(case IA=>rfl);(case GF=>exact (Or.inl rfl));(case Kj=>rfl);(case FP=>exact .inl rfl);(case HH=>(refine' bc ?J_;(case J_=>(refine' aa ?K8 ?F1 ?Kg;(case Kg=>rfl);(case K8=>exact ai);(case F1=>(refine' aa ?Iv ?Iw ?GV;(case GV=>rfl);(case Iv=>exact ai);(case Iw=>(refine' aa ?IS ?Io ?J5;(case J5=>rfl);(case IS=>exact ai);(case Io=>(refine' aa ?GA ?JP ?Iz;(case Iz=>rfl);(case GA=>exact ai);(case JP=>(refine' aa ?IP ?Iy ?GZ;(case GZ=>rfl);(case IP=>exact ai);(case Iy=>(refine' aa ?GD ?IG ?Hf;(case Hf=>rfl);(case GD=>exact ai);(case IG=>(refine' aa ?Ka ?HU ?HV;(case HV=>rfl);(case Ka=>exact ai);(case HU=>(refine' aa ?Hk ?Im ?Fq;(case Fq=>rfl);(case Hk=>exact ai);(case Im=>(refine' aa ?Ii ?Jm ?K0;(case K0=>rfl);(case Ii=>exact ai);(case Jm=>(refine' aa ?FY ?J7 ?Kt;(case Kt=>rfl);(case FY=>exact ai);(case J7=>(refine' aa ?Ja ?Ge ?JW;(case JW=>rfl);(case Ja=>exact ai);(case Ge=>(refine' aa ?FU ?Fz ?FK;(case FK=>rfl);(case FU=>exact ai);(case Fz=>exact ae)))))))))))))))))))))))))))))))
   refine bb (σ':=[some _,none,none,none,none,none,none,none,none,none,none]) rfl ?_
   walk_at "rd"
   rename_i la hla lb hlb
   refine sM (H0:=H) ((ar hla).trans (ar hlb)) (a8 ak hlb) ak (by walk_at "small") fun lc H1 s1 hc=>?_
   obtain ⟨w,hw,hat⟩:=wx (i:=c % 17 + c / 17 % 29 / 27) (by omega) (by omega)
   have hc:H1 lc = some (.lst (hJ.map V.str)):=hc
   clear hlb hla
   walk_at "rd"
   have hz : 0 ≤ c / 493 % 8∧c / 493 % 8 < 8:=⟨by omega,by omega⟩
   obtain ⟨dd,hdd,hat2⟩:=m_ (ns:=[0,0,0,0,0,1,-1,0]) (i:=c / 493 % 8) hz.1 hz.2
   have hd2 : -1 ≤ dd ∧ dd ≤ 1 := by
     simp only [List.mem_cons,List.not_mem_nil,or_false] at hdd
     omega
   refine ⟨w,rfl,fun hk H2 s2=>?_,fun ms hk lm H2 s2 hm=>?_⟩
   · walk_at "rd"
     rename_i lm hlm lp hlp lx hlx
     exact rK (H0:=H) (ms:=[7,7]) q (s1.trans (s2.trans ((ar hlm).trans ((ar hlp).trans (ar hlx))))) (jS (s1.trans (s2.trans (ar hlm))) hlp) hw (a8 (a8 ak hlp) hlx) (a8 ak hlx) (by decide) (by decide) (by show (((2:Nat):Int) + dd).toNat ≤ 3;omega) (fun e=>by rw [e,ak] at hlp;cases hlp)
   · obtain ⟨k1, k2⟩ := vf hk
     walk_at "rd"
     rename_i lp hlp lx hlx
     exact rK (H0:=H) (ms:=ms) q (s1.trans (s2.trans ((ar hlp).trans (ar hlx)))) (jS (s1.trans s2) hlp) hw (a8 (a8 hm hlp) hlx) (a8 ak hlx) k1 k2 (by omega) (fun e=>by rw [e,hlp] at hm;cases hm)
end
section
variable {P:Program} {w:World} {K:PySem.W.Frag} {mg:Str→Option Value} {base:Heap} {a:aP}
set_option maxHeartbeats 4000000 in
theorem ny (T : Txt w K mg a) : eF P w K mg base cm 2 "_law_changed" oJ := by
 refine fm (sp:=oJ) 1 T.iB dM (fun vs H Q E h=>?_) (fun f cdv A outer s H vs Q E hr h=>?_)
 · obtain ⟨t, c, rfl, _⟩ := h
   rfl
 · obtain ⟨t, c, rfl, hl, q⟩ := h
   have qt:∀ (x:Str) H',aq H H'→x.length ≤ 1500000→Q (.str x) H':=fun x H' s hx=>q _ H' s (.inl ⟨x,rfl,hx⟩)
   refine' ⟨_,?mC,?_⟩
   (case mC=>(refine' ag ?K6 ?Jg;(case Jg=>(refine' ag ?Lh ?Le;(case Le=>(refine' ag ?Fh ?Gp;(case Gp=>(refine' ag ?Jo ?G8;(case G8=>(refine' ag ?FD ?FW;(case FW=>(refine' ag ?Fj ?K1;(case K1=>(refine' ag ?F0 ?GH;(case GH=>(refine' ag ?Jc ?IE;(case IE=>(refine' ag ?HN ?Lb;(case Lb=>exact (ah (au (pv 0))));(case HN=>(refine' aX ?Fx ?JI ?F5;(case Fx=>exact (aF (bz (K:=K) rfl hr.units) (pv 2) aj (aM _)));(case JI=>(refine' ah ?IT;(case IT=>(refine' au ?Ki;(case Ki=>(refine' aG (bo (K:=K) rfl) ?HZ ?J3;(case HZ=>exact (cg (c6 (K:=K) rfl) (bc (aa ai (aa ai (aa ai ae)))) (aG bQ (pv 1) aj) (fun _ _=>rfl)));(case J3=>exact (ay (sF (K:=K) T) (hr.mono (by decide)) d8 rfl (aa (aG cU (pv 1) aj) (aa ai ae))))))))));(case F5=>exact aE)))));(case Jc=>(refine' aX ?KH ?Fo ?Kx;(case KH=>exact (aF (bz (K:=K) rfl hr.units) (pv 2) aj (aM _)));(case Fo=>(refine' ah ?KU;(case KU=>(refine' au ?Gi;(case Gi=>exact (cg (c6 (K:=K) rfl) (bc (aa hG (aa aj (aa (bc (aa ai ae)) ae)))) (aG bQ (pv 1) aj) (fun _ _=>rfl)))))));(case Kx=>exact aE)))));(case F0=>(refine' aX ?Kv ?Hr ?FL;(case Kv=>exact (aF (bz (K:=K) rfl hr.units) (pv 2) aj (aM _)));(case Hr=>(refine' ah ?Ig;(case Ig=>(refine' au ?KP;(case KP=>(refine' fj (K:=K) rfl PySem.F.plainAttrs_str PySem.F.slot_str_join PySem.F.type_str_join (nJ (K:=K) rfl) ?K5 ?JX;(case K5=>exact ai);(case JX=>(refine' aa ?Fb ?Fn ?J8;(case J8=>rfl);(case Fb=>(refine' aG (bo (K:=K) rfl) ?FN ?Hi;(case FN=>(refine' aG lK ?IM ?GN;(case IM=>(refine' bc ?Gs;(case Gs=>(refine' aa ?GS ?KI ?Je;(case Je=>rfl);(case GS=>exact ai);(case KI=>exact ae)))));(case GN=>exact (aG (bo (K:=K) rfl) aj (aG bQ (pv 1) aj)))));(case Hi=>exact (bc (aa (pv 0) ae)))));(case Fn=>exact ae)))))))));(case FL=>exact aE)))));(case Fj=>(refine' aX ?Kf ?KA ?JC;(case Kf=>exact (aF (bz (K:=K) rfl hr.units) (pv 2) aj (aM _)));(case KA=>(refine' ah ?F7;(case F7=>(refine' au ?Ha;(case Ha=>(refine' aG (bo (K:=K) rfl) ?He ?HK;(case He=>exact (pv 0));(case HK=>exact (cg (c6 (K:=K) rfl) (bc (aa ai (aa ai (aa ai ae)))) (aG bQ (pv 1) aj) (fun _ _=>rfl)))))))));(case JC=>exact aE)))));(case FD=>exact (wq (i:=2) (j:=0) rfl (Or.inl rfl) rfl (Or.inl rfl) (by decide +kernel) (by decide +kernel) (by decide +kernel)))));(case Jo=>exact (aX (PW.pt (rq (aF (bz (K:=K) rfl hr.units) (pv 2) aj (aM _)) (nW (aF (iU (K:=K) rfl hr.units) (pv 0) ai (aM _))))) (ag (aQ (i:=3) dM.nd rfl (Or.inl rfl) (aG bQ (pv 1) (aU (bA (K:=K) rfl) rfl T.cf dc (aa (pv 0) ae)))) (ah (au (aG (bo (K:=K) rfl) (fv mj (pv 0) gY (fM (pv 3))) (fv mj (pv 0) (fM (aG (bo (K:=K) rfl) (pv 3) aj)) gY))))) aE))));(case Fh=>exact (aX (aF (bz (K:=K) rfl hr.units) (pv 2) aj (aM _)) (ag (aQ (i:=3) dM.nd rfl (Or.inl rfl) (aG bQ (pv 1) (aG (bo (K:=K) rfl) (aU (bA (K:=K) rfl) rfl T.cf dc (aa (pv 0) ae)) aj))) (ah (au (aG (bo (K:=K) rfl) (aG (bo (K:=K) rfl) (fv mj (pv 0) gY (fM (pv 3))) (cg (c6 (K:=K) rfl) ai (aG bQ (aG cU (pv 1) aj) aj) (fun _ _=>rfl))) (fv mj (pv 0) (fM (pv 3)) gY))))) aE))));(case Lh=>exact (aQ (i:=1) dM.nd rfl (Or.inl rfl) (aG cU (pv 1) aj)))));(case K6=>exact (aQ (i:=2) dM.nd rfl (Or.inl rfl) (aG bQ (pv 1) aj)))))
   refine bb (σ':=[some _,some _,none,none]) rfl ?_
   walk_at "rd"
   refine gS (fun hw=>?_) (fun hw=>?_)
   · walk_at "rd"
     refine g8 (by rw [sizeLine_eq];omega) ?_
     walk_at "rd"
     refine pD (by rw [sizeLine_eq];omega) fun t1 ht1=>?_
     walk_at "rd"
     refine Au (by omega) (by show _ < ((18:Nat):Int);omega) (by decide +kernel) fun ch=>?_
     refine f6 (by rw [sizeLine_eq];show _ + 1 ≤ _;omega) fun t2 ht2=>?_
     have ht2:t2.length = t1.length + 1:=ht2
     walk_at "rd"
     refine pD (by rw [sizeLine_eq];omega) fun t3 ht3=>?_
     refine f6 (by rw [sizeLine_eq];omega) fun t4 ht4=>?_
     exact qt _ _ (aq.refl _) (by omega)
   walk_at "rd"
   refine gS (fun hw2=>?_) (fun hw2=>?_)
   · walk_at "rd"
     refine uL (fun hne=>?_) (fun he=>?_)
     · have hpos : 0 < t.length := by
         rcases Nat.eq_zero_or_pos t.length with z | z
         · exact absurd (j4 (show t.cps.toList = ("" : Str).cps.toList from List.length_eq_zero_iff.mp z)) hne
         · exact z
       walk_at "rd"
       refine g8 (by rw [sizeLine_eq];omega) ?_
       walk_at "rd"
       refine pD (by rw [sizeLine_eq];omega) fun t1 ht1=>?_
       walk_at "rd"
       refine pD (by rw [sizeLine_eq];omega) fun t3 ht3=>?_
       refine f6 (by rw [sizeLine_eq];omega) fun t4 ht4=>?_
       exact qt _ _ (aq.refl _) (by omega)
     · walk_at "rd"
       refine sO (v:=c % 12) (t:=t) rfl rfl (by omega) (fun hw3=>?_) (fun hw3 r hr=>absurd hw3 (by omega))
       walk_at "rd"
       exact qt _ _ (aq.refl _) (by omega)
   walk_at "rd"
   refine sO (v:=c % 12) (t:=t) rfl rfl (by omega) (fun hw3=>?_) (fun hw3 r hr=>?_)
   · walk_at "rd"
     refine gS (fun hw4=>?_) (fun hw4=>?_)
     · walk_at "rd"
       rename_i l1 hl1
       obtain ⟨x,hx,hat⟩:=tD (xs:=["\n"," ","\n\n"]) (L:=2) (i:=c / 12 % 3) (by decide +kernel) (by omega) (by show _ < ((3:Nat):Int);omega)
       refine gm (aH.of ak) hat ?_
       refine f6 (by rw [sizeLine_eq];omega) fun t4 ht4=>?_
       exact qt _ _ (ar hl1) (by omega)
     walk_at "rd"
     refine gS (fun hw5=>?_) (fun hw5=>?_)
     · walk_at "rd"
       rename_i l1 hl1
       have hk0 : 0 ≤ c / 12 % 3∧c / 12 % 3 < 3:=⟨by omega,by omega⟩
       refine Dm ak (by omega) (by omega) fun l2 hl2=>?_
       generalize hkk:(1999 + c / 12 % 3).toNat = kk
       have hkb:kk ≤ 2001:=by omega
       walk_at "rd"
       rename_i l3 hl3
       refine mY (a8 ak hl3) ak (by rw [List.length_replicate,sizeLine_eq];show _ + 1 ≤ _;omega) fun l4 hl4=>?_
       walk_at "rd"
       have e:List.replicate kk (V.str "drop 1") ++ [V.str t] = (List.replicate kk ("drop 1" : Str) ++ [t]).map V.str:=by rw [List.map_append,List.map_replicate];rfl
       have e1:("drop 1" : Str).length = 6:=rfl
       have e2:("\n" : Str).length = 1:=rfl
       rw [e]
       refine rS (aH.of ak) (uc (by rw [e1,e2];omega)) ?_
       refine qt _ _ (((ar hl1).trans (ar hl2)).trans ((ar hl3).trans (ar hl4))) ?_
       have:=sd (sep:="\n") (x:="drop 1") (t:=t) (k:=kk)
       rw [e1,e2] at this
       omega
     walk_at "rd"
     refine gS (fun hw6=>?_) (fun hw6=>?_)
     · walk_at "rd"
       rename_i l1 hl1 l2 hl2
       have s12:=(ar hl1 (o:=.lst [V.str "drop 1"])).trans (ar hl2 (o:=.lst [V.aO,V.int 5,V.ref l1]))
       have hx:c / 12 % 3 = 0∨c / 12 % 3 = 1∨c / 12 % 3 = 2:=by omega
       rcases hx with hx | hx | hx <;> rw [hx]
       · exact gm (aH.of ak) (v:=.aO) rfl (q _ _ s12 (.inr (.inl rfl)))
       · exact gm (aH.of ak) (v:=.int 5) rfl (q _ _ s12 (.inr (.inr (.inl ⟨5,rfl⟩))))
       · exact gm (aH.of ak) (v:=.ref l1) rfl (q _ _ s12 (.inr (.inr (.inr ⟨l1,_,rfl,a8 ak hl2⟩))))
     walk_at "rd"
     refine gS (fun hw7=>?_) (fun hw7=>?_)
     · walk_at "rd"
       rename_i l1 hl1
       obtain ⟨x,hx,hat⟩:=tD (xs:=["","get ","jump "]) (L:=5) (i:=c / 12 % 3) (by decide +kernel) (by omega) (by show _ < ((3:Nat):Int);omega)
       refine gm (aH.of ak) hat ?_
       walk_at "rd"
       refine ⟨_,_,rfl,by decide +kernel,by decide +kernel,fun t2 H2 s2 ht2=>?_⟩
       refine f6 (by rw [sizeLine_eq];omega) fun t4 ht4=>?_
       exact qt _ _ ((ar hl1).trans s2) (by omega)
     walk_at "rd"
     exact qt _ _ (aq.refl _) (by omega)
   · exact qt _ _ (aq.refl _) (by have e:("  " : Str).length = 2:=rfl;omega)
end
section
variable {P:Program} {w:World} {K:PySem.W.Frag} {mg:Str→Option Value} {base:Heap} {a:aP}
theorem Es {K:PySem.W.Frag} {p:Addr} {xs:List V} {n:Nat} {t:kN} {σ : L2.St} {H:Hp} {Q:L2.St→Hp→Prop} (h:cw K H p xs) (hl:xs.length = n) (q:t xs σ H Q):xq K n t (.ref p) σ H Q:=⟨p,xs,rfl,h,hl,q⟩
theorem Bi {t:TG} {ts:kN} {x:V} {xs:List V} {σ : L2.St} {H:Hp} {Q:L2.St→Hp→Prop} (q:t x σ H fun σ1 H1=>ts xs σ1 H1 Q):yh t ts (x :: xs) σ H Q:=⟨x,xs,rfl,q⟩
theorem CA {σ : L2.St} {H:Hp} {Q:L2.St→Hp→Prop} (q:Q σ H):Dh [] σ H Q:=⟨rfl,q⟩
local macro_rules | `(tactic| walk_at "gt") => `(tactic| repeat (first | (with_reducible refine Bi ?_) | (with_reducible refine CA ?_) | (refine' DN ?x ?_; (case x => simp only [List.set_cons_succ, List.set_cons_zero]; rfl))))
set_option maxHeartbeats 4000000 in
theorem jc (T : Txt w K mg a) : eF P w K mg base cm 2 "_law_due_of" tB := by
 refine fm (sp:=tB) 1 T.jf fo (fun vs H Q E h=>?_) (fun f cdv A outer s H vs Q E hr h=>?_)
 · obtain ⟨t, rfl, _⟩ := h
   rfl
 · obtain ⟨t, rfl, hl, e1, e2, q⟩ := h
   obtain ⟨w,ps,hsp⟩:=mD t " "
   obtain ⟨_,hs2⟩:=split_len t " "
   have hlen:ps.length ≤ 1500002:=by rw [hsp,List.length_cons] at hs2;omega
   have hpl:∀ p ∈ ps,p.length ≤ 1500000:=fun p hp=>Nat.le_trans (fW (by rw [hsp];exact List.mem_cons_of_mem _ hp)) hl
   have hp:parse t = eg w ps:=by unfold parse;rw [hsp]
   rw [hp] at e1 e2 q
   refine ⟨_, (ag (aQ (i := 1) fo.nd rfl (Or.inl rfl) (fj (K := K) rfl PySem.F.plainAttrs_str PySem.F.slot_str_split PySem.F.type_str_split jb (pv 0) (aa ai ae)))
     (ag (aQ (i:=2) fo.nd rfl (Or.inl rfl) (ay (k7 (K:=K) T) (hr.mono (by decide)) d8 rfl (aa (cg (c6 (K:=K) rfl) (pv 1) aj (fun _ _=>rfl)) ae)))
     (ag (aX (PW.pt (mS (aF sN (pv 2) hG (aM _)) (mx (aF (iU (K:=K) rfl hr.units) (aU (bA (K:=K) rfl) rfl T.cf dc (aa (pv 2) ae)) (aG Eh (aU (bA (K:=K) rfl) rfl T.cf dc (aa (pv 1) ae)) aj) (aM _))))) (ah (au ai)) aE)
     (ag (tF (i:=3) fo.nd rfl rfl (own:=["_law_word"]) (fr:=[]) rfl ⟨rfl,(by walk_at "clok"),(by walk_at "frok"),rfl,(by decide +kernel),(by decide +kernel),rfl⟩ (gZ (K:=K) rfl (fv (xk (K:=K) rfl) (pv 1) (fM aj) gY)) (fun _ _ _ _=>(cR (i:=0) (show List.Nodup [("_law_word" : Str)] from by decide +kernel) rfl (Or.inl rfl))) (fun _ _ _ _=>eV) (fun _ _ _ _=>(ay (pA (K:=K) T) (hr.mono (by decide)) d8 rfl (aa (pv 0) ae))))
     (ag (aX (aF (DW (K:=K) rfl) hG (pv 3) rfl) (ah (au ai)) aE)
     (ag (aX (iC (fh (K:=K) rfl (aU (jY (K:=K) rfl rfl) rfl T.ij uh (aa (kf (own:=["_law_one","_law_top"]) (fr:=[]) rfl ⟨rfl,(by walk_at "clok"),(by walk_at "frok"),rfl,(by decide +kernel),(by decide +kernel),rfl⟩ (xo (K:=K) rfl rfl T.j9 (aa (pv 3) (aa (pv 2) ae))) (fun _ _ _ _=>(BA (K:=K) (n:=2) rfl rfl (rF (cR (i:=0) (show List.Nodup [("_law_one" : Str),("_law_top" : Str)] from by decide +kernel) rfl (Or.inl rfl)) (rF (cR (i:=1) (show List.Nodup [("_law_one" : Str),("_law_top" : Str)] from by decide +kernel) rfl (Or.inl rfl)) BJ)))) (fun _ _ _ _=>eV) (fun _ _ _ _=>(kj Fv (pv 0) (pv 1) (aM _)))) ae)))) (ah (au ai)) aE)
     (ah (au (aG (bo (K:=K) rfl) (cN (aa (cg (c6 (K:=K) rfl) (pv 1) aj (fun _ _=>rfl)) ae)) (ig (vO (K:=K) rfl) rfl T.gU AU (aa (pv 3) ae))))))))))),?_⟩
   refine bb (σ':=[some _,none,none,none]) rfl ?_
   walk_at "rd"
   refine kd rfl (by rw [sizeLine_eq];omega) hsp (by rw [List.length_cons,sizeLine_eq];omega) (fun l hl=>?_)
   walk_at "rd"
   refine gm (aH.of ak) (v:=.str w) (ek (j:=0) rfl) ?_
   walk_at "rd"
   refine ⟨w,rfl,fun hk H1 s1=>?_,fun ms hk lm H1 s1 hm=>?_⟩
   · walk_at "rd"
     exact e1 (oQ hk) _ ((ar hl).trans s1)
   have hw1:H1 l = some (.lst (List.map V.str (w :: ps))):=s1 _ _ ak
   have s2:=(ar hl).trans s1
   clear s1
   walk_at "rd"
   refine lY (fun hh=>?_) (fun hh=>?_)
   · walk_at "rd"
     exact e1 (t7 hk (by rw [List.length_map,List.length_cons] at hh;omega)) _ s2
   have hcl:ps.length = ms.length:=by rw [List.length_map,List.length_cons] at hh;omega
   clear hh
   walk_at "rd"
   rename_i l2 hl2
   rw [pd]
   walk_at "rd"
   refine fN (K:=K) (a:=l2) (xs:=ps.map V.str) (fun i ys σ H2=>(∃ v,σ = [v])∧aq (upd H1 l2 (.lst (ps.map V.str))) H2∧ys = (ps.take i).map fun p=>optN (bS p)) ⟨⟨_,rfl⟩,aq.refl _,rfl⟩ (fun i ys σ H2 hi ⟨_,s3,e⟩=>⟨aH.of (s3 _ _ ak),by rw [e,List.length_map,List.length_take,sizeLine_eq];omega⟩) ?_ ?_
   · rintro i x ys σ H2 hx ⟨⟨v, rfl⟩, s3, rfl⟩
     obtain ⟨p,hp2,rfl⟩:=iG hx
     have hpm:=List.mem_of_getElem? hp2
     walk_at "rd"
     refine ⟨p,rfl,hpl p hpm,fun n hn H3 s4=>?_,fun hn H3 s4=>?_⟩
     · exact ⟨⟨_,rfl⟩,s3.trans s4,by rw [take_snoc hp2,List.map_append];show _ = _ ++ [optN (bS p)];rw [hn];rfl⟩
     · exact ⟨⟨_,rfl⟩,s3.trans s4,by rw [take_snoc hp2,List.map_append];show _ = _ ++ [optN (bS p)];rw [hn];rfl⟩
   rintro ys σ H2 ⟨_,s3,rfl⟩
   rw [List.length_map,List.take_length]
   have hm2:=s3 _ _ (a8 hm hl2)
   have hw2:=s3 _ _ (a8 hw1 hl2)
   have s4:=s2.trans ((ar hl2).trans s3)
   clear s3 s2 hm hw1 hl2 hl
   walk_at "rd"
   rename_i l3 hl3
   refine JL (aH.of ak) rfl (wd ps) ?_
   have s5:aq H (upd H2 l3 (.lst (ps.map fun p=>optN (bS p)))):=s4.trans (ar hl3)
   cases han:bq ps with
   | none =>
     rw [xw han]
     walk_at "rd"
     exact e1 (i5 han) _ s5
   | some xs =>
     rw [qG han] at s5 ⊢
     rw [wY]
     have hxl:xs.length = ms.length:=by rw [fY han];exact hcl
     obtain ⟨r,ht,ax,hpw⟩:=my hk han hxl
     obtain ⟨kk,hkk⟩:=g7 hk
     obtain ⟨g1,g3,_⟩:=w5 kk w ms hkk
     rw [hpw] at e1 e2 q
     have hm3:(upd H2 l3 (.lst (xs.map V.int))) lm = some (.lst (ms.map V.int)):=a8 hm2 hl3
     have hw3:(upd H2 l3 (.lst (xs.map V.int))) l = some (.lst (List.map V.str (w :: ps))):=a8 hw2 hl3
     have hx3:(upd H2 l3 (.lst (xs.map V.int))) l3 = some (.lst (xs.map V.int)):=ak
     generalize upd H2 l3 (.lst (xs.map V.int)) = H3 at s5 hm3 hw3 hx3 ⊢
     clear s4 hm2 hw2 hl3
     walk_at "rd"
     refine CP ?_
     walk_at "rd"
     refine ⟨_,_,_,_,rfl,aH.of hx3,aH.of hm3,?_⟩
     refine t9 (α:=Int×Int) (xs:=xs.zip ms) (e1:=fun x=>.int x.1) (e2:=fun x=>.int x.2) (fun x=>.bl (decide (x.1 ≤ x.2))) (fun σ=>∃ u v,σ = [u,v]) (by rw [Bx hxl];exact aH.of hx3) (by rw [BK hxl];exact aH.of hm3) (by rw [List.length_zip,sizeLine_eq];omega) ⟨_,_,rfl⟩ ?_ ?_
     · rintro i x ys σ H4 T1 hx cc ss ⟨u, v, rfl⟩ hT
       walk_at "rd"
       refine Es (cw.of ak) rfl ?_
       walk_at "gt"
       walk_at "rd"
       exact cc.next hx rfl (by walk_at "same") ⟨_,_,rfl⟩
     intro H4 s6
     have hw4:=s6 _ _ hw3
     have hx4:=s6 _ _ hx3
     have s7:=s5.trans s6
     clear s6 s5 hw3 hx3 hm3
     walk_at "rd"
     rename_i l4 hl4
     refine tW (bs:=(xs.zip ms).map fun x=>decide (x.1 ≤ x.2)) (by rw [List.map_map];exact aH.of ak) ?_
     rw [Ba (mQ han)]
     have s8:=s7.trans (ar hl4 (o:=.lst ((xs.zip ms).map fun x=>V.bl (decide (x.1 ≤ x.2)))))
     cases hoz:eI xs ms with
     | false =>
       walk_at "rd"
       exact e2 (by rw [hoz];rfl) _ s8
     | true =>
       walk_at "rd"
       refine gm (aH.of (a8 hw4 hl4)) (v:=.str w) (ek (j:=0) rfl) ?_
       walk_at "rd"
       rename_i t1 ht1
       refine wU (aH.of (a8 (a8 hx4 hl4) ht1)) fun t2 ht2=>?_
       have hne : xs.map V.int ≠ [] := fun z => by
         have:=congrArg List.length z
         rw [List.length_map,List.length_nil] at this
         omega
       refine BM (cw.of (a8 ak ht2)) (cw.of ak) (fun z=>by cases z) hne (by rw [sizeLine_eq,List.length_map];show 1 + _ ≤ _;omega) fun l7 hl7=>?_
       have e:ic r = [V.str w] ++ xs.map V.int:=by unfold ic;rw [ht];rfl
       exact q r (by rw [hoz];rfl) (ax.mp hoz) _ _ (((s8.trans (ar ht1)).trans (ar ht2)).trans (ar hl7)) (by rw [e];exact ak)
end
section
variable {P:Program} {w:World} {K:PySem.W.Frag} {mg:Str→Option Value} {base:Heap} {a:aP}
set_option maxHeartbeats 4000000 in
theorem uq (T : Txt w K mg a) : eF P w K mg base cm 3 "_law_due" xH := by
 refine fm (sp:=xH) 2 T.lU gR (fun vs H Q E h=>?_) (fun f cdv A outer s H vs Q E hr h=>?_)
 · obtain ⟨v, rfl, _⟩ := h
   rfl
 · obtain ⟨v, rfl, h⟩ := h
   refine ⟨_, (ag (aX (iC (fh (K := K) rfl (aU (ib (K := K) rfl) rfl T.bt cy (aa (pv 0) (aa (kq (v := .ty "str") rfl T.gk mm rfl) ae))))) (ah (au ai)) aE)
     (ag (aX (aF (bz (K:=K) rfl hr.units) (pv 0) ai (aM _)) (ah (au (bc ae))) aE)
     (ag (aQ (i:=1) gR.nd rfl (Or.inl rfl) (fj (K:=K) rfl PySem.F.plainAttrs_str PySem.F.slot_str_split PySem.F.type_str_split jb (pv 0) (aa ai ae)))
     (ag (aX (aF ke (aU (bA (K:=K) rfl) rfl T.cf dc (aa (pv 1) ae)) aj (aM _)) (ah (au ai)) aE)
     (ag (tF (i:=2) gR.nd rfl rfl (own:=["_law_line"]) (fr:=[]) rfl ⟨rfl,(by walk_at "clok"),(by walk_at "frok"),rfl,(by decide +kernel),(by decide +kernel),rfl⟩ (gZ (K:=K) rfl (pv 1)) (fun _ _ _ _=>(cR (i:=0) (show List.Nodup [("_law_line" : Str)] from by decide +kernel) rfl (Or.inl rfl))) (fun _ _ _ _=>eV) (fun _ _ _ _=>(ay (jc (K:=K) T) (hr.mono (by decide)) d8 rfl (aa (pv 0) ae))))
     (ag (rN PassesOwn.never rfl (gZ (K:=K) rfl (pv 2)) (cR (i:=3) gR.nd rfl (Or.inl rfl)) (ah (aX (fh (K:=K) rfl (aU (ib (K:=K) rfl) rfl T.bt cy (aa (pv 3) (aa (kq (v:=.ty "str") rfl T.gk mm rfl) ae)))) (ah (au (pv 3))) aE)))
     (ah (au (pv 2))))))))),?_⟩
   refine bb (σ':=[some _,none,none,none]) rfl ?_
   rcases h with ⟨t,rfl,hl,e1,e2,q⟩ | ⟨hn,e⟩
   · walk_at "rd"
     refine i7 (fun hh=>?_) (fun hh=>?_)
     · have hp : e9 t = .good [] := by unfold e9; rw [if_pos hh]
       walk_at "rd"
       rename_i l nl
       exact q [] hp (fun r hr=>by cases hr) (Nat.zero_le _) l [] _ (ar nl) ak ⟨rfl,fun i u r z=>by simp at z⟩
     have hp:e9 t = if 2000 < (Txt.split t "\n").length then .bad true else eS (Txt.split t "\n"):=by unfold e9;rw [if_neg hh]
     obtain ⟨hs1,hs2⟩:=split_len t "\n"
     have hpl:∀ p ∈ Txt.split t "\n",p.length ≤ 1500000:=fun p hp=>Nat.le_trans (fW hp) hl
     generalize hsp:Txt.split t "\n" = ls at hp hs1 hs2 hpl
     have hml:(List.map V.str ls).length = ls.length:=List.length_map ..
     rw [hp] at e1 e2 q
     walk_at "rd"
     refine kd rfl (by rw [sizeLine_eq];omega) hsp (by rw [sizeLine_eq];omega) (fun l nl=>?_)
     walk_at "rd"
     refine eW (fun hh2=>?_) (fun hh2=>?_)
     · walk_at "rd"
       exact e1 (by rw [if_pos (by omega)]) _ (ar nl)
     rw [if_neg (by omega)] at e1 e2 q
     walk_at "rd"
     refine fN (K:=K) (a:=l) (xs:=ls.map V.str) (fun i ys σ H2=>(∃ v,σ = [v])∧aq (upd H l (.lst (ls.map V.str))) H2∧lJ H2 (ls.take i) ys) ⟨⟨_,rfl⟩,aq.refl _,rfl,fun i l u z=>by simp at z⟩ (fun i ys σ H2 hi ⟨_,s3,e⟩=>⟨aH.of (s3 _ _ ak),by rw [e.1,List.length_take,sizeLine_eq];omega⟩) ?_ ?_
     · rintro i x ys σ H2 hx ⟨⟨v, rfl⟩, s3, du⟩
       obtain ⟨p,hp2,rfl⟩:=iG hx
       have hpm:=List.mem_of_getElem? hp2
       walk_at "rd"
       refine ⟨p,rfl,hpl p hpm,fun ht H3 s4=>?_,fun ht H3 s4=>?_,fun r ht ok x H3 s4 hx=>?_⟩
       · exact ⟨⟨_,rfl⟩,s3.trans s4,by rw [take_snoc hp2];exact (du.same s4).snoc (.inl ⟨ht,rfl⟩)⟩
       · exact ⟨⟨_,rfl⟩,s3.trans s4,by rw [take_snoc hp2];exact (du.same s4).snoc (.inr (.inl ⟨ht,rfl⟩))⟩
       · exact ⟨⟨_,rfl⟩,s3.trans s4,by rw [take_snoc hp2];exact (du.same s4).snoc (.inr (.inr ⟨r,x,ht,ok,rfl,hx⟩))⟩
     rintro us σ H2 ⟨_,s3,du⟩
     rw [hml,List.take_length] at du
     intro l2 nl2
     have s5:aq H (upd H2 l2 (.lst us)):=((ar nl).trans s3).trans (ar nl2)
     have du2:=du.same (ar nl2 (o:=.lst us))
     have hu2:(upd H2 l2 (.lst us)) l2 = some (.lst us):=ak
     generalize upd H2 l2 (.lst us) = H3 at s5 du2 hu2 ⊢
     clear s3 du nl2 nl
     walk_at "rd"
     refine xf (K:=K) (a:=l2) (xs:=us) (fun i σ H4=>H4 = H3∧(∃ v,σ = [some (.str t),some (.ref l),some (.ref l2),v])∧∃ rs:List Rw,eS (ls.take i) = .good rs∧rs.length = i∧(∀ r ∈ rs,r.ok)∧hW H3 us rs) ⟨rfl,⟨_,rfl⟩,[],rfl,rfl,(fun r hr=>by cases hr),fun i u r _ z=>by simp at z⟩ (fun i σ H4 _ h4=>by rw [h4.1];exact aH.of hu2) ?_ ?_
     · rintro i u σ H4 hu ⟨rfl, ⟨v, rfl⟩, rs, hpa, hrl, ax, tp⟩
       have hi:i < ls.length:=by rw [← du2.1];exact (List.getElem?_eq_some_iff.mp hu).1
       have hli:ls[i]? = some ls[i]:=List.getElem?_eq_getElem hi
       rcases du2.2 i _ u hli hu with ⟨ht,rfl⟩ | ⟨ht,rfl⟩ | ⟨r,x,ht,ok,rfl,hx⟩
       · walk_at "rd"
         exact e1 (hV hli hpa (.inl ⟨ht,rfl⟩)) _ s5
       · walk_at "rd"
         exact e2 (hV hli hpa (.inr ⟨ht,rfl⟩)) _ s5
       · walk_at "rd"
         refine ⟨rfl,⟨_,rfl⟩,rs ++ [r],by rw [take_snoc hli];exact jr hpa ht,by rw [List.length_append,hrl];rfl,fun r' hr'=>?_,tp.snoc (by rw [hrl];exact hu) hx⟩
         rcases List.mem_append.mp hr' with z | z
         · exact ax r' z
         · rw [List.mem_singleton.mp z];exact ok
     · rintro σ H4 ⟨rfl, ⟨v, rfl⟩, rs, hpa, hrl, ax, tp⟩
       rw [du2.1,List.take_length] at hpa
       walk_at "rd"
       exact q rs hpa ax (by rw [hrl,du2.1];omega) l2 us _ s5 hu2 ⟨hrl.symm,tp⟩
   · rcases hn with rfl | ⟨i, rfl⟩ | ⟨l, xs, rfl, hl⟩
     · walk_at "rd"
       exact e _ (aq.refl _)
     · walk_at "rd"
       exact e _ (aq.refl _)
     · walk_at "rd"
       exact e _ (aq.refl _)
end
section
variable {P:Program} {w:World} {K:PySem.W.Frag} {mg:Str→Option Value} {base:Heap} {a:aP}
set_option maxHeartbeats 4000000 in
theorem ow (T : Txt w K mg a) : eF P w K mg base (bB P w) 4 "made_of_one" (qg a) := by
 refine gx (sp:=(qg a)) 3 T.iS nY (fun vs H Q E h=>?_) (fun f cdv A outer s H vs Q E hr h=>?_)
 · obtain ⟨r, w, n, rfl, _⟩ := h
   rfl
 · obtain ⟨r, w, n, rfl, ht, q, e⟩ := h
   refine ⟨_, (ag (aX (PT.br (aF (bz (K := K) rfl hr.units) (pv 0) ai (aM _))) (ah (au (b3 (iR (K := K) T) (hr.mono (by decide)) aC rfl (aa (pv 1) ae)))) aE)
     (ag (aX (PT.br (aF (bz (K:=K) rfl hr.units) (pv 0) ai (aM _))) (ah (au (b3 (gw (K:=K) T) (hr.mono (by decide)) aC rfl (aa (pv 1) ae)))) aE)
     (ag (aX (PT.br (aF (bz (K:=K) rfl hr.units) (pv 0) ai (aM _))) (ah (au (b3 (iy (K:=K) T) (hr.mono (by decide)) aC rfl (aa (pv 1) ae)))) aE)
     (ag (aX (PT.br (aF (bz (K:=K) rfl hr.units) (pv 0) ai (aM _))) (ah (au (b3 (iI (K:=K) T) (hr.mono (by decide)) aC rfl (aa (pv 1) ae)))) aE)
     (ag (aX (PT.br (aF (bz (K:=K) rfl hr.units) (pv 0) ai (aM _))) (ah (au (b3 (iK (K:=K) T) (hr.mono (by decide)) aC rfl (aa (pv 1) ae)))) aE)
     (ah (au (b3 (iw (K:=K) T) (hr.mono (by decide)) aC rfl (aa (pv 1) ae))))))))),?_⟩
   refine bb (σ':=[some _,some _]) rfl ?_
   cases r
   case grow =>
     cases ht
     walk_at "rd"
     exact gW (a:=a) rfl (fun ok p H' s n z=>q ok p H' s z) (fun no H' s=>e no H' s)
   case shrink =>
     cases ht
     walk_at "rd"
     exact gW (a:=a) rfl (fun ok p H' s n z=>q ok p H' s z) (fun no H' s=>e no H' s)
   case gD =>
     cases ht
     walk_at "rd"
     exact gW (a:=a) rfl (fun ok p H' s n z=>q ok p H' s z) (fun no H' s=>e no H' s)
   case call =>
     cases ht
     walk_at "rd"
     exact gW (a:=a) rfl (fun ok p H' s n z=>q ok p H' s z) (fun no H' s=>e no H' s)
   case back =>
     cases ht
     walk_at "rd"
     exact gW (a:=a) rfl (fun ok p H' s n z=>q ok p H' s z) (fun no H' s=>e no H' s)
   case drop =>
     cases ht
     walk_at "rd"
     exact gW (a:=a) rfl (fun ok p H' s n z=>q ok p H' s z) (fun no H' s=>e no H' s)
   all_goals (exact absurd (congrArg (fun z:Str×List Int=>z.2.length) ht) (by intro z;cases z))
end
section
variable {P:Program} {w:World} {K:PySem.W.Frag} {mg:Str→Option Value} {base:Heap} {a:aP}
set_option maxHeartbeats 4000000 in
theorem m4 (T : Txt w K mg a) : eF P w K mg base (bB P w) 4 "made_of_two" (pN a) := by
 refine gx (sp:=(pN a)) 3 T.iV oz (fun vs H Q E h=>?_) (fun f cdv A outer s H vs Q E hr h=>?_)
 · obtain ⟨r, w, n, m, rfl, _⟩ := h
   rfl
 · obtain ⟨r, w, n, m, rfl, ht, q, e⟩ := h
   refine ⟨_, (ag (aX (PT.br (aF (bz (K := K) rfl hr.units) (pv 0) ai (aM _))) (ah (au (b3 (jv (K := K) T) (hr.mono (by decide)) aC rfl (aa (pv 1) (aa (pv 2) ae))))) aE)
     (ag (aX (PT.br (aF (bz (K:=K) rfl hr.units) (pv 0) ai (aM _))) (ah (au (b3 (iL (K:=K) T) (hr.mono (by decide)) aC rfl (aa (pv 1) (aa (pv 2) ae))))) aE)
     (ag (aX (PT.br (aF (bz (K:=K) rfl hr.units) (pv 0) ai (aM _))) (ah (au (b3 (jo (K:=K) T) (hr.mono (by decide)) aC rfl (aa (pv 1) (aa (pv 2) ae))))) aE)
     (ag (aX (PT.br (aF (bz (K:=K) rfl hr.units) (pv 0) ai (aM _))) (ah (au (b3 (jV (K:=K) T) (hr.mono (by decide)) aC rfl (aa (pv 1) (aa (pv 2) ae))))) aE)
     (ah (au (b3 (gr (K:=K) T) (hr.mono (by decide)) aC rfl (aa (pv 1) (aa (pv 2) ae))))))))),?_⟩
   refine bb (σ':=[some _,some _,some _]) rfl ?_
   cases r
   case set =>
     cases ht
     walk_at "rd"
     exact iJ (a:=a) rfl (fun ok p H' s n z=>q ok p H' s z) (fun no H' s=>e no H' s)
   case copy =>
     cases ht
     walk_at "rd"
     exact iJ (a:=a) rfl (fun ok p H' s n z=>q ok p H' s z) (fun no H' s=>e no H' s)
   case put =>
     cases ht
     walk_at "rd"
     exact iJ (a:=a) rfl (fun ok p H' s n z=>q ok p H' s z) (fun no H' s=>e no H' s)
   case get =>
     cases ht
     walk_at "rd"
     exact iJ (a:=a) rfl (fun ok p H' s n z=>q ok p H' s z) (fun no H' s=>e no H' s)
   case branch =>
     cases ht
     walk_at "rd"
     exact iJ (a:=a) rfl (fun ok p H' s n z=>q ok p H' s z) (fun no H' s=>e no H' s)
   all_goals (exact absurd (congrArg (fun z:Str×List Int=>z.2.length) ht) (by intro z;cases z))
end
section
variable {P:Program} {w:World} {K:PySem.W.Frag} {mg:Str→Option Value} {base:Heap} {a:aP}
set_option maxHeartbeats 4000000 in
theorem lI (T : Txt w K mg a) : eF P w K mg base (bB P w) 4 "made_of_three" (qo a) := by
 refine gx (sp:=(qo a)) 3 T.h_ lh (fun vs H Q E h=>?_) (fun f cdv A outer s H vs Q E hr h=>?_)
 · obtain ⟨r, w, n, m, k, rfl, _⟩ := h
   rfl
 · obtain ⟨r, w, n, m, k, rfl, ht, q, e⟩ := h
   refine ⟨_, (ag (aX (PT.br (aF (bz (K := K) rfl hr.units) (pv 0) ai (aM _))) (ah (au (b3 (js (K := K) T) (hr.mono (by decide)) aC rfl (aa (pv 1) (aa (pv 2) (aa (pv 3) ae)))))) aE)
     (ag (aX (PT.br (aF (bz (K:=K) rfl hr.units) (pv 0) ai (aM _))) (ah (au (b3 (jN (K:=K) T) (hr.mono (by decide)) aC rfl (aa (pv 1) (aa (pv 2) (aa (pv 3) ae)))))) aE)
     (ag (aX (PT.br (aF (bz (K:=K) rfl hr.units) (pv 0) ai (aM _))) (ah (au (b3 (jG (K:=K) T) (hr.mono (by decide)) aC rfl (aa (pv 1) (aa (pv 2) (aa (pv 3) ae)))))) aE)
     (ah (au (b3 (iT (K:=K) T) (hr.mono (by decide)) aC rfl (aa (pv 1) (aa (pv 2) (aa (pv 3) ae))))))))),?_⟩
   refine bb (σ':=[some _,some _,some _,some _]) rfl ?_
   cases r
   case add =>
     cases ht
     walk_at "rd"
     exact ki (a:=a) rfl (fun ok p H' s n z=>q ok p H' s z) (fun no H' s=>e no H' s)
   case sub =>
     cases ht
     walk_at "rd"
     exact ki (a:=a) rfl (fun ok p H' s n z=>q ok p H' s z) (fun no H' s=>e no H' s)
   case mul =>
     cases ht
     walk_at "rd"
     exact ki (a:=a) rfl (fun ok p H' s n z=>q ok p H' s z) (fun no H' s=>e no H' s)
   case less =>
     cases ht
     walk_at "rd"
     exact ki (a:=a) rfl (fun ok p H' s n z=>q ok p H' s z) (fun no H' s=>e no H' s)
   all_goals (exact absurd (congrArg (fun z:Str×List Int=>z.2.length) ht) (by intro z;cases z))
end
section
variable {P:Program} {w:World} {K:PySem.W.Frag} {mg:Str→Option Value} {base:Heap} {a:aP}
set_option maxHeartbeats 4000000 in
theorem kK (T : Txt w K mg a) : eF P w K mg base (bB P w) 5 "read_row" (mT a) := by
 refine gx (sp:=(mT a)) 4 T.kM gq (fun vs H Q E h=>?_) (fun f cdv A outer s H vs Q E hr h=>?_)
 · obtain ⟨v, rfl, _⟩ := h
   rfl
 · obtain ⟨v, rfl, h⟩ := h
   refine ⟨_, (ag (iO (ay (gO (K := K) T) (hr.mono (by decide)) aC rfl (aa (pv 0) ae)))
     (ag (PS.br (aQ (i:=1) gq.nd rfl (Or.inl rfl) (fj (K:=K) rfl PySem.F.plainAttrs_str PySem.F.slot_str_split PySem.F.type_str_split jb (pv 0) (aa ai ae))))
     (ag (PS.br (aQ (i:=2) gq.nd rfl (Or.inl rfl) (cg (c6 (K:=K) rfl) (pv 1) aj (fun _ _=>rfl))))
     (ag (aX (PT.br (aF (vQ rfl rfl) (pv 2) (aL (v:=.ref a.dZ) rfl T.lj rfl) rfl)) (ah (gf T.fw rfl (aa ai ae))) aE)
     (ag (xE (i:=3) rfl rfl rfl (fun _ _ z=>z) gq.nd rfl rfl (own:=["part"]) (fr:=[]) rfl ⟨rfl,(by walk_at "clok"),(by walk_at "frok"),rfl,(by decide +kernel),(by decide +kernel),rfl⟩ (gZ (K:=K) rfl (fv (xk (K:=K) rfl) (pv 1) (fM aj) gY)) (fun _ _ _ _=>(cR (i:=0) (show List.Nodup [("part" : Str)] from by decide +kernel) rfl (Or.inl rfl))) (fun _ _ _ _=>eV) (fun _ _ _ _=>(ay (nt (K:=K) T) (hr.mono (by decide)) uz rfl (aa (pv 0) ae))))
     (ag (aX (PT.br (aF (iU (K:=K) rfl hr.units) (aU (bA (K:=K) rfl) rfl T.cf dc (aa (pv 3) ae)) (Bd rfl rfl (aL (v:=.ref a.dZ) rfl T.lj rfl) (pv 2) (fun _ _=>rfl)) (aM _))) (ah (gf T.fw rfl (aa (wO (pv 2)) ae))) aE)
     (ag (aX (PT.br (aF (bz (K:=K) rfl hr.units) (aU (bA (K:=K) rfl) rfl T.cf dc (aa (pv 3) ae)) aj (aM _))) (ah (au (ay (ow (K:=K) T) (hr.mono (by decide)) aC rfl (aa (pv 2) (aa (cg (c6 (K:=K) rfl) (pv 3) aj (fun _ _=>rfl)) ae))))) aE)
     (ag (aX (PT.br (aF (bz (K:=K) rfl hr.units) (aU (bA (K:=K) rfl) rfl T.cf dc (aa (pv 3) ae)) aj (aM _))) (ah (au (ay (m4 (K:=K) T) (hr.mono (by decide)) aC rfl (aa (pv 2) (aa (cg (c6 (K:=K) rfl) (pv 3) aj (fun _ _=>rfl)) (aa (cg (c6 (K:=K) rfl) (pv 3) aj (fun _ _=>rfl)) ae)))))) aE)
     (ah (au (ay (lI (K:=K) T) (hr.mono (by decide)) aC rfl (aa (pv 2) (aa (cg (c6 (K:=K) rfl) (pv 3) aj (fun _ _=>rfl)) (aa (cg (c6 (K:=K) rfl) (pv 3) aj (fun _ _=>rfl)) (aa (cg (c6 (K:=K) rfl) (pv 3) aj (fun _ _=>rfl)) ae))))))))))))))),?_⟩
   refine bb (σ':=[some _,none,none,none]) rfl ?_
   rcases h with ⟨t,rfl,hl,e1,e2,q⟩ | ⟨hn,e⟩
   · walk_at "rd"
     refine ⟨_,rfl,.inl ⟨t,rfl,?_⟩⟩
     obtain ⟨w,ps,hsp⟩:=mD t " "
     obtain ⟨_,hs2⟩:=split_len t " "
     have hlen:ps.length ≤ 1500002:=by rw [hsp,List.length_cons] at hs2;omega
     have hpl:∀ p ∈ ps,p.length ≤ 1500000:=fun p hp=>Nat.le_trans (fW (by rw [hsp];exact List.mem_cons_of_mem _ hp)) hl
     have hwl:w.length ≤ 1500000:=Nat.le_trans (fW (by rw [hsp];exact List.mem_cons_self ..)) hl
     have hp:parse t = eg w ps:=by unfold parse;rw [hsp]
     rw [hp] at e1 e2 q
     walk_at "rd"
     refine kd rfl (by rw [sizeLine_eq];omega) hsp (by rw [List.length_cons,sizeLine_eq];omega) (fun l hl=>?_)
     walk_at "rd"
     refine gm (aH.of ak) (v:=.str w) (ek (j:=0) rfl) ?_
     walk_at "rd"
     cases hk:kinds.lookup w with
     | none =>
       have hc:bY (eC counts) (.inr w) = none:=by rw [mq,hk];rfl
       refine A_ T.i9 hc ?_
       walk_at "rd"
       exact ⟨by decide,e1 (oQ hk) _ (ar hl)⟩
     | some ms =>
       have hc:bY (eC counts) (.inr w) = some (.int ((ms.length:Nat):Int)):=by rw [mq,hk];rfl
       refine xm T.i9 hc ?_
       walk_at "rd"
       rename_i l2 hl2
       rw [pd]
       walk_at "rd"
       refine fN (K:=K) (a:=l2) (xs:=ps.map V.str) (fun i ys σ H1=>(∃ v,σ = [v])∧aq (upd (upd H l (.lst (List.map V.str (w :: ps)))) l2 (.lst (ps.map V.str))) H1∧∃ ns:List Int,ys = ns.map V.int∧bq (ps.take i) = some ns) ⟨⟨_,rfl⟩,aq.refl _,[],rfl,rfl⟩ (fun i ys σ H1 hi ⟨_,s1,ns,e,e2⟩=>⟨aH.of (s1 _ _ ak),by rw [e,List.length_map,fY e2,List.length_take,sizeLine_eq];omega⟩) ?_ ?_
       · rintro i x ys σ H1 hx ⟨⟨v, rfl⟩, s1, ns, rfl, hns⟩
         obtain ⟨p,hp2,rfl⟩:=iG hx
         have hpm:=List.mem_of_getElem? hp2
         walk_at "rd"
         refine ⟨p,rfl,hpl p hpm,fun n hn H2 s2=>?_,fun hn H2 s2=>?_⟩
         · exact ⟨⟨_,rfl⟩,s1.trans s2,ns ++ [n],by rw [List.map_append];rfl,by rw [take_snoc hp2];exact kJ hns hn⟩
         · exact e1 (i5 (oM hpm hn)) H2 (((ar hl).trans (ar hl2)).trans (s1.trans s2))
       · rintro ys σ H1 ⟨_, s1, ns, rfl, hns⟩
         rw [List.length_map,List.take_length] at hns
         have s2:aq H H1:=((ar hl).trans (ar hl2)).trans s1
         clear s1
         have hnl:ns.length ≤ 1500002:=by rw [fY hns];exact hlen
         walk_at "rd"
         rename_i l3 hl3
         have s3:aq H (upd H1 l3 (.lst (ns.map V.int))):=s2.trans (ar hl3)
         refine Cm ?_
         walk_at "rd"
         refine BF T.i9 hc ?_
         by_cases hln:ns.length = ms.length
         · obtain ⟨r, ht, ax, hpw⟩ := my hk hns hln
           rw [hpw] at e1 e2 q
           have q':r.ok→∀ p H',aq H H'→e7 a H' p r→Q (.ref p) H':=fun ok p H' s z=>q r (by rw [if_pos (ax.mpr ok)]) ok p H' s z
           have e' : ¬ r.ok→∀ H',aq H H'→E (.ref a.aW) none H':=fun no H' s=>e2 (by rw [if_neg (fun z=>no (ax.mp z))]) H' s
           rw [← hln]
           clear e1 e2 q hpw ax hln hc hk
           obtain ⟨w',⟨n,ht2⟩ | ⟨n,m,ht2⟩ | ⟨n,m,k,ht2⟩⟩:=tZ r
           · rw [ht] at ht2
             cases ht2
             rw [show ((([n]:List Int).length:Nat):Int) = 1 from rfl]
             walk_at "rd"
             exact ⟨r,w,n,rfl,ht,fun ok p H5 s5 z=>q' ok p H5 (s3.trans s5) z,fun no H5 s5=>e' no H5 (s3.trans s5)⟩
           · rw [ht] at ht2
             cases ht2
             rw [show ((([n,m]:List Int).length:Nat):Int) = 2 from rfl]
             walk_at "rd"
             exact ⟨r,w,n,m,rfl,ht,fun ok p H5 s5 z=>q' ok p H5 (s3.trans s5) z,fun no H5 s5=>e' no H5 (s3.trans s5)⟩
           · rw [ht] at ht2
             cases ht2
             rw [show ((([n,m,k]:List Int).length:Nat):Int) = 3 from rfl]
             walk_at "rd"
             exact ⟨r,w,n,m,k,rfl,ht,fun ok p H5 s5 z=>q' ok p H5 (s3.trans s5) z,fun no H5 s5=>e' no H5 (s3.trans s5)⟩
         · have et := e1 (l6 hk hns hln) _ s3
           walk_at "rd"
           refine AW (t:=w) ?_
           walk_at "rd"
           exact ⟨by omega,by show 1 ≤ 1000;decide,et⟩
   · walk_at "rd"
     exact ⟨_,rfl,.inr ⟨hn,e⟩⟩
end
section
variable {P:Program} {w:World} {K:PySem.W.Frag} {mg:Str→Option Value} {base:Heap} {a:aP}
set_option maxHeartbeats 4000000 in
theorem qF (T : Txt w K mg a) : eF P w K mg base (bB P w) 6 "read_code" (kR a) := by
 refine gx (sp:=(kR a)) 5 T.jP jz (fun vs H Q E h=>?_) (fun f cdv A outer s H vs Q E hr h=>?_)
 · obtain ⟨v, rfl, _⟩ := h
   rfl
 · obtain ⟨v, rfl, h⟩ := h
   refine ⟨_, (ag (iO (ay (gO (K := K) T) (hr.mono (by decide)) aC rfl (aa (pv 0) ae)))
     (ag (PS.br (aX (aF (bz (K:=K) rfl hr.units) (pv 0) ai (aM _)) (ah (au (bc ae))) aE))
     (ag (PS.br (aQ (i:=1) jz.nd rfl (Or.inl rfl) (fj (K:=K) rfl PySem.F.plainAttrs_str PySem.F.slot_str_split PySem.F.type_str_split jb (pv 0) (aa ai ae))))
     (ag (aX (PT.br (aF ke (aU (bA (K:=K) rfl) rfl T.cf dc (aa (pv 1) ae)) (aL (v:=.int 2000) rfl T.dR.choose_spec ⟨_,rfl⟩) (aM _))) (ah (gf T.fw rfl (aa (Bc (aL (v:=.int 2000) rfl T.dR.choose_spec ⟨_,rfl⟩)) ae))) aE)
     (ah (au (wg rfl rfl rfl (fun _ _ z=>z) (own:=["line"]) (fr:=[]) rfl ⟨rfl,(by walk_at "clok"),(by walk_at "frok"),rfl,(by decide +kernel),(by decide +kernel),rfl⟩ (gZ (K:=K) rfl (pv 1)) (fun _ _ _ _=>(cR (i:=0) (show List.Nodup [("line" : Str)] from by decide +kernel) rfl (Or.inl rfl))) (fun _ _ _ _=>eV) (fun _ _ _ _=>(ay (kK (K:=K) T) (hr.mono (by decide)) uz rfl (aa (pv 0) ae)))))))))),?_⟩
   refine bb (σ':=[some _,none]) rfl ?_
   rcases h with ⟨t,rfl,hl,e1,e2,q⟩ | ⟨hn,e⟩
   · walk_at "rd"
     refine ⟨_,rfl,.inl ⟨t,rfl,?_⟩⟩
     walk_at "rd"
     refine i7 (fun hh=>?_) (fun hh=>?_)
     · have hp : e9 t = .good [] := by unfold e9; rw [if_pos hh]
       walk_at "rd"
       rename_i l nl
       exact q [] hp (fun r hr=>by cases hr) (Nat.zero_le _) l [] _ (by walk_at "same") ak cV.nil
     have hp:e9 t = if 2000 < (Txt.split t "\n").length then .bad true else eS (Txt.split t "\n"):=by unfold e9;rw [if_neg hh]
     obtain ⟨hs1,hs2⟩:=split_len t "\n"
     have hpl:∀ p ∈ Txt.split t "\n",p.length ≤ 1500000:=fun p hp=>Nat.le_trans (fW hp) hl
     generalize hsp:Txt.split t "\n" = ls at hp hs1 hs2 hpl
     have hml:(List.map V.str ls).length = ls.length:=List.length_map ..
     rw [hp] at e1 e2 q
     walk_at "rd"
     refine kd rfl (by rw [sizeLine_eq];omega) hsp (by rw [sizeLine_eq];omega) (fun l nl=>?_)
     walk_at "rd"
     refine eW (fun hh2=>?_) (fun hh2=>?_)
     · walk_at "rd"
       refine Bp (by decide +kernel) (by decide +kernel) (by decide +kernel) ?_
       walk_at "rd"
       exact ⟨by show 1 ≤ 1000;decide,e1 (by rw [if_pos (by omega)]) _ (ar nl)⟩
     rw [if_neg (by omega)] at e1 e2 q
     walk_at "rd"
     refine fN (K:=K) (a:=l) (xs:=ls.map V.str) (fun i ys σ H1=>(∃ v,σ = [v])∧aq (upd H l (.lst (ls.map V.str))) H1∧∃ (ps:List Addr) (rs:List Rw),ys = ps.map V.ref∧ps.length = i∧cV a H1 ps rs∧eS (ls.take i) = .good rs∧∀ r ∈ rs,r.ok) ⟨⟨_,rfl⟩,aq.refl _,[],[],rfl,rfl,cV.nil,rfl,fun r hr=>by cases hr⟩ (fun i ys σ H1 hi ⟨_,s1,ps,rs,e,e2,_⟩=>⟨aH.of (s1 _ _ ak),by rw [e,List.length_map,e2,sizeLine_eq];rw [List.length_map] at hi;omega⟩) ?_ ?_
     · rintro i x ys σ H1 hx ⟨⟨v, rfl⟩, s1, ps, rs, rfl, hps, hr, hpa, ax⟩
       obtain ⟨p,hp2,rfl⟩:=iG hx
       have hpm:=List.mem_of_getElem? hp2
       have s0:aq H H1:=(ar nl).trans s1
       walk_at "rd"
       refine ⟨_,rfl,.inl ⟨p,rfl,hpl p hpm,fun ht H2 s2=>?_,fun ht H2 s2=>?_,fun r ht ok x H2 s2 hx=>?_⟩⟩
       · exact e1 (hV hp2 hpa (.inl ⟨ht,rfl⟩)) H2 (s0.trans s2)
       · exact e2 (hV hp2 hpa (.inr ⟨ht,rfl⟩)) H2 (s0.trans s2)
       · refine ⟨⟨_, rfl⟩, s1.trans s2, ps ++ [x], rs ++ [r], by rw [List.map_append]; rfl, by rw [List.length_append, hps]; rfl, (hr.same s2).snoc hx, by rw [take_snoc hp2]; exact jr hpa ht, fun r' hr' => ?_⟩
         rcases List.mem_append.mp hr' with z | z
         · exact ax r' z
         · rw [List.mem_singleton.mp z];exact ok
     · rintro ys σ H1 ⟨_, s1, ps, rs, rfl, hps, hr, hpa, ax⟩
       rw [List.length_map,List.take_length] at hpa
       rw [List.length_map] at hps
       walk_at "rd"
       rename_i p np
       exact q rs hpa ax (by rw [← hr.1,hps];omega) p ps _ ((ar nl).trans (s1.trans (ar np))) ak (hr.same (ar np))
   · walk_at "rd"
     exact ⟨_,rfl,.inr ⟨hn,e⟩⟩
end
section
variable {P:Program} {w:World} {K:PySem.W.Frag} {mg:Str→Option Value} {base:Heap} {a:aP}
set_option maxHeartbeats 4000000 in
theorem kX (T : Txt w K mg a) : eF P w K mg base cm 7 "_law_told" tq := by
 refine fm (sp:=tq) 6 T.kE bT (fun vs H Q E h=>?_) (fun f cdv A outer s H vs Q E hr h=>?_)
 · obtain ⟨al, v, rfl, _⟩ := h
   rfl
 · obtain ⟨al, v, rfl, h⟩ := h
   refine ⟨_, (ag (aQ (i := 2) bT.nd rfl (Or.inl rfl) hG)
     (ag (aQ (i:=3) bT.nd rfl (Or.inl rfl) ai)
     (ag (aQ (i:=4) bT.nd rfl (Or.inl rfl) kn)
     (ag (Bw (i:=5) rfl rfl rfl (GG (fh (K:=K) rfl (pv 0)) (xA (P:=P) (w:=w) (K:=K) (mg:=mg) (base:=base) (km:=1) (i:=2) ⟨rfl,rfl,rfl,rfl,rfl⟩ bT.nd rfl (Or.inl rfl) (kK (K:=K) T) (hr.mono (by decide)) (hr.mono (by decide)) rfl (aa (pv 1) ae)) (xu (K:=K) (i:=2) (own:=["_law_row_here"]) (fr:=[]) rfl bT.nd rfl rfl rfl ⟨rfl,(by walk_at "clok"),(by walk_at "frok"),rfl,(by decide +kernel),(by decide +kernel),rfl⟩ (qF (K:=K) T) (hr.mono (by decide)) rfl (aa (pv 1) ae) (fun _ _ _ _=>(cR (i:=0) (show List.Nodup [("_law_row_here" : Str)] from by decide +kernel) rfl (Or.inl rfl))) (fun _ _ _ _=>eV) (fun _ _ _ _=>(uB (P:=P) (w:=w) (K:=K) (mg:=mg) (base:=base) (k:=1) ⟨rfl,rfl,rfl,rfl,rfl⟩ (pv 0) (hr.mono (by decide)) d8)))) T.fw T.n9 T.cB rfl rfl bT.nd rfl rfl (fun ea oe hxc _=>(ag (aQ (i:=3) bT.nd rfl (Or.inl rfl) ai)
     (ah (aQ (i:=4) bT.nd rfl (Or.inl rfl) (uH (aU (gT (K:=K) rfl (List.mem_append_right _ (List.mem_singleton.mpr rfl)) hxc T.jq) rfl T.bt cy (aa (pv 5) (aa (aL (v:=.ref a.aR) rfl T.cx rfl) ae))) (vd (uU (aU (gT (K:=K) rfl (List.mem_append_right _ (List.mem_singleton.mpr rfl)) hxc T.jq) rfl T.bt cy (aa (pv 5) (aa (aL (v:=.ref a.aW) rfl T.gi rfl) ae)))))))))) (fun ea oe hxc _=>(ag (aQ (i:=3) bT.nd rfl (Or.inl rfl) ai)
     (ah (aQ (i:=4) bT.nd rfl (Or.inl rfl) (uH (aU (gT (K:=K) rfl (List.mem_append_right _ (List.mem_singleton.mpr rfl)) hxc T.lD) rfl T.bt cy (aa (pv 5) (aa (aL (v:=.ref a.aR) rfl T.cx rfl) ae))) (vd (uU (aU (gT (K:=K) rfl (List.mem_append_right _ (List.mem_singleton.mpr rfl)) hxc T.lD) rfl T.bt cy (aa (pv 5) (aa (aL (v:=.ref a.aV) rfl T.fu rfl) ae)))))))))))
     (ag (aX (iC (fh (K:=K) rfl (pv 4))) (ah (au ai)) aE)
     (ag (aX (aF (iU (K:=K) rfl hr.units) (pv 3) ai (aM _)) (ah (au (pv 3))) aE)
     (ah (au (pv 2))))))))),?_⟩
   refine bb (σ':=[some _,some _,none,none,none,none]) rfl ?_
   walk_at "rd"
   refine DM ?_
   refine Gk ?_
   rcases h with ⟨t,rfl,hl,h⟩ | ⟨hn,e⟩
   · cases al with
     | true =>
       obtain ⟨e1,e2,q⟩:=(show BN (parse t) H Q from h)
       walk_at "rd"
       refine rT ?_
       walk_at "rd"
       refine ⟨_,rfl,.inl ⟨t,rfl,hl,fun ht H1 s1=>.inl ⟨rfl,fun ea hea=>?_⟩,fun ht H1 s1=>.inr ⟨rfl,fun ea hea=>?_⟩,fun r ht ok x H1 s1 hx=>?_⟩⟩
       · unfold eN
         walk_at "rd"
         refine ee (fun z=>nomatch z) T.ba ?_
         walk_at "rd"
         refine ee (fun z=>nomatch z) T.bF ?_
         walk_at "rd"
         exact e1 ht _ s1
       · unfold eN
         walk_at "rd"
         refine ee (fun z=>nomatch z) T.bD ?_
         walk_at "rd"
         refine ee (fun z=>nomatch z) T.b_ ?_
         walk_at "rd"
         exact e2 ht _ s1
       · obtain ⟨dx, hx⟩ := hx
         refine ⟨x,_,dx,_,_,rfl,hx,oY _,(kT T r).mono (by decide),x,rfl,⟨dx,hx⟩,fun lp hlp=>?_⟩
         walk_at "rd"
         exact q r ht ok lp _ (s1.trans (ar hlp)) ak
     | false =>
       obtain ⟨e1,e2,q⟩:=(show Ey (e9 t) H Q from h)
       walk_at "rd"
       refine qh ?_
       walk_at "rd"
       refine ⟨_,rfl,.inl ⟨t,rfl,hl,fun ht H1 s1=>.inl ⟨rfl,fun ea hea=>?_⟩,fun ht H1 s1=>.inr ⟨rfl,fun ea hea=>?_⟩,fun rs ht ok hrn l ps H1 s1 hl1 hr=>?_⟩⟩
       · unfold eN
         walk_at "rd"
         refine ee (fun z=>nomatch z) T.ba ?_
         walk_at "rd"
         refine ee (fun z=>nomatch z) T.bF ?_
         walk_at "rd"
         exact e1 ht _ s1
       · unfold eN
         walk_at "rd"
         refine ee (fun z=>nomatch z) T.bD ?_
         walk_at "rd"
         refine ee (fun z=>nomatch z) T.b_ ?_
         walk_at "rd"
         exact e2 ht _ s1
       · refine ⟨l, ps.map V.ref, rfl, aH.of hl1, ?_⟩
         refine fN (K:=K) (a:=l) (xs:=ps.map V.ref) (fun i ys σ H2=>(∃ v,σ = [v])∧aq H1 H2∧ys.length = i∧hW H2 ys rs) ⟨⟨_,rfl⟩,aq.refl _,rfl,fun i u r z=>by simp at z⟩ (fun i ys σ H2 hi ⟨_,s3,e,_⟩=>⟨aH.of (s3 _ _ hl1),by rw [e,sizeLine_eq];rw [List.length_map,hr.1] at hi;omega⟩) ?_ ?_
         · rintro i x ys σ H2 hx ⟨⟨v, rfl⟩, s3, hyl, tp⟩
           obtain ⟨p,hp2,rfl⟩:=iG hx
           have hi:i < rs.length:=by rw [← hr.1];exact (List.getElem?_eq_some_iff.mp hp2).1
           have hri:rs[i]? = some rs[i]:=List.getElem?_eq_getElem hi
           obtain ⟨dx,hrow⟩:=(hr.2 i p _ hp2 hri).same s3
           walk_at "rd"
           refine BC hrow (oY _) ((kT T _).mono (by decide)) ?_
           walk_at "rd"
           refine ⟨p,rfl,⟨dx,hrow⟩,fun t1 ht1=>?_⟩
           exact ⟨⟨_,rfl⟩,s3.trans (ar ht1),by rw [List.length_append,hyl];rfl,(tp.same (ar ht1)).add (by rw [hyl];exact hri) ak⟩
         · rintro us σ H2 ⟨_, s3, hul, tp⟩
           rw [List.length_map] at hul
           intro l2 hl2
           walk_at "rd"
           exact q rs ht ok hrn l2 us _ ((s1.trans s3).trans (ar hl2)) ak ⟨by rw [hul,hr.1],tp.same (ar hl2)⟩
   · cases al with
     | true =>
       walk_at "rd"
       refine rT ?_
       walk_at "rd"
       refine ⟨_,rfl,.inr ⟨hn,.inl ⟨rfl,fun ea hea=>?_⟩⟩⟩
       unfold eN
       walk_at "rd"
       refine ee (fun z=>nomatch z) T.ba ?_
       walk_at "rd"
       refine ee (fun z=>nomatch z) T.bF ?_
       walk_at "rd"
       exact e _ (aq.refl _)
     | false =>
       walk_at "rd"
       refine qh ?_
       walk_at "rd"
       refine ⟨_,rfl,.inr ⟨hn,.inl ⟨rfl,fun ea hea=>?_⟩⟩⟩
       unfold eN
       walk_at "rd"
       refine ee (fun z=>nomatch z) T.ba ?_
       walk_at "rd"
       refine ee (fun z=>nomatch z) T.bF ?_
       walk_at "rd"
       exact e _ (aq.refl _)
end
section
variable {P:Program} {w:World} {K:PySem.W.Frag} {mg:Str→Option Value} {base:Heap} {a:aP}
theorem Cg {A B:Prop} (h:B):if false = true then A else B:=by rw [if_neg (by decide)];exact h
theorem lX {A B:Prop} (h:A):if true = true then A else B:=by rw [if_pos rfl];exact h
theorem o7 {K : PySem.W.Frag} {H H' : Hp} {a : Addr} {xs : List V} (e : aq H H') (h : aH K H a xs) : aH K H' a xs := by
 rcases h with (h | ⟨o,h⟩) | h
 · exact .inl (.inl (e _ _ h))
 · exact .inl (.inr ⟨o,e _ _ h⟩)
 · exact .inr h
set_option maxHeartbeats 4000000 in
theorem law_fn {fa : Addr} {fd : FuncData} (T : Txt w K mg a) (F : be K "law" "law" fX fa fd) : eO P w K mg base cm 8 fa fd ["_law_script"] (ui K) := by
 refine F.ok (k:=7) ju (fun vs H Q E h=>?_) (fun cdv A outer s H vs Q E hr h=>?_)
 · obtain ⟨a0, ns, rfl, _⟩ := h
   rfl
 · obtain ⟨a0, ns, rfl, hS0, h63, q⟩ := h
   refine ⟨_, (ag (aQ (i := 1) ju.nd rfl (Or.inl rfl) (fj (K := K) rfl PySem.F.plainAttrs_str PySem.F.slot_str_join PySem.F.type_str_join (nJ (K := K) rfl) ai (aa (kf (own := ["_law_cell"]) (fr := []) rfl ⟨rfl, (by walk_at "clok"), (by walk_at "frok"), rfl, (by decide +kernel), (by decide +kernel), rfl⟩ (gZ (K := K) rfl (fv (xk (K := K) rfl) (pv 0) (fM aj) (fM aj))) (fun _ _ _ _ => (cR (i := 0) (show List.Nodup [("_law_cell" : Str)] from by decide +kernel) rfl (Or.inl rfl))) (fun _ _ _ _ => eV) (fun _ _ _ _ => (ay (uw (K := K) T) (hr.mono (by decide)) d8 rfl (aa (pv 0) ae)))) ae)))
     (ag (aQ (i:=1) ju.nd rfl (Or.inl rfl) (ay (ny (K:=K) T) (hr.mono (by decide)) d8 rfl (aa (pv 1) (aa (ay (oj (K:=K) T) (hr.mono (by decide)) d8 rfl (aa (pv 0) (aa aj ae))) ae))))
     (ag (aX (aF (iU (K:=K) rfl hr.units) (ay (kX (K:=K) T) (hr.mono (by decide)) d8 rfl (aa kn (aa (pv 1) ae))) (ay (uq (K:=K) T) (hr.mono (by decide)) d8 rfl (aa (pv 1) ae)) (aM _)) (ah (au kn)) aE)
     (ag (aQ (i:=2) ju.nd rfl (Or.inl rfl) ai)
     (ag (aX (fh (K:=K) rfl (aU (ib (K:=K) rfl) rfl T.bt cy (aa (pv 1) (aa (kq (v:=.ty "str") rfl T.gk mm rfl) ae)))) (ah (aQ (i:=2) ju.nd rfl (Or.inl rfl) (ay (jc (K:=K) T) (hr.mono (by decide)) d8 rfl (aa (pv 1) ae)))) aE)
     (ah (au (kj (bz (K:=K) rfl hr.units) (ay (kX (K:=K) T) (hr.mono (by decide)) d8 rfl (aa kn (aa (pv 1) ae))) (pv 2) (aM _))))))))),?_⟩
   refine bb (σ':=[some _,none,none]) rfl ?_
   walk_at "rd"
   rename_i l0 hl0
   have hcl:=xx ns (some 1) (some 9)
   generalize ot ns (some 1) (some 9) = cs at hcl ⊢
   refine fN (K:=K) (a:=l0) (xs:=cs.map V.int) (fun i ys σ H1=>(∃ v,σ = [v])∧aq (upd H l0 (.lst (cs.map V.int))) H1∧∃ ts:List Str,ys = ts.map V.str∧ts.length = i∧∀ t ∈ ts,t.length ≤ 11000) ⟨⟨_,rfl⟩,aq.refl _,[],rfl,rfl,fun t ht=>by cases ht⟩ (fun i ys σ H1 hi ⟨_,s1,ts,e,e2,_⟩=>⟨aH.of (s1 _ _ ak),by rw [e,List.length_map,e2,sizeLine_eq];rw [List.length_map] at hi;omega⟩) ?_ ?_
   · rintro i x ys σ H1 hx ⟨⟨v, rfl⟩, s1, ts, rfl, htl, htn⟩
     obtain ⟨c,_,rfl⟩:=iG hx
     walk_at "rd"
     refine ⟨c,rfl,fun t H2 s2 ht=>?_⟩
     exact ⟨⟨_, rfl⟩, s1.trans s2, ts ++ [t], by rw [List.map_append]; rfl, by rw [List.length_append, htl]; rfl, fun t' ht' => by
       rcases List.mem_append.mp ht' with z | z
       · exact htn t' z
       · rw [List.mem_singleton.mp z];exact ht⟩
   rintro ys σ H1 ⟨_,s1,ts,rfl,htl,htn⟩
   rw [List.length_map] at htl
   have hS1:=o7 ((ar hl0).trans s1) hS0
   clear s1 hl0 hS0
   walk_at "rd"
   have e2:("\n" : Str).length = 1:=rfl
   refine rS (aH.of ak) (joinOk_of (L:=11001) (N:=63) (fun t ht=>by have:=htn t ht;omega) (by omega) (by decide)) ?_
   have hjl:=join_le (sep:="\n") (ts:=ts) (L:=11000) (N:=63) htn (by omega)
   generalize PySem.Str.join "\n" ts = tx at hjl ⊢
   rename_i l1 hl1
   have hS2:=o7 (ar hl1 (o:=.lst (ts.map V.str))) hS1
   walk_at "rd"
   refine ⟨tx,_,rfl,by omega,fun v H2 s2 hv=>?_⟩
   rcases hv with ⟨t,rfl,ht⟩ | hn
   · walk_at "rd"
     cases hpc:e9 t with
     | bad b =>
       cases b with
       | true =>
         refine ⟨false,_,rfl,.inl ⟨t,rfl,ht,(Cg ⟨fun _ H3 s3=>?_,fun z=>absurd (hpc.symm.trans z) (fun e=>by cases e),fun rs z=>absurd (hpc.symm.trans z) (fun e=>by cases e)⟩)⟩⟩
         walk_at "rd"
         refine ⟨_,rfl,.inl ⟨t,rfl,ht,fun _ H4 s4=>?_,fun z=>absurd (hpc.symm.trans z) (fun e=>by cases e),fun rs z=>absurd (hpc.symm.trans z) (fun e=>by cases e)⟩⟩
         walk_at "rd"
         refine ⟨t,rfl,ht,fun z H5 s5=>?_,fun z H5 s5=>?_,fun r z ok x H5 s5 hx=>?_⟩
         · walk_at "rd"
           refine ⟨true,_,rfl,.inl ⟨t,rfl,ht,(lX ⟨fun _ H6 s6=>?_,fun z2=>absurd (z.symm.trans z2) (fun e=>by cases e),fun r z2=>absurd (z.symm.trans z2) (fun e=>by cases e)⟩)⟩⟩
           walk_at "rd"
           exact q _
         · walk_at "rd"
           refine ⟨true,_,rfl,.inl ⟨t,rfl,ht,(lX ⟨fun z2=>absurd (z.symm.trans z2) (fun e=>by cases e),fun _ H6 s6=>?_,fun r z2=>absurd (z.symm.trans z2) (fun e=>by cases e)⟩)⟩⟩
           walk_at "rd"
           exact q _
         · walk_at "rd"
           refine ⟨true,_,rfl,.inl ⟨t,rfl,ht,(lX ⟨fun z2=>absurd (z.symm.trans z2) (fun e=>by cases e),fun z2=>absurd (z.symm.trans z2) (fun e=>by cases e),fun r2 z2 ok2 x2 H6 s6 hx2=>?_⟩)⟩⟩
           cases (z.symm.trans z2)
           walk_at "rd"
           refine pE (eH r) (f7 hx2) (f7 (s6 _ _ hx)) (hZ r) ?_
           exact q _
       | false =>
         refine ⟨false,_,rfl,.inl ⟨t,rfl,ht,(Cg ⟨fun z=>absurd (hpc.symm.trans z) (fun e=>by cases e),fun _ H3 s3=>?_,fun rs z=>absurd (hpc.symm.trans z) (fun e=>by cases e)⟩)⟩⟩
         walk_at "rd"
         refine ⟨_,rfl,.inl ⟨t,rfl,ht,fun z=>absurd (hpc.symm.trans z) (fun e=>by cases e),fun _ H4 s4=>?_,fun rs z=>absurd (hpc.symm.trans z) (fun e=>by cases e)⟩⟩
         walk_at "rd"
         refine ⟨t,rfl,ht,fun z H5 s5=>?_,fun z H5 s5=>?_,fun r z ok x H5 s5 hx=>?_⟩
         · walk_at "rd"
           refine ⟨true,_,rfl,.inl ⟨t,rfl,ht,(lX ⟨fun _ H6 s6=>?_,fun z2=>absurd (z.symm.trans z2) (fun e=>by cases e),fun r z2=>absurd (z.symm.trans z2) (fun e=>by cases e)⟩)⟩⟩
           walk_at "rd"
           exact q _
         · walk_at "rd"
           refine ⟨true,_,rfl,.inl ⟨t,rfl,ht,(lX ⟨fun z2=>absurd (z.symm.trans z2) (fun e=>by cases e),fun _ H6 s6=>?_,fun r z2=>absurd (z.symm.trans z2) (fun e=>by cases e)⟩)⟩⟩
           walk_at "rd"
           exact q _
         · walk_at "rd"
           refine ⟨true,_,rfl,.inl ⟨t,rfl,ht,(lX ⟨fun z2=>absurd (z.symm.trans z2) (fun e=>by cases e),fun z2=>absurd (z.symm.trans z2) (fun e=>by cases e),fun r2 z2 ok2 x2 H6 s6 hx2=>?_⟩)⟩⟩
           cases (z.symm.trans z2)
           walk_at "rd"
           refine pE (eH r) (f7 hx2) (f7 (s6 _ _ hx)) (hZ r) ?_
           exact q _
     | good rs0 =>
       refine ⟨false,_,rfl,.inl ⟨t,rfl,ht,(Cg ⟨fun z=>absurd (hpc.symm.trans z) (fun e=>by cases e),fun z=>absurd (hpc.symm.trans z) (fun e=>by cases e),fun rs z ok hn l us H3 s3 hl tl=>?_⟩)⟩⟩
       walk_at "rd"
       refine ⟨_,rfl,.inl ⟨t,rfl,ht,fun z=>absurd (hpc.symm.trans z) (fun e=>by cases e),fun z=>absurd (hpc.symm.trans z) (fun e=>by cases e),fun rs2 z2 ok2 hn2 l2 us2 H4 s4 hl2 tl2=>?_⟩⟩
       cases (hpc.symm.trans z)
       cases (hpc.symm.trans z2)
       refine zA (.list (rs0.map eH)) (rW (aH.of (s4 _ _ hl)) (tl.to.same s4).dp) (rW (aH.of hl2) tl2.to.dp) (p9 _) ?_
       walk_at "rd"
       refine ⟨t,rfl,ht,fun z H5 s5=>?_,fun z H5 s5=>?_,fun r z ok x H5 s5 hx=>?_⟩
       · walk_at "rd"
         refine ⟨true,_,rfl,.inl ⟨t,rfl,ht,(lX ⟨fun _ H6 s6=>?_,fun z2=>absurd (z.symm.trans z2) (fun e=>by cases e),fun r z2=>absurd (z.symm.trans z2) (fun e=>by cases e)⟩)⟩⟩
         walk_at "rd"
         exact q _
       · walk_at "rd"
         refine ⟨true,_,rfl,.inl ⟨t,rfl,ht,(lX ⟨fun z2=>absurd (z.symm.trans z2) (fun e=>by cases e),fun _ H6 s6=>?_,fun r z2=>absurd (z.symm.trans z2) (fun e=>by cases e)⟩)⟩⟩
         walk_at "rd"
         exact q _
       · walk_at "rd"
         refine ⟨true,_,rfl,.inl ⟨t,rfl,ht,(lX ⟨fun z2=>absurd (z.symm.trans z2) (fun e=>by cases e),fun z2=>absurd (z.symm.trans z2) (fun e=>by cases e),fun r2 z2 ok2 x2 H6 s6 hx2=>?_⟩)⟩⟩
         cases (z.symm.trans z2)
         walk_at "rd"
         refine pE (eH r) (f7 hx2) (f7 (s6 _ _ hx)) (hZ r) ?_
         exact q _
   · walk_at "rd"
     refine ⟨false,_,rfl,.inr ⟨hn,fun H3 s3=>?_⟩⟩
     walk_at "rd"
     refine ⟨_,rfl,.inr ⟨hn.same s3,fun H4 s4=>?_⟩⟩
     have hn4:=(hn.same s3).same s4
     rcases hn4 with rfl | ⟨i,rfl⟩ | ⟨l,xs,rfl,hl⟩
     · walk_at "rd"
       refine ⟨true,_,rfl,.inr ⟨.inl rfl,fun H5 s5=>?_⟩⟩
       walk_at "rd"
       exact q _
     · walk_at "rd"
       refine ⟨true,_,rfl,.inr ⟨.inr (.inl ⟨i,rfl⟩),fun H5 s5=>?_⟩⟩
       walk_at "rd"
       exact q _
     · walk_at "rd"
       refine ⟨true,_,rfl,.inr ⟨.inr (.inr ⟨l,xs,rfl,hl⟩),fun H5 s5=>?_⟩⟩
       walk_at "rd"
       exact q _
end
set_option maxHeartbeats 8000000 in
theorem ER {w : World} {K : PySem.W.Frag} {h : Heap} {mg : Str → Option Value} {fa : Addr} (X : K.In h) (G : h.Ns mainGlobals mg) (hfa : mg "law" = some (.ref fa))
   {dZ:Addr} {ep_COUNTS:Nat}
   {tk1 tk2:Tok}
   {tk3 tk4:Tok}
   {tk5 tk6:Tok}
   {tk7 tk8:Tok}
   {tk9 tk10:Tok}
   {tk11 tk12:Tok}
   {tk13 tk14:Tok}
   {tk15 tk16:Tok}
   {tk17 tk18:Tok}
   {tk19 tk20:Tok}
   {tk21 tk22:Tok}
   {tk23 tk24:Tok}
   {tk25 tk26:Tok}
   {tk27 tk28:Tok}
   {tk29 tk30:Tok}
   {t_FIGURES:Tok}
   {t_MOST_FIGURES:Tok}
   {t_TOP_BOX:Tok}
   {t_TOP_CELLS:Tok}
   {t_TOP_ROWS:Tok}
   {t_TOP_TARGET:Tok}
   {t_TOP_VALUE:Tok}
   {bP:Addr}
   {bL:Addr}
   {a6:Addr}
   {bK:Addr}
   {bC:Addr}
   {bM:Addr}
   {aR:Addr}
   {bX:Addr}
   {bJ:Addr}
   {bI:Addr}
   {bw:Addr}
   {bN:Addr}
   {aW:Addr}
   {aV:Addr}
   {bU:Addr}
   {bV:Addr}
   {bh:Addr}
   {bO:Addr}
   {f31:Addr} {od31 an31:Option Addr} {sl31:Array (Option Value)} {oc31 kV31 dc31 pm31 cd31 ct31:Value}
   {f32:Addr} {od32 an32:Option Addr} {sl32:Array (Option Value)} {oc32 kV32 dc32 pm32 cd32 ct32:Value}
   {f33:Addr} {od33 an33:Option Addr} {sl33:Array (Option Value)} {oc33 kV33 dc33 pm33 cd33 ct33:Value}
   {f34:Addr} {od34 an34:Option Addr} {sl34:Array (Option Value)} {oc34 kV34 dc34 pm34 cd34 ct34:Value}
   {f35:Addr} {od35 an35:Option Addr} {sl35:Array (Option Value)} {oc35 kV35 dc35 pm35 cd35 ct35:Value}
   {f36:Addr} {od36 an36:Option Addr} {sl36:Array (Option Value)} {oc36 kV36 dc36 pm36 cd36 ct36:Value}
   {f37:Addr} {od37 an37:Option Addr} {sl37:Array (Option Value)} {oc37 kV37 dc37 pm37 cd37 ct37:Value}
   {f38:Addr} {od38 an38:Option Addr} {sl38:Array (Option Value)} {oc38 kV38 dc38 pm38 cd38 ct38:Value}
   {f39:Addr} {od39 an39:Option Addr} {sl39:Array (Option Value)} {oc39 kV39 dc39 pm39 cd39 ct39:Value}
   {f40:Addr} {od40 an40:Option Addr} {sl40:Array (Option Value)} {oc40 kV40 dc40 pm40 cd40 ct40:Value}
   {f41:Addr} {od41 an41:Option Addr} {sl41:Array (Option Value)} {oc41 kV41 dc41 pm41 cd41 ct41:Value}
   {f42:Addr} {od42 an42:Option Addr} {sl42:Array (Option Value)} {oc42 kV42 dc42 pm42 cd42 ct42:Value}
   {f43:Addr} {od43 an43:Option Addr} {sl43:Array (Option Value)} {oc43 kV43 dc43 pm43 cd43 ct43:Value}
   {f44:Addr} {od44 an44:Option Addr} {sl44:Array (Option Value)} {oc44 kV44 dc44 pm44 cd44 ct44:Value}
   {f45:Addr} {od45 an45:Option Addr} {sl45:Array (Option Value)} {oc45 kV45 dc45 pm45 cd45 ct45:Value}
   {f46:Addr} {od46 an46:Option Addr} {sl46:Array (Option Value)} {oc46 kV46 dc46 pm46 cd46 ct46:Value}
   {f47:Addr} {od47 an47:Option Addr} {sl47:Array (Option Value)} {oc47 kV47 dc47 pm47 cd47 ct47:Value}
   {f48:Addr} {od48 an48:Option Addr} {sl48:Array (Option Value)} {oc48 kV48 dc48 pm48 cd48 ct48:Value}
   {f49:Addr} {od49 an49:Option Addr} {sl49:Array (Option Value)} {oc49 kV49 dc49 pm49 cd49 ct49:Value}
   {f50:Addr} {od50 an50:Option Addr} {sl50:Array (Option Value)} {oc50 kV50 dc50 pm50 cd50 ct50:Value}
   {f51:Addr} {od51 an51:Option Addr} {sl51:Array (Option Value)} {oc51 kV51 dc51 pm51 cd51 ct51:Value}
   {f52:Addr} {od52 an52:Option Addr} {sl52:Array (Option Value)} {oc52 kV52 dc52 pm52 cd52 ct52:Value}
   {f53:Addr} {od53 an53:Option Addr} {sl53:Array (Option Value)} {oc53 kV53 dc53 pm53 cd53 ct53:Value}
   {f54:Addr} {od54 an54:Option Addr} {sl54:Array (Option Value)} {oc54 kV54 dc54 pm54 cd54 ct54:Value}
   {f55:Addr} {od55 an55:Option Addr} {sl55:Array (Option Value)} {oc55 kV55 dc55 pm55 cd55 ct55:Value}
   {f56:Addr} {od56 an56:Option Addr} {sl56:Array (Option Value)} {oc56 kV56 dc56 pm56 cd56 ct56:Value}
   {f57:Addr} {od57 an57:Option Addr} {sl57:Array (Option Value)} {oc57 kV57 dc57 pm57 cd57 ct57:Value}
   {f58:Addr} {od58 an58:Option Addr} {sl58:Array (Option Value)} {oc58 kV58 dc58 pm58 cd58 ct58:Value}
   {f59:Addr} {od59 an59:Option Addr} {sl59:Array (Option Value)} {oc59 kV59 dc59 pm59 cd59 ct59:Value}
   {f60:Addr} {od60 an60:Option Addr} {sl60:Array (Option Value)} {oc60 kV60 dc60 pm60 cd60 ct60:Value}
   {f61:Addr} {od61 an61:Option Addr} {sl61:Array (Option Value)} {oc61 kV61 dc61 pm61 cd61 ct61:Value}
   {f62:Addr} {od62 an62:Option Addr} {sl62:Array (Option Value)} {oc62 kV62 dc62 pm62 cd62 ct62:Value}
   {f63:Addr} {od63 an63:Option Addr} {sl63:Array (Option Value)} {oc63 kV63 dc63 pm63 cd63 ct63:Value}
   {f64:Addr} {od64 an64:Option Addr} {sl64:Array (Option Value)} {oc64 kV64 dc64 pm64 cd64 ct64:Value}
   {f65:Addr} {od65 an65:Option Addr} {sl65:Array (Option Value)} {oc65 kV65 dc65 pm65 cd65 ct65:Value}
   {f66:Addr} {od66 an66:Option Addr} {sl66:Array (Option Value)} {oc66 kV66 dc66 pm66 cd66 ct66:Value}
   {f67:Addr} {od67 an67:Option Addr} {sl67:Array (Option Value)} {oc67 kV67 dc67 pm67 cd67 ct67:Value}
   {f68:Addr} {od68 an68:Option Addr} {sl68:Array (Option Value)} {oc68 kV68 dc68 pm68 cd68 ct68:Value}
   {f69:Addr} {od69 an69:Option Addr} {sl69:Array (Option Value)} {oc69 kV69 dc69 pm69 cd69 ct69:Value}
   {f70:Addr} {od70 an70:Option Addr} {sl70:Array (Option Value)} {oc70 kV70 dc70 pm70 cd70 ct70:Value}
   {f71:Addr} {od71 an71:Option Addr} {sl71:Array (Option Value)} {oc71 kV71 dc71 pm71 cd71 ct71:Value}
   {f72:Addr} {od72 an72:Option Addr} {sl72:Array (Option Value)} {oc72 kV72 dc72 pm72 cd72 ct72:Value}
   {f73:Addr} {od73 an73:Option Addr} {sl73:Array (Option Value)} {oc73 kV73 dc73 pm73 cd73 ct73:Value}
   {f74:Addr} {od74 an74:Option Addr} {sl74:Array (Option Value)} {oc74 kV74 dc74 pm74 cd74 ct74:Value}
   {f75:Addr} {od75 an75:Option Addr} {sl75:Array (Option Value)} {oc75 kV75 dc75 pm75 cd75 ct75:Value}
   {f76:Addr} {od76 an76:Option Addr} {sl76:Array (Option Value)} {oc76 kV76 dc76 pm76 cd76 ct76:Value}
   {f77:Addr} {od77 an77:Option Addr} {sl77:Array (Option Value)} {oc77 kV77 dc77 pm77 cd77 ct77:Value}
   {f78:Addr} {od78 an78:Option Addr} {sl78:Array (Option Value)} {oc78 kV78 dc78 pm78 cd78 ct78:Value}
   {f79:Addr} {od79 an79:Option Addr} {sl79:Array (Option Value)} {oc79 kV79 dc79 pm79 cd79 ct79:Value}
   (ij:PySem.W.nsIn K mainGlobals "all" = some none)
   (iW:PySem.W.nsIn K mainGlobals "int" = some none)
   (bt:PySem.W.nsIn K mainGlobals "isinstance" = some none)
   (cf:PySem.W.nsIn K mainGlobals "len" = some none)
   (gc:PySem.W.nsIn K mainGlobals "range" = some none)
   (gk:PySem.W.nsIn K mainGlobals "str" = some none)
   (gU:PySem.W.nsIn K mainGlobals "tuple" = some none)
   (j9:PySem.W.nsIn K mainGlobals "zip" = some none)
   (lR:PySem.W.nsIn K mainGlobals "COUNTS" = some (some (.ref dZ)))
   (lT:K.lookup dZ = some ⟨.type "dict",none,.dict #[{ hash:=PyData.keyHash w.params "set",key:=.str "set" tk1,val:=.int 2 tk2 },{ hash:=PyData.keyHash w.params "copy",key:=.str "copy" tk3,val:=.int 2 tk4 },{ hash:=PyData.keyHash w.params "add",key:=.str "add" tk5,val:=.int 3 tk6 },{ hash:=PyData.keyHash w.params "sub",key:=.str "sub" tk7,val:=.int 3 tk8 },{ hash:=PyData.keyHash w.params "mul",key:=.str "mul" tk9,val:=.int 3 tk10 },{ hash:=PyData.keyHash w.params "less",key:=.str "less" tk11,val:=.int 3 tk12 },{ hash:=PyData.keyHash w.params "grow",key:=.str "grow" tk13,val:=.int 1 tk14 },{ hash:=PyData.keyHash w.params "shrink",key:=.str "shrink" tk15,val:=.int 1 tk16 },{ hash:=PyData.keyHash w.params "put",key:=.str "put" tk17,val:=.int 2 tk18 },{ hash:=PyData.keyHash w.params "get",key:=.str "get" tk19,val:=.int 2 tk20 },{ hash:=PyData.keyHash w.params "jump",key:=.str "jump" tk21,val:=.int 1 tk22 },{ hash:=PyData.keyHash w.params "branch",key:=.str "branch" tk23,val:=.int 2 tk24 },{ hash:=PyData.keyHash w.params "call",key:=.str "call" tk25,val:=.int 1 tk26 },{ hash:=PyData.keyHash w.params "back",key:=.str "back" tk27,val:=.int 1 tk28 },{ hash:=PyData.keyHash w.params "drop",key:=.str "drop" tk29,val:=.int 1 tk30 }] ep_COUNTS,#[]⟩)
   (k_:(dZ == sysModules) = false)
   (fO:PySem.W.nsIn K mainGlobals "FIGURES" = some (some (Value.str "0123456789" t_FIGURES)))
   (cQ:PySem.W.nsIn K mainGlobals "MOST_FIGURES" = some (some (Value.int 10 t_MOST_FIGURES)))
   (aS:PySem.W.nsIn K mainGlobals "TOP_BOX" = some (some (Value.int 7 t_TOP_BOX)))
   (cq:PySem.W.nsIn K mainGlobals "TOP_CELLS" = some (some (Value.int 4000 t_TOP_CELLS)))
   (dR:PySem.W.nsIn K mainGlobals "TOP_ROWS" = some (some (Value.int 2000 t_TOP_ROWS)))
   (cz:PySem.W.nsIn K mainGlobals "TOP_TARGET" = some (some (Value.int 2000 t_TOP_TARGET)))
   (er:PySem.W.nsIn K mainGlobals "TOP_VALUE" = some (some (Value.int 4294967295 t_TOP_VALUE)))
   (kl:PySem.W.nsIn K mainGlobals "Add" = some (some (.ref bP)))
   (iP:PySem.W.nsIn K mainGlobals "Back" = some (some (.ref bL)))
   (gg:PySem.W.nsIn K mainGlobals "Branch" = some (some (.ref a6)))
   (iM:PySem.W.nsIn K mainGlobals "Call" = some (some (.ref bK)))
   (ix:PySem.W.nsIn K mainGlobals "Copy" = some (some (.ref bC)))
   (iu:PySem.W.nsIn K mainGlobals "Drop" = some (some (.ref bM)))
   (cx:PySem.W.nsIn K mainGlobals "FrameError" = some (some (.ref aR)))
   (kg:PySem.W.nsIn K mainGlobals "Get" = some (some (.ref bX)))
   (iD:PySem.W.nsIn K mainGlobals "Grow" = some (some (.ref bJ)))
   (iE:PySem.W.nsIn K mainGlobals "Jump" = some (some (.ref bI)))
   (iF:PySem.W.nsIn K mainGlobals "Less" = some (some (.ref bw)))
   (j_:PySem.W.nsIn K mainGlobals "Mul" = some (some (.ref bN)))
   (gi:PySem.W.nsIn K mainGlobals "NoRow" = some (some (.ref aW)))
   (fu:PySem.W.nsIn K mainGlobals "NoText" = some (some (.ref aV)))
   (ko:PySem.W.nsIn K mainGlobals "Put" = some (some (.ref bU)))
   (kh:PySem.W.nsIn K mainGlobals "Set" = some (some (.ref bV)))
   (f_:PySem.W.nsIn K mainGlobals "Shrink" = some (some (.ref bh)))
   (kb:PySem.W.nsIn K mainGlobals "Sub" = some (some (.ref bO)))
   (nS:PySem.W.plainGet K bM Str.empty = true)
   (mW:PySem.W.hasDictIn K bM = true)
   (nV:PySem.W.plainOver K bM = true)
   (nv:PySem.W.findIn K (.ref bM) "__setattr__" = some (some (.builtin "object.__setattr__")))
   (iw:PySem.W.makesIn K bM = true)
   (nz:PySem.W.keepIn K (.ref bM) = true)
   (eZ:PySem.W.findIn K (.ref bM) "box" = some none)
   (C6:PySem.W.findIn K (.ref bM) "__init__" = some (some (.ref f31)))
   (EG:PySem.W.isFn K (.ref f31) = true)
   (zW:K.lookup f31 = some ⟨oc31,od31,.func (PySem.W.fnOf "__init__" "Drop.__init__" (az dn) (aw dn) (af dn) .none kV31 dc31 pm31 an31 cd31 ct31),sl31⟩)
   (x8:PySem.W.codeIn K cd31 "Drop.__init__" = true) (xZ:PySem.W.keepIn K (.ref f31) = true)
   (BO:PySem.W.findIn K (.ref bM) "told" = some (some (.ref f32)))
   (D1:PySem.W.isFn K (.ref f32) = true)
   (zc:K.lookup f32 = some ⟨oc32,od32,.func (PySem.W.fnOf "told" "Drop.told" (az di) (aw di) (af di) .none kV32 dc32 pm32 an32 cd32 ct32),sl32⟩)
   (AF:PySem.W.codeIn K cd32 "Drop.told" = true) (uT:PySem.W.keepIn K (.ref f32) = true)
   (oy:PySem.W.plainGet K bJ Str.empty = true)
   (nO:PySem.W.hasDictIn K bJ = true)
   (oq:PySem.W.plainOver K bJ = true)
   (oB:PySem.W.findIn K (.ref bJ) "__setattr__" = some (some (.builtin "object.__setattr__")))
   (iR:PySem.W.makesIn K bJ = true)
   (m9:PySem.W.keepIn K (.ref bJ) = true)
   (ez:PySem.W.findIn K (.ref bJ) "many" = some none)
   (B4:PySem.W.findIn K (.ref bJ) "__init__" = some (some (.ref f33)))
   (BW:PySem.W.isFn K (.ref f33) = true)
   (zq:K.lookup f33 = some ⟨oc33,od33,.func (PySem.W.fnOf "__init__" "Grow.__init__" (az dq) (aw dq) (af dq) .none kV33 dc33 pm33 an33 cd33 ct33),sl33⟩)
   (xI:PySem.W.codeIn K cd33 "Grow.__init__" = true) (xF:PySem.W.keepIn K (.ref f33) = true)
   (B3:PySem.W.findIn K (.ref bJ) "told" = some (some (.ref f34)))
   (D9:PySem.W.isFn K (.ref f34) = true)
   (Ak:K.lookup f34 = some ⟨oc34,od34,.func (PySem.W.fnOf "told" "Grow.told" (az dz) (aw dz) (af dz) .none kV34 dc34 pm34 an34 cd34 ct34),sl34⟩)
   (yZ:PySem.W.codeIn K cd34 "Grow.told" = true) (uX:PySem.W.keepIn K (.ref f34) = true)
   (j7:PySem.W.plainGet K bh Str.empty = true)
   (jQ:PySem.W.hasDictIn K bh = true)
   (jF:PySem.W.plainOver K bh = true)
   (jB:PySem.W.findIn K (.ref bh) "__setattr__" = some (some (.builtin "object.__setattr__")))
   (gw:PySem.W.makesIn K bh = true)
   (j0:PySem.W.keepIn K (.ref bh) = true)
   (c9:PySem.W.findIn K (.ref bh) "many" = some none)
   (C5:PySem.W.findIn K (.ref bh) "__init__" = some (some (.ref f35)))
   (Cr:PySem.W.isFn K (.ref f35) = true)
   (zi:K.lookup f35 = some ⟨oc35,od35,.func (PySem.W.fnOf "__init__" "Shrink.__init__" (az cF) (aw cF) (af cF) .none kV35 dc35 pm35 an35 cd35 ct35),sl35⟩)
   (yu:PySem.W.codeIn K cd35 "Shrink.__init__" = true) (yW:PySem.W.keepIn K (.ref f35) = true)
   (Eg:PySem.W.findIn K (.ref bh) "told" = some (some (.ref f36)))
   (Cf:PySem.W.isFn K (.ref f36) = true)
   (zd:K.lookup f36 = some ⟨oc36,od36,.func (PySem.W.fnOf "told" "Shrink.told" (az cJ) (aw cJ) (af cJ) .none kV36 dc36 pm36 an36 cd36 ct36),sl36⟩)
   (zy:PySem.W.codeIn K cd36 "Shrink.told" = true) (uR:PySem.W.keepIn K (.ref f36) = true)
   (oG:PySem.W.plainGet K bI Str.empty = true)
   (m5:PySem.W.hasDictIn K bI = true)
   (nr:PySem.W.plainOver K bI = true)
   (n5:PySem.W.findIn K (.ref bI) "__setattr__" = some (some (.builtin "object.__setattr__")))
   (iy:PySem.W.makesIn K bI = true)
   (ni:PySem.W.keepIn K (.ref bI) = true)
   (c8:PySem.W.findIn K (.ref bI) "target" = some none)
   (Cj:PySem.W.findIn K (.ref bI) "__init__" = some (some (.ref f37)))
   (EH:PySem.W.isFn K (.ref f37) = true)
   (zP:K.lookup f37 = some ⟨oc37,od37,.func (PySem.W.fnOf "__init__" "Jump.__init__" (az dA) (aw dA) (af dA) .none kV37 dc37 pm37 an37 cd37 ct37),sl37⟩)
   (yL:PySem.W.codeIn K cd37 "Jump.__init__" = true) (z7:PySem.W.keepIn K (.ref f37) = true)
   (DA:PySem.W.findIn K (.ref bI) "told" = some (some (.ref f38)))
   (Df:PySem.W.isFn K (.ref f38) = true)
   (zO:K.lookup f38 = some ⟨oc38,od38,.func (PySem.W.fnOf "told" "Jump.told" (az dm) (aw dm) (af dm) .none kV38 dc38 pm38 an38 cd38 ct38),sl38⟩)
   (AA:PySem.W.codeIn K cd38 "Jump.told" = true) (uF:PySem.W.keepIn K (.ref f38) = true)
   (nN:PySem.W.plainGet K bK Str.empty = true)
   (nQ:PySem.W.hasDictIn K bK = true)
   (n6:PySem.W.plainOver K bK = true)
   (nZ:PySem.W.findIn K (.ref bK) "__setattr__" = some (some (.builtin "object.__setattr__")))
   (iI:PySem.W.makesIn K bK = true)
   (oH:PySem.W.keepIn K (.ref bK) = true)
   (c7:PySem.W.findIn K (.ref bK) "target" = some none)
   (Ca:PySem.W.findIn K (.ref bK) "__init__" = some (some (.ref f39)))
   (Cn:PySem.W.isFn K (.ref f39) = true)
   (AH:K.lookup f39 = some ⟨oc39,od39,.func (PySem.W.fnOf "__init__" "Call.__init__" (az dj) (aw dj) (af dj) .none kV39 dc39 pm39 an39 cd39 ct39),sl39⟩)
   (yB:PySem.W.codeIn K cd39 "Call.__init__" = true) (x9:PySem.W.keepIn K (.ref f39) = true)
   (Dk:PySem.W.findIn K (.ref bK) "told" = some (some (.ref f40)))
   (B7:PySem.W.isFn K (.ref f40) = true)
   (yV:K.lookup f40 = some ⟨oc40,od40,.func (PySem.W.fnOf "told" "Call.told" (az dk) (aw dk) (af dk) .none kV40 dc40 pm40 an40 cd40 ct40),sl40⟩)
   (Ad:PySem.W.codeIn K cd40 "Call.told" = true) (uI:PySem.W.keepIn K (.ref f40) = true)
   (nI:PySem.W.plainGet K bL Str.empty = true)
   (nF:PySem.W.hasDictIn K bL = true)
   (n_:PySem.W.plainOver K bL = true)
   (nj:PySem.W.findIn K (.ref bL) "__setattr__" = some (some (.builtin "object.__setattr__")))
   (iK:PySem.W.makesIn K bL = true)
   (nM:PySem.W.keepIn K (.ref bL) = true)
   (e_:PySem.W.findIn K (.ref bL) "box" = some none)
   (Cz:PySem.W.findIn K (.ref bL) "__init__" = some (some (.ref f41)))
   (BZ:PySem.W.isFn K (.ref f41) = true)
   (AE:K.lookup f41 = some ⟨oc41,od41,.func (PySem.W.fnOf "__init__" "Back.__init__" (az dC) (aw dC) (af dC) .none kV41 dc41 pm41 an41 cd41 ct41),sl41⟩)
   (zZ:PySem.W.codeIn K cd41 "Back.__init__" = true) (zh:PySem.W.keepIn K (.ref f41) = true)
   (DC:PySem.W.findIn K (.ref bL) "told" = some (some (.ref f42)))
   (CL:PySem.W.isFn K (.ref f42) = true)
   (Ao:K.lookup f42 = some ⟨oc42,od42,.func (PySem.W.fnOf "told" "Back.told" (az dt) (aw dt) (af dt) .none kV42 dc42 pm42 an42 cd42 ct42),sl42⟩)
   (zk:PySem.W.codeIn K cd42 "Back.told" = true) (va:PySem.W.keepIn K (.ref f42) = true)
   (j6:PySem.W.plainGet K a6 Str.empty = true)
   (jy:PySem.W.hasDictIn K a6 = true)
   (jT:PySem.W.plainOver K a6 = true)
   (jx:PySem.W.findIn K (.ref a6) "__setattr__" = some (some (.builtin "object.__setattr__")))
   (gr:PySem.W.makesIn K a6 = true)
   (j5:PySem.W.keepIn K (.ref a6) = true)
   (dI:PySem.W.findIn K (.ref a6) "box" = some none)
   (cD:PySem.W.findIn K (.ref a6) "target" = some none)
   (Cp:PySem.W.findIn K (.ref a6) "__init__" = some (some (.ref f43)))
   (B2:PySem.W.isFn K (.ref f43) = true)
   (Aj:K.lookup f43 = some ⟨oc43,od43,.func (PySem.W.fnOf "__init__" "Branch.__init__" (az cG) (aw cG) (af cG) .none kV43 dc43 pm43 an43 cd43 ct43),sl43⟩)
   (yy:PySem.W.codeIn K cd43 "Branch.__init__" = true) (yG:PySem.W.keepIn K (.ref f43) = true)
   (Eo:PySem.W.findIn K (.ref a6) "told" = some (some (.ref f44)))
   (D2:PySem.W.isFn K (.ref f44) = true)
   (y4:K.lookup f44 = some ⟨oc44,od44,.func (PySem.W.fnOf "told" "Branch.told" (az cK) (aw cK) (af cK) .none kV44 dc44 pm44 an44 cd44 ct44),sl44⟩)
   (xG:PySem.W.codeIn K cd44 "Branch.told" = true) (vE:PySem.W.keepIn K (.ref f44) = true)
   (rO:PySem.W.plainGet K bV Str.empty = true)
   (rB:PySem.W.hasDictIn K bV = true)
   (pS:PySem.W.plainOver K bV = true)
   (qC:PySem.W.findIn K (.ref bV) "__setattr__" = some (some (.builtin "object.__setattr__")))
   (jv:PySem.W.makesIn K bV = true)
   (rA:PySem.W.keepIn K (.ref bV) = true)
   (fC:PySem.W.findIn K (.ref bV) "box" = some none)
   (dN:PySem.W.findIn K (.ref bV) "number" = some none)
   (Cw:PySem.W.findIn K (.ref bV) "__init__" = some (some (.ref f45)))
   (C_:PySem.W.isFn K (.ref f45) = true)
   (zv:K.lookup f45 = some ⟨oc45,od45,.func (PySem.W.fnOf "__init__" "Set.__init__" (az dP) (aw dP) (af dP) .none kV45 dc45 pm45 an45 cd45 ct45),sl45⟩)
   (yM:PySem.W.codeIn K cd45 "Set.__init__" = true) (zY:PySem.W.keepIn K (.ref f45) = true)
   (DV:PySem.W.findIn K (.ref bV) "told" = some (some (.ref f46)))
   (Cc:PySem.W.isFn K (.ref f46) = true)
   (Al:K.lookup f46 = some ⟨oc46,od46,.func (PySem.W.fnOf "told" "Set.told" (az d0) (aw d0) (af d0) .none kV46 dc46 pm46 an46 cd46 ct46),sl46⟩)
   (yi:PySem.W.codeIn K cd46 "Set.told" = true) (uO:PySem.W.keepIn K (.ref f46) = true)
   (m3:PySem.W.plainGet K bC Str.empty = true)
   (nR:PySem.W.hasDictIn K bC = true)
   (nB:PySem.W.plainOver K bC = true)
   (n3:PySem.W.findIn K (.ref bC) "__setattr__" = some (some (.builtin "object.__setattr__")))
   (iL:PySem.W.makesIn K bC = true)
   (nq:PySem.W.keepIn K (.ref bC) = true)
   (fb:PySem.W.findIn K (.ref bC) "box" = some none)
   (e8:PySem.W.findIn K (.ref bC) "one" = some none)
   (BV:PySem.W.findIn K (.ref bC) "__init__" = some (some (.ref f47)))
   (D_:PySem.W.isFn K (.ref f47) = true)
   (zx:K.lookup f47 = some ⟨oc47,od47,.func (PySem.W.fnOf "__init__" "Copy.__init__" (az dB) (aw dB) (af dB) .none kV47 dc47 pm47 an47 cd47 ct47),sl47⟩)
   (Af:PySem.W.codeIn K cd47 "Copy.__init__" = true) (yo:PySem.W.keepIn K (.ref f47) = true)
   (Ez:PySem.W.findIn K (.ref bC) "told" = some (some (.ref f48)))
   (CM:PySem.W.isFn K (.ref f48) = true)
   (As:K.lookup f48 = some ⟨oc48,od48,.func (PySem.W.fnOf "told" "Copy.told" (az dw) (aw dw) (af dw) .none kV48 dc48 pm48 an48 cd48 ct48),sl48⟩)
   (zl:PySem.W.codeIn K cd48 "Copy.told" = true) (uy:PySem.W.keepIn K (.ref f48) = true)
   (rD:PySem.W.plainGet K bU Str.empty = true)
   (rz:PySem.W.hasDictIn K bU = true)
   (qR:PySem.W.plainOver K bU = true)
   (qD:PySem.W.findIn K (.ref bU) "__setattr__" = some (some (.builtin "object.__setattr__")))
   (jo:PySem.W.makesIn K bU = true)
   (pU:PySem.W.keepIn K (.ref bU) = true)
   (fQ:PySem.W.findIn K (.ref bU) "box" = some none)
   (eY:PySem.W.findIn K (.ref bU) "cell" = some none)
   (Dt:PySem.W.findIn K (.ref bU) "__init__" = some (some (.ref f49)))
   (Di:PySem.W.isFn K (.ref f49) = true)
   (zG:K.lookup f49 = some ⟨oc49,od49,.func (PySem.W.fnOf "__init__" "Reaching.__init__" (az aZ) (aw aZ) (af aZ) .none kV49 dc49 pm49 an49 cd49 ct49),sl49⟩)
   (zX:PySem.W.codeIn K cd49 "Reaching.__init__" = true) (zJ:PySem.W.keepIn K (.ref f49) = true)
   (DS:PySem.W.findIn K (.ref bU) "told" = some (some (.ref f50)))
   (Ci:PySem.W.isFn K (.ref f50) = true)
   (Ah:K.lookup f50 = some ⟨oc50,od50,.func (PySem.W.fnOf "told" "Put.told" (az dU) (aw dU) (af dU) .none kV50 dc50 pm50 an50 cd50 ct50),sl50⟩)
   (x6:PySem.W.codeIn K cd50 "Put.told" = true) (ve:PySem.W.keepIn K (.ref f50) = true)
   (qb:PySem.W.plainGet K bX Str.empty = true)
   (rC:PySem.W.hasDictIn K bX = true)
   (qu:PySem.W.plainOver K bX = true)
   (qQ:PySem.W.findIn K (.ref bX) "__setattr__" = some (some (.builtin "object.__setattr__")))
   (jV:PySem.W.makesIn K bX = true)
   (pV:PySem.W.keepIn K (.ref bX) = true)
   (fB:PySem.W.findIn K (.ref bX) "box" = some none)
   (eX:PySem.W.findIn K (.ref bX) "cell" = some none)
   (Cb:PySem.W.findIn K (.ref bX) "__init__" = some (some (.ref f51)))
   (CZ:PySem.W.isFn K (.ref f51) = true)
   (AN:K.lookup f51 = some ⟨oc51,od51,.func (PySem.W.fnOf "__init__" "Reaching.__init__" (az aZ) (aw aZ) (af aZ) .none kV51 dc51 pm51 an51 cd51 ct51),sl51⟩)
   (zg:PySem.W.codeIn K cd51 "Reaching.__init__" = true) (xR:PySem.W.keepIn K (.ref f51) = true)
   (CK:PySem.W.findIn K (.ref bX) "told" = some (some (.ref f52)))
   (B5:PySem.W.isFn K (.ref f52) = true)
   (yT:K.lookup f52 = some ⟨oc52,od52,.func (PySem.W.fnOf "told" "Get.told" (az dX) (aw dX) (af dX) .none kV52 dc52 pm52 an52 cd52 ct52),sl52⟩)
   (zR:PySem.W.codeIn K cd52 "Get.told" = true) (vY:PySem.W.keepIn K (.ref f52) = true)
   (oC:PySem.W.plainGet K bw Str.empty = true)
   (ou:PySem.W.hasDictIn K bw = true)
   (m6:PySem.W.plainOver K bw = true)
   (m8:PySem.W.findIn K (.ref bw) "__setattr__" = some (some (.builtin "object.__setattr__")))
   (iT:PySem.W.makesIn K bw = true)
   (oF:PySem.W.keepIn K (.ref bw) = true)
   (fc:PySem.W.findIn K (.ref bw) "box" = some none)
   (fe:PySem.W.findIn K (.ref bw) "one" = some none)
   (dJ:PySem.W.findIn K (.ref bw) "other" = some none)
   (Ej:PySem.W.findIn K (.ref bw) "__init__" = some (some (.ref f53)))
   (Dc:PySem.W.isFn K (.ref f53) = true)
   (zN:K.lookup f53 = some ⟨oc53,od53,.func (PySem.W.fnOf "__init__" "Reckoning.__init__" (az av) (aw av) (af av) .none kV53 dc53 pm53 an53 cd53 ct53),sl53⟩)
   (AG:PySem.W.codeIn K cd53 "Reckoning.__init__" = true) (xX:PySem.W.keepIn K (.ref f53) = true)
   (Em:PySem.W.findIn K (.ref bw) "told" = some (some (.ref f54)))
   (CI:PySem.W.isFn K (.ref f54) = true)
   (Am:K.lookup f54 = some ⟨oc54,od54,.func (PySem.W.fnOf "told" "Less.told" (az dh) (aw dh) (af dh) .none kV54 dc54 pm54 an54 cd54 ct54),sl54⟩)
   (yH:PySem.W.codeIn K cd54 "Less.told" = true) (vz:PySem.W.keepIn K (.ref f54) = true)
   (rZ:PySem.W.plainGet K bP Str.empty = true)
   (rh:PySem.W.hasDictIn K bP = true)
   (p_:PySem.W.plainOver K bP = true)
   (pR:PySem.W.findIn K (.ref bP) "__setattr__" = some (some (.builtin "object.__setattr__")))
   (js:PySem.W.makesIn K bP = true)
   (qm:PySem.W.keepIn K (.ref bP) = true)
   (fP:PySem.W.findIn K (.ref bP) "box" = some none)
   (fL:PySem.W.findIn K (.ref bP) "one" = some none)
   (eA:PySem.W.findIn K (.ref bP) "other" = some none)
   (CT:PySem.W.findIn K (.ref bP) "__init__" = some (some (.ref f55)))
   (Cd:PySem.W.isFn K (.ref f55) = true)
   (zm:K.lookup f55 = some ⟨oc55,od55,.func (PySem.W.fnOf "__init__" "Reckoning.__init__" (az av) (aw av) (af av) .none kV55 dc55 pm55 an55 cd55 ct55),sl55⟩)
   (ye:PySem.W.codeIn K cd55 "Reckoning.__init__" = true) (zH:PySem.W.keepIn K (.ref f55) = true)
   (EA:PySem.W.findIn K (.ref bP) "told" = some (some (.ref f56)))
   (DJ:PySem.W.isFn K (.ref f56) = true)
   (Az:K.lookup f56 = some ⟨oc56,od56,.func (PySem.W.fnOf "told" "Add.told" (az d_) (aw d_) (af d_) .none kV56 dc56 pm56 an56 cd56 ct56),sl56⟩)
   (Ay:PySem.W.codeIn K cd56 "Add.told" = true) (uA:PySem.W.keepIn K (.ref f56) = true)
   (rM:PySem.W.plainGet K bO Str.empty = true)
   (pL:PySem.W.hasDictIn K bO = true)
   (qP:PySem.W.plainOver K bO = true)
   (pH:PySem.W.findIn K (.ref bO) "__setattr__" = some (some (.builtin "object.__setattr__")))
   (jN:PySem.W.makesIn K bO = true)
   (qU:PySem.W.keepIn K (.ref bO) = true)
   (fE:PySem.W.findIn K (.ref bO) "box" = some none)
   (fH:PySem.W.findIn K (.ref bO) "one" = some none)
   (eu:PySem.W.findIn K (.ref bO) "other" = some none)
   (C0:PySem.W.findIn K (.ref bO) "__init__" = some (some (.ref f57)))
   (Ck:PySem.W.isFn K (.ref f57) = true)
   (z8:K.lookup f57 = some ⟨oc57,od57,.func (PySem.W.fnOf "__init__" "Reckoning.__init__" (az av) (aw av) (af av) .none kV57 dc57 pm57 an57 cd57 ct57),sl57⟩)
   (yj:PySem.W.codeIn K cd57 "Reckoning.__init__" = true) (x_:PySem.W.keepIn K (.ref f57) = true)
   (Dz:PySem.W.findIn K (.ref bO) "told" = some (some (.ref f58)))
   (EK:PySem.W.isFn K (.ref f58) = true)
   (zj:K.lookup f58 = some ⟨oc58,od58,.func (PySem.W.fnOf "told" "Sub.told" (az d6) (aw d6) (af d6) .none kV58 dc58 pm58 an58 cd58 ct58),sl58⟩)
   (yR:PySem.W.codeIn K cd58 "Sub.told" = true) (vF:PySem.W.keepIn K (.ref f58) = true)
   (pI:PySem.W.plainGet K bN Str.empty = true)
   (qk:PySem.W.hasDictIn K bN = true)
   (p6:PySem.W.plainOver K bN = true)
   (qI:PySem.W.findIn K (.ref bN) "__setattr__" = some (some (.builtin "object.__setattr__")))
   (jG:PySem.W.makesIn K bN = true)
   (p8:PySem.W.keepIn K (.ref bN) = true)
   (fG:PySem.W.findIn K (.ref bN) "box" = some none)
   (fF:PySem.W.findIn K (.ref bN) "one" = some none)
   (el:PySem.W.findIn K (.ref bN) "other" = some none)
   (EL:PySem.W.findIn K (.ref bN) "__init__" = some (some (.ref f59)))
   (Eb:PySem.W.isFn K (.ref f59) = true)
   (x5:K.lookup f59 = some ⟨oc59,od59,.func (PySem.W.fnOf "__init__" "Reckoning.__init__" (az av) (aw av) (af av) .none kV59 dc59 pm59 an59 cd59 ct59),sl59⟩)
   (zo:PySem.W.codeIn K cd59 "Reckoning.__init__" = true) (yr:PySem.W.keepIn K (.ref f59) = true)
   (DG:PySem.W.findIn K (.ref bN) "told" = some (some (.ref f60)))
   (CY:PySem.W.isFn K (.ref f60) = true)
   (zL:K.lookup f60 = some ⟨oc60,od60,.func (PySem.W.fnOf "told" "Mul.told" (az dQ) (aw dQ) (af dQ) .none kV60 dc60 pm60 an60 cd60 ct60),sl60⟩)
   (y8:PySem.W.codeIn K cd60 "Mul.told" = true) (uJ:PySem.W.keepIn K (.ref f60) = true)
   (gC:PySem.W.excIn K aR [.type "ValueError",.type "Exception",.type "BaseException",.type "object"] "ValueError.__new__" = true)
   (gF:(PySem.W.clsIn K aR).isSome = true)
   (gG:PySem.W.findIn K (.ref aR) "__getattribute__" = some (some (.builtin "BaseException.__getattribute__")))
   (gE:PySem.W.findIn K (.ref aR) "__getattr__" = some none)
   (gz:PySem.W.findIn K (.ref aR) "__class__" = some (some (.builtin "object.__class__")))
   (gL:PySem.W.specialIn K (.builtin "object.__class__") "__get__" = some (some (.builtin "getset_descriptor.__get__")))
   (gA:PySem.W.takesIn K (.builtin "object.__class__") = some true)
   (gK:PySem.W.mroIn K aR (.type "object") = some true)
   (gM:PySem.W.mroIn K aR (.type "BaseException") = some true)
   (lS:PySem.W.excIn K aW [.type "ValueError",.type "Exception",.type "BaseException",.type "object"] "ValueError.__new__" = true)
   (lr:(PySem.W.clsIn K aW).isSome = true)
   (lL:PySem.W.findIn K (.ref aW) "__getattribute__" = some (some (.builtin "BaseException.__getattribute__")))
   (lN:PySem.W.findIn K (.ref aW) "__getattr__" = some none)
   (ll:PySem.W.findIn K (.ref aW) "__class__" = some (some (.builtin "object.__class__")))
   (lE:PySem.W.specialIn K (.builtin "object.__class__") "__get__" = some (some (.builtin "getset_descriptor.__get__")))
   (lH:PySem.W.takesIn K (.builtin "object.__class__") = some true)
   (lz:PySem.W.mroIn K aW (.type "object") = some true)
   (lQ:PySem.W.mroIn K aW (.type "BaseException") = some true)
   (jR:PySem.W.excIn K aV [.type "ValueError",.type "Exception",.type "BaseException",.type "object"] "ValueError.__new__" = true)
   (jM:(PySem.W.clsIn K aV).isSome = true)
   (jl:PySem.W.findIn K (.ref aV) "__getattribute__" = some (some (.builtin "BaseException.__getattribute__")))
   (jJ:PySem.W.findIn K (.ref aV) "__getattr__" = some none)
   (jj:PySem.W.findIn K (.ref aV) "__class__" = some (some (.builtin "object.__class__")))
   (jO:PySem.W.specialIn K (.builtin "object.__class__") "__get__" = some (some (.builtin "getset_descriptor.__get__")))
   (jH:PySem.W.takesIn K (.builtin "object.__class__") = some true)
   (jt:PySem.W.mroIn K aV (.type "object") = some true)
   (jm:PySem.W.mroIn K aV (.type "BaseException") = some true)
   (cB:PySem.W.mroIn K aW (.ref aV) = some false)
   (ba:PySem.W.kitOne K (.ref aV) (.ref aR) = some true)
   (bF:PySem.W.kitOne K (.ref aV) (.ref aW) = some false)
   (bD:PySem.W.kitOne K (.ref aW) (.ref aR) = some true)
   (b_:PySem.W.kitOne K (.ref aW) (.ref aV) = some false)
   (fJ:PySem.W.kitOne K (.type "str") (.type "str") = some true)
   (cT:PySem.W.kitOne K (.type "NoneType") (.type "str") = some false)
   (fK:PySem.W.kitOne K (.type "int") (.type "str") = some false)
   (fg:PySem.W.kitOne K (.type "list") (.type "str") = some false)
   (eo:PySem.W.kitOne K (.type "tuple") (.type "str") = some false)
   (Ep:PySem.W.nsIn K mainGlobals "bounded" = some (some (.ref f61)))
   (Ap:K.lookup f61 = some ⟨oc61,od61,.func (PySem.W.fnOf "bounded" "bounded" (az eT) (aw eT) (af eT) .none kV61 dc61 pm61 an61 cd61 ct61),sl61⟩)
   (Aa:PySem.W.codeIn K cd61 "bounded" = true) (yd:PySem.W.keepIn K (.ref f61) = true)
   (DX:PySem.W.nsIn K mainGlobals "is_number" = some (some (.ref f62)))
   (zE:K.lookup f62 = some ⟨oc62,od62,.func (PySem.W.fnOf "is_number" "is_number" (az dg) (aw dg) (af dg) .none kV62 dc62 pm62 an62 cd62 ct62),sl62⟩)
   (xN:PySem.W.codeIn K cd62 "is_number" = true) (yp:PySem.W.keepIn K (.ref f62) = true)
   (Ed:PySem.W.nsIn K mainGlobals "read_number" = some (some (.ref f63)))
   (xT:K.lookup f63 = some ⟨oc63,od63,.func (PySem.W.fnOf "read_number" "read_number" (az cH) (aw cH) (af cH) .none kV63 dc63 pm63 an63 cd63 ct63),sl63⟩)
   (yx:PySem.W.codeIn K cd63 "read_number" = true) (AO:PySem.W.keepIn K (.ref f63) = true)
   (Dj:PySem.W.nsIn K mainGlobals "made_of_one" = some (some (.ref f64)))
   (yY:K.lookup f64 = some ⟨oc64,od64,.func (PySem.W.fnOf "made_of_one" "made_of_one" (az cL) (aw cL) (af cL) .none kV64 dc64 pm64 an64 cd64 ct64),sl64⟩)
   (y6:PySem.W.codeIn K cd64 "made_of_one" = true) (Ar:PySem.W.keepIn K (.ref f64) = true)
   (DB:PySem.W.nsIn K mainGlobals "made_of_two" = some (some (.ref f65)))
   (yJ:K.lookup f65 = some ⟨oc65,od65,.func (PySem.W.fnOf "made_of_two" "made_of_two" (az cM) (aw cM) (af cM) .none kV65 dc65 pm65 an65 cd65 ct65),sl65⟩)
   (Av:PySem.W.codeIn K cd65 "made_of_two" = true) (xM:PySem.W.keepIn K (.ref f65) = true)
   (Cy:PySem.W.nsIn K mainGlobals "made_of_three" = some (some (.ref f66)))
   (yF:K.lookup f66 = some ⟨oc66,od66,.func (PySem.W.fnOf "made_of_three" "made_of_three" (az b9) (aw b9) (af b9) .none kV66 dc66 pm66 an66 cd66 ct66),sl66⟩)
   (zU:PySem.W.codeIn K cd66 "made_of_three" = true) (y3:PySem.W.keepIn K (.ref f66) = true)
   (DR:PySem.W.nsIn K mainGlobals "asked_for_text" = some (some (.ref f67)))
   (zu:K.lookup f67 = some ⟨oc67,od67,.func (PySem.W.fnOf "asked_for_text" "asked_for_text" (az b5) (aw b5) (af b5) .none kV67 dc67 pm67 an67 cd67 ct67),sl67⟩)
   (ze:PySem.W.codeIn K cd67 "asked_for_text" = true) (zr:PySem.W.keepIn K (.ref f67) = true)
   (Dx:PySem.W.nsIn K mainGlobals "read_row" = some (some (.ref f68)))
   (y_:K.lookup f68 = some ⟨oc68,od68,.func (PySem.W.fnOf "read_row" "read_row" (az d7) (aw d7) (af d7) .none kV68 dc68 pm68 an68 cd68 ct68),sl68⟩)
   (z9:PySem.W.codeIn K cd68 "read_row" = true) (yK:PySem.W.keepIn K (.ref f68) = true)
   (DL:PySem.W.nsIn K mainGlobals "read_code" = some (some (.ref f69)))
   (zw:K.lookup f69 = some ⟨oc69,od69,.func (PySem.W.fnOf "read_code" "read_code" (az dD) (aw dD) (af dD) .none kV69 dc69 pm69 an69 cd69 ct69),sl69⟩)
   (xU:PySem.W.codeIn K cd69 "read_code" = true) (yX:PySem.W.keepIn K (.ref f69) = true)
   (CQ:PySem.W.nsIn K mainGlobals "_law_cell_at" = some (some (.ref f70)))
   (xW:K.lookup f70 = some ⟨oc70,od70,.func (PySem.W.fnOf "_law_cell_at" "_law_cell_at" (az cE) (aw cE) (af cE) .none kV70 dc70 pm70 an70 cd70 ct70),sl70⟩)
   (xO:PySem.W.codeIn K cd70 "_law_cell_at" = true) (yU:PySem.W.keepIn K (.ref f70) = true)
   (EI:PySem.W.nsIn K mainGlobals "_law_most" = some (some (.ref f71)))
   (yf:K.lookup f71 = some ⟨oc71,od71,.func (PySem.W.fnOf "_law_most" "_law_most" (az dW) (aw dW) (af dW) .none kV71 dc71 pm71 an71 cd71 ct71),sl71⟩)
   (yN:PySem.W.codeIn K cd71 "_law_most" = true) (AJ:PySem.W.keepIn K (.ref f71) = true)
   (Dd:PySem.W.nsIn K mainGlobals "_law_row" = some (some (.ref f72)))
   (Ac:K.lookup f72 = some ⟨oc72,od72,.func (PySem.W.fnOf "_law_row" "_law_row" (az eQ) (aw eQ) (af eQ) .none kV72 dc72 pm72 an72 cd72 ct72),sl72⟩)
   (An:PySem.W.codeIn K cd72 "_law_row" = true) (yl:PySem.W.keepIn K (.ref f72) = true)
   (DP:PySem.W.nsIn K mainGlobals "_law_free" = some (some (.ref f73)))
   (zF:K.lookup f73 = some ⟨oc73,od73,.func (PySem.W.fnOf "_law_free" "_law_free" (az dY) (aw dY) (af dY) .none kV73 dc73 pm73 an73 cd73 ct73),sl73⟩)
   (z_:PySem.W.codeIn K cd73 "_law_free" = true) (Aq:PySem.W.keepIn K (.ref f73) = true)
   (BQ:PySem.W.nsIn K mainGlobals "_law_changed" = some (some (.ref f74)))
   (y7:K.lookup f74 = some ⟨oc74,od74,.func (PySem.W.fnOf "_law_changed" "_law_changed" (az cI) (aw cI) (af cI) .none kV74 dc74 pm74 an74 cd74 ct74),sl74⟩)
   (yk:PySem.W.codeIn K cd74 "_law_changed" = true) (Ax:PySem.W.keepIn K (.ref f74) = true)
   (Ek:PySem.W.nsIn K mainGlobals "_law_number" = some (some (.ref f75)))
   (yS:K.lookup f75 = some ⟨oc75,od75,.func (PySem.W.fnOf "_law_number" "_law_number" (az cZ) (aw cZ) (af cZ) .none kV75 dc75 pm75 an75 cd75 ct75),sl75⟩)
   (AK:PySem.W.codeIn K cd75 "_law_number" = true) (zf:PySem.W.keepIn K (.ref f75) = true)
   (C8:PySem.W.nsIn K mainGlobals "_law_due_of" = some (some (.ref f76)))
   (AQ:K.lookup f76 = some ⟨oc76,od76,.func (PySem.W.fnOf "_law_due_of" "_law_due_of" (az c0) (aw c0) (af c0) .none kV76 dc76 pm76 an76 cd76 ct76),sl76⟩)
   (yD:PySem.W.codeIn K cd76 "_law_due_of" = true) (yz:PySem.W.keepIn K (.ref f76) = true)
   (EO:PySem.W.nsIn K mainGlobals "_law_due" = some (some (.ref f77)))
   (xJ:K.lookup f77 = some ⟨oc77,od77,.func (PySem.W.fnOf "_law_due" "_law_due" (az eP) (aw eP) (af eP) .none kV77 dc77 pm77 an77 cd77 ct77),sl77⟩)
   (zC:PySem.W.codeIn K cd77 "_law_due" = true) (xP:PySem.W.keepIn K (.ref f77) = true)
   (Er:PySem.W.nsIn K mainGlobals "_law_told" = some (some (.ref f78)))
   (Ag:K.lookup f78 = some ⟨oc78,od78,.func (PySem.W.fnOf "_law_told" "_law_told" (az d9) (aw d9) (af d9) .none kV78 dc78 pm78 an78 cd78 ct78),sl78⟩)
   (yI:PySem.W.codeIn K cd78 "_law_told" = true) (yc:PySem.W.keepIn K (.ref f78) = true)
   (yE:PySem.W.nsIn K mainGlobals "law" = some (some (.ref f79)))
   (vg:K.lookup f79 = some ⟨oc79,od79,.func (PySem.W.fnOf "law" "law" (az fX) (aw fX) (af fX) .none kV79 dc79 pm79 an79 cd79 ct79),sl79⟩)
   (uM:PySem.W.codeIn K cd79 "law" = true) (vB:PySem.W.keepIn K (.ref f79) = true) :
   ∃ (a:aP) (fd:FuncData),Txt w K mg a∧be K "law" "law" fX fa fd∧∀ (s:Shared) (v:Value),BindsTo s fd ⟨[v],[]⟩ [("_law_script",v)]:=by
 have e:=hfa.symm.trans (PySem.W.mg_of X G yE)
 cases e
 refine ⟨⟨0,bV,bC,bP,bO,bN,bw,bJ,bh,bU,bX,bI,a6,bK,bL,bM,0,0,aR,aW,0,aV,0,0,0,0,0,0,0,0,0,dZ,0,0,0,0⟩,_,?_,ao (st:=fX) vg uM vB,fun s v=>.of_eq rfl⟩
 exact {
   ij:=PySem.W.mg_none_of X G ij
   iW:=PySem.W.mg_none_of X G iW
   bt:=PySem.W.mg_none_of X G bt
   cf:=PySem.W.mg_none_of X G cf
   gc:=PySem.W.mg_none_of X G gc
   gk:=PySem.W.mg_none_of X G gk
   gU:=PySem.W.mg_none_of X G gU
   j9:=PySem.W.mg_none_of X G j9
   lj:=PySem.W.mg_of X G lR
   i9:=⟨k_,by decide +kernel,[("set",2,tk1,tk2),("copy",2,tk3,tk4),("add",3,tk5,tk6),("sub",3,tk7,tk8),("mul",3,tk9,tk10),("less",3,tk11,tk12),("grow",1,tk13,tk14),("shrink",1,tk15,tk16),("put",2,tk17,tk18),("get",2,tk19,tk20),("jump",1,tk21,tk22),("branch",2,tk23,tk24),("call",1,tk25,tk26),("back",1,tk27,tk28),("drop",1,tk29,tk30)],ep_COUNTS,rfl,lT⟩
   fO:=⟨_,PySem.W.mg_of X G fO⟩
   cQ:=⟨_,PySem.W.mg_of X G cQ⟩
   aS:=⟨_,PySem.W.mg_of X G aS⟩
   cq:=⟨_,PySem.W.mg_of X G cq⟩
   dR:=⟨_,PySem.W.mg_of X G dR⟩
   cz:=⟨_,PySem.W.mg_of X G cz⟩
   er:=⟨_,PySem.W.mg_of X G er⟩
   kl:=PySem.W.mg_of X G kl
   iP:=PySem.W.mg_of X G iP
   gg:=PySem.W.mg_of X G gg
   iM:=PySem.W.mg_of X G iM
   ix:=PySem.W.mg_of X G ix
   iu:=PySem.W.mg_of X G iu
   cx:=PySem.W.mg_of X G cx
   kg:=PySem.W.mg_of X G kg
   iD:=PySem.W.mg_of X G iD
   iE:=PySem.W.mg_of X G iE
   iF:=PySem.W.mg_of X G iF
   j_:=PySem.W.mg_of X G j_
   gi:=PySem.W.mg_of X G gi
   fu:=PySem.W.mg_of X G fu
   ko:=PySem.W.mg_of X G ko
   kh:=PySem.W.mg_of X G kh
   f_:=PySem.W.mg_of X G f_
   kb:=PySem.W.mg_of X G kb
   oa:=⟨nS,mW,nV,nv⟩
   eZ:=eZ
   vZ:=⟨_,_,ao (st:=dn) zW x8 xZ,⟨iw,C6,EG,nz⟩,(ao (st:=dn) zW x8 xZ).binds (ps:=["self","box"]) fun _ _ _ _ _ _ us hl=>match us,hl with | [_,_],_=>rfl⟩
   kQ:=⟨_,_,ao (st:=di) zc AF uT,⟨BO,D1,uT⟩,(ao (st:=di) zc AF uT).binds (ps:=["self"]) fun _ _ _ _ _ _ us hl=>match us,hl with | [_],_=>rfl⟩
   mZ:=⟨oy,nO,oq,oB⟩
   ez:=ez
   vk:=⟨_,_,ao (st:=dq) zq xI xF,⟨iR,B4,BW,m9⟩,(ao (st:=dq) zq xI xF).binds (ps:=["self","many"]) fun _ _ _ _ _ _ us hl=>match us,hl with | [_,_],_=>rfl⟩
   kI:=⟨_,_,ao (st:=dz) Ak yZ uX,⟨B3,D9,uX⟩,(ao (st:=dz) Ak yZ uX).binds (ps:=["self"]) fun _ _ _ _ _ _ us hl=>match us,hl with | [_],_=>rfl⟩
   jU:=⟨j7,jQ,jF,jB⟩
   c9:=c9
   qM:=⟨_,_,ao (st:=cF) zi yu yW,⟨gw,C5,Cr,j0⟩,(ao (st:=cF) zi yu yW).binds (ps:=["self","many"]) fun _ _ _ _ _ _ us hl=>match us,hl with | [_,_],_=>rfl⟩
   je:=⟨_,_,ao (st:=cJ) zd zy uR,⟨Eg,Cf,uR⟩,(ao (st:=cJ) zd zy uR).binds (ps:=["self"]) fun _ _ _ _ _ _ us hl=>match us,hl with | [_],_=>rfl⟩
   nG:=⟨oG,m5,nr,n5⟩
   c8:=c8
   vc:=⟨_,_,ao (st:=dA) zP yL z7,⟨iy,Cj,EH,ni⟩,(ao (st:=dA) zP yL z7).binds (ps:=["self","target"]) fun _ _ _ _ _ _ us hl=>match us,hl with | [_,_],_=>rfl⟩
   kO:=⟨_,_,ao (st:=dm) zO AA uF,⟨DA,Df,uF⟩,(ao (st:=dm) zO AA uF).binds (ps:=["self"]) fun _ _ _ _ _ _ us hl=>match us,hl with | [_],_=>rfl⟩
   oE:=⟨nN,nQ,n6,nZ⟩
   c7:=c7
   vW:=⟨_,_,ao (st:=dj) AH yB x9,⟨iI,Ca,Cn,oH⟩,(ao (st:=dj) AH yB x9).binds (ps:=["self","target"]) fun _ _ _ _ _ _ us hl=>match us,hl with | [_,_],_=>rfl⟩
   kH:=⟨_,_,ao (st:=dk) yV Ad uI,⟨Dk,B7,uI⟩,(ao (st:=dk) yV Ad uI).binds (ps:=["self"]) fun _ _ _ _ _ _ us hl=>match us,hl with | [_],_=>rfl⟩
   nH:=⟨nI,nF,n_,nj⟩
   e_:=e_
   vv:=⟨_,_,ao (st:=dC) AE zZ zh,⟨iK,Cz,BZ,nM⟩,(ao (st:=dC) AE zZ zh).binds (ps:=["self","box"]) fun _ _ _ _ _ _ us hl=>match us,hl with | [_,_],_=>rfl⟩
   kS:=⟨_,_,ao (st:=dt) Ao zk va,⟨DC,CL,va⟩,(ao (st:=dt) Ao zk va).binds (ps:=["self"]) fun _ _ _ _ _ _ us hl=>match us,hl with | [_],_=>rfl⟩
   j3:=⟨j6,jy,jT,jx⟩
   dI:=dI
   cD:=cD
   rG:=⟨_,_,ao (st:=cG) Aj yy yG,⟨gr,Cp,B2,j5⟩,(ao (st:=cG) Aj yy yG).binds (ps:=["self","box","target"]) fun _ _ _ _ _ _ us hl=>match us,hl with | [_,_,_],_=>rfl⟩
   jd:=⟨_,_,ao (st:=cK) y4 xG vE,⟨Eo,D2,vE⟩,(ao (st:=cK) y4 xG vE).binds (ps:=["self"]) fun _ _ _ _ _ _ us hl=>match us,hl with | [_],_=>rfl⟩
   pK:=⟨rO,rB,pS,qC⟩
   fC:=fC
   dN:=dN
   xS:=⟨_,_,ao (st:=dP) zv yM zY,⟨jv,Cw,C_,rA⟩,(ao (st:=dP) zv yM zY).binds (ps:=["self","box","number"]) fun _ _ _ _ _ _ us hl=>match us,hl with | [_,_,_],_=>rfl⟩
   ml:=⟨_,_,ao (st:=d0) Al yi uO,⟨DV,Cc,uO⟩,(ao (st:=d0) Al yi uO).binds (ps:=["self"]) fun _ _ _ _ _ _ us hl=>match us,hl with | [_],_=>rfl⟩
   m7:=⟨m3,nR,nB,n3⟩
   fb:=fb
   e8:=e8
   vb:=⟨_,_,ao (st:=dB) zx Af yo,⟨iL,BV,D_,nq⟩,(ao (st:=dB) zx Af yo).binds (ps:=["self","box","one"]) fun _ _ _ _ _ _ us hl=>match us,hl with | [_,_,_],_=>rfl⟩
   kY:=⟨_,_,ao (st:=dw) As zl uy,⟨Ez,CM,uy⟩,(ao (st:=dw) As zl uy).binds (ps:=["self"]) fun _ _ _ _ _ _ us hl=>match us,hl with | [_],_=>rfl⟩
   p7:=⟨rD,rz,qR,qD⟩
   fQ:=fQ
   eY:=eY
   zK:=⟨_,_,ao (st:=aZ) zG zX zJ,⟨jo,Dt,Di,pU⟩,(ao (st:=aZ) zG zX zJ).binds (ps:=["self","box","cell"]) fun _ _ _ _ _ _ us hl=>match us,hl with | [_,_,_],_=>rfl⟩
   mH:=⟨_,_,ao (st:=dU) Ah x6 ve,⟨DS,Ci,ve⟩,(ao (st:=dU) Ah x6 ve).binds (ps:=["self"]) fun _ _ _ _ _ _ us hl=>match us,hl with | [_],_=>rfl⟩
   ri:=⟨qb,rC,qu,qQ⟩
   fB:=fB
   eX:=eX
   zS:=⟨_,_,ao (st:=aZ) AN zg xR,⟨jV,Cb,CZ,pV⟩,(ao (st:=aZ) AN zg xR).binds (ps:=["self","box","cell"]) fun _ _ _ _ _ _ us hl=>match us,hl with | [_,_,_],_=>rfl⟩
   mR:=⟨_,_,ao (st:=dX) yT zR vY,⟨CK,B5,vY⟩,(ao (st:=dX) yT zR vY).binds (ps:=["self"]) fun _ _ _ _ _ _ us hl=>match us,hl with | [_],_=>rfl⟩
   nu:=⟨oC,ou,m6,m8⟩
   fc:=fc
   fe:=fe
   dJ:=dJ
   vp:=⟨_,_,ao (st:=av) zN AG xX,⟨iT,Ej,Dc,oF⟩,(ao (st:=av) zN AG xX).binds (ps:=["self","box","one","other"]) fun _ _ _ _ _ _ us hl=>match us,hl with | [_,_,_,_],_=>rfl⟩
   k6:=⟨_,_,ao (st:=dh) Am yH vz,⟨Em,CI,vz⟩,(ao (st:=dh) Am yH vz).binds (ps:=["self"]) fun _ _ _ _ _ _ us hl=>match us,hl with | [_],_=>rfl⟩
   qi:=⟨rZ,rh,p_,pR⟩
   fP:=fP
   fL:=fL
   eA:=eA
   yC:=⟨_,_,ao (st:=av) zm ye zH,⟨js,CT,Cd,qm⟩,(ao (st:=av) zm ye zH).binds (ps:=["self","box","one","other"]) fun _ _ _ _ _ _ us hl=>match us,hl with | [_,_,_,_],_=>rfl⟩
   mv:=⟨_,_,ao (st:=d_) Az Ay uA,⟨EA,DJ,uA⟩,(ao (st:=d_) Az Ay uA).binds (ps:=["self"]) fun _ _ _ _ _ _ us hl=>match us,hl with | [_],_=>rfl⟩
   qO:=⟨rM,pL,qP,pH⟩
   fE:=fE
   fH:=fH
   eu:=eu
   xV:=⟨_,_,ao (st:=av) z8 yj x_,⟨jN,C0,Ck,qU⟩,(ao (st:=av) z8 yj x_).binds (ps:=["self","box","one","other"]) fun _ _ _ _ _ _ us hl=>match us,hl with | [_,_,_,_],_=>rfl⟩
   mO:=⟨_,_,ao (st:=d6) zj yR vF,⟨Dz,EK,vF⟩,(ao (st:=d6) zj yR vF).binds (ps:=["self"]) fun _ _ _ _ _ _ us hl=>match us,hl with | [_],_=>rfl⟩
   qw:=⟨pI,qk,p6,qI⟩
   fG:=fG
   fF:=fF
   el:=el
   zz:=⟨_,_,ao (st:=av) x5 zo yr,⟨jG,EL,Eb,p8⟩,(ao (st:=av) x5 zo yr).binds (ps:=["self","box","one","other"]) fun _ _ _ _ _ _ us hl=>match us,hl with | [_,_,_,_],_=>rfl⟩
   mM:=⟨_,_,ao (st:=dQ) zL y8 uJ,⟨DG,CY,uJ⟩,(ao (st:=dQ) zL y8 uJ).binds (ps:=["self"]) fun _ _ _ _ _ _ us hl=>match us,hl with | [_],_=>rfl⟩
   q_:=⟨PySem.W.mg_of X G cx,gC⟩
   pw:=⟨gF,gG,gE,gz,gL,gA,gK,gM⟩
   n9:=⟨PySem.W.mg_of X G gi,lS⟩
   lD:=⟨lr,lL,lN,ll,lE,lH,lz,lQ⟩
   fw:=⟨PySem.W.mg_of X G fu,jR⟩
   jq:=⟨jM,jl,jJ,jj,jO,jH,jt,jm⟩
   cB:=cB
   ba:=ba
   bF:=bF
   bD:=bD
   b_:=b_
   fJ:=fJ
   cT:=cT
   fK:=fK
   fg:=fg
   eo:=eo
   lZ:=⟨_,_,ao (st:=eT) Ap Aa yd,PySem.W.mg_of X G Ep,(ao (st:=eT) Ap Aa yd).binds (ps:=["number","top"]) fun _ _ _ _ _ _ us hl=>match us,hl with | [_,_],_=>rfl⟩
   jk:=⟨_,_,ao (st:=dg) zE xN yp,PySem.W.mg_of X G DX,(ao (st:=dg) zE xN yp).binds (ps:=["word"]) fun _ _ _ _ _ _ us hl=>match us,hl with | [_],_=>rfl⟩
   iQ:=⟨_,_,ao (st:=cH) xT yx AO,PySem.W.mg_of X G Ed,(ao (st:=cH) xT yx AO).binds (ps:=["word"]) fun _ _ _ _ _ _ us hl=>match us,hl with | [_],_=>rfl⟩
   iS:=⟨_,_,ao (st:=cL) yY y6 Ar,PySem.W.mg_of X G Dj,(ao (st:=cL) yY y6 Ar).binds (ps:=["word","number"]) fun _ _ _ _ _ _ us hl=>match us,hl with | [_,_],_=>rfl⟩
   iV:=⟨_,_,ao (st:=cM) yJ Av xM,PySem.W.mg_of X G DB,(ao (st:=cM) yJ Av xM).binds (ps:=["word","first","second"]) fun _ _ _ _ _ _ us hl=>match us,hl with | [_,_,_],_=>rfl⟩
   h_:=⟨_,_,ao (st:=b9) yF zU y3,PySem.W.mg_of X G Cy,(ao (st:=b9) yF zU y3).binds (ps:=["word","first","second","third"]) fun _ _ _ _ _ _ us hl=>match us,hl with | [_,_,_,_],_=>rfl⟩
   gN:=⟨_,_,ao (st:=b5) zu ze zr,PySem.W.mg_of X G DR,(ao (st:=b5) zu ze zr).binds (ps:=["text"]) fun _ _ _ _ _ _ us hl=>match us,hl with | [_],_=>rfl⟩
   kM:=⟨_,_,ao (st:=d7) y_ z9 yK,PySem.W.mg_of X G Dx,(ao (st:=d7) y_ z9 yK).binds (ps:=["text"]) fun _ _ _ _ _ _ us hl=>match us,hl with | [_],_=>rfl⟩
   jP:=⟨_,_,ao (st:=dD) zw xU yX,PySem.W.mg_of X G DL,(ao (st:=dD) zw xU yX).binds (ps:=["text"]) fun _ _ _ _ _ _ us hl=>match us,hl with | [_],_=>rfl⟩
   iH:=⟨_,_,ao (st:=cE) xW xO yU,PySem.W.mg_of X G CQ,(ao (st:=cE) xW xO yU).binds (ps:=["_law_script","_law_k"]) fun _ _ _ _ _ _ us hl=>match us,hl with | [_,_],_=>rfl⟩
   k8:=⟨_,_,ao (st:=dW) yf yN AJ,PySem.W.mg_of X G EI,(ao (st:=dW) yf yN AJ).binds (ps:=["_law_word"]) fun _ _ _ _ _ _ us hl=>match us,hl with | [_],_=>rfl⟩
   lV:=⟨_,_,ao (st:=eQ) Ac An yl,PySem.W.mg_of X G Dd,(ao (st:=eQ) Ac An yl).binds (ps:=["_law_cell"]) fun _ _ _ _ _ _ us hl=>match us,hl with | [_],_=>rfl⟩
   kD:=⟨_,_,ao (st:=dY) zF z_ Aq,PySem.W.mg_of X G DP,(ao (st:=dY) zF z_ Aq).binds (ps:=["_law_cell","_law_signs"]) fun _ _ _ _ _ _ us hl=>match us,hl with | [_,_],_=>rfl⟩
   iB:=⟨_,_,ao (st:=cI) y7 yk Ax,PySem.W.mg_of X G BQ,(ao (st:=cI) y7 yk Ax).binds (ps:=["_law_text","_law_cell"]) fun _ _ _ _ _ _ us hl=>match us,hl with | [_,_],_=>rfl⟩
   jg:=⟨_,_,ao (st:=cZ) yS AK zf,PySem.W.mg_of X G Ek,(ao (st:=cZ) yS AK zf).binds (ps:=["_law_word"]) fun _ _ _ _ _ _ us hl=>match us,hl with | [_],_=>rfl⟩
   jf:=⟨_,_,ao (st:=c0) AQ yD yz,PySem.W.mg_of X G C8,(ao (st:=c0) AQ yD yz).binds (ps:=["_law_line"]) fun _ _ _ _ _ _ us hl=>match us,hl with | [_],_=>rfl⟩
   lU:=⟨_,_,ao (st:=eP) xJ zC xP,PySem.W.mg_of X G EO,(ao (st:=eP) xJ zC xP).binds (ps:=["_law_text"]) fun _ _ _ _ _ _ us hl=>match us,hl with | [_],_=>rfl⟩
   kE:=⟨_,_,ao (st:=d9) Ag yI yc,PySem.W.mg_of X G Er,(ao (st:=d9) Ag yI yc).binds (ps:=["_law_alone","_law_text"]) fun _ _ _ _ _ _ us hl=>match us,hl with | [_,_],_=>rfl⟩
   Dw:=⟨_,_,ao (st:=fX) vg uM vB,PySem.W.mg_of X G yE,(ao (st:=fX) vg uM vB).binds (ps:=["_law_script"]) fun _ _ _ _ _ _ us hl=>match us,hl with | [_],_=>rfl⟩ }
theorem walk {l : PySem.W.OpenLaw} {q : Program} {loose : List Str} {XP : (Str → Option Value) → Heap → Prop} {YP : World → Heap → Prop} {d : DefRec} {K : Params → PySem.W.Frag} (hn : l.most = some 63) (hdf : d.params.defaults = [])
   (hY:∀ (w:World) (h:Heap),YP w h→(K w.params).In h)
   (F : ∀ (w : World) (mg : Str → Option Value) (fa : Addr) (h : Heap), (K w.params).In h → h.Ns mainGlobals mg → mg d.name = some (.ref fa) →
     ∃ fd:FuncData,(∀ (s:Shared) (u:Value),BindsTo s fd ⟨[u],[]⟩ [("_law_script",u)])∧∀ base:Heap,(K w.params).In base→base.Ns mainGlobals mg→eO l.prog w (K w.params) mg base cm 8 fa fd ["_law_script"] (ui (K w.params))) :
   PySem.W.WalkO q loose XP YP l.row.toRowW d [] (fun f vs=>PySem.call f vs) :=
 L2.Bq (n:=63) (k:=8) (x:="_law_script") (CX:=fun _=>cm) (sp:=fun w=>ui (K w.params)) hn (by decide) hdf ⟨rfl,by decide,by decide,rfl⟩ hY F (fun _ _ a ns hl _ hS=>⟨a,ns,rfl,hS,hl,fun _=>rfl⟩) fun _ _ _ _ _ z=>z
end FB
namespace PySem.W.Fast
def tw2895584749674150246:=0
def tw810189082168363726:=0
def tw752978622160080745:=0
def tw13952667728981728135:=0
def tw6041422467306247168:=0
def tw4717047080185922442:=0
def tw17142854959244426277:=0
def tw15702150618353122436:=0
def tw12418295633432755277:=0
def tw13737635260852305462:=0
def tw13235400435997483738:=0
def tw913145466445714971:=0
def tw8737615274683274105:=0
def tw12894950492122980730:=0
def tw8882365081378818824:=0
def tw10315364964080252181:=0
def tw14030399964454075666:=0
def tw17614636951348410626:=0
def tw951497531034688470:=0
def tw14051806010055299929:=0
def tw2575556199344605216:=0
def tw15589855007051072126:=0
def tw11081782862941327859:=0
def tw12882998729804871594:=0
def tw520047222632213403:=0
def tw952135934412669059:=0
def tw14248121987580847581:=0
def tw2238519913955745443:=0
def tw15201779533811226670:=0
def tw4243096870976594317:=0
def tw16760716650148702739:=0
def tw5188762778562103284:=0
def tw9831565959476722984:=0
def tw2455049595244867291:=0
def tw10370508235570590601:=0
def tw10238507234040616374:=0
def tw8836713652892082752:=0
def tw10736994747022943699:=0
def tw11824075045879245398:=0
def tw11847665149988254555:=0
def tw17533111041551417000:=0
def tw9165595039072850692:=0
def tw9395037978178053876:=0
def tw17266179542469864499:=0
def tw7913408562323550241:=0
def tw6686999604582733758:=0
def tw15939485751890790657:=0
def tw12492730570179811289:=0
def tw6601733567955700694:=0
def tw13702837883047809886:=0
def tw18386189191747660078:=0
def tw5728881357046551994:=0
def tw11580841098302845006:=0
def tw9927973618202329691:=0
def tw5745604795250682347:=0
def tw15999766727966605902:=0
def tw12406650496289204883:=0
def tw305183125745294164:=0
def tw17080948822604355432:=0
def tw5532477659248011843:=0
def tw12267658770382904575:=0
def tw365299181703843512:=0
def tw17324677798042796163:=0
def tw13649934669265558494:=0
def tw6541533802667111594:=0
def tw13135039523658111773:=0
def tw14898349427459412344:=0
def tw7164171552187080511:=0
def tw221561275601996844:=0
def tw17100301192183139371:=0
def tw16561310410975224469:=0
def tw8546088050290601295:=0
def tw7239179310364903673:=0
def tw5767966161647808388:=0
def tw10288555793638361085:=0
def tw5632597767121255488:=0
def tw15151888932490627621:=0
def tw3649698704801085281:=0
def tw158183124523077037:=0
def tw2184335854047863735:=0
def tw8954912007829147094:=0
def tw3129971244239453509:=0
def tw14312182020407961671:=0
def tw1756441328448595140:=0
def tw5089788700469623552:=0
def tw16960395000189980580:=0
def tw5630097255285543575:=0
def tw12494274603036914983:=0
def tw16166896268373454938:=0
def tw2006890263987519612:=0
def tw2589709723174300263:=0
def tw16234293059237708554:=0
def tw8263623904897272477:=0
def tw17119572186975455185:=0
def tw5481864370548790184:=0
def tw11402862119206305576:=0
def tw11903592620395469205:=0
def tw2107523204996824838:=0
def tw10574612139252423489:=0
def tw14655155563272836637:=0
def tw9566565882242971022:=0
def tw6127425347770423845:=0
def tw7151578823029479710:=0
def tw10467559639750615431:=0
def tw17322924635883008931:=0
def tw3999341449662785159:=0
def tw14728050312064300593:=0
def tw9221612699141225257:=0
def tw7106091149451523144:=0
def tw7178104063260299136:=0
def tw2503109295350813192:=0
def tw18343205391056740277:=0
def tw5407366284468681954:=0
def tw17232245594473879475:=0
def tw2776640065551534086:=0
def tw2168455947777533903:=0
def tw13022757756420498633:=0
def tw8499115792802097373:=0
def tw15119197900652171364:=0
def tw11793664260571936124:=0
def tw8401867460996901589:=0
def tw5370431812298018091:=0
def tw17960045557403641597:=0
def tw15653468606277974073:=0
def tw5700073327305331628:=0
def tw396577479239915827:=0
def tw18465111380103564:=0
def tw7878895157910673650:=0
def tw16544240075839911772:=0
def tw3257094445299136103:=0
def tw11484472618246435169:=0
def tw16414889632377358393:=0
def tw13387076950099162998:=0
def tw3828302980674684886:=0
def tw13649238265300075080:=0
def tw5968718097434454498:=0
def tw1292103870678017889:=0
def tw9939772440815105952:=0
def tw2239327040791890945:=0
def tw15532483140511309288:=0
def tw2800308687337809911:=0
def tw15905825452085219707:=0
def tw1049229436097669211:=0
def tw14034442840655090308:=0
def tw8446775667831416026:=0
def tw16133842353743486393:=0
def tw1297375309823902377:=0
def tw9448838131406034994:=0
def tw1110940583780973946:=0
def tw15939529906866255690:=0
def tw7582404696824685252:=0
def tw4393691669870205947:=0
def tw6251504586494674796:=0
def tw4950225489054047280:=0
def tw15691368150221119706:=0
def tw18416295418725401744:=0
def tw14911517124771985192:=0
def tw6614779649486652766:=0
def tw15524311660315102107:=0
def tw17414142116167386285:=0
def tw17849336914073315911:=0
def tw9026013992571003131:=0
def tw15406927817393226356:=0
def tw8117145265784324264:=0
def tw5966905699732105243:=0
def tw13591348942729087216:=0
def tw10838593666477138012:=0
def tw8583945230857321548:=0
def tw15756432641814439291:=0
def tw9201922252212488960:=0
def tw10771833430484535769:=0
def tw7288770771430023180:=0
def tw5357369572337768954:=0
def tw13877412495383866930:=0
def tw16259106818450062982:=0
def tw3374452650863955452:=0
def tw7958283496760196682:=0
def tw16032106362032050361:=0
def tw10416809213761021066:=0
def tw18073048907114828169:=0
def tw15733077084351064219:=0
def tw14914936798420193841:=0
def tw12553862808813063981:=0
def tw16777710937704245226:=0
def tw10906984382240254262:=0
def tw10078203550909817063:=0
def tw6847183061746892237:=0
def tw9332809108705615906:=0
def tw16086932007497995821:=0
def tw3047456190985255977:=0
def tw10669925357447519655:=0
def tw11361530602128027410:=0
def tw12062243820697015622:=0
def tw16310306892872414552:=0
def tw4593894573017336463:=0
def tw12022139848087933093:=0
def tw5568537157887922282:=0
def tw12569347046547216987:=0
def tw4019018173193217873:=0
def tw886790097055361093:=0
def tw6572302611247114436:=0
def tw18243345790849661692:=0
def tw1044911444987174786:=0
def tw6915442015605381228:=0
def tw3847373944128924289:=0
def tw8251897064359500694:=0
def tw4194453085778622311:=0
def tw10459449708798977120:=0
def tw4132120173197769592:=0
def tw1309100551878041742:=0
def tw7155880479712750298:=0
def tw14644009731990819859:=0
def tw16178735214251342331:=0
def tw13952567238396767483:=0
def tw17131191648451850977:=0
def tw444814476802791141:=0
def tw2158617294678236837:=0
def tw7587255465699634779:=0
def tw1744185165540916559:=0
def tw9282183827249247029:=0
def tw1795948189251640998:=0
def tw11702605895248883080:=0
def tw6436387549738396506:=0
def tw239960768350799666:=0
def tw3300371918930867602:=0
def tw15116219829832887181:=0
def tw7340186726584924546:=0
def tw8529141200835298125:=0
def tw16597378690185735153:=0
def tw14732649719772293314:=0
def tw8355768470930385028:=0
def tw5531482643788960835:=0
def tw10593035415705629712:=0
def tw10228544111574999670:=0
def tw15049531771597086311:=0
def tw8339102818164408361:=0
def tw1247794862565933554:=0
def tw16224167723988986856:=0
def tw18060543971481533543:=0
def tw13758630181016856841:=0
def tw10647292852670185711:=0
def tw18206893019360864038:=0
def tw7926126775545065446:=0
def tw16709346459565704011:=0
def tw11211681846838978906:=0
def tw8007570420059419993:=0
def tw10525553065569748728:=0
def tw14793240987033485261:=0
def tw16210224877827592554:=0
def tw7543517150716427042:=0
def tw11559804003109231847:=0
def tw14565580415628252473:=0
def tw10154417623182477730:=0
def tw14410637587899566306:=0
def tw9732292743392496141:=0
def tw11602700018244690016:=0
def tw14684767128965475905:=0
def tw6613359957356923945:=0
def tw6547815183986258771:=0
def tw3649588913110370283:=0
def tw16945479799110769194:=0
def tw7566053300904819227:=0
def tw13706426456855839312:=0
def tw12308852681666343778:=0
def tw17586437318320702583:=0
def tw12224877592726980837:=0
def tw10666912529370398706:=0
def tw1185779137336344990:=0
def tw3713231519852772208:=0
def tw4757934502923961725:=0
def tw4402233583369791371:=0
def tw9025823715859936456:=0
def tw1799689394497189507:=0
def tw1231953523268362053:=0
def tw17936286980252768922:=0
def tw1101845573835361242:=0
def tw12500812784301968563:=0
def tw9522832858599037330:=0
def tw8499443491211838348:=0
def tw13346188356420804167:=0
def tw4139840170103808345:=0
def tw4825323522304320428:=0
def tw4274894511365778490:=0
def tw4222867940043889519:=0
def tw3496922863417851537:=0
def tw14941496530016124133:=0
def tw9955267888038376190:=0
def tw7706232801090271086:=0
def tw8811629717214226667:=0
def tw17669380063450679767:=0
def tw15949225931247354223:=0
def tw13768712975026132605:=0
def tw17891905806449333096:=0
def tw9173356528149967885:=0
def tw9294745433351348270:=0
def tw15298967376237295391:=0
def tw15776803870201098092:=0
def tw16741621792973417202:=0
def tw8126092426368093415:=0
def tw16761215178578400501:=0
def tw4441353632569871309:=0
def tw868239520573461247:=0
def tw10502506877481271874:=0
def tw9817012167167269414:=0
def tw16318358082844298532:=0
def tw6703523624936106164:=0
def tw5346472177721504537:=0
def tw758117502674143779:=0
def tw6109646880907771197:=0
def tw12265187072410207751:=0
def tw76050737320075974:=0
def tw3622150974271035491:=0
def tw9113032723793140027:=0
def tw18210067008474727180:=0
def tw7559547347010944616:=0
def tw7393337223929817537:=0
def tw13629414974471600372:=0
def tw17336753551973734051:=0
def tw11250664731961630085:=0
def tw17640982091779788091:=0
def tw290761260157402403:=0
def tw10090225728428420806:=0
def tw15647194282448062090:=0
def tw13935639474955028478:=0
def tw6054286230903823227:=0
def tw13110823415605906851:=0
def tw1343535685988551923:=0
def tw14656338235470093707:=0
def tw6093624909566433540:=0
def tw1605437303632388720:=0
def tw8704610215941893435:=0
def tw18314298387125635294:=0
def tw1497530211330407401:=0
def tw15322431391383043525:=0
def tw17658937607183122150:=0
def tw11353805519222921038:=0
def tw11393748653237352052:=0
def tw13278097303915390292:=0
def tw2390517135998822996:=0
def tw3575827526067785421:=0
def tw475125299878847739:=0
def tw10430471907589899767:=0
def tw8764752542002525631:=0
def tw12861331271480943995:=0
def tw963083626742492266:=0
def tw15816637032565433439:=0
def tw15763277351783220761:=0
def tw8081423898508773446:=0
def tw5963711976372668720:=0
def tw15873030415639665328:=0
def tw1828778615415554724:=0
def tw8474105307882469954:=0
def tw2228428753722157666:=0
def tw740413166187023348:=0
def tw4559100123079723197:=0
def tw6829147777614130585:=0
def tw14524655815937141899:=0
def tw2648633174887754484:=0
def tw9700917650207125528:=0
def tw17200176223487945388:=0
def tw17614836394585080776:=0
def tw7998694870165101671:=0
def tw8498363175563037190:=0
def tw2127064547668464756:=0
def tw11045762186425982603:=0
def tw9776445837590501386:=0
def tw10736751131923448678:=0
def tw9502067860426382623:=0
def tw11149995606949174885:=0
def tw13049915872975987342:=0
def tw78825490450025867:=0
def tw5745349371526728648:=0
def tw2066116294971341149:=0
def tw15865875276045145312:=0
def tw13478114570638735349:=0
def tw7482666044449964817:=0
def tw17736658533068005942:=0
def tw5861135804910804150:=0
def tw5276705276942298326:=0
def tw13275529930388760910:=0
def tw4314200677160176750:=0
def tw16909761232419428587:=0
def tw5964973207244534106:=0
def tw11722412772203575505:=0
def tw9751588975901810811:=0
def tw9273144684583045747:=0
def tw12830255295619966808:=0
def tw8896833558532414175:=0
def tw359658863845523189:=0
def tw273904366329890188:=0
def tw14855823300354945878:=0
def tw17697769347445133292:=0
def tw4303681246805545115:=0
def tw15756005768550622901:=0
def tw500780795635584504:=0
def tw17590736956598667002:=0
def tw7391979349018663123:=0
def tw7676967535778310114:=0
def tw6134344909862909353:=0
def tw8931639709283545670:=0
def tw1116313581303020610:=0
def tw7230576997712857286:=0
def tw11796778681119256118:=0
def tw5824661588584443908:=0
def tw16811270977396692272:=0
def tw18039789328558299434:=0
def tw7925845369223511940:=0
def tw12054432846015322998:=0
def tw8489754873306232952:=0
def tw14421621493972236851:=0
def tw7851255059061651654:=0
def tw10456933177622441162:=0
def tw4930825246700776753:=0
def tw10209354782267503960:=0
def tw9605178537101961707:=0
def tw1641458335272146790:=0
def tw11819938835099863587:=0
def tw17859331928333251010:=0
def tw2023105872836217586:=0
def tw4588386057905055070:=0
def tw13681818880085676112:=0
def tw13803356567020941560:=0
def tw15325917847358703567:=0
def tw1039828061265550310:=0
def tw10512160869963972850:=0
def tw16010016190715276693:=0
def tw11425998198625321725:=0
def tw11255082970432859143:=0
def tw7531855098361992035:=0
def tw15168995822893185886:=0
def tw6212357979701995211:=0
def tw7641567619451122835:=0
def tw15075635910780942072:=0
def tw5409107190395566428:=0
def tw3928213908910110660:=0
def tw7032223223891277829:=0
def tw9936619612330783138:=0
def tw7511168292559992908:=0
def tw1562288327874381487:=0
def tw3840267860703991637:=0
def tw14130327551368937092:=0
def tw10550007538628963474:=0
def tw5188863416987864317:=0
def tw11983485420204113407:=0
def tw149350652802363565:=0
def tw4728861052861319347:=0
def tw15589834913125347758:=0
def tw16590649955934613287:=0
def tw14036792502991952003:=0
def tw3085400877601459129:=0
def tw10156038599896178322:=0
def tw9240700856435758941:=0
def tw4197554757231165197:=0
def tw3032528271450515252:=0
def tw7482632504944068605:=0
def tw13377056132678480625:=0
def tw17008040597592671911:=0
def tw3621294265835112528:=0
def tw4291038003598556492:=0
def tw6013301084986561689:=0
def tw16236708858900310519:=0
def tw18075120843613338291:=0
def tw12301425566360636531:=0
def tw7332268695345095806:=0
def tw3199256553381466648:=0
def tw13360521813879268402:=0
def tw1370451947523291934:=0
def tw14299896896797948048:=0
def tw523665864560859494:=0
def tw3089079169618374160:=0
def tw9456290651495023452:=0
def tw3037875128301004803:=0
def tw2791759580734943034:=0
def tw6897670709887689527:=0
def tw4563969800740329881:=0
def tw9217488720822055522:=0
def tw18204387473817325324:=0
def tw10575564141617767513:=0
def tw3222671386275822805:=0
def tw10394822667297956280:=0
def tw3557753244828929242:=0
def tw10949916734051509023:=0
def tw2032362118805574001:=0
def tw12109866063078093859:=0
def tw9319184725286936079:=0
def tw7768979827906374883:=0
def tw2430921427438506324:=0
def tw12259689420235936478:=0
def tw4626808239536243632:=0
def tw13524326900948448212:=0
def tw3427434780097946407:=0
def tw15102357620452502709:=0
def tw16065878619905209296:=0
def tw8316347965758021009:=0
def tw7403659678212421782:=0
def tw11370807127192323289:=0
def tw5508309903089095910:=0
def tw14456152391270347965:=0
def tw2208119773259900736:=0
def tw3177502745855487684:=0
def tw13502934686132526428:=0
def tw4118869397035460190:=0
def tw13723907462426719391:=0
def tw11943023748279890953:=0
def tw3231141979942761547:=0
def tw14288274963063262329:=0
def tw13773566443560778776:=0
def tw9950460561404402323:=0
def tw15842847032645590494:=0
def tw2955635286075870854:=0
def tw11175953867843520722:=0
def tw11796799982503600588:=0
def tw1523148837376371092:=0
def tw14143866323554363932:=0
def tw12936169722516229653:=0
def tw12988331607934934129:=0
def tw13333964838537165372:=0
def tw16355407012249175941:=0
def tw6429765293883808573:=0
def tw3540207268386706363:=0
def tw17207767188561118885:=0
def tw16336196058508315031:=0
def tw5445851741201533887:=0
def tw9855281487517761779:=0
def tw11368184715533735096:=0
def tw3424609532624246232:=0
def tw10978261161598604815:=0
def tw12420638019108672383:=0
def tw8496852605008281513:=0
def tw12924910047496392614:=0
def tw207389435668334529:=0
def tw1278943336345644972:=0
def tw9669812396913297490:=0
def tw2918691687264058125:=0
def tw8969894828271857186:=0
def tw6121713385011324017:=0
def tw1753846348931615645:=0
def tw2561215362979255112:=0
def tw15564975703563013748:=0
def tw682760003893604208:=0
def tw16349883829778491124:=0
def tw6416738195694238694:=0
def tw14083106575987030857:=0
def tw15040810671508077846:=0
def tw12357720670365707059:=0
def tw14340426140116361751:=0
def tw5541742732986805924:=0
def tw6320047590631995148:=0
def tw7576610876007571078:=0
def tw17145584146742372238:=0
def tw11810414270938726851:=0
def tw17442556603962840780:=0
def tw15975683813891514734:=0
def tw8490983640684993078:=0
def tw3362314793794076159:=0
def tw16222321599584984056:=0
def tw4354172177687489652:=0
def tw1751908425374395122:=0
def tw15731399727684508230:=0
def tw18207090222700523773:=0
def tw5425136595316545511:=0
def tw9586325060792896056:=0
def tw12447579948992353549:=0
def tw7861020787791905371:=0
def tw15546429977287960286:=0
def tw10303038153814345081:=0
def tw6894320757112103693:=0
def tw7242996458565585168:=0
def tw5165215417926584485:=0
def tw8620984790262051549:=0
def tw17719585187832806831:=0
def tw12917079296220575238:=0
def tw3509031802080187940:=0
def tw9843086816863597199:=0
def tw6599943333601590485:=0
def tw4565730098888465057:=0
def tw17827351489745775695:=0
def tw1470640393143603946:=0
def tw8076111478890386779:=0
def tw14797198778319089878:=0
def tw1828684781216960470:=0
def tw4328551768528844407:=0
def tw8587497388714399148:=0
def tw13922325871026410816:=0
def tw1125136871485828171:=0
def tw9045574075203748492:=0
def tw96496492473639744:=0
def tw5551107733226741588:=0
def tw7207714426688886772:=0
def tw13304243393110828313:=0
def tw11360442209093277217:=0
def tw17398920131356523939:=0
def tw9283905307487572368:=0
def tw14592622908882494012:=0
def tw17917839268602069266:=0
def tw895972352911560690:=0
def tw4062637539851198337:=0
def tw11106716168835156404:=0
def tw7792469469037996024:=0
def tw12222041647916330879:=0
def tw9268623683400662593:=0
def tw12556018331651328815:=0
def tw11612012463385542714:=0
def tw2116736574859749495:=0
def tw1407773783300828215:=0
def tw13607527382819740207:=0
def tw1000056675529310656:=0
def tw3492929397394500925:=0
def tw16123339894417278616:=0
def tw16674858980223922580:=0
def tw8262241516722897543:=0
def tw16079465964526220525:=0
def tw185063282407305494:=0
def tw16869325130466707727:=0
def tw3508195980866043019:=0
def tw8963726810531689398:=0
def tw2900399251384134245:=0
def tw10065888595972831312:=0
def tw8847919105224647982:=0
def tw11907331404243085947:=0
def tw3791039777262439876:=0
def tw10632520722950729619:=0
def tw7831969541964788392:=0
def tw7547775153852338917:=0
def tw4713295797440272591:=0
def tw7132423679391359792:=0
def tw14862882739520769999:=0
def tw4727026216404685439:=0
def tw5390574729334628154:=0
def tw12414630520758984267:=0
def tw7461824752429012234:=0
def tw8242694352002875990:=0
def tw1890836427798664322:=0
def tw1242523976010663192:=0
def tw11390178620261058290:=0
def tw11578351089748834411:=0
def tw15353899156134665450:=0
def tw3266284800164912753:=0
def tw8582535203286910286:=0
def tw982879846720119803:=0
def tw8459794543841933956:=0
def tw2286623524089408068:=0
def tw14564611153283768566:=0
def tw14043597335416780798:=0
def tw12648840225798759760:=0
def tw14138388518966312612:=0
def tw7485530639461229961:=0
def tw15081312601605752754:=0
def tw8316657616396931939:=0
def tw12838769607175765283:=0
def tw7622585108410101001:=0
def tw5531150281379220362:=0
def tw719918894652892797:=0
def tw2650345067739001626:=0
def tw3165705784995495548:=0
def tw8991481936432234761:=0
def tw14794252811670795185:=0
def tw8093293204414720588:=0
def tw785345269767137173:=0
def tw621480792163221649:=0
def tw16922813980953720920:=0
def tw1457430348601151828:=0
def tw4846487342615228731:=0
def tw8971501363007411307:=0
def tw12108347920737762939:=0
def tw11842366965588613812:=0
def tw1753913138441191175:=0
def tw3021173224520053342:=0
def tw17018009040121706146:=0
def tw613362990066111801:=0
def tw9902666769292839427:=0
def tw10796273642218371793:=0
def tw3281496120693758467:=0
def tw7844933848051090088:=0
def tw18070809132879165674:=0
def tw10867060146965440884:=0
def tw16956386863981500975:=0
def tw17112041326397587185:=0
def tw679513736377852246:=0
def tw15552779126672316411:=0
def tw5150037967306871801:=0
def tw13791958466490807595:=0
def tw5246347051588404457:=0
def tw11336084689874472589:=0
def tw9585341253429848972:=0
def tw16271466277030034054:=0
def tw796202477810625276:=0
def tw9206621605140314961:=0
def tw4854718950048262769:=0
def tw10801803924856316657:=0
def tw463734342738292708:=0
def tw9888472986265339283:=0
def tw15169775385395584120:=0
def tw10047757459153623536:=0
def tw11618300349064576247:=0
def tw4566139532672772754:=0
def tw16242972463789229704:=0
def tw2774693554165358806:=0
def tw8487155614913349613:=0
def tw11734990857741148369:=0
def tw2836068815901555045:=0
def tw15842936559943132320:=0
def tw12876530083791147731:=0
def tw17471195177294098365:=0
def tw2875591155440815268:=0
def tw10467078305406580504:=0
def tw5924544368787574237:=0
def tw1079929631182071890:=0
def tw9862124287294033260:=0
def tw12580575303841913545:=0
def tw6552085081859733570:=0
def tw5846020520153539898:=0
def tw5800372013074208176:=0
def tw6464971661992638741:=0
def tw9887865672977114841:=0
def tw690811364288789205:=0
def tw161220019958974950:=0
def tw3836207319286800549:=0
def tw1495560770754438544:=0
def tw5993942347159220603:=0
def tw6514647965597029849:=0
def tw7361085656305379757:=0
def tw8841146825480855898:=0
def tw204179255902150466:=0
def tw238631683000322301:=0
def tw15245872936748911215:=0
def tw12080278677009299482:=0
def tw16893439742504803213:=0
def tw7176515013639666068:=0
def tw16599915282180329799:=0
def tw4873778904096304102:=0
def tw6196002684275889806:=0
def tw18231105884851047691:=0
def tw7571650728112143910:=0
def tw17645886903890857365:=0
def tw12573505021446279124:=0
def tw11889346717479110864:=0
def tw17238542118148029759:=0
def tw9974147807483975338:=0
def tw2238602065599641385:=0
def tw1524747566880793247:=0
def tw3026925090712233197:=0
def tw1906525389422530892:=0
def tw10485634699295723503:=0
def tw12424980735775068492:=0
def tw5851166586308412923:=0
def tw203551981245720613:=0
def tw10907823681616998936:=0
def tw17073490354927963905:=0
def tw1962357463189655311:=0
def tw12001839194933992290:=0
def tw17699503425936219775:=0
def tw15716728942017706425:=0
def tw7689941191802805164:=0
def tw17834384855018026858:=0
def tw16673471904023050049:=0
def tw3974846729353736443:=0
def tw4876097024593709990:=0
def tw9707896362976102589:=0
def tw7120752555765507632:=0
def tw101393264795254557:=0
def tw16417620964589276449:=0
def tw3450348535291901213:=0
def tw1415620759700375109:=0
def tw10075167270659059604:=0
def tw7069863738071123044:=0
def tw6479100027095665497:=0
def tw4594466780672241297:=0
def tw5881833641397047087:=0
def tw8449488483225945105:=0
def tw5772375032248882398:=0
def tw13725240855514696728:=0
def tw7763602627654356171:=0
def tw13152694555025579697:=0
def tw6430752584423194815:=0
def tw17354792147029938020:=0
def tw15315192003481884443:=0
def tw14753596155282127606:=0
def tw11284712669805864279:=0
def tw824341314400932106:=0
def tw789196182285137627:=0
def tw6462262145132586197:=0
def tw9255580898699636478:=0
def tw3569821343711733749:=0
def tw12104107225015851723:=0
def tw8976477312226705896:=0
def tw8085669385345607367:=0
def tw9684053453443184177:=0
def tw9849720456744139509:=0
def tw11845857022219231887:=0
def tw8295080264485900343:=0
def tw10236519770252399456:=0
def tw3342953461262927212:=0
def tw6257915248964845559:=0
def tw11540984321531243654:=0
def tw1526533390244348774:=0
def tw5211457634759180422:=0
def tw16408265997633286501:=0
def tw7983885913983152164:=0
def tw984679352696133149:=0
def tw17113071355390376664:=0
def tw11159466910814904573:=0
def tw6440097341591045461:=0
def tw7600955195660737627:=0
def tw10726855995798839890:=0
def tw1680973133628680293:=0
def tw402845667439778979:=0
def tw5075908561377108499:=0
def tw16703550831573322761:=0
def tw17717182228096713362:=0
def tw467197833156862429:=0
def tw957212068619569627:=0
def tw6524649069662344766:=0
def tw1475470286657019843:=0
def tw12155298088537540124:=0
def tw3422264356185935081:=0
def tw17701745796236839631:=0
def tw6152175118322906466:=0
def tw10813123607356943058:=0
def tw13277569945688913665:=0
def tw18280390844578615095:=0
def tw7015094000170489403:=0
def tw14310032129623893830:=0
def tw8518316157834717229:=0
def tw16840912047813433531:=0
def tw3685230094402153812:=0
def tw13034459505999370715:=0
def tw11780487634441536064:=0
def tw1975288165175976581:=0
def tw15085628918306123399:=0
def tw451680785144469443:=0
def tw15827190651400732402:=0
def tw9065118480310478040:=0
def tw10020165845724277134:=0
def tw17505128269388478571:=0
def tw13686597692365367629:=0
def tw13899115151196321470:=0
def tw7336247272946355064:=0
def tw9852843710815161572:=0
def tw7680633057388936502:=0
def tw1532932852103740508:=0
def tw17569792783260514348:=0
def tw17841895736741987662:=0
def tw16086542346816786169:=0
def tw1682842172400216827:=0
def tw12329104409470742672:=0
def tw4097154204629971690:=0
def tw3634322758088165717:=0
def tw10454452476482677108:=0
def tw2148059418815447544:=0
def tw13515232300653885740:=0
def tw12375205960254300025:=0
def tw8326149708021080525:=0
def tw8576864827112790761:=0
def tw14749713467394762155:=0
def tw12143651215676202353:=0
def tw14457870401349140282:=0
def tw17244388048729090474:=0
def tw693633190731970835:=0
def tw8158846063283640124:=0
def tw12052069581480590390:=0
def tw12673760355771383173:=0
def tw3367509508303210633:=0
def tw14804674157675868849:=0
def tw7252402767413584785:=0
def tw14641349616091399513:=0
def tw3870421015765595803:=0
def tw17162505356813753318:=0
def tw3918283028193059528:=0
def tw6215060551221876580:=0
def tw13003685066078383797:=0
def tw16623096303827499874:=0
def tw14944878551298114491:=0
def tw14798185120862911844:=0
def tw16369616243443377608:=0
def tw6890042726580215869:=0
def tw16917319671819594106:=0
def tw4232121161222312284:=0
def tw5400882153398841863:=0
def tw12101683297024319090:=0
def tw12810791179225991635:=0
def tw736706240498250445:=0
def tw5216870940906696319:=0
def tw15245754394017296483:=0
def tw8713465670750627698:=0
def tw3823933955298311446:=0
def tw285345920727505063:=0
def tw10504370152896370484:=0
def tw12719343183409306762:=0
def tw7272852086637568709:=0
def tw10200125951417791449:=0
def tw15015736269466517625:=0
def tw4979928191691973010:=0
def tw7335403429768324280:=0
def tw4462237921139824220:=0
def tw1681551005294985748:=0
def tw15977357941217723735:=0
def tw29154494184465831:=0
def tw1712484054991405358:=0
def tw2135881805942631440:=0
def tw71488773219250725:=0
def tw17898182354699310274:=0
def tw2601501968493469200:=0
def tw9198511247495039311:=0
def tw15272311621775670936:=0
def tw17569673761804876861:=0
def tw13886618013107328899:=0
def tw16098292917790515522:=0
def tw787767245813923750:=0
def tw12259009750737792520:=0
def tw8262434787927259881:=0
def tw12260508043381283169:=0
def tw5791292949347849131:=0
def tw888961394305646427:=0
def tw9700170410808212340:=0
def tw12697141914271705002:=0
def tw13255475324920055849:=0
def tw1737841782733546977:=0
def tw2519538506798100136:=0
def tw13042018298540931612:=0
def tw12226473846767233895:=0
def tw14116298721276172280:=0
def tw9762837930650430373:=0
def tw5047172368857142957:=0
def tw14489939369198173636:=0
def tw8435457735148778016:=0
def tw2197302939721883314:=0
def tw11330547193482021327:=0
def tw1613148159512875631:=0
def tw8958785995167551514:=0
def tw7214294051052635751:=0
def tw10139222735847147452:=0
def tw4596397658484663480:=0
def tw9426043618361976299:=0
end PySem.W.Fast
open PySem PySem.W PyProof.Rows
local macro_rules | `(tactic| walk_at "k") => `(tactic| first | k_is | kit_is | rfl | kernel_rfl)
set_option maxRecDepth 100000 in
set_option maxHeartbeats 0 in
theorem PySem.Challenge.cw_frameback_k10_code_texts_refused_holds : PySem.Challenge.rw_frameback_k10_code_texts_refused.Holds := by
 w_on;o_law;k_head;(case hw=>w_witness2)
 k_fill
 refine FB.walk (l:=PySem.Challenge.rw_frameback_k10_code_texts_refused) rfl rfl (fun w h Y=>PySem.W.kIn_of Y) ?F
 case F =>
   intro w mg fa h KX G hmg
   have T : ∃ (a : FB.aP) (fd : FuncData), FB.Txt w (L2.B9 KX) mg a ∧ L2.be (L2.B9 KX) "law" "law" FB.fX fa fd ∧ ∀ (s : Shared) (v : Value), BindsTo s fd ⟨[v], []⟩ [("_law_script", v)] := by
     dsimp only [L2.B9]
     refine' FB.ER KX G hmg ?ij ?iW ?bt ?cf ?gc ?gk ?gU ?j9 ?lR ?lT ?k_ ?fO ?cQ ?aS ?cq ?dR ?cz ?er ?kl ?iP ?gg ?iM ?ix ?iu ?cx ?kg ?iD ?iE ?iF ?j_ ?gi ?fu ?ko ?kh ?f_ ?kb ?nS ?mW ?nV ?nv ?iw ?nz ?eZ ?C6 ?EG ?zW ?x8 ?xZ ?BO ?D1 ?zc ?AF ?uT ?oy ?nO ?oq ?oB ?iR ?m9 ?ez ?B4 ?BW ?zq ?xI ?xF ?B3 ?D9 ?Ak ?yZ ?uX ?j7 ?jQ ?jF ?jB ?gw ?j0 ?c9 ?C5 ?Cr ?zi ?yu ?yW ?Eg ?Cf ?zd ?zy ?uR ?oG ?m5 ?nr ?n5 ?iy ?ni ?c8 ?Cj ?EH ?zP ?yL ?z7 ?DA ?Df ?zO ?AA ?uF ?nN ?nQ ?n6 ?nZ ?iI ?oH ?c7 ?Ca ?Cn ?AH ?yB ?x9 ?Dk ?B7 ?yV ?Ad ?uI ?nI ?nF ?n_ ?nj ?iK ?nM ?e_ ?Cz ?BZ ?AE ?zZ ?zh ?DC ?CL ?Ao ?zk ?va ?j6 ?jy ?jT ?jx ?gr ?j5 ?dI ?cD ?Cp ?B2 ?Aj ?yy ?yG ?Eo ?D2 ?y4 ?xG ?vE ?rO ?rB ?pS ?qC ?jv ?rA ?fC ?dN ?Cw ?C_ ?zv ?yM ?zY ?DV ?Cc ?Al ?yi ?uO ?m3 ?nR ?nB ?n3 ?iL ?nq ?fb ?e8 ?BV ?D_ ?zx ?Af ?yo ?Ez ?CM ?As ?zl ?uy ?rD ?rz ?qR ?qD ?jo ?pU ?fQ ?eY ?Dt ?Di ?zG ?zX ?zJ ?DS ?Ci ?Ah ?x6 ?ve ?qb ?rC ?qu ?qQ ?jV ?pV ?fB ?eX ?Cb ?CZ ?AN ?zg ?xR ?CK ?B5 ?yT ?zR ?vY ?oC ?ou ?m6 ?m8 ?iT ?oF ?fc ?fe ?dJ ?Ej ?Dc ?zN ?AG ?xX ?Em ?CI ?Am ?yH ?vz ?rZ ?rh ?p_ ?pR ?js ?qm ?fP ?fL ?eA ?CT ?Cd ?zm ?ye ?zH ?EA ?DJ ?Az ?Ay ?uA ?rM ?pL ?qP ?pH ?jN ?qU ?fE ?fH ?eu ?C0 ?Ck ?z8 ?yj ?x_ ?Dz ?EK ?zj ?yR ?vF ?pI ?qk ?p6 ?qI ?jG ?p8 ?fG ?fF ?el ?EL ?Eb ?x5 ?zo ?yr ?DG ?CY ?zL ?y8 ?uJ ?gC ?gF ?gG ?gE ?gz ?gL ?gA ?gK ?gM ?lS ?lr ?lL ?lN ?ll ?lE ?lH ?lz ?lQ ?jR ?jM ?jl ?jJ ?jj ?jO ?jH ?jt ?jm ?cB ?ba ?bF ?bD ?b_ ?fJ ?cT ?fK ?fg ?eo ?Ep ?Ap ?Aa ?yd ?DX ?zE ?xN ?yp ?Ed ?xT ?yx ?AO ?Dj ?yY ?y6 ?Ar ?DB ?yJ ?Av ?xM ?Cy ?yF ?zU ?y3 ?DR ?zu ?ze ?zr ?Dx ?y_ ?z9 ?yK ?DL ?zw ?xU ?yX ?CQ ?xW ?xO ?yU ?EI ?yf ?yN ?AJ ?Dd ?Ac ?An ?yl ?DP ?zF ?z_ ?Aq ?BQ ?y7 ?yk ?Ax ?Ek ?yS ?AK ?zf ?C8 ?AQ ?yD ?yz ?EO ?xJ ?zC ?xP ?Er ?Ag ?yI ?yc ?yE ?vg ?uM ?vB
     (case ij=>walk_at "k")
     (case iW=>walk_at "k")
     (case bt=>walk_at "k")
     (case cf=>walk_at "k")
     (case gc=>walk_at "k")
     (case gk=>walk_at "k")
     (case gU=>walk_at "k")
     (case j9=>walk_at "k")
     (case lR=>walk_at "k")
     (case lT=>walk_at "k")
     (case k_=>walk_at "k")
     (case fO=>walk_at "k")
     (case cQ=>walk_at "k")
     (case aS=>walk_at "k")
     (case cq=>walk_at "k")
     (case dR=>walk_at "k")
     (case cz=>walk_at "k")
     (case er=>walk_at "k")
     (case kl=>walk_at "k")
     (case iP=>walk_at "k")
     (case gg=>walk_at "k")
     (case iM=>walk_at "k")
     (case ix=>walk_at "k")
     (case iu=>walk_at "k")
     (case cx=>walk_at "k")
     (case kg=>walk_at "k")
     (case iD=>walk_at "k")
     (case iE=>walk_at "k")
     (case iF=>walk_at "k")
     (case j_=>walk_at "k")
     (case gi=>walk_at "k")
     (case fu=>walk_at "k")
     (case ko=>walk_at "k")
     (case kh=>walk_at "k")
     (case f_=>walk_at "k")
     (case kb=>walk_at "k")
     (case nS=>walk_at "k")
     (case mW=>walk_at "k")
     (case nV=>walk_at "k")
     (case nv=>walk_at "k")
     (case iw=>walk_at "k")
     (case nz=>walk_at "k")
     (case eZ=>walk_at "k")
     (case C6=>walk_at "k")
     (case EG=>walk_at "k")
     (case zW=>walk_at "k")
     (case x8=>walk_at "k")
     (case xZ=>walk_at "k")
     (case BO=>walk_at "k")
     (case D1=>walk_at "k")
     (case zc=>walk_at "k")
     (case AF=>walk_at "k")
     (case uT=>walk_at "k")
     (case oy=>walk_at "k")
     (case nO=>walk_at "k")
     (case oq=>walk_at "k")
     (case oB=>walk_at "k")
     (case iR=>walk_at "k")
     (case m9=>walk_at "k")
     (case ez=>walk_at "k")
     (case B4=>walk_at "k")
     (case BW=>walk_at "k")
     (case zq=>walk_at "k")
     (case xI=>walk_at "k")
     (case xF=>walk_at "k")
     (case B3=>walk_at "k")
     (case D9=>walk_at "k")
     (case Ak=>walk_at "k")
     (case yZ=>walk_at "k")
     (case uX=>walk_at "k")
     (case j7=>walk_at "k")
     (case jQ=>walk_at "k")
     (case jF=>walk_at "k")
     (case jB=>walk_at "k")
     (case gw=>walk_at "k")
     (case j0=>walk_at "k")
     (case c9=>walk_at "k")
     (case C5=>walk_at "k")
     (case Cr=>walk_at "k")
     (case zi=>walk_at "k")
     (case yu=>walk_at "k")
     (case yW=>walk_at "k")
     (case Eg=>walk_at "k")
     (case Cf=>walk_at "k")
     (case zd=>walk_at "k")
     (case zy=>walk_at "k")
     (case uR=>walk_at "k")
     (case oG=>walk_at "k")
     (case m5=>walk_at "k")
     (case nr=>walk_at "k")
     (case n5=>walk_at "k")
     (case iy=>walk_at "k")
     (case ni=>walk_at "k")
     (case c8=>walk_at "k")
     (case Cj=>walk_at "k")
     (case EH=>walk_at "k")
     (case zP=>walk_at "k")
     (case yL=>walk_at "k")
     (case z7=>walk_at "k")
     (case DA=>walk_at "k")
     (case Df=>walk_at "k")
     (case zO=>walk_at "k")
     (case AA=>walk_at "k")
     (case uF=>walk_at "k")
     (case nN=>walk_at "k")
     (case nQ=>walk_at "k")
     (case n6=>walk_at "k")
     (case nZ=>walk_at "k")
     (case iI=>walk_at "k")
     (case oH=>walk_at "k")
     (case c7=>walk_at "k")
     (case Ca=>walk_at "k")
     (case Cn=>walk_at "k")
     (case AH=>walk_at "k")
     (case yB=>walk_at "k")
     (case x9=>walk_at "k")
     (case Dk=>walk_at "k")
     (case B7=>walk_at "k")
     (case yV=>walk_at "k")
     (case Ad=>walk_at "k")
     (case uI=>walk_at "k")
     (case nI=>walk_at "k")
     (case nF=>walk_at "k")
     (case n_=>walk_at "k")
     (case nj=>walk_at "k")
     (case iK=>walk_at "k")
     (case nM=>walk_at "k")
     (case e_=>walk_at "k")
     (case Cz=>walk_at "k")
     (case BZ=>walk_at "k")
     (case AE=>walk_at "k")
     (case zZ=>walk_at "k")
     (case zh=>walk_at "k")
     (case DC=>walk_at "k")
     (case CL=>walk_at "k")
     (case Ao=>walk_at "k")
     (case zk=>walk_at "k")
     (case va=>walk_at "k")
     (case j6=>walk_at "k")
     (case jy=>walk_at "k")
     (case jT=>walk_at "k")
     (case jx=>walk_at "k")
     (case gr=>walk_at "k")
     (case j5=>walk_at "k")
     (case dI=>walk_at "k")
     (case cD=>walk_at "k")
     (case Cp=>walk_at "k")
     (case B2=>walk_at "k")
     (case Aj=>walk_at "k")
     (case yy=>walk_at "k")
     (case yG=>walk_at "k")
     (case Eo=>walk_at "k")
     (case D2=>walk_at "k")
     (case y4=>walk_at "k")
     (case xG=>walk_at "k")
     (case vE=>walk_at "k")
     (case rO=>walk_at "k")
     (case rB=>walk_at "k")
     (case pS=>walk_at "k")
     (case qC=>walk_at "k")
     (case jv=>walk_at "k")
     (case rA=>walk_at "k")
     (case fC=>walk_at "k")
     (case dN=>walk_at "k")
     (case Cw=>walk_at "k")
     (case C_=>walk_at "k")
     (case zv=>walk_at "k")
     (case yM=>walk_at "k")
     (case zY=>walk_at "k")
     (case DV=>walk_at "k")
     (case Cc=>walk_at "k")
     (case Al=>walk_at "k")
     (case yi=>walk_at "k")
     (case uO=>walk_at "k")
     (case m3=>walk_at "k")
     (case nR=>walk_at "k")
     (case nB=>walk_at "k")
     (case n3=>walk_at "k")
     (case iL=>walk_at "k")
     (case nq=>walk_at "k")
     (case fb=>walk_at "k")
     (case e8=>walk_at "k")
     (case BV=>walk_at "k")
     (case D_=>walk_at "k")
     (case zx=>walk_at "k")
     (case Af=>walk_at "k")
     (case yo=>walk_at "k")
     (case Ez=>walk_at "k")
     (case CM=>walk_at "k")
     (case As=>walk_at "k")
     (case zl=>walk_at "k")
     (case uy=>walk_at "k")
     (case rD=>walk_at "k")
     (case rz=>walk_at "k")
     (case qR=>walk_at "k")
     (case qD=>walk_at "k")
     (case jo=>walk_at "k")
     (case pU=>walk_at "k")
     (case fQ=>walk_at "k")
     (case eY=>walk_at "k")
     (case Dt=>walk_at "k")
     (case Di=>walk_at "k")
     (case zG=>walk_at "k")
     (case zX=>walk_at "k")
     (case zJ=>walk_at "k")
     (case DS=>walk_at "k")
     (case Ci=>walk_at "k")
     (case Ah=>walk_at "k")
     (case x6=>walk_at "k")
     (case ve=>walk_at "k")
     (case qb=>walk_at "k")
     (case rC=>walk_at "k")
     (case qu=>walk_at "k")
     (case qQ=>walk_at "k")
     (case jV=>walk_at "k")
     (case pV=>walk_at "k")
     (case fB=>walk_at "k")
     (case eX=>walk_at "k")
     (case Cb=>walk_at "k")
     (case CZ=>walk_at "k")
     (case AN=>walk_at "k")
     (case zg=>walk_at "k")
     (case xR=>walk_at "k")
     (case CK=>walk_at "k")
     (case B5=>walk_at "k")
     (case yT=>walk_at "k")
     (case zR=>walk_at "k")
     (case vY=>walk_at "k")
     (case oC=>walk_at "k")
     (case ou=>walk_at "k")
     (case m6=>walk_at "k")
     (case m8=>walk_at "k")
     (case iT=>walk_at "k")
     (case oF=>walk_at "k")
     (case fc=>walk_at "k")
     (case fe=>walk_at "k")
     (case dJ=>walk_at "k")
     (case Ej=>walk_at "k")
     (case Dc=>walk_at "k")
     (case zN=>walk_at "k")
     (case AG=>walk_at "k")
     (case xX=>walk_at "k")
     (case Em=>walk_at "k")
     (case CI=>walk_at "k")
     (case Am=>walk_at "k")
     (case yH=>walk_at "k")
     (case vz=>walk_at "k")
     (case rZ=>walk_at "k")
     (case rh=>walk_at "k")
     (case p_=>walk_at "k")
     (case pR=>walk_at "k")
     (case js=>walk_at "k")
     (case qm=>walk_at "k")
     (case fP=>walk_at "k")
     (case fL=>walk_at "k")
     (case eA=>walk_at "k")
     (case CT=>walk_at "k")
     (case Cd=>walk_at "k")
     (case zm=>walk_at "k")
     (case ye=>walk_at "k")
     (case zH=>walk_at "k")
     (case EA=>walk_at "k")
     (case DJ=>walk_at "k")
     (case Az=>walk_at "k")
     (case Ay=>walk_at "k")
     (case uA=>walk_at "k")
     (case rM=>walk_at "k")
     (case pL=>walk_at "k")
     (case qP=>walk_at "k")
     (case pH=>walk_at "k")
     (case jN=>walk_at "k")
     (case qU=>walk_at "k")
     (case fE=>walk_at "k")
     (case fH=>walk_at "k")
     (case eu=>walk_at "k")
     (case C0=>walk_at "k")
     (case Ck=>walk_at "k")
     (case z8=>walk_at "k")
     (case yj=>walk_at "k")
     (case x_=>walk_at "k")
     (case Dz=>walk_at "k")
     (case EK=>walk_at "k")
     (case zj=>walk_at "k")
     (case yR=>walk_at "k")
     (case vF=>walk_at "k")
     (case pI=>walk_at "k")
     (case qk=>walk_at "k")
     (case p6=>walk_at "k")
     (case qI=>walk_at "k")
     (case jG=>walk_at "k")
     (case p8=>walk_at "k")
     (case fG=>walk_at "k")
     (case fF=>walk_at "k")
     (case el=>walk_at "k")
     (case EL=>walk_at "k")
     (case Eb=>walk_at "k")
     (case x5=>walk_at "k")
     (case zo=>walk_at "k")
     (case yr=>walk_at "k")
     (case DG=>walk_at "k")
     (case CY=>walk_at "k")
     (case zL=>walk_at "k")
     (case y8=>walk_at "k")
     (case uJ=>walk_at "k")
     (case gC=>walk_at "k")
     (case gF=>walk_at "k")
     (case gG=>walk_at "k")
     (case gE=>walk_at "k")
     (case gz=>walk_at "k")
     (case gL=>walk_at "k")
     (case gA=>walk_at "k")
     (case gK=>walk_at "k")
     (case gM=>walk_at "k")
     (case lS=>walk_at "k")
     (case lr=>walk_at "k")
     (case lL=>walk_at "k")
     (case lN=>walk_at "k")
     (case ll=>walk_at "k")
     (case lE=>walk_at "k")
     (case lH=>walk_at "k")
     (case lz=>walk_at "k")
     (case lQ=>walk_at "k")
     (case jR=>walk_at "k")
     (case jM=>walk_at "k")
     (case jl=>walk_at "k")
     (case jJ=>walk_at "k")
     (case jj=>walk_at "k")
     (case jO=>walk_at "k")
     (case jH=>walk_at "k")
     (case jt=>walk_at "k")
     (case jm=>walk_at "k")
     (case cB=>walk_at "k")
     (case ba=>walk_at "k")
     (case bF=>walk_at "k")
     (case bD=>walk_at "k")
     (case b_=>walk_at "k")
     (case fJ=>walk_at "k")
     (case cT=>walk_at "k")
     (case fK=>walk_at "k")
     (case fg=>walk_at "k")
     (case eo=>walk_at "k")
     (case Ep=>walk_at "k")
     (case Ap=>walk_at "k")
     (case Aa=>walk_at "k")
     (case yd=>walk_at "k")
     (case DX=>walk_at "k")
     (case zE=>walk_at "k")
     (case xN=>walk_at "k")
     (case yp=>walk_at "k")
     (case Ed=>walk_at "k")
     (case xT=>walk_at "k")
     (case yx=>walk_at "k")
     (case AO=>walk_at "k")
     (case Dj=>walk_at "k")
     (case yY=>walk_at "k")
     (case y6=>walk_at "k")
     (case Ar=>walk_at "k")
     (case DB=>walk_at "k")
     (case yJ=>walk_at "k")
     (case Av=>walk_at "k")
     (case xM=>walk_at "k")
     (case Cy=>walk_at "k")
     (case yF=>walk_at "k")
     (case zU=>walk_at "k")
     (case y3=>walk_at "k")
     (case DR=>walk_at "k")
     (case zu=>walk_at "k")
     (case ze=>walk_at "k")
     (case zr=>walk_at "k")
     (case Dx=>walk_at "k")
     (case y_=>walk_at "k")
     (case z9=>walk_at "k")
     (case yK=>walk_at "k")
     (case DL=>walk_at "k")
     (case zw=>walk_at "k")
     (case xU=>walk_at "k")
     (case yX=>walk_at "k")
     (case CQ=>walk_at "k")
     (case xW=>walk_at "k")
     (case xO=>walk_at "k")
     (case yU=>walk_at "k")
     (case EI=>walk_at "k")
     (case yf=>walk_at "k")
     (case yN=>walk_at "k")
     (case AJ=>walk_at "k")
     (case Dd=>walk_at "k")
     (case Ac=>walk_at "k")
     (case An=>walk_at "k")
     (case yl=>walk_at "k")
     (case DP=>walk_at "k")
     (case zF=>walk_at "k")
     (case z_=>walk_at "k")
     (case Aq=>walk_at "k")
     (case BQ=>walk_at "k")
     (case y7=>walk_at "k")
     (case yk=>walk_at "k")
     (case Ax=>walk_at "k")
     (case Ek=>walk_at "k")
     (case yS=>walk_at "k")
     (case AK=>walk_at "k")
     (case zf=>walk_at "k")
     (case C8=>walk_at "k")
     (case AQ=>walk_at "k")
     (case yD=>walk_at "k")
     (case yz=>walk_at "k")
     (case EO=>walk_at "k")
     (case xJ=>walk_at "k")
     (case zC=>walk_at "k")
     (case xP=>walk_at "k")
     (case Er=>walk_at "k")
     (case Ag=>walk_at "k")
     (case yI=>walk_at "k")
     (case yc=>walk_at "k")
     (case yE=>walk_at "k")
     (case vg=>walk_at "k")
     (case uM=>walk_at "k")
     (case vB=>walk_at "k")
   obtain ⟨a,fd,T,FF,B⟩:=T
   exact ⟨fd,B,fun base _ _=>FB.law_fn T FF⟩
