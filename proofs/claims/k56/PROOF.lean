import PyProof.Rows.All
import Wide.All
import OpenK.AllK
import Wide.FinOn
import Lean
import PyProof.EqAt
import PyProof.EqKinds
import PyProof.TupleCall
import PySem.Challenge.RW_frameback_k56_more_steps
set_option Elab.async false
set_option linter.all false
set_option maxRecDepth 100000
namespace L2
open PySem PySem.Spec PyProof.Rows
abbrev Key := Sum Int Str
def keyIs : Key → Value → Bool
 | .inl k, v => Value.isInt k v
 | .inr x, v => Value.isStrOf x v
def keyH (w : World) : Key → Int
 | .inl k => hashInt k
 | .inr x => hashStr w x
theorem keyIs_shape : ∀ {k : Key} {v : Value}, keyIs k v = true → (∃ i t, k = Sum.inl i ∧ v = Value.int i t) ∨ (∃ x t, k = Sum.inr x ∧ v = Value.str x t)
 | .inl i, v, h => by
   obtain ⟨t, e⟩ := Value.isInt_shape (k := i) (v := v) h
   exact .inl ⟨i, t, rfl, e⟩
 | .inr x, v, h => by
   obtain ⟨t, e⟩ := Value.isStrOf_shape (x := x) (v := v) h
   exact .inr ⟨x, t, rfl, e⟩
theorem keyIs_int (i : Int) (t : Tok) : keyIs (.inl i) (.int i t) = true := by simp [keyIs, Value.isInt]
theorem keyIs_str (x : Str) (t : Tok) : keyIs (.inr x) (.str x t) = true := by simp [keyIs, Value.isStrOf]
theorem key_ll (a b : Int) : decide ((Sum.inl a : Key) = Sum.inl b) = (a == b) := by
 by_cases e : a = b
 · subst e; simp
 · have h : ¬ (Sum.inl a : Key) = Sum.inl b := fun q => e (Sum.inl.inj q)
   rw [decide_eq_false h]
   exact (beq_eq_false_iff_ne.mpr e).symm
theorem key_rr (a b : Str) : decide ((Sum.inr a : Key) = Sum.inr b) = decide (a = b) := by
 by_cases e : a = b
 · subst e; simp
 · have h : ¬ (Sum.inr a : Key) = Sum.inr b := fun q => e (Sum.inr.inj q)
   rw [decide_eq_false h, decide_eq_false e]
theorem key_lr (a : Int) (b : Str) : decide ((Sum.inl a : Key) = Sum.inr b) = false := decide_eq_false (fun q => nomatch q)
theorem key_rl (a : Str) (b : Int) : decide ((Sum.inr a : Key) = Sum.inl b) = false := decide_eq_false (fun q => nomatch q)
def mixKind (prog : Program) (w : World) : PySem.KeyKind prog w Key where
 is := keyIs
 hash := keyH w
 inj := fun v a b ha hb => by
   rcases keyIs_shape ha with ⟨i, t, rfl, rfl⟩ | ⟨x, t, rfl, rfl⟩
   · rcases keyIs_shape hb with ⟨j, u, rfl, e⟩ | ⟨y, u, rfl, e⟩
     · injection e with e1 _; rw [e1]
     · exact nomatch e
   · rcases keyIs_shape hb with ⟨j, u, rfl, e⟩ | ⟨y, u, rfl, e⟩
     · exact nomatch e
     · injection e with e1 _; rw [e1]
 byValue := fun k v h => by
   rcases keyIs_shape h with ⟨i, t, rfl, rfl⟩ | ⟨x, t, rfl, rfl⟩ <;> rfl
 pyHash := fun hv h => by
   rcases keyIs_shape hv with ⟨i, t, rfl, rfl⟩ | ⟨x, t, rfl, rfl⟩
   · exact wpAny_pyHash_int h
   · exact wpAny_pyHash_str h
 eqBool := fun hu hv h => by
   rcases keyIs_shape hu with ⟨i, t, rfl, rfl⟩ | ⟨x, t, rfl, rfl⟩
   · rcases keyIs_shape hv with ⟨j, u, rfl, rfl⟩ | ⟨y, u, rfl, rfl⟩
     · rw [key_ll] at h; exact wpAny_eqBool_int h
     · rw [key_lr] at h; exact SeqAt.EqAt.int_str i t y u _ _ _ _ h
   · rcases keyIs_shape hv with ⟨j, u, rfl, rfl⟩ | ⟨y, u, rfl, rfl⟩
     · rw [key_rl] at h; exact SeqAt.EqAt.str_int x t j u _ _ _ _ h
     · rw [key_rr] at h; exact wpAny_eqBool_str h
 «strs» := fun k x t v h => by
   rcases keyIs_shape h with ⟨i, u, rfl, e⟩ | ⟨y, u, rfl, e⟩
   · exact nomatch e
   · injection e with e1 _
     subst e1
     cases v <;> rfl
theorem mixKind_int (prog : Program) (w : World) (i : Int) (t : Tok) : (mixKind prog w).is (.inl i) (.int i t) = true := keyIs_int i t
theorem mixKind_str (prog : Program) (w : World) (x : Str) (t : Tok) : (mixKind prog w).is (.inr x) (.str x t) = true := keyIs_str x t
end L2
namespace L2
open PySem PySem.Spec PyProof.Rows
inductive V where
 | non | bl (b : Bool) | int (i : Int) | str (x : Str) | byt (b : Array UInt8) | flt (b : UInt64) | ref (a : Addr) | ty (n : String)
 deriving DecidableEq
def RelV : V → Value → Prop
 | .non, u => u = Value.none
 | .bl b, u => u = Value.bool b
 | .int i, u => ∃ t, u = Value.int i t
 | .str x, u => ∃ t, u = Value.str x t
 | .byt b, u => ∃ t, u = Value.bytes b t
 | .flt b, u => ∃ t, u = Value.float b t
 | .ref a, u => u = Value.ref a
 | .ty n, u => u = Value.type n
abbrev Vals : List V → List Value → Prop := Paired RelV
theorem Vals.length {xs : List V} {us : List Value} (r : Vals xs us) : xs.length = us.length := Paired.length r
theorem Vals.get : ∀ {xs : List V} {us : List Value} {i : Nat} {x : V}, Vals xs us → xs[i]? = some x → ∃ u, us[i]? = some u ∧ RelV x u
 | _, _, _, _, .nil, e => by simp at e
 | _, _, 0, _, .cons r _, e => by simp at e; subst e; exact ⟨_, rfl, r⟩
 | _, _, i + 1, x, .cons _ t, e => by
   obtain ⟨u, h1, h2⟩ := Vals.get (i := i) (x := x) t (by simpa using e)
   exact ⟨u, by simpa using h1, h2⟩
theorem Vals.set {x : V} {u : Value} (r : RelV x u) : ∀ {xs : List V} {us : List Value} (i : Nat), Vals xs us → Vals (xs.set i x) (us.set i u)
 | _, _, _, .nil => .nil
 | _, _, 0, .cons _ t => .cons r t
 | _, _, i + 1, .cons q t => .cons q (Vals.set r i t)
theorem Vals.append : ∀ {xs ys : List V} {us ws : List Value}, Vals xs us → Vals ys ws → Vals (xs ++ ys) (us ++ ws)
 | _, _, _, _, .nil, s => s
 | _, _, _, _, .cons r t, s => .cons r (Vals.append t s)
theorem Vals.take : ∀ {xs : List V} {us : List Value} (n : Nat), Vals xs us → Vals (xs.take n) (us.take n)
 | _, _, 0, _ => .nil
 | _, _, _ + 1, .nil => .nil
 | _, _, n + 1, .cons r t => .cons r (Vals.take n t)
theorem Vals.drop : ∀ {xs : List V} {us : List Value} (n : Nat), Vals xs us → Vals (xs.drop n) (us.drop n)
 | _, _, 0, r => r
 | _, _, _ + 1, .nil => .nil
 | _, _, n + 1, .cons _ t => Vals.drop n t
def RelO : Option V → Option Value → Prop
 | some v, some u => RelV v u
 | none, none => True
 | _, _ => False
def KV {κ : Type} : List (κ × V) → List (κ × Value) → Prop := Paired fun (p : κ × V) (q : κ × Value) => p.1 = q.1 ∧ RelV p.2 q.2
def kV : Key → V
 | .inl i => .int i
 | .inr x => .str x
inductive HO where
 | lst (xs : List V)
 | tup (xs : List V)
 | dK (kvs : List (Key × V)) | dT (kvs : List (List Key × V))
 | set (S : Int → Bool) (n : Nat)
 | ins (C dx : Addr) (fs : List (Str × V))
 | own (x : Addr)
 | xd (fs : List (Str × V))
 | met (f x : Addr)
 | rng (lo hi : Int)
 | frz (o : Obj) (u : HO)
 | tbl (ps : Array Value)
 | ext (φ : Heap → Prop)
abbrev Hp := Addr → Option HO
def upd (H : Hp) (a : Addr) (o : HO) : Hp := fun b => if b = a then some o else H b
theorem upd_same {H : Hp} {a : Addr} {o : HO} : upd H a o a = some o := by unfold upd; rw [if_pos rfl]
theorem upd_ne {H : Hp} {a b : Addr} {o : HO} (h : b ≠ a) : upd H a o b = H b := by unfold upd; rw [if_neg h]
theorem ne_of_none {H : Hp} {a b : Addr} {o : HO} (h : H a = some o) (h' : H b = none) : a ≠ b := by
 intro e; subst e; rw [h] at h'; cases h'
section
variable (P : Program) (w : World)
def ObjOk (H : Hp) (h : Heap) (a : Addr) : HO → Prop
 | .lst xs => xs.length ≤ sizeLine ∧ ∃ (its : List Value) (n : Nat), Vals xs its ∧ h.get? a = some { cls := .type "list", data := .seq its.toArray n }
 | .tup xs => xs.length ≤ sizeLine ∧ ∃ its : List Value, Vals xs its ∧ IsTup h a its.toArray
 | .dK kvs => kvs.length ≤ sizeLine ∧ (a == sysModules) = false ∧ ∃ vs, KV kvs vs ∧ h.DictOf (mixKind P w) a vs
 | .dT kvs => kvs.length ≤ sizeLine ∧ (a == sysModules) = false ∧ ∃ xs : List (List Key × Addr × Value),
     Paired (fun (p : List Key × V) (q : List Key × Addr × Value) => p.1 = q.1 ∧ H q.2.1 = some (.tup (p.1.map kV)) ∧ RelV p.2 q.2.2) kvs xs ∧
     ∃ o es ep, h.get? a = some o ∧ o.ExactDict ∧ o.data = .dict es ep ∧ es.toList = xs.map (entryOfKey (tupleKind (mixKind P w))) ∧ (xs.map (·.1)).Nodup
 | .set S n => h.SetOf (intKind P w) a S n
 | .ins C dx fs => H dx = some (.own a) ∧ fs.length ≤ 1000 ∧ dx ≠ a ∧ h.get? a = some (PySem.W.instObj C dx) ∧
     ∃ mA, h.Ns1 dx mA ∧ (∀ f, RelO (fs.lookup f) (mA f)) ∧ PySem.Within mA (fs.map (·.1))
 | .own _ => ∃ o, h.get? a = some o
 | .xd fs => ∃ mA, h.Ns1 a mA ∧ ∀ f, RelO (fs.lookup f) (mA f)
 | .rng lo hi => ∃ t u v, h.get? a = some { cls := .type "range", data := .fields #[.int lo t, .int hi u, .int 1 v] }
 | .frz o u => h.get? a = some o ∧ ObjOk H h a u
 | .tbl ps => h.get? a = some { cls := .none, data := .fields ps }
 | .met f x => h.get? a = some (PySem.W.methodObj (.ref f) (.ref x))
 | .ext φ => φ h ∧ (∃ o, h.get? a = some o) ∧ ∀ h1 h2 : Heap, φ h1 → (∀ o, h1.get? a = some o → h2.get? a = some o) → φ h2
def HOk (H : Hp) (h : Heap) : Prop := ∀ a o, H a = some o → ObjOk P w H h a o
end
section
variable {P : Program} {w : World} {H H' : Hp} {h h' : Heap} {a : Addr} {o : HO}
theorem ObjOk.lt (x : ObjOk P w H h a o) : a < h.objs.size := by
 cases o with
 | lst xs => obtain ⟨_, _, _, _, e⟩ := x; exact Heap.lt_size e
 | tup xs => obtain ⟨_, _, _, p⟩ := x; exact p.lt
 | dK kvs => obtain ⟨_, _, _, _, o, _, _, e, _⟩ := x; exact Heap.lt_size e
 | dT kvs => obtain ⟨_, _, _, _, o, _, _, e, _⟩ := x; exact Heap.lt_size e
 | set S n => obtain ⟨o, _, _, _, e, _⟩ := x; exact Heap.lt_size e
 | ins C dx fs => obtain ⟨_, _, _, e, _⟩ := x; exact Heap.lt_size e
 | own y => obtain ⟨_, e⟩ := x; exact Heap.lt_size e
 | xd fs => obtain ⟨_, ⟨_, _, _, e, _⟩, _⟩ := x; exact Heap.lt_size e
 | rng lo hi => obtain ⟨_, _, _, e⟩ := x; exact Heap.lt_size e
 | frz ob u => obtain ⟨e, _⟩ := x; exact Heap.lt_size e
 | tbl ps => exact Heap.lt_size (show h.get? a = some _ from x)
 | met f y => exact Heap.lt_size (show h.get? a = some _ from x)
 | ext φ => obtain ⟨_, ⟨_, e⟩, _⟩ := x; exact Heap.lt_size e
theorem Paired.mapP {α β : Type} {F G : α → β → Prop} : ∀ {l₁ : List α} {l₂ : List β}, Paired F l₁ l₂ → (∀ a b, F a b → G a b) → Paired G l₁ l₂
 | _, _, .nil, _ => .nil
 | _, _, .cons r t, f => .cons (f _ _ r) (Paired.mapP t f)
theorem ObjOk.stay (x : ObjOk P w H h a o) (k : ∀ b u, (b = a ∨ H b = some (.own a)) → h.get? b = some u → h'.get? b = some u)
   (ho : ∀ b, H b = some (.own a) → H' b = some (.own a)) (ht : ∀ b xs, H b = some (.tup xs) → H' b = some (.tup xs)) : ObjOk P w H' h' a o := by
 induction o with
 | lst xs => obtain ⟨z, its, n, r, e⟩ := x; exact ⟨z, its, n, r, k _ _ (.inl rfl) e⟩
 | tup xs => obtain ⟨z, its, r, ob, e, c⟩ := x; exact ⟨z, its, r, ob, k _ _ (.inl rfl) e, c⟩
 | dK kvs => obtain ⟨z, y, vs, r, ob, es, ep, e, c⟩ := x; exact ⟨z, y, vs, r, ob, es, ep, k _ _ (.inl rfl) e, c⟩
 | dT kvs =>
   obtain ⟨z, y, xs, r, ob, es, ep, e, c⟩ := x
   exact ⟨z, y, xs, Paired.mapP r fun p q z => ⟨z.1, ht _ _ z.2.1, z.2.2⟩, ob, es, ep, k _ _ (.inl rfl) e, c⟩
 | set S n => obtain ⟨ob, es, ep, t, e, c⟩ := x; exact ⟨ob, es, ep, t, k _ _ (.inl rfl) e, c⟩
 | ins C dx fs =>
   obtain ⟨d, z, ne, e, mA, ⟨od, es, ep, e2, c⟩, r⟩ := x
   exact ⟨ho _ d, z, ne, k _ _ (.inl rfl) e, mA, ⟨od, es, ep, k _ _ (.inr d) e2, c⟩, r⟩
 | own y => obtain ⟨ob, e⟩ := x; exact ⟨ob, k _ _ (.inl rfl) e⟩
 | xd fs => obtain ⟨mA, ⟨od, es, ep, e, c⟩, r⟩ := x; exact ⟨mA, ⟨od, es, ep, k _ _ (.inl rfl) e, c⟩, r⟩
 | rng lo hi => obtain ⟨t, u, v, e⟩ := x; exact ⟨t, u, v, k _ _ (.inl rfl) e⟩
 | frz ob u ih => obtain ⟨e, q⟩ := x; exact ⟨k _ _ (.inl rfl) e, ih q⟩
 | tbl ps =>
   have e : h.get? a = some { cls := .none, data := .fields ps } := x
   show h'.get? a = some { cls := .none, data := .fields ps }
   exact k a _ (.inl rfl) e
 | met f y =>
   have e : h.get? a = some (PySem.W.methodObj (.ref f) (.ref y)) := x
   show h'.get? a = some (PySem.W.methodObj (.ref f) (.ref y))
   exact k a _ (.inl rfl) e
 | ext φ => obtain ⟨p, ⟨o, e⟩, st⟩ := x; exact ⟨st _ _ p fun o q => k _ _ (.inl rfl) q, ⟨o, k _ _ (.inl rfl) e⟩, st⟩
theorem HOk.lt (x : HOk P w H h) (e : H a = some o) : a < h.objs.size := (x a o e).lt
theorem HOk.fresh (x : HOk P w H h) (e : h.objs.size ≤ a) : H a = none := by
 cases q : H a with
 | none => rfl
 | some u => exact absurd (Nat.lt_of_lt_of_le (x.lt q) e) (Nat.lt_irrefl _)
theorem HOk.kept (x : HOk P w H h) (k : ∀ b u, h.get? b = some u → h'.get? b = some u) : HOk P w H h' := fun a o e =>
 (x a o e).stay (fun b u _ q => k b u q) (fun _ q => q) fun _ _ q => q
theorem HOk.laid (x : HOk P w H h) (k : ∀ b u, h.get? b = some u → h'.get? b = some u) (hp : h.objs.size ≤ a) (new : ObjOk P w (upd H a o) h' a o) : HOk P w (upd H a o) h' := fun b u e => by
 have hn := x.fresh hp
 by_cases hb : b = a
 · subst hb; rw [upd_same] at e; cases e; exact new
 · rw [upd_ne hb] at e
   exact (x b u e).stay (fun c v _ q => k c v q) (fun c q => by rw [upd_ne (ne_of_none q hn)]; exact q) fun c xs q => by rw [upd_ne (ne_of_none q hn)]; exact q
end
def Rd (H : Hp) (a : Addr) (u : HO) : Prop := H a = some u ∨ ∃ o, H a = some (.frz o u)
theorem Rd.ok {P : Program} {w : World} {H : Hp} {h : Heap} {a : Addr} {u : HO} (r : Rd H a u) (x : HOk P w H h) : ObjOk P w H h a u := by
 rcases r with r | ⟨o, r⟩
 · exact x a u r
 · obtain ⟨_, q⟩ := x a _ r
   exact q
def Mut : Option HO → Prop
 | some (.lst _) => True
 | some (.dK _) => True
 | some (.dT _) => True
 | some (.set _ _) => True
 | some (.ins _ _ _) => True
 | some (.ext _) => True
 | _ => False
section
variable {P : Program} {w : World} {H : Hp} {h h' : Heap} {x e : Addr} {o' : HO}
theorem HOk.write (ok : HOk P w H h) (mu : Mut (H x)) (he : e = x ∨ H e = some (.own x)) (k : ∀ b u, b ≠ e → h.get? b = some u → h'.get? b = some u) (heo : ∃ u, h'.get? e = some u)
   (new : ObjOk P w (upd H x o') h' x o') : HOk P w (upd H x o') h' := fun b u q => by
 have nown : ∀ c y, H c = some (.own y) → c ≠ x := fun c y r z => by subst z; rw [r] at mu; exact mu
 have ntup : ∀ c xs, H c = some (.tup xs) → c ≠ x := fun c xs r z => by subst z; rw [r] at mu; exact mu
 by_cases hb : b = x
 · subst hb; rw [upd_same] at q; cases q; exact new
 · rw [upd_ne hb] at q
   by_cases hbe : b = e
   · have q' : H b = some (.own x) := by
       rcases he with z | z
       · exact absurd (hbe.trans z) hb
       · rw [hbe]; exact z
     rw [q] at q'; cases q'
     obtain ⟨v, hv⟩ := heo
     exact ⟨v, by rw [hbe]; exact hv⟩
   · refine (ok b u q).stay (fun c v hc r => k c v ?_ r) (fun c r => by rw [upd_ne (nown c b r)]; exact r) fun c xs r => by rw [upd_ne (ntup c xs r)]; exact r
     rcases hc with rfl | hc
     · exact hbe
     · rintro rfl
       rcases he with z | z
       · exact nown c b hc z
       · rw [hc] at z; cases z; exact hb rfl
end
structure Un (fs ex : List Addr) (H H' : Hp) (h h' : Heap) : Prop where
 keep : ∀ b o, h.get? b = some o → H b = none → b ∉ fs → b ∉ ex → h'.get? b = some o
 slot : ∀ b o, h.get? b = some o → H b = none → b ∈ fs → b ∉ ex → ∃ sl, h'.get? b = some { o with slots := sl }
 free : ∀ b o, h.get? b = some o → H b = none → b ∉ ex → H' b = none
 there : ∀ b o, h.get? b = some o → b ∉ ex → ∃ o', h'.get? b = some o'
 tups : ∀ b xs, H b = some (.tup xs) → H' b = some (.tup xs)
 frzs : ∀ b o u, H b = some (.frz o u) → H' b = some (.frz o u)
 tbls : ∀ b ps, H b = some (.tbl ps) → ∃ more, H' b = some (.tbl (ps ++ more))
section
variable {fs fs' ex ex' : List Addr} {H H1 H2 : Hp} {h h1 h2 h' : Heap} {a x e : Addr} {o : HO}
theorem Un.any (u : Un fs ex H H1 h h1) {b : Addr} {ob : Obj} (q : h.get? b = some ob) (n : H b = none) (hx : b ∉ ex) : ∃ sl, h1.get? b = some { ob with slots := sl } := by
 by_cases hb : b ∈ fs
 · exact u.slot b ob q n hb hx
 · exact ⟨ob.slots, u.keep b ob q n hb hx⟩
theorem Un.kept (k : ∀ b u, h.get? b = some u → h'.get? b = some u) : Un fs ex H H h h' :=
 ⟨fun b ob q _ _ _ => k b ob q, fun b ob q _ _ _ => ⟨ob.slots, k b ob q⟩, fun _ _ _ n _ => n, fun b ob q _ => ⟨ob, k b ob q⟩, fun _ _ q => q, fun _ _ _ q => q, fun _ ps q => ⟨#[], by rw [q]; simp⟩⟩
theorem Un.refl : Un fs ex H H h h := Un.kept fun _ _ q => q
theorem Un.laid (k : ∀ b u, h.get? b = some u → h'.get? b = some u) (hp : h.objs.size ≤ a) (hn : H a = none) : Un fs ex H (upd H a o) h h' where
 keep := fun b u q _ _ _ => k b u q
 slot := fun b u q _ _ _ => ⟨u.slots, k b u q⟩
 free := fun b u q n _ => by rw [upd_ne (Nat.ne_of_lt (Nat.lt_of_lt_of_le (Heap.lt_size q) hp))]; exact n
 there := fun b u q _ => ⟨u, k b u q⟩
 tups := fun b xs q => by rw [upd_ne (ne_of_none q hn)]; exact q
 frzs := fun b u xs q => by rw [upd_ne (ne_of_none q hn)]; exact q
 tbls := fun b ps q => ⟨#[], by rw [upd_ne (ne_of_none q hn), q]; simp⟩
theorem Un.write (mu : Mut (H x)) (he : e = x ∨ H e = some (.own x)) (k : ∀ b u, b ≠ e → h.get? b = some u → h'.get? b = some u) (heo : ∃ u, h'.get? e = some u) : Un fs ex H (upd H x o) h h' := by
 have hx : ∀ b, H b = none → b ≠ x := fun b n z => by subst z; rw [n] at mu; exact mu
 have hb : ∀ b, H b = none → b ≠ e := fun b n z => by
   subst z
   rcases he with r | r
   · exact hx b n r
   · rw [n] at r; cases r
 have hm : ∀ b u, H b = some u → ¬ Mut (some u) → b ≠ x := fun b u q nm z => by subst z; rw [q] at mu; exact nm mu
 refine ⟨fun b u q n _ _ => k b u (hb b n) q, fun b u q n _ _ => ⟨u.slots, k b u (hb b n) q⟩, fun b u q n _ => by rw [upd_ne (hx b n)]; exact n, fun b u q _ => ?_,
   fun b xs q => by rw [upd_ne (hm b _ q fun z => z)]; exact q, fun b u xs q => by rw [upd_ne (hm b _ q fun z => z)]; exact q, fun b ps q => ⟨#[], by rw [upd_ne (hm b _ q fun z => z), q]; simp⟩⟩
 by_cases hbe : b = e
 · subst hbe; exact heo
 · exact ⟨u, k b u hbe q⟩
end
def trk (h : Heap) (H : Hp) : List Addr := (List.range h.objs.size).filter fun a => (H a).isSome
def hidT (h : Heap) (H : Hp) : Heap := PySem.W.hideAll h (trk h H)
theorem hidT_size (h : Heap) (H : Hp) : (hidT h H).objs.size = h.objs.size := PySem.W.hideAll_size _ _
theorem hidT_get {h : Heap} {H : Hp} {b : Addr} {o : Obj} (e : h.get? b = some o) (n : H b = none) : (hidT h H).get? b = some o :=
 PySem.W.hideAll_get _ e fun hm => by
   have q : (H b).isSome = true := (List.mem_filter.mp hm).2
   rw [n] at q; simp at q
theorem of_hidT {h : Heap} {H : Hp} {b : Addr} {o : Obj} (e : (hidT h H).get? b = some o) : h.get? b = some o ∧ H b = none := by
 have e' : h.get? b = some o := PySem.W.of_hideAll (trk h H) e
 refine ⟨e', ?_⟩
 cases q : H b with
 | none => rfl
 | some x =>
   have hm : b ∈ trk h H := List.mem_filter.mpr ⟨List.mem_range.mpr (Heap.lt_size e'), by simp [q]⟩
   have z : (hidT h H).get? b = none := PySem.W.hideAll_none (trk h H) hm
   rw [z] at e; cases e
end L2
namespace L2
open PySem PySem.Spec PyProof.Rows
structure Mod (K : PySem.W.Frag) (mg : Str → Option Value) (base : Heap) : Prop where
 kin : K.In base
 glob : base.Ns mainGlobals mg
 blt : ∃ mb, base.Ns builtinsNs mb ∧ ∀ x : Str, x ≠ "__name__" → mb x = bootBuiltins x
 nolimit : base.NoLimit
structure Cx where
 prog : Program
 w : World
 K : PySem.W.Frag
 mg : Str → Option Value
 base : Heap
 A : Around
 N : List Str
 s₀ : Shared
 H₀ : Hp
 env : Env
 outer : List Env
 stack : List Env
 ex : List Addr
 fn : Str → Bool
 calm : Bool
 pn : List (Addr × Obj)
 xe : Value → Shared → Prop
def frs (l : List Env) : List Addr := l.filterMap (·.frame)
abbrev Cx.fs (X : Cx) : List Addr := frs X.outer
def Vis (sc : Scope) (x : Str) : Prop := sc.names.lookup x = some .local ∨ sc.names.lookup x = some .cell ∨ sc.names.lookup x = some .free
def Loc (sc : Scope) (x : Str) : Prop := sc.names.lookup x = some .local ∨ sc.names.lookup x = some .cell
def Look (env : Env) (h : Heap) (m : Str → Option Value) (x : Str) (u : Value) : Prop :=
 (env.kindOf x = some .local ∧ m x = some u) ∨ ((env.kindOf x = some .cell ∨ env.kindOf x = some .free) ∧ ∃ c, env.cells.lookup x = some c ∧ h.IsCell c (some u))
structure Cx.Ok (X : Cx) : Prop where
 mod : Mod X.K X.mg X.base
 kind : X.env.scope.kind = .function
 glob : X.env.globals = mainGlobals
 blt : X.env.builtins = builtinsNs
 above : X.s₀.heap.objs.size ≤ X.env.locals
 inj : ∀ x y c, X.env.cells.lookup x = some c → X.env.cells.lookup y = some c → x = y
 has : ∀ x, (X.env.kindOf x = some .cell ∨ X.env.kindOf x = some .free) → ∃ c, X.env.cells.lookup x = some c
 cab : ∀ x c, X.fn x = true → X.env.cells.lookup x = some c → X.s₀.heap.objs.size ≤ c
 hd : X.calm = true → X.A.handled = none
 frames : X.A.frames = some X.stack
 stk : X.stack = X.outer ∨ (X.stack = X.env :: X.outer ∧ X.env.frame = some X.env.locals)
 exf : ∀ b ∈ X.ex, b ≠ X.env.locals ∧ ∀ x c, X.env.cells.lookup x = some c → c ≠ b
 bs : ∀ b o, X.base.get? b = some o → X.s₀.heap.get? b = some o ∧ X.H₀ b = none
 bsz : X.base.objs.size ≤ X.s₀.heap.objs.size
 noex : ∀ b o, X.base.get? b = some o → b ∉ X.ex
 exfs : ∀ b ∈ X.ex, b ∉ X.fs
 funs : X.s₀.heap.FunFrames X.base X.outer
 frf : ∀ b ∈ X.fs, X.H₀ b = none
structure Inv (X : Cx) (pins : List (Addr × Obj)) (σ : List (Option V)) (H : Hp) (s : Shared) : Prop where
 ok : X.Ok
 os : s.os = X.s₀.os
 bare : AllBare s.gens
 base : Un X.fs X.ex X.H₀ H X.s₀.heap s.heap
 loc : ∃ m, s.heap.Ns X.env.locals m ∧ ∀ (i : Nat) (x : Str) (v : V), X.N[i]? = some x → σ[i]? = some (some v) → Vis X.env.scope x → ∃ u, RelV v u ∧ Look X.env s.heap m x u
 cell : ∀ x c, X.env.cells.lookup x = some c → ∃ v, s.heap.IsCell c v
 free : H X.env.locals = none
 freeC : ∀ x c, X.env.cells.lookup x = some c → H c = none
 pin : ∀ p ∈ X.pn ++ pins, s.heap.get? p.1 = some p.2 ∧ H p.1 = none ∧ p.1 ≠ X.env.locals ∧ p.1 ∉ X.fs ∧ ∀ v, p.2.data ≠ .cell v
 hok : HOk X.prog X.w H s.heap
 len : σ.length = X.N.length
section
variable {X : Cx} {pins : List (Addr × Obj)} {σ : List (Option V)} {H H' : Hp} {s : Shared} {h' : Heap}
theorem Cx.Ok.nofr (ok : X.Ok) {b : Addr} {o : Obj} (e : X.base.get? b = some o) : b ∉ X.fs := fun hb => by
 have := (ok.funs.mem hb).1
 rw [e] at this; cases this
theorem Inv.bs (I : Inv X pins σ H s) : ∀ b o, X.base.get? b = some o → s.heap.get? b = some o ∧ H b = none := fun b o e =>
 ⟨I.base.keep b o (I.ok.bs b o e).1 (I.ok.bs b o e).2 (I.ok.nofr e) (I.ok.noex b o e), I.base.free b o (I.ok.bs b o e).1 (I.ok.bs b o e).2 (I.ok.noex b o e)⟩
theorem Inv.bk (I : Inv X pins σ H s) : ∀ b o, X.base.get? b = some o → s.heap.get? b = some o := fun b o e => (I.bs b o e).1
theorem Inv.mod (I : Inv X pins σ H s) : Mod X.K X.mg X.base := I.ok.mod
theorem Inv.kIn (I : Inv X pins σ H s) : X.K.In s.heap := I.ok.mod.kin.keeps I.bk
theorem Inv.lt (I : Inv X pins σ H s) : X.env.locals < s.heap.objs.size := let ⟨_, hn, _⟩ := I.loc; hn.lt
theorem Inv.sz (I : Inv X pins σ H s) : X.s₀.heap.objs.size ≤ s.heap.objs.size := Nat.le_trans I.ok.above (Nat.le_of_lt I.lt)
theorem Inv.nofs (I : Inv X pins σ H s) {a : Addr} (h : s.heap.objs.size ≤ a) : a ∉ X.fs := fun hb => by
 obtain ⟨_, o, ho, _⟩ := I.ok.funs.mem hb
 exact absurd (Nat.lt_of_lt_of_le (Heap.lt_size ho) (Nat.le_trans I.sz h)) (Nat.lt_irrefl _)
theorem Inv.cne (I : Inv X pins σ H s) : ∀ x c, X.env.cells.lookup x = some c → c ≠ X.env.locals := fun x c e z => by
 obtain ⟨v, o, ho, hd⟩ := I.cell x c e
 obtain ⟨m, ⟨o', es, ep, ho', hd', _⟩, _⟩ := I.loc
 rw [z, ho'] at ho; cases ho; rw [hd'] at hd; cases hd
theorem Inv.funs (I : Inv X pins σ H s) : s.heap.FunFrames X.base X.outer := by
 have all : ∀ (l : List Env), (∀ b ∈ frs l, b ∈ X.fs) → X.s₀.heap.FunFrames X.base l → s.heap.FunFrames X.base l := by
   intro l
   induction l with
   | nil => intro _ _; trivial
   | cons env r ih =>
     intro hs hl
     obtain ⟨hk, ⟨L, o, hf, hn, ho, hd⟩, hr⟩ := hl
     have hL : L ∈ X.fs := hs L (by unfold frs; rw [List.filterMap_cons, hf]; exact List.mem_cons_self)
     obtain ⟨sl, e⟩ := I.base.slot L o ho (I.ok.frf L hL) hL fun z => I.ok.exfs L z hL
     exact ⟨hk, ⟨L, _, hf, hn, e, hd⟩, ih (fun b hb => hs b (by unfold frs; rw [List.filterMap_cons, hf]; exact List.mem_cons_of_mem _ hb)) hr⟩
 exact all X.outer (fun _ hb => hb) I.ok.funs
theorem Inv.stack (I : Inv X pins σ H s) : s.heap.FunFrames X.base X.stack := by
 rcases I.ok.stk with e | ⟨e, hf⟩
 · rw [e]; exact I.funs
 · rw [e]
   obtain ⟨m, hn, _⟩ := I.loc
   refine .cons (by rw [I.ok.kind]; decide) hf hn ?_ I.funs
   exact Heap.get?_none_of_le (Nat.le_trans I.ok.bsz I.ok.above)
theorem Inv.stkSub (I : Inv X pins σ H s) : ∀ b ∈ frs X.stack, b ∈ X.env.locals :: X.fs := fun b hb => by
 rcases I.ok.stk with e | ⟨e, hf⟩
 · rw [e] at hb; exact List.mem_cons_of_mem _ hb
 · rw [e] at hb
   unfold frs at hb
   rw [List.filterMap_cons, hf] at hb
   exact hb
theorem Inv.stkFree (I : Inv X pins σ H s) : ∀ b ∈ frs X.stack, H b = none := fun b hb => by
 rcases List.mem_cons.mp (I.stkSub b hb) with e | hb
 · rw [e]; exact I.free
 · obtain ⟨_, o, ho, _⟩ := I.ok.funs.mem hb
   exact I.base.free b o ho (I.ok.frf b hb) fun z => I.ok.exfs b z hb
theorem Inv.step {g' : Array GenState} {t' : Nat} {d' : Drawn} {ch : List Addr} (I : Inv X pins σ H s)
   (hch : ∀ b ∈ ch, (b ∈ X.ex ∨ X.s₀.heap.objs.size ≤ b) ∧ b ≠ X.env.locals ∧ (∀ x c, X.env.cells.lookup x = some c → c ≠ b) ∧ ∀ p ∈ X.pn ++ pins, p.1 ≠ b)
   (keep : ∀ b o, b ≠ X.env.locals → b ∉ X.fs → b ∉ ch → s.heap.get? b = some o → H b = none → h'.get? b = some o)
   (slot : ∀ b o, b ≠ X.env.locals → b ∈ X.fs → b ∉ ch → s.heap.get? b = some o → H b = none → ∃ sl, h'.get? b = some { o with slots := sl }) (free : ∀ b o, b ∉ ch → s.heap.get? b = some o → H b = none → H' b = none)
   (there : ∀ b o, b ∉ ch → s.heap.get? b = some o → ∃ o', h'.get? b = some o')
   (tups : ∀ b xs, H b = some (.tup xs) → H' b = some (.tup xs)) (frzs : ∀ b o u, H b = some (.frz o u) → H' b = some (.frz o u)) (tbls : ∀ b ps, H b = some (.tbl ps) → ∃ more, H' b = some (.tbl (ps ++ more)))
   (ns : ∀ m, s.heap.Ns X.env.locals m → h'.Ns X.env.locals m) (hok : HOk X.prog X.w H' h') (hg : AllBare g') :
   Inv X pins σ H' { s with heap := h', gens := g', drawn := d', toks := t' } := by
 have neL : ∀ b o, X.s₀.heap.get? b = some o → b ≠ X.env.locals := fun b o e => Nat.ne_of_lt (Nat.lt_of_lt_of_le (Heap.lt_size e) I.ok.above)
 have neC : ∀ b o, X.s₀.heap.get? b = some o → b ∉ X.ex → b ∉ ch := fun b o e hx hb => by
   rcases (hch b hb).1 with z | z
   · exact hx z
   · exact absurd (Nat.lt_of_lt_of_le (Heap.lt_size e) z) (Nat.lt_irrefl _)
 have cellK : ∀ x c, X.env.cells.lookup x = some c → ∀ v, s.heap.IsCell c v → h'.IsCell c v := fun x c e v ⟨o, ho, hd⟩ => by
   have nch : c ∉ ch := fun z => (hch c z).2.2.1 x c e rfl
   by_cases hc : c ∈ X.fs
   · obtain ⟨sl, q⟩ := slot c o (I.cne x c e) hc nch ho (I.freeC x c e)
     exact ⟨_, q, hd⟩
   · exact ⟨o, keep c o (I.cne x c e) hc nch ho (I.freeC x c e), hd⟩
 refine ⟨I.ok, I.os, hg, ⟨fun b o e n hb hx => ?_, fun b o e n hb hx => ?_, fun b o e n hx => ?_, fun b o e hx => ?_, fun b xs e => tups b xs (I.base.tups b xs e), fun b o xs e => frzs b o xs (I.base.frzs b o xs e), fun b ps e => ?_⟩, ?_, fun x c e => ?_, ?_, fun x c e => ?_, fun p hp => ?_, hok, I.len⟩
 · exact keep b o (neL b o e) hb (neC b o e hx) (I.base.keep b o e n hb hx) (I.base.free b o e n hx)
 · obtain ⟨sl, e1⟩ := I.base.slot b o e n hb hx
   obtain ⟨sl', e2⟩ := slot b _ (neL b o e) hb (neC b o e hx) e1 (I.base.free b o e n hx)
   exact ⟨sl', e2⟩
 · obtain ⟨o', e1⟩ := I.base.there b o e hx
   exact free b o' (neC b o e hx) e1 (I.base.free b o e n hx)
 · obtain ⟨o', e1⟩ := I.base.there b o e hx
   exact there b o' (neC b o e hx) e1
 · obtain ⟨m1, e1⟩ := I.base.tbls b ps e
   obtain ⟨m2, e2⟩ := tbls b _ e1
   exact ⟨m1 ++ m2, by rw [e2, Array.append_assoc]⟩
 · obtain ⟨m, hn, hl⟩ := I.loc
   refine ⟨m, ns m hn, fun i x v e1 e2 e3 => ?_⟩
   obtain ⟨u, r, l⟩ := hl i x v e1 e2 e3
   refine ⟨u, r, ?_⟩
   rcases l with l | ⟨k, c, e, z⟩
   · exact .inl l
   · exact .inr ⟨k, c, e, cellK x c e _ z⟩
 · obtain ⟨v, z⟩ := I.cell x c e
   exact ⟨v, cellK x c e v z⟩
 · obtain ⟨m, ⟨o, _, _, ho, _⟩, _⟩ := I.loc
   exact free _ o (fun z => (hch _ z).2.1 rfl) ho I.free
 · obtain ⟨v, o, ho, hd⟩ := I.cell x c e
   exact free c o (fun z => (hch c z).2.2.1 x c e rfl) ho (I.freeC x c e)
 · obtain ⟨e, n, ne, nf, d⟩ := I.pin p hp
   have nch : p.1 ∉ ch := fun z => (hch p.1 z).2.2.2 p hp rfl
   exact ⟨keep p.1 p.2 ne nf nch e n, free p.1 p.2 nch e n, ne, nf, d⟩
theorem Inv.un {t' : Nat} (I : Inv X pins σ H s) (u : Un X.fs [] H H' s.heap h') (hok : HOk X.prog X.w H' h') : Inv X pins σ H' { s with heap := h', toks := t' } := by
 obtain ⟨m, ⟨o, es, ep, ho, r⟩, _⟩ := id I.loc
 obtain ⟨sl, hL⟩ := u.any ho I.free (by simp)
 exact I.step (g' := s.gens) (d' := s.drawn) (ch := []) (fun _ z => nomatch z) (fun b o _ hb _ e n => u.keep b o e n hb (by simp)) (fun b o _ hb _ e n => u.slot b o e n hb (by simp)) (fun b o _ e n => u.free b o e n (by simp)) (fun b o _ e => u.there b o e (by simp)) u.tups u.frzs u.tbls (fun m' hm => by
   obtain ⟨o', es', ep', ho', r'⟩ := hm
   rw [ho] at ho'; cases ho'
   exact ⟨_, es', ep', hL, r'⟩) hok I.bare
theorem Inv.call {g' : Array GenState} {t' : Nat} {d' : Drawn} {ch : List Addr} (I : Inv X pins σ H s) (u : Un (frs X.stack) ch H H' s.heap h') (hok : HOk X.prog X.w H' h') (hg : AllBare g')
   (hch : ∀ b ∈ ch, (b ∈ X.ex ∨ X.s₀.heap.objs.size ≤ b) ∧ b ≠ X.env.locals ∧ (∀ x c, X.env.cells.lookup x = some c → c ≠ b) ∧ ∀ p ∈ X.pn ++ pins, p.1 ≠ b) :
   Inv X pins σ H' { s with heap := h', gens := g', drawn := d', toks := t' } := by
 obtain ⟨m, ⟨o, es, ep, ho, r⟩, _⟩ := id I.loc
 obtain ⟨sl, hL⟩ := u.any ho I.free fun z => (hch _ z).2.1 rfl
 exact I.step (ch := ch) hch (fun b o hL hb hc e n => u.keep b o e n (fun z => (List.mem_cons.mp (I.stkSub b z)).elim hL hb) hc) (fun b o _ _ hc e n => u.any e n hc) (fun b o hc e n => u.free b o e n hc) (fun b o hc e => u.there b o e hc) u.tups u.frzs u.tbls (fun m' hm => by
   obtain ⟨o', es', ep', ho', r'⟩ := hm
   rw [ho] at ho'; cases ho'
   exact ⟨_, es', ep', hL, r'⟩) hok hg
theorem Inv.turned {t' : Nat} {it : Addr} (I : Inv X pins σ H s) (k : ∀ b o, b ≠ it → s.heap.get? b = some o → h'.get? b = some o) (hn : H it = none) (hL : it ≠ X.env.locals)
   (h1 : it ∈ X.ex ∨ X.s₀.heap.objs.size ≤ it) (h2 : ∀ x c, X.env.cells.lookup x = some c → c ≠ it) (h3 : ∀ p ∈ X.pn ++ pins, p.1 ≠ it) : Inv X pins σ H { s with heap := h', toks := t' } := by
 have nit : ∀ b u, H b = some u → b ≠ it := fun b u e z => by rw [z, hn] at e; cases e
 refine I.step (g' := s.gens) (d' := s.drawn) (ch := [it]) (fun b hb => ?_) (fun b o _ _ hc e _ => k b o (fun z => hc (by simp [z])) e) (fun b o _ _ hc e _ => ⟨o.slots, k b o (fun z => hc (by simp [z])) e⟩) (fun _ _ _ _ n => n)
   (fun b o hc e => ⟨o, k b o (fun z => hc (by simp [z])) e⟩) (fun _ _ e => e) (fun _ _ _ e => e) (fun b ps e => ⟨#[], by rw [e]; simp⟩) (fun m hm => ?_) (fun b u e => ?_) I.bare
 · have e : b = it := by simpa using hb
   subst e
   exact ⟨h1, hL, h2, h3⟩
 · obtain ⟨o, es, ep, ho, r⟩ := hm
   exact ⟨o, es, ep, k _ o (Ne.symm hL) ho, r⟩
 · refine (I.hok b u e).stay (fun c v hc q => k c v ?_ q) (fun _ q => q) fun _ _ q => q
   rcases hc with z | z
   · rw [z]; exact nit b u e
   · exact nit c _ z
theorem Inv.tok (I : Inv X pins σ H s) (t : Nat) : Inv X pins σ H { s with toks := t } := I.un (h' := s.heap) (t' := t) Un.refl I.hok
theorem Inv.kept {t' : Nat} (I : Inv X pins σ H s) (k : ∀ b u, s.heap.get? b = some u → h'.get? b = some u) : Inv X pins σ H { s with heap := h', toks := t' } := I.un (Un.kept k) (I.hok.kept k)
theorem Inv.laid {a : Addr} {o : HO} {t' : Nat} (I : Inv X pins σ H s) (k : ∀ b u, s.heap.get? b = some u → h'.get? b = some u) (hp : s.heap.objs.size ≤ a) (new : ObjOk X.prog X.w (upd H a o) h' a o) :
   Inv X pins σ (upd H a o) { s with heap := h', toks := t' } := I.un (Un.laid k hp (I.hok.fresh hp)) (I.hok.laid k hp new)
theorem Inv.write {x e : Addr} {o : HO} {t' : Nat} (I : Inv X pins σ H s) (mu : Mut (H x)) (he : e = x ∨ H e = some (.own x)) (k : ∀ b u, b ≠ e → s.heap.get? b = some u → h'.get? b = some u) (heo : ∃ u, h'.get? e = some u)
   (new : ObjOk X.prog X.w (upd H x o) h' x o) : Inv X pins σ (upd H x o) { s with heap := h', toks := t' } := I.un (Un.write mu he k heo) (I.hok.write mu he k heo new)
theorem Inv.pins_of {pins' : List (Addr × Obj)} (I : Inv X pins σ H s) (h : ∀ p ∈ pins', s.heap.get? p.1 = some p.2 ∧ H p.1 = none ∧ p.1 ≠ X.env.locals ∧ p.1 ∉ X.fs ∧ ∀ v, p.2.data ≠ .cell v) : Inv X pins' σ H s :=
 ⟨I.ok, I.os, I.bare, I.base, I.loc, I.cell, I.free, I.freeC, fun p hp => (List.mem_append.mp hp).elim (fun z => I.pin p (List.mem_append_left _ z)) (h p), I.hok, I.len⟩
theorem nodup_ix {N : List Str} (hN : N.Nodup) {i j : Nat} {x : Str} (a : N[i]? = some x) (b : N[j]? = some x) : i = j := by
 obtain ⟨h1, e1⟩ := List.getElem?_eq_some_iff.mp a
 obtain ⟨h2, e2⟩ := List.getElem?_eq_some_iff.mp b
 exact (List.getElem_inj hN).mp (e1.trans e2.symm)
theorem store_ok2 {M : Model} {A : Around} {E : Value → Shared → Prop} {i : Nat} {x : Str} {v : V} {u : Value} {Q : Unit → Shared → Prop} (I : Inv X pins σ H s) (hN : X.N.Nodup) (hi : X.N[i]? = some x) (hx : Loc X.env.scope x) (r : RelV v u)
   (h : ∀ s', Inv X pins (σ.set i (some v)) H s' → (∃ a, Heap.SameBut a s.heap s'.heap ∧ (a = X.env.locals ∨ X.env.cells.lookup x = some a)) → Q () s') (hf : X.fn x = true ∨ X.env.scope.names.lookup x = some .local := by first | exact .inl rfl | exact .inr rfl | assumption) : wpAny M A (storeName X.env x u) Q E s := by
 obtain ⟨m, hn, hl⟩ := id I.loc
 have hcls : (X.env.scope.kind == .class || (X.env.scope.kind == .module && X.env.locals != X.env.globals)) = false := by rw [I.ok.kind]; rfl
 have hiσ : i < σ.length := by rw [I.len]; exact (List.getElem?_eq_some_iff.mp hi).1
 have cne := I.cne
 have tracked : ∀ {a : Addr} {h' : Heap}, (∃ o, s.heap.get? a = some o ∧ H a = none) → Heap.SameBut a s.heap h' → HOk X.prog X.w H h' := fun {a h'} ha hs b ob e => by
   obtain ⟨_, _, hfree⟩ := ha
   refine (I.hok b ob e).stay (fun c w' hc q => (hs.2 c ?_).trans q) (fun _ q => q) fun _ _ q => q
   rintro rfl
   rcases hc with rfl | hc
   · rw [hfree] at e; cases e
   · rw [hfree] at hc; cases hc
 rcases hx with hk | hk
 · refine wpAny_storeName_local hk hn (fun h' hn' hs => ?_) hcls
   obtain ⟨oL, _, _, hoL, _⟩ := id hn
   refine h _ ⟨I.ok, I.os, I.bare, ⟨fun b o e n hb hx => ?_, fun b o e n hb hx => ?_, I.base.free, fun b o e hx => ?_, I.base.tups, I.base.frzs, I.base.tbls⟩, ⟨_, hn', fun j y v' e1 e2 e3 => ?_⟩, fun y c e => ?_, I.free, I.freeC, fun p hp => ?_, tracked ⟨oL, hoL, I.free⟩ hs, by simpa using I.len⟩ ⟨_, hs, .inl rfl⟩
   · exact (hs.2 b (Nat.ne_of_lt (Nat.lt_of_lt_of_le (Heap.lt_size e) I.ok.above))).trans (I.base.keep b o e n hb hx)
   · obtain ⟨sl, e1⟩ := I.base.slot b o e n hb hx
     exact ⟨sl, (hs.2 b (Nat.ne_of_lt (Nat.lt_of_lt_of_le (Heap.lt_size e) I.ok.above))).trans e1⟩
   · obtain ⟨o', e1⟩ := I.base.there b o e hx
     exact ⟨o', (hs.2 b (Nat.ne_of_lt (Nat.lt_of_lt_of_le (Heap.lt_size e) I.ok.above))).trans e1⟩
   · by_cases hj : j = i
     · subst hj
       rw [hi] at e1; cases e1
       rw [List.getElem?_set_self hiσ] at e2
       cases e2
       exact ⟨u, r, .inl ⟨hk, by simp⟩⟩
     · rw [List.getElem?_set_ne (Ne.symm hj)] at e2
       obtain ⟨u', r', q⟩ := hl j y v' e1 e2 e3
       refine ⟨u', r', ?_⟩
       rcases q with ⟨k, e⟩ | ⟨k, c, e, z⟩
       · refine .inl ⟨k, ?_⟩
         have : y ≠ x := fun e => hj (nodup_ix hN e1 (e ▸ hi))
         simp [this, e]
       · exact .inr ⟨k, c, e, z.sameBut hs (cne y c e)⟩
   · obtain ⟨w', z⟩ := I.cell y c e
     exact ⟨w', z.sameBut hs (cne y c e)⟩
   · obtain ⟨e, n, ne, nf, d⟩ := I.pin p hp
     exact ⟨(hs.2 p.1 ne).trans e, n, ne, nf, d⟩
 · have hfn : X.fn x = true := by
     rcases hf with z | z
     · exact z
     · rw [z] at hk; cases hk
   obtain ⟨c, hc⟩ := I.ok.has x (.inl hk)
   obtain ⟨w', z⟩ := I.cell x c hc
   refine wpAny_storeName_cell I.ok.kind hk hc z (fun h' hc' hs => ?_)
   obtain ⟨oc, hoc, hocd⟩ := id z
   refine h { s with heap := h' } ⟨I.ok, I.os, I.bare, ⟨fun b o e n hb hx => ?_, fun b o e n hb hx => ?_, I.base.free, fun b o e hx => ?_, I.base.tups, I.base.frzs, I.base.tbls⟩, ⟨m, hn.sameBut hs (Ne.symm (cne x c hc)), fun j y v' e1 e2 e3 => ?_⟩, fun y c' e => ?_, I.free, I.freeC, fun p hp => ?_, tracked ⟨oc, hoc, I.freeC x c hc⟩ hs, by simpa using I.len⟩ ⟨c, hs, .inr hc⟩
   · exact (hs.2 b (Nat.ne_of_lt (Nat.lt_of_lt_of_le (Heap.lt_size e) (I.ok.cab x c hfn hc)))).trans (I.base.keep b o e n hb hx)
   · obtain ⟨sl, e1⟩ := I.base.slot b o e n hb hx
     exact ⟨sl, (hs.2 b (Nat.ne_of_lt (Nat.lt_of_lt_of_le (Heap.lt_size e) (I.ok.cab x c hfn hc)))).trans e1⟩
   · obtain ⟨o', e1⟩ := I.base.there b o e hx
     exact ⟨o', (hs.2 b (Nat.ne_of_lt (Nat.lt_of_lt_of_le (Heap.lt_size e) (I.ok.cab x c hfn hc)))).trans e1⟩
   · by_cases hj : j = i
     · subst hj
       rw [hi] at e1; cases e1
       rw [List.getElem?_set_self hiσ] at e2
       cases e2
       exact ⟨u, r, .inr ⟨.inl hk, c, hc, hc'⟩⟩
     · rw [List.getElem?_set_ne (Ne.symm hj)] at e2
       obtain ⟨u', r', q⟩ := hl j y v' e1 e2 e3
       refine ⟨u', r', ?_⟩
       rcases q with q | ⟨k, c', e, z'⟩
       · exact .inl q
       · refine .inr ⟨k, c', e, z'.sameBut hs ?_⟩
         rintro rfl
         exact hj (nodup_ix hN e1 (I.ok.inj _ _ _ e hc ▸ hi))
   · by_cases hcc : c' = c
     · subst hcc; exact ⟨_, hc'⟩
     · obtain ⟨w2, z2⟩ := I.cell y c' e
       exact ⟨w2, z2.sameBut hs hcc⟩
   · obtain ⟨e, n, ne, nf, d⟩ := I.pin p hp
     refine ⟨(hs.2 p.1 ?_).trans e, n, ne, nf, d⟩
     intro q
     rw [q, hoc] at e
     have q' : oc = p.2 := Option.some.inj e
     exact d w' (by rw [← q']; exact hocd)
theorem store_ok {M : Model} {A : Around} {E : Value → Shared → Prop} {i : Nat} {x : Str} {v : V} {u : Value} {Q : Unit → Shared → Prop} (I : Inv X pins σ H s) (hN : X.N.Nodup) (hi : X.N[i]? = some x) (hx : Loc X.env.scope x) (r : RelV v u)
   (h : ∀ s', Inv X pins (σ.set i (some v)) H s' → Q () s') (hf : X.fn x = true ∨ X.env.scope.names.lookup x = some .local := by first | exact .inl rfl | exact .inr rfl | assumption) : wpAny M A (storeName X.env x u) Q E s :=
 store_ok2 I hN hi hx r (fun s' I' _ => h s' I') hf
theorem Inv.call' {s' : Shared} {ch : List Addr} (I : Inv X pins σ H s) (ho : s'.os = s.os) (u : Un (frs X.stack) ch H H' s.heap s'.heap) (hok : HOk X.prog X.w H' s'.heap) (hg : AllBare s'.gens)
   (hch : ∀ b ∈ ch, (b ∈ X.ex ∨ X.s₀.heap.objs.size ≤ b) ∧ b ≠ X.env.locals ∧ (∀ x c, X.env.cells.lookup x = some c → c ≠ b) ∧ ∀ p ∈ X.pn ++ pins, p.1 ≠ b) : Inv X pins σ H' s' := by
 obtain ⟨h', g', d', t', o'⟩ := s'
 have e : o' = s.os := ho
 subst e
 exact I.call (g' := g') (t' := t') (d' := d') u hok hg hch
end
abbrev XK := Value → Option Addr → Hp → Prop
abbrev St := List (Option V)
abbrev VK := V → Hp → Prop
abbrev TE := St → Hp → VK → Prop
abbrev TT := St → Hp → (Bool → Hp → Prop) → Prop
abbrev TA := St → Hp → (List V → Hp → Prop) → Prop
structure Ends where
 nx : St → Hp → Prop
 rt : VK
 bk : St → Hp → Prop := fun _ _ => False
 ct : St → Hp → Prop := fun _ _ => False
abbrev TS := Ends → St → Hp → Prop
def EP (X : Cx) (pins : List (Addr × Obj)) (σ : St) (Q : VK) (u : Value) (s' : Shared) : Prop := ∃ v H', Inv X pins σ H' s' ∧ RelV v u ∧ Q v H'
def TP (X : Cx) (pins : List (Addr × Obj)) (σ : St) (Q : Bool → Hp → Prop) (b : Bool) (s' : Shared) : Prop := ∃ H', Inv X pins σ H' s' ∧ Q b H'
def AP (X : Cx) (pins : List (Addr × Obj)) (σ : St) (Q : List V → Hp → Prop) (us : List Value) (s' : Shared) : Prop := ∃ vs H', Inv X pins σ H' s' ∧ Vals vs us ∧ Q vs H'
def SP (X : Cx) (pins : List (Addr × Obj)) (D : Ends) (f : Flow) (s' : Shared) : Prop :=
 match f with
 | .next => ∃ σ' H', Inv X pins σ' H' s' ∧ D.nx σ' H'
 | .brk => ∃ σ' H', Inv X pins σ' H' s' ∧ D.bk σ' H'
 | .cont => ∃ σ' H', Inv X pins σ' H' s' ∧ D.ct σ' H'
 | .ret u => ∃ v σ' H', Inv X pins σ' H' s' ∧ RelV v u ∧ D.rt v H'
def PE (X : Cx) (e : Expr) (t : TE) : Prop :=
 ∀ (pins : List (Addr × Obj)) (s : Shared) (σ : St) (H : Hp) (Q : VK), Inv X pins σ H s → t σ H Q → wpAny (model X.prog X.w) X.A (eval e X.env) (EP X pins σ Q) X.xe s
def PT (X : Cx) (e : Expr) (t : TT) : Prop :=
 ∀ (pins : List (Addr × Obj)) (s : Shared) (σ : St) (H : Hp) (Q : Bool → Hp → Prop), Inv X pins σ H s → t σ H Q → wpAny (model X.prog X.w) X.A (isTrue e X.env (eval e X.env)) (TP X pins σ Q) X.xe s
def PW (X : Cx) (e : Expr) (t : TT) : Prop :=
 ∀ (whole : Sem Value) (pins : List (Addr × Obj)) (s : Shared) (σ : St) (H : Hp) (Q : Bool → Hp → Prop), Inv X pins σ H s → t σ H Q → wpAny (model X.prog X.w) X.A (isTrue e X.env whole) (TP X pins σ Q) X.xe s
theorem PW.pt {X : Cx} {e : Expr} {t : TT} (h : PW X e t) : PT X e t := h _
def PA (X : Cx) (es : List Expr) (t : TA) : Prop :=
 ∀ (pos : Pos) (pins : List (Addr × Obj)) (s : Shared) (σ : St) (H : Hp) (Q : List V → Hp → Prop), Inv X pins σ H s → t σ H Q → wpAny (model X.prog X.w) X.A (spliced (backTo pos (starEach es X.env))) (AP X pins σ Q) X.xe s
def PS (X : Cx) (st : Stmt) (t : TS) : Prop :=
 ∀ (pins : List (Addr × Obj)) (s : Shared) (σ : St) (H : Hp) (D : Ends), Inv X pins σ H s → t D σ H → wpAny (model X.prog X.w) X.A (exec st X.env) (SP X pins D) X.xe s
def PSs (X : Cx) (st : List Stmt) (t : TS) : Prop :=
 ∀ (pins : List (Addr × Obj)) (s : Shared) (σ : St) (H : Hp) (D : Ends), Inv X pins σ H s → t D σ H → wpAny (model X.prog X.w) X.A (execs st X.env) (SP X pins D) X.xe s
theorem thn {α : Type} {t : Sem α} {Q Q' : α → Shared → Prop} {M : Model} {A : Around} {E : Value → Shared → Prop} {s : Shared} (h : wpAny M A t Q E s) (hQ : ∀ a s, Q a s → Q' a s) : wpAny M A t Q' E s := wpAny_mono h hQ fun _ _ x => x
end L2
namespace L2
open PySem PySem.Spec PyProof.Rows
section
variable {X : Cx}
def tVar (i : Nat) : TE := fun σ H Q => ∃ v, σ[i]? = some (some v) ∧ Q v H
def tC (v : V) : TE := fun _ H Q => Q v H
theorem pe_var {i : Nat} {x : Str} {pos : Pos} (hN : X.N[i]? = some x) (hv : Vis X.env.scope x) (hd : (x == ("__debug__" : Str)) = false := by decide) (hcd : (x == ("__classdict__" : Str)) = false := by decide) : PE X (.Name x pos) (tVar i) := by
 intro pins s σ H Q I h
 obtain ⟨v, e, h⟩ := h
 obtain ⟨m, hn, hl⟩ := I.loc
 obtain ⟨u, r, l⟩ := hl i x v hN e hv
 have fin : EP X pins σ Q u s := ⟨v, H, I, r, h⟩
 rcases l with ⟨hk, hm⟩ | ⟨hk, c, hc, hcell⟩
 · exact wpAny_Name (wpAny_loadName_local I.ok.kind hk hn hm fin) hd
 · rcases hk with hk | hk
   · exact wpAny_Name (wpAny_loadName_cell I.ok.kind hk hc hcell fin) hd
   · exact wpAny_Name (wpAny_loadName_free I.ok.kind hk hc hcell fin hcd) hd
theorem pe_int {i j pos} : PE X (.Constant (.int i) j pos) (tC (.int i)) := fun _ _ _ H _ I h => wpAny_Constant_int ⟨.int i, H, I.tok _, ⟨_, rfl⟩, h⟩
theorem pe_bl {b j pos} : PE X (.Constant (.bool b) j pos) (tC (.bl b)) := fun _ _ _ H _ I h => Constant_bool ⟨.bl b, H, I, rfl, h⟩
theorem pe_non {j pos} : PE X (.Constant .none j pos) (tC .non) := fun _ _ _ H _ I h => Constant_none ⟨.non, H, I, rfl, h⟩
theorem pe_str {x j pos} : PE X (.Constant (.str x) j pos) (tC (.str x)) := fun _ _ _ H _ I h => Calls.Constant_str ⟨.str x, H, I.tok _, ⟨_, rfl⟩, h⟩
def Gl (X : Cx) (x : Str) : Prop := X.env.kindOf x = some .globalImplicit
theorem ld_glob {E : Value → Shared → Prop} {pins : List (Addr × Obj)} {s : Shared} {σ : St} {H : Hp} {x : Str} {u : Value} {pos : Pos} {Q : Value → Shared → Prop} (I : Inv X pins σ H s) (hg : Gl X x) (hm : X.mg x = some u) (h : Q u s)
   (hd : (x == ("__debug__" : Str)) = false := by decide) : wpAny (model X.prog X.w) X.A (eval (.Name x pos) X.env) Q E s :=
 Calls.Name_function_global I.ok.kind hg (Calls.loadGlobal_global (by rw [I.ok.glob]; exact I.mod.glob.keeps I.bk) hm h) hd
theorem ld_blt {E : Value → Shared → Prop} {pins : List (Addr × Obj)} {s : Shared} {σ : St} {H : Hp} {x : Str} {u : Value} {pos : Pos} {Q : Value → Shared → Prop} (I : Inv X pins σ H s) (hg : Gl X x) (hm : X.mg x = none) (hv : bootBuiltins x = some u) (h : Q u s)
   (hn : x ≠ "__name__" := by decide) (hd : (x == ("__debug__" : Str)) = false := by decide) : wpAny (model X.prog X.w) X.A (eval (.Name x pos) X.env) Q E s := by
 obtain ⟨mb, h1, h2⟩ := I.mod.blt
 exact Calls.Name_function_global I.ok.kind hg (Calls.loadGlobal_builtin (by rw [I.ok.glob]; exact I.mod.glob.keeps I.bk) hm (by rw [I.ok.blt]; exact h1.keeps I.bk) ((h2 x hn).trans hv) h) hd
theorem pe_glob {x : Str} {v : V} {u : Value} {pos : Pos} (hg : Gl X x) (hm : X.mg x = some u) (r : RelV v u) (hd : (x == ("__debug__" : Str)) = false := by decide) : PE X (.Name x pos) (tC v) :=
 fun _ _ _ H _ I h => ld_glob I hg hm ⟨v, H, I, r, h⟩ hd
theorem pe_bltn {x : Str} {v : V} {u : Value} {pos : Pos} (hg : Gl X x) (hm : X.mg x = none) (hv : bootBuiltins x = some u) (r : RelV v u) (hn : x ≠ "__name__" := by decide) (hd : (x == ("__debug__" : Str)) = false := by decide) : PE X (.Name x pos) (tC v) :=
 fun _ _ _ H _ I h => ld_blt I hg hm hv ⟨v, H, I, r, h⟩ hn hd
variable {a b : Expr} {ta tb : TE} {pos : Pos}
variable {tA tB' : TT} {rest : List Expr}
def tAnd (t u : TT) : TT := fun σ H Q => t σ H fun c H1 => if c = true then u σ H1 Q else Q false H1
def tOr (t u : TT) : TT := fun σ H Q => t σ H fun c H1 => if c = true then Q true H1 else u σ H1 Q
def tNot (t : TT) : TT := fun σ H Q => t σ H fun c H1 => Q (!c) H1
theorem pw_and1 (ha : PT X a tA) : PW X (.BoolOp .And [a] pos) tA := by
 intro wh pins s σ H Q I h
 refine isTrue_and (thn (ha pins s σ H Q I h) fun c s1 e => ?_)
 cases c with
 | true => exact isTrue_and_nil e
 | false => exact e
theorem pw_or1 (ha : PT X a tA) : PW X (.BoolOp .Or [a] pos) tA := by
 intro wh pins s σ H Q I h
 refine isTrue_or (thn (ha pins s σ H Q I h) fun c s1 e => ?_)
 cases c with
 | false => exact isTrue_or_nil e
 | true => exact e
theorem pw_and (ha : PT X a tA) (hb : PW X (.BoolOp .And (b :: rest) pos) tB') : PW X (.BoolOp .And (a :: b :: rest) pos) (tAnd tA tB') := by
 intro wh pins s σ H Q I h
 refine isTrue_and (thn (ha pins s σ H _ I h) fun c s1 ⟨H1, I1, q1⟩ => ?_)
 cases c with
 | true => exact hb wh pins s1 σ H1 Q I1 q1
 | false => exact ⟨H1, I1, q1⟩
theorem pw_or (ha : PT X a tA) (hb : PW X (.BoolOp .Or (b :: rest) pos) tB') : PW X (.BoolOp .Or (a :: b :: rest) pos) (tOr tA tB') := by
 intro wh pins s σ H Q I h
 refine isTrue_or (thn (ha pins s σ H _ I h) fun c s1 ⟨H1, I1, q1⟩ => ?_)
 cases c with
 | true => exact ⟨H1, I1, q1⟩
 | false => exact hb wh pins s1 σ H1 Q I1 q1
theorem pt_not (ha : PT X a tA) : PT X (.UnaryOp .Not a pos) (tNot tA) := by
 intro pins s σ H Q I h
 exact isTrue_not (ha pins s σ H (fun c H1 => Q (!c) H1) I h)
def tAndV (ta tb : TE) : TE := fun σ H Q => ta σ H fun x H1 => ∃ c, x = .bl c ∧ if c = true then tb σ H1 Q else Q (.bl false) H1
def tNotV (ta : TE) : TE := fun σ H Q => ta σ H fun x H1 => ∃ c, x = .bl c ∧ Q (.bl (!c)) H1
theorem pe_one {op} {t : TE} (h : PE X a t) : PE X (.BoolOp op [a] pos) t := fun pins s σ H Q I hw => BoolOp_one (h pins s σ H Q I hw)
theorem pe_and (ha : PE X a ta) (hb : PE X (.BoolOp .And (b :: rest) pos) tb) : PE X (.BoolOp .And (a :: b :: rest) pos) (tAndV ta tb) := by
 intro pins s σ H Q I h
 refine BoolOp_and (thn (ha pins s σ H _ I h) fun v s1 ⟨x, H1, I1, r1, q1⟩ => ?_)
 obtain ⟨c, rfl, q1⟩ := q1
 cases r1
 refine wpAny_truthy_bool ?_
 cases c with
 | true => exact hb pins s1 σ H1 Q I1 q1
 | false => exact ⟨.bl false, H1, I1, rfl, q1⟩
theorem pe_not (ha : PE X a ta) : PE X (.UnaryOp .Not a pos) (tNotV ta) := by
 intro pins s σ H Q I h
 refine UnaryOp_ (thn (ha pins s σ H _ I h) fun v s1 ⟨x, H1, I1, r1, q1⟩ => ?_)
 obtain ⟨c, rfl, q1⟩ := q1
 cases r1
 exact not_of (wpAny_truthy_bool ⟨.bl (!c), H1, I1, rfl, q1⟩)
def tIf (t : TT) (ta tb : TE) : TE := fun σ H Q => t σ H fun c H1 => if c = true then ta σ H1 Q else tb σ H1 Q
theorem pe_ifExp {c : Expr} (hc : PT X c tA) (ha : PE X a ta) (hb : PE X b tb) : PE X (.IfExp c a b pos) (tIf tA ta tb) := by
 intro pins s σ H Q I h
 refine wpAny_IfExp (thn (hc pins s σ H _ I h) fun d s1 ⟨H1, I1, q1⟩ => ?_)
 cases d with
 | true => exact ha pins s1 σ H1 Q I1 q1
 | false => exact hb pins s1 σ H1 Q I1 q1
end
end L2
namespace L2
open PySem PySem.Spec PyProof.Rows
def SqL (K : PySem.W.Frag) (H : Hp) (a : Addr) (xs : List V) : Prop :=
 Rd H a (.lst xs) ∨
   ∃ (o : Obj) (its : Array Value) (n : Nat), K.lookup a = some o ∧ o.cls = .type "list" ∧ o.dict = none ∧ o.data = .seq its n ∧ its.size ≤ sizeLine ∧ Vals xs its.toList
def SqT (K : PySem.W.Frag) (H : Hp) (a : Addr) (xs : List V) : Prop :=
 Rd H a (.tup xs) ∨
   ∃ (o : Obj) (its : Array Value) (n : Nat), K.lookup a = some o ∧ o.cls = .type "tuple" ∧ o.data = .seq its n ∧ its.size ≤ sizeLine ∧ Vals xs its.toList
def absV : Value → Option V
 | .none => some .non
 | .bool b => some (.bl b)
 | .int i _ => some (.int i)
 | .str x _ => some (.str x)
 | .bytes b _ => some (.byt b)
 | .float b _ => some (.flt b)
 | .ref a => some (.ref a)
 | .type n => some (.ty n)
 | _ => none
theorem RelV.abs {x : V} {u : Value} (r : RelV x u) : absV u = some x := by
 cases x with
 | non => cases r; rfl
 | bl _ => cases r; rfl
 | int _ => obtain ⟨t, rfl⟩ := r; rfl
 | str _ => obtain ⟨t, rfl⟩ := r; rfl
 | byt _ => obtain ⟨t, rfl⟩ := r; rfl
 | flt _ => obtain ⟨t, rfl⟩ := r; rfl
 | ref _ => cases r; rfl
 | ty _ => cases r; rfl
theorem RelV.inj {x y : V} {u : Value} (r : RelV x u) (q : RelV y u) : x = y := Option.some.inj (r.abs.symm.trans q.abs)
theorem Vals.inj : ∀ {xs ys : List V} {us : List Value}, Vals xs us → Vals ys us → xs = ys
 | _, _, _, .nil, .nil => rfl
 | _, _, _, .cons r t, .cons r' t' => by rw [r.inj r', Vals.inj t t']
section
variable {X : Cx} {pins : List (Addr × Obj)} {σ : St} {H : Hp} {s : Shared} {a : Addr} {xs ys : List V}
theorem SqL.of {K : PySem.W.Frag} (h : H a = some (.lst xs)) : SqL K H a xs := .inl (.inl h)
theorem SqT.of {K : PySem.W.Frag} (h : H a = some (.tup xs)) : SqT K H a xs := .inl (.inl h)
theorem Inv.list (I : Inv X pins σ H s) (h : SqL X.K H a xs) : ∃ its : List Value, Vals xs its ∧ PlainL s.heap a its.toArray ∧ xs.length ≤ sizeLine := by
 rcases h with h | ⟨o, its, n, hk, hc, hd, hs, hz, r⟩
 · obtain ⟨z, its, n, r, e⟩ := h.ok I.hok
   exact ⟨its, r, ⟨_, n, e, rfl, rfl, rfl⟩, z⟩
 · refine ⟨its.toList, r, ⟨o, n, I.kIn a o hk, hc, hd, by simpa using hs⟩, ?_⟩
   have e := r.length
   simp only [Array.length_toList] at e
   omega
theorem Inv.tuple (I : Inv X pins σ H s) (h : SqT X.K H a xs) : ∃ its : List Value, Vals xs its ∧ IsTup s.heap a its.toArray ∧ xs.length ≤ sizeLine := by
 rcases h with h | ⟨o, its, n, hk, hc, hs, hz, r⟩
 · obtain ⟨z, its, r, p⟩ := h.ok I.hok
   exact ⟨its, r, p, z⟩
 · refine ⟨its.toList, r, ⟨o, I.kIn a o hk, hc, n, by simpa using hs⟩, ?_⟩
   have e := r.length
   simp only [Array.length_toList] at e
   omega
theorem Inv.list_inj (I : Inv X pins σ H s) (h : SqL X.K H a xs) (h' : SqL X.K H a ys) : xs = ys := by
 obtain ⟨its, r, ⟨o, n, e, _, _, d⟩, _⟩ := I.list h
 obtain ⟨its', r', ⟨o', n', e', _, _, d'⟩, _⟩ := I.list h'
 rw [e] at e'; cases e'
 rw [d] at d'
 injection d' with d1 _
 have : its = its' := by simpa using congrArg Array.toList d1
 subst this
 exact r.inj r'
theorem Inv.tuple_inj (I : Inv X pins σ H s) (h : SqT X.K H a xs) (h' : SqT X.K H a ys) : xs = ys := by
 obtain ⟨its, r, ⟨o, e, _, n, d⟩, _⟩ := I.tuple h
 obtain ⟨its', r', ⟨o', e', _, n', d'⟩, _⟩ := I.tuple h'
 rw [e] at e'; cases e'
 rw [d] at d'
 injection d' with d1 _
 have : its = its' := by simpa using congrArg Array.toList d1
 subst this
 exact r.inj r'
end
abbrev Cx.wish (X : Cx) (E : Value → Shared → Prop) : Cx := { X with xe := E }
abbrev Cx.nox (X : Cx) : Cx := X.wish fun _ _ => False
theorem Cx.Ok.wish {X : Cx} (ok : X.Ok) (E : Value → Shared → Prop) : (X.wish E).Ok :=
 ⟨ok.mod, ok.kind, ok.glob, ok.blt, ok.above, ok.inj, ok.has, ok.cab, ok.hd, ok.frames, ok.stk, ok.exf, ok.bs, ok.bsz, ok.noex, ok.exfs, ok.funs, ok.frf⟩
theorem Cx.Ok.unwish {X : Cx} {E : Value → Shared → Prop} (ok : (X.wish E).Ok) : X.Ok :=
 ⟨ok.mod, ok.kind, ok.glob, ok.blt, ok.above, ok.inj, ok.has, ok.cab, ok.hd, ok.frames, ok.stk, ok.exf, ok.bs, ok.bsz, ok.noex, ok.exfs, ok.funs, ok.frf⟩
section
variable {X : Cx} {pins : List (Addr × Obj)} {σ : St} {H : Hp} {s : Shared} {E : Value → Shared → Prop}
theorem Inv.wish (I : Inv X pins σ H s) (E : Value → Shared → Prop) : Inv (X.wish E) pins σ H s := ⟨I.ok.wish E, I.os, I.bare, I.base, I.loc, I.cell, I.free, I.freeC, I.pin, I.hok, I.len⟩
theorem Inv.unwish (I : Inv (X.wish E) pins σ H s) : Inv X pins σ H s := ⟨I.ok.unwish, I.os, I.bare, I.base, I.loc, I.cell, I.free, I.freeC, I.pin, I.hok, I.len⟩
theorem SP.unwish {D : Ends} {f : Flow} {s' : Shared} (h : SP (X.wish E) pins D f s') : SP X pins D f s' := by
 cases f with
 | next => obtain ⟨σ', H', I, q⟩ := h; exact ⟨σ', H', I.unwish, q⟩
 | brk => obtain ⟨σ', H', I, q⟩ := h; exact ⟨σ', H', I.unwish, q⟩
 | cont => obtain ⟨σ', H', I, q⟩ := h; exact ⟨σ', H', I.unwish, q⟩
 | ret u => obtain ⟨v, σ', H', I, r, q⟩ := h; exact ⟨v, σ', H', I.unwish, r, q⟩
theorem PSs.nox {st : List Stmt} {t : TS} (h : PSs X.nox st t) : PSs X st t := fun pins s σ H D I hw =>
 wpAny_mono (h pins s σ H D (I.wish _) hw) (fun _ _ q => q.unwish) fun _ _ z => False.elim z
end
section
variable {X : Cx} {st : Stmt} {rest : List Stmt} {t u : TS} {e : Expr} {te : TE} {pos : Pos}
def tNext : TS := fun D σ H => D.nx σ H
def tSeq (t u : TS) : TS := fun D σ H => t { D with nx := u D } σ H
theorem pss_nil : PSs X [] tNext := fun _ _ σ H _ I h => wpAny_execs_nil ⟨σ, H, I, h⟩
theorem pss_cons (h1 : PS X st t) (h2 : PSs X rest u) : PSs X (st :: rest) (tSeq t u) := by
 intro pins s σ H D I h
 refine wpAny_execs_cons (thn (h1 pins s σ H { D with nx := u D } I h) fun f s1 q => ?_)
 cases f with
 | next =>
   obtain ⟨σ', H', I', q⟩ := q
   exact h2 pins s1 σ' H' D I' q
 | ret v => exact q
 | brk => exact q
 | cont => exact q
theorem pss_one (h1 : PS X st t) : PSs X [st] t := by
 intro pins s σ H D I h
 refine wpAny_execs_cons (thn (h1 pins s σ H D I h) fun f s1 q => ?_)
 cases f with
 | next => exact wpAny_execs_nil q
 | ret v => exact q
 | brk => exact q
 | cont => exact q
theorem Inv.quiet {pins : List (Addr × Obj)} {σ : St} {H : Hp} {s : Shared} (I : Inv X pins σ H s) : interactive X.env = false := by simp [interactive, I.ok.kind]
def tDrop (te : TE) : TS := fun D σ H => te σ H fun _ H1 => D.nx σ H1
theorem ps_expr (he : PE X e te) (hs : swapsWith e none pos.line X.env = pure false := by rfl) : PS X (.Expr e pos) (tDrop te) := by
 intro pins s σ H D I h
 exact wpAny_Expr_any (thn (he pins s σ H _ I h) fun v s1 ⟨x, H1, I1, r1, q1⟩ => ⟨σ, H1, I1, q1⟩) I.quiet hs
def tRet (te : TE) : TS := fun D σ H => te σ H D.rt
theorem ps_ret (he : PE X e te) : PS X (.Return (some e) pos) (tRet te) := by
 intro pins s σ H D I h
 exact wpAny_Return_some (thn (he pins s σ H _ I h) fun v s1 ⟨x, H1, I1, r1, q1⟩ => ⟨x, σ, H1, I1, r1, q1⟩)
def tRetN : TS := fun D _ H => D.rt .non H
theorem ps_retN : PS X (.Return none pos) tRetN := fun _ _ σ H _ I h => wpAny_Return_none ⟨.non, σ, H, I, rfl, h⟩
def tIfS (c : TT) (t u : TS) : TS := fun D σ H => c σ H fun b H1 => if b = true then t D σ H1 else u D σ H1
theorem ps_if {c : Expr} {a b : List Stmt} {tc : TT} (hc : PT X c tc) (ha : PSs X a t) (hb : PSs X b u) : PS X (.If c a b pos) (tIfS tc t u) := by
 intro pins s σ H D I h
 refine wpAny_If (thn (hc pins s σ H _ I h) fun d s1 ⟨H1, I1, q1⟩ => ?_)
 cases d with
 | true => exact ha pins s1 σ H1 D I1 q1
 | false => exact hb pins s1 σ H1 D I1 q1
def tNever : TS := fun _ _ _ => False
theorem ps_never : PS X st tNever := fun _ _ _ _ _ _ h => h.elim
end
abbrev TG := V → St → Hp → (St → Hp → Prop) → Prop
abbrev TGs := List V → St → Hp → (St → Hp → Prop) → Prop
def PG (X : Cx) (target : Expr) (t : TG) : Prop :=
 ∀ (pins : List (Addr × Obj)) (s : Shared) (σ : St) (H : Hp) (v : V) (u : Value) (Q : St → Hp → Prop), Inv X pins σ H s → RelV v u → t v σ H Q →
   wpAny (model X.prog X.w) X.A (assign target X.env u) (fun _ s' => ∃ σ' H', Inv X pins σ' H' s' ∧ Q σ' H') X.xe s
def PGs (X : Cx) (ts : List Expr) (t : TGs) : Prop :=
 ∀ (pins : List (Addr × Obj)) (s : Shared) (σ : St) (H : Hp) (vs : List V) (us : List Value) (Q : St → Hp → Prop), Inv X pins σ H s → Vals vs us → t vs σ H Q →
   wpAny (model X.prog X.w) X.A (assignInOrder ((assignEach ts X.env).map (·.2)) us) (fun _ s' => ∃ σ' H', Inv X pins σ' H' s' ∧ Q σ' H') X.xe s
abbrev TSet := V → V → V → Hp → (Hp → Prop) → Prop
def PSet (X : Cx) (t : TSet) : Prop :=
 ∀ (pins : List (Addr × Obj)) (s : Shared) (σ : St) (H : Hp) (o i v : V) (ov iv u : Value) (Q : Hp → Prop), Inv X pins σ H s → RelV o ov → RelV i iv → RelV v u → t o i v H Q →
   wpAny (model X.prog X.w) X.A (setItem ov iv u) (fun _ s' => ∃ H', Inv X pins σ H' s' ∧ Q H') X.xe s
section
variable {X : Cx} {pos : Pos}
def gName (i : Nat) : TG := fun v σ H Q => Q (σ.set i (some v)) H
theorem pg_name {i : Nat} {x : Str} (hN : X.N.Nodup) (hi : X.N[i]? = some x) (hx : Loc X.env.scope x) (hf : X.fn x = true ∨ X.env.scope.names.lookup x = some .local := by first | exact .inl rfl | exact .inr rfl | assumption) : PG X (.Name x pos) (gName i) := by
 intro pins s σ H v u Q I r h
 exact wpAny_assign_Name (store_ok I hN hi hx r (fun s' I' => ⟨_, H, I', h⟩) hf)
def gNil : TGs := fun vs σ H Q => vs = [] ∧ Q σ H
def gCons (t : TG) (u : TGs) : TGs := fun vs σ H Q => ∃ v r, vs = v :: r ∧ t v σ H fun σ' H' => u r σ' H' Q
theorem pgs_nil : PGs X [] gNil := by
 intro pins s σ H vs us Q I r h
 obtain ⟨e, h⟩ := h
 subst e
 cases r
 exact assignInOrder_nil ⟨σ, H, I, h⟩
theorem pgs_cons {e : Expr} {es : List Expr} {t : TG} {u : TGs} (h1 : PG X e t) (h2 : PGs X es u)
   (hs : (assignEach (e :: es) X.env).map (·.2) = assign e X.env :: (assignEach es X.env).map (·.2) := by rfl) : PGs X (e :: es) (gCons t u) := by
 intro pins s σ H vs us Q I r h
 obtain ⟨v, vr, e1, h⟩ := h
 subst e1
 cases r with
 | cons r rr =>
   rw [hs]
   refine assignInOrder_cons (thn (h1 pins s σ H _ _ _ I r h) fun _ s1 ⟨σ1, H1, I1, q1⟩ => ?_)
   exact h2 pins s1 σ1 H1 _ _ Q I1 rr q1
def gTup (K : PySem.W.Frag) (n : Nat) (t : TGs) : TG := fun v σ H Q => ∃ a xs, v = .ref a ∧ SqT K H a xs ∧ xs.length = n ∧ t xs σ H Q
theorem pg_tup {es : List Expr} {k : Nat} {t : TGs} {n : Nat} (hc : X.calm = true) (h : PGs X es t)
   (hn : (assignEach es X.env).length = n := by rfl) (hst : (assignEach es X.env).findIdx? (·.1) = none := by rfl) : PG X (.Tuple es k pos) (gTup X.K n t) := by
 intro pins s σ H v u Q I r hw
 obtain ⟨a, xs, e1, hq, hl, hw⟩ := hw
 subst e1
 cases r
 obtain ⟨its, rv, ht, hz⟩ := I.tuple hq
 refine assign_Tuple_tuple (I.ok.hd hc) ht (by simp [hn, ← hl, rv.length]) hst fun h' hx => ?_
 have I1 : Inv X pins σ H { s with heap := h' } := I.kept (t' := s.toks) fun b o e => hx b o (Nat.ne_of_lt (Heap.lt_size e)) e
 exact h pins _ σ H xs _ Q I1 (by simpa using rv) hw
def gSub (to ti : TE) (t : TSet) : TG := fun v σ H Q => to σ H fun o H1 => ti σ H1 fun i H2 => t o i v H2 fun H3 => Q σ H3
theorem pg_sub {o i : Expr} {to ti : TE} {t : TSet} (ho : PE X o to) (hi : PE X i ti) (hs : PSet X t)
   (ha : ∀ v, assign (.Subscript o i pos) X.env v = (do
     let ov ← holding [v] (eval o X.env)
     let iv ← holding [v, ov] (eval i X.env)
     standAt pos
     holding [v, ov, iv] (setItem ov iv v)
     release [v, ov, iv] []) := by intro _; rfl) : PG X (.Subscript o i pos) (gSub to ti t) := by
 intro pins s σ H v u Q I r h
 rw [ha]
 refine wpAny_bind (wpAny_holding (thn (ho pins s σ H _ I h) fun ov s1 ⟨x, H1, I1, r1, q1⟩ => ?_))
 refine wpAny_bind (wpAny_holding (thn (hi pins s1 σ H1 _ I1 q1) fun iv s2 ⟨y, H2, I2, r2, q2⟩ => ?_))
 refine wpAny_bind (wpAny_standAt (wpAny_bind (wpAny_holding (thn (hs pins s2 σ H2 x y v ov iv u _ I2 r1 r2 r q2) fun _ s3 ⟨H3, I3, q3⟩ => ?_))))
 exact wpAny_release ⟨σ, H3, I3, q3⟩
def tAsg (te : TE) (g : TG) : TS := fun D σ H => te σ H fun x H1 => g x σ H1 D.nx
theorem ps_asg {tg e : Expr} {te : TE} {g : TG} (he : PE X e te) (hg : PG X tg g) (hs : swapsWithSole [tg] e pos.line X.env = pure false := by rfl) (hw : swappedStores [tg] e X.env = pure none := by rfl)
   (h1 : (assignEach [tg] X.env).map (·.2) = [assign tg X.env] := by rfl) : PS X (.Assign [tg] e pos) (tAsg te g) := by
 intro pins s σ H D I h
 refine wpAny_Assign_stores (thn (he pins s σ H _ I h) fun v s1 ⟨x, H1, I1, r1, q1⟩ => ?_) hs hw
 rw [h1]
 exact thn (hg pins s1 σ H1 x v _ I1 r1 q1) fun _ s2 q => q
theorem ps_set {i : Nat} {x : Str} {e : Expr} {te : TE} {pos' : Pos} (hN : X.N.Nodup) (hi : X.N[i]? = some x) (hx : Loc X.env.scope x) (he : PE X e te) (hs : swapsWith e (some (.Name x pos')) pos.line X.env = pure false := by rfl) (hf : X.fn x = true ∨ X.env.scope.names.lookup x = some .local := by first | exact .inl rfl | exact .inr rfl | assumption) :
   PS X (.Assign [.Name x pos'] e pos) (tAsg te (gName i)) := by
 intro pins s σ H D I h
 refine wpAny_Assign_Name (thn (he pins s σ H _ I h) fun v s1 ⟨y, H1, I1, r1, q1⟩ => ?_) hs
 exact store_ok I1 hN hi hx r1 (fun s2 I2 => ⟨_, H1, I2, q1⟩) hf
end
section
variable {X : Cx} {pos : Pos}
def tWhile (c : TT) (tb : TS) : TS := fun D σ H => ∃ W : Nat → St → Hp → Prop, (∃ m, W m σ H) ∧ ∀ m σ H, W m σ H →
 c σ H fun b H1 => if b = true then ∃ N : St → Hp → Prop, (∀ σ' H', N σ' H' → ∃ m', m' < m ∧ W m' σ' H') ∧ tb { D with nx := N, ct := N, bk := D.nx } σ H1 else D.nx σ H1
theorem ps_while {c : Expr} {body : List Stmt} {tc : TT} {tb : TS} (hp : PassesOwn (model X.prog X.w) X.A X.env X.xe) (hc : PT X c tc) (hb : PSs X body tb) : PS X (.While c body [] pos) (tWhile tc tb) := by
 intro pins s σ H D I h
 obtain ⟨W, ⟨m0, w0⟩, turn⟩ := h
 refine wpAny_While (codeAny_whileLoop (fun n s' => ∃ σ' H', Inv X pins σ' H' s' ∧ W n σ' H') ?_ m0 ⟨σ, H, I, w0⟩)
 rintro n s1 ⟨σ1, H1, I1, w1⟩
 refine wpAny_passesOwn hp (thn (hc pins s1 σ1 H1 _ I1 (turn n σ1 H1 w1)) fun b s2 ⟨H2, I2, q2⟩ => ?_)
 cases b with
 | true =>
   obtain ⟨N, hN, q2⟩ := q2
   rw [if_pos rfl]
   refine wpAny_passesOwn hp (thn (hb pins s2 σ1 H2 _ I2 q2) fun f s3 q3 => ?_)
   cases f with
   | next =>
     obtain ⟨σ3, H3, I3, n3⟩ := q3
     obtain ⟨m', hm, w3⟩ := hN σ3 H3 n3
     exact ⟨m', hm, σ3, H3, I3, w3⟩
   | cont =>
     obtain ⟨σ3, H3, I3, n3⟩ := q3
     obtain ⟨m', hm, w3⟩ := hN σ3 H3 n3
     exact ⟨m', hm, σ3, H3, I3, w3⟩
   | brk => exact q3
   | ret v => exact q3
 | false =>
   rw [if_neg Bool.false_ne_true]
   exact wpAny_execs_nil ⟨σ1, H2, I2, q2⟩
end
structure It where
 go : Nat → Hp → Prop
 yld : Nat → Hp → V → Hp → Prop
 stop : Nat → Hp → Prop
def FpOk (X : Cx) (pins : List (Addr × Obj)) (H : Hp) (b : Addr) : Prop :=
 H b = none ∧ b ≠ X.env.locals ∧ b ∉ X.fs ∧ (b ∈ X.ex ∨ X.s₀.heap.objs.size ≤ b) ∧ (∀ x c, X.env.cells.lookup x = some c → c ≠ b) ∧ ∀ p ∈ X.pn ++ pins, p.1 ≠ b
theorem Inv.fpOk {X : Cx} {pins : List (Addr × Obj)} {σ : St} {H H' : Hp} {s : Shared} {b : Addr} (I : Inv X pins σ H s) (hb : s.heap.objs.size ≤ b) (hn : H' b = none) : FpOk X pins H' b := by
 refine ⟨hn, Nat.ne_of_gt (Nat.lt_of_lt_of_le I.lt hb), I.nofs hb, .inr (Nat.le_trans I.sz hb), fun x c e z => ?_, fun p hp z => ?_⟩
 · obtain ⟨v, q⟩ := I.cell x c e
   exact absurd (Nat.lt_of_lt_of_le q.lt (by rw [z]; exact hb)) (Nat.lt_irrefl _)
 · exact absurd (Nat.lt_of_lt_of_le (Heap.lt_size (I.pin p hp).1) (by rw [z]; exact hb)) (Nat.lt_irrefl _)
structure Turn (P : Program) (w : World) (K : PySem.W.Frag) (tg : Expr) (J : It) (fp : List Addr) (it : Addr) (tn : Nat → Heap → Prop) : Prop where
 mem : it ∈ fp
 obj : ∀ i h, tn i h → ∀ b ∈ fp, ∃ o, h.get? b = some o ∧ ∀ v, o.data ≠ .cell v
 keep : ∀ i h h', tn i h → (∀ b ∈ fp, ∀ o, h.get? b = some o → h'.get? b = some o) → tn i h'
 item : ∀ (X : Cx), X.prog = P → X.w = w → X.K = K → X.calm = true → ∀ (i : Nat) (pins : List (Addr × Obj)) (s : Shared) (σ : St) (H : Hp) (E : Value → Shared → Prop), Inv X pins σ H s → (∀ b ∈ fp, FpOk X pins H b) → tn i s.heap → J.go i H →
   wpAny (model P w) X.A (pyNext (.ref it)) (fun r s1 => ∃ u, r = some u ∧
     wpAny (model P w) X.A (letOwnedTupleGo tg (.ref it) u) (fun _ s2 => ∃ x H', Inv X pins σ H' s2 ∧ RelV x u ∧ J.yld i H x H' ∧ tn (i + 1) s2.heap ∧ ∀ b ∈ fp, H' b = none) E s1) E s
 done : ∀ (X : Cx), X.prog = P → X.w = w → X.K = K → X.calm = true → ∀ (i : Nat) (pins : List (Addr × Obj)) (s : Shared) (σ : St) (H : Hp) (E : Value → Shared → Prop), Inv X pins σ H s → (∀ b ∈ fp, FpOk X pins H b) → tn i s.heap → J.stop i H →
   wpAny (model P w) X.A (pyNext (.ref it)) (fun r s1 => r = none ∧ Inv X pins σ H s1) E s
 self : ∀ (A : Around) (i : Nat) (s : Shared) (Q : Value → Shared → Prop) (E : Value → Shared → Prop), tn i s.heap → Q (.ref it) s → wpAny (model P w) A (pyIter (.ref it)) Q E s
abbrev TI := St → Hp → (It → Hp → Prop) → Prop
def PIE (X : Cx) (pins : List (Addr × Obj)) (σ : St) (tg : Expr) (R : It → Hp → Prop) (itv : Value) (s2 : Shared) : Prop :=
 ∃ (it : Addr) (fp : List Addr) (tn : Nat → Heap → Prop) (J : It) (H' : Hp), itv = .ref it ∧ Inv X pins σ H' s2 ∧ Turn X.prog X.w X.K tg J fp it tn ∧ tn 0 s2.heap ∧ (∀ b ∈ fp, FpOk X pins H' b) ∧ R J H'
def PI (X : Cx) (tg iter : Expr) (wi : TI) : Prop :=
 ∀ (pins : List (Addr × Obj)) (s : Shared) (σ : St) (H : Hp) (R : It → Hp → Prop), Inv X pins σ H s → wi σ H R →
   wpAny (model X.prog X.w) X.A (eval iter X.env) (fun v s1 => wpAny (model X.prog X.w) X.A (pyIter v) (PIE X pins σ tg R) X.xe s1) X.xe s
theorem go_of {M : Model} {A : Around} {E : Value → Shared → Prop} {s : Shared} {tg : Expr} {it : Addr} {u : Value} {o : Obj} {n : String} {vs : Array Value} {Q : Unit → Shared → Prop} (ho : s.heap.get? it = some o) (hc : o.cls = .type n) (hd : o.data = .fields vs)
   (hn : ["enumerate", "zip", "dict_itemiterator", "dict_reverseitemiterator", "odict_iterator", "itertools.zip_longest", "itertools.pairwise"].contains n = false) (hQ : Q () s) : wpAny M A (letOwnedTupleGo tg (.ref it) u) Q E s := by
 unfold letOwnedTupleGo
 cases tg <;> first
   | exact wpAny_pure hQ
   | (cases u <;> first
       | exact wpAny_pure hQ
       | (refine wpAny_bind (wpAny_load ho ?_)
          rw [hc, hd]
          show wpAny M A (if (["enumerate", "zip", "dict_itemiterator", "dict_reverseitemiterator", "odict_iterator", "itertools.zip_longest", "itertools.pairwise"].contains n && vs[0]? == some (rawInt _)) = true then _ else _) Q E s
          rw [if_neg (by intro h; rw [hn, Bool.false_and] at h; cases h)]
          exact wpAny_pure hQ))
def Itl (K : PySem.W.Frag) (a : Addr) : It :=
 ⟨fun i H => ∃ xs x, SqL K H a xs ∧ xs[i]? = some x, fun i H x H' => H' = H ∧ ∀ xs, SqL K H a xs → xs[i]? = some x, fun i H => ∃ xs, SqL K H a xs ∧ xs.length ≤ i⟩
def Itt (K : PySem.W.Frag) (a : Addr) : It :=
 ⟨fun i H => ∃ xs x, SqT K H a xs ∧ xs[i]? = some x, fun i H x H' => H' = H ∧ ∀ xs, SqT K H a xs → xs[i]? = some x, fun i H => ∃ xs, SqT K H a xs ∧ xs.length ≤ i⟩
def Itr (lo : Int) (n : Nat) : It := ⟨fun i _ => i < n, fun i H x H' => H' = H ∧ x = .int (lo + i), fun i _ => n ≤ i⟩
theorem turn_list {P : Program} {w : World} {K : PySem.W.Frag} {tg : Expr} (a it : Addr) : Turn P w K tg (Itl K a) [it] it (fun i h => h.IsListIter it a i) where
 mem := by simp
 obj := fun i h st b hb => by
   have e : b = it := by simpa using hb
   subst e
   obtain ⟨o, e, c, d⟩ := st
   exact ⟨o, e, fun v z => by rw [d] at z; cases z⟩
 keep := fun i h h' st k => st.at fun o e => k it (by simp) o e
 item := by
   intro X hP hw hK hc i pins s σ H E I hf st hg
   subst hP hw hK
   obtain ⟨xs, x, hq, hx⟩ := hg
   obtain ⟨its, rv, p, hz⟩ := I.list hq
   obtain ⟨u, hu, ru⟩ := rv.get hx
   obtain ⟨f0, f1, f2, f3, f4, f5⟩ := hf it (by simp)
   refine wpAny_pyNext_list_item st p.isList (x := u) (by simpa using hu) fun h' st' sb => ?_
   have I1 : Inv X pins σ H { s with heap := h' } := I.turned (t' := s.toks) (fun b o hb e => (sb.2 b hb).trans e) f0 f1 f3 f4 f5
   obtain ⟨o, e, c, d⟩ := id st'
   exact ⟨u, rfl, go_of (s := { s with heap := h' }) e c d (by decide) ⟨x, H, I1, ru, ⟨rfl, fun ys hy => by rw [I.list_inj hy hq]; exact hx⟩, st', fun b hb => (hf b hb).1⟩⟩
 done := by
   intro X hP hw hK hc i pins s σ H E I hf st hg
   subst hP hw hK
   obtain ⟨xs, hq, hx⟩ := hg
   obtain ⟨its, rv, p, hz⟩ := I.list hq
   obtain ⟨f0, f1, f2, f3, f4, f5⟩ := hf it (by simp)
   have hl := rv.length
   exact wpAny_pyNext_list_end (I.ok.hd hc) st p.isList (by simp; omega) fun h' eb => ⟨rfl, I.turned (t' := s.toks) (fun b o hb e => eb b o hb e) f0 f1 f3 f4 f5⟩
 self := fun _ _ _ _ _ st h => wpAny_pyIter_listiter st h
theorem turn_tuple {P : Program} {w : World} {K : PySem.W.Frag} {tg : Expr} (a it : Addr) : Turn P w K tg (Itt K a) [it] it (fun i h => h.IsTupleIter it a i) where
 mem := by simp
 obj := fun i h st b hb => by
   have e : b = it := by simpa using hb
   subst e
   obtain ⟨o, e, c, d⟩ := st
   exact ⟨o, e, fun v z => by rw [d] at z; cases z⟩
 keep := fun i h h' st k => st.at fun o e => k it (by simp) o e
 item := by
   intro X hP hw hK hc i pins s σ H E I hf st hg
   subst hP hw hK
   obtain ⟨xs, x, hq, hx⟩ := hg
   obtain ⟨its, rv, p, hz⟩ := I.tuple hq
   obtain ⟨u, hu, ru⟩ := rv.get hx
   obtain ⟨f0, f1, f2, f3, f4, f5⟩ := hf it (by simp)
   refine wpAny_pyNext_tuple_item st (show s.heap.IsTuple a its.toArray from p) (x := u) (by simpa using hu) fun h' st' sb => ?_
   have I1 : Inv X pins σ H { s with heap := h' } := I.turned (t' := s.toks) (fun b o hb e => (sb.2 b hb).trans e) f0 f1 f3 f4 f5
   obtain ⟨o, e, c, d⟩ := id st'
   exact ⟨u, rfl, go_of (s := { s with heap := h' }) e c d (by decide) ⟨x, H, I1, ru, ⟨rfl, fun ys hy => by rw [I.tuple_inj hy hq]; exact hx⟩, st', fun b hb => (hf b hb).1⟩⟩
 done := by
   intro X hP hw hK hc i pins s σ H E I hf st hg
   subst hP hw hK
   obtain ⟨xs, hq, hx⟩ := hg
   obtain ⟨its, rv, p, hz⟩ := I.tuple hq
   obtain ⟨f0, f1, f2, f3, f4, f5⟩ := hf it (by simp)
   have hl := rv.length
   exact wpAny_pyNext_tuple_end (I.ok.hd hc) st (show s.heap.IsTuple a its.toArray from p) (by simp; omega) fun h' eb => ⟨rfl, I.turned (t' := s.toks) (fun b o hb e => eb b o hb e) f0 f1 f3 f4 f5⟩
 self := fun _ _ _ _ _ st h => wpAny_pyIter_tupleiter st h
theorem turn_range {P : Program} {w : World} {K : PySem.W.Frag} {tg : Expr} (it : Addr) (lo : Int) (n : Nat) : Turn P w K tg (Itr lo n) [it] it (fun i h => IsRangeIter h it (lo + (i : Nat) * 1) ((n : Int) - (i : Nat)) 1) where
 mem := by simp
 obj := fun i h st b hb => by
   have e : b = it := by simpa using hb
   subst e
   exact ⟨_, st, fun v z => by
     have z' : Data.fields _ = Data.cell v := z
     cases z'⟩
 keep := fun i h h' st k => k it (by simp) _ st
 item := by
   intro X hP hw hK hc i pins s σ H E I hf st hg
   subst hP hw hK
   obtain ⟨f0, f1, f2, f3, f4, f5⟩ := hf it (by simp)
   have W := Walks.range (prog := X.prog) (w := X.w) (I.ok.hd hc) it lo 1 n
   refine W.item i s _ _ hg st fun v h' tk hv st' kk => ?_
   obtain ⟨t, rfl⟩ := hv
   have I1 : Inv X pins σ H { s with heap := h', toks := tk } := I.turned (fun b o hb e => kk b o (by simpa using hb) e) f0 f1 f3 f4 f5
   refine ⟨_, rfl, go_of (s := { s with heap := h', toks := tk }) (n := "range_iterator") st' rfl rfl (by decide) ⟨.int (lo + i), H, I1, ⟨t, ?_⟩, ⟨rfl, rfl⟩, st', fun b hb => (hf b hb).1⟩⟩
   rw [Int.mul_one]
 done := by
   intro X hP hw hK hc i pins s σ H E I hf st hg
   subst hP hw hK
   obtain ⟨f0, f1, f2, f3, f4, f5⟩ := hf it (by simp)
   exact wpAny_pyNext_range_end (I.ok.hd hc) st (by have : n ≤ i := hg; omega) fun h' eb => ⟨rfl, I.turned (t' := s.toks) (fun b o hb e => eb b o hb e) f0 f1 f3 f4 f5⟩
 self := fun _ _ _ _ _ st h => wpAny_pyIter_rangeiter st h
end L2
namespace L2
open PySem PySem.Spec PyProof.Rows
section
variable {X : Cx} {tg : Expr}
theorem range_it {pins : List (Addr × Obj)} {σ : St} {H : Hp} {s : Shared} {R : It → Hp → Prop} {E : Value → Shared → Prop} {lo hi : Int} {t u v : Tok} {tk : Nat} (I : Inv X pins σ H s) (h1 : -(2 ^ 62) ≤ lo) (h2 : lo < 2 ^ 62) (h3 : -(2 ^ 62) ≤ hi) (h4 : hi < 2 ^ 62)
   (q : R (Itr lo (hi - lo).toNat) H) : wpAny (model X.prog X.w) X.A (pyIter (.ref s.heap.objs.size)) (PIE X pins σ tg R) E { s with heap := s.heap.push { cls := .type "range", data := .fields #[.int lo t, .int hi u, .int 1 v] }, toks := tk } := by
 refine wpAny_pyIter_range (IsRange.new ..) (small_one h1 h2 h3 h4) ?_
 have I1 : Inv X pins σ H { s with heap := s.heap.push { cls := .type "range", data := .fields #[.int lo t, .int hi u, .int 1 v] }, toks := tk } := I.kept fun b o e => Heap.get?_push_of_some _ e
 refine ⟨(s.heap.push { cls := .type "range", data := .fields #[.int lo t, .int hi u, .int 1 v] }).objs.size, [(s.heap.push { cls := .type "range", data := .fields #[.int lo t, .int hi u, .int 1 v] }).objs.size], _, _, H, rfl,
   I1.kept (t' := tk) fun b o e => Heap.get?_push_of_some _ e, turn_range _ lo (hi - lo).toNat, ?_, fun b hb => ?_, q⟩
 · have e1 : lo + ((0 : Nat) : Int) * 1 = lo := by simp
   have e2 : (((hi - lo).toNat : Nat) : Int) - ((0 : Nat) : Int) = Builtin.Range.rangeSize lo hi 1 := by rw [rangeSize_one]; split <;> omega
   show IsRangeIter _ _ (lo + ((0 : Nat) : Int) * 1) ((((hi - lo).toNat : Nat) : Int) - ((0 : Nat) : Int)) 1
   rw [e1, e2]
   exact Heap.get?_push_size _ rfl
 · have e : b = (s.heap.push { cls := .type "range", data := .fields #[.int lo t, .int hi u, .int 1 v] }).objs.size := by simpa using hb
   subst e
   exact I1.fpOk (Nat.le_refl _) (I1.hok.fresh (Nat.le_refl _))
def iRng1 (ta : TA) : TI := fun σ H R => ta σ H fun vs H1 => ∃ j : Int, vs = [.int j] ∧ -(2 ^ 62) ≤ j ∧ j < 2 ^ 62 ∧ R (Itr 0 j.toNat) H1
theorem pi_range1 {a : Expr} {ta : TA} {p pos : Pos} (hg : Gl X "range") (hm : X.mg "range" = none) (ha : PA X [a] ta) (hs : starEach [a] X.env = [(false, eval a X.env)] := by rfl) : PI X tg (.Call (.Name "range" p) [a] [] pos) (iRng1 ta) := by
 intro pins s σ H R I h
 refine Call_ (ld_blt I hg hm boot_range (PyProof.Rows.callWith_type1 (thn (ha pos pins s σ H _ I h) fun us s1 ⟨vs, H1, I1, r1, q1⟩ => ?_) hs rfl))
 obtain ⟨j, e, q1, q2, q⟩ := q1
 subst e
 cases r1 with
 | cons r rr =>
   cases rr
   obtain ⟨t, rfl⟩ := r
   exact call_range_1 (range_it I1 (by omega) (by omega) q1 q2 (by simpa using q))
def tFor (wi : TI) (g : TG) (tb : TS) : TS := fun D σ H => wi σ H fun J H1 => ∃ W : Nat → Nat → St → Hp → Prop, (∃ m, W 0 m σ H1) ∧ ∀ i m σ H, W i m σ H →
 (J.stop i H ∧ D.nx σ H) ∨ (J.go i H ∧ ∃ N : St → Hp → Prop, (∀ σ' H', N σ' H' → ∃ m', m' < m ∧ W (i + 1) m' σ' H') ∧ ∀ x H', J.yld i H x H' → g x σ H' fun σ2 H2 => tb { D with nx := N, ct := N, bk := D.nx } σ2 H2)
def pinsAt (fp : List Addr) (h : Heap) : List (Addr × Obj) := fp.filterMap fun b => (h.get? b).map fun o => (b, o)
theorem mem_pinsAt {fp : List Addr} {h : Heap} {b : Addr} {o : Obj} (hb : b ∈ fp) (e : h.get? b = some o) : (b, o) ∈ pinsAt fp h := List.mem_filterMap.mpr ⟨b, hb, by rw [e]; rfl⟩
theorem of_pinsAt {fp : List Addr} {h : Heap} {p : Addr × Obj} (hp : p ∈ pinsAt fp h) : p.1 ∈ fp ∧ h.get? p.1 = some p.2 := by
 obtain ⟨b, hb, e⟩ := List.mem_filterMap.mp hp
 cases q : h.get? b with
 | none => rw [q] at e; cases e
 | some o =>
   rw [q] at e
   have e' : (b, o) = p := Option.some.inj e
   subst e'
   exact ⟨hb, q⟩
theorem Inv.pinned {pins : List (Addr × Obj)} {σ : St} {H : Hp} {s : Shared} {fp : List Addr} (I : Inv X pins σ H s) (hf : ∀ b ∈ fp, FpOk X pins H b) (ho : ∀ b ∈ fp, ∃ o, s.heap.get? b = some o ∧ ∀ v, o.data ≠ .cell v) : Inv X (pins ++ pinsAt fp s.heap) σ H s :=
 I.pins_of fun p hp => (List.mem_append.mp hp).elim (fun z => I.pin p (List.mem_append_right _ z)) fun z => by
   obtain ⟨hb, e⟩ := of_pinsAt z
   obtain ⟨f0, f1, f2, _⟩ := hf p.1 hb
   obtain ⟨o, e', d⟩ := ho p.1 hb
   rw [e] at e'; cases e'
   exact ⟨e, f0, f1, f2, d⟩
theorem Inv.unpinned {pins pl : List (Addr × Obj)} {σ : St} {H : Hp} {s : Shared} (I : Inv X (pins ++ pl) σ H s) : Inv X pins σ H s := I.pins_of fun p hp => I.pin p (List.mem_append_right _ (List.mem_append_left _ hp))
theorem ps_for {iter : Expr} {body : List Stmt} {wi : TI} {g : TG} {tb : TS} {pos : Pos} (hp : PassesOwn (model X.prog X.w) X.A X.env X.xe) (hc : X.calm = true) (hi : PI X tg iter wi) (hg : PG X tg g) (hb : PSs X body tb)
   (hs : ∀ x, foldedSetIterable iter X.env x = pure x := by intro _; rfl) : PS X (.For tg iter body [] pos) (tFor wi g tb) := by
 intro pins s σ H D I h
 refine wpAny_For (thn (hi pins s σ H _ I h) fun v s1 h1 => thn h1 fun itv s2 h2 => ?_) hs
 obtain ⟨it, fp, tn, J, H2, e, I2, T, st2, f2, W, ⟨m0, w0⟩, turn⟩ := h2
 subst e
 -- what stays true of the iterator's objects through the loop
 have stat : ∀ {H' : Hp}, (∀ b ∈ fp, H' b = none) → ∀ b ∈ fp, FpOk X pins H' b := fun hn b hb => ⟨hn b hb, (f2 b hb).2⟩
 refine codeAny_forLoop_any (fun n s' => ∃ i σ' H', Inv X pins σ' H' s' ∧ tn i s'.heap ∧ (∀ b ∈ fp, H' b = none) ∧ W i n σ' H') ?_ m0 ⟨0, σ, H2, I2, st2, fun b hb => (f2 b hb).1, w0⟩
 rintro n s3 ⟨i, σ3, H3, I3, st3, fr3, w3⟩
 rcases turn i n σ3 H3 w3 with ⟨stop, qn⟩ | ⟨go, N, hN, step⟩
 · refine wpAny_passesOwn hp (thn (T.done X rfl rfl rfl hc i pins s3 σ3 H3 X.xe I3 (stat fr3) st3 stop) fun r s4 ⟨hr, I4⟩ => ?_)
   subst hr
   exact wpAny_execs_nil ⟨σ3, H3, I4, qn⟩
 · refine wpAny_passesOwn hp (thn (T.item X rfl rfl rfl hc i pins s3 σ3 H3 X.xe I3 (stat fr3) st3 go) fun r s4 ⟨u, hr, h4⟩ => ?_)
   subst hr
   refine wpAny_passesOwn hp (thn h4 fun _ s5 ⟨x, H5, I5, r5, y5, st5, fr5⟩ => ?_)
   have I5' := I5.pinned (stat fr5) (T.obj _ _ st5)
   refine wpAny_passesOwn hp (thn (hg _ s5 σ3 H5 x u _ I5' r5 (step x H5 y5)) fun _ s6 ⟨σ6, H6, I6, q6⟩ => ?_)
   refine wpAny_passesOwn hp (thn (hb _ s6 σ6 H6 _ I6 q6) fun f s7 q7 => ?_)
   have again : ∀ {σ7 : St} {H7 : Hp}, Inv X (pins ++ pinsAt fp s5.heap) σ7 H7 s7 → N σ7 H7 → ∃ m, m < n ∧ ∃ i σ' H', Inv X pins σ' H' s7 ∧ tn i s7.heap ∧ (∀ b ∈ fp, H' b = none) ∧ W i m σ' H' := fun {σ7 H7} I7 n7 => by
     obtain ⟨m', hm, w7⟩ := hN σ7 H7 n7
     refine ⟨m', hm, i + 1, σ7, H7, I7.unpinned, T.keep _ _ _ st5 fun b hb o e => (I7.pin (b, o) (List.mem_append_right _ (List.mem_append_right _ (mem_pinsAt hb e)))).1, fun b hb => ?_, w7⟩
     obtain ⟨o, e, d⟩ := T.obj _ _ st5 b hb
     exact (I7.pin (b, o) (List.mem_append_right _ (List.mem_append_right _ (mem_pinsAt hb e)))).2.1
   cases f with
   | next => obtain ⟨σ7, H7, I7, n7⟩ := q7; exact again I7 n7
   | cont => obtain ⟨σ7, H7, I7, n7⟩ := q7; exact again I7 n7
   | brk => obtain ⟨σ7, H7, I7, q7⟩ := q7; exact ⟨σ7, H7, I7.unpinned, q7⟩
   | ret v => obtain ⟨x7, σ7, H7, I7, r7, q7⟩ := q7; exact ⟨x7, σ7, H7, I7.unpinned, r7, q7⟩
end
theorem for_list {K : PySem.W.Frag} {a : Addr} {xs : List V} {g : TG} {tb : TS} {D : Ends} {σ : St} {H : Hp} (Pv : Nat → St → Hp → Prop) (h0 : Pv 0 σ H) (hl : ∀ i σ H, i ≤ xs.length → Pv i σ H → SqL K H a xs)
   (hs : ∀ i x σ H, xs[i]? = some x → Pv i σ H → g x σ H fun σ2 H2 => tb { D with nx := Pv (i + 1), ct := Pv (i + 1), bk := D.nx } σ2 H2) (hd : ∀ σ H, Pv xs.length σ H → D.nx σ H) :
   ∃ W : Nat → Nat → St → Hp → Prop, (∃ m, W 0 m σ H) ∧ ∀ i m σ H, W i m σ H →
     ((Itl K a).stop i H ∧ D.nx σ H) ∨ ((Itl K a).go i H ∧ ∃ N : St → Hp → Prop, (∀ σ' H', N σ' H' → ∃ m', m' < m ∧ W (i + 1) m' σ' H') ∧ ∀ x H', (Itl K a).yld i H x H' → g x σ H' fun σ2 H2 => tb { D with nx := N, ct := N, bk := D.nx } σ2 H2) := by
 refine ⟨fun i m σ H => m = xs.length - i ∧ i ≤ xs.length ∧ Pv i σ H, ⟨xs.length, by simp, Nat.zero_le _, h0⟩, ?_⟩
 rintro i m σ H ⟨rfl, hi, p⟩
 have q := hl i σ H hi p
 by_cases hlt : i < xs.length
 · refine .inr ⟨⟨xs, xs[i], q, by simp [hlt]⟩, Pv (i + 1), fun σ' H' p' => ⟨xs.length - (i + 1), by omega, rfl, hlt, p'⟩, fun x H' y => ?_⟩
   obtain ⟨e, y⟩ := y
   subst e
   exact hs i x σ _ (y xs q) p
 · have e : i = xs.length := by omega
   subst e
   exact .inl ⟨⟨xs, q, Nat.le_refl _⟩, hd σ H p⟩
theorem for_range {lo : Int} {n : Nat} {g : TG} {tb : TS} {D : Ends} {σ : St} {H : Hp} (Pv : Nat → St → Hp → Prop) (h0 : Pv 0 σ H)
   (hs : ∀ i σ H, i < n → Pv i σ H → g (.int (lo + i)) σ H fun σ2 H2 => tb { D with nx := Pv (i + 1), ct := Pv (i + 1), bk := D.nx } σ2 H2) (hd : ∀ σ H, Pv n σ H → D.nx σ H) :
   ∃ W : Nat → Nat → St → Hp → Prop, (∃ m, W 0 m σ H) ∧ ∀ i m σ H, W i m σ H →
     ((Itr lo n).stop i H ∧ D.nx σ H) ∨ ((Itr lo n).go i H ∧ ∃ N : St → Hp → Prop, (∀ σ' H', N σ' H' → ∃ m', m' < m ∧ W (i + 1) m' σ' H') ∧ ∀ x H', (Itr lo n).yld i H x H' → g x σ H' fun σ2 H2 => tb { D with nx := N, ct := N, bk := D.nx } σ2 H2) := by
 refine ⟨fun i m σ H => m = n - i ∧ i ≤ n ∧ Pv i σ H, ⟨n, by simp, Nat.zero_le _, h0⟩, ?_⟩
 rintro i m σ H ⟨rfl, hi, p⟩
 by_cases hlt : i < n
 · refine .inr ⟨hlt, Pv (i + 1), fun σ' H' p' => ⟨n - (i + 1), by omega, rfl, hlt, p'⟩, fun x H' y => ?_⟩
   obtain ⟨e, y⟩ := y
   subst e y
   exact hs i σ _ hlt p
 · have e : i = n := by omega
   subst e
   exact .inl ⟨Nat.le_refl _, hd σ H p⟩
end L2
namespace L2
open PySem PySem.Spec PyProof.Rows
abbrev R2 := V → V → Hp → VK → Prop
def OpR (X : Cx) (f : Value → Value → Sem Value) (r : R2) : Prop :=
 ∀ (pins : List (Addr × Obj)) (s : Shared) (σ : St) (H : Hp) (x y : V) (v u : Value) (Q : VK), Inv X pins σ H s → RelV x v → RelV y u → r x y H Q →
   wpAny (model X.prog X.w) X.A (f v u) (EP X pins σ Q) X.xe s
def UnR (X : Cx) (f : Value → Sem Value) (r : V → Hp → VK → Prop) : Prop :=
 ∀ (pins : List (Addr × Obj)) (s : Shared) (σ : St) (H : Hp) (x : V) (v : Value) (Q : VK), Inv X pins σ H s → RelV x v → r x H Q →
   wpAny (model X.prog X.w) X.A (f v) (EP X pins σ Q) X.xe s
def CallR (X : Cx) (f : Value) (r : List V → Hp → VK → Prop) : Prop :=
 ∀ (pins : List (Addr × Obj)) (s : Shared) (σ : St) (H : Hp) (xs : List V) (us : List Value) (Q : VK), Inv X pins σ H s → Vals xs us → r xs H Q →
   wpAny (model X.prog X.w) X.A (call f us) (EP X pins σ Q) X.xe s
def TruR (X : Cx) (r : V → Hp → (Bool → Hp → Prop) → Prop) : Prop :=
 ∀ (pins : List (Addr × Obj)) (s : Shared) (σ : St) (H : Hp) (x : V) (v : Value) (Q : Bool → Hp → Prop), Inv X pins σ H s → RelV x v → r x H Q →
   wpAny (model X.prog X.w) X.A (truthy v) (TP X pins σ Q) X.xe s
def tOp (r : R2) (ta tb : TE) : TE := fun σ H Q => ta σ H fun x H1 => tb σ H1 fun y H2 => r x y H2 Q
def tUn (r : V → Hp → VK → Prop) (ta : TE) : TE := fun σ H Q => ta σ H fun x H1 => r x H1 Q
def rI (C : Int → Int → Prop) (g : Int → Int → V) : R2 := fun x y H Q => ∃ i j, x = .int i ∧ y = .int j ∧ C i j ∧ Q (g i j) H
def rI0 (g : Int → Int → V) : R2 := fun x y H Q => ∃ i j, x = .int i ∧ y = .int j ∧ Q (g i j) H
def rU (g : Int → V) : V → Hp → VK → Prop := fun x H Q => ∃ i, x = .int i ∧ Q (g i) H
section
variable {X : Cx} {a b c : Expr} {ta tb tc : TE} {pos : Pos}
theorem binT (ha : PE X a ta) (hb : PE X b tb) {pins : List (Addr × Obj)} {s : Shared} {σ : St} {H : Hp} {R : V → V → Hp → Prop} (I : Inv X pins σ H s)
   (h : ta σ H fun x H1 => tb σ H1 fun y H2 => R x y H2) {Q : Value → Shared → Prop} {f : Value → Value → Sem Value}
   (hf : ∀ v u s2 x y H2, Inv X pins σ H2 s2 → RelV x v → RelV y u → R x y H2 → wpAny (model X.prog X.w) X.A (f v u) Q X.xe s2) :
   wpAny (model X.prog X.w) X.A (eval a X.env) (fun v s₁ => wpAny (model X.prog X.w) X.A (eval b X.env) (fun u s₂ => wpAny (model X.prog X.w) X.A (f v u) Q X.xe s₂) X.xe s₁) X.xe s := by
 refine thn (ha pins s σ H _ I h) fun v s1 ⟨x, H1, I1, r1, q1⟩ => ?_
 refine thn (hb pins s1 σ H1 _ I1 q1) fun u s2 ⟨y, H2, I2, r2, q2⟩ => ?_
 exact hf v u s2 x y H2 I2 r1 r2 q2
theorem pe_op {op : Operator} {r : R2} (ho : OpR X (binaryOp op) r) (ha : PE X a ta) (hb : PE X b tb) : PE X (.BinOp a op b pos) (tOp r ta tb) := by
 intro pins s σ H Q I h
 exact wpAny_BinOp (binT ha hb I h fun v u s2 x y H2 I2 rx ry q => ho pins s2 σ H2 x y v u Q I2 rx ry q)
theorem pe_un {op : UnaryOp} {r : V → Hp → VK → Prop} (ho : UnR X (unaryOp op) r) (ha : PE X a ta) : PE X (.UnaryOp op a pos) (tUn r ta) := by
 intro pins s σ H Q I h
 exact UnaryOp_ (thn (ha pins s σ H _ I h) fun v s1 ⟨x, H1, I1, r1, q1⟩ => ho pins s1 σ H1 x v Q I1 r1 q1)
theorem opI {f : Value → Value → Sem Value} {C : Int → Int → Prop} {g : Int → Int → Int}
   (rule : ∀ (i j : Int) (t u : Tok) (s : Shared) (Q : Value → Shared → Prop) (E : Value → Shared → Prop), C i j → Q (.int (g i j) s.toks) { s with toks := s.toks + 1 } → wpAny (model X.prog X.w) X.A (f (.int i t) (.int j u)) Q E s) :
   OpR X f (rI C fun i j => .int (g i j)) := by
 intro pins s σ H x y v u Q I rx ry h
 obtain ⟨i, j, rfl, rfl, hc, q⟩ := h
 obtain ⟨t, rfl⟩ := rx
 obtain ⟨t', rfl⟩ := ry
 exact rule i j t t' s _ _ hc ⟨.int (g i j), H, I.tok _, ⟨_, rfl⟩, q⟩
theorem opI0 {f : Value → Value → Sem Value} {g : Int → Int → Int}
   (rule : ∀ (i j : Int) (t u : Tok) (s : Shared) (Q : Value → Shared → Prop) (E : Value → Shared → Prop), Q (.int (g i j) s.toks) { s with toks := s.toks + 1 } → wpAny (model X.prog X.w) X.A (f (.int i t) (.int j u)) Q E s) :
   OpR X f (rI0 fun i j => .int (g i j)) := by
 intro pins s σ H x y v u Q I rx ry h
 obtain ⟨i, j, rfl, rfl, q⟩ := h
 obtain ⟨t, rfl⟩ := rx
 obtain ⟨t', rfl⟩ := ry
 exact rule i j t t' s _ _ ⟨.int (g i j), H, I.tok _, ⟨_, rfl⟩, q⟩
theorem opB0 {f : Value → Value → Sem Value} {g : Int → Int → Bool}
   (rule : ∀ (i j : Int) (t u : Tok) (s : Shared) (Q : Value → Shared → Prop) (E : Value → Shared → Prop), Q (.bool (g i j)) s → wpAny (model X.prog X.w) X.A (f (.int i t) (.int j u)) Q E s) :
   OpR X f (rI0 fun i j => .bl (g i j)) := by
 intro pins s σ H x y v u Q I rx ry h
 obtain ⟨i, j, rfl, rfl, q⟩ := h
 obtain ⟨t, rfl⟩ := rx
 obtain ⟨t', rfl⟩ := ry
 exact rule i j t t' s _ _ ⟨.bl (g i j), H, I, rfl, q⟩
def CDiv (i j : Int) : Prop := 0 < j ∧ j < 1073741824
def CMul (i j : Int) : Prop := (-(2 ^ 64) < i ∧ i < 2 ^ 64) ∨ (-(2 ^ 64) < j ∧ j < 2 ^ 64)
theorem CMul.ok {i j : Int} (h : CMul i j) : IntMulOk i j := by
 rcases h with ⟨h1, h2⟩ | ⟨h1, h2⟩
 · exact .of_left (intBits_le_64 h1 h2)
 · exact .of_right (intBits_le_64 h1 h2)
theorem op_add : OpR X (binaryOp .Add) (rI0 fun i j => .int (i + j)) := opI0 fun _ _ _ _ _ _ _ q => add_int q
theorem op_sub : OpR X (binaryOp .Sub) (rI0 fun i j => .int (i - j)) := opI0 fun _ _ _ _ _ _ _ q => sub_int q
theorem op_mul : OpR X (binaryOp .Mult) (rI CMul fun i j => .int (i * j)) := opI fun _ _ _ _ _ _ _ hc q => mul_int q hc.ok
theorem op_fdiv : OpR X (binaryOp .FloorDiv) (rI CDiv fun i j => .int (i / j)) := opI fun i j _ _ _ _ _ hc q => by
 have h1 : (0 : Int) < j := hc.1
 have h2 : j < 1073741824 := hc.2
 exact floordiv_int (by omega) (by rw [Int.fdiv_eq_ediv_of_nonneg i (by omega)]; exact q) (.inl (PyProof.noPylong_small (by omega)))
theorem op_mod : OpR X (binaryOp .Mod) (rI (fun _ j => 0 < j) fun i j => .int (i % j)) := opI fun i j _ _ _ _ _ hc q => by
 have h1 : (0 : Int) < j := hc
 exact mod_int' (by omega) (by rw [Int.fmod_eq_emod_of_nonneg i (by omega)]; exact q)
theorem unI {f : Value → Sem Value} {g : Int → Int}
   (rule : ∀ (i : Int) (t : Tok) (s : Shared) (Q : Value → Shared → Prop) (E : Value → Shared → Prop), Q (.int (g i) s.toks) { s with toks := s.toks + 1 } → wpAny (model X.prog X.w) X.A (f (.int i t)) Q E s) :
   UnR X f (rU fun i => .int (g i)) := by
 intro pins s σ H x v Q I rx h
 obtain ⟨i, rfl, q⟩ := h
 obtain ⟨t, rfl⟩ := rx
 exact rule i t s _ _ ⟨.int (g i), H, I.tok _, ⟨_, rfl⟩, q⟩
theorem un_neg : UnR X (unaryOp .USub) (rU fun i => .int (-i)) := unI fun _ _ _ _ _ q => neg_int q
end
def scal : V → V → Bool
 | .non, .non => true | .non, .int _ => true | .int _, .non => true | .non, .bl _ => true | .bl _, .non => true | .non, .str _ => true | .str _, .non => true
 | .int _, .int _ => true | .bl _, .bl _ => true | .str _, .str _ => true | .byt _, .byt _ => true
 | .int _, .str _ => true | .str _, .int _ => true | .bl _, .str _ => true | .str _, .bl _ => true
 | _, _ => false
def rEq : R2 := fun x y H Q => scal x y = true ∧ Q (.bl (decide (x = y))) H
def rNe : R2 := fun x y H Q => scal x y = true ∧ Q (.bl (!decide (x = y))) H
theorem dec_int {i j : Int} : decide (V.int i = V.int j) = (i == j) := by
 rw [Bool.eq_iff_iff]
 simp
theorem dec_bl {i j : Bool} : decide (V.bl i = V.bl j) = (i == j) := by
 rw [Bool.eq_iff_iff]
 simp
theorem dec_str {i j : Str} : decide (V.str i = V.str j) = (i == j) := by
 rw [Bool.eq_iff_iff]
 simp
theorem dec_byt {i j : Array UInt8} : decide (V.byt i = V.byt j) = (i.toList == j.toList) := by
 rw [Bool.eq_iff_iff]
 cases i
 cases j
 simp
section
variable {X : Cx} {a b c : Expr} {ta tb tc : TE} {pos : Pos}
theorem fin_bl {pins : List (Addr × Obj)} {σ : St} {H : Hp} {s : Shared} {Q : VK} {k k' : Bool} (I : Inv X pins σ H s) (q : Q (.bl k) H) (e : k = k') : EP X pins σ Q (.bool k') s := by
 subst e
 exact ⟨.bl k, H, I, rfl, q⟩
theorem op_eq : OpR X (compareOp .Eq) rEq := by
 intro pins s σ H x y v u Q I rx ry h
 obtain ⟨hs, q⟩ := h
 cases x with
 | non =>
   cases rx
   cases y with
   | non => cases ry; exact PySem.EqNone.eq_none_none (fin_bl I q (by simp))
   | bl j => cases ry; exact PySem.EqNone.eq_none_bool (fin_bl I q (by simp))
   | int j => obtain ⟨t', rfl⟩ := ry; exact PySem.EqNone.eq_none_int (fin_bl I q (by simp))
   | str j => obtain ⟨t', rfl⟩ := ry; exact PySem.EqNone.eq_none_str (fin_bl I q (by simp))
   | _ => exact absurd (show false = true from hs) Bool.false_ne_true
 | bl i =>
   cases rx
   cases y with
   | non => cases ry; exact PySem.EqNone.eq_bool_none (fin_bl I q (by simp))
   | bl j => cases ry; exact eq_bool (fin_bl I q dec_bl)
   | str j => obtain ⟨t', rfl⟩ := ry; exact PySem.EqMixed.eq_bool_str (fin_bl I q (by simp))
   | _ => exact absurd (show false = true from hs) Bool.false_ne_true
 | int i =>
   obtain ⟨t, rfl⟩ := rx
   cases y with
   | non => cases ry; exact PySem.EqNone.eq_int_none (fin_bl I q (by simp))
   | int j => obtain ⟨t', rfl⟩ := ry; exact eq_int (fin_bl I q dec_int)
   | str j => obtain ⟨t', rfl⟩ := ry; exact PySem.EqMixed.eq_int_str (fin_bl I q (by simp))
   | _ => exact absurd (show false = true from hs) Bool.false_ne_true
 | str i =>
   obtain ⟨t, rfl⟩ := rx
   cases y with
   | non => cases ry; exact PySem.EqNone.eq_str_none (fin_bl I q (by simp))
   | bl j => cases ry; exact PySem.EqMixed.eq_str_bool (fin_bl I q (by simp))
   | int j => obtain ⟨t', rfl⟩ := ry; exact PySem.EqMixed.eq_str_int (fin_bl I q (by simp))
   | str j => obtain ⟨t', rfl⟩ := ry; exact eq_str (fin_bl I q dec_str)
   | _ => exact absurd (show false = true from hs) Bool.false_ne_true
 | byt i =>
   obtain ⟨t, rfl⟩ := rx
   cases y with
   | byt j => obtain ⟨t', rfl⟩ := ry; exact PySem.W.eq_bytes (fin_bl I q dec_byt)
   | _ => exact absurd (show false = true from hs) Bool.false_ne_true
 | _ => cases y <;> exact absurd (show false = true from hs) Bool.false_ne_true
theorem op_ne : OpR X (compareOp .NotEq) rNe := by
 intro pins s σ H x y v u Q I rx ry h
 obtain ⟨hs, q⟩ := h
 cases x with
 | non =>
   cases rx
   cases y with
   | non => cases ry; exact PySem.EqNone.ne_none_none (fin_bl I q (by simp))
   | bl j => cases ry; exact PySem.EqNone.ne_none_bool (fin_bl I q (by simp))
   | int j => obtain ⟨t', rfl⟩ := ry; exact PySem.EqNone.ne_none_int (fin_bl I q (by simp))
   | str j => obtain ⟨t', rfl⟩ := ry; exact PySem.EqNone.ne_none_str (fin_bl I q (by simp))
   | _ => exact absurd (show false = true from hs) Bool.false_ne_true
 | bl i =>
   cases rx
   cases y with
   | non => cases ry; exact PySem.EqNone.ne_bool_none (fin_bl I q (by simp))
   | bl j => cases ry; exact ne_bool (fin_bl I q (congrArg not dec_bl))
   | str j => obtain ⟨t', rfl⟩ := ry; exact PySem.EqMixed.ne_bool_str (fin_bl I q (by simp))
   | _ => exact absurd (show false = true from hs) Bool.false_ne_true
 | int i =>
   obtain ⟨t, rfl⟩ := rx
   cases y with
   | non => cases ry; exact PySem.EqNone.ne_int_none (fin_bl I q (by simp))
   | int j => obtain ⟨t', rfl⟩ := ry; exact ne_int (fin_bl I q (congrArg not dec_int))
   | str j => obtain ⟨t', rfl⟩ := ry; exact PySem.EqMixed.ne_int_str (fin_bl I q (by simp))
   | _ => exact absurd (show false = true from hs) Bool.false_ne_true
 | str i =>
   obtain ⟨t, rfl⟩ := rx
   cases y with
   | non => cases ry; exact PySem.EqNone.ne_str_none (fin_bl I q (by simp))
   | bl j => cases ry; exact PySem.EqMixed.ne_str_bool (fin_bl I q (by simp))
   | int j => obtain ⟨t', rfl⟩ := ry; exact PySem.EqMixed.ne_str_int (fin_bl I q (by simp))
   | str j => obtain ⟨t', rfl⟩ := ry; exact ne_str (fin_bl I q (congrArg not dec_str))
   | _ => exact absurd (show false = true from hs) Bool.false_ne_true
 | byt i =>
   obtain ⟨t, rfl⟩ := rx
   cases y with
   | byt j => obtain ⟨t', rfl⟩ := ry; exact PySem.W.ne_bytes (fin_bl I q (congrArg not dec_byt))
   | _ => exact absurd (show false = true from hs) Bool.false_ne_true
 | _ => cases y <;> exact absurd (show false = true from hs) Bool.false_ne_true
theorem op_lt : OpR X (compareOp .Lt) (rI0 fun i j => .bl (decide (i < j))) := opB0 fun _ _ _ _ _ _ _ q => lt_int q
theorem op_le : OpR X (compareOp .LtE) (rI0 fun i j => .bl (decide (i ≤ j))) := opB0 fun _ _ _ _ _ _ _ q => le_int q
theorem op_gt : OpR X (compareOp .Gt) (rI0 fun i j => .bl (decide (j < i))) := opB0 fun _ _ _ _ _ _ _ q => gt_int q
theorem op_ge : OpR X (compareOp .GtE) (rI0 fun i j => .bl (decide (j ≤ i))) := opB0 fun _ _ _ _ _ _ _ q => ge_int q
theorem op_isN : OpR X (compareOp .Is) (fun x y H Q => y = .non ∧ Q (.bl (decide (x = .non))) H) := by
 intro pins s σ H x y v u Q I rx ry h
 obtain ⟨rfl, q⟩ := h
 cases ry
 refine is_none_gen (fin_bl I q ?_)
 cases x <;> first
   | (cases rx; rfl)
   | (obtain ⟨t, rfl⟩ := rx; rfl)
theorem OpR.or {f : Value → Value → Sem Value} {r r' : R2} (h : OpR X f r) (h' : OpR X f r') : OpR X f (fun x y H Q => r x y H Q ∨ r' x y H Q) := by
 intro pins s σ H x y v u Q I rx ry q
 rcases q with q | q
 · exact h pins s σ H x y v u Q I rx ry q
 · exact h' pins s σ H x y v u Q I rx ry q
theorem nomark (b : Expr) {op : CmpOp} (h : op ≠ .In := by decide) (h2 : op ≠ .NotIn := by decide) : behindInMarks op b = false := by
 have e1 : (op == CmpOp.In) = false := by cases op <;> first | rfl | exact absurd rfl h
 have e2 : (op == CmpOp.NotIn) = false := by cases op <;> first | rfl | exact absurd rfl h2
 cases b <;> simp [behindInMarks, e1, e2]
theorem pe_cmpR {op : CmpOp} {r : R2} (ho : OpR X (compareOp op) r) (ha : PE X a ta) (hb : PE X b tb) (hm : behindInMarks op b = false) : PE X (.Compare a [op] [b] pos) (tOp r ta tb) := by
 intro pins s σ H Q I h
 exact wpAny_Compare1 (binT ha hb I h fun v u s2 x y H2 I2 rx ry q => ho pins s2 σ H2 x y v u Q I2 rx ry q) hm
def tTest (t : TE) : TT := fun σ H Q => t σ H fun x H' => ∃ k, x = .bl k ∧ Q k H'
theorem pt_cmpR {op : CmpOp} {r : R2} (ho : OpR X (compareOp op) r) (ha : PE X a ta) (hb : PE X b tb) (hm : behindInMarks op b = false) : PT X (.Compare a [op] [b] pos) (tTest (tOp r ta tb)) := by
 intro pins s σ H Q I h
 refine wpAny_isTrue_Compare1 (thn (ha pins s σ H _ I h) fun v s1 ⟨x, H1, I1, r1, q1⟩ => thn (hb pins s1 σ H1 _ I1 q1) fun u s2 ⟨y, H2, I2, r2, q2⟩ =>
   thn (ho pins s2 σ H2 x y v u _ I2 r1 r2 q2) fun c s3 ⟨z, H3, I3, r3, k, e, q3⟩ => ?_) hm
 subst e
 cases r3
 exact wpAny_truthy_bool ⟨H3, I3, q3⟩
def tChain (r r' : R2) (ta tb tc : TE) : TE := fun σ H Q => ta σ H fun x H1 => tb σ H1 fun y H2 => r x y H2 fun z H3 => ∃ k, z = .bl k ∧
 (if k = true then tc σ H3 fun w' H4 => r' y w' H4 Q else Q (.bl false) H3)
theorem pe_chain {op op' : CmpOp} {r r' : R2} (ho : OpR X (compareOp op) r) (ho' : OpR X (compareOp op') r') (ha : PE X a ta) (hb : PE X b tb) (hc : PE X c tc)
   (hm : lastMarks [op, op'] [b, c] = false := by with_unfolding_all rfl) : PE X (.Compare a [op, op'] [b, c] pos) (tChain r r' ta tb tc) := by
 intro pins s σ H Q I h
 refine Compare_chain (thn (ha pins s σ H _ I h) fun v s1 ⟨x, H1, I1, r1, q1⟩ => chain_link (thn (hb pins s1 σ H1 _ I1 q1) fun u s2 ⟨y, H2, I2, r2, q2⟩ =>
   thn (ho pins s2 σ H2 x y v u _ I2 r1 r2 q2) fun d s3 ⟨z, H3, I3, r3, k, e, q3⟩ => ?_)) hm
 subst e
 cases r3
 refine wpAny_truthy_bool ?_
 cases k with
 | false => exact ite_ff ⟨.bl false, H3, I3, rfl, q3⟩
 | true => exact ite_tt (chain_last (thn (hc pins s3 σ H3 _ I3 q3) fun w' s4 ⟨z', H4, I4, r4, q4⟩ => ho' pins s4 σ H4 y z' u w' Q I4 r2 r4 q4))
theorem pt_chain {op op' : CmpOp} {r r' : R2} (ho : OpR X (compareOp op) r) (ho' : OpR X (compareOp op') r') (ha : PE X a ta) (hb : PE X b tb) (hc : PE X c tc)
   (hm : lastMarks [op, op'] [b, c] = false := by with_unfolding_all rfl) : PT X (.Compare a [op, op'] [b, c] pos) (tTest (tChain r r' ta tb tc)) := by
 intro pins s σ H Q I h
 refine isTrue_chain (thn (ha pins s σ H _ I h) fun v s1 ⟨x, H1, I1, r1, q1⟩ => test_link (thn (hb pins s1 σ H1 _ I1 q1) fun u s2 ⟨y, H2, I2, r2, q2⟩ =>
   thn (ho pins s2 σ H2 x y v u _ I2 r1 r2 q2) fun d s3 ⟨z, H3, I3, r3, k, e, q3⟩ => ?_)) hm
 subst e
 cases r3
 refine wpAny_truthy_bool ?_
 cases k with
 | false =>
   obtain ⟨k', e', q'⟩ := q3
   cases e'
   exact ite_ff ⟨H3, I3, q'⟩
 | true =>
   refine ite_tt (test_last (thn (hc pins s3 σ H3 _ I3 q3) fun w' s4 ⟨z', H4, I4, r4, q4⟩ => thn (ho' pins s4 σ H4 y z' u w' _ I4 r2 r4 q4) fun d' s5 ⟨z2, H5, I5, r5, k2, e2, q5⟩ => ?_))
   subst e2
   cases r5
   exact wpAny_truthy_bool ⟨H5, I5, q5⟩
def TruV (K : PySem.W.Frag) (x : V) (H : Hp) (k : Bool) : Prop :=
 match x with
 | .non => k = false
 | .bl b => k = b
 | .int i => k = (i != 0)
 | .str y => y.length ≤ sizeLine ∧ k = ((y.length : Int) != 0)
 | .byt y => y.size ≤ sizeLine ∧ k = ((y.size : Int) != 0)
 | .ref p => (∃ xs, SqL K H p xs ∧ k = !xs.isEmpty) ∨ (∃ xs, SqT K H p xs ∧ k = !xs.isEmpty) ∨ ∃ kvs, H p = some (.dK kvs) ∧ k = !kvs.isEmpty
 | _ => False
theorem isEmpty_kv {κ : Type} {kvs : List (κ × V)} {vs : List (κ × Value)} (r : KV kvs vs) : (!vs.isEmpty) = !kvs.isEmpty := by
 cases r <;> rfl
theorem isEmpty_of {xs : List V} {its : List Value} (r : Vals xs its) : (!its.toArray.isEmpty) = !xs.isEmpty := by
 cases r <;> simp
theorem line63 : (sizeLine : Nat) < 2 ^ 63 := by rw [sizeLine_eq]; decide
theorem tru_ok : TruR X (fun x H Q => ∃ k, TruV X.K x H k ∧ Q k H) := by
 intro pins s σ H x v Q I rx h
 obtain ⟨k, e, q⟩ := h
 have hl := line63
 have hs : sizeLine = 16777216 := sizeLine_eq
 cases x with
 | non =>
   cases rx
   have e' : k = false := e
   subst e'
   exact truthy_none ⟨H, I, q⟩
 | bl b =>
   cases rx
   have e' : k = b := e
   subst e'
   exact wpAny_truthy_bool ⟨H, I, q⟩
 | int i =>
   obtain ⟨t, rfl⟩ := rx
   have e' : k = (i != 0) := e
   subst e'
   exact PySem.P.truthy_int ⟨H, I, q⟩
 | str y =>
   obtain ⟨t, rfl⟩ := rx
   obtain ⟨hy, e'⟩ : y.length ≤ sizeLine ∧ k = ((y.length : Int) != 0) := e
   subst e'
   exact PySem.P.truthy_str (by omega) ⟨H, I.tok _, q⟩
 | byt y =>
   obtain ⟨t, rfl⟩ := rx
   obtain ⟨hy, e'⟩ : y.size ≤ sizeLine ∧ k = ((y.size : Int) != 0) := e
   subst e'
   exact PySem.W.truthy_bytes (by omega) ⟨H, I.tok _, q⟩
 | ref p =>
   cases rx
   have e' : (∃ xs, SqL X.K H p xs ∧ k = !xs.isEmpty) ∨ (∃ xs, SqT X.K H p xs ∧ k = !xs.isEmpty) ∨ ∃ kvs, H p = some (.dK kvs) ∧ k = !kvs.isEmpty := e
   rcases e' with ⟨xs, hx, e'⟩ | ⟨xs, hx, e'⟩ | ⟨kvs, hx, e'⟩
   · subst e'
     obtain ⟨its, r, pl, hz⟩ := I.list hx
     have hlen := r.length
     exact wpAny_truthy_list pl.isList (by simp only [List.size_toArray]; omega) ⟨H, I.tok _, by rw [isEmpty_of r]; exact q⟩
   · subst e'
     obtain ⟨its, r, pl, hz⟩ := I.tuple hx
     have hlen := r.length
     exact truthy_tuple pl (by simp only [List.size_toArray]; omega) ⟨H, I.tok _, by rw [isEmpty_of r]; exact q⟩
   · subst e'
     obtain ⟨hz, hS, vs, r, m⟩ : kvs.length ≤ sizeLine ∧ (p == sysModules) = false ∧ ∃ vs, KV kvs vs ∧ s.heap.DictOf (mixKind X.prog X.w) p vs := I.hok p _ hx
     have hlen : kvs.length = vs.length := Paired.length r
     exact wpAny_truthy_dict hS m (by omega) ⟨H, I.tok _, by rw [isEmpty_kv r]; exact q⟩
 | _ => exact (show False from e).elim
theorem pt_truth (ha : PE X a ta) (he : ∀ whole, isTrue a X.env whole = (do let v ← whole; standAt a.pos; holding [v] (truthy v))) :
   PT X a (fun σ H Q => ta σ H fun x H' => ∃ k, TruV X.K x H' k ∧ Q k H') := by
 intro pins s σ H Q I h
 exact isTrue_plain (thn (ha pins s σ H _ I h) fun v s1 ⟨x, H1, I1, r1, q1⟩ => tru_ok pins s1 σ H1 x v Q I1 r1 q1) (he _)
theorem op_add_str : OpR X (binaryOp .Add) (fun x y H Q => ∃ i j, x = .str i ∧ y = .str j ∧ i.length + j.length ≤ sizeLine ∧ Q (.str (i ++ j)) H) := by
 intro pins s σ H x y v u Q I rx ry h
 obtain ⟨i, j, rfl, rfl, hz, q⟩ := h
 obtain ⟨t, rfl⟩ := rx
 obtain ⟨t', rfl⟩ := ry
 exact add_str (fun t' tk => ⟨.str (i ++ j), H, I.tok _, ⟨_, rfl⟩, q⟩) hz
theorem vals1 {x : V} {us : List Value} (r : Vals [x] us) : ∃ u, us = [u] ∧ RelV x u := by
 cases r with
 | cons r1 r2 => cases r2; exact ⟨_, rfl, r1⟩
theorem vals2 {x y : V} {us : List Value} (r : Vals [x, y] us) : ∃ u w', us = [u, w'] ∧ RelV x u ∧ RelV y w' := by
 cases r with
 | cons r1 r2 =>
   cases r2 with
   | cons r3 r4 => cases r4; exact ⟨_, _, rfl, r1, r3⟩
def LenV (K : PySem.W.Frag) (x : V) (H : Hp) (n : Nat) : Prop :=
 match x with
 | .str y => y.length ≤ sizeLine ∧ n = y.length
 | .byt y => y.size ≤ sizeLine ∧ n = y.size
 | .ref p => (∃ xs, SqL K H p xs ∧ n = xs.length) ∨ ∃ xs, SqT K H p xs ∧ n = xs.length
 | _ => False
theorem call_len : CallR X (.builtin "len") (fun xs H Q => ∃ x n, xs = [x] ∧ LenV X.K x H n ∧ Q (.int n) H) := by
 intro pins s σ H xs us Q I r h
 obtain ⟨x, n, rfl, e, q⟩ := h
 obtain ⟨u, rfl, rx⟩ := vals1 r
 have hl := line63
 have hs : sizeLine = 16777216 := sizeLine_eq
 cases x with
 | str y =>
   obtain ⟨t, rfl⟩ := rx
   obtain ⟨hy, e'⟩ : y.length ≤ sizeLine ∧ n = y.length := e
   subst e'
   exact len_str (by omega) ⟨.int _, H, I.tok _, ⟨_, rfl⟩, q⟩
 | byt y =>
   obtain ⟨t, rfl⟩ := rx
   obtain ⟨hy, e'⟩ : y.size ≤ sizeLine ∧ n = y.size := e
   subst e'
   exact PySem.W.len_bytes (by omega) ⟨.int _, H, I.tok _, ⟨_, rfl⟩, q⟩
 | ref p =>
   cases rx
   have e' : (∃ xs, SqL X.K H p xs ∧ n = xs.length) ∨ ∃ xs, SqT X.K H p xs ∧ n = xs.length := e
   rcases e' with ⟨xs, hx, e'⟩ | ⟨xs, hx, e'⟩
   · subst e'
     obtain ⟨its, r', pl, hz⟩ := I.list hx
     have hlen := r'.length
     exact Calls.call_len_list pl.isList (by simp only [List.size_toArray]; omega) ⟨.int xs.length, H, I.tok _, ⟨_, by simp only [List.size_toArray]; rw [hlen]⟩, q⟩
   · subst e'
     obtain ⟨its, r', pl, hz⟩ := I.tuple hx
     have hlen := r'.length
     exact len_tuple pl (by simp only [List.size_toArray]; omega) ⟨.int xs.length, H, I.tok _, ⟨_, by simp only [List.size_toArray]; rw [hlen]⟩, q⟩
 | _ => exact (show False from e).elim
end
end L2
namespace L2
open PySem PySem.Spec PyProof.Rows
structure ObjM (h : Heap) (x dx C : Addr) (mA : Str → Option Value) : Prop where
 obj : h.get? x = some (PySem.W.instObj C dx)
 ns : h.Ns1 dx mA
 ne : dx ≠ x
theorem lookIn_ns {h : Heap} {dx : Addr} {mA : Str → Option Value} (n : h.Ns1 dx mA) : ∃ od, h.get? dx = some od ∧ ∀ name, PySem.W.lookIn name od = some (mA name) := by
 obtain ⟨o, es, ep, ho, hd, hk, _, hm⟩ := n
 refine ⟨o, ho, fun name => ?_⟩
 have e := hm name
 unfold nsFind findBy at e
 rw [← Array.find?_toList] at e
 unfold PySem.W.lookIn
 rw [hd]
 dsimp only
 split
 · rename_i y q
   rw [q] at e
   exact congrArg some e
 · rename_i q
   rw [q] at e
   have a : es.toList.any (·.refKey) = false := by
     rw [List.any_eq_false]
     intro y hy
     obtain ⟨z, t, hkey⟩ := hk y (Array.mem_toList_iff.mp hy)
     simp [DictEntry.refKey, hkey]
   have a' : ¬ es.toList.any (·.refKey) = true := by rw [a]; exact Bool.false_ne_true
   rw [if_neg a']
   exact congrArg some e
theorem ObjM.look {h : Heap} {x dx C : Addr} {mA : Str → Option Value} (I : ObjM h x dx C mA) : ∃ od, PySem.W.InstAt h x (PySem.W.instObj C dx) C (some od) ∧ ∀ name, PySem.W.lookIn name od = some (mA name) :=
 let ⟨od, ho, hl⟩ := lookIn_ns I.ns
 ⟨od, ⟨I.obj, rfl, rfl, ho⟩, hl⟩
section
variable {prog : Program} {w : World} {A : Around} {E : Value → Shared → Prop} {s : Shared} {K : PySem.W.Frag} {x dx C f : Addr} {mA : Str → Option Value} {name : Str} {v : Value}
theorem get_map {expr : Bool} {Q : Value → Shared → Prop} (X : K.In s.heap) (I : ObjM s.heap x dx C mA) (hg : PySem.W.plainGet K C name = true) (hh : PySem.W.hasDictIn K C = true)
   (ha : PySem.W.findIn K (.ref C) name = some none) (hv : mA name = some v) (hv' : PySem.W.handedIn v = true) (h : Q v { s with toks := s.toks + 1 }) :
   wpAny (model prog w) A (getAttr (.ref x) name expr) Q E s := by
 obtain ⟨od, J, hl⟩ := I.look
 exact PySem.W.get_value X J (PySem.W.plainGet_of hg).1 (PySem.W.findObj_own hh ha rfl (by rw [hl, hv])) hv' h
theorem get_meth {pl : Sem Bool} {Q : Value × List Value → Shared → Prop} (X : K.In s.heap) (I : ObjM s.heap x dx C mA) (hg : PySem.W.plainGet K C name = true)
   (hf : PySem.W.findIn K (.ref C) name = some (some (.ref f))) (ht : PySem.W.isFn K (.ref f) = true) (hv : mA name = none) (h : Q (.ref f, [.ref x]) s) :
   wpAny (model prog w) A (getMethod (.ref x) name pl) Q E s := by
 obtain ⟨od, J, hl⟩ := I.look
 exact PySem.W.method_fn X J (PySem.W.plainGet_of hg).1 (PySem.W.plainGet_of hg).2 hf (beq_iff_eq.mp ht) (by show (PySem.W.lookIn name od).map (·.isSome) = some false; rw [hl, hv]; rfl) h
theorem set_map {ns : List Str} {Q : Unit → Shared → Prop} (X : K.In s.heap) (I : ObjM s.heap x dx C mA)
   (hs : PySem.W.findIn K (.ref C) "__setattr__" = some (some (.builtin "object.__setattr__"))) (hp : PySem.W.plainOver K C = true) (ht : PySem.W.takerIn K C name = some none) (hh : PySem.W.hasDictIn K C = true)
   (hw : PySem.Within mA ns) (hsz : ns.length ≤ sizeLine)
   (h : ∀ h', ObjM h' x dx C (fun y => if y = name then some v else mA y) → Heap.SameBut dx s.heap h' → Q () { s with heap := h', toks := s.toks + 2 }) :
   wpAny (model prog w) A (setAttr (.ref x) name v) Q E s := by
 obtain ⟨od, J, hl⟩ := I.look
 refine PySem.W.set_plain X J hs (PySem.W.osa_open (s := { s with toks := s.toks + 1 }) (r := none) X J hp ht fun b => ?_)
 obtain ⟨cd, hc, hd'⟩ := PySem.W.any_some hh
 have hx : s.heap.get? x = some ⟨.ref C, some dx, .plain, #[]⟩ := I.obj
 refine wpAny_bind (wpAny_pure (wpAny_bind (wpAny_bind (wpAny_loadPart hx (wpAny_bind (PySem.W.Looks.here (s := { s with toks := s.toks + 1 }) (PySem.W.looks_clsIn X hc) ?_))))))
 rw [hd']
 refine wpAny_pure (a := some dx) (wpAny_bind (wpAny_pure (wpAny_bind ?_)))
 refine wpAny_nsSet1 (s := { s with toks := s.toks + 1 }) I.ns fun h' hn2 hs2 => ?_
 obtain ⟨oD, esD, epD, hoD, hdD, hcD⟩ := hn2.count (PySem.Within.cons name v hw)
 refine wpAny_bind (wpAny_lookBehind hoD (by rw [hdD]; exact pastItsLine_dict (Nat.le_trans hcD (by rw [List.length_cons]; omega))) ?_)
 exact wpAny_pure (h _ ⟨(hs2.2 _ (Ne.symm I.ne)).trans I.obj, hn2, I.ne⟩ hs2)
theorem make_map {R : Result → Shared → Prop} {vs : List Value} {kw : List (Str × Value)} (X : K.In s.heap) (hm : PySem.W.makesIn K C = true)
   (hi : PySem.W.findIn K (.ref C) "__init__" = some (some (.ref f))) (hf : PySem.W.typeIn K (.ref f) = some (.type "function"))
   (h : codeAny (model prog w) (A.under (.builtin "type.__call__" ⟨.ref C :: vs, kw⟩)) (.call (.ref f) ⟨.ref (s.heap.objs.size + 1) :: vs, kw⟩) (PySem.W.InitBack (s.heap.objs.size + 1) R)
     { s with heap := (s.heap.push PySem.W.emptyDict).push (PySem.W.instObj C s.heap.objs.size) }) :
   codeAny (model prog w) A (.call (.ref C) ⟨vs, kw⟩) R s := by
 obtain ⟨hh, g, d, t, os⟩ := s
 exact PySem.W.make_core (PySem.W.makes_of X hm) (PySem.W.looks_findIn X hi) (fun self => PySem.W.bind_fn X self hf) (.inl rfl) h
end
def putF (f : Str) (v : V) : List (Str × V) → List (Str × V)
 | [] => [(f, v)]
 | (g, x) :: r => if g = f then (g, v) :: r else (g, x) :: putF f v r
theorem lookup_putF (f g : Str) (v : V) : ∀ fs : List (Str × V), (putF f v fs).lookup g = if g = f then some v else fs.lookup g
 | [] => by
   show List.lookup g [(f, v)] = _
   by_cases h : g = f
   · have hb : (g == f) = true := beq_iff_eq.mpr h
     simp only [List.lookup, hb, if_pos h]
   · have hb : (g == f) = false := beq_eq_false_iff_ne.mpr h
     simp only [List.lookup, hb, if_neg h]
 | (k, x) :: r => by
   have ih := lookup_putF f g v r
   rw [show putF f v ((k, x) :: r) = (if k = f then (k, v) :: r else (k, x) :: putF f v r) from rfl]
   by_cases hk : k = f
   · rw [if_pos hk]
     by_cases h : g = k
     · have hb : (g == k) = true := beq_iff_eq.mpr h
       simp only [List.lookup, hb, if_pos (h.trans hk)]
     · have hb : (g == k) = false := beq_eq_false_iff_ne.mpr h
       simp only [List.lookup, hb, if_neg (fun e : g = f => h (e.trans hk.symm))]
   · rw [if_neg hk]
     by_cases h : g = k
     · have hb : (g == k) = true := beq_iff_eq.mpr h
       simp only [List.lookup, hb, if_neg (fun e : g = f => hk (h.symm.trans e))]
     · have hb : (g == k) = false := beq_eq_false_iff_ne.mpr h
       simp only [List.lookup, hb]
       exact ih
theorem keys_putF (f : Str) (v : V) : ∀ fs : List (Str × V), f ∈ (putF f v fs).map (·.1) ∧ ∀ g, g ∈ fs.map (·.1) → g ∈ (putF f v fs).map (·.1)
 | [] => ⟨by simp [putF], fun g h => by simp at h⟩
 | (k, x) :: r => by
   obtain ⟨i1, i2⟩ := keys_putF f v r
   rw [show putF f v ((k, x) :: r) = (if k = f then (k, v) :: r else (k, x) :: putF f v r) from rfl]
   by_cases hk : k = f
   · rw [if_pos hk]
     subst hk
     exact ⟨by simp, fun g h => by simpa using h⟩
   · rw [if_neg hk]
     refine ⟨?_, fun g h => ?_⟩
     · rw [List.map_cons]
       exact List.mem_cons_of_mem _ i1
     · rw [List.map_cons] at h ⊢
       rcases List.mem_cons.mp h with e | e
       · exact List.mem_cons.mpr (.inl e)
       · exact List.mem_cons_of_mem _ (i2 g e)
theorem length_putF (f : Str) (v : V) : ∀ fs : List (Str × V), (putF f v fs).length ≤ fs.length + 1
 | [] => by simp [putF]
 | (k, x) :: r => by
   have ih := length_putF f v r
   rw [show putF f v ((k, x) :: r) = (if k = f then (k, v) :: r else (k, x) :: putF f v r) from rfl]
   by_cases hk : k = f
   · rw [if_pos hk, List.length_cons, List.length_cons]; omega
   · rw [if_neg hk, List.length_cons, List.length_cons]; omega
theorem RelO.some_of {v : V} {o : Option Value} (r : RelO (some v) o) : ∃ u, o = some u ∧ RelV v u := by
 cases o with
 | none => exact (show False from r).elim
 | some u => exact ⟨u, rfl, r⟩
theorem RelO.none_of {o : Option Value} (r : RelO none o) : o = none := by
 cases o with
 | none => rfl
 | some u => exact (show False from r).elim
theorem handed_of {v : V} {u : Value} (r : RelV v u) : PySem.W.handedIn u = true := by
 cases v with
 | non => cases (show u = Value.none from r); rfl
 | bl b => cases (show u = Value.bool b from r); rfl
 | int i => obtain ⟨t, e⟩ := (show ∃ t, u = Value.int i t from r); cases e; rfl
 | str x => obtain ⟨t, e⟩ := (show ∃ t, u = Value.str x t from r); cases e; rfl
 | byt b => obtain ⟨t, e⟩ := (show ∃ t, u = Value.bytes b t from r); cases e; rfl
 | flt b => obtain ⟨t, e⟩ := (show ∃ t, u = Value.float b t from r); cases e; rfl
 | ref a => cases (show u = Value.ref a from r); rfl
 | ty n => cases (show u = Value.type n from r); rfl
section
variable {P : Program} {w : World} {H H' : Hp} {h h' : Heap} {a C dx : Addr} {fs fs' : List (Str × V)}
theorem ins_get (hok : HOk P w H h) (e : H a = some (.ins C dx fs)) : ∃ mA, ObjM h a dx C mA ∧ (∀ f, RelO (fs.lookup f) (mA f)) ∧ PySem.Within mA (fs.map (·.1)) ∧ fs.length ≤ 1000 ∧ H dx = some (.own a) := by
 obtain ⟨d, z, ne, ob, mA, n, r, q⟩ := (show ObjOk P w H h a (.ins C dx fs) from hok a _ e)
 exact ⟨mA, ⟨ob, n, ne⟩, r, q, z, d⟩
end
structure Cls (K : PySem.W.Frag) (C : Addr) : Prop where
 pg : PySem.W.plainGet K C Str.empty = true
 hd : PySem.W.hasDictIn K C = true
 po : PySem.W.plainOver K C = true
 sa : PySem.W.findIn K (.ref C) "__setattr__" = some (some (.builtin "object.__setattr__"))
theorem Cls.get {K : PySem.W.Frag} {C : Addr} (c : Cls K C) (f : Str) : PySem.W.plainGet K C f = true := c.pg
def NoAttr (K : PySem.W.Frag) (C : Addr) (f : Str) : Prop := PySem.W.findIn K (.ref C) f = some none
theorem NoAttr.taker {K : PySem.W.Frag} {C : Addr} {f : Str} (n : NoAttr K C f) : PySem.W.takerIn K C f = some none := by
 unfold PySem.W.takerIn
 rw [show PySem.W.findIn K (.ref C) f = some none from n]
 rfl
structure Meth (K : PySem.W.Frag) (C : Addr) (m : Str) (f : Addr) : Prop where
 at_ : PySem.W.findIn K (.ref C) m = some (some (.ref f))
 fn : PySem.W.isFn K (.ref f) = true
 kp : PySem.W.keepIn K (.ref f) = true
section
variable {X : Cx} {pins : List (Addr × Obj)} {σ : St} {H : Hp} {s : Shared} {a C dx : Addr} {fs : List (Str × V)} {f : Str} {v : V} {A : Around} {E : Value → Shared → Prop}
theorem getattr_ok {b : Bool} {Q : Value → Shared → Prop} (I : Inv X pins σ H s) (e : H a = some (.ins C dx fs)) (c : Cls X.K C) (n : NoAttr X.K C f) (l : fs.lookup f = some v)
   (h : ∀ u s', Inv X pins σ H s' → RelV v u → Q u s') : wpAny (model X.prog X.w) A (getAttr (.ref a) f b) Q E s := by
 obtain ⟨mA, O, r, _, _, _⟩ := ins_get I.hok e
 obtain ⟨u, hu, ru⟩ := RelO.some_of (v := v) (o := mA f) (by rw [← l]; exact r f)
 exact get_map I.kIn O (c.get f) c.hd n hu (handed_of ru) (h u _ (I.tok _) ru)
theorem getmeth_ok {m : Str} {g : Addr} {pl : Sem Bool} {Q : Value × List Value → Shared → Prop} (I : Inv X pins σ H s) (e : H a = some (.ins C dx fs)) (c : Cls X.K C) (k : Meth X.K C m g) (l : fs.lookup m = none)
   (h : Q (.ref g, [.ref a]) s) : wpAny (model X.prog X.w) A (getMethod (.ref a) m pl) Q E s := by
 obtain ⟨mA, O, r, _, _, _⟩ := ins_get I.hok e
 have hn : mA m = none := RelO.none_of (by rw [← l]; exact r m)
 exact get_meth I.kIn O (c.get m) k.at_ k.fn hn h
theorem setattr_ok {y : V} {u : Value} {Q : Unit → Shared → Prop} (I : Inv X pins σ H s) (e : H a = some (.ins C dx fs)) (c : Cls X.K C) (n : NoAttr X.K C f) (hl : fs.length < 1000) (ry : RelV y u)
   (h : ∀ s', Inv X pins σ (upd H a (.ins C dx (putF f y fs))) s' → Q () s') : wpAny (model X.prog X.w) A (setAttr (.ref a) f u) Q E s := by
 obtain ⟨mA, O, r, wi, _, ho⟩ := ins_get I.hok e
 have hz : (fs.map (·.1)).length ≤ sizeLine := by rw [List.length_map, sizeLine_eq]; omega
 refine set_map I.kIn O c.sa c.po n.taker c.hd wi hz fun h' O' sb => h _ ?_
 have hd : ∃ o, h'.get? dx = some o := let ⟨o, _, _, e', _⟩ := O'.ns; ⟨o, e'⟩
 refine I.write (x := a) (e := dx) (by rw [e]; exact True.intro) (.inr ho) (fun b q hb z => (sb.2 b hb).trans z) hd ?_
 refine ⟨by rw [upd_ne O.ne]; exact ho, ?_, O.ne, O'.obj, _, O'.ns, fun g => ?_, fun g hg => ?_⟩
 · have := length_putF f y fs; omega
 · show RelO ((putF f y fs).lookup g) (if g = f then some u else mA g)
   rw [lookup_putF]
   by_cases q : g = f
   · rw [if_pos q, if_pos q]; exact ry
   · rw [if_neg q, if_neg q]; exact r g
 · by_cases q : g = f
   · rw [q]; exact (keys_putF f y fs).1
   · refine (keys_putF f y fs).2 g (wi g fun z => hg ?_)
     show (if g = f then some u else mA g) = none
     rw [if_neg q]; exact z
theorem Inv.made (I : Inv X pins σ H s) : Inv X pins σ (upd (upd H s.heap.objs.size (.own (s.heap.objs.size + 1))) (s.heap.objs.size + 1) (.ins C s.heap.objs.size []))
   { s with heap := (s.heap.push PySem.W.emptyDict).push (PySem.W.instObj C s.heap.objs.size) } := by
 have e1 : (s.heap.push PySem.W.emptyDict).get? s.heap.objs.size = some PySem.W.emptyDict := Heap.get?_push_size s.heap rfl
 have e2 : ((s.heap.push PySem.W.emptyDict).push (PySem.W.instObj C s.heap.objs.size)).get? (s.heap.objs.size + 1) = some (PySem.W.instObj C s.heap.objs.size) := by
   have := Heap.get?_push_size (s.heap.push PySem.W.emptyDict) (o := PySem.W.instObj C s.heap.objs.size) rfl
   rwa [Heap.size_push] at this
 have e3 : (s.heap.push PySem.W.emptyDict).Ns s.heap.objs.size (fun _ => none) := ⟨PySem.W.emptyDict, #[], _, e1, rfl, (fun e he => absurd he (by simp)), fun _ => rfl⟩
 have I1 := I.laid (a := s.heap.objs.size) (o := .own (s.heap.objs.size + 1)) (h' := s.heap.push PySem.W.emptyDict) (t' := s.toks) (fun b u q => Heap.get?_push_of_some _ q) (Nat.le_refl _) ⟨_, e1⟩
 refine I1.laid (a := s.heap.objs.size + 1) (o := .ins C s.heap.objs.size []) (t' := s.toks) (fun b u q => Heap.get?_push_of_some _ q) (Nat.le_of_eq (Heap.size_push _ _)) ?_
 have ne : s.heap.objs.size ≠ s.heap.objs.size + 1 := Nat.ne_of_lt (Nat.lt_succ_self _)
 refine ⟨by rw [upd_ne ne, upd_same], Nat.zero_le _, ne, e2, fun _ => none, (Heap.Ns1.of_empty e3).at fun o q => Heap.get?_push_of_some _ q, fun _ => True.intro, fun y hy => absurd rfl hy⟩
theorem attr_of {prog : Program} {w : World} {env : Env} {e : Expr} {f : Str} {pos : Pos} {s : Shared} {Q : Value → Shared → Prop} (hb : attributeBase e f env (eval e env) = eval e env)
   (h : wpAny (model prog w) A (eval e env) (fun o s₁ => wpAny (model prog w) A (getAttr o f true) Q E s₁) E s) : wpAny (model prog w) A (eval (.Attribute e f pos) env) Q E s :=
 Attribute_any_ h (by rw [arm_eval_Attribute, hb])
end
def tFld (K : PySem.W.Frag) (ta : TE) (f : Str) : TE := fun σ H Q => ta σ H fun x H1 => ∃ a C dx fs v, x = .ref a ∧ H1 a = some (.ins C dx fs) ∧ Cls K C ∧ NoAttr K C f ∧ fs.lookup f = some v ∧ Q v H1
def sFld (K : PySem.W.Frag) (ta tv : TE) (f : Str) : TS := fun D σ H => tv σ H fun y H1 => ta σ H1 fun x H2 => ∃ a C dx fs, x = .ref a ∧ H2 a = some (.ins C dx fs) ∧ Cls K C ∧ NoAttr K C f ∧ fs.length < 1000 ∧
 D.nx σ (upd H2 a (.ins C dx (putF f y fs)))
section
variable {X : Cx} {o e value : Expr} {f : Str} {pos pos' tpos : Pos} {ta tv : TE}
theorem pe_fld (he : PE X e ta) (hb : attributeBase e f X.env (eval e X.env) = eval e X.env) : PE X (.Attribute e f pos) (tFld X.K ta f) := by
 intro pins s σ H Q I h
 refine attr_of hb (thn (he pins s σ H _ I h) fun u s1 ⟨x, H1, I1, rx, a, C, dx, fs, v, ex, ea, c, n, l, q⟩ => ?_)
 subst ex
 obtain rfl : u = Value.ref a := rx
 exact getattr_ok I1 ea c n l fun u' s2 I2 ru => ⟨v, H1, I2, ru, q⟩
theorem ps_fld (ha : PE X o ta) (hv : PE X value tv) (hs : swapsWith value (some (.Attribute o f pos')) pos.line X.env = pure false) : PS X (.Assign [.Attribute o f pos'] value pos) (sFld X.K ta tv f) := by
 intro pins s σ H D I h
 refine plainObj_wpAny_Assign_Attribute (thn (hv pins s σ H _ I h) fun u s1 ⟨y, H1, I1, ry, q⟩ => thn (ha pins s1 σ H1 _ I1 q) fun ov s2 ⟨x, H2, I2, rx, a, C, dx, fs, ex, ea, c, n, l, q2⟩ => ?_) hs
 subst ex
 obtain rfl : ov = Value.ref a := rx
 exact setattr_ok I2 ea c n l ry fun s3 I3 => ⟨σ, _, I3, q2⟩
end
section
variable {X : Cx} {pins : List (Addr × Obj)} {σ : St} {H : Hp} {s : Shared} {A : Around} {E : Value → Shared → Prop} {Q : Value → Shared → Prop} {c : Value} {b : Bool}
inductive TyOf (K : PySem.W.Frag) (H : Hp) : V → Value → Prop where
 | non : TyOf K H .non (.type "NoneType")
 | bl (x : Bool) : TyOf K H (.bl x) (.type "bool")
 | int (i : Int) : TyOf K H (.int i) (.type "int")
 | str (x : Str) : TyOf K H (.str x) (.type "str")
 | flt (x : UInt64) : TyOf K H (.flt x) (.type "float")
 | lst {a : Addr} {xs : List V} (e : H a = some (.lst xs)) : TyOf K H (.ref a) (.type "list")
 | frz {a : Addr} {o : Obj} {xs : List V} (e : H a = some (.frz o (.lst xs))) : TyOf K H (.ref a) (.type "list")
 | tup {a : Addr} {xs : List V} (e : H a = some (.tup xs)) : TyOf K H (.ref a) (.type "tuple")
 | dK {a : Addr} {kvs : List (Key × V)} (e : H a = some (.dK kvs)) : TyOf K H (.ref a) (.type "dict")
 | dT {a : Addr} {kvs : List (List Key × V)} (e : H a = some (.dT kvs)) : TyOf K H (.ref a) (.type "dict")
 | ins {a C dx : Addr} {fs : List (Str × V)} (e : H a = some (.ins C dx fs)) (cl : Cls K C) (ha : PySem.W.findIn K (.ref C) "__class__" = some (some (.builtin "object.__class__")))
     (hn : PySem.W.specialIn K (.builtin "object.__class__") "__get__" = some (some (.builtin "getset_descriptor.__get__"))) (htk : PySem.W.takesIn K (.builtin "object.__class__") = some true)
     (hm : PySem.W.mroIn K C (.type "object") = some true) : TyOf K H (.ref a) (.ref C)
theorem isinst_ok {x : V} {u t : Value} (I : Inv X pins σ H s) (rx : RelV x u) (ty : TyOf X.K H x t) (e : PySem.W.kitOne X.K t c = some b) (h : ∀ tk, Q (.bool b) { s with toks := tk }) :
   wpAny (model X.prog X.w) A (call (.builtin "isinstance") [u, c]) Q E s := by
 cases ty with
 | non => cases (show u = Value.none from rx); exact PySem.W.kia_one PySem.W.kitx_none I.kIn True.intro e (fun z => nomatch z) h
 | bl y => cases (show u = Value.bool y from rx); exact PySem.W.kia_one PySem.W.kitx_bool I.kIn True.intro e (fun z => nomatch z) h
 | int i => obtain ⟨t, q⟩ := (show ∃ t, u = Value.int i t from rx); cases q; exact PySem.W.kia_one PySem.W.kitx_int I.kIn True.intro e (fun z => nomatch z) h
 | str y => obtain ⟨t, q⟩ := (show ∃ t, u = Value.str y t from rx); cases q; exact PySem.W.kia_one PySem.W.kitx_str I.kIn True.intro e (fun z => nomatch z) h
 | flt y => obtain ⟨t, q⟩ := (show ∃ t, u = Value.float y t from rx); cases q; exact PySem.W.kia_one PySem.W.kitx_float I.kIn True.intro e (fun z => nomatch z) h
 | @lst a xs ea =>
   cases (show u = Value.ref a from rx)
   obtain ⟨_, _, n, _, h1⟩ := (show ObjOk X.prog X.w H s.heap a (.lst xs) from I.hok a _ ea)
   exact PySem.W.kia_one PySem.W.kitx_list I.kIn ⟨_, h1, rfl⟩ e (fun z => nomatch z) h
 | @frz a ob xs ea =>
   cases (show u = Value.ref a from rx)
   obtain ⟨_, _, _, n, _, h1⟩ := (show ObjOk X.prog X.w H s.heap a (.frz ob (.lst xs)) from I.hok a _ ea)
   exact PySem.W.kia_one PySem.W.kitx_list I.kIn ⟨_, h1, rfl⟩ e (fun z => nomatch z) h
 | @tup a xs ea =>
   cases (show u = Value.ref a from rx)
   obtain ⟨_, _, _, p⟩ := (show ObjOk X.prog X.w H s.heap a (.tup xs) from I.hok a _ ea)
   obtain ⟨o, h1, h2, _⟩ := p
   exact PySem.W.kia_one PySem.W.kitx_tuple I.kIn ⟨o, h1, h2⟩ e (fun z => nomatch z) h
 | @dK a kvs ea =>
   cases (show u = Value.ref a from rx)
   obtain ⟨_, _, vs, _, p⟩ := (show ObjOk X.prog X.w H s.heap a (.dK kvs) from I.hok a _ ea)
   obtain ⟨o, es, ep, h1, h2, _⟩ := p
   exact PySem.W.kia_one PySem.W.kitx_dict I.kIn ⟨o, h1, h2.1⟩ e (fun z => nomatch z) h
 | @dT a kvs ea =>
   cases (show u = Value.ref a from rx)
   obtain ⟨_, _, xs, _, o, es, ep, h1, h2, _⟩ := (show ObjOk X.prog X.w H s.heap a (.dT kvs) from I.hok a _ ea)
   exact PySem.W.kia_one PySem.W.kitx_dict I.kIn ⟨o, h1, h2.1⟩ e (fun z => nomatch z) h
 | @ins a C dx fs ea cl ha hn htk hm =>
   cases (show u = Value.ref a from rx)
   obtain ⟨mA, O, _⟩ := ins_get I.hok ea
   obtain ⟨od, J, _⟩ := O.look
   exact PySem.W.kia_one (PySem.W.kitx_own (cl.get _) cl.hd ha hn htk hm) I.kIn J e (fun z => nomatch z) h
end
end L2
namespace L2
open PySem PySem.Spec PyProof.Rows
structure Room (k : Nat) (A : Around) : Prop where
 hd : A.handled = none
 dp : A.depth + 1 * k + 5 < recursionLimit
 un : A.units + 16 * k + 200 < cLine
 gd : A.guards = some []
theorem Room.mono {j k : Nat} {A : Around} (r : Room k A) (h : j ≤ k) : Room j A := ⟨r.hd, by have := r.dp; omega, by have := r.un; omega, r.gd⟩
theorem Room.deeper {k : Nat} {A : Around} (r : Room (k + 1) A) (env : Env) : Room k (A.deeper env) :=
 ⟨r.hd, by have := r.dp; show A.depth + 1 + 1 * k + 5 < _; omega, by have := r.un; show A.units + 3 + 16 * k + 200 < _; omega, r.gd⟩
theorem make_depth {A : Around} {C : Addr} {us : List Value} {kw : List (Str × Value)} : (A.under (.builtin "type.__call__" ⟨.ref C :: us, kw⟩)).depth = A.depth + 1 := by
 first | rfl | simp [Around.under, Code.weight, Code.isCreation, Code.isGuard, Code.isCaller, Code.frames, Code.isFrame, guardIds]
theorem make_units {A : Around} {C : Addr} {us : List Value} {kw : List (Str × Value)} : (A.under (.builtin "type.__call__" ⟨.ref C :: us, kw⟩)).units = A.units + 1 := by
 first | rfl | simp [Around.under, Code.cUnits, Code.frames, Code.isFrame]
theorem make_guards {A : Around} {C : Addr} {us : List Value} {kw : List (Str × Value)} : (A.under (.builtin "type.__call__" ⟨.ref C :: us, kw⟩)).guards = A.guards := by
 have e : (Code.builtin "type.__call__" ⟨.ref C :: us, kw⟩).guards = [] := by first | rfl | simp [Code.guards, Code.isGuard, guardIds]
 simp only [Around.under, e, pushGuards]
theorem Room.make {k : Nat} {A : Around} (r : Room (k + 1) A) (C : Addr) (us : List Value) (kw : List (Str × Value)) : Room k (A.under (.builtin "type.__call__" ⟨.ref C :: us, kw⟩)) :=
 ⟨r.hd, by have := r.dp; rw [make_depth]; omega, by have := r.un; rw [make_units]; omega, by rw [make_guards]; exact r.gd⟩
theorem Room.depth {k : Nat} {A : Around} (r : Room k A) : A.depth < recursionLimit := by have := r.dp; omega
theorem Room.units {k : Nat} {A : Around} (r : Room k A) : A.units + 64 < cLine := by have := r.un; omega
def tNil : TA := fun _ H Q => Q [] H
def tCons (ta : TE) (tr : TA) : TA := fun σ H Q => ta σ H fun x H1 => tr σ H1 fun xs H2 => Q (x :: xs) H2
section
variable {X : Cx} {e : Expr} {es : List Expr} {te : TE} {t : TA} {pos : Pos}
theorem pa_nil : PA X [] tNil := fun _ _ _ _ H Q I h => Calls.spliced_nil ⟨[], H, I, .nil, h⟩
theorem pa_cons (ha : PE X e te) (hr : PA X es t) (hs : starEach (e :: es) X.env = (false, eval e X.env) :: starEach es X.env := by rfl) : PA X (e :: es) (tCons te t) := by
 intro pos pins s σ H Q I h
 rw [hs]
 show wpAny _ _ (spliced ((false, eval e X.env) :: backTo pos (starEach es X.env))) _ _ s
 refine Calls.spliced_cons (thn (ha pins s σ H _ I h) fun u s1 ⟨x, H1, I1, r1, q1⟩ => ?_)
 exact thn (hr pos pins s1 σ H1 _ I1 q1) fun us s2 ⟨xs, H2, I2, r2, q2⟩ => ⟨x :: xs, H2, I2, .cons r1 r2, q2⟩
def tTup (t : TA) : TE := fun σ H Q => t σ H fun xs H1 => xs.length ≤ sizeLine ∧ ∀ p, H1 p = none → Q (.ref p) (upd H1 p (.tup xs))
def tLst (t : TA) : TE := fun σ H Q => t σ H fun xs H1 => xs.length ≤ sizeLine ∧ ∀ p, H1 p = none → Q (.ref p) (upd H1 p (.lst xs))
theorem pe_tup {x1} (h : PA X es t) : PE X (.Tuple es x1 pos) (tTup t) := by
 intro pins s σ H Q I hq
 refine wpAny_Tuple_spliced (thn (h pos pins s σ H _ I hq) fun us s1 ⟨xs, H1, I1, r, z, q⟩ => ⟨by rw [← r.length]; exact z, ?_⟩)
 have hf : H1 s1.heap.objs.size = none := I1.hok.fresh (Nat.le_refl _)
 refine ⟨.ref s1.heap.objs.size, upd H1 s1.heap.objs.size (.tup xs), I1.laid (t' := s1.toks) (fun b u e => Heap.get?_push_of_some _ e) (Nat.le_refl _) ?_, rfl, q _ hf⟩
 exact ⟨z, us, r, ⟨_, Heap.get?_push_size _ rfl, rfl, _, rfl⟩⟩
theorem pe_lst (h : PA X es t) : PE X (.List es pos) (tLst t) := by
 intro pins s σ H Q I hq
 refine wpAny_List_spliced (thn (h pos pins s σ H _ I hq) fun us s1 ⟨xs, H1, I1, r, z, q⟩ => ⟨by rw [← r.length]; exact z, ?_⟩)
 have hf : H1 s1.heap.objs.size = none := I1.hok.fresh (Nat.le_refl _)
 refine ⟨.ref s1.heap.objs.size, upd H1 s1.heap.objs.size (.lst xs), I1.laid (t' := s1.toks) (fun b u e => Heap.get?_push_of_some _ e) (Nat.le_refl _) ?_, rfl, q _ hf⟩
 exact ⟨z, us, 0, r, Heap.get?_push_size _ rfl⟩
end
abbrev Sp := List V → Hp → VK → XK → Prop
abbrev CXT := List Env → Hp → Shared → XK → Value → Shared → Prop
structure Env0 (P : Program) (w : World) (K : PySem.W.Frag) (mg : Str → Option Value) (base : Heap) (A : Around) (outer : List Env) (s : Shared) (H : Hp) : Prop where
 frames : A.frames = some outer
 mod : Mod K mg base
 bs : ∀ b o, base.get? b = some o → s.heap.get? b = some o ∧ H b = none
 bsz : base.objs.size ≤ s.heap.objs.size
 funs : s.heap.FunFrames base outer
 frf : ∀ b ∈ frs outer, H b = none
 hok : HOk P w H s.heap
 bare : AllBare s.gens
def CE (outer : List Env) (P : Program) (w : World) (H : Hp) (s : Shared) (Q : VK) (u : Value) (s' : Shared) : Prop :=
 ∃ v H', s'.os = s.os ∧ AllBare s'.gens ∧ Un (frs outer) [] H H' s.heap s'.heap ∧ HOk P w H' s'.heap ∧ RelV v u ∧ Q v H'
def CR (CX : CXT) (outer : List Env) (P : Program) (w : World) (H : Hp) (s : Shared) (Q : VK) (E : XK) (r : Result) (s' : Shared) : Prop :=
 match r with
 | .ok (.ret u) => CE outer P w H s Q u s'
 | .ok _ => False
 | .error e => CX outer H s E e s'
structure FnOk (P : Program) (w : World) (K : PySem.W.Frag) (mg : Str → Option Value) (base : Heap) (CX : CXT) (k : Nat) (f : Addr) (fd : FuncData) (ps : List Str) (sp : Sp) : Prop where
 len : ∀ vs H Q E, sp vs H Q E → vs.length = ps.length
 run : ∀ (A : Around) (outer : List Env) (s : Shared) (H : Hp) (args : Args) (us : List Value) (vs : List V) (Q : VK) (E : XK), Room k A → Env0 P w K mg base A outer s H → BindsTo s fd args (ps.zip us) → Vals vs us → sp vs H Q E →
   codeAny (model P w) A (.call (.ref f) args) (CR CX outer P w H s Q E) s
theorem FnOk.mono {P : Program} {w : World} {K : PySem.W.Frag} {mg : Str → Option Value} {base : Heap} {CX : CXT} {j k : Nat} {f : Addr} {fd : FuncData} {ps : List Str} {sp : Sp} (F : FnOk P w K mg base CX j f fd ps sp) (h : j ≤ k) :
   FnOk P w K mg base CX k f fd ps sp := ⟨F.len, fun A outer s H args us vs Q E hr => F.run A outer s H args us vs Q E (hr.mono h)⟩
theorem Env0.make {P : Program} {w : World} {K : PySem.W.Frag} {mg : Str → Option Value} {base : Heap} {A : Around} {outer : List Env} {s : Shared} {H : Hp} (e : Env0 P w K mg base A outer s H) (C : Addr) (us : List Value) (kw : List (Str × Value)) :
   Env0 P w K mg base (A.under (.builtin "type.__call__" ⟨.ref C :: us, kw⟩)) outer s H := ⟨by first | exact e.frames | (simpa [Around.under, Code.envs, Code.isFrame, pushEnvs] using e.frames), e.mod, e.bs, e.bsz, e.funs, e.frf, e.hok, e.bare⟩
section
variable {X : Cx} {pins : List (Addr × Obj)} {σ : St} {H : Hp} {s s' : Shared}
theorem Inv.env0 (I : Inv X pins σ H s) : Env0 X.prog X.w X.K X.mg X.base X.A X.stack s H :=
 ⟨I.ok.frames, I.ok.mod, I.bs, Nat.le_trans I.ok.bsz I.sz, I.stack, I.stkFree, I.hok, I.bare⟩
theorem Inv.after {Q : VK} {u : Value} (I : Inv X pins σ H s) (h : CE X.stack X.prog X.w H s Q u s') : EP X pins σ Q u s' := by
 obtain ⟨v, H', os, bare, un, hok, r, q⟩ := h
 obtain ⟨hh, g, d, t, os'⟩ := s'
 obtain rfl : os' = s.os := os
 exact ⟨v, H', I.call (h' := hh) (g' := g) (d' := d) (t' := t) (ch := []) un hok bare (fun b z => absurd z (by simp)), r, q⟩
end
def tCall (sp : Sp) (dvs : List V) (E : XK) (t : TA) : TE := fun σ H Q => t σ H fun vs H1 => sp (vs ++ dvs) H1 Q E
def tMake (C : Addr) (sp : Sp) (dvs : List V) (E : XK) (t : TA) : TE := fun σ H Q => t σ H fun vs H1 => ∀ x dx, H1 x = none → H1 dx = none → dx ≠ x →
 sp (.ref x :: (vs ++ dvs)) (upd (upd H1 dx (.own x)) x (.ins C dx [])) (fun v H2 => v = .non ∧ Q (.ref x) H2) E
def Binds (K : PySem.W.Frag) (fd : FuncData) (ps : List Str) (ds : List Value) : Prop :=
 ∀ (s : Shared) (us : List Value), K.In s.heap → (us ++ ds).length = ps.length → BindsTo s fd ⟨us, []⟩ (ps.zip (us ++ ds))
theorem Binds.all {K : PySem.W.Frag} {fd : FuncData} {ps : List Str} (h : ∀ us : List Value, us.length = ps.length → bindArgs fd ⟨us, []⟩ = pure (ps.zip us)) : Binds K fd ps [] := fun s us _ hl => by
 rw [List.append_nil] at hl ⊢
 exact .of_eq (h us hl)
def Passes (CX : CXT) (X : Cx) (E : XK) : Prop := ∀ (pins : List (Addr × Obj)) (σ : St) (H : Hp) (s : Shared) (e : Value) (s' : Shared), Inv X pins σ H s → CX X.stack H s E e s' → X.xe e s'
section
variable {X : Cx} {CX : CXT} {k : Nat} {f C : Addr} {fd : FuncData} {ps : List Str} {sp : Sp} {dvs : List V} {ds : List Value} {E : XK} {x m : Str} {p pos apos : Pos} {e o : Expr} {es : List Expr} {ta : TE} {t : TA}
theorem run_fn {pins : List (Addr × Obj)} {σ : St} {H : Hp} {s : Shared} {Q : VK} {us : List Value} {vs : List V} (F : FnOk X.prog X.w X.K X.mg X.base CX k f fd ps sp) (hr : Room k X.A) (hb : Binds X.K fd ps ds) (hd : Vals dvs ds) (hx : Passes CX X E)
   (I : Inv X pins σ H s) (r : Vals vs us) (h : sp (vs ++ dvs) H Q E) : wpAny (model X.prog X.w) X.A (call (.ref f) us) (EP X pins σ Q) X.xe s := by
 have r2 : Vals (vs ++ dvs) (us ++ ds) := r.append hd
 have hl : (us ++ ds).length = ps.length := by rw [← r2.length]; exact F.len _ _ _ _ h
 refine wpAny_call (codeAny_mono (F.run X.A X.stack s H ⟨us, []⟩ (us ++ ds) (vs ++ dvs) Q E hr I.env0 (hb s us I.kIn hl) r2 h) fun r s' hq => ?_)
 cases r with
 | error e => exact hx pins σ H s e s' I hq
 | ok fl =>
   cases fl with
   | ret u => exact I.after hq
   | next => exact False.elim hq
   | brk => exact False.elim hq
   | cont => exact False.elim hq
theorem pe_call (F : FnOk X.prog X.w X.K X.mg X.base CX k f fd ps sp) (hr : Room k X.A) (hg : Gl X x) (hm : X.mg x = some (.ref f)) (hk : PySem.W.keepIn X.K (.ref f) = true) (hb : Binds X.K fd ps ds) (hd : Vals dvs ds) (hx : Passes CX X E)
   (ha : PA X (e :: es) t) (hdb : (x == ("__debug__" : Str)) = false := by decide) (he : starEach (e :: es) X.env = (false, eval e X.env) :: starEach es X.env := by rfl) (hpl : (backTo pos (starEach es X.env)).any (·.1) = false := by rfl) :
   PE X (.Call (.Name x p) (e :: es) [] pos) (tCall sp dvs E t) := by
 intro pins s σ H Q I h
 refine wpAny_Call_Name_kw (ld_glob I hg hm ?_ hdb)
 refine PySem.W.callWith_K (h₀ := X.base) I.ok.mod.kin hk (thn (ha pos pins s σ H _ I h) fun us s1 ⟨vs, H1, I1, r, q⟩ => ⟨I1.kIn, ?_⟩) he hpl
 exact run_fn F hr hb hd hx I1 r q
structure Mk (K : PySem.W.Frag) (C f : Addr) : Prop where
 makes : PySem.W.makesIn K C = true
 init : PySem.W.findIn K (.ref C) "__init__" = some (some (.ref f))
 fn : PySem.W.isFn K (.ref f) = true
 kp : PySem.W.keepIn K (.ref C) = true
theorem run_make {pins : List (Addr × Obj)} {σ : St} {H : Hp} {s : Shared} {Q : VK} {us : List Value} {vs : List V} (M : Mk X.K C f) (F : FnOk X.prog X.w X.K X.mg X.base CX k f fd ps sp) (hr : Room (k + 1) X.A) (hb : Binds X.K fd ps ds) (hd : Vals dvs ds)
   (hx : Passes CX X E) (I : Inv X pins σ H s) (r : Vals vs us)
   (h : ∀ x dx, H x = none → H dx = none → dx ≠ x → sp (.ref x :: (vs ++ dvs)) (upd (upd H dx (.own x)) x (.ins C dx [])) (fun v H2 => v = .non ∧ Q (.ref x) H2) E) :
   wpAny (model X.prog X.w) X.A (call (.ref C) us) (EP X pins σ Q) X.xe s := by
 have hq := h (s.heap.objs.size + 1) s.heap.objs.size (I.hok.fresh (Nat.le_succ _)) (I.hok.fresh (Nat.le_refl _)) (Nat.ne_of_lt (Nat.lt_succ_self _))
 have I2 := Inv.made (C := C) I
 have r2 : Vals (V.ref (s.heap.objs.size + 1) :: (vs ++ dvs)) (Value.ref (s.heap.objs.size + 1) :: (us ++ ds)) := .cons rfl (r.append hd)
 have hl : (Value.ref (s.heap.objs.size + 1) :: us ++ ds).length = ps.length := by
   have e := r2.length
   rw [F.len _ _ _ _ hq] at e
   exact e.symm
 refine wpAny_call (make_map (f := f) I.kIn M.makes M.init (beq_iff_eq.mp M.fn) (codeAny_mono (F.run _ X.stack _ _ ⟨Value.ref (s.heap.objs.size + 1) :: us, []⟩ (Value.ref (s.heap.objs.size + 1) :: (us ++ ds)) _ _ E (hr.make C us [])
   (I2.env0.make C us []) (hb _ (Value.ref (s.heap.objs.size + 1) :: us) I2.kIn hl) r2 hq) fun r s' hq' => ?_))
 cases r with
 | error e => exact hx pins σ _ _ e s' I2 hq'
 | ok fl =>
   cases fl with
   | ret u =>
     obtain ⟨v, H', I3, rv, ev, q3⟩ := I2.after hq'
     subst ev
     exact ⟨rv, ⟨V.ref (s.heap.objs.size + 1), H', I3, rfl, q3⟩⟩
   | next => exact False.elim hq'
   | brk => exact False.elim hq'
   | cont => exact False.elim hq'
theorem pe_make (M : Mk X.K C f) (F : FnOk X.prog X.w X.K X.mg X.base CX k f fd ps sp) (hr : Room (k + 1) X.A) (hg : Gl X x) (hm : X.mg x = some (.ref C)) (hb : Binds X.K fd ps ds) (hd : Vals dvs ds) (hx : Passes CX X E)
   (ha : PA X (e :: es) t) (hdb : (x == ("__debug__" : Str)) = false := by decide) (he : starEach (e :: es) X.env = (false, eval e X.env) :: starEach es X.env := by rfl) (hpl : (backTo pos (starEach es X.env)).any (·.1) = false := by rfl) :
   PE X (.Call (.Name x p) (e :: es) [] pos) (tMake C sp dvs E t) := by
 intro pins s σ H Q I h
 refine wpAny_Call_Name_kw (ld_glob I hg hm ?_ hdb)
 refine PySem.W.callWith_K (h₀ := X.base) I.ok.mod.kin M.kp (thn (ha pos pins s σ H _ I h) fun us s1 ⟨vs, H1, I1, r, q⟩ => ⟨I1.kIn, ?_⟩) he hpl
 exact run_make M F hr hb hd hx I1 r q
end
section
variable {X : Cx} {CX : CXT} {k : Nat} {f C : Addr} {fd : FuncData} {ps ks : List Str} {sp : Sp} {E : XK} {x m : Str} {p pos apos kpos : Pos} {e o : Expr} {es : List Expr} {kws : List Keyword} {te ta : TE} {t tk : TA} {nm : Option Str}
variable {g : List Value → List Value → List Value} {gV : List V → List V → List V}
end
structure FnScope (N P : List Str) (sc : Scope) : Prop where
 kind : sc.kind = .function
 co : sc.isCoroutine = false
 gen : sc.isGenerator = false
 nd : N.Nodup
 pre : N.take P.length = P
 par : ∀ x ∈ P, sc.names.lookup x = some .local ∨ sc.names.lookup x = some .cell
 nofree : ∀ y ∈ sc.names, y.2 ≠ .free
theorem bindL_out {kindOf : Str → Option NameKind} {x : Str} : ∀ {binds : List (Str × Value)} {m : Str → Option Value}, (∀ v, (x, v) ∉ binds) → bindL kindOf binds m x = m x
 | [], _, _ => rfl
 | (n, v) :: r, m, h => by
   unfold bindL
   rw [bindL_out fun w hw => h w (List.mem_cons_of_mem _ hw)]
   split
   · have : x ≠ n := by rintro rfl; exact h v List.mem_cons_self
     simp [this]
   · rfl
theorem bindC_out {kindOf : Str → Option NameKind} {x : Str} : ∀ {binds : List (Str × Value)} {m : Str → Option Value}, (∀ v, (x, v) ∉ binds) → bindC kindOf binds m x = m x
 | [], _, _ => rfl
 | (n, v) :: r, m, h => by
   unfold bindC
   rw [bindC_out fun w hw => h w (List.mem_cons_of_mem _ hw)]
   split
   · rfl
   · have : x ≠ n := by rintro rfl; exact h v List.mem_cons_self
     simp [this]
theorem bindL_get {kindOf : Str → Option NameKind} {x : Str} {v : Value} : ∀ {P : List Str} {vs : List Value} {i : Nat} {m : Str → Option Value}, P.Nodup → P[i]? = some x → vs[i]? = some v → kindOf x = some .local →
   bindL kindOf (P.zip vs) m x = some v
 | [], _, _, _, _, h, _, _ => by simp at h
 | _ :: _, [], _, _, _, _, h, _ => by simp at h
 | p :: P, w :: vs, 0, m, nd, h1, h2, hk => by
   simp at h1 h2; subst h1; subst h2
   show bindL kindOf ((p, w) :: P.zip vs) m p = _
   unfold bindL
   rw [bindL_out fun v hv => (List.nodup_cons.mp nd).1 (List.of_mem_zip hv).1, if_pos hk]
   simp
 | p :: P, w :: vs, i + 1, m, nd, h1, h2, hk => by
   show bindL kindOf ((p, w) :: P.zip vs) m x = _
   unfold bindL
   exact bindL_get (i := i) (List.nodup_cons.mp nd).2 (by simpa using h1) (by simpa using h2) hk
theorem bindC_get {kindOf : Str → Option NameKind} {x : Str} {v : Value} : ∀ {P : List Str} {vs : List Value} {i : Nat} {m : Str → Option Value}, P.Nodup → P[i]? = some x → vs[i]? = some v → kindOf x ≠ some .local →
   bindC kindOf (P.zip vs) m x = some v
 | [], _, _, _, _, h, _, _ => by simp at h
 | _ :: _, [], _, _, _, _, h, _ => by simp at h
 | p :: P, w :: vs, 0, m, nd, h1, h2, hk => by
   simp at h1 h2; subst h1; subst h2
   show bindC kindOf ((p, w) :: P.zip vs) m p = _
   unfold bindC
   rw [bindC_out fun v hv => (List.nodup_cons.mp nd).1 (List.of_mem_zip hv).1, if_neg hk]
   simp
 | p :: P, w :: vs, i + 1, m, nd, h1, h2, hk => by
   show bindC kindOf ((p, w) :: P.zip vs) m x = _
   unfold bindC
   exact bindC_get (i := i) (List.nodup_cons.mp nd).2 (by simpa using h1) (by simpa using h2) hk
def start (N : List Str) (vs : List V) : St := vs.map some ++ List.replicate (N.length - vs.length) none
def cxOf (CX : CXT) (P : Program) (w : World) (K : PySem.W.Frag) (mg : Str → Option Value) (base : Heap) (N : List Str) (qual : Str) (scope : Scope) (f : Addr) (cd : Value) (A : Around) (outer : List Env) (s : Shared) (H : Hp) (E : XK) : Cx where
 prog := P
 w := w
 K := K
 mg := mg
 base := base
 A := A.deeper (envOfC qual scope s.heap.objs.size f cd)
 N := N
 s₀ := s
 H₀ := H
 env := envOfC qual scope s.heap.objs.size f cd
 outer := outer
 stack := envOfC qual scope s.heap.objs.size f cd :: outer
 ex := []
 calm := true
 fn := fun _ => true
 pn := []
 xe := fun e s' => wpAny (model P w) (A.deeper (envOfC qual scope s.heap.objs.size f cd)) (leaving (envOfC qual scope s.heap.objs.size f cd) e) (fun _ s'' => CX outer H s E e s'') (fun e' s'' => CX outer H s E e' s'') s'
theorem cell_has {sc : Scope} {n : Nat} {x : Str} (h : sc.names.lookup x = some .cell) : ∃ c, (cellsFrom n sc.names []).lookup x = some c := by
 have q := PySem.W.cellsFrom_some sc.names n [] (.inl h)
 exact Option.isSome_iff_exists.mp q
theorem inv_start {CX : CXT} {P : Program} {w : World} {K : PySem.W.Frag} {mg : Str → Option Value} {base : Heap} {N ps : List Str} {qual : Str} {scope : Scope} {f : Addr} {cd : Value} {A : Around} {outer : List Env} {s s1 : Shared} {H : Hp} {E : XK} {us : List Value} {vs : List V}
   (S : FnScope N ps scope) (hd : A.handled = none) (e0 : Env0 P w K mg base A outer s H) (hl : vs.length = ps.length) (r : Vals vs us)
   (x : InCallC s s.heap.objs.size (bindL (envOfC qual scope s.heap.objs.size f cd).kindOf (ps.zip us) fun _ => none) (cellsFrom (s.heap.objs.size + 1) scope.names []) (bindC (envOfC qual scope s.heap.objs.size f cd).kindOf (ps.zip us) fun _ => none) s1) :
   Inv (cxOf CX P w K mg base N qual scope f cd A outer s H E) [] (start N vs) H s1 := by
 have hpl : ps.length ≤ N.length := by have := congrArg List.length S.pre; rw [List.length_take] at this; omega
 obtain ⟨h1, tk, rfl, hk⟩ := x.done
 have noA : ∀ b : Addr, b ∉ (cxOf CX P w K mg base N qual scope f cd A outer s H E).ex := fun b z => absurd (show b ∈ ([] : List Addr) from z) (by simp)
 refine ⟨⟨e0.mod, S.kind, rfl, rfl, Nat.le_refl _, fun y z c h1 h2 => ?_, fun y hy => ?_, fun y c _ h => ?_, fun _ => hd, Around.frames_deeper e0.frames, .inr ⟨rfl, rfl⟩, fun b z => absurd z (noA b), e0.bs, e0.bsz, fun b _ _ => noA b, fun b z => absurd z (noA b), e0.funs, e0.frf⟩,
   rfl, e0.bare, Un.kept hk, ⟨_, x.toInCall.ns, fun i y v h1 h2 h3 => ?_⟩, fun y c h => ⟨_, x.cell y c h⟩, e0.hok.fresh (Nat.le_refl _), fun y c h => ?_, fun p hp => absurd (show p ∈ ([] : List (Addr × Obj)) from hp) (by simp), e0.hok.kept hk, ?_⟩
 · exact name_of_addr x.apart (PySem.mem_of_lookup h1) (PySem.mem_of_lookup h2)
 · have hy : scope.names.lookup y = some .cell ∨ scope.names.lookup y = some .free := hy
   rcases hy with hy | hy
   · exact cell_has hy
   · exact absurd rfl (S.nofree _ (PySem.mem_of_lookup hy))
 · exact Nat.le_of_lt (x.above y c (PySem.mem_of_lookup h))
 · have hi : i < vs.length := by
     unfold start at h2
     by_cases hi : i < vs.length
     · exact hi
     · rw [List.getElem?_append_right (by simpa using hi)] at h2
       rw [List.getElem?_replicate] at h2
       split at h2 <;> cases h2
   have ha : vs[i]? = some v := by
     unfold start at h2
     rw [List.getElem?_append_left (by simpa using hi), List.getElem?_map] at h2
     cases e : vs[i]? with
     | none => rw [e] at h2; cases h2
     | some a => rw [e] at h2; cases h2; rfl
   obtain ⟨u, hu, rv⟩ := r.get ha
   have hp : ps[i]? = some y := by
     rw [← S.pre, List.getElem?_take_of_lt (by omega)]; exact h1
   have ndP : ps.Nodup := by rw [← S.pre]; exact S.nd.sublist (List.take_sublist _ _)
   refine ⟨u, rv, ?_⟩
   rcases S.par y (List.mem_of_getElem? hp) with k | k
   · exact .inl ⟨k, bindL_get ndP hp hu k⟩
   · obtain ⟨c, e⟩ := cell_has (n := s.heap.objs.size + 1) k
     refine .inr ⟨.inl k, c, e, ?_⟩
     have q := x.cell y c e
     rw [bindC_get ndP hp hu (by show scope.names.lookup y ≠ _; rw [k]; decide)] at q
     exact q
 · exact e0.hok.fresh (Nat.le_of_lt (x.above y c (PySem.mem_of_lookup h)))
 · unfold start
   show _ = N.length
   rw [List.length_append, List.length_map, List.length_replicate]
   omega
theorem fn_of {CX : CXT} {P : Program} {w : World} {K : PySem.W.Frag} {mg : Str → Option Value} {base : Heap} {k : Nat} {f : Addr} {name qual : Str} {params : Arguments} {body : List Stmt} {scope : Scope} {dV kV doc pm cdv ct oc : Value} {an od : Option Addr}
   {osl : Array (Option Value)} {N ps : List Str} {sp : Sp} (lk : K.lookup f = some ⟨oc, od, .func (PySem.W.fnOf name qual params body scope dV kV doc pm an cdv ct), osl⟩) (hcd : PySem.W.codeIn K cdv qual = true) (S : FnScope N ps scope)
   (len : ∀ vs H Q E, sp vs H Q E → vs.length = ps.length)
   (hbody : ∀ (A : Around) (outer : List Env) (s : Shared) (H : Hp) (vs : List V) (Q : VK) (E : XK), Room k (A.deeper (envOfC qual scope s.heap.objs.size f cdv)) → sp vs H Q E →
     ∃ t, PSs (cxOf CX P w K mg base N qual scope f cdv A outer s H E) body t ∧ t { nx := fun _ H' => Q .non H', rt := Q } (start N vs) H) :
   FnOk P w K mg base CX (k + 1) f (PySem.W.fnOf name qual params body scope dV kV doc pm an cdv ct) ps sp := by
 refine ⟨len, fun A outer s H args us vs Q E hr e0 hb r hsp => ?_⟩
 have hl := len _ _ _ _ hsp
 have KX : K.In s.heap := e0.mod.kin.keeps fun b o e => (e0.bs b o e).1
 have lim : s.heap.NoLimit := e0.mod.nolimit.keeps fun b o e => (e0.bs b o e).1
 have hkind : ∀ y ∈ ps.zip us, scope.names.lookup y.1 = some .local ∨ (scope.names.lookup y.1 = some .cell ∧ ((cellsFrom (s.heap.objs.size + 1) scope.names []).lookup y.1).isSome = true) := fun ⟨n, v⟩ hy => by
   rcases S.par n (List.of_mem_zip hy).1 with q | q
   · exact .inl q
   · exact .inr ⟨q, PySem.W.cellsFrom_some _ _ _ (.inl q)⟩
 refine codeAny_call_function hr.depth (KX _ _ lk) rfl S.co S.gen rfl (PySem.W.codeRec_of KX hcd) (hb _ _ _ _ ?_)
 refine wpAny_newFunctionEnv_cells S.kind hkind fun env he s1 x => ?_
 subst he
 refine ⟨lim.keeps x.toInCall.keep, codeAny_func ?_⟩
 obtain ⟨t, ht, hq⟩ := hbody A outer s H vs Q E (hr.deeper _) hsp
 have I : Inv (cxOf CX P w K mg base N qual scope f cdv A outer s H E) [] (start N vs) H s1 := inv_start S hr.hd e0 hl r x
 refine wpAny_mono (ht [] s1 (start N vs) H _ I hq) (fun fl s' hs => ?_) fun e s' hs => hs
 have fin : ∀ {σ' : St} {H' : Hp} {v : V} {u : Value}, Inv (cxOf CX P w K mg base N qual scope f cdv A outer s H E) [] σ' H' s' → RelV v u → Q v H' → CE outer P w H s Q u s' :=
   fun {σ' H' v u} J rv q => ⟨v, H', J.os, J.bare, J.base, J.hok, rv, q⟩
 cases fl with
 | ret u =>
   obtain ⟨v, σ', H', J, rv, q⟩ := hs
   exact fin J rv q
 | next =>
   obtain ⟨σ', H', J, q⟩ := hs
   exact fin (v := V.non) (u := Value.none) J rfl q
 | brk =>
   obtain ⟨_, _, _, q⟩ := hs
   exact False.elim q
 | cont =>
   obtain ⟨_, _, _, q⟩ := hs
   exact False.elim q
end L2
namespace L2
open PySem PySem.Spec PyProof.Rows
section
variable {X : Cx} {x : Str} {p pos : Pos} {e : Expr} {es : List Expr} {t : TA} {id T : String} {r : List V → Hp → VK → Prop}
def tCB (r : List V → Hp → VK → Prop) (t : TA) : TE := fun σ H Q => t σ H fun vs H1 => r vs H1 Q
theorem pe_callB (hc : CallR X (.builtin id) r) (hg : Gl X x) (hm : X.mg x = none) (hv : bootBuiltins x = some (.builtin id)) (ha : PA X (e :: es) t) (hn : x ≠ "__name__" := by decide) (hdb : (x == ("__debug__" : Str)) = false := by decide)
   (he : starEach (e :: es) X.env = (false, eval e X.env) :: starEach es X.env := by rfl) (hpl : (backTo pos (starEach es X.env)).any (·.1) = false := by rfl) : PE X (.Call (.Name x p) (e :: es) [] pos) (tCB r t) := by
 intro pins s σ H Q I h
 refine wpAny_Call_Name_kw (ld_blt I hg hm hv ?_ hn hdb)
 exact PyProof.Rows.callWith_builtin1 (thn (ha pos pins s σ H _ I h) fun us s1 ⟨vs, H1, I1, r1, q1⟩ => hc pins s1 σ H1 vs us Q I1 r1 q1) he hpl
theorem pe_callTy (hc : CallR X (.type T) r) (hg : Gl X x) (hm : X.mg x = none) (hv : bootBuiltins x = some (.type T)) (ha : PA X (e :: es) t) (hn : x ≠ "__name__" := by decide) (hdb : (x == ("__debug__" : Str)) = false := by decide)
   (he : starEach (e :: es) X.env = (false, eval e X.env) :: starEach es X.env := by rfl) (hpl : (backTo pos (starEach es X.env)).any (·.1) = false := by rfl) : PE X (.Call (.Name x p) (e :: es) [] pos) (tCB r t) := by
 intro pins s σ H Q I h
 refine wpAny_Call_Name_kw (ld_blt I hg hm hv ?_ hn hdb)
 exact PyProof.Rows.callWith_type1 (thn (ha pos pins s σ H _ I h) fun us s1 ⟨vs, H1, I1, r1, q1⟩ => hc pins s1 σ H1 vs us Q I1 r1 q1) he hpl
end
end L2
namespace HT
open PySem PyProof.Rows
section
open PySem.SeqAt
open PySem.AutoSeq1 (wpAny_loadPart')
open PySem.MeetsSeq PySem.MeetsSeq2 PySem.MeetsSeq3
end
section
variable {prog : Program} {w : World} {A : Around} {E : Value → Shared → Prop} {s : Shared}
theorem cat_tup {t b : Addr} {vs ws : List Value} {Q : Value → Shared → Prop} (ht : IsTup s.heap t vs.toArray) (hb : IsTup s.heap b ws.toArray) (hv : vs ≠ [])
   (h1 : ws = [] → Q (.ref t) s) (h2 : ws ≠ [] → Q (.ref s.heap.objs.size) { s with heap := s.heap.push { cls := .type "tuple", data := .seq (vs ++ ws).toArray } })
   (hsz : vs.length + ws.length ≤ sizeLine) : wpAny (model prog w) A (binaryOp .Add (.ref t) (.ref b)) Q E s := by
 obtain ⟨⟨cls, dd, data, sl⟩, ho, hc, n, hd⟩ := id ht
 obtain ⟨⟨cls2, dd2, data2, sl2⟩, ho2, hc2, n2, hd2⟩ := id hb
 simp only at hc hd hc2 hd2
 subst hc hd hc2 hd2
 have e : vs.toArray ++ ws.toArray = (vs ++ ws).toArray := by simp
 by_cases hw : ws = []
 · exact concat_meets ⟨_, ho, rfl⟩ ⟨_, ho2, rfl⟩ noFill_tuple_add seq_tuple_add PySem.F.slot_tuple_add PySem.F.entry_tuple_add (PySem.F.args_tuple_add_2 _ _)
     (tuple_addW1 t b vs.toArray ws.toArray n n2 dd dd2 sl sl2 (by simpa using hv) (by simp [hw])) ⟨ho, ho2, h1 hw⟩
 · refine concat_meets ⟨_, ho, rfl⟩ ⟨_, ho2, rfl⟩ noFill_tuple_add seq_tuple_add PySem.F.slot_tuple_add PySem.F.entry_tuple_add (PySem.F.args_tuple_add_2 _ _)
     (tuple_addW2 t b vs.toArray ws.toArray n n2 dd dd2 sl sl2 (by simpa using hv) (by simpa using hw) (by rw [List.size_toArray, List.size_toArray]; exact hsz)) ⟨ho, ho2, ?_⟩
   rw [e]
   exact h2 hw
def sIx (n d : Nat) : Option Int → Nat
 | none => d
 | some v => if v < 0 then (v + (n : Int)).toNat else min v.toNat n
theorem sIx_nat (n d k : Nat) : sIx n d (some (k : Int)) = min k n := by
 show (if (k : Int) < 0 then ((k : Int) + (n : Int)).toNat else min (k : Int).toNat n) = min k n
 rw [if_neg (by omega), Int.toNat_natCast]
theorem sIx_le (n d : Nat) (hd : d ≤ n) (o : Option Int) : sIx n d o ≤ n := by
 cases o with
 | none => exact hd
 | some v =>
   show (if v < 0 then (v + (n : Int)).toNat else min v.toNat n) ≤ n
   by_cases hv : v < 0
   · rw [if_pos hv]; omega
   · rw [if_neg hv]; exact Nat.min_le_right _ _
theorem clip_eq (v : Int) (n d : Nat) : (if v < 0 then max (v + (n : Int)) 0 else min v (n : Int)) = ((sIx n d (some v) : Nat) : Int) := by
 show (if v < 0 then max (v + (n : Int)) 0 else min v (n : Int)) = (((if v < 0 then (v + (n : Int)).toNat else min v.toNat n) : Nat) : Int)
 by_cases hv : v < 0
 · simp only [if_pos hv]; omega
 · simp only [if_neg hv]; omega
theorem adjust_gen (lo hi : Option Int) (n : Nat) : Builtin.Slice.sliceAdjust lo hi 1 (n : Int) = (((sIx n 0 lo : Nat) : Int), ((sIx n n hi : Nat) : Int)) := by
 have h1 : ¬ ((1 : Int) < 0) := by omega
 unfold Builtin.Slice.sliceAdjust
 simp only [h1, if_false]
 refine Prod.ext ?_ ?_
 · cases lo with
   | none => rfl
   | some v => exact clip_eq v n 0
 · cases hi with
   | none => rfl
   | some v => exact clip_eq v n n
theorem places_gen (i j : Nat) : Builtin.Slice.slicePlaces (i : Int) (j : Int) 1 = j - i := by
 unfold Builtin.Slice.slicePlaces
 have h1 : (1 : Int) > 0 := by omega
 simp only [h1, if_true, Int.ediv_one]
 split <;> omega
theorem slicePart_ {v : Value} {o : Option Int} {Q : Option Int → Shared → Prop} (p : IsPart v o) (h : Q o s) : wpAny (model prog w) A (Builtin.Slice.slicePartIndex v) Q E s := by
 cases p with
 | none => exact slicePart_none h
 | int i t => exact slicePart_int h
theorem sliceApplied_gen {sl : Addr} {vl vu : Value} {lo hi : Option Int} {n : Nat} {Q : Int × Int × Nat → Shared → Prop} (hs : s.heap.IsSliceOf sl vl vu .none) (pl : IsPart vl lo) (pu : IsPart vu hi)
   (h : Q (((sIx n 0 lo : Nat) : Int), 1, sIx n n hi - sIx n 0 lo) s) : wpAny (model prog w) A (Builtin.Slice.sliceApplied (.ref sl) (pure (n : Int))) Q E s := by
 obtain ⟨os, hos, hcs, hds⟩ := id hs
 unfold Builtin.Slice.sliceApplied Builtin.Slice.sliceFields
 refine wpAny_bind (wpAny_bind (wpAny_field hos hds (x := vl) rfl (wpAny_bind (wpAny_field hos hds (x := vu) rfl (wpAny_bind (wpAny_field hos hds (x := .none) rfl (wpAny_pure ?_)))))))
 refine wpAny_bind (slicePart_none ?_)
 show wpAny _ _ (if ((1 : Int) == 0) = true then _ else _) _ _ s
 rw [if_neg (by decide)]
 refine wpAny_bind (slicePart_ pl (wpAny_bind (slicePart_ pu (wpAny_bind (wpAny_pure ?_)))))
 show wpAny _ _ (match Builtin.Slice.sliceAdjust lo hi 1 (n : Int) with | (lo, hi) => pure (lo, (1 : Int), Builtin.Slice.slicePlaces lo hi 1)) _ _ s
 rw [adjust_gen lo hi n]
 show wpAny _ _ (pure (((sIx n 0 lo : Nat) : Int), (1 : Int), Builtin.Slice.slicePlaces ((sIx n 0 lo : Nat) : Int) ((sIx n n hi : Nat) : Int) 1)) _ _ s
 rw [places_gen]
 exact wpAny_pure h
theorem pick_gen (xs : Array Value) (i k : Nat) : ((List.range k).filterMap fun (m : Nat) => xs[((i : Int) + (m : Int) * 1).toNat]?).toArray = ((xs.toList.drop i).take k).toArray := by
 have e : (fun (m : Nat) => xs[((i : Int) + (m : Int) * 1).toNat]?) = fun m => xs[i + m]? := by
   funext m
   have : ((i : Int) + (m : Int) * 1).toNat = i + m := by omega
   rw [this]
 rw [e]
 have := pick_run xs i k
 rw [List.filterMap_map] at this
 have e2 : ((fun x => xs[x]?) ∘ fun x => i + x) = fun m => xs[i + m]? := rfl
 rw [e2] at this
 rw [this]
theorem getItem_tuple_cut {t sl : Addr} {items : Array Value} {vl vu : Value} {lo hi : Option Int} {Q : Value → Shared → Prop} (ht : IsTup s.heap t items) (hs : s.heap.IsSliceOf sl vl vu .none) (pl : IsPart vl lo) (pu : IsPart vu hi)
   (hw : ¬ (sIx items.size 0 lo = 0 ∧ sIx items.size items.size hi = items.size))
   (h : Q (.ref s.heap.objs.size) { s with heap := s.heap.push { cls := .type "tuple", data := .seq ((items.toList.drop (sIx items.size 0 lo)).take (sIx items.size items.size hi - sIx items.size 0 lo)).toArray } })
   (hsz : items.size ≤ sizeLine) : wpAny (model prog w) A (getItem (.ref t) (.ref sl)) Q E s := by
 have htake : sizeOk (.seq ((items.toList.drop (sIx items.size 0 lo)).take (sIx items.size items.size hi - sIx items.size 0 lo)).toArray) := by
   show ((items.toList.drop (sIx items.size 0 lo)).take (sIx items.size items.size hi - sIx items.size 0 lo)).toArray.size ≤ sizeLine
   rw [List.size_toArray, List.length_take, List.length_drop, Array.length_toList]
   omega
 have hj : sIx items.size items.size hi ≤ items.size := sIx_le _ _ (Nat.le_refl _) hi
 obtain ⟨os, hos, hcs, hds⟩ := id hs
 have hTs : s.TypeIs (.ref sl) "slice" := ⟨os, hos, hcs⟩
 unfold getItem
 try with_reducible refine wpAny_holding ?_
 first | refine wpAny_bind (wpAny_pure ?_) | skip
 refine wpAny_bind (wpAny_sequenceKey ht.typeIs (by decide) ?_)
 refine wpAny_bind (wpAny_callSpecial?_slot (name := Str.ofString "__getitem__") ht.typeIs PyProof.Rows.slot_tuple_getitem
   (wpAny_call_entry PyProof.Rows.slot_tuple_getitem ht.typeIs entry_tuple_getitem ?_ (args_tuple_getitem _ _)))
 show wpAny _ _ (Builtin.Tuple.tupleItemsOf (.ref t) >>= _) _ _ s
 refine wpAny_bind (tupleItemsOf_ ht ?_)
 refine wpAny_bind (wpAny_typeOf hTs ?_)
 rw [if_pos (by decide)]
 refine wpAny_bind (sliceApplied_gen hs pl pu ?_)
 have hno : ¬ ((((sIx items.size 0 lo : Nat) : Int) == 0 && (1 : Int) == 1 && (sIx items.size items.size hi - sIx items.size 0 lo) == items.size) = true) := by
   intro q
   rw [Bool.and_eq_true, Bool.and_eq_true] at q
   have q1 : ((sIx items.size 0 lo : Nat) : Int) = 0 := eq_of_beq q.1.1
   have q2 : sIx items.size items.size hi - sIx items.size 0 lo = items.size := eq_of_beq q.2
   exact hw ⟨by omega, by omega⟩
 show wpAny _ _ (if (((sIx items.size 0 lo : Nat) : Int) == 0 && (1 : Int) == 1 && (sIx items.size items.size hi - sIx items.size 0 lo) == items.size) = true then _ else _) _ _ s
 rw [if_neg hno, pick_gen]
 first
   | exact wpAny_bind (m := Builtin.Tuple.tupleExact _) (wpAny_newObj_type (wpAny_pure ⟨_, rfl, wpAny_pure h⟩) htake)
   | exact wpAny_bind (m := Builtin.Tuple.tupleExact _) (wpAny_newObj_type (wpAny_bind (wpAny_pure (wpAny_pure ⟨_, rfl, wpAny_pure h⟩))) htake)
   | exact wpAny_bind (wpAny_bind (m := Builtin.Tuple.tupleExact _) (wpAny_newObj_type (wpAny_pure (wpAny_pure ⟨_, rfl, wpAny_pure h⟩)) htake))
   | exact wpAny_bind (wpAny_bind (m := Builtin.Tuple.tupleExact _) (wpAny_newObj_type (wpAny_pure ⟨_, rfl, wpAny_pure h⟩) htake))
end
end HT
namespace L2
open PySem PySem.Spec PyProof.Rows
abbrev TO := St → Hp → (Option Int → Hp → Prop) → Prop
def PO (X : Cx) (e : Option Expr) (t : TO) : Prop :=
 ∀ (pins : List (Addr × Obj)) (s : Shared) (σ : St) (H : Hp) (Q : Option Int → Hp → Prop), Inv X pins σ H s → t σ H Q →
   wpAny (model X.prog X.w) X.A (evalPart e X.env) (fun u s' => ∃ o H', Inv X pins σ H' s' ∧ IsPart u o ∧ Q o H') X.xe s
def tNoPart : TO := fun _ H Q => Q none H
def tPart (t : TE) : TO := fun σ H Q => t σ H fun x H1 => ∃ i, x = .int i ∧ Q (some i) H1
section
variable {X : Cx} {e : Expr} {te : TE} {lo hi : Option Expr} {tl th : TO} {pos p2 : Pos}
theorem po_none : PO X none tNoPart := by
 intro pins s σ H Q I h
 rw [evalPart_none]
 exact wpAny_pure ⟨none, H, I, .none, h⟩
theorem po_some (h : PE X e te) : PO X (some e) (tPart te) := by
 intro pins s σ H Q I hw
 rw [evalPart_some]
 refine thn (h pins s σ H _ I hw) fun u s1 ⟨x, H1, I1, r1, q1⟩ => ?_
 obtain ⟨i, rfl, q⟩ := q1
 obtain ⟨t, rfl⟩ := r1
 exact ⟨some i, H1, I1, .int i t, q⟩
def SlR (X : Cx) (r : V → Option Int → Option Int → Hp → VK → Prop) : Prop :=
 ∀ (pins : List (Addr × Obj)) (s : Shared) (σ : St) (H : Hp) (x : V) (v vl vu : Value) (lo hi : Option Int) (sl : Addr) (Q : VK), Inv X pins σ H s → RelV x v → s.heap.IsSliceOf sl vl vu .none → IsPart vl lo → IsPart vu hi → r x lo hi H Q →
   ∃ T id, typeLookup (.type T) "__getitem__" = pure (some (.builtin id)) ∧ s.TypeIs v T ∧ wpAny (model X.prog X.w) X.A (getItem v (.ref sl)) (EP X pins σ Q) X.xe s
theorem SlR.or {r r' : V → Option Int → Option Int → Hp → VK → Prop} (h : SlR X r) (h' : SlR X r') : SlR X (fun x lo hi H Q => r x lo hi H Q ∨ r' x lo hi H Q) := by
 intro pins s σ H x v vl vu lo hi sl Q I rx hs pl pu q
 rcases q with q | q
 · exact h pins s σ H x v vl vu lo hi sl Q I rx hs pl pu q
 · exact h' pins s σ H x v vl vu lo hi sl Q I rx hs pl pu q
def tSl (r : V → Option Int → Option Int → Hp → VK → Prop) (te : TE) (tl th : TO) : TE := fun σ H Q => te σ H fun x H1 => tl σ H1 fun l H2 => th σ H2 fun u H3 => r x l u H3 Q
theorem pe_slice {r : V → Option Int → Option Int → Hp → VK → Prop} (hr : SlR X r) (he : PE X e te) (hl : PO X lo tl) (hu : PO X hi th) : PE X (.Subscript e (.Slice lo hi none p2) pos) (tSl r te tl th) := by
 intro pins s σ H Q I h
 refine Subscript_ (thn (he pins s σ H _ I h) fun v s1 ⟨x, H1, I1, r1, q1⟩ => ?_)
 refine wpAny_Slice (thn (hl pins s1 σ H1 _ I1 q1) fun vl s2 ⟨l, H2, I2, pl, q2⟩ => thn (hu pins s2 σ H2 _ I2 q2) fun vu s3 ⟨u, H3, I3, pu, q3⟩ => ?_)
 rw [evalPart_none]
 refine wpAny_pure ?_
 have I4 : Inv X pins σ H3 { s3 with heap := s3.heap.push { cls := .type "slice", data := .fields #[vl, vu, .none] } } := I3.kept (t' := s3.toks) fun b ob q => Heap.get?_push_of_some _ q
 obtain ⟨T, id, hT, ht, hg⟩ := hr pins { s3 with heap := s3.heap.push { cls := .type "slice", data := .fields #[vl, vu, .none] } } σ H3 x v vl vu l u s3.heap.objs.size Q I4 r1 (Heap.IsSliceOf.new ..) pl pu q3
 show wpAny (model X.prog X.w) X.A (subscriptTail e (.Slice lo hi none p2) v (.ref s3.heap.objs.size)) (EP X pins σ Q) X.xe { s3 with heap := s3.heap.push { cls := .type "slice", data := .fields #[vl, vu, .none] } }
 exact tail_any (ops := [.ref s3.heap.objs.size, v]) ht hT hg (by with_unfolding_all rfl)
def cutV (xs : List V) (lo hi : Option Int) : List V := (xs.drop (HT.sIx xs.length 0 lo)).take (HT.sIx xs.length xs.length hi - HT.sIx xs.length 0 lo)
theorem cutV_length (xs : List V) (lo hi : Option Int) : (cutV xs lo hi).length ≤ xs.length := by
 unfold cutV
 rw [List.length_take, List.length_drop]
 omega
def rSlT (K : PySem.W.Frag) : V → Option Int → Option Int → Hp → VK → Prop := fun x lo hi H Q => ∃ a xs, x = .ref a ∧ SqT K H a xs ∧
 ¬ (HT.sIx xs.length 0 lo = 0 ∧ HT.sIx xs.length xs.length hi = xs.length) ∧ ∀ p, H p = none → Q (.ref p) (upd H p (.tup (cutV xs lo hi)))
theorem sl_tup : SlR X (rSlT X.K) := by
 intro pins s σ H x v vl vu lo hi sl Q I rx hs pl pu h
 obtain ⟨a, xs, rfl, hx, hw, q⟩ := h
 cases rx
 obtain ⟨its, r, ht, hz⟩ := I.tuple hx
 have hlen : its.toArray.size = xs.length := by rw [List.size_toArray]; exact r.length.symm
 refine ⟨"tuple", _, PyProof.Rows.slot_tuple_getitem.lookup, ht.typeIs, ?_⟩
 refine HT.getItem_tuple_cut ht hs pl pu (by rw [hlen]; exact hw) ?_ (by rw [hlen]; exact hz)
 rw [hlen]
 refine ⟨.ref s.heap.objs.size, _, I.laid (t' := s.toks) (o := .tup (cutV xs lo hi)) (fun b ob q => Heap.get?_push_of_some _ q) (Nat.le_refl _) ?_, rfl, q _ (I.hok.fresh (Nat.le_refl _))⟩
 exact ⟨Nat.le_trans (cutV_length xs lo hi) hz, _, (r.drop (HT.sIx xs.length 0 lo)).take (HT.sIx xs.length xs.length hi - HT.sIx xs.length 0 lo), IsTup.new _ _⟩
def rCatT (K : PySem.W.Frag) : R2 := fun x y H Q => ∃ a b xs ys, x = .ref a ∧ y = .ref b ∧ SqT K H a xs ∧ SqT K H b ys ∧ xs ≠ [] ∧ xs.length + ys.length ≤ sizeLine ∧
 (ys = [] → Q (.ref a) H) ∧ (ys ≠ [] → ∀ p, H p = none → Q (.ref p) (upd H p (.tup (xs ++ ys))))
theorem Vals.nil_iff {xs : List V} {us : List Value} (r : Vals xs us) : us = [] ↔ xs = [] := by
 cases r with
 | nil => simp
 | cons _ _ => simp
theorem op_catT : OpR X (binaryOp .Add) (rCatT X.K) := by
 intro pins s σ H x y v u Q I rx ry h
 obtain ⟨a, b, xs, ys, rfl, rfl, ha, hb, hx, hz, q1, q2⟩ := h
 cases rx
 cases ry
 obtain ⟨its, r1, p1, _⟩ := I.tuple ha
 obtain ⟨its2, r2, p2, _⟩ := I.tuple hb
 refine HT.cat_tup p1 p2 (fun z => hx (r1.nil_iff.mp z)) (fun z => ⟨.ref a, H, I, rfl, q1 (r2.nil_iff.mp z)⟩) (fun z => ?_) (by rw [← r1.length, ← r2.length]; exact hz)
 refine ⟨.ref s.heap.objs.size, _, I.laid (t' := s.toks) (o := .tup (xs ++ ys)) (fun b ob q => Heap.get?_push_of_some _ q) (Nat.le_refl _) ?_, rfl, q2 (fun w => z (r2.nil_iff.mpr w)) _ (I.hok.fresh (Nat.le_refl _))⟩
 exact ⟨by rw [List.length_append]; exact hz, _, r1.append r2, IsTup.new _ _⟩
end
end L2
namespace L2
open PySem PySem.Spec PyProof.Rows
def ixN (n : Nat) (i : Int) : Option Nat := if 0 ≤ i then (if i < n then some i.toNat else none) else if -(n : Int) ≤ i then some (i + n).toNat else none
def atI {α : Type} (xs : List α) (i : Int) : Option α := (ixN xs.length i).bind fun j => xs[j]?
theorem ixN_seq {n : Nat} {i : Int} {j : Nat} (h : ixN n i = some j) : seqIndex? i n = some j ∧ j < n ∧ -(n : Int) ≤ i ∧ i < n := by
 unfold ixN at h
 by_cases h0 : 0 ≤ i
 · rw [if_pos h0] at h
   by_cases h1 : i < n
   · rw [if_pos h1] at h
     have e : i.toNat = j := Option.some.inj h
     exact ⟨by rw [seqIndex_of h0 h1, e], by omega, by omega, h1⟩
   · rw [if_neg h1] at h; cases h
 · rw [if_neg h0] at h
   by_cases h1 : -(n : Int) ≤ i
   · rw [if_pos h1] at h
     have e : (i + n).toNat = j := Option.some.inj h
     exact ⟨by rw [seqIndex_neg (by omega) h1, e], by omega, h1, by omega⟩
   · rw [if_neg h1] at h; cases h
theorem atI_get {α : Type} {xs : List α} {i : Int} {v : α} (h : atI xs i = some v) : ∃ j, seqIndex? i xs.length = some j ∧ xs[j]? = some v ∧ j < xs.length ∧ -(xs.length : Int) ≤ i ∧ i < xs.length := by
 unfold atI at h
 cases e : ixN xs.length i with
 | none => rw [e] at h; cases h
 | some j =>
   rw [e] at h
   obtain ⟨h1, h2, h3, h4⟩ := ixN_seq e
   exact ⟨j, h1, h, h2, h3, h4⟩
theorem atI_nat {α : Type} {xs : List α} {j : Nat} {v : α} (h : xs[j]? = some v) : atI xs (j : Int) = some v := by
 have hj : j < xs.length := (List.getElem?_eq_some_iff.mp h).1
 have e : ixN xs.length (j : Int) = some j := by
   unfold ixN
   rw [if_pos (by omega), if_pos (by omega)]; simp
 unfold atI; rw [e]; exact h
def PlainIx (b : Expr) : Prop := ∀ o i, subscripted b false o i = operate [o, i] (getItem o i)
def IxR (X : Cx) (r : R2) : Prop :=
 ∀ (value slice : Expr) (pins : List (Addr × Obj)) (s : Shared) (σ : St) (H : Hp) (x y : V) (v u : Value) (Q : VK), Inv X pins σ H s → RelV x v → RelV y u → r x y H Q →
   subscripted slice false v u = operate [v, u] (getItem v u) → wpAny (model X.prog X.w) X.A (subscriptTail value slice v u) (EP X pins σ Q) X.xe s
def MtR (X : Cx) (id : String) (r : V → List V → Hp → VK → Prop) : Prop :=
 ∀ (pins : List (Addr × Obj)) (s : Shared) (σ : St) (H : Hp) (x : V) (xs : List V) (v : Value) (us : List Value) (Q : VK), Inv X pins σ H s → RelV x v → Vals xs us → r x xs H Q →
   wpAny (model X.prog X.w) X.A (call (.builtin id) (v :: us)) (EP X pins σ Q) X.xe s
section
variable {X : Cx} {a b : Expr} {ta tb : TE} {pos : Pos}
theorem IxR.or {r r' : R2} (h : IxR X r) (h' : IxR X r') : IxR X (fun x y H Q => r x y H Q ∨ r' x y H Q) := by
 intro value slice pins s σ H x y v u Q I rx ry q hs
 rcases q with q | q
 · exact h value slice pins s σ H x y v u Q I rx ry q hs
 · exact h' value slice pins s σ H x y v u Q I rx ry q hs
theorem pe_ix {r : R2} (hr : IxR X r) (ha : PE X a ta) (hb : PE X b tb) (hs : PlainIx b) : PE X (.Subscript a b pos) (tOp r ta tb) := by
 intro pins s σ H Q I h
 exact Subscript_ (binT ha hb I h fun v u s2 x y H2 I2 rx ry q => hr a b pins s2 σ H2 x y v u Q I2 rx ry q (hs _ _))
def rIxL (K : PySem.W.Frag) : R2 := fun x y H Q => ∃ p xs i v, x = .ref p ∧ y = .int i ∧ SqL K H p xs ∧ atI xs i = some v ∧ Q v H
def rIxT (K : PySem.W.Frag) : R2 := fun x y H Q => ∃ p xs i v, x = .ref p ∧ y = .int i ∧ SqT K H p xs ∧ atI xs i = some v ∧ Q v H
def rIxS : R2 := fun x y H Q => ∃ z i c, x = .str z ∧ y = .int i ∧ z.length ≤ sizeLine ∧ atI z.cps.toList i = some c ∧ Q (.str ⟨#[c]⟩) H
theorem ix_list : IxR X (rIxL X.K) := by
 intro value slice pins s σ H x y v u Q I rx ry h hs
 obtain ⟨p, xs, i, z, rfl, rfl, hq, he, q⟩ := h
 cases rx
 obtain ⟨t, rfl⟩ := ry
 obtain ⟨its, r, pl, hz⟩ := I.list hq
 obtain ⟨j, h1, h2, h3, h4, h5⟩ := atI_get he
 obtain ⟨w, ew, rw'⟩ := r.get h2
 have hl := r.length
 have hn := line63
 have fin : EP X pins σ Q w s := ⟨z, H, I, rw', q⟩
 by_cases h0 : 0 ≤ i
 · have hj : i.toNat = j := by
     rw [seqIndex_of h0 h5] at h1
     exact Option.some.inj h1
   exact item_listR pl.isList h0 (by omega) (by rw [hj]; simpa using ew) fin hs
 · have hj : (i + (its.toArray.size : Int)).toNat = j := by
     rw [seqIndex_neg (by omega) h4] at h1
     rw [List.size_toArray, ← hl]
     exact Option.some.inj h1
   exact subscriptTail_builtinR (x := w) pl.isList.typeIs slot_list_getitem.lookup
     (wpAny_getItem_list_neg (Q := fun r s' => r = w ∧ EP X pins σ Q r s') pl.isList (by omega) (by rw [List.size_toArray] <;> omega) (by omega) (by rw [hj]; simpa using ew) ⟨rfl, fin⟩) hs
theorem ix_tup : IxR X (rIxT X.K) := by
 intro value slice pins s σ H x y v u Q I rx ry h hs
 obtain ⟨p, xs, i, z, rfl, rfl, hq, he, q⟩ := h
 cases rx
 obtain ⟨t, rfl⟩ := ry
 obtain ⟨its, r, pl, hz⟩ := I.tuple hq
 obtain ⟨j, h1, h2, h3, h4, h5⟩ := atI_get he
 obtain ⟨w, ew, rw'⟩ := r.get h2
 have hl := r.length
 have hn := line63
 have fin : EP X pins σ Q w s := ⟨z, H, I, rw', q⟩
 exact subscriptTail_builtinR (x := w) pl.typeIs slot_tuple_getitem.lookup
   (getItem_tuple (j := j) (Q := fun r s' => r = w ∧ EP X pins σ Q r s') pl (by omega) (by omega) (by rw [List.size_toArray, ← hl]; exact h1) (by simpa using ew) ⟨rfl, fin⟩) hs
theorem ix_str : IxR X rIxS := by
 intro value slice pins s σ H x y v u Q I rx ry h hs
 obtain ⟨z, i, c, rfl, rfl, hz, he, q⟩ := h
 obtain ⟨t, rfl⟩ := rx
 obtain ⟨t', rfl⟩ := ry
 obtain ⟨j, h1, h2, h3, h4, h5⟩ := atI_get he
 have hl : z.cps.toList.length = z.length := by simp [Str.length]
 rw [hl] at h1 h4 h5
 have hn := line63
 exact tail_any (typeIs_str s z t) slot_str_getitem.lookup (getItem_str (c := c) (by
   have e1 : decide (i < -(2 ^ 63 : Int)) = false := decide_eq_false (by omega)
   have e2 : decide (i ≥ 2 ^ 63) = false := decide_eq_false (by omega)
   rw [e1, e2, Bool.or_false]) (by rw [h1]; simpa using h2) ⟨.str ⟨#[c]⟩, H, I.tok _, ⟨_, rfl⟩, q⟩) hs
def rIx (K : PySem.W.Frag) : R2 := fun x y H Q => rIxL K x y H Q ∨ rIxT K x y H Q ∨ rIxS x y H Q
theorem ix_seq : IxR X (rIx X.K) := ix_list.or (ix_tup.or ix_str)
theorem mapSeq_set (its : List Value) (n j : Nat) (u : Value) : Obj.mapSeq (·.setIfInBounds j u) { cls := .type "list", data := .seq its.toArray n } = { cls := .type "list", data := .seq (its.set j u).toArray n } := by
 simp [Obj.mapSeq]
theorem Inv.lst {pins : List (Addr × Obj)} {σ : St} {H : Hp} {s : Shared} {p : Addr} {xs : List V} (I : Inv X pins σ H s) (h : H p = some (.lst xs)) :
   ∃ (its : List Value) (n : Nat), Vals xs its ∧ s.heap.get? p = some { cls := .type "list", data := .seq its.toArray n } ∧ xs.length ≤ sizeLine := by
 obtain ⟨z, its, n, r, e⟩ := I.hok p _ h
 exact ⟨its, n, r, e, z⟩
theorem Inv.lstUpd {pins : List (Addr × Obj)} {σ : St} {H : Hp} {s : Shared} {p : Addr} {xs ys : List V} {its its' : List Value} {n n' : Nat} {f : Obj → Obj} (I : Inv X pins σ H s) (h : H p = some (.lst xs))
   (ho : s.heap.get? p = some { cls := .type "list", data := .seq its.toArray n }) (hf : f { cls := .type "list", data := .seq its.toArray n } = { cls := .type "list", data := .seq its'.toArray n' }) (r : Vals ys its') (hz : ys.length ≤ sizeLine) (t : Nat) :
   Inv X pins σ (upd H p (.lst ys)) { s with heap := s.heap.update p f, toks := t } := by
 have e : (s.heap.update p f).get? p = some { cls := .type "list", data := .seq its'.toArray n' } := by
   rw [Heap.get?_update_self f ho (by rw [hf] <;> rfl), hf]
 refine I.write (x := p) (e := p) (by rw [h]; trivial) (.inl rfl) (fun b u hb q => (Heap.get?_update_other _ _ (Ne.symm hb)).trans q) ⟨_, e⟩ ?_
 exact ⟨hz, its', n', r, e⟩
def rSetL : V → V → V → Hp → (Hp → Prop) → Prop := fun o i v H Q => ∃ p xs k j, o = .ref p ∧ i = .int k ∧ H p = some (.lst xs) ∧ ixN xs.length k = some j ∧ Q (upd H p (.lst (xs.set j v)))
theorem set_list : PSet X rSetL := by
 intro pins s σ H o i v ov iv u Q I ro ri rv h
 obtain ⟨p, xs, k, j, rfl, rfl, hp, hj, q⟩ := h
 cases ro
 obtain ⟨t, rfl⟩ := ri
 obtain ⟨its, n, r, ho, hz⟩ := I.lst hp
 obtain ⟨h1, h2, h3, h4⟩ := ixN_seq hj
 have hl := r.length
 have hn := line63
 have I' : Inv X pins σ (upd H p (.lst (xs.set j v))) { s with heap := s.heap.update p (Obj.mapSeq (·.setIfInBounds j u)) } :=
   I.lstUpd hp ho (mapSeq_set its n j u) (r.set rv j) (by rw [List.length_set]; exact hz) s.toks
 by_cases h0 : 0 ≤ k
 · have hk : k.toNat = j := by
     rw [seqIndex_of h0 h4] at h1
     exact Option.some.inj h1
   exact PySem.W.ki_setAt ho h0 (by omega) (by rw [List.size_toArray, ← hl]; exact h4) (by rw [hk]; exact ⟨_, I', q⟩)
 · have hk : (k + (its.toArray.size : Int)).toNat = j := by
     rw [seqIndex_neg (by omega) h3] at h1
     rw [List.size_toArray, ← hl]
     exact Option.some.inj h1
   exact PySem.W.ki_setBack ho (by omega) (by rw [List.size_toArray, ← hl]; exact h3) (by omega) (by rw [hk]; exact ⟨_, I', q⟩)
theorem slice_bounds (lo hi : Option Int) (n : Nat) : (sliceBounds lo hi none n).1 = ((HT.sIx n 0 lo : Nat) : Int) ∧ (sliceBounds lo hi none n).2.1 = ((HT.sIx n n hi : Nat) : Int) ∧ (sliceBounds lo hi none n).2.2 = 1 := by
 refine ⟨?_, ?_, rfl⟩
 · cases lo with
   | none => simp [sliceBounds, HT.sIx]
   | some i =>
     simp only [sliceBounds, HT.sIx, Option.getD_none, show (1 : Int) > 0 by decide, if_true]
     by_cases h : i < 0
     · simp only [h, if_true] <;> omega
     · simp only [h, if_false] <;> omega
 · cases hi with
   | none => simp [sliceBounds, HT.sIx]
   | some i =>
     simp only [sliceBounds, HT.sIx, Option.getD_none, show (1 : Int) > 0 by decide, if_true]
     by_cases h : i < 0
     · simp only [h, if_true] <;> omega
     · simp only [h, if_false] <;> omega
theorem slicePick_cut (its : List Value) (lo hi : Option Int) : slicePick its.toArray lo hi none = ((its.drop (HT.sIx its.length 0 lo)).take (HT.sIx its.length its.length hi - HT.sIx its.length 0 lo)).toArray := by
 obtain ⟨h1, h2, h3⟩ := slice_bounds lo hi its.toArray.size
 unfold slicePick
 rw [h1, h2, h3]
 simp only [sliceRange_one, pick_run, List.size_toArray] <;> rfl
def rSlL (K : PySem.W.Frag) : V → Option Int → Option Int → Hp → VK → Prop := fun x lo hi H Q => ∃ a xs, x = .ref a ∧ SqL K H a xs ∧ ∀ p, H p = none → Q (.ref p) (upd H p (.lst (cutV xs lo hi)))
theorem sl_list : SlR X (rSlL X.K) := by
 intro pins s σ H x v vl vu lo hi sl Q I rx hs pl pu h
 obtain ⟨a, xs, rfl, hx, q⟩ := h
 cases rx
 obtain ⟨its, r, ht, hz⟩ := I.list hx
 have hlen := r.length
 refine ⟨"list", _, slot_list_getitem.lookup, ht.isList.typeIs, ?_⟩
 refine wpAny_getItem_list_slice ht.isList hs pl pu .none (by simp) ?_ (by rw [List.size_toArray] <;> omega)
 rw [slicePick_cut, ← hlen]
 refine ⟨.ref s.heap.objs.size, _, I.laid (t' := s.toks) (o := .lst (cutV xs lo hi)) (fun b ob q => Heap.get?_push_of_some _ q) (Nat.le_refl _) ?_, rfl, q _ (I.hok.fresh (Nat.le_refl _))⟩
 exact ⟨Nat.le_trans (cutV_length xs lo hi) hz, _, 0, (r.drop (HT.sIx xs.length 0 lo)).take (HT.sIx xs.length xs.length hi - HT.sIx xs.length 0 lo), Heap.get?_push_size _ rfl⟩
def flatV : V → Bool
 | .non => true
 | .bl _ => true
 | .int _ => true
 | .str _ => true
 | _ => false
def eqV : V → V → Bool
 | .non, .non => true
 | .bl a, .bl b => a == b
 | .bl a, .int b => (if a then 1 else 0) == b
 | .int a, .bl b => a == (if b then 1 else 0)
 | .int a, .int b => a == b
 | .str a, .str b => a == b
 | _, _ => false
theorem eqAt_V {A : Around} {s : Shared} {y x : V} {u v : Value} (ry : RelV y u) (rx : RelV x v) (fy : flatV y = true) (fx : flatV x = true) : SeqAt.EqAt A s u v (eqV y x) := by
 cases y with
 | non =>
   cases ry
   cases x with
   | non => cases rx; exact SeqAt.EqAt.same _
   | bl b => cases rx; exact SeqAt.EqAt.none_bool b
   | int b => obtain ⟨t, rfl⟩ := rx; exact SeqAt.EqAt.none_int b t
   | str b => obtain ⟨t, rfl⟩ := rx; exact SeqAt.EqAt.none_str b t
   | _ => exact absurd (show false = true from fx) Bool.false_ne_true
 | bl a =>
   cases ry
   cases x with
   | non => cases rx; exact SeqAt.EqAt.bool_none a
   | bl b => cases rx; exact SeqAt.EqAt.bool_bool a b
   | int b => obtain ⟨t, rfl⟩ := rx; exact SeqAt.EqAt.bool_int a b t
   | str b => obtain ⟨t, rfl⟩ := rx; exact SeqAt.EqAt.bool_str a b t
   | _ => exact absurd (show false = true from fx) Bool.false_ne_true
 | int a =>
   obtain ⟨t', rfl⟩ := ry
   cases x with
   | non => cases rx; exact SeqAt.EqAt.int_none a t'
   | bl b => cases rx; exact SeqAt.EqAt.int_bool a t' b
   | int b => obtain ⟨t, rfl⟩ := rx; exact SeqAt.EqAt.int_int a t' b t
   | str b => obtain ⟨t, rfl⟩ := rx; exact SeqAt.EqAt.int_str a t' b t
   | _ => exact absurd (show false = true from fx) Bool.false_ne_true
 | str a =>
   obtain ⟨t', rfl⟩ := ry
   cases x with
   | non => cases rx; exact SeqAt.EqAt.str_none a t'
   | bl b => cases rx; exact SeqAt.EqAt.str_bool a t' b
   | int b => obtain ⟨t, rfl⟩ := rx; exact SeqAt.EqAt.str_int a t' b t
   | str b => obtain ⟨t, rfl⟩ := rx; exact SeqAt.EqAt.str_str a t' b t
   | _ => exact absurd (show false = true from fx) Bool.false_ne_true
 | _ => exact absurd (show false = true from fy) Bool.false_ne_true
def eqU (x : V) (u : Value) : Bool := match u with
 | .none => eqV .non x
 | .bool b => eqV (.bl b) x
 | .int i _ => eqV (.int i) x
 | .str z _ => eqV (.str z) x
 | _ => false
theorem eqU_of {x y : V} {u : Value} (r : RelV y u) (f : flatV y = true) : eqU x u = eqV y x := by
 cases y with
 | non => cases r; rfl
 | bl b => cases r; rfl
 | int i => obtain ⟨t, rfl⟩ := r; rfl
 | str z => obtain ⟨t, rfl⟩ := r; rfl
 | _ => exact absurd (show false = true from f) Bool.false_ne_true
theorem any_eqU {x : V} : ∀ {xs : List V} {us : List Value}, Vals xs us → xs.all flatV = true → us.any (eqU x) = xs.any fun y => eqV y x
 | _, _, .nil, _ => rfl
 | y :: xs, u :: us, .cons r t, f => by
   rw [List.all_cons, Bool.and_eq_true] at f
   rw [List.any_cons, List.any_cons, eqU_of r f.1, any_eqU t f.2]
theorem mem_eqAt {A : Around} {s : Shared} {x : V} {v : Value} (rx : RelV x v) (fx : flatV x = true) : ∀ {xs : List V} {us : List Value}, Vals xs us → xs.all flatV = true → ∀ u ∈ us, SeqAt.EqAt A s u v (eqU x u)
 | _, _, .nil, _ => fun u hu => by cases hu
 | y :: xs, u :: us, .cons r t, f => fun u' hu => by
   rw [List.all_cons, Bool.and_eq_true] at f
   rcases List.mem_cons.mp hu with rfl | hu
   · rw [eqU_of r f.1]; exact eqAt_V r rx f.1 fx
   · exact mem_eqAt rx fx t f.2 u' hu
def inV (x : V) (xs : List V) : Bool := xs.any fun y => eqV y x
def rIn (K : PySem.W.Frag) (neg : Bool) : R2 := fun x y H Q => ∃ p xs, y = .ref p ∧ (SqL K H p xs ∨ SqT K H p xs) ∧ flatV x = true ∧ xs.all flatV = true ∧ Q (.bl (if neg then !inV x xs else inV x xs)) H
theorem op_in_seq : OpR X (compareOp .In) (rIn X.K false) := by
 intro pins s σ H x y v u Q I rx ry h
 obtain ⟨p, xs, rfl, hq, fx, fs, q⟩ := h
 cases ry
 rcases hq with hq | hq
 · obtain ⟨its, r, pl, hz⟩ := I.list hq
   refine SeqAt.in_listAt (eqU x) pl.isList (fun w hw => mem_eqAt rx fx r fs w (by simpa using hw)) ⟨.bl _, H, I, rfl, ?_⟩
   rw [show its.toArray.any (eqU x) = its.any (eqU x) by simp, any_eqU r fs]
   exact q
 · obtain ⟨its, r, pl, hz⟩ := I.tuple hq
   refine SeqAt.in_tupleAt (eqU x) pl (fun w hw => mem_eqAt rx fx r fs w (by simpa using hw)) ⟨.bl _, H, I, rfl, ?_⟩
   rw [show its.toArray.any (eqU x) = its.any (eqU x) by simp, any_eqU r fs]
   exact q
theorem op_notIn_seq : OpR X (compareOp .NotIn) (rIn X.K true) := by
 intro pins s σ H x y v u Q I rx ry h
 obtain ⟨p, xs, rfl, hq, fx, fs, q⟩ := h
 cases ry
 rcases hq with hq | hq
 · obtain ⟨its, r, pl, hz⟩ := I.list hq
   refine SeqAt.notIn_listAt (eqU x) pl.isList (fun w hw => mem_eqAt rx fx r fs w (by simpa using hw)) ⟨.bl _, H, I, rfl, ?_⟩
   rw [show its.toArray.any (eqU x) = its.any (eqU x) by simp, any_eqU r fs]
   exact q
 · obtain ⟨its, r, pl, hz⟩ := I.tuple hq
   refine SeqAt.notIn_tupleAt (eqU x) pl (fun w hw => mem_eqAt rx fx r fs w (by simpa using hw)) ⟨.bl _, H, I, rfl, ?_⟩
   rw [show its.toArray.any (eqU x) = its.any (eqU x) by simp, any_eqU r fs]
   exact q
theorem call_list_of : CallR X (.type "list") (fun xs H Q => ∃ p ys, xs = [.ref p] ∧ (SqL X.K H p ys ∨ SqT X.K H p ys) ∧ ∀ l, H l = none → Q (.ref l) (upd H l (.lst ys))) := by
 intro pins s σ H xs us Q I r h
 obtain ⟨p, ys, rfl, hq, q⟩ := h
 obtain ⟨u, rfl, rx⟩ := vals1 r
 cases rx
 have fin : ∀ (its : List Value), Vals ys its → ys.length ≤ sizeLine → ∀ (h' : Heap) (c' : Nat), (∀ b o', s.heap.get? b = some o' → h'.get? b = some o') →
     h'.get? s.heap.objs.size = some { cls := .type "list", dict := none, data := .seq its.toArray c', slots := #[] } → EP X pins σ Q (.ref s.heap.objs.size) { s with heap := h' } := fun its r' hz h' c' kp e =>
   ⟨.ref s.heap.objs.size, _, I.laid (t' := s.toks) kp (Nat.le_refl _) (show ObjOk X.prog X.w _ h' _ (.lst ys) from ⟨hz, its, c', r', e⟩), rfl, q _ (I.hok.fresh (Nat.le_refl _))⟩
 rcases hq with hq | hq
 · obtain ⟨its, r', pl, hz⟩ := I.list hq
   have hlen := r'.length
   obtain ⟨o, ho, hc, n, hd⟩ := pl.isList
   exact call_list_seq p (.inl rfl) ho hc hd (fun h' c' kp e => fin its r' hz h' c' kp e) (by simp only [List.size_toArray] <;> omega)
 · obtain ⟨its, r', pl, hz⟩ := I.tuple hq
   have hlen := r'.length
   obtain ⟨o, ho, hc, n, hd⟩ := pl
   exact call_list_seq p (.inr rfl) ho hc hd (fun h' c' kp e => fin its r' hz h' c' kp e) (by simp only [List.size_toArray] <;> omega)
theorem call_tuple_of : CallR X (.type "tuple") (fun xs H Q => ∃ p ys, xs = [.ref p] ∧ ((SqL X.K H p ys ∧ ∀ l, H l = none → Q (.ref l) (upd H l (.tup ys))) ∨ (SqT X.K H p ys ∧ Q (.ref p) H))) := by
 intro pins s σ H xs us Q I r h
 obtain ⟨p, ys, rfl, h⟩ := h
 obtain ⟨u, rfl, rx⟩ := vals1 r
 cases rx
 rcases h with ⟨hq, q⟩ | ⟨hq, q⟩
 · obtain ⟨its, r', pl, hz⟩ := I.list hq
   have hlen := r'.length
   refine call_tuple_list pl.isList (fun h' kp => ?_) (by simp only [List.size_toArray] <;> omega)
   have I1 : Inv X pins σ H { s with heap := h' } := I.kept (t' := s.toks) kp
   have I2 : Inv X pins σ (upd H h'.objs.size (.tup ys)) { s with heap := h'.push { cls := .type "tuple", data := .seq its.toArray } } :=
     I1.laid (t' := s.toks) (fun b o e => Heap.get?_push_of_some _ e) (Nat.le_refl _) (show ObjOk X.prog X.w _ _ _ (.tup ys) from ⟨hz, its, r', IsTup.new _ _⟩)
   exact ⟨.ref h'.objs.size, _, I2, rfl, q _ (I1.hok.fresh (Nat.le_refl _))⟩
 · obtain ⟨its, r', pl, hz⟩ := I.tuple hq
   exact call_tuple_same pl ⟨.ref p, H, I, rfl, q⟩
def tyV (K : PySem.W.Frag) (T : String) (x : V) (H : Hp) : Prop := match x with
 | .str _ => T = "str"
 | .int _ => T = "int"
 | .ref p => (T = "list" ∧ ∃ xs, SqL K H p xs) ∨ (T = "tuple" ∧ ∃ o, K.lookup p = some o ∧ o.cls = .type "tuple" ∧ o.dict = none) ∨
     (T = "dict" ∧ ((∃ kvs, H p = some (.dK kvs)) ∨ ∃ kvs, H p = some (.dT kvs))) ∨ (T = "set" ∧ ∃ S n, H p = some (.set S n))
 | _ => False
theorem tyV_is {pins : List (Addr × Obj)} {σ : St} {H : Hp} {s : Shared} {T : String} {x : V} {v : Value} (I : Inv X pins σ H s) (r : RelV x v) (ty : tyV X.K T x H) :
   s.TypeIs v T ∧ ∀ a, v = .ref a → ∃ ob, s.heap.get? a = some ob ∧ ob.dict = none := by
 cases x with
 | str z =>
   obtain ⟨t, rfl⟩ := r
   cases (show T = "str" from ty)
   exact ⟨typeIs_str s z t, fun _ e => nomatch e⟩
 | int i =>
   obtain ⟨t, rfl⟩ := r
   cases (show T = "int" from ty)
   exact ⟨typeIs_int s i t, fun _ e => nomatch e⟩
 | ref p =>
   cases r
   rcases ty with ⟨rfl, xs, hq⟩ | ⟨rfl, o, hk, hc, hd⟩ | ⟨rfl, hk⟩ | ⟨rfl, S, n, hk⟩
   · obtain ⟨its, _, pl, _⟩ := I.list hq
     refine ⟨pl.isList.typeIs, fun a e => ?_⟩
     cases e
     obtain ⟨o, n, e, c, hd, _⟩ := pl
     exact ⟨o, e, hd⟩
   · refine ⟨⟨o, I.kIn p o hk, hc⟩, fun a e => ?_⟩
     cases e
     exact ⟨o, I.kIn _ o hk, hd⟩
   · have z : ∃ o, s.heap.get? p = some o ∧ o.ExactDict := by
       rcases hk with ⟨kvs, hk⟩ | ⟨kvs, hk⟩
       · obtain ⟨_, _, _, _, o, _, _, e, ex, _⟩ := I.hok p _ hk
         exact ⟨o, e, ex⟩
       · obtain ⟨_, _, _, _, o, _, _, e, ex, _⟩ := I.hok p _ hk
         exact ⟨o, e, ex⟩
     obtain ⟨o, e, ex⟩ := z
     refine ⟨⟨o, e, ex.1⟩, fun a e2 => ?_⟩
     cases e2
     exact ⟨o, e, ex.2.1⟩
   · obtain ⟨o, _, _, _, e, ex, _⟩ := I.hok p _ hk
     refine ⟨⟨o, e, ex.1⟩, fun a e2 => ?_⟩
     cases e2
     exact ⟨o, e, ex.2.1⟩
 | _ => exact False.elim ty
def tBM0 (K : PySem.W.Frag) (T : String) (r : V → List V → Hp → VK → Prop) (to : TE) : TE := fun σ H Q => to σ H fun x H1 => tyV K T x H1 ∧ r x [] H1 Q
def tBM (K : PySem.W.Frag) (T : String) (r : V → List V → Hp → VK → Prop) (to : TE) (t : TA) : TE := fun σ H Q => to σ H fun x H1 => tyV K T x H1 ∧ t σ H1 fun xs H2 => r x xs H2 Q
variable {o e : Expr} {es : List Expr} {to : TE} {t : TA} {name : Str} {apos cpos : Pos} {T id : String} {r : V → List V → Hp → VK → Prop}
theorem pe_bm0 (pa : PlainAttrs T) (slot : Slot T name id) (hty : typeOf (.builtin id) = pure (.type "method_descriptor")) (hm : MtR X id r) (ho : PE X o to)
   (hbase : attributeBase o name X.env (eval o X.env) = eval o X.env := by rfl) (hline : (apos.endLine == cpos.line) = true := by rfl) : PE X (.Call (.Attribute o name apos) [] [] cpos) (tBM0 X.K T r to) := by
 intro pins s σ H Q I h
 refine wpAny_Call_method0_late hbase hline (thn (ho pins s σ H _ I h) fun v s1 ⟨x, H1, I1, r1, ty, q1⟩ => ?_)
 obtain ⟨h1, h2⟩ := tyV_is I1 r1 ty
 exact ⟨T, id, pa, slot, hty, h1, h2, Calls.callWith_builtin rfl (PySem.evalArgs_none (hm pins s1 σ H1 x [] v [] Q I1 r1 .nil q1))⟩
theorem pe_bm (pa : PlainAttrs T) (slot : Slot T name id) (hty : typeOf (.builtin id) = pure (.type "method_descriptor")) (hm : MtR X id r) (ho : PE X o to) (ha : PA X (e :: es) t)
   (hbase : attributeBase o name X.env (eval o X.env) = eval o X.env := by rfl)
   (hfew : ((backTo cpos (starEach (e :: es) X.env)).all (fun x => !x.1) && (backToKw cpos (keywordEach [] X.env)).all (fun x => x.1.isSome)
     && decide ((e :: es).length + ([] : List Keyword).length + (if ([] : List Keyword).isEmpty then 0 else 1) < 30)) = true := by rfl)
   (hline : (apos.endLine == cpos.line) = true := by rfl) (hs : starEach (e :: es) X.env = (false, eval e X.env) :: starEach es X.env := by rfl) (hplain : (backTo cpos (starEach es X.env)).any (·.1) = false := by rfl) :
   PE X (.Call (.Attribute o name apos) (e :: es) [] cpos) (tBM X.K T r to t) := by
 intro pins s σ H Q I h
 refine wpAny_Call_method_late hbase hfew hline rfl (thn (ho pins s σ H _ I h) fun v s1 ⟨x, H1, I1, r1, ty, q1⟩ => ?_)
 obtain ⟨h1, h2⟩ := tyV_is I1 r1 ty
 refine ⟨T, id, pa, slot, hty, h1, h2, ?_⟩
 have hA := ha cpos pins s1 σ H1 _ I1 q1
 rw [hs] at hA ⊢
 refine Calls.callWith_builtin (by show (false || (backTo cpos (starEach es X.env)).any (·.1)) = false; rw [hplain] <;> rfl) (Calls.evalArgs_plain ?_)
 exact thn hA fun us s2 ⟨vs, H2, I2, r2, q2⟩ => hm pins s2 σ H2 x vs v us Q I2 r1 r2 q2
end
end L2
namespace L2
open PySem PySem.Spec PyProof.Rows
def MtM (X : Cx) (id : String) (r : V → List V → Hp → VK → Prop) : Prop :=
 ∀ (pins : List (Addr × Obj)) (s : Shared) (σ : St) (H : Hp) (x : V) (xs : List V) (v : Value) (us : List Value) (Q : VK), Inv X pins σ H s → RelV x v → Vals xs us → r x xs H Q →
   wpAny (model X.prog X.w) X.A (call (.builtin id) (v :: us)) (EP X pins σ Q) X.xe s
theorem Vals.one : ∀ {x : V} {us : List Value}, Vals [x] us → ∃ u, us = [u] ∧ RelV x u
 | _, _, .cons r .nil => ⟨_, rfl, r⟩
theorem Vals.zero : ∀ {us : List Value}, Vals [] us → us = []
 | _, .nil => rfl
theorem Vals.dropLast {xs : List V} {us : List Value} (h : Vals xs us) : Vals xs.dropLast us.dropLast := by
 induction h with
 | nil => exact .nil
 | cons r t ih =>
   cases t with
   | nil => exact .nil
   | cons q t' => exact .cons r ih
theorem Vals.rep {xs : List V} {us : List Value} (h : Vals xs us) : ∀ k : Nat, Vals (List.replicate k xs).flatten (List.replicate k us).flatten
 | 0 => .nil
 | k + 1 => by
   rw [List.replicate_succ, List.replicate_succ, List.flatten_cons, List.flatten_cons]
   exact Vals.append h (Vals.rep h k)
theorem erase_last {α : Type} (l : List α) : l.eraseIdx (l.length - 1) = l.dropLast := by
 induction l with
 | nil => rfl
 | cons a r ih =>
   cases r with
   | nil => rfl
   | cons b r =>
     have e : (a :: b :: r).length - 1 = ((b :: r).length - 1) + 1 := by
       have h1 : (a :: b :: r).length = r.length + 2 := rfl
       have h2 : (b :: r).length = r.length + 1 := rfl
       omega
     rw [e, List.eraseIdx_cons_succ, ih]
     all_goals rfl
theorem foldl_rep (its : List Value) : ∀ (k : Nat) (acc : List Value),
   List.foldl (fun x1 x2 => x1 ++ x2) acc.toArray (List.replicate k its.toArray) = (acc ++ (List.replicate k its).flatten).toArray
 | 0, acc => by simp
 | k + 1, acc => by
   have e : acc.toArray ++ its.toArray = (acc ++ its).toArray := by simp
   have e2 : (acc ++ its) ++ (List.replicate k its).flatten = acc ++ (List.replicate (k + 1) its).flatten := by
     rw [List.replicate_succ, List.flatten_cons, List.append_assoc]
   rw [← e2, ← foldl_rep its k (acc ++ its), ← e, List.replicate_succ, List.foldl_cons]
section
variable {X : Cx} {pins : List (Addr × Obj)} {σ : St} {H : Hp} {s : Shared} {l b : Addr} {xs ys zs : List V}
theorem Inv.lset {its its' : List Value} {n : Nat} {f : Array Value → Array Value} {t' : Nat} (I : Inv X pins σ H s) (hH : H l = some (.lst xs))
   (e : s.heap.get? l = some { cls := .type "list", data := .seq its.toArray n }) (hf : f its.toArray = its'.toArray) (hv : Vals ys its') (hz : ys.length ≤ sizeLine) :
   Inv X pins σ (upd H l (.lst ys)) { s with heap := s.heap.update l (Obj.mapSeq f), toks := t' } := by
 have q := PySem.IsL.update e f
 rw [hf] at q
 refine I.write (x := l) (e := l) (by rw [hH]; exact trivial) (.inl rfl) (fun b' u hb hu => (Heap.get?_update_other s.heap (Obj.mapSeq f) (Ne.symm hb)).trans hu) ⟨_, q⟩ ?_
 exact ⟨hz, its', _, hv, q⟩
theorem Inv.lnew {its : List Value} {t' : Nat} (I : Inv X pins σ H s) (hv : Vals ys its) (hz : ys.length ≤ sizeLine) :
   Inv X pins σ (upd H s.heap.objs.size (.lst ys)) { s with heap := s.heap.push { cls := .type "list", data := .seq its.toArray }, toks := t' } :=
 I.laid (fun _ _ q => Heap.get?_push_of_some _ q) (Nat.le_refl _) ⟨hz, its, 0, hv, Heap.get?_push_size _ rfl⟩
theorem Inv.fresh (I : Inv X pins σ H s) : H s.heap.objs.size = none := I.hok.fresh (Nat.le_refl _)
theorem Inv.lstM (I : Inv X pins σ H s) (hH : H l = some (.lst xs)) : xs.length ≤ sizeLine ∧ ∃ (its : List Value) (n : Nat), Vals xs its ∧ xs.length = its.length ∧ s.heap.get? l = some { cls := .type "list", data := .seq its.toArray n } := by
 obtain ⟨z, its, n, r, e⟩ := I.hok l _ hH
 exact ⟨z, its, n, r, r.length, e⟩
theorem notLongL {n : Nat} (h : n ≤ sizeLine) : Builtin.List.listTooLong n = false := by
 unfold Builtin.List.listTooLong
 exact decide_eq_false (by omega)
end
section
variable {X : Cx}
def rAppend : V → List V → Hp → VK → Prop := fun x vs H Q => ∃ l xs y, x = .ref l ∧ vs = [y] ∧ H l = some (.lst xs) ∧ xs.length < sizeLine ∧ Q .non (upd H l (.lst (xs ++ [y])))
theorem mt_append : MtM X "list.append" rAppend := by
 intro pins s σ H x vs v us Q I rx rv h
 obtain ⟨l, xs, y, rfl, rfl, hH, hz, q⟩ := h
 cases rx
 obtain ⟨u, rfl, ru⟩ := rv.one
 obtain ⟨z, its, n, r, hl, e⟩ := I.lstM hH
 refine call_meets F.slot_list_append ⟨_, e, rfl⟩ F.entry_list_append (F.args_list_append_2 _ _) (PySem.list_append l its.toArray n u (by rw [List.size_toArray]; omega)) ⟨e, ?_⟩
 refine ⟨.non, _, I.lset (its' := its ++ [u]) hH e (by simp) (r.append (.cons ru .nil)) ?_, rfl, q⟩
 rw [List.length_append, List.length_singleton]
 omega
def rExtend : V → List V → Hp → VK → Prop := fun x vs H Q => ∃ l b xs zs, x = .ref l ∧ vs = [.ref b] ∧ H l = some (.lst xs) ∧ H b = some (.lst zs) ∧ xs.length + zs.length ≤ sizeLine ∧ Q .non (upd H l (.lst (xs ++ zs)))
theorem mt_extend : MtM X "list.extend" rExtend := by
 intro pins s σ H x vs v us Q I rx rv h
 obtain ⟨l, b, xs, zs, rfl, rfl, hH, hB, hz, q⟩ := h
 cases rx
 obtain ⟨u, rfl, ru⟩ := rv.one
 cases ru
 obtain ⟨z, its, n, r, hl, e⟩ := I.lstM hH
 obtain ⟨z2, its2, n2, r2, hl2, e2⟩ := I.lstM hB
 have hsz : its.toArray.size + its2.toArray.size ≤ sizeLine := by rw [List.size_toArray, List.size_toArray]; omega
 have hlong : ¬ (!its.toArray.isEmpty && Builtin.List.listTooLong (its.toArray.size + its2.toArray.size)) = true := by
   rw [notLongL hsz, Bool.and_false]
   exact Bool.false_ne_true
 refine call_meets F.slot_list_extend ⟨_, e, rfl⟩ F.entry_list_extend (F.args_list_extend_2 _ _)
   (AutoSeq1.list_extend_list_list_0 l its.toArray n b its2.toArray n2 hlong (by rw [List.size_toArray]; omega) (by omega)) ⟨e, e2, ?_⟩
 refine ⟨.non, _, I.lset (its' := its ++ its2) hH e (by simp) (r.append r2) ?_, rfl, q⟩
 rw [List.length_append]
 omega
def rPop : V → List V → Hp → VK → Prop := fun x vs H Q => ∃ l xs y, x = .ref l ∧ vs = [] ∧ H l = some (.lst xs) ∧ xs[xs.length - 1]? = some y ∧ Q y (upd H l (.lst xs.dropLast))
theorem mt_pop : MtM X "list.pop" rPop := by
 intro pins s σ H x vs v us Q I rx rv h
 obtain ⟨l, xs, y, rfl, rfl, hH, hy, q⟩ := h
 cases rx
 have hus := rv.zero
 subst hus
 obtain ⟨z, its, n, r, hl, e⟩ := I.lstM hH
 obtain ⟨u, hu, ru⟩ := r.get hy
 have hy' : its.toArray[its.toArray.size - 1]? = some u := by
   show its.toArray[its.length - 1]? = some u
   rw [← Array.getElem?_toList, ← hl]
   exact hu
 refine call_meets F.slot_list_pop ⟨_, e, rfl⟩ F.entry_list_pop (F.args_list_pop_1 _) (MeetsSeq.list_pop_last l its.toArray n u hy' (by rw [List.size_toArray]; omega)) ⟨e, ?_⟩
 refine ⟨y, _, I.lset (its' := its.dropLast) hH e ?_ r.dropLast ?_, ru, q⟩
 · show its.toArray.eraseIdxIfInBounds (its.toArray.size - 1) = its.dropLast.toArray
   rw [List.size_toArray, List.eraseIdxIfInBounds_toArray, erase_last]
 · rw [List.length_dropLast]
   omega
def rCat : R2 := fun x y H Q => ∃ l b xs zs, x = .ref l ∧ y = .ref b ∧ H l = some (.lst xs) ∧ H b = some (.lst zs) ∧ xs.length + zs.length ≤ sizeLine ∧ ∀ p, H p = none → Q (.ref p) (upd H p (.lst (xs ++ zs)))
theorem op_cat : OpR X (binaryOp .Add) rCat := by
 intro pins s σ H x y v u Q I rx ry h
 obtain ⟨l, b, xs, zs, rfl, rfl, hH, hB, hz, q⟩ := h
 cases rx
 cases ry
 obtain ⟨z, its, n, r, hl, e⟩ := I.lstM hH
 obtain ⟨z2, its2, n2, r2, hl2, e2⟩ := I.lstM hB
 refine PySem.P.add_list e e2 ?_ (by rw [List.size_toArray, List.size_toArray]; omega)
 have ea : its.toArray ++ its2.toArray = (its ++ its2).toArray := by simp
 rw [ea]
 exact ⟨.ref _, _, I.lnew (t' := s.toks) (r.append r2) (by rw [List.length_append]; omega), rfl, q _ I.fresh⟩
def rRep : R2 := fun x y H Q => ∃ l k xs, x = .ref l ∧ y = .int k ∧ H l = some (.lst xs) ∧ -(2 ^ 63) ≤ k ∧ k < 2 ^ 63 ∧ xs.length * k.toNat ≤ sizeLine ∧
 ∀ p, H p = none → Q (.ref p) (upd H p (.lst (List.replicate k.toNat xs).flatten))
theorem len_rep {α : Type} (xs : List α) (k : Nat) : (List.replicate k xs).flatten.length = k * xs.length := by
 induction k with
 | zero => simp
 | succ k ih => rw [List.replicate_succ, List.flatten_cons, List.length_append, ih, Nat.succ_mul, Nat.add_comm]
theorem op_rep : OpR X (binaryOp .Mult) rRep := by
 intro pins s σ H x y v u Q I rx ry h
 obtain ⟨l, k, xs, rfl, rfl, hH, h1, h2, hz, q⟩ := h
 cases rx
 obtain ⟨t, rfl⟩ := ry
 obtain ⟨z, its, n, r, hl, e⟩ := I.lstM hH
 have hlen : its.toArray.size * k.toNat ≤ sizeLine := by rw [List.size_toArray, ← hl]; exact hz
 have hcap : ¬ its.toArray.size * k.toNat > (2 ^ 63 - 1) / 8 := by
   have : (sizeLine : Nat) ≤ (2 ^ 63 - 1) / 8 := by decide
   omega
 have hfit : ¬ (!Builtin.List.listFitsIndex k) = true := by
   rw [fitsIndex_both h1 h2]
   exact Bool.false_ne_true
 have hlong : ¬ Builtin.List.listTooLong (its.toArray.size * k.toNat) = true := by
   rw [notLongL hlen]
   exact Bool.false_ne_true
 have hnew : List.foldl (fun x1 x2 => x1 ++ x2) #[] (List.replicate (if its.toArray.isEmpty = true then 0 else k.toNat) its.toArray) = (List.replicate k.toNat its).flatten.toArray := by
   have f0 : ∀ m : Nat, List.foldl (fun x1 x2 => x1 ++ x2) #[] (List.replicate m its.toArray) = (List.replicate m its).flatten.toArray := fun m => by
     have := foldl_rep its m []
     rw [List.nil_append] at this
     exact this
   rw [f0]
   cases its with
   | nil => simp
   | cons a r' => rw [if_neg (by simp)]
 refine wpAny_binaryOp_repeat_ref (T := "list") (U := "int") (by decide) ⟨_, e, rfl⟩ (fun s' => typeIs_int s' k t) noFill_list_mul F.fills_int_mul F.slot_int_rmul repeat_list F.slot_int_index.lookup
   (call_meets F.slot_int_rmul (typeIs_int s k t) F.entry_int_rmul (F.args_int_rmul_2 _ _) (int___rmul___int_list k t l its.toArray n)
     ⟨e, rfl, ⟨_, e, rfl⟩, call_meets F.slot_list_mul ⟨_, e, rfl⟩ F.entry_list_mul (F.args_list_mul_2 _ _) (AutoListH.list___mul___list_int_3 l its.toArray n k t hfit hcap hlong) ⟨e, ?_⟩⟩)
 rw [hnew]
 exact ⟨.ref _, _, I.lnew (t' := s.toks) (r.rep k.toNat) (by rw [len_rep, Nat.mul_comm]; exact hz), rfl, q _ I.fresh⟩
end
section
variable {prog : Program} {w : World} {A : Around} {E : Value → Shared → Prop} {s : Shared}
end
section
variable {X : Cx}
end
end L2
namespace L2
open PySem PySem.Spec PyProof.Rows
section
variable {κ : Type} [DecidableEq κ]
def valV (kvs : List (κ × V)) (k : κ) : Option V := (kvs.find? fun kv => decide (kv.1 = k)).map (·.2)
theorem valV_pos {p : κ × V} {r : List (κ × V)} {k : κ} (e : p.1 = k) : valV (p :: r) k = some p.2 := by simp [valV, List.find?_cons, e]
theorem valV_neg {p : κ × V} {r : List (κ × V)} {k : κ} (e : ¬ p.1 = k) : valV (p :: r) k = valV r k := by simp [valV, List.find?_cons, e]
theorem RelO.getD {o : Option V} {u : Option Value} {d : V} {d' : Value} (r : RelO o u) (rd : RelV d d') : RelV (o.getD d) (u.getD d') := by
 cases o with
 | none => cases u with
   | none => exact rd
   | some _ => exact (show False from r).elim
 | some _ => cases u with
   | none => exact (show False from r).elim
   | some _ => exact r
theorem KV.val {kvs : List (κ × V)} {vs : List (κ × Value)} (r : KV kvs vs) (k : κ) : RelO (valV kvs k) (valueAt vs k) := by
 unfold KV at r
 induction r with
 | nil => exact True.intro
 | @cons p q ps qs h t ih =>
   obtain ⟨h1, h2⟩ := h
   by_cases e : p.1 = k
   · have e' : q.1 = k := h1.symm.trans e
     have b : valueAt (q :: qs) k = some q.2 := by simp [valueAt, List.find?_cons, e']
     rw [valV_pos e, b]; exact h2
   · have e' : ¬ q.1 = k := fun z => e (h1.trans z)
     have b : valueAt (q :: qs) k = valueAt qs k := by simp [valueAt, List.find?_cons, e']
     rw [valV_neg e, b]; exact ih
theorem KV.keys {kvs : List (κ × V)} {vs : List (κ × Value)} (r : KV kvs vs) : kvs.map (·.1) = vs.map (·.1) := by
 unfold KV at r
 induction r with
 | nil => rfl
 | cons h t ih => rw [List.map_cons, List.map_cons, ih, h.1]
end
theorem kV_is {P : Program} {w : World} {k : Key} {u : Value} (r : RelV (kV k) u) : (mixKind P w).is k u = true := by
 cases k with
 | inl i => obtain ⟨t, e⟩ := (show ∃ t, u = Value.int i t from r); subst e; exact mixKind_int P w i t
 | inr x => obtain ⟨t, e⟩ := (show ∃ t, u = Value.str x t from r); subst e; exact mixKind_str P w x t
section
variable {P : Program} {w : World} {H : Hp} {h : Heap} {a : Addr}
end
section
variable {X : Cx} {pins : List (Addr × Obj)} {σ : St} {H : Hp} {s : Shared} {a : Addr} {y v : V} {u r : Value} {o : Option V} {A : Around} {E : Value → Shared → Prop}
end
section
variable {X : Cx} {pins : List (Addr × Obj)} {σ : St} {H : Hp} {s : Shared} {a : Addr} {kvs : List (Key × V)} {k : Key} {u : Value} {A : Around} {E : Value → Shared → Prop}
end
def NoSl (i : Expr) : Prop := ∀ ov iv, subscripted i false ov iv = operate [ov, iv] (getItem ov iv)
theorem subD_of {prog : Program} {w : World} {A : Around} {E : Value → Shared → Prop} {s : Shared} {env : Env} {value slice : Expr} {pos : Pos} {T id : String} {Q : Value → Shared → Prop}
   (hl : typeLookup (.type T) "__getitem__" = pure (some (.builtin id))) (hs : NoSl slice)
   (h : wpAny (model prog w) A (eval value env) (fun o s₁ => wpAny (model prog w) A (eval slice env) (fun i s₂ => s₂.TypeIs o T ∧ wpAny (model prog w) A (getItem o i) Q E s₂) E s₁) E s) :
   wpAny (model prog w) A (eval (.Subscript value slice pos) env) Q E s := by
 refine Subscript_ (wpAny_mono h (fun o s₁ h₁ => wpAny_mono h₁ (fun i s₂ h₂ => ?_) fun _ _ x => x) fun _ _ x => x)
 obtain ⟨hT, h₂⟩ := h₂
 unfold subscriptTail
 refine wpAny_bind ?_
 rw [getitemInPython_of_ne hT.not_modules]
 refine wpAny_bind (wpAny_specialOf hT hl ?_)
 have fin : wpAny (model prog w) A (subscripted slice false o i) (fun r s₃ => wpAny (model prog w) A (letTemporaryGo value o r >>= fun _ => pure r) Q E s₃) E s₂ := by
   rw [hs o i]
   exact wpAny_operating (wpAny_mono h₂ (fun r s₃ h₃ => wpAny_bind (wpAny_letTemporaryGo (wpAny_pure h₃))) fun _ _ x => x)
 first
   | exact wpAny_pure (wpAny_bind fin)
   | exact wpAny_bind (wpAny_pure (wpAny_bind fin))
   | exact wpAny_bind fin
section
variable {X : Cx} {o i e value : Expr} {pos pos' tpos : Pos} {td ty tv : TE}
end
section
variable {X : Cx} {pos : Pos}
end
structure M1 (X : Cx) (o : Expr) (m : Str) (apos : Pos) (e : Expr) (cpos : Pos) : Prop where
 base : attributeBase o m X.env (eval o X.env) = eval o X.env
 few : ((backTo cpos (starEach [e] X.env)).all (fun x => !x.1) && (backToKw cpos (keywordEach [] X.env)).all (fun x => x.1.isSome)
   && decide (([e] : List Expr).length + ([] : List Keyword).length + (if ([] : List Keyword).isEmpty then 0 else 1) < 30)) = true
 line : (apos.endLine == cpos.line) = true
 trees : backTo cpos (starEach [e] X.env) = [(false, eval e X.env)]
section
variable {X : Cx} {pins : List (Addr × Obj)} {σ : St} {H : Hp} {s : Shared} {a : Addr} {y d : V} {u r : Value} {o : Option V} {A : Around} {E : Value → Shared → Prop}
end
section
variable {X : Cx} {o e f : Expr} {apos cpos : Pos} {td ty tx : TE}
end
section
variable {X : Cx} {pins : List (Addr × Obj)} {σ : St} {H : Hp} {s : Shared} {a : Addr} {kvs : List (Key × V)} {A : Around} {E : Value → Shared → Prop}
end
section
variable {X : Cx} {pins : List (Addr × Obj)} {σ : St} {H : Hp} {s : Shared} {a : Addr} {y : V} {u : Value} {A : Around} {E : Value → Shared → Prop}
end
end L2
namespace Att
open PySem PySem.W PySem.Calls PyProof.Rows
theorem ints_of_wellAll {P : Params} {h : Heap} : ∀ (ns : List Int) (vs : List Value), WellAll P h vs (ns.map WData.int) → IntsAre vs ns := by
 intro ns
 induction ns with
 | nil =>
   intro vs w
   rw [List.map_nil] at w
   cases w
   exact .nil
 | cons n ns ih =>
   intro vs w
   rw [List.map_cons] at w
   cases w with
   | cons a b =>
     cases a
     exact .cons _ _ (ih _ b)
theorem script_of {l : OpenLaw} {n : Nat} (hn : l.most = some n) {P : Params} {h : Heap} {args : List WData} {vals : List Value}
   (hpre : l.row.toRowW.claim.pre args = true) (hwl : WellAll P h vals args) :
   ∃ a vs ns, vals = [Value.ref a] ∧ args = [WData.list (ns.map WData.int)] ∧ h.get? a = some { cls := .type "list", data := .seq vs.toArray } ∧ IntsAre vs ns ∧ ns.length ≤ n := by
 have hsh : WShape.hasAll [] args [.list .int] = true := (pre_splitW hpre).1
 have hc : l.pre.holds [] { args := args } = true := (pre_splitW hpre).2
 obtain ⟨d, r, rfl, h1, h2⟩ := hasAllW_cons hsh
 obtain rfl := hasAllW_nil h2
 obtain ⟨xs, rfl, h3⟩ := hasW_list h1
 obtain ⟨ns, rfl⟩ := items_int h3
 have hlen : ns.length ≤ n := by
   unfold OpenLaw.pre at hc
   have h4 : (WTm.not (.lt (.lit (.int (n : Int))) (.len (.arg 0)))).holds [] { args := [.list (ns.map .int)] } = true := by
     have h4 := (holds_andW hc).1
     rw [hn] at h4
     exact h4
   have h5 := condW_of h4 (w_not (w_lt w_lit (w_len_list (w_arg rfl))))
   rw [List.length_map] at h5
   refine Nat.le_of_not_lt fun q => ?_
   have q' : (n : Int) < ((ns.length : Nat) : Int) := by omega
   first
     | (rw [decide_eq_true q'] at h5; exact absurd h5 (by decide))
     | (simp at h5; omega)
 cases hwl with
 | cons w1 w2 =>
   cases w2
   cases w1 with
   | list ho hall => exact ⟨_, _, ns, rfl, rfl, ho, ints_of_wellAll ns _ hall, hlen⟩
theorem post_true (l : OpenLaw) (args : List WData) : l.row.toRowW.claim.post args (.bool true) args = true :=
 postW_of (r := l.row.toRowW) (X := (true == true))
   (show WShape.has [] (.bool true) .bool = true by first | rfl | decide | simp [WShape.has, WShape.arms, WShape.armsAll])
   (show (WTm.eq .res (.lit (.bool true))).value [] { args := args, res := some (.bool true), after := args } = some (.bool (true == true)) from w_eq_bool (w_res rfl) w_lit) rfl
theorem attach_call {l : OpenLaw} {n : Nat} {q : Program} {loose : List Str} {XP : (Str → Option Value) → Heap → Prop} {YP : World → Heap → Prop} {d : DefRec}
   (hn : l.most = some n) (hdf : d.params.defaults = [])
   (call : ∀ (w : World) (s₀ s₁ : Shared) (mg mb : Str → Option Value) (fa : Addr) (o : Obj) (pm cd doc : Value) (a : Addr) (vs : List Value) (ns : List Int),
     Ground q loose [] XP w s₀ mg mb s₁.heap → YP w s₁.heap →
     s₁.heap.get? fa = some o → o.data = .func (docDef d.name d.params d.body d.scope pm cd doc) → s₁.heap.CodeRec cd d.name → mg d.name = some (.ref fa) →
     s₁.heap.get? a = some { cls := .type "list", data := .seq vs.toArray } → IntsAre vs ns → ns.length ≤ n → s₁.gens = #[] →
     codeAny (model l.prog w) callerA (.call (.ref fa) ⟨[.ref a], []⟩) (fun r s' => r = .ok (.ret (.bool true)) ∧ OldK s₁.heap s'.heap ∧ s'.os = s₁.os ∧ AllBare s'.gens) s₁) :
   WalkO q loose XP YP l.row.toRowW d [] (fun f vs => PySem.call f vs) := by
 intro w s₀ s₁ mg mb G Y fa o pm cd doc dV kV ho hd hcd hD hmg hg args vals as hpre hlay hrd hwl hlo
 obtain rfl : dV = .none := Dflts.none hD hdf
 obtain rfl : kV = .none := Dflts.noKw hD
 obtain ⟨a, vs, ns, rfl, rfl, hobj, hints, hlen⟩ := script_of hn hpre hwl
 refine enter_call (codeAny_mono (call w s₀ s₁ mg mb fa o pm cd doc a vs ns G Y ho (fd_plain hd) hcd hmg hobj hints hlen hg) fun r s' hq => ?_)
 obtain ⟨rfl, h2, h3, h4⟩ := hq
 exact ⟨.inl ⟨.bool true, .bool true, [], rfl, fun _ => rfl, .bool true, post_true l _, fun _ => ⟨List.Pairwise.nil, fun _ hm => (nomatch hm)⟩⟩, h2, h3, h4⟩
section
variable {prog : Program} {w : World} {A : Around} {E : Value → Shared → Prop} {s : Shared} {K : Frag}
end
end Att
namespace L2
open PySem PySem.Spec PyProof.Rows
theorem vals_ints : ∀ {vs : List Value} {ns : List Int}, IntsAre vs ns → Vals (ns.map V.int) vs
 | _, _, .nil => .nil
 | _, _, .cons n t h => .cons ⟨t, rfl⟩ (vals_ints h)
def Only (H : Hp) : Prop := ∀ b, H b = none ∨ ∃ o xs, H b = some (.frz o (.lst xs))
theorem law_call {P : Program} {w : World} {K : PySem.W.Frag} {mg mb : Str → Option Value} {CX : CXT} {k : Nat} {fa a : Addr} {fd : FuncData} {x : Str} {sp : Sp} {s₁ : Shared} {vs : List Value} {ns : List Int}
   (KX : K.In s₁.heap) (hns : s₁.heap.Ns mainGlobals mg) (hb : s₁.heap.Ns builtinsNs mb) (hbb : ∀ x : Str, x ≠ "__name__" → mb x = bootBuiltins x) (hlim : s₁.heap.NoLimit) (hg : s₁.gens = #[])
   (ha : s₁.heap.get? a = some { cls := .type "list", data := .seq vs.toArray }) (hi : IntsAre vs ns) (hl : ns.length ≤ sizeLine) (hr : Room k callerA)
   (F : ∀ base : Heap, K.In base → base.Ns mainGlobals mg → FnOk P w K mg base CX k fa fd [x] sp) (hbind : ∀ (s : Shared) (u : Value), BindsTo s fd ⟨[u], []⟩ [(x, u)])
   (hsp : ∀ H : Hp, Only H → SqL K H a (ns.map V.int) → sp [.ref a] H (fun v _ => v = .bl true) fun _ _ _ => False)
   (hCX : ∀ H e s', CX [] H s₁ (fun _ _ _ => False) e s' → False) :
   codeAny (model P w) callerA (.call (.ref fa) ⟨[.ref a], []⟩) (fun r s' => r = .ok (.ret (.bool true)) ∧ OldK s₁.heap s'.heap ∧ s'.os = s₁.os ∧ AllBare s'.gens) s₁ := by
 have rv := vals_ints hi
 have lenV := hi.length
 -- from an abstract heap in which nothing but the script may be tracked
 have core : ∀ H : Hp, Only H → SqL K H a (ns.map V.int) → HOk P w H s₁.heap → (∀ b, H b ≠ none → b = a) → (H a ≠ none → K.lookup a = none) →
     codeAny (model P w) callerA (.call (.ref fa) ⟨[.ref a], []⟩) (fun r s' => r = .ok (.ret (.bool true)) ∧ OldK s₁.heap s'.heap ∧ s'.os = s₁.os ∧ AllBare s'.gens) s₁ := by
   intro H hO hS hok hA hK
   have base_of : ∀ {b : Addr} {o : Obj}, s₁.heap.get? b = some o → H b = none → (hidT s₁.heap H).get? b = some o := fun e n => hidT_get e n
   have noA : ∀ {b : Addr} {o : Obj} {es : Array DictEntry} {ep : Nat}, s₁.heap.get? b = some o → o.data = .dict es ep → H b = none := fun {b o es ep} e d => by
     cases q : H b with
     | none => rfl
     | some u =>
       have e' : b = a := hA b (by rw [q]; simp)
       subst e'
       rw [ha] at e; cases e
       have d' : Data.seq vs.toArray _ = Data.dict es ep := d
       cases d'
   have nsK : ∀ {b : Addr} {m : Str → Option Value}, s₁.heap.Ns b m → (hidT s₁.heap H).Ns b m := fun {b m} ⟨o, es, ep, e, d, r⟩ => ⟨o, es, ep, base_of e (noA e d), d, r⟩
   have hKb : K.In (hidT s₁.heap H) := fun b o e => base_of (KX b o e) (by
     cases q : H b with
     | none => rfl
     | some u =>
       have e' : b = a := hA b (by rw [q]; simp)
       subst e'
       rw [hK (by rw [q]; simp)] at e; cases e)
   have hM : Mod K mg (hidT s₁.heap H) := ⟨hKb, nsK hns, ⟨mb, nsK hb, hbb⟩, let ⟨mc, h1, h2⟩ := hlim; ⟨mc, nsK h1, h2⟩⟩
   have e0 : Env0 P w K mg (hidT s₁.heap H) callerA [] s₁ H := ⟨rfl, hM, fun b o e => of_hidT e, Nat.le_of_eq (hidT_size _ _), trivial, fun b hb => absurd (show b ∈ ([] : List Addr) from hb) (by simp), hok, .of_eq hg⟩
   refine codeAny_mono ((F _ hKb (nsK hns)).run callerA [] s₁ H ⟨[.ref a], []⟩ [.ref a] [.ref a] _ _ hr e0 (hbind s₁ (.ref a)) (.cons rfl .nil) (hsp H hO hS)) fun r s' h => ?_
   cases r with
   | error e => exact (hCX H e s' h).elim
   | ok fl =>
     cases fl with
     | next => exact False.elim h
     | brk => exact False.elim h
     | cont => exact False.elim h
     | ret u =>
       obtain ⟨v, H', os, bare, un, hok', r', q⟩ := h
       have q' : v = .bl true := q
       subst q'
       obtain rfl : u = Value.bool true := r'
       refine ⟨rfl, OldK.of_keep fun b o e => ?_, os, bare⟩
       cases q : H b with
       | none => exact un.keep b o e q (by intro z; exact absurd (show b ∈ ([] : List Addr) from z) (by simp)) (by simp)
       | some u =>
         rcases hO b with z | ⟨ob, xs, z⟩
         · rw [q] at z; cases z
         · have z2 := un.frzs b ob _ z
           obtain ⟨e1, _⟩ := hok b _ z
           obtain ⟨e2, _⟩ := hok' b _ z2
           rw [e] at e1; cases e1
           exact e2
 cases hk : K.lookup a with
 | some o =>
   -- the script is one of the module's own objects
   have e := KX a o hk
   rw [ha] at e
   cases e
   refine core (fun _ => none) (fun _ => .inl rfl) (.inr ⟨_, vs.toArray, _, hk, rfl, rfl, rfl, by rw [List.size_toArray, lenV]; exact hl, by simpa using rv⟩) (fun b u z => by have z' : (none : Option HO) = some u := z; cases z') (fun b z => absurd rfl z) fun z => absurd rfl z
 | none =>
   refine core (fun b => if b = a then some (.frz { cls := .type "list", data := .seq vs.toArray } (.lst (ns.map V.int))) else none) (fun b => ?_) (.inl (.inr ⟨{ cls := .type "list", data := .seq vs.toArray }, if_pos rfl⟩)) (fun b u z => ?_) (fun b z => ?_) fun _ => hk
   · by_cases hb : b = a
     · exact .inr ⟨_, _, if_pos hb⟩
     · exact .inl (if_neg hb)
   · by_cases hb : b = a
     · have z' := (if_pos hb).symm.trans z
       cases z'
       subst hb
       exact ⟨ha, by rw [List.length_map]; exact hl, vs, _, rv, ha⟩
     · have z' := (if_neg hb).symm.trans z
       cases z'
   · by_cases hb : b = a
     · exact hb
     · exact absurd (if_neg hb) z
end L2
namespace L2
open PySem PySem.Spec PyProof.Rows
abbrev KOf {K : PySem.W.Frag} {h : Heap} (_ : K.In h) : PySem.W.Frag := K
theorem walk_of {l : PySem.W.OpenLaw} {n k : Nat} {q : Program} {loose : List Str} {XP : (Str → Option Value) → Heap → Prop} {YP : World → Heap → Prop} {d : DefRec} {K : Params → PySem.W.Frag} {CX : World → CXT} {sp : World → Sp} {x : Str}
   (hn : l.most = some n) (hn2 : n ≤ sizeLine) (hdf : d.params.defaults = []) (hr : Room k callerA)
   (hY : ∀ (w : World) (h : Heap), YP w h → (K w.params).In h)
   (F : ∀ (w : World) (mg : Str → Option Value) (fa : Addr) (h : Heap), (K w.params).In h → h.Ns mainGlobals mg → mg d.name = some (.ref fa) →
     ∃ fd : FuncData, (∀ (s : Shared) (u : Value), BindsTo s fd ⟨[u], []⟩ [(x, u)]) ∧
       ∀ base : Heap, (K w.params).In base → base.Ns mainGlobals mg → FnOk l.prog w (K w.params) mg base (CX w) k fa fd [x] (sp w))
   (hsp : ∀ (w : World) (H : Hp) (a : Addr) (ns : List Int), ns.length ≤ n → Only H → SqL (K w.params) H a (ns.map V.int) → sp w [.ref a] H (fun v _ => v = .bl true) fun _ _ _ => False)
   (hCX : ∀ (w : World) (H : Hp) (s : Shared) (e : Value) (s' : Shared), CX w [] H s (fun _ _ _ => False) e s' → False) :
   PySem.W.WalkO q loose XP YP l.row.toRowW d [] (fun f vs => PySem.call f vs) := by
 refine Att.attach_call hn hdf fun w s₀ s₁ mg mb fa o pm cd doc a vs ns G Y ho hd hcd hmg hobj hints hlen hg => ?_
 have KX := hY w _ Y
 obtain ⟨fd, hb, hF⟩ := F w mg fa _ KX G.T.g hmg
 exact law_call KX G.T.g G.T.b G.T.builtins G.T.nolimit hg hobj hints (Nat.le_trans hlen hn2) hr hF hb (fun H hO hS => hsp w H a ns hlen hO hS) fun H e s' => hCX w H s₁ e s'
end L2
namespace L2
open PySem PySem.Spec PyProof.Rows
def inClass (s : Stmt) (j : Nat) : Stmt := match s with
 | .ClassDef _ _ _ body _ _ _ _ _ _ _ => body.getD j (.Pass ⟨0, 0, 0, 0⟩)
 | _ => .Pass ⟨0, 0, 0, 0⟩
def defArgs (s : Stmt) : Arguments := match s with
 | .FunctionDef _ a _ _ _ _ _ _ _ _ => a
 | _ => { posonlyargs := [], args := [], vararg := none, kwonlyargs := [], kw_defaults := [], kwarg := none, defaults := [] }
def defBody (s : Stmt) : List Stmt := match s with
 | .FunctionDef _ _ b _ _ _ _ _ _ _ => b
 | _ => []
def defScope (s : Stmt) : Scope := match s with
 | .FunctionDef _ _ _ _ _ _ sc _ _ _ => sc
 | _ => { kind := .function, names := [], isGenerator := false, isCoroutine := false }
abbrev CX0 : CXT := fun _ _ _ _ _ _ => False
abbrev E0 : XK := fun _ _ _ => False
theorem pass0 {X : Cx} : Passes CX0 X E0 := fun _ _ _ _ _ _ _ h => h.elim
structure Fun (K : PySem.W.Frag) (x qual : Str) (st : Stmt) (f : Addr) (fd : FuncData) : Prop where
 ex : ∃ (oc : Value) (od : Option Addr) (kV doc pm : Value) (an : Option Addr) (cdv ct : Value) (osl : Array (Option Value)),
   fd = PySem.W.fnOf x qual (defArgs st) (defBody st) (defScope st) .none kV doc pm an cdv ct ∧ K.lookup f = some ⟨oc, od, .func fd, osl⟩ ∧ PySem.W.codeIn K cdv qual = true
 kp : PySem.W.keepIn K (.ref f) = true
section
variable {P : Program} {w : World} {K : PySem.W.Frag} {mg : Str → Option Value} {base : Heap}
theorem Fun.ok {x qual : Str} {st : Stmt} {f : Addr} {fd : FuncData} {N ps : List Str} {k : Nat} {sp : Sp} (F : Fun K x qual st f fd) (S : FnScope N ps (defScope st)) (len : ∀ vs H Q E, sp vs H Q E → vs.length = ps.length)
   (hbody : ∀ (cdv : Value) (A : Around) (outer : List Env) (s : Shared) (H : Hp) (vs : List V) (Q : VK) (E : XK), Room k (A.deeper (envOfC qual (defScope st) s.heap.objs.size f cdv)) → sp vs H Q E →
     ∃ t, PSs (cxOf CX0 P w K mg base N qual (defScope st) f cdv A outer s H E).nox (defBody st) t ∧ t { nx := fun _ H' => Q .non H', rt := Q } (start N vs) H) : FnOk P w K mg base CX0 (k + 1) f fd ps sp := by
 obtain ⟨oc, od, kV, doc, pm, an, cdv, ct, osl, rfl, lk, hcd⟩ := F.ex
 refine fn_of lk hcd S len fun A outer s H vs Q E hr hsp => ?_
 obtain ⟨t, h, q⟩ := hbody cdv A outer s H vs Q E hr hsp
 exact ⟨t, h.nox, q⟩
theorem Fun.binds {x qual : Str} {st : Stmt} {f : Addr} {fd : FuncData} {ps : List Str} (F : Fun K x qual st f fd)
   (h : ∀ (kV doc pm : Value) (an : Option Addr) (cdv ct : Value) (us : List Value), us.length = ps.length → bindArgs (PySem.W.fnOf x qual (defArgs st) (defBody st) (defScope st) .none kV doc pm an cdv ct) ⟨us, []⟩ = pure (ps.zip us)) : Binds K fd ps [] := by
 obtain ⟨oc, od, kV, doc, pm, an, cdv, ct, osl, rfl, lk, hcd⟩ := F.ex
 exact .all (h kV doc pm an cdv ct)
theorem fun_mk {x qual : Str} {st : Stmt} {f : Addr} {oc : Value} {od an : Option Addr} {osl : Array (Option Value)} {kV doc pm cdv ct : Value} (l : K.lookup f = some ⟨oc, od, .func (PySem.W.fnOf x qual (defArgs st) (defBody st) (defScope st) .none kV doc pm an cdv ct), osl⟩)
   (c : PySem.W.codeIn K cdv qual = true) (k : PySem.W.keepIn K (.ref f) = true) : Fun K x qual st f (PySem.W.fnOf x qual (defArgs st) (defBody st) (defScope st) .none kV doc pm an cdv ct) := ⟨⟨oc, od, kV, doc, pm, an, cdv, ct, osl, rfl, l, c⟩, k⟩
end
section
variable {X : Cx}
theorem pv (i : Nat) {x : Str} {pos : Pos} (hN : X.N[i]? = some x := by rfl) (hv : Vis X.env.scope x := by first | exact Or.inl rfl | exact Or.inr (Or.inl rfl) | exact Or.inr (Or.inr rfl)) (hd : (x == ("__debug__" : Str)) = false := by decide)
   (hcd : (x == ("__classdict__" : Str)) = false := by decide) : PE X (.Name x pos) (tVar i) := pe_var hN hv hd hcd
end
theorem iteF {A B : Prop} (h : B) : if false = true then A else B := by
 rw [if_neg Bool.false_ne_true]
 exact h
theorem iteT {A B : Prop} (h : A) : if true = true then A else B := by
 rw [if_pos rfl]
 exact h
def Same (H H' : Hp) : Prop := ∀ b o, H b = some o → H' b = some o
theorem Same.refl (H : Hp) : Same H H := fun _ _ h => h
theorem Same.trans {H H1 H2 : Hp} (a : Same H H1) (b : Same H1 H2) : Same H H2 := fun c o h => b c o (a c o h)
theorem Same.seq {K : PySem.W.Frag} {H H' : Hp} {a : Addr} {xs : List V} (e : Same H H') (h : SqL K H a xs) : SqL K H' a xs := by
 rcases h with (h | ⟨o, h⟩) | h
 · exact .inl (.inl (e _ _ h))
 · exact .inl (.inr ⟨o, e _ _ h⟩)
 · exact .inr h
section
variable {κ : Type} [DecidableEq κ]
end
end L2
namespace Bt
end Bt
namespace L3
open PySem PySem.Spec PyProof.Rows L2
abbrev St := L2.St
def lstO (its : List Value) : Obj := { cls := .type "list", data := .seq its.toArray its.length }
theorem lstO_snoc (its : List Value) (y : Value) : ({ cls := .type "list", data := .seq (its.toArray.push y) (its.length + 1) } : Obj) = lstO (its ++ [y]) := by
 show ({ cls := .type "list", data := .seq (its.toArray.push y) (its.length + 1) } : Obj) = { cls := .type "list", data := .seq (its ++ [y]).toArray (its ++ [y]).length }
 rw [List.length_append, List.length_singleton, List.push_toArray]
section
variable {prog : Program} {w : World} {A : Around} {R : Result → Shared → Prop} {s : Shared}
theorem compLoop_go {elt target iter : Expr} {ifs : List Expr} {scope : Scope} {pos : Pos} {it acc : Value} {env : Env} (I : Nat → Shared → Prop)
   (turn : ∀ n s, I n s → wpAny (model prog w) A (pyNext it) (fun r s1 => match r with
     | none => R (.ok .next) s1
     | some v => wpAny (model prog w) A (letOwnedTupleGo target it v) (fun _ s2 => wpAny (model prog w) A (assign target env v) (fun _ s3 =>
         wpAny (model prog w) A (forIn ifs true fun c r => if r = true then do let ok ← isTrue c env (eval c env); pure (ForInStep.yield ok) else pure (ForInStep.yield r)) (fun ok s4 =>
           if ok = true then wpAny (model prog w) A (eval elt env) (fun x s5 =>
             wpAny (model prog w) A (call (.builtin "list.append") [acc, x]) (fun _ s6 => ∃ m, m < n ∧ I m s6) (notedBy (model prog w) A env fun e s' => R (.error e) s') s5) (notedBy (model prog w) A env fun e s' => R (.error e) s') s4
           else ∃ m, m < n ∧ I m s4) (notedBy (model prog w) A env fun e s' => R (.error e) s') s3) (notedBy (model prog w) A env fun e s' => R (.error e) s') s2)
         (notedBy (model prog w) A env fun e s' => R (.error e) s') s1) (notedBy (model prog w) A env fun e s' => R (.error e) s') s)
   (n : Nat) (h : I n s) :
   codeAny (model prog w) A (.compLoop (.ListComp elt [⟨target, iter, ifs, 0⟩] scope pos) 0 it acc env) R s := by
 refine codeAny_loop rfl I (fun n s hI => ?_) n h
 show wpAny _ A ((compTurn (.ListComp elt [⟨target, iter, ifs, 0⟩] scope pos) 0 it acc env).onRaise (fun x => do noteFrame x env; theTreesLotGoes x)) _ _ s
 refine wpAny_noted ?_
 rw [compTurn_list]
 refine wpAny_bind (wpAny_standAt (wpAny_bind (wpAny_mono (turn n s hI) (fun r s1 h1 => ?_) fun _ _ h' => h')))
 cases r with
 | none => exact wpAny_pure h1
 | some v =>
   refine wpAny_bind (wpAny_mono h1 (fun _ s2 h2 => ?_) fun _ _ h' => h')
   refine wpAny_bind (wpAny_mono h2 (fun _ s3 h3 => wpAny_bind (wpAny_mono h3 (fun ok s4 h4 => ?_) fun _ _ h' => h')) fun _ _ h' => h')
   cases ok with
   | false => exact wpAny_pure ⟨rfl, h4⟩
   | true =>
     exact wpAny_bind (wpAny_bind (wpAny_mono h4 (fun x s5 h5 => wpAny_bind (wpAny_mono h5 (fun _ s6 h6 => wpAny_pure (wpAny_pure ⟨rfl, h6⟩)) fun _ _ h' => h')) fun _ _ h' => h'))
end
def cxComp (X : Cx) (scope : Scope) (cl : List (Str × Addr)) (own : List Str) (fr : List (Str × Nat)) (C : Addr) (s2 : Shared) (H2 : Hp) (fp : List Addr) : Cx :=
 { prog := X.prog, w := X.w, K := X.K, mg := X.mg, base := X.base, A := X.A, N := own ++ fr.map (·.1), s₀ := s2, H₀ := H2, env := compEnvC scope cl C X.env, outer := X.stack, stack := X.stack,
   ex := fp, fn := fun _ => false, calm := X.calm, pn := [], xe := fun _ _ => False }
def innerS (own : List Str) (fr : List (Str × Nat)) (σ : St) : St := own.map (fun _ => none) ++ fr.map fun p => (σ[p.2]?).join
def ClOk (env : Env) : List (Str × Addr) → Prop
 | [] => True
 | (n, c) :: r => env.cells.lookup n = some c ∧ ClOk env r
theorem ClOk.get {env : Env} : ∀ {cl : List (Str × Addr)} {x : Str} {c : Addr}, ClOk env cl → cl.lookup x = some c → env.cells.lookup x = some c
 | [], _, _, _, h => by simp at h
 | (n, d) :: r, x, c, ok, h => by
   rw [List.lookup_cons] at h
   cases e : x == n with
   | true =>
     rw [e] at h
     have e' : x = n := by simpa using e
     cases h
     rw [e']
     exact ok.1
   | false =>
     rw [e] at h
     exact ClOk.get ok.2 h
def CellK (sc : Scope) (x : Str) : Prop := sc.names.lookup x = some .cell ∨ sc.names.lookup x = some .free
def FrOk (X : Cx) (scope : Scope) (cl : List (Str × Addr)) : List (Str × Nat) → Prop
 | [] => True
 | (x, j) :: r => (X.N[j]? = some x ∧ CellK X.env.scope x ∧ CellK (relabel scope X.env) x ∧ (cl.lookup x).isSome = true) ∧ FrOk X scope cl r
theorem FrOk.get {X : Cx} {scope : Scope} {cl : List (Str × Addr)} : ∀ {fr : List (Str × Nat)} {i : Nat} {p : Str × Nat}, FrOk X scope cl fr → fr[i]? = some p →
   X.N[p.2]? = some p.1 ∧ CellK X.env.scope p.1 ∧ CellK (relabel scope X.env) p.1 ∧ (cl.lookup p.1).isSome = true
 | [], _, _, _, h => by simp at h
 | (x, j) :: r, 0, p, ok, h => by
   simp at h
   subst h
   exact ok.1
 | (x, j) :: r, i + 1, p, ok, h => FrOk.get (i := i) ok.2 (by simpa using h)
structure CompSc (X : Cx) (scope : Scope) (cl : List (Str × Addr)) (own : List Str) (fr : List (Str × Nat)) : Prop where
 clos : closureFor scope X.env = pure cl
 cells : ClOk X.env cl
 frs : FrOk X scope cl fr
 kind : scope.kind = .function
 nocell : ∀ y ∈ scope.names, y.2 ≠ .cell
 names : ∀ y ∈ scope.names, y.2 = .local → scope.names.lookup y.1 = some .local
 has : (scope.names.all fun y => y.2 != .free || (cl.lookup y.1).isSome) = true
theorem lookup_relabel_has {env : Env} {cl : List (Str × Addr)} : ∀ {names : List (Str × NameKind)} {x : Str}, (∀ y ∈ names, y.2 ≠ .cell) → (names.all fun y => y.2 != .free || (cl.lookup y.1).isSome) = true →
   ((names.map fun (n, k) => if (k == NameKind.free && env.scope.kind == .function && env.kindOf n == some .cell) then (n, NameKind.cell) else (n, k)).lookup x = some .cell ∨
    (names.map fun (n, k) => if (k == NameKind.free && env.scope.kind == .function && env.kindOf n == some .cell) then (n, NameKind.cell) else (n, k)).lookup x = some .free) → ∃ c, cl.lookup x = some c
 | [], _, _, _, h => by rcases h with h | h <;> simp at h
 | (n, k) :: r, x, nc, ha, h => by
   rw [List.all_cons, Bool.and_eq_true] at ha
   have ih := @lookup_relabel_has env cl r x (fun y hy => nc y (List.mem_cons_of_mem _ hy)) ha.2
   have nk : k ≠ .cell := nc (n, k) List.mem_cons_self
   have hk := ha.1
   cases hx : x == n with
   | true =>
     have ex : x = n := by simpa using hx
     subst ex
     by_cases hf : k = .free
     · subst hf
       have z : (cl.lookup x).isSome = true := by simpa using hk
       exact Option.isSome_iff_exists.mp z
     · exfalso
       have hb : (k == NameKind.free) = false := by simpa using hf
       rcases h with h | h
       · rw [List.map_cons] at h
         simp only [hb, Bool.false_and, Bool.false_eq_true, if_false, List.lookup_cons, beq_self_eq_true] at h
         exact nk (Option.some.inj h)
       · rw [List.map_cons] at h
         simp only [hb, Bool.false_and, Bool.false_eq_true, if_false, List.lookup_cons, beq_self_eq_true] at h
         exact hf (Option.some.inj h)
   | false =>
     refine ih ?_
     rcases h with h | h
     · left
       rw [List.map_cons] at h
       by_cases hc : (k == NameKind.free && env.scope.kind == .function && env.kindOf n == some .cell) = true
       · simp only [hc, if_true, List.lookup_cons, hx] at h; exact h
       · simp only [hc, Bool.false_eq_true, if_false, List.lookup_cons, hx] at h; exact h
     · right
       rw [List.map_cons] at h
       by_cases hc : (k == NameKind.free && env.scope.kind == .function && env.kindOf n == some .cell) = true
       · simp only [hc, if_true, List.lookup_cons, hx] at h; exact h
       · simp only [hc, Bool.false_eq_true, if_false, List.lookup_cons, hx] at h; exact h
def PTs (Y : Cx) (ifs : List Expr) (t : TT) : Prop :=
 ∀ (pins : List (Addr × Obj)) (s : Shared) (σ : St) (H : Hp) (Q : Bool → Hp → Prop), Inv Y pins σ H s → t σ H Q →
   wpAny (model Y.prog Y.w) Y.A (forIn ifs true fun c r => if r = true then do let ok ← isTrue c Y.env (eval c Y.env); pure (ForInStep.yield ok) else pure (ForInStep.yield r)) (TP Y pins σ Q) Y.xe s
def tTrue : TT := fun _ H Q => Q true H
theorem pts_nil {Y : Cx} : PTs Y [] tTrue := fun _ _ _ H _ I h => wpAny_tests_nil ⟨H, I, h⟩
theorem pts_one {Y : Cx} {c : Expr} {t : TT} (h : PT Y c t) : PTs Y [c] t := fun pins s σ H Q I hw => wpAny_tests_one (h pins s σ H Q I hw)
def tComp (own : List Str) (fr : List (Str × Nat)) (wi : TI) (g : TG) (tc : TT) (te : TE) (fin : List V → Hp → Prop) : St → Hp → Prop := fun σ H => wi σ H fun J H1 =>
 ∃ W : Nat → Nat → List V → St → Hp → Prop, (∃ m, W 0 m [] (innerS own fr σ) H1) ∧ ∀ i m ys σ' H', W i m ys σ' H' →
   (J.stop i H' ∧ ys.length ≤ sizeLine ∧ fin ys H') ∨
   (J.go i H' ∧ ∃ N : List V → St → Hp → Prop, (∀ ys2 σ2 H2, N ys2 σ2 H2 → ys2.length ≤ sizeLine ∧ ∃ m', m' < m ∧ W (i + 1) m' ys2 σ2 H2) ∧
     ∀ x H2, J.yld i H' x H2 → g x σ' H2 fun σ3 H3 => tc σ3 H3 fun b H4 => if b = true then te σ3 H4 fun y H5 => N (ys ++ [y]) σ3 H5 else N ys σ3 H4)
structure Off (X : Cx) (pins : List (Addr × Obj)) (H : Hp) (C : Addr) : Prop where
 none : H C = none
 loc : C ≠ X.env.locals
 above : X.s₀.heap.objs.size ≤ C
 cell : ∀ x c, X.env.cells.lookup x = some c → c ≠ C
 pin : ∀ p ∈ X.pn ++ pins, p.1 ≠ C
section
variable {X : Cx} {tg elt iter : Expr} {ifs : List Expr} {scope : Scope} {cl : List (Str × Addr)} {own : List Str} {fr : List (Str × Nat)} {wi : TI} {g : TG} {tc : TT} {te : TE} {pos : Pos}
theorem comp_core (hc : X.calm = true) (S : CompSc X scope cl own fr) (hi : PI X tg iter wi) (hg : ∀ C s2 H2 fp, PG (cxComp X scope cl own fr C s2 H2 fp) tg g)
   (ht : ∀ C s2 H2 fp, PTs (cxComp X scope cl own fr C s2 H2 fp) ifs tc) (he : ∀ C s2 H2 fp, PE (cxComp X scope cl own fr C s2 H2 fp) elt te)
   {pins : List (Addr × Obj)} {s : Shared} {σ : St} {H : Hp} {fin : List V → Hp → Prop} (I : Inv X pins σ H s) (h : tComp own fr wi g tc te fin σ H)
   {RR : Value → Addr → Result → Shared → Prop}
   (hR : ∀ (D C : Addr) (s4 : Shared) (H3 : Hp) (ys : List V) (m : Str → Option Value), H3 D = none → Inv X pins σ (upd H3 D (.lst ys)) s4 → s4.heap.Ns C m → Off X pins (upd H3 D (.lst ys)) C → fin ys H3 → RR (.ref D) C (.ok .next) s4) :
   wpAny (model X.prog X.w) X.A (eval iter X.env) (fun x s1 => wpAny (model X.prog X.w) X.A (pyIter x) (fun itv s2 => wpAny (model X.prog X.w) X.A (newList []) (fun acc s3 =>
     wpAny (model X.prog X.w) X.A (newFunctionEnv scope X.env.globals cl [] X.env.qual none .none (some X.env)) (fun cenv s4 =>
       codeAny (model X.prog X.w) X.A (.compStart (.ListComp elt [⟨tg, iter, ifs, 0⟩] scope pos) 0 itv acc { cenv with scope := relabel scope X.env }) (RR acc cenv.locals) s4) X.xe s3) X.xe s2) X.xe s1) X.xe s := by
 refine thn (hi pins s σ H _ I h) fun v s1 h1 => thn h1 fun itv s2 h2 => ?_
 obtain ⟨it, fp, tn, J, H2, rfl, I2, T, st2, f2, W, ⟨m0, w0⟩, turn⟩ := h2
 refine wpAny_newObj_type (wpAny_newFunctionEnv S.nocell (by intro y hy; simp at hy) (fun h1 hns1 hsb1 => ?_) S.kind)
 dsimp only at hns1 hsb1 ⊢
 generalize hHP : s2.heap.push { cls := .type "list", dict := none, data := .seq ([] : List Value).toArray } = HP at hns1 hsb1 ⊢
 have hC : HP.objs.size = s2.heap.objs.size + 1 := by rw [← hHP, Heap.size_push]
 have hDC : s2.heap.objs.size ≠ HP.objs.size := by rw [hC]; exact Nat.ne_of_lt (Nat.lt_succ_self _)
 have below : ∀ b, b < s2.heap.objs.size → b ≠ HP.objs.size ∧ b ≠ s2.heap.objs.size := fun b hb => ⟨by rw [hC]; exact Nat.ne_of_lt (Nat.lt_succ_of_lt hb), Nat.ne_of_lt hb⟩
 have old : ∀ b o, s2.heap.get? b = some o → h1.get? b = some o := fun b o e => hsb1.extBut b o (below b (Heap.lt_size e)).1 (Heap.get?_push_of_some _ (hHP ▸ Heap.get?_push_of_some _ e))
 have hacc : h1.get? s2.heap.objs.size = some (lstO []) := hsb1.extBut _ _ hDC (Heap.get?_push_of_some _ (hHP ▸ Heap.get?_push_size _ rfl))
 have hfpo : ∀ b ∈ fp, b < s2.heap.objs.size := fun b hb => by obtain ⟨o, e, _⟩ := T.obj 0 _ st2 b hb; exact Heap.lt_size e
 have hcells : ∀ x c, cl.lookup x = some c → X.env.cells.lookup x = some c := fun x c e => S.cells.get e
 have hcD : ∀ x c, X.env.cells.lookup x = some c → c < s2.heap.objs.size := fun x c e => by obtain ⟨v, q⟩ := I2.cell x c e; exact q.lt
 have st1 : tn 0 h1 := T.keep _ _ _ st2 fun b _ o e => old b o e
 have hDfree : H2 s2.heap.objs.size = none := I2.hok.fresh (Nat.le_refl _)
 have hCfree : H2 HP.objs.size = none := I2.hok.fresh (by rw [hC]; exact Nat.le_succ _)
 have nostk : ∀ b, s2.heap.objs.size ≤ b → b ∉ L2.frs X.stack := fun b hb hm => by
   rcases List.mem_cons.mp (I2.stkSub b hm) with e | e
   · exact absurd I2.lt (by rw [← e]; exact Nat.not_lt.mpr hb)
   · exact I2.nofs hb e
 have hDlt : s2.heap.objs.size < h1.objs.size := Heap.lt_size hacc
 -- the block's context
 have YOk : (cxComp X scope cl own fr HP.objs.size s2 H2 fp).Ok := by
   refine ⟨I2.ok.mod, S.kind, I2.ok.glob, I2.ok.blt, ?_, fun x y c e1 e2 => I2.ok.inj x y c (hcells _ _ e1) (hcells _ _ e2), fun x hx => ?_, fun x c hf => ?_, I2.ok.hd, I2.ok.frames, .inl rfl, fun b hb => ⟨?_, fun x c e => ?_⟩,
     I2.bs, Nat.le_trans I2.ok.bsz I2.sz, fun b o e hb => ?_, fun b hb hm => ?_, I2.stack, I2.stkFree⟩
   · show s2.heap.objs.size ≤ HP.objs.size
     rw [hC]; exact Nat.le_succ _
   · exact lookup_relabel_has (env := X.env) S.nocell S.has hx
   · cases hf
   · exact (below b (hfpo b hb)).1
   · exact (f2 b hb).2.2.2.2.1 x c (hcells _ _ e)
   · rcases (f2 b hb).2.2.2.1 with z | z
     · exact I2.ok.noex b o e z
     · exact absurd (Heap.lt_size (I2.ok.bs b o e).1) (Nat.not_lt.mpr z)
   · rcases List.mem_cons.mp (I2.stkSub b hm) with e | e
     · exact (f2 b hb).2.1 e
     · exact (f2 b hb).2.2.1 e
 have hpinD : ∀ {h' : Heap} {its : List Value} {H' : Hp}, h'.get? s2.heap.objs.size = some (lstO its) → H' s2.heap.objs.size = none → ∀ p ∈ ([(s2.heap.objs.size, lstO its)] : List (Addr × Obj)),
     h'.get? p.1 = some p.2 ∧ H' p.1 = none ∧ p.1 ≠ HP.objs.size ∧ p.1 ∉ L2.frs X.stack ∧ ∀ v, p.2.data ≠ .cell v := fun {h' its H'} e n p hp => by
   have e1 : p = (s2.heap.objs.size, lstO its) := by simpa using hp
   subst e1
   exact ⟨e, n, hDC, nostk _ (Nat.le_refl _), fun v z => by cases z⟩
 have IY : Inv (cxComp X scope cl own fr HP.objs.size s2 H2 fp) [(s2.heap.objs.size, lstO [])] (innerS own fr σ) H2 { s2 with heap := h1, toks := s2.toks + ([] : List (Str × Value)).length } := by
   refine ⟨YOk, rfl, I2.bare, Un.kept old, ⟨_, hns1, fun i x v e1 e2 e3 => ?_⟩, fun x c e => ?_, hCfree, fun x c e => I2.freeC x c (hcells _ _ e), hpinD hacc hDfree, I2.hok.kept old, ?_⟩
   · have e1' : (own ++ fr.map (·.1))[i]? = some x := e1
     have e2' : (own.map (fun _ => (none : Option V)) ++ fr.map fun p => (σ[p.2]?).join)[i]? = some (some v) := e2
     by_cases hi' : i < own.length
     · rw [List.getElem?_append_left (by simpa using hi'), List.getElem?_map] at e2'
       rw [List.getElem?_eq_getElem hi'] at e2'
       cases e2'
     · rw [List.getElem?_append_right (by simpa using hi'), List.getElem?_map] at e2'
       rw [List.getElem?_append_right (Nat.not_lt.mp hi'), List.getElem?_map] at e1'
       rw [List.length_map] at e2'
       cases ef : fr[i - own.length]? with
       | none => rw [ef] at e1'; cases e1'
       | some p =>
         rw [ef] at e1' e2'
         have ex : p.1 = x := Option.some.inj e1'
         have ev : (σ[p.2]?).join = some v := Option.some.inj e2'
         obtain ⟨hN, hk, hk2, hs⟩ := S.frs.get ef
         have eσ : σ[p.2]? = some (some v) := by
           cases q : σ[p.2]? with
           | none => rw [q] at ev; cases ev
           | some o => rw [q] at ev; exact congrArg some ev
         obtain ⟨m, hn, hl⟩ := I2.loc
         obtain ⟨u, r, l⟩ := hl p.2 p.1 v hN eσ (by rcases hk with k | k; exact .inr (.inl k); exact .inr (.inr k))
         subst ex
         obtain ⟨c, ec⟩ := Option.isSome_iff_exists.mp hs
         refine ⟨u, r, .inr ⟨hk2, c, ec, ?_⟩⟩
         rcases l with ⟨hl1, _⟩ | ⟨_, c', ec', z⟩
         · have hl1' : X.env.scope.names.lookup p.1 = some .local := hl1
           rcases hk with z | z
           · rw [z] at hl1'; cases hl1'
           · rw [z] at hl1'; cases hl1'
         · have := hcells _ _ ec
           rw [ec'] at this
           cases this
           exact z.keeps old
   · obtain ⟨v, z⟩ := I2.cell x c (hcells _ _ e)
     exact ⟨v, z.keeps old⟩
   · show (own.map (fun _ => (none : Option V)) ++ fr.map fun p => (σ[p.2]?).join).length = (own ++ fr.map (·.1)).length
     simp
 have stat : ∀ {its : List Value} {H' : Hp}, (∀ b ∈ fp, H' b = none) → ∀ b ∈ fp, FpOk (cxComp X scope cl own fr HP.objs.size s2 H2 fp) [(s2.heap.objs.size, lstO its)] H' b := fun {its H'} hn b hb =>
   ⟨hn b hb, (below b (hfpo b hb)).1, fun hm => by
       rcases List.mem_cons.mp (I2.stkSub b hm) with e | e
       · exact (f2 b hb).2.1 e
       · exact (f2 b hb).2.2.1 e, .inl hb, fun x c e => (f2 b hb).2.2.2.2.1 x c (hcells _ _ e), fun p hp => by
       have e1 : p = (s2.heap.objs.size, lstO its) := by
         have hp' : p ∈ ([] : List (Addr × Obj)) ++ [(s2.heap.objs.size, lstO its)] := hp
         simpa using hp'
       subst e1
       exact (below b (hfpo b hb)).2.symm⟩
 have loop : ∀ s3 : Shared, s3 = { s2 with heap := h1, toks := s2.toks + ([] : List (Str × Value)).length } →
     codeAny (model X.prog X.w) X.A (.compLoop (.ListComp elt [⟨tg, iter, ifs, 0⟩] scope pos) 0 (.ref it) (.ref s2.heap.objs.size) (compEnvC scope cl HP.objs.size X.env)) (RR (.ref s2.heap.objs.size) HP.objs.size) s3 := by
   rintro s3 rfl
   refine compLoop_go (fun n s' => ∃ i ys its σ' H', Inv (cxComp X scope cl own fr HP.objs.size s2 H2 fp) [(s2.heap.objs.size, lstO its)] σ' H' s' ∧ Vals ys its ∧ tn i s'.heap ∧ (∀ b ∈ fp, H' b = none) ∧ W i n ys σ' H') ?_ m0
     ⟨0, [], [], innerS own fr σ, H2, IY, .nil, st1, fun b hb => (f2 b hb).1, w0⟩
   rintro n s3 ⟨i, ys, its, σ3, H3, I3, rv, st3, fr3, w3⟩
   rcases turn i n ys σ3 H3 w3 with ⟨stop, hz, qn⟩ | ⟨go, N, hN, step⟩
   · refine wpAny_mono (T.done (cxComp X scope cl own fr HP.objs.size s2 H2 fp) rfl rfl rfl hc i _ s3 σ3 H3 (fun _ _ => False) I3 (stat fr3) st3 stop) (fun r s4 h4 => ?_) fun _ _ f => f.elim
     obtain ⟨hr, I4⟩ := h4
     subst hr
     obtain ⟨eD, nD, _⟩ := I4.pin (s2.heap.objs.size, lstO its) (by simp [cxComp])
     obtain ⟨m, hn, _⟩ := id I4.loc
     have nC : H3 HP.objs.size = none := I4.free
     have bu := I4.base
     have J4 : Inv X pins σ (upd H3 s2.heap.objs.size (.lst ys)) s4 := by
       refine I2.call' (ch := fp) I4.os ⟨fun b o e n hb hx => bu.keep b o e n hb hx, fun b o e n hb hx => bu.slot b o e n hb hx, fun b o e n hx => ?_, fun b o e hx => bu.there b o e hx, fun b xs e => ?_, fun b o u e => ?_, fun b ps e => ?_⟩ ?_ I4.bare ?_
       · rw [upd_ne (below b (Heap.lt_size e)).2]; exact bu.free b o e n hx
       · have z := bu.tups b xs e
         rw [upd_ne (ne_of_none z nD)]; exact z
       · have z := bu.frzs b o u e
         rw [upd_ne (ne_of_none z nD)]; exact z
       · obtain ⟨more, z⟩ := bu.tbls b ps e
         exact ⟨more, by rw [upd_ne (ne_of_none z nD)]; exact z⟩
       · intro b o e
         by_cases hb : b = s2.heap.objs.size
         · subst hb
           rw [upd_same] at e
           cases e
           exact ⟨hz, its, its.length, rv, eD⟩
         · rw [upd_ne hb] at e
           exact (I4.hok b o e).stay (fun c u _ q => q) (fun c q => by rw [upd_ne (ne_of_none q nD)]; exact q) fun c xs q => by rw [upd_ne (ne_of_none q nD)]; exact q
       · intro b hb
         exact ⟨(f2 b hb).2.2.2.1, (f2 b hb).2.1, (f2 b hb).2.2.2.2.1, (f2 b hb).2.2.2.2.2⟩
     refine hR _ _ s4 H3 ys m nD J4 hn ⟨?_, ?_, ?_, ?_, ?_⟩ qn
     · rw [upd_ne hDC.symm]; exact nC
     · exact Nat.ne_of_gt (Nat.lt_of_lt_of_le I2.lt (by rw [hC]; exact Nat.le_succ _))
     · exact Nat.le_trans I2.sz (by rw [hC]; exact Nat.le_succ _)
     · exact fun x c e => (below c (hcD x c e)).1
     · exact fun p hp => (below p.1 (Heap.lt_size (I2.pin p hp).1)).1
   · refine wpAny_mono (T.item (cxComp X scope cl own fr HP.objs.size s2 H2 fp) rfl rfl rfl hc i _ s3 σ3 H3 (fun _ _ => False) I3 (stat fr3) st3 go) (fun r s4 h4 => ?_) fun _ _ f => f.elim
     obtain ⟨u, hr, h4⟩ := h4
     subst hr
     refine wpAny_mono h4 (fun _ s5 h5 => ?_) fun _ _ f => f.elim
     obtain ⟨x, H5, I5, r5, y5, st5, fr5⟩ := h5
     have I5' := I5.pinned (stat fr5) (T.obj _ _ st5)
     refine wpAny_mono (hg _ _ _ _ _ s5 σ3 H5 x u _ I5' r5 (step x H5 y5)) (fun _ s6 h6 => ?_) fun _ _ f => f.elim
     obtain ⟨σ6, H6, I6, q6⟩ := h6
     refine wpAny_mono (ht _ _ _ _ _ s6 σ6 H6 _ I6 q6) (fun ok s7 h7 => ?_) fun _ _ f => f.elim
     obtain ⟨H7, I7, q7⟩ := h7
     have keepT : ∀ {σ8 : St} {H8 : Hp} {s8 : Shared} {l : List (Addr × Obj)}, Inv (cxComp X scope cl own fr HP.objs.size s2 H2 fp) (l ++ pinsAt fp s5.heap) σ8 H8 s8 → tn (i + 1) s8.heap ∧ ∀ b ∈ fp, H8 b = none := fun {σ8 H8 s8 l} I8 => by
       refine ⟨T.keep _ _ _ st5 fun b hb o e => (I8.pin (b, o) (List.mem_append_right _ (List.mem_append_right _ (mem_pinsAt hb e)))).1, fun b hb => ?_⟩
       obtain ⟨o, e, _⟩ := T.obj _ _ st5 b hb
       exact (I8.pin (b, o) (List.mem_append_right _ (List.mem_append_right _ (mem_pinsAt hb e)))).2.1
     cases ok with
     | false =>
       rw [if_neg Bool.false_ne_true] at q7 ⊢
       obtain ⟨_, m', hm, w7⟩ := hN _ _ _ q7
       exact ⟨m', hm, i + 1, ys, its, σ6, H7, I7.unpinned, rv, (keepT I7).1, (keepT I7).2, w7⟩
     | true =>
       rw [if_pos rfl] at q7 ⊢
       refine wpAny_mono (he _ _ _ _ _ s7 σ6 H7 _ I7 q7) (fun y s8 h8 => ?_) fun _ _ f => f.elim
       obtain ⟨yv, H8, I8, r8, n8⟩ := h8
       obtain ⟨hlt', m', hm, w8⟩ := hN _ _ _ n8
       have hlt : ys.length < sizeLine := by rw [List.length_append] at hlt'; exact hlt'
       obtain ⟨eD, nD, nL, _, _⟩ := I8.pin (s2.heap.objs.size, lstO its) (by simp [cxComp])
       refine append_at (its := its.toArray) (n := its.length) (hsz := by rw [List.size_toArray, ← rv.length]; exact Nat.le_of_lt hlt) eD fun h9 sb9 eD9 => ?_
       have I8p : Inv (cxComp X scope cl own fr HP.objs.size s2 H2 fp) (pinsAt fp s5.heap) σ6 H8 s8 := I8.pins_of fun p hp => I8.pin p (List.mem_append_right _ (List.mem_append_right _ hp))
       have I9p : Inv (cxComp X scope cl own fr HP.objs.size s2 H2 fp) (pinsAt fp s5.heap) σ6 H8 { s8 with heap := h9 } :=
         I8p.turned (t' := s8.toks) (fun b o hb e => (sb9.2 b hb).trans e) nD nL (.inr (Nat.le_refl _)) (fun x c e => (below c (hcD x c (hcells _ _ e))).2) fun p hp => by
           have hp' : p ∈ pinsAt fp s5.heap := by simpa [cxComp] using hp
           exact (below p.1 (hfpo _ (of_pinsAt hp').1)).2
       have eD9' : h9.get? s2.heap.objs.size = some (lstO (its ++ [y])) := eD9.trans (congrArg some (lstO_snoc its y))
       have I9 : Inv (cxComp X scope cl own fr HP.objs.size s2 H2 fp) [(s2.heap.objs.size, lstO (its ++ [y]))] σ6 H8 { s8 with heap := h9 } := I9p.pins_of (hpinD eD9' nD)
       have K9 := keepT (l := []) (by simpa using I9p)
       exact ⟨m', hm, i + 1, ys ++ [yv], its ++ [y], σ6, H8, I9, rv.append (.cons r8 .nil), K9.1, K9.2, w8⟩
 exact codeAny_compStart_list (loop _ rfl) (T.self _ 0 _ _ _ st1 (loop _ rfl))
def tCompE (own : List Str) (fr : List (Str × Nat)) (wi : TI) (g : TG) (tc : TT) (te : TE) : TE := fun σ H Q => tComp own fr wi g tc te (fun ys H3 => ∀ p, H3 p = none → Q (.ref p) (upd H3 p (.lst ys))) σ H
theorem pe_comp (hc : X.calm = true) (S : CompSc X scope cl own fr) (hi : PI X tg iter wi) (hg : ∀ C s2 H2 fp, PG (cxComp X scope cl own fr C s2 H2 fp) tg g)
   (ht : ∀ C s2 H2 fp, PTs (cxComp X scope cl own fr C s2 H2 fp) ifs tc) (he : ∀ C s2 H2 fp, PE (cxComp X scope cl own fr C s2 H2 fp) elt te)
   (hs : ∀ x, foldedSetIterable iter X.env x = pure x := by intro _; rfl) : PE X (.ListComp elt [⟨tg, iter, ifs, 0⟩] scope pos) (tCompE own fr wi g tc te) := by
 intro pins s σ H Q I h
 rw [eval_ListComp]
 refine wpAny_comprehension_free (use := none) rfl hs S.clos S.kind S.names ?_
 refine comp_core hc S hi hg ht he I h fun D C s4 H3 ys m nD J hn off q => ?_
 refine ⟨m, hn, fun h' sb => ⟨.ref D, _, J.turned (t' := s4.toks) (fun b o hb e => (sb.2 b hb).trans e) off.none off.loc (.inr off.above) off.cell off.pin, rfl, q D nD⟩⟩
def tCompS (i : Nat) (own : List Str) (fr : List (Str × Nat)) (wi : TI) (g : TG) (tc : TT) (te : TE) : TS := fun D σ H => tComp own fr wi g tc te (fun ys H3 => ∀ p, H3 p = none → D.nx (σ.set i (some (.ref p))) (upd H3 p (.lst ys))) σ H
theorem ps_setC {i : Nat} {y : Str} {py spos : Pos} (hN : X.N.Nodup) (hi' : X.N[i]? = some y) (hx : X.env.scope.names.lookup y = some .local) (hc : X.calm = true) (S : CompSc X scope cl own fr) (hi : PI X tg iter wi) (hg : ∀ C s2 H2 fp, PG (cxComp X scope cl own fr C s2 H2 fp) tg g)
   (ht : ∀ C s2 H2 fp, PTs (cxComp X scope cl own fr C s2 H2 fp) ifs tc) (he : ∀ C s2 H2 fp, PE (cxComp X scope cl own fr C s2 H2 fp) elt te)
   (hsw : swapsWith (.ListComp elt [⟨tg, iter, ifs, 0⟩] scope pos) (some (.Name y py)) spos.line X.env = pure true := by rfl)
   (hs : ∀ x, foldedSetIterable iter X.env x = pure x := by intro _; rfl) : PS X (.Assign [.Name y py] (.ListComp elt [⟨tg, iter, ifs, 0⟩] scope pos) spos) (tCompS i own fr wi g tc te) := by
 intro pins s σ H D I h
 rw [exec_Assign_Name_used _ _ _ _ hsw]
 refine wpAny_bind (wpAny_standAt (wpAny_bind ?_))
 show wpAny _ X.A (do let _ ← comprehension (.ListComp elt [⟨tg, iter, ifs, 0⟩] scope pos) scope X.env _ (newList []) false (eval iter X.env) (some (assign (.Name y py) X.env))) _ _ s
 refine wpAny_bind (wpAny_mono (wpAny_comprehension_free (use := some (assign (.Name y py) X.env)) (Q := fun _ s' => SP X pins D .next s') rfl hs S.clos S.kind S.names ?_) (fun _ s' hq => wpAny_pure (wpAny_pure hq)) fun _ _ e => e)
 refine comp_core hc S hi hg ht he I h fun Da C s4 H3 ys m nD J hn off q => ?_
 show wpAny _ X.A (assign (.Name y py) X.env (.ref Da)) _ _ _
 refine wpAny_assign_Name (store_ok2 J hN hi' (.inl hx) (v := .ref Da) rfl (fun s5 I5 hsb => ?_) (.inr hx))
 obtain ⟨a, sb, ha⟩ := hsb
 have nCa : C ≠ a := by
   rcases ha with z | z
   · rw [z]; exact off.loc
   · exact (off.cell _ _ z).symm
 refine ⟨m, hn.sameBut sb nCa, fun h' sb' => ⟨_, _, I5.turned (t' := s5.toks) (fun b o hb e => (sb'.2 b hb).trans e) off.none off.loc (.inr off.above) off.cell off.pin, q Da nD⟩⟩
end
section
variable {K : PySem.W.Frag} {a : Addr} {xs : List V} {own : List Str} {fr : List (Str × Nat)} {g : TG} {tc : TT} {te : TE} {fin : List V → Hp → Prop} {σ : St} {H : Hp}
def CompW (J : It) (g : TG) (tc : TT) (te : TE) (fin : List V → Hp → Prop) (σ0 : St) (H1 : Hp) : Prop :=
 ∃ W : Nat → Nat → List V → St → Hp → Prop, (∃ m, W 0 m [] σ0 H1) ∧ ∀ i m ys σ' H', W i m ys σ' H' →
   (J.stop i H' ∧ ys.length ≤ sizeLine ∧ fin ys H') ∨
   (J.go i H' ∧ ∃ N : List V → St → Hp → Prop, (∀ ys2 σ2 H2, N ys2 σ2 H2 → ys2.length ≤ sizeLine ∧ ∃ m', m' < m ∧ W (i + 1) m' ys2 σ2 H2) ∧
     ∀ x H2, J.yld i H' x H2 → g x σ' H2 fun σ3 H3 => tc σ3 H3 fun b H4 => if b = true then te σ3 H4 fun y H5 => N (ys ++ [y]) σ3 H5 else N ys σ3 H4)
theorem comp_list {σ0 : St} (Pv : Nat → List V → St → Hp → Prop) (h0 : Pv 0 [] σ0 H) (hl : ∀ i ys σ H, i ≤ xs.length → Pv i ys σ H → SqL K H a xs ∧ ys.length ≤ sizeLine)
   (hs : ∀ i x ys σ H, xs[i]? = some x → Pv i ys σ H → g x σ H fun σ3 H3 => tc σ3 H3 fun b H4 => if b = true then te σ3 H4 fun y H5 => Pv (i + 1) (ys ++ [y]) σ3 H5 else Pv (i + 1) ys σ3 H4)
   (hd : ∀ ys σ H, Pv xs.length ys σ H → fin ys H) : CompW (Itl K a) g tc te fin σ0 H := by
 refine ⟨fun i m ys σ H => m = xs.length - i ∧ i ≤ xs.length ∧ Pv i ys σ H, ⟨xs.length, by simp, Nat.zero_le _, h0⟩, ?_⟩
 rintro i m ys σ H ⟨rfl, hi, p⟩
 obtain ⟨q, hz⟩ := hl i ys σ H hi p
 by_cases hlt : i < xs.length
 · refine .inr ⟨⟨xs, xs[i], q, by simp [hlt]⟩, Pv (i + 1), fun ys2 σ2 H2 p' => ⟨(hl (i + 1) ys2 σ2 H2 hlt p').2, xs.length - (i + 1), by omega, rfl, hlt, p'⟩, fun x H2 y => ?_⟩
   obtain ⟨e, y⟩ := y
   subst e
   exact hs i x ys σ _ (y xs q) p
 · have e : i = xs.length := by omega
   subst e
   exact .inl ⟨⟨xs, q, Nat.le_refl _⟩, hz, hd ys σ H p⟩
theorem comp_range {σ0 : St} {lo : Int} {n : Nat} (Pv : Nat → List V → St → Hp → Prop) (h0 : Pv 0 [] σ0 H) (hl : ∀ i ys σ H, i ≤ n → Pv i ys σ H → ys.length ≤ sizeLine)
   (hs : ∀ i ys σ H, i < n → Pv i ys σ H → g (.int (lo + i)) σ H fun σ3 H3 => tc σ3 H3 fun b H4 => if b = true then te σ3 H4 fun y H5 => Pv (i + 1) (ys ++ [y]) σ3 H5 else Pv (i + 1) ys σ3 H4)
   (hd : ∀ ys σ H, Pv n ys σ H → fin ys H) : CompW (Itr lo n) g tc te fin σ0 H := by
 refine ⟨fun i m ys σ H => m = n - i ∧ i ≤ n ∧ Pv i ys σ H, ⟨n, by simp, Nat.zero_le _, h0⟩, ?_⟩
 rintro i m ys σ H ⟨rfl, hi, p⟩
 by_cases hlt : i < n
 · refine .inr ⟨hlt, Pv (i + 1), fun ys2 σ2 H2 p' => ⟨hl (i + 1) ys2 σ2 H2 hlt p', n - (i + 1), by omega, rfl, hlt, p'⟩, fun x H2 y => ?_⟩
   obtain ⟨e, y⟩ := y
   subst e y
   exact hs i ys σ _ hlt p
 · have e : i = n := by omega
   subst e
   exact .inl ⟨Nat.le_refl _, hl _ ys σ H hi p, hd ys σ H p⟩
end
end L3
namespace L3
open PySem PySem.Spec PyProof.Rows L2 PySem.SeqAt
theorem look_new {H : Hp} {p q : Addr} {o u : HO} (hq : H q = some u) (hp : H p = none) : upd H p o q = some u := by
 rw [upd_ne (ne_of_none hq hp)]; exact hq
theorem look_ne {H : Hp} {p q : Addr} {o : HO} {u : Option HO} (hne : q ≠ p) (hq : H q = u) : upd H p o q = u := by
 rw [upd_ne hne]; exact hq
theorem none_upd {H : Hp} {p q : Addr} {o : HO} (h : upd H p o q = none) : H q = none ∧ q ≠ p := by
 by_cases e : q = p
 · subst e; rw [upd_same] at h; cases h
 · rw [upd_ne e] at h; exact ⟨h, e⟩
theorem same_new {H : Hp} {p : Addr} {o : HO} (h : H p = none) : Same H (upd H p o) := fun b u q => look_new q h
theorem same_upd {H H1 : Hp} {p : Addr} {o : HO} (s : Same H H1) (h : H p = none) : Same H (upd H1 p o) := fun b u q => by
 rw [upd_ne (ne_of_none q h)]; exact s b u q
theorem SqT_same {K : PySem.W.Frag} {H H' : Hp} {a : Addr} {xs : List V} (e : Same H H') (h : SqT K H a xs) : SqT K H' a xs := by
 rcases h with (h | ⟨o, h⟩) | h
 · exact .inl (.inl (e _ _ h))
 · exact .inl (.inr ⟨o, e _ _ h⟩)
 · exact .inr h
mutual
def Dp (K : PySem.W.Frag) (H : Hp) : PyData → V → Prop
 | .none, v => v = .non
 | .bool b, v => v = .bl b
 | .int i, v => v = .int i
 | .str x, v => v = .str x
 | .list ds, v => ∃ a xs, v = .ref a ∧ SqL K H a xs ∧ DpAll K H ds xs
 | .tuple ds, v => ∃ a xs, v = .ref a ∧ SqT K H a xs ∧ DpAll K H ds xs
 | .dict _, _ => False
def DpAll (K : PySem.W.Frag) (H : Hp) : List PyData → List V → Prop
 | [], vs => vs = []
 | d :: ds, vs => ∃ v r, vs = v :: r ∧ Dp K H d v ∧ DpAll K H ds r
end
theorem dpAll_ints {K : PySem.W.Frag} {H : Hp} : ∀ ns : List Int, DpAll K H (ns.map PyData.int) (ns.map V.int)
 | [] => by rw [List.map_nil, List.map_nil, DpAll]
 | n :: ns => by
   rw [List.map_cons, List.map_cons, DpAll]
   exact ⟨_, _, rfl, by rw [Dp], dpAll_ints ns⟩
theorem dp_ints {K : PySem.W.Frag} {H : Hp} {a : Addr} {ns : List Int} (h : SqL K H a (ns.map V.int)) : Dp K H (.list (ns.map PyData.int)) (.ref a) := by
 rw [Dp]; exact ⟨a, _, rfl, h, dpAll_ints ns⟩
theorem dp_int {K : PySem.W.Frag} {H : Hp} (i : Int) : Dp K H (.int i) (.int i) := by rw [Dp]
theorem dp_str {K : PySem.W.Frag} {H : Hp} (x : Str) : Dp K H (.str x) (.str x) := by rw [Dp]
theorem dp_lst {K : PySem.W.Frag} {H : Hp} {a : Addr} {xs : List V} {ds : List PyData} (h : SqL K H a xs) (q : DpAll K H ds xs) : Dp K H (.list ds) (.ref a) := by
 rw [Dp]; exact ⟨a, _, rfl, h, q⟩
theorem dp_tup {K : PySem.W.Frag} {H : Hp} {a : Addr} {xs : List V} {ds : List PyData} (h : SqT K H a xs) (q : DpAll K H ds xs) : Dp K H (.tuple ds) (.ref a) := by
 rw [Dp]; exact ⟨a, _, rfl, h, q⟩
theorem dpAll_nil {K : PySem.W.Frag} {H : Hp} : DpAll K H [] [] := by rw [DpAll]
theorem dpAll_cons {K : PySem.W.Frag} {H : Hp} {d : PyData} {ds : List PyData} {v : V} {r : List V} (h : Dp K H d v) (q : DpAll K H ds r) : DpAll K H (d :: ds) (v :: r) := by
 rw [DpAll]; exact ⟨_, _, rfl, h, q⟩
theorem canLay_ints : ∀ ns : List Int, PyData.canLayAll0 (ns.map PyData.int) = true
 | [] => rfl
 | n :: ns => by
   rw [List.map_cons, PyData.canLayAll0, canLay_ints ns]; rfl
theorem depth_ints : ∀ ns : List Int, PyData.depthAll (ns.map PyData.int) = 0
 | [] => rfl
 | n :: ns => by
   rw [List.map_cons, PyData.depthAll, depth_ints ns]; rfl
theorem shaped_ints (ns : List Int) : shaped (.list (ns.map PyData.int)) = true := by
 unfold shaped
 rw [PyData.canLay0, canLay_ints, PyData.depth, depth_ints]; rfl
section
variable {X : Cx} {pins : List (Addr × Obj)} {σ : St} {H : Hp} {s : Shared}
mutual
theorem dp_reads (I : Inv X pins σ H s) : ∀ (d : PyData) (v : V) (u : Value), Dp X.K H d v → RelV v u → ∃ as, Reads s.heap u d as
 | .none, v, u, h, r => by
   rw [Dp] at h; subst h; cases (show u = Value.none from r); exact ⟨_, .none⟩
 | .bool b, v, u, h, r => by
   rw [Dp] at h; subst h; cases (show u = Value.bool b from r); exact ⟨_, .bool b⟩
 | .int i, v, u, h, r => by
   rw [Dp] at h; subst h; obtain ⟨t, e⟩ := (show ∃ t, u = Value.int i t from r); subst e; exact ⟨_, .int i t⟩
 | .str x, v, u, h, r => by
   rw [Dp] at h; subst h; obtain ⟨t, e⟩ := (show ∃ t, u = Value.str x t from r); subst e; exact ⟨_, .str x t⟩
 | .list ds, v, u, h, r => by
   rw [Dp] at h
   obtain ⟨a, xs, e, hq, ha⟩ := h
   subst e
   cases (show u = Value.ref a from r)
   obtain ⟨its, rv, pl, hz⟩ := I.list hq
   obtain ⟨o, ho, hc, n, hd⟩ := pl.isList
   obtain ⟨as, z⟩ := dpAll_reads I ds xs its ha rv
   exact ⟨_, .list ho hc hd (by simpa using z)⟩
 | .tuple ds, v, u, h, r => by
   rw [Dp] at h
   obtain ⟨a, xs, e, hq, ha⟩ := h
   subst e
   cases (show u = Value.ref a from r)
   obtain ⟨its, rv, pl, hz⟩ := I.tuple hq
   obtain ⟨o, ho, hc, n, hd⟩ := pl
   obtain ⟨as, z⟩ := dpAll_reads I ds xs its ha rv
   exact ⟨_, .tuple ho hc hd (by simpa using z)⟩
 | .dict _, v, u, h, r => by rw [Dp] at h; exact h.elim
theorem dpAll_reads (I : Inv X pins σ H s) : ∀ (ds : List PyData) (vs : List V) (us : List Value), DpAll X.K H ds vs → Vals vs us → ∃ as, ReadsAll s.heap us ds as
 | [], vs, us, h, r => by
   rw [DpAll] at h; subst h; cases r; exact ⟨_, .nil⟩
 | d :: ds, vs, us, h, r => by
   rw [DpAll] at h
   obtain ⟨v, rr, e, h1, h2⟩ := h
   subst e
   cases r with
   | cons r1 r2 =>
     obtain ⟨as, z1⟩ := dp_reads I d _ _ h1 r1
     obtain ⟨bs, z2⟩ := dpAll_reads I ds _ _ h2 r2
     exact ⟨_, .cons z1 z2⟩
end
end
def rEqD (K : PySem.W.Frag) : R2 := fun x y H Q => ∃ dx dy, Dp K H dx x ∧ Dp K H dy y ∧ shaped dx = true ∧ shaped dy = true ∧ Q (.bl (PyData.eqv dx dy)) H
def rNeD (K : PySem.W.Frag) : R2 := fun x y H Q => ∃ dx dy, Dp K H dx x ∧ Dp K H dy y ∧ shaped dx = true ∧ shaped dy = true ∧ Q (.bl (!PyData.eqv dx dy)) H
def rEqA (K : PySem.W.Frag) : R2 := fun x y H Q => rEq x y H Q ∨ rEqD K x y H Q
def rNeA (K : PySem.W.Frag) : R2 := fun x y H Q => rNe x y H Q ∨ rNeD K x y H Q
section
variable {X : Cx}
theorem op_eqD (hu : X.A.units + 64 < cLine) : OpR X (compareOp .Eq) (rEqD X.K) := by
 intro pins s σ H x y v u Q I rx ry h
 obtain ⟨dx, dy, hx, hy, sx, sy, q⟩ := h
 obtain ⟨as, ra⟩ := dp_reads I dx x v hx rx
 obtain ⟨bs, rb⟩ := dp_reads I dy y u hy ry
 exact eq_dataH ra rb sx sy hu ⟨.bl _, H, I, rfl, q⟩
theorem op_neD (hu : X.A.units + 64 < cLine) : OpR X (compareOp .NotEq) (rNeD X.K) := by
 intro pins s σ H x y v u Q I rx ry h
 obtain ⟨dx, dy, hx, hy, sx, sy, q⟩ := h
 obtain ⟨as, ra⟩ := dp_reads I dx x v hx rx
 obtain ⟨bs, rb⟩ := dp_reads I dy y u hy ry
 exact ne_dataH ra rb sx sy hu ⟨.bl _, H, I, rfl, q⟩
theorem op_eqA (hu : X.A.units + 64 < cLine) : OpR X (compareOp .Eq) (rEqA X.K) := op_eq.or (op_eqD hu)
theorem op_neA (hu : X.A.units + 64 < cLine) : OpR X (compareOp .NotEq) (rNeA X.K) := op_ne.or (op_neD hu)
end
theorem canLay_of (d : PyData) (h : shaped d = true) : d.canLay0 = true := (Bool.and_eq_true_iff.mp h).1
theorem r_eqS {K : PySem.W.Frag} {x y : V} {H : Hp} {Q : VK} (h : scal x y = true) (q : Q (.bl (decide (x = y))) H) : rEqA K x y H Q := .inl ⟨h, q⟩
theorem r_neS {K : PySem.W.Frag} {x y : V} {H : Hp} {Q : VK} (h : scal x y = true) (q : Q (.bl (!decide (x = y))) H) : rNeA K x y H Q := .inl ⟨h, q⟩
theorem r_eqT {K : PySem.W.Frag} {x y : V} {H : Hp} {Q : VK} (d : PyData) (hx : Dp K H d x) (hy : Dp K H d y) (hs : shaped d = true) (q : Q (.bl true) H) : rEqA K x y H Q :=
 .inr ⟨d, d, hx, hy, hs, hs, by rw [eqv_refl d (canLay_of d hs)]; exact q⟩
theorem r_neT {K : PySem.W.Frag} {x y : V} {H : Hp} {Q : VK} (d : PyData) (hx : Dp K H d x) (hy : Dp K H d y) (hs : shaped d = true) (q : Q (.bl false) H) : rNeA K x y H Q :=
 .inr ⟨d, d, hx, hy, hs, hs, by rw [eqv_refl d (canLay_of d hs)]; exact q⟩
def clsOf : V → Value
 | .ty n => .type n
 | .ref a => .ref a
 | _ => .none
theorem clsOf_eq {c : V} {u : Value} (r : RelV c u) (h : clsOf c ≠ .none) : u = clsOf c := by
 cases c <;> first | exact r | exact (h rfl).elim
def rIsi (K : PySem.W.Frag) : List V → Hp → VK → Prop := fun xs H Q => ∃ x c t b, xs = [x, c] ∧ clsOf c ≠ .none ∧ TyOf K H x t ∧ PySem.W.kitOne K t (clsOf c) = some b ∧ Q (.bl b) H
theorem call_isi {X : Cx} : CallR X (.builtin "isinstance") (rIsi X.K) := by
 intro pins s σ H xs us Q I r h
 obtain ⟨x, c, t, b, rfl, hc, ty, e, q⟩ := h
 obtain ⟨u, w', rfl, rx, rc⟩ := vals2 r
 cases clsOf_eq rc hc
 exact isinst_ok I rx ty e fun tk => ⟨.bl b, H, I.tok _, rfl, q⟩
theorem r_isi {K : PySem.W.Frag} {x c : V} {H : Hp} {Q : VK} {t : Value} {b : Bool} (hc : clsOf c ≠ .none) (ty : TyOf K H x t) (e : PySem.W.kitOne K t (clsOf c) = some b) (q : Q (.bl b) H) : rIsi K [x, c] H Q := ⟨x, c, t, b, rfl, hc, ty, e, q⟩
def rAll (K : PySem.W.Frag) : List V → Hp → VK → Prop := fun xs H Q => ∃ (p : Addr) (bs : List Bool), xs = [.ref p] ∧ SqL K H p (bs.map V.bl) ∧ Q (.bl (bs.all id)) H
theorem all_range (bs : List Bool) : (List.range bs.length).all (fun i => bs.getD i false) = bs.all id := by
 induction bs with
 | nil => rfl
 | cons b r ih =>
   rw [List.length_cons, List.range_succ_eq_map, List.all_cons, List.all_cons, List.all_map]
   rw [← ih]
   rfl
theorem call_all {X : Cx} (hc : X.calm = true) : CallR X (.builtin "all") (rAll X.K) := by
 intro pins s σ H xs us Q I r h
 obtain ⟨p, bs, rfl, hq, q⟩ := h
 obtain ⟨u, rfl, rx⟩ := vals1 r
 cases rx
 obtain ⟨its, rv, pl, hz⟩ := I.list hq
 have hlen := rv.length
 rw [List.length_map] at hlen
 have hlt : p < s.heap.objs.size := by obtain ⟨o, e, _⟩ := pl.isList; exact Heap.lt_size e
 refine call_all_walk (wpAny_pyIter_list pl.isList ?_)
 refine ⟨s.heap.objs.size, _, _, _, _, _, fun i => bs.getD i false, rfl, Walks.list (by exact I.ok.hd hc) s.heap.objs.size p (Nat.ne_of_lt hlt) its.toArray, ⟨⟨_, Heap.get?_push_size _ rfl, rfl, rfl⟩, pl.isList.push _⟩, ?_, ?_⟩
 · intro i v s' Q' E' hP hQ'
   have hP' : its[i]? = some v := by simpa using hP
   have hi : i < its.length := (List.getElem?_eq_some_iff.mp hP').1
   have hb : (bs.map V.bl)[i]? = some (V.bl (bs.getD i false)) := by
     rw [List.getElem?_map, List.getElem?_eq_getElem (by omega)]
     simp [List.getD, List.getElem?_eq_getElem (show i < bs.length by omega)]
   obtain ⟨u', hu', ru'⟩ := rv.get hb
   rw [hP'] at hu'
   cases hu'
   cases (show v = Value.bool _ from ru')
   exact wpAny_truthy_bool hQ'
 · intro h' tk kk
   have e : (List.range its.toArray.size).all (fun i => bs.getD i false) = bs.all id := by
     rw [List.size_toArray, ← hlen]; exact all_range bs
   rw [e]
   refine ⟨.bl _, H, ?_, rfl, q⟩
   have I1 : Inv X pins σ H { s with heap := s.heap.push { cls := .type "list_iterator", data := .fields #[.ref p, .int 0 0] } } := I.kept (t' := s.toks) fun b o e => Heap.get?_push_of_some _ e
   have f := I.fpOk (H' := H) (Nat.le_refl _) I.fresh
   exact I1.turned (it := s.heap.objs.size) (h' := h') (t' := tk) (fun b o hb e => kk b o (by simpa using hb) e) f.1 f.2.1 f.2.2.2.1 f.2.2.2.2.1 f.2.2.2.2.2
theorem bool_index : typeLookup (.type "bool") "__index__" = pure (some (.builtin "int.__index__")) := by rw [typeLookup_type, builtinLookup_eq_fast]; kernel_rfl
theorem listSubscript_bool {M : Model} {A : Around} {E : Value → Shared → Prop} {s : Shared} {b : Bool} {Q : Option Int → Shared → Prop} (h : Q (some (if b then 1 else 0)) s) :
   wpAny M A (Builtin.List.listSubscript? (.bool b)) Q E s := by
 unfold Builtin.List.listSubscript?
 refine wpAny_bind (wpAny_specialOf (T := "bool") (show s.TypeIs (.bool b) "bool" from rfl) bool_index ?_)
 show wpAny M A (asIndex (.bool b) >>= _) Q E s
 refine wpAny_bind (wpAny_of_eq (a := if b then 1 else 0) rfl ?_)
 show wpAny M A (if (!Builtin.List.listFitsIndex (if b then 1 else 0)) = true then _ else _) Q E s
 rw [if_neg (by cases b <;> decide)]
 exact wpAny_pure h
theorem getItem_list_bool {prog : Program} {w : World} {A : Around} {E : Value → Shared → Prop} {s : Shared} {l : Addr} {items : Array Value} {b : Bool} {x : Value} {Q : Value → Shared → Prop} (hl : s.heap.IsList l items)
   (hx : items[if b then 1 else 0]? = some x) (h : Q x s) : wpAny (model prog w) A (getItem (.ref l) (.bool b)) Q E s := by
 obtain ⟨o, ho, hc, ne, hd⟩ := id hl
 unfold getItem
 try with_reducible refine wpAny_holding ?_
 first | refine wpAny_bind (wpAny_pure ?_) | skip
 refine wpAny_bind (wpAny_sequenceKey hl.typeIs (by decide) ?_)
 refine wpAny_bind (wpAny_callSpecial?_slot (name := Str.ofString "__getitem__") hl.typeIs slot_list_getitem
   (wpAny_call_entry slot_list_getitem hl.typeIs entry_list_getitem ?_ (args_list_getitem _ _)))
 show wpAny _ _ (Builtin.List.listSubscript? (.bool b) >>= _) _ _ s
 refine wpAny_bind (listSubscript_bool ?_)
 cases b with
 | true =>
   have hx' : items[1]? = some x := hx
   show wpAny _ _ ((seqItemAt l 1 >>= fun r => pure (r.map (1, ·))) >>= _) _ _ s
   refine wpAny_bind (wpAny_bind (wpAny_seqItemAt ho hd (wpAny_pure ?_)))
   rw [hx']
   first
     | exact wpAny_bind (wpAny_pure (wpAny_pure ⟨x, rfl, wpAny_pure h⟩))
     | exact wpAny_pure ⟨x, rfl, wpAny_pure h⟩
 | false =>
   have hx' : items[0]? = some x := hx
   show wpAny _ _ ((seqItemAt l 0 >>= fun r => pure (r.map (0, ·))) >>= _) _ _ s
   refine wpAny_bind (wpAny_bind (wpAny_seqItemAt ho hd (wpAny_pure ?_)))
   rw [hx']
   first
     | exact wpAny_bind (wpAny_pure (wpAny_pure ⟨x, rfl, wpAny_pure h⟩))
     | exact wpAny_pure ⟨x, rfl, wpAny_pure h⟩
def rIxB (K : PySem.W.Frag) : R2 := fun x y H Q => ∃ p xs b v, x = .ref p ∧ y = .bl b ∧ SqL K H p xs ∧ xs[if b then 1 else 0]? = some v ∧ Q v H
theorem ix_bool {X : Cx} : IxR X (rIxB X.K) := by
 intro value slice pins s σ H x y v u Q I rx ry h hs
 obtain ⟨p, xs, b, z, rfl, rfl, hq, he, q⟩ := h
 cases rx
 cases ry
 obtain ⟨its, r, pl, hz⟩ := I.list hq
 obtain ⟨w, ew, rw'⟩ := r.get he
 exact subscriptTail_builtinR (x := w) pl.isList.typeIs slot_list_getitem.lookup
   (getItem_list_bool (Q := fun r s' => r = w ∧ EP X pins σ Q r s') pl.isList (by simpa using ew) ⟨rfl, z, H, I, rw', q⟩) hs
def rIxA (K : PySem.W.Frag) : R2 := fun x y H Q => rIx K x y H Q ∨ rIxB K x y H Q
theorem ix_any {X : Cx} : IxR X (rIxA X.K) := ix_seq.or ix_bool
theorem r_ixL {K : PySem.W.Frag} {p : Addr} {xs : List V} {i : Int} {v : V} {H : Hp} {Q : VK} (h : SqL K H p xs) (e : atI xs i = some v) (q : Q v H) : rIxA K (.ref p) (.int i) H Q := .inl (.inl ⟨p, xs, i, v, rfl, rfl, h, e, q⟩)
theorem r_ixT {K : PySem.W.Frag} {p : Addr} {xs : List V} {i : Int} {v : V} {H : Hp} {Q : VK} (h : SqT K H p xs) (e : atI xs i = some v) (q : Q v H) : rIxA K (.ref p) (.int i) H Q := .inl (.inr (.inl ⟨p, xs, i, v, rfl, rfl, h, e, q⟩))
def rStr : R2 := fun x y H Q => ∃ i j, x = .str i ∧ y = .str j ∧ i.length + j.length ≤ sizeLine ∧ Q (.str (i ++ j)) H
def rPlus (K : PySem.W.Frag) : R2 := fun x y H Q => rI0 (fun i j => .int (i + j)) x y H Q ∨ rCat x y H Q ∨ rCatT K x y H Q ∨ rStr x y H Q
theorem op_plus {X : Cx} : OpR X (binaryOp .Add) (rPlus X.K) := op_add.or (op_cat.or (op_catT.or op_add_str))
theorem r_plusI {K : PySem.W.Frag} {i j : Int} {H : Hp} {Q : VK} (q : Q (.int (i + j)) H) : rPlus K (.int i) (.int j) H Q := .inl ⟨i, j, rfl, rfl, q⟩
theorem r_plusL {K : PySem.W.Frag} {a b : Addr} {xs ys : List V} {H : Hp} {Q : VK} (ha : H a = some (.lst xs)) (hb : H b = some (.lst ys)) (hz : xs.length + ys.length ≤ sizeLine) (q : ∀ p, H p = none → Q (.ref p) (upd H p (.lst (xs ++ ys)))) :
   rPlus K (.ref a) (.ref b) H Q := .inr (.inl ⟨a, b, xs, ys, rfl, rfl, ha, hb, hz, q⟩)
def rTimes : R2 := fun x y H Q => rI CMul (fun i j => .int (i * j)) x y H Q ∨ rRep x y H Q
theorem op_times {X : Cx} : OpR X (binaryOp .Mult) rTimes := op_mul.or op_rep
theorem r_timesI {i j : Int} {H : Hp} {Q : VK} (h : CMul i j) (q : Q (.int (i * j)) H) : rTimes (.int i) (.int j) H Q := .inl ⟨i, j, rfl, rfl, h, q⟩
def rSlA (K : PySem.W.Frag) : V → Option Int → Option Int → Hp → VK → Prop := fun x lo hi H Q => rSlL K x lo hi H Q ∨ rSlT K x lo hi H Q
theorem sl_any {X : Cx} : SlR X (rSlA X.K) := sl_list.or sl_tup
structure FnE (P : Program) (w : World) (K : PySem.W.Frag) (mg : Str → Option Value) (base : Heap) (CX : CXT) (k : Nat) (x : Str) (sp : Sp) : Prop where
 ex : ∃ (f : Addr) (fd : FuncData) (ps : List Str), FnOk P w K mg base CX k f fd ps sp ∧ mg x = some (.ref f) ∧ PySem.W.keepIn K (.ref f) = true ∧ Binds K fd ps []
structure MethE (P : Program) (w : World) (K : PySem.W.Frag) (mg : Str → Option Value) (base : Heap) (CX : CXT) (k : Nat) (C : Addr) (m : Str) (sp : Sp) : Prop where
 cl : Cls K C
 ex : ∃ (f : Addr) (fd : FuncData) (ps : List Str), Meth K C m f ∧ FnOk P w K mg base CX k f fd ps sp ∧ Binds K fd ps []
structure MkE (P : Program) (w : World) (K : PySem.W.Frag) (mg : Str → Option Value) (base : Heap) (CX : CXT) (k : Nat) (x : Str) (C : Addr) (sp : Sp) : Prop where
 ex : ∃ (f : Addr) (fd : FuncData) (ps : List Str), Mk K C f ∧ FnOk P w K mg base CX k f fd ps sp ∧ mg x = some (.ref C) ∧ Binds K fd ps []
theorem MethE.mono {P : Program} {w : World} {K : PySem.W.Frag} {mg : Str → Option Value} {base : Heap} {CX : CXT} {j k : Nat} {C : Addr} {m : Str} {sp : Sp} (M : MethE P w K mg base CX j C m sp) (h : j ≤ k) : MethE P w K mg base CX k C m sp := by
 obtain ⟨f, fd, ps, a, b, c⟩ := M.ex
 exact ⟨M.cl, f, fd, ps, a, b.mono h, c⟩
def tCallE (sp : Sp) (E : XK) (t : TA) : TE := fun σ H Q => t σ H fun vs H1 => sp vs H1 Q E
def tMakeE (C : Addr) (sp : Sp) (E : XK) (t : TA) : TE := fun σ H Q => t σ H fun vs H1 => ∀ x dx, H1 x = none → H1 dx = none → dx ≠ x →
 sp (.ref x :: vs) (upd (upd H1 dx (.own x)) x (.ins C dx [])) (fun v H2 => v = .non ∧ Q (.ref x) H2) E
def tMethE (P : Program) (w : World) (K : PySem.W.Frag) (mg : Str → Option Value) (base : Heap) (CX : CXT) (k : Nat) (m : Str) (E : XK) (ta : TE) (t : TA) : TE := fun σ H Q => ta σ H fun x H1 =>
 ∃ a C dx fs sp, x = .ref a ∧ H1 a = some (.ins C dx fs) ∧ fs.lookup m = none ∧ MethE P w K mg base CX k C m sp ∧ t σ H1 fun vs H2 => sp (.ref a :: vs) H2 Q E
section
variable {X : Cx} {CX : CXT} {k : Nat} {C : Addr} {sp : Sp} {E : XK} {x m : Str} {p pos apos : Pos} {e o : Expr} {es : List Expr} {ta : TE} {t : TA}
theorem pe_callE (G : FnE X.prog X.w X.K X.mg X.base CX k x sp) (hr : Room k X.A) (hx : Passes CX X E) (hg : Gl X x) (ha : PA X (e :: es) t) (hdb : (x == ("__debug__" : Str)) = false := by decide)
   (he : starEach (e :: es) X.env = (false, eval e X.env) :: starEach es X.env := by rfl) (hpl : (backTo pos (starEach es X.env)).any (·.1) = false := by rfl) : PE X (.Call (.Name x p) (e :: es) [] pos) (tCallE sp E t) := by
 obtain ⟨f, fd, ps, F, hm, hk, hb⟩ := G.ex
 have z := pe_call (p := p) (pos := pos) F hr hg hm hk hb .nil hx ha hdb he hpl
 intro pins s σ H Q I h
 refine z pins s σ H Q I ?_
 have e1 : tCall sp [] E t = tCallE sp E t := by
   funext σ H Q
   show t σ H (fun vs H1 => sp (vs ++ []) H1 Q E) = t σ H (fun vs H1 => sp vs H1 Q E)
   simp only [List.append_nil]
 rw [e1]; exact h
theorem pe_makeE (G : MkE X.prog X.w X.K X.mg X.base CX k x C sp) (hr : Room (k + 1) X.A) (hx : Passes CX X E) (hg : Gl X x) (ha : PA X (e :: es) t) (hdb : (x == ("__debug__" : Str)) = false := by decide)
   (he : starEach (e :: es) X.env = (false, eval e X.env) :: starEach es X.env := by rfl) (hpl : (backTo pos (starEach es X.env)).any (·.1) = false := by rfl) : PE X (.Call (.Name x p) (e :: es) [] pos) (tMakeE C sp E t) := by
 obtain ⟨f, fd, ps, M, F, hm, hb⟩ := G.ex
 have z := pe_make (p := p) (pos := pos) M F hr hg hm hb .nil hx ha hdb he hpl
 intro pins s σ H Q I h
 refine z pins s σ H Q I ?_
 have e1 : tMake C sp [] E t = tMakeE C sp E t := by
   funext σ H Q
   show t σ H (fun vs H1 => ∀ x dx, H1 x = none → H1 dx = none → dx ≠ x → sp (.ref x :: (vs ++ [])) _ _ E) = t σ H (fun vs H1 => ∀ x dx, H1 x = none → H1 dx = none → dx ≠ x → sp (.ref x :: vs) _ _ E)
   simp only [List.append_nil]
 rw [e1]; exact h
theorem pe_methE {pl : Sem Bool} (he : PE X o ta) (hr : Room k X.A) (hx : Passes CX X E) (ha : PA X (e :: es) t)
   (hst : starEach (e :: es) X.env = (false, eval e X.env) :: starEach es X.env := by rfl) (hpl : (backTo pos (starEach es X.env)).any (·.1) = false := by rfl)
   (ht : eval (.Call (.Attribute o m apos) (e :: es) [] pos) X.env = (do
     let ov ← eval o X.env
     standAt apos.atName
     let (f, first) ← holding [ov] (getMethod ov m pl)
     callWith pos f first (backTo pos (starEach (e :: es) X.env)) (backToKw pos (keywordEach [] X.env))) := by rfl) :
   PE X (.Call (.Attribute o m apos) (e :: es) [] pos) (tMethE X.prog X.w X.K X.mg X.base CX k m E ta t) := by
 intro pins s σ H Q I h
 refine PySem.W.methodCall_KW (pl := pl) (thn (he pins s σ H _ I h) fun u s1 ⟨x, H1, I1, rx, a, C, dx, fs, sp, ex, ea, l, M, q⟩ => ?_) ht
 subst ex
 obtain rfl : u = Value.ref a := rx
 obtain ⟨f, fd, ps, hm, F, hb⟩ := M.ex
 refine getmeth_ok I1 ea M.cl hm l ?_
 refine PySem.W.callWith_K (first := [.ref a]) (h₀ := X.base) I.ok.mod.kin hm.kp (thn (ha pos pins s1 σ H1 _ I1 q) fun us s2 ⟨vs, H2, I2, r, q2⟩ => ⟨I2.kIn, ?_⟩) hst hpl
 exact run_fn (us := .ref a :: us) (vs := .ref a :: vs) F hr hb .nil hx I2 (.cons rfl r) (by rw [List.append_nil]; exact q2)
theorem pe_methE0 {pl : Sem Bool} (he : PE X o ta) (hr : Room k X.A) (hx : Passes CX X E)
   (ht : eval (.Call (.Attribute o m apos) [] [] pos) X.env = (do
     let ov ← eval o X.env
     standAt apos.atName
     let (f, first) ← holding [ov] (getMethod ov m pl)
     callWith pos f first (backTo pos (starEach [] X.env)) (backToKw pos (keywordEach [] X.env))) := by rfl) :
   PE X (.Call (.Attribute o m apos) [] [] pos) (tMethE X.prog X.w X.K X.mg X.base CX k m E ta tNil) := by
 intro pins s σ H Q I h
 refine PySem.W.methodCall_KW (pl := pl) (thn (he pins s σ H _ I h) fun u s1 ⟨x, H1, I1, rx, a, C, dx, fs, sp, ex, ea, l, M, q⟩ => ?_) ht
 subst ex
 obtain rfl : u = Value.ref a := rx
 obtain ⟨f, fd, ps, hm, F, hb⟩ := M.ex
 refine getmeth_ok I1 ea M.cl hm l ?_
 exact PySem.W.callWith_K0 (first := [.ref a]) I1.kIn hm.kp (run_fn (us := [.ref a]) (vs := [.ref a]) F hr hb .nil hx I1 (.cons rfl .nil) q)
end
theorem b_len : bootBuiltins "len" = some (.builtin "len") := by decide +kernel
theorem b_all : bootBuiltins "all" = some (.builtin "all") := by decide +kernel
theorem b_isinstance : bootBuiltins "isinstance" = some (.builtin "isinstance") := by decide +kernel
theorem b_int : bootBuiltins "int" = some (.type "int") := by decide +kernel
theorem b_bool : bootBuiltins "bool" = some (.type "bool") := by decide +kernel
theorem b_list : bootBuiltins "list" = some (.type "list") := by decide +kernel
theorem b_tuple : bootBuiltins "tuple" = some (.type "tuple") := by decide +kernel
theorem b_str : bootBuiltins "str" = some (.type "str") := by decide +kernel
def rFld (K : PySem.W.Frag) (f : Str) : V → Hp → VK → Prop := fun x H1 Q => ∃ a C dx fs v, x = .ref a ∧ H1 a = some (.ins C dx fs) ∧ Cls K C ∧ NoAttr K C f ∧ fs.lookup f = some v ∧ Q v H1
def rMeth (P : Program) (w : World) (K : PySem.W.Frag) (mg : Str → Option Value) (base : Heap) (CX : CXT) (k : Nat) (m : Str) (E : XK) (σ : St) (t : TA) : V → Hp → VK → Prop := fun x H1 Q =>
 ∃ a C dx fs sp, x = .ref a ∧ H1 a = some (.ins C dx fs) ∧ fs.lookup m = none ∧ MethE P w K mg base CX k C m sp ∧ t σ H1 fun vs H2 => sp (.ref a :: vs) H2 Q E
def sFldV (K : PySem.W.Frag) (f : Str) (y : V) (D : Ends) (σ : St) : V → Hp → Prop := fun x H2 => ∃ a C dx fs, x = .ref a ∧ H2 a = some (.ins C dx fs) ∧ Cls K C ∧ NoAttr K C f ∧ fs.length < 1000 ∧ D.nx σ (upd H2 a (.ins C dx (putF f y fs)))
def rLen (K : PySem.W.Frag) : List V → Hp → VK → Prop := fun xs H Q => ∃ x n, xs = [x] ∧ LenV K x H n ∧ Q (.int n) H
theorem call_lenA {X : Cx} : CallR X (.builtin "len") (rLen X.K) := call_len
theorem r_lenL {K : PySem.W.Frag} {p : Addr} {xs : List V} {H : Hp} {Q : VK} (h : SqL K H p xs) (q : Q (.int xs.length) H) : rLen K [.ref p] H Q := ⟨.ref p, xs.length, rfl, .inl ⟨xs, h, rfl⟩, q⟩
theorem r_lenT {K : PySem.W.Frag} {p : Addr} {xs : List V} {H : Hp} {Q : VK} (h : SqT K H p xs) (q : Q (.int xs.length) H) : rLen K [.ref p] H Q := ⟨.ref p, xs.length, rfl, .inr ⟨xs, h, rfl⟩, q⟩
def rLst (K : PySem.W.Frag) : List V → Hp → VK → Prop := fun xs H Q => ∃ p ys, xs = [.ref p] ∧ (SqL K H p ys ∨ SqT K H p ys) ∧ ∀ l, H l = none → Q (.ref l) (upd H l (.lst ys))
theorem call_listA {X : Cx} : CallR X (.type "list") (rLst X.K) := call_list_of
theorem r_listL {K : PySem.W.Frag} {p : Addr} {xs : List V} {H : Hp} {Q : VK} (h : SqL K H p xs) (q : ∀ l, H l = none → Q (.ref l) (upd H l (.lst xs))) : rLst K [.ref p] H Q := ⟨p, xs, rfl, .inl h, q⟩
theorem r_all {K : PySem.W.Frag} {p : Addr} {bs : List Bool} {H : Hp} {Q : VK} (h : SqL K H p (bs.map V.bl)) (q : Q (.bl (bs.all id)) H) : rAll K [.ref p] H Q := ⟨p, bs, rfl, h, q⟩
theorem r_slT {K : PySem.W.Frag} {p : Addr} {xs : List V} {lo hi : Option Int} {H : Hp} {Q : VK} (h : SqT K H p xs) (hn : ¬ (HT.sIx xs.length 0 lo = 0 ∧ HT.sIx xs.length xs.length hi = xs.length)) (q : ∀ l, H l = none → Q (.ref l) (upd H l (.tup (cutV xs lo hi)))) :
   rSlA K (.ref p) lo hi H Q := .inr ⟨p, xs, rfl, h, hn, q⟩
def rTru (K : PySem.W.Frag) (x : V) (H : Hp) (Q : Bool → Hp → Prop) : Prop := ∃ k, TruV K x H k ∧ Q k H
theorem r_truB {K : PySem.W.Frag} {b : Bool} {H : Hp} {Q : Bool → Hp → Prop} (q : Q b H) : rTru K (.bl b) H Q := ⟨b, rfl, q⟩
theorem iteNT {A B : Prop} (h : B) : if (!true) = true then A else B := h
theorem iteNF {A B : Prop} (h : A) : if (!false) = true then A else B := h
theorem sql_new {K : PySem.W.Frag} {H : Hp} {a p : Addr} {xs : List V} {o : HO} (h : SqL K H a xs) (hp : H p = none) : SqL K (upd H p o) a xs := Same.seq (same_new hp) h
theorem sqt_new {K : PySem.W.Frag} {H : Hp} {a p : Addr} {xs : List V} {o : HO} (h : SqT K H a xs) (hp : H p = none) : SqT K (upd H p o) a xs := SqT_same (same_new hp) h
theorem r_gSub {to ti : TE} {t : TSet} {v : V} {σ : St} {H : Hp} {Q : St → Hp → Prop} (q : to σ H fun o H1 => ti σ H1 fun i H2 => t o i v H2 fun H3 => Q σ H3) : gSub to ti t v σ H Q := q
theorem r_setL {p : Addr} {xs : List V} {k : Int} {j : Nat} {v : V} {H : Hp} {Q : Hp → Prop} (h : H p = some (.lst xs)) (e : ixN xs.length k = some j) (q : Q (upd H p (.lst (xs.set j v)))) : rSetL (.ref p) (.int k) v H Q := ⟨p, xs, k, j, rfl, rfl, h, e, q⟩
theorem r_append {l : Addr} {xs : List V} {y : V} {H : Hp} {Q : VK} (h : H l = some (.lst xs)) (z : xs.length < sizeLine) (q : Q .non (upd H l (.lst (xs ++ [y])))) : rAppend (.ref l) [y] H Q := ⟨l, xs, y, rfl, rfl, h, z, q⟩
theorem ty_list {K : PySem.W.Frag} {H : Hp} {p : Addr} {xs : List V} (h : H p = some (.lst xs)) : tyV K "list" (.ref p) H := .inl ⟨rfl, xs, SqL.of h⟩
def ForW (J : It) (g : TG) (tb : TS) (D : Ends) (σ : St) (H1 : Hp) : Prop := ∃ W : Nat → Nat → St → Hp → Prop, (∃ m, W 0 m σ H1) ∧ ∀ i m σ H, W i m σ H →
 (J.stop i H ∧ D.nx σ H) ∨ (J.go i H ∧ ∃ N : St → Hp → Prop, (∀ σ' H', N σ' H' → ∃ m', m' < m ∧ W (i + 1) m' σ' H') ∧ ∀ x H', J.yld i H x H' → g x σ H' fun σ2 H2 => tb { D with nx := N, ct := N, bk := D.nx } σ2 H2)
theorem r_for {wi : TI} {g : TG} {tb : TS} {D : Ends} {σ : St} {H : Hp} (q : wi σ H fun J H1 => ForW J g tb D σ H1) : tFor wi g tb D σ H := q
def iSeq (K : PySem.W.Frag) (tl : TE) : TI := fun σ H R => tl σ H fun x H1 => ∃ a, x = .ref a ∧ (((∃ xs, SqL K H1 a xs) ∧ R (Itl K a) H1) ∨ ((∃ xs, SqT K H1 a xs) ∧ R (Itt K a) H1))
theorem r_iSeq {K : PySem.W.Frag} {tl : TE} {σ : St} {H : Hp} {R : It → Hp → Prop} (q : tl σ H fun x H1 => ∃ a, x = .ref a ∧ (((∃ xs, SqL K H1 a xs) ∧ R (Itl K a) H1) ∨ ((∃ xs, SqT K H1 a xs) ∧ R (Itt K a) H1))) : iSeq K tl σ H R := q
theorem r_rng1 {ta : TA} {σ : St} {H : Hp} {R : It → Hp → Prop} (q : ta σ H fun vs H1 => ∃ j : Int, vs = [.int j] ∧ -(2 ^ 62) ≤ j ∧ j < 2 ^ 62 ∧ R (Itr 0 j.toNat) H1) : iRng1 ta σ H R := q
theorem pi_seq {X : Cx} {tg l : Expr} {tl : TE} (hl : PE X l tl) : PI X tg l (iSeq X.K tl) := by
 intro pins s σ H R I h
 refine thn (hl pins s σ H _ I h) fun v s1 ⟨x, H1, I1, r1, q1⟩ => ?_
 obtain ⟨a, e, hq⟩ := q1
 subst e
 cases r1
 rcases hq with ⟨⟨xs, hq⟩, q⟩ | ⟨⟨xs, hq⟩, q⟩
 · obtain ⟨its, rv, p, hz⟩ := I1.list hq
   refine wpAny_pyIter_list p.isList ?_
   refine ⟨s1.heap.objs.size, [s1.heap.objs.size], _, _, H1, rfl, I1.kept (t' := s1.toks) fun b o e => Heap.get?_push_of_some _ e, turn_list a _, ⟨_, Heap.get?_push_size _ rfl, rfl, rfl⟩, fun b hb => ?_, q⟩
   have e : b = s1.heap.objs.size := by simpa using hb
   subst e
   exact I1.fpOk (Nat.le_refl _) (I1.hok.fresh (Nat.le_refl _))
 · obtain ⟨its, rv, p, hz⟩ := I1.tuple hq
   refine wpAny_pyIter_tuple (show s1.heap.IsTuple a its.toArray from p) ?_
   refine ⟨s1.heap.objs.size, [s1.heap.objs.size], _, _, H1, rfl, I1.kept (t' := s1.toks) fun b o e => Heap.get?_push_of_some _ e, turn_tuple a _, ⟨_, Heap.get?_push_size _ rfl, rfl, rfl⟩, fun b hb => ?_, q⟩
   have e : b = s1.heap.objs.size := by simpa using hb
   subst e
   exact I1.fpOk (Nat.le_refl _) (I1.hok.fresh (Nat.le_refl _))
section
variable {σ : St} {H : Hp} {Q : VK}
theorem r_var {i : Nat} {v : V} (h : σ[i]? = some (some v)) (q : Q v H) : tVar i σ H Q := ⟨v, h, q⟩
theorem r_c {v : V} (q : Q v H) : tC v σ H Q := q
theorem r_op {r : R2} {ta tb : TE} (q : ta σ H fun x H1 => tb σ H1 fun y H2 => r x y H2 Q) : tOp r ta tb σ H Q := q
theorem r_un {r : V → Hp → VK → Prop} {ta : TE} (q : ta σ H fun x H1 => r x H1 Q) : tUn r ta σ H Q := q
theorem r_U {g : Int → V} {i : Int} (q : Q (g i) H) : rU g (.int i) H Q := ⟨i, rfl, q⟩
theorem r_I0 {g : Int → Int → V} {i j : Int} (q : Q (g i j) H) : rI0 g (.int i) (.int j) H Q := ⟨i, j, rfl, rfl, q⟩
theorem r_I {C : Int → Int → Prop} {g : Int → Int → V} {i j : Int} (h : C i j) (q : Q (g i j) H) : rI C g (.int i) (.int j) H Q := ⟨i, j, rfl, rfl, h, q⟩
theorem r_cb {r : List V → Hp → VK → Prop} {t : TA} (q : t σ H fun vs H1 => r vs H1 Q) : tCB r t σ H Q := q
theorem r_callE {sp : Sp} {E : XK} {t : TA} (q : t σ H fun vs H1 => sp vs H1 Q E) : tCallE sp E t σ H Q := q
theorem r_makeE {C : Addr} {sp : Sp} {E : XK} {t : TA} (q : t σ H fun vs H1 => ∀ x dx, H1 x = none → H1 dx = none → dx ≠ x → sp (.ref x :: vs) (upd (upd H1 dx (.own x)) x (.ins C dx [])) (fun v H2 => v = .non ∧ Q (.ref x) H2) E) : tMakeE C sp E t σ H Q := q
theorem r_methE {P : Program} {w : World} {K : PySem.W.Frag} {mg : Str → Option Value} {base : Heap} {CX : CXT} {k : Nat} {m : Str} {E : XK} {ta : TE} {t : TA} (q : ta σ H fun x H1 => rMeth P w K mg base CX k m E σ t x H1 Q) : tMethE P w K mg base CX k m E ta t σ H Q := q
theorem r_methV {P : Program} {w : World} {K : PySem.W.Frag} {mg : Str → Option Value} {base : Heap} {CX : CXT} {k : Nat} {m : Str} {E : XK} {t : TA} {p C dx : Addr} {fs : List (Str × V)} {sp : Sp} (h : H p = some (.ins C dx fs)) (l : fs.lookup m = none) (M : MethE P w K mg base CX k C m sp)
   (q : t σ H fun vs H2 => sp (.ref p :: vs) H2 Q E) : rMeth P w K mg base CX k m E σ t (.ref p) H Q := ⟨p, C, dx, fs, sp, rfl, h, l, M, q⟩
theorem r_fld {K : PySem.W.Frag} {ta : TE} {f : Str} (q : ta σ H fun x H1 => rFld K f x H1 Q) : tFld K ta f σ H Q := q
theorem r_fldV {K : PySem.W.Frag} {f : Str} {p C dx : Addr} {fs : List (Str × V)} {v : V} (h : H p = some (.ins C dx fs)) (c : Cls K C) (n : NoAttr K C f) (l : fs.lookup f = some v) (q : Q v H) : rFld K f (.ref p) H Q := ⟨p, C, dx, fs, v, rfl, h, c, n, l, q⟩
theorem r_tup {t : TA} (q : t σ H fun xs H1 => xs.length ≤ sizeLine ∧ ∀ p, H1 p = none → Q (.ref p) (upd H1 p (.tup xs))) : tTup t σ H Q := q
theorem r_lst {t : TA} (q : t σ H fun xs H1 => xs.length ≤ sizeLine ∧ ∀ p, H1 p = none → Q (.ref p) (upd H1 p (.lst xs))) : tLst t σ H Q := q
theorem r_andV {ta tb : TE} (q : ta σ H fun x H1 => ∃ c, x = .bl c ∧ if c = true then tb σ H1 Q else Q (.bl false) H1) : tAndV ta tb σ H Q := q
theorem r_notV {ta : TE} (q : ta σ H fun x H1 => ∃ c, x = .bl c ∧ Q (.bl (!c)) H1) : tNotV ta σ H Q := q
theorem r_if {t : TT} {ta tb : TE} (q : t σ H fun c H1 => if c = true then ta σ H1 Q else tb σ H1 Q) : tIf t ta tb σ H Q := q
theorem r_sl {r : V → Option Int → Option Int → Hp → VK → Prop} {te : TE} {tl th : TO} (q : te σ H fun x H1 => tl σ H1 fun l H2 => th σ H2 fun u H3 => r x l u H3 Q) : tSl r te tl th σ H Q := q
theorem r_bm {K : PySem.W.Frag} {T : String} {r : V → List V → Hp → VK → Prop} {to : TE} {t : TA} (q : to σ H fun x H1 => tyV K T x H1 ∧ t σ H1 fun xs H2 => r x xs H2 Q) : tBM K T r to t σ H Q := q
theorem r_bm0 {K : PySem.W.Frag} {T : String} {r : V → List V → Hp → VK → Prop} {to : TE} (q : to σ H fun x H1 => tyV K T x H1 ∧ r x [] H1 Q) : tBM0 K T r to σ H Q := q
end
section
variable {σ : St} {H : Hp} {Q : List V → Hp → Prop}
theorem r_nil (q : Q [] H) : tNil σ H Q := q
theorem r_cons {ta : TE} {tr : TA} (q : ta σ H fun x H1 => tr σ H1 fun xs H2 => Q (x :: xs) H2) : tCons ta tr σ H Q := q
end
section
variable {σ : St} {H : Hp} {Q : Option Int → Hp → Prop}
theorem r_noPart (q : Q none H) : tNoPart σ H Q := q
theorem r_part {t : TE} (q : t σ H fun x H1 => ∃ i, x = .int i ∧ Q (some i) H1) : tPart t σ H Q := q
end
section
variable {σ : St} {H : Hp} {Q : Bool → Hp → Prop}
theorem r_test {t : TE} (q : t σ H fun x H' => ∃ k, x = .bl k ∧ Q k H') : tTest t σ H Q := q
theorem r_and {t u : TT} (q : t σ H fun c H1 => if c = true then u σ H1 Q else Q false H1) : tAnd t u σ H Q := q
theorem r_or {t u : TT} (q : t σ H fun c H1 => if c = true then Q true H1 else u σ H1 Q) : tOr t u σ H Q := q
theorem r_not {t : TT} (q : t σ H fun c H1 => Q (!c) H1) : tNot t σ H Q := q
theorem r_true (q : Q true H) : tTrue σ H Q := q
def tTru (K : PySem.W.Frag) (ta : TE) : TT := fun σ H Q => ta σ H fun x H' => rTru K x H' Q
theorem pt_tru {X : Cx} {a : Expr} {ta : TE} (ha : PE X a ta) (he : ∀ whole, isTrue a X.env whole = (do let v ← whole; standAt a.pos; holding [v] (truthy v)) := by intro _; rfl) : PT X a (tTru X.K ta) := pt_truth ha he
theorem r_tru {K : PySem.W.Frag} {ta : TE} (q : ta σ H fun x H' => rTru K x H' Q) : tTru K ta σ H Q := q
end
section
variable {D : Ends} {σ : St} {H : Hp}
theorem r_next (q : D.nx σ H) : tNext D σ H := q
theorem r_seq {t u : TS} (q : t { D with nx := u D } σ H) : tSeq t u D σ H := q
theorem r_ret {te : TE} (q : te σ H D.rt) : tRet te D σ H := q
theorem r_retN (q : D.rt .non H) : tRetN D σ H := q
theorem r_ifS {c : TT} {t u : TS} (q : c σ H fun b H1 => if b = true then t D σ H1 else u D σ H1) : tIfS c t u D σ H := q
theorem r_asg {te : TE} {g : TG} (q : te σ H fun x H1 => g x σ H1 D.nx) : tAsg te g D σ H := q
theorem r_drop {te : TE} (q : te σ H fun _ H1 => D.nx σ H1) : tDrop te D σ H := q
theorem r_sFld {K : PySem.W.Frag} {ta tv : TE} {f : Str} (q : tv σ H fun y H1 => ta σ H1 fun x H2 => sFldV K f y D σ x H2) : sFld K ta tv f D σ H := q
theorem r_sFldV {K : PySem.W.Frag} {f : Str} {y : V} {p C dx : Addr} {fs : List (Str × V)} (h : H p = some (.ins C dx fs)) (c : Cls K C) (n : NoAttr K C f) (l : fs.length < 1000) (q : D.nx σ (upd H p (.ins C dx (putF f y fs)))) : sFldV K f y D σ (.ref p) H := ⟨p, C, dx, fs, rfl, h, c, n, l, q⟩
end
theorem ifDec {c A B : Prop} [Decidable c] (h1 : c → A) (h2 : ¬ c → B) : if decide c = true then A else B := by
 by_cases h : c
 · rw [if_pos (decide_eq_true h)]; exact h1 h
 · rw [if_neg (by rw [decide_eq_false h]; exact Bool.false_ne_true)]; exact h2 h
theorem ifDecN {c A B : Prop} [Decidable c] (h1 : ¬ c → A) (h2 : c → B) : if (!decide c) = true then A else B := by
 by_cases h : c
 · rw [if_neg (by rw [decide_eq_true h]; decide)]; exact h2 h
 · rw [if_pos (by rw [decide_eq_false h]; rfl)]; exact h1 h
theorem ifInt {a b : Int} {A B : Prop} (h1 : a = b → A) (h2 : a ≠ b → B) : if decide (V.int a = V.int b) = true then A else B :=
 ifDec (fun e => h1 (by cases e; rfl)) fun e => h2 fun z => e (by rw [z])
theorem ifIntN {a b : Int} {A B : Prop} (h1 : a ≠ b → A) (h2 : a = b → B) : if (!decide (V.int a = V.int b)) = true then A else B :=
 ifDecN (fun e => h1 fun z => e (by rw [z])) fun e => h2 (by cases e; rfl)
end L3
namespace L3
open PySem PySem.Spec PyProof.Rows L2
section
variable {P : Program} {w : World} {K : PySem.W.Frag} {mg : Str → Option Value} {base : Heap} {x qual : Str} {st : Stmt} {N ps : List Str} {sp : Sp} {C : Addr}
def BodyOk (P : Program) (w : World) (K : PySem.W.Frag) (mg : Str → Option Value) (base : Heap) (k : Nat) (qual : Str) (st : Stmt) (N : List Str) (sp : Sp) : Prop :=
 ∀ (f : Addr) (cdv : Value) (A : Around) (outer : List Env) (s : Shared) (H : Hp) (vs : List V) (Q : VK) (E : XK), Room k (A.deeper (envOfC qual (defScope st) s.heap.objs.size f cdv)) → sp vs H Q E →
   ∃ t, PSs (cxOf CX0 P w K mg base N qual (defScope st) f cdv A outer s H E).nox (defBody st) t ∧ t { nx := fun _ H' => Q .non H', rt := Q } (start N vs) H
theorem fnE_of (k : Nat) (h : ∃ f fd, Fun K x qual st f fd ∧ mg x = some (.ref f) ∧ Binds K fd ps []) (S : FnScope N ps (defScope st)) (len : ∀ vs H Q E, sp vs H Q E → vs.length = ps.length)
   (hbody : BodyOk P w K mg base k qual st N sp) : FnE P w K mg base CX0 (k + 1) x sp := by
 obtain ⟨f, fd, F, hm, hb⟩ := h
 exact ⟨f, fd, ps, F.ok S len (hbody f), hm, F.kp, hb⟩
theorem methE_of (k : Nat) (c : Cls K C) (h : ∃ f fd, Fun K x qual st f fd ∧ Meth K C x f ∧ Binds K fd ps []) (S : FnScope N ps (defScope st)) (len : ∀ vs H Q E, sp vs H Q E → vs.length = ps.length)
   (hbody : BodyOk P w K mg base k qual st N sp) : MethE P w K mg base CX0 (k + 1) C x sp := by
 obtain ⟨f, fd, F, hm, hb⟩ := h
 exact ⟨c, f, fd, ps, hm, F.ok S len (hbody f), hb⟩
theorem mkE_of {y : Str} (k : Nat) (hy : mg y = some (.ref C)) (h : ∃ f fd, Fun K "__init__" qual st f fd ∧ Mk K C f ∧ Binds K fd ps []) (S : FnScope N ps (defScope st)) (len : ∀ vs H Q E, sp vs H Q E → vs.length = ps.length)
   (hbody : BodyOk P w K mg base k qual st N sp) : MkE P w K mg base CX0 (k + 1) y C sp := by
 obtain ⟨f, fd, F, hm, hb⟩ := h
 exact ⟨f, fd, ps, hm, F.ok S len (hbody f), hy, hb⟩
end
end L3
namespace L3
open PySem PySem.Spec PyProof.Rows L2 PySem.SeqAt
section
variable {X : Cx} {K : PySem.W.Frag}
theorem op_plusK (h : X.K = K) : OpR X (binaryOp .Add) (rPlus K) := by subst h; exact op_plus
theorem op_eqK (h : X.K = K) (hu : X.A.units + 64 < cLine) : OpR X (compareOp .Eq) (rEqA K) := by subst h; exact op_eqA hu
theorem op_neK (h : X.K = K) (hu : X.A.units + 64 < cLine) : OpR X (compareOp .NotEq) (rNeA K) := by subst h; exact op_neA hu
theorem op_inK (h : X.K = K) : OpR X (compareOp .In) (rIn K false) := by subst h; exact op_in_seq
theorem op_notInK (h : X.K = K) : OpR X (compareOp .NotIn) (rIn K true) := by subst h; exact op_notIn_seq
theorem ix_K (h : X.K = K) : IxR X (rIxA K) := by subst h; exact ix_any
theorem sl_K (h : X.K = K) : SlR X (rSlA K) := by subst h; exact sl_any
theorem pi_seqK {tg l : Expr} {tl : TE} (h : X.K = K) (hl : PE X l tl) : PI X tg l (iSeq K tl) := by subst h; exact pi_seq hl
theorem call_lenK (h : X.K = K) : CallR X (.builtin "len") (rLen K) := by subst h; exact call_lenA
theorem call_listK (h : X.K = K) : CallR X (.type "list") (rLst K) := by subst h; exact call_listA
theorem call_isiK (h : X.K = K) : CallR X (.builtin "isinstance") (rIsi K) := by subst h; exact call_isi
theorem call_allK (h : X.K = K) (hc : X.calm = true) : CallR X (.builtin "all") (rAll K) := by subst h; exact call_all hc
def rTup (K : PySem.W.Frag) : List V → Hp → VK → Prop := fun xs H Q => ∃ p ys, xs = [.ref p] ∧ ((SqL K H p ys ∧ ∀ l, H l = none → Q (.ref l) (upd H l (.tup ys))) ∨ (SqT K H p ys ∧ Q (.ref p) H))
theorem call_tupK (h : X.K = K) : CallR X (.type "tuple") (rTup K) := by subst h; exact call_tuple_of
theorem pe_fldK {e : Expr} {f : Str} {pos : Pos} {ta : TE} (h : X.K = K) (he : PE X e ta) (hb : attributeBase e f X.env (eval e X.env) = eval e X.env := by rfl) : PE X (.Attribute e f pos) (tFld K ta f) := by subst h; exact pe_fld he hb
theorem ps_fldK {o value : Expr} {f : Str} {pos pos' : Pos} {ta tv : TE} (h : X.K = K) (ha : PE X o ta) (hv : PE X value tv) (hs : swapsWith value (some (.Attribute o f pos')) pos.line X.env = pure false := by rfl) :
   PS X (.Assign [.Attribute o f pos'] value pos) (sFld K ta tv f) := by subst h; exact ps_fld ha hv hs
theorem pt_truK {a : Expr} {ta : TE} (h : X.K = K) (ha : PE X a ta) (he : ∀ whole, isTrue a X.env whole = (do let v ← whole; standAt a.pos; holding [v] (truthy v)) := by intro _; rfl) : PT X a (tTru K ta) := by subst h; exact pt_tru ha he
theorem pg_tupK {es : List Expr} {k : Nat} {t : TGs} {n : Nat} {pos : Pos} (hK : X.K = K) (hc : X.calm = true) (h : PGs X es t)
   (hn : (assignEach es X.env).length = n := by rfl) (hst : (assignEach es X.env).findIdx? (·.1) = none := by rfl) : PG X (.Tuple es k pos) (gTup K n t) := by subst hK; exact pg_tup hc h hn hst
theorem pe_bm0K {o : Expr} {to : TE} {name : Str} {apos cpos : Pos} {T id : String} {r : V → List V → Hp → VK → Prop} (h : X.K = K) (pa : PlainAttrs T) (slot : Slot T name id) (hty : typeOf (.builtin id) = pure (.type "method_descriptor")) (hm : MtR X id r) (ho : PE X o to)
   (hbase : attributeBase o name X.env (eval o X.env) = eval o X.env := by rfl) (hline : (apos.endLine == cpos.line) = true := by rfl) : PE X (.Call (.Attribute o name apos) [] [] cpos) (tBM0 K T r to) := by subst h; exact pe_bm0 pa slot hty hm ho hbase hline
theorem pe_bmK {o e : Expr} {es : List Expr} {to : TE} {t : TA} {name : Str} {apos cpos : Pos} {T id : String} {r : V → List V → Hp → VK → Prop} (h : X.K = K) (pa : PlainAttrs T) (slot : Slot T name id) (hty : typeOf (.builtin id) = pure (.type "method_descriptor")) (hm : MtR X id r) (ho : PE X o to) (ha : PA X (e :: es) t)
   (hbase : attributeBase o name X.env (eval o X.env) = eval o X.env := by rfl)
   (hfew : ((backTo cpos (starEach (e :: es) X.env)).all (fun x => !x.1) && (backToKw cpos (keywordEach [] X.env)).all (fun x => x.1.isSome)
     && decide ((e :: es).length + ([] : List Keyword).length + (if ([] : List Keyword).isEmpty then 0 else 1) < 30)) = true := by rfl)
   (hline : (apos.endLine == cpos.line) = true := by rfl) (hs : starEach (e :: es) X.env = (false, eval e X.env) :: starEach es X.env := by rfl) (hplain : (backTo cpos (starEach es X.env)).any (·.1) = false := by rfl) :
   PE X (.Call (.Attribute o name apos) (e :: es) [] cpos) (tBM K T r to t) := by subst h; exact pe_bm pa slot hty hm ho ha hbase hfew hline hs hplain
end
section
variable {X : Cx} {P : Program} {w : World} {K : PySem.W.Frag} {mg : Str → Option Value} {base : Heap} {CX : CXT} {k : Nat} {E : XK} {m : Str} {pos apos : Pos} {e o : Expr} {es : List Expr} {ta : TE} {t : TA}
theorem pe_methK {pl : Sem Bool} (hP : X.prog = P ∧ X.w = w ∧ X.K = K ∧ X.mg = mg ∧ X.base = base) (he : PE X o ta) (hr : Room k X.A) (hx : Passes CX X E) (ha : PA X (e :: es) t)
   (hst : starEach (e :: es) X.env = (false, eval e X.env) :: starEach es X.env := by rfl) (hpl : (backTo pos (starEach es X.env)).any (·.1) = false := by rfl)
   (ht : eval (.Call (.Attribute o m apos) (e :: es) [] pos) X.env = (do
     let ov ← eval o X.env
     standAt apos.atName
     let (f, first) ← holding [ov] (getMethod ov m pl)
     callWith pos f first (backTo pos (starEach (e :: es) X.env)) (backToKw pos (keywordEach [] X.env))) := by rfl) :
   PE X (.Call (.Attribute o m apos) (e :: es) [] pos) (tMethE P w K mg base CX k m E ta t) := by
 obtain ⟨rfl, rfl, rfl, rfl, rfl⟩ := hP
 exact pe_methE (pl := pl) he hr hx ha hst hpl ht
theorem pe_methK0 {pl : Sem Bool} (hP : X.prog = P ∧ X.w = w ∧ X.K = K ∧ X.mg = mg ∧ X.base = base) (he : PE X o ta) (hr : Room k X.A) (hx : Passes CX X E)
   (ht : eval (.Call (.Attribute o m apos) [] [] pos) X.env = (do
     let ov ← eval o X.env
     standAt apos.atName
     let (f, first) ← holding [ov] (getMethod ov m pl)
     callWith pos f first (backTo pos (starEach [] X.env)) (backToKw pos (keywordEach [] X.env))) := by rfl) :
   PE X (.Call (.Attribute o m apos) [] [] pos) (tMethE P w K mg base CX k m E ta tNil) := by
 obtain ⟨rfl, rfl, rfl, rfl, rfl⟩ := hP
 exact pe_methE0 (pl := pl) he hr hx ht
end
end L3
namespace L3
open PySem PySem.Spec PyProof.Rows L2 PySem.SeqAt
theorem r_alloc {H : Hp} {R : Addr → Prop} (q : ∀ p, H p = none → R p) : ∀ p, H p = none → R p := q
theorem r_small {n : Nat} {R : Prop} (h : n ≤ sizeLine) (q : R) : n ≤ sizeLine ∧ R := ⟨h, q⟩
theorem none_upd1 {H : Hp} {p q : Addr} {o : HO} (h : upd H p o q = none) : H q = none := (none_upd h).1
theorem none_same {H H' : Hp} {q : Addr} (s : Same H H') (h : H' q = none) : H q = none := by
 cases e : H q with
 | none => rfl
 | some u => rw [s _ _ e] at h; cases h
theorem same_none {H H1 : Hp} {p : Addr} {o : HO} (s : Same H H1) (h : H1 p = none) : Same H (upd H1 p o) := s.trans (same_new h)
def CInv {α : Type} (xs : List α) (f : α → V) (Sg : St → Prop) (H : Hp) (i : Nat) (ys : List V) (σ : St) (H1 : Hp) : Prop := Same H H1 ∧ Sg σ ∧ ys = (xs.take i).map f
theorem CInv.next {α : Type} {xs : List α} {f : α → V} {Sg : St → Prop} {H H1 H5 : Hp} {i : Nat} {ys : List V} {σ σ3 : St} {x : α} {y : V} (c : CInv xs f Sg H i ys σ H1) (hx : xs[i]? = some x) (e : y = f x) (s : Same H H5) (sg : Sg σ3) : CInv xs f Sg H (i + 1) (ys ++ [y]) σ3 H5 := by
 obtain ⟨_, _, rfl⟩ := c
 refine ⟨s, sg, ?_⟩
 subst e
 rw [List.take_add_one, hx, Option.toList_some, List.map_append]; rfl
theorem comp_mapL {K : PySem.W.Frag} {a : Addr} {α : Type} {xs : List α} {emb : α → V} {g : TG} {tc : TT} {te : TE} {fin : List V → Hp → Prop} {σ0 : St} {H : Hp} (f : α → V) (Sg : St → Prop) (hl : SqL K H a (xs.map emb)) (hz : xs.length ≤ sizeLine) (h0 : Sg σ0)
   (hs : ∀ (i : Nat) (x : α) (ys : List V) (σ : St) (H1 : Hp), xs[i]? = some x → CInv xs f Sg H i ys σ H1 → Same H H1 → Sg σ →
     g (emb x) σ H1 fun σ3 H3 => tc σ3 H3 fun b H4 => if b = true then te σ3 H4 fun y H5 => CInv xs f Sg H (i + 1) (ys ++ [y]) σ3 H5 else CInv xs f Sg H (i + 1) ys σ3 H4)
   (hd : ∀ H1, Same H H1 → fin (xs.map f) H1) : CompW (Itl K a) g tc te fin σ0 H := by
 refine comp_list (xs := xs.map emb) (CInv xs f Sg H) ⟨Same.refl _, h0, rfl⟩ ?_ ?_ ?_
 · rintro i ys σ H1 hi ⟨s, _, rfl⟩
   refine ⟨s.seq hl, ?_⟩
   rw [List.length_map, List.length_take]; omega
 · intro i x ys σ H1 hx c
   rw [List.getElem?_map] at hx
   obtain ⟨z, hz, rfl⟩ := Option.map_eq_some_iff.mp hx
   exact hs i z ys σ H1 hz c c.1 c.2.1
 · rintro ys σ H1 ⟨s, _, rfl⟩
   rw [List.length_map, List.take_length]
   exact hd H1 s
theorem r_ifB {b : Bool} {A B : Prop} (h1 : b = true → A) (h2 : b = false → B) : if b = true then A else B := by
 cases b with
 | true => exact h1 rfl
 | false => exact h2 rfl
theorem r_62 {j : Int} {R : Prop} (h1 : -(2 ^ 62) ≤ j) (h2 : j < 2 ^ 62) (q : R) : -(2 ^ 62) ≤ j ∧ j < 2 ^ 62 ∧ R := ⟨h1, h2, q⟩
theorem r_itL {K : PySem.W.Frag} {H : Hp} {a : Addr} {xs : List V} {A B : Prop} (h : SqL K H a xs) (q : A) : ((∃ xs, SqL K H a xs) ∧ A) ∨ ((∃ xs, SqT K H a xs) ∧ B) := .inl ⟨⟨xs, h⟩, q⟩
theorem r_itT {K : PySem.W.Frag} {H : Hp} {a : Addr} {xs : List V} {A B : Prop} (h : SqT K H a xs) (q : B) : ((∃ xs, SqL K H a xs) ∧ A) ∨ ((∃ xs, SqT K H a xs) ∧ B) := .inr ⟨⟨xs, h⟩, q⟩
theorem r_tyL {K : PySem.W.Frag} {H : Hp} {p : Addr} {xs : List V} {R : Prop} (h : H p = some (.lst xs)) (q : R) : tyV K "list" (.ref p) H ∧ R := ⟨ty_list h, q⟩
theorem map_int {α : Type} (l : List α) (f : α → Int) : l.map (fun k => V.int (f k)) = (l.map f).map V.int := by rw [List.map_map]; rfl
theorem r_gN {i : Nat} {v : V} {σ σ' : St} {H : Hp} {Q : St → Hp → Prop} (h : σ.set i (some v) = σ') (q : Q σ' H) : gName i v σ H Q := by subst h; exact q
theorem r_st {N : List Str} {vs : List V} {σ' : St} {t : TS} {D : Ends} {H : Hp} (h : start N vs = σ') (q : t D σ' H) : t D (start N vs) H := by subst h; exact q
theorem r_compS' {i : Nat} {own : List Str} {fr : List (Str × Nat)} {wi : TI} {g : TG} {tc : TT} {te : TE} {D : Ends} {σ σi : St} {H : Hp} (h : innerS own fr σ = σi) (q : wi σ H fun J H1 => CompW J g tc te (fun ys H3 => ∀ p, H3 p = none → gName i (.ref p) σ (upd H3 p (.lst ys)) D.nx) σi H1) : tCompS i own fr wi g tc te D σ H := by subst h; exact q
theorem r_compE' {own : List Str} {fr : List (Str × Nat)} {wi : TI} {g : TG} {tc : TT} {te : TE} {σ σi : St} {H : Hp} {Q : VK} (h : innerS own fr σ = σi) (q : wi σ H fun J H1 => CompW J g tc te (fun ys H3 => ∀ p, H3 p = none → Q (.ref p) (upd H3 p (.lst ys))) σi H1) : tCompE own fr wi g tc te σ H Q := by subst h; exact q
def rIsN : R2 := fun x y H Q => y = .non ∧ Q (.bl (decide (x = .non))) H
theorem op_isNA {X : Cx} : OpR X (compareOp .Is) rIsN := op_isN
theorem r_isNr {p : Addr} {H : Hp} {Q : VK} (q : Q (.bl false) H) : rIsN (.ref p) .non H Q := ⟨rfl, q⟩
theorem r_isNn {H : Hp} {Q : VK} (q : Q (.bl true) H) : rIsN .non .non H Q := ⟨rfl, q⟩
theorem r_isNi {i : Int} {H : Hp} {Q : VK} (q : Q (.bl false) H) : rIsN (.int i) .non H Q := ⟨rfl, q⟩
theorem sqt_upd {K : PySem.W.Frag} {H H1 : Hp} {a p : Addr} {xs : List V} {o : HO} (s : Same H H1) (h : H p = none) (q : SqT K H a xs) : SqT K (upd H1 p o) a xs := SqT_same (same_upd s h) q
def FInv {α : Type} (xs : List α) (f : α → V) (pr : α → Bool) (Sg : St → Prop) (H : Hp) (i : Nat) (ys : List V) (σ : St) (H1 : Hp) : Prop := Same H H1 ∧ Sg σ ∧ ys = ((xs.take i).filter pr).map f
theorem FInv.yes {α : Type} {xs : List α} {f : α → V} {pr : α → Bool} {Sg : St → Prop} {H H1 H5 : Hp} {i : Nat} {ys : List V} {σ σ3 : St} {x : α} {y : V} (c : FInv xs f pr Sg H i ys σ H1) (hx : xs[i]? = some x) (hp : pr x = true) (e : y = f x) (s : Same H H5) (sg : Sg σ3) : FInv xs f pr Sg H (i + 1) (ys ++ [y]) σ3 H5 := by
 obtain ⟨_, _, rfl⟩ := c
 refine ⟨s, sg, ?_⟩
 subst e
 rw [List.take_add_one, hx, Option.toList_some, List.filter_append, List.map_append, List.filter_cons, if_pos hp]; rfl
theorem FInv.no {α : Type} {xs : List α} {f : α → V} {pr : α → Bool} {Sg : St → Prop} {H H1 H5 : Hp} {i : Nat} {ys : List V} {σ σ3 : St} {x : α} (c : FInv xs f pr Sg H i ys σ H1) (hx : xs[i]? = some x) (hp : pr x = false) (s : Same H H5) (sg : Sg σ3) : FInv xs f pr Sg H (i + 1) ys σ3 H5 := by
 obtain ⟨_, _, rfl⟩ := c
 refine ⟨s, sg, ?_⟩
 rw [List.take_add_one, hx, Option.toList_some, List.filter_append, List.map_append, List.filter_cons, if_neg (by rw [hp]; decide)]
 simp
theorem r_inT {K : PySem.W.Frag} {p : Addr} {xs : List V} {x : V} {H : Hp} {Q : VK} (h : SqT K H p xs) (f1 : flatV x = true) (f2 : xs.all flatV = true) (q : Q (.bl (inV x xs)) H) : rIn K false x (.ref p) H Q := ⟨p, xs, rfl, .inr h, f1, f2, q⟩
end L3
namespace L3
open PySem PySem.Spec PyProof.Rows L2 PySem.SeqAt
section
variable {P : Program} {w : World} {K : PySem.W.Frag} {mg : Str → Option Value} {base : Heap}
end
section
variable {X : Cx} {CX : CXT} {k : Nat} {C : Addr} {sp : Sp} {E : XK} {x m : Str} {p pos apos : Pos} {e o : Expr} {es : List Expr} {ta : TE} {t : TA}
end
section
variable {P : Program} {w : World} {K : PySem.W.Frag} {mg : Str → Option Value} {base : Heap} {x qual : Str} {st : Stmt} {N ps : List Str} {sp : Sp} {C : Addr}
end
section
variable {K : PySem.W.Frag} {a : Addr} {xs : List V} {g : TG} {tc : TT} {te : TE} {fin : List V → Hp → Prop} {H : Hp}
theorem comp_tup {σ0 : St} (Pv : Nat → List V → St → Hp → Prop) (h0 : Pv 0 [] σ0 H) (hl : ∀ i ys σ H, i ≤ xs.length → Pv i ys σ H → SqT K H a xs ∧ ys.length ≤ sizeLine)
   (hs : ∀ i x ys σ H, xs[i]? = some x → Pv i ys σ H → g x σ H fun σ3 H3 => tc σ3 H3 fun b H4 => if b = true then te σ3 H4 fun y H5 => Pv (i + 1) (ys ++ [y]) σ3 H5 else Pv (i + 1) ys σ3 H4)
   (hd : ∀ ys σ H, Pv xs.length ys σ H → fin ys H) : CompW (Itt K a) g tc te fin σ0 H := by
 refine ⟨fun i m ys σ H => m = xs.length - i ∧ i ≤ xs.length ∧ Pv i ys σ H, ⟨xs.length, by simp, Nat.zero_le _, h0⟩, ?_⟩
 rintro i m ys σ H ⟨rfl, hi, p⟩
 obtain ⟨q, hz⟩ := hl i ys σ H hi p
 by_cases hlt : i < xs.length
 · refine .inr ⟨⟨xs, xs[i], q, by simp [hlt]⟩, Pv (i + 1), fun ys2 σ2 H2 p' => ⟨(hl (i + 1) ys2 σ2 H2 hlt p').2, xs.length - (i + 1), by omega, rfl, hlt, p'⟩, fun x H2 y => ?_⟩
   obtain ⟨e, y⟩ := y
   subst e
   exact hs i x ys σ _ (y xs q) p
 · have e : i = xs.length := by omega
   subst e
   exact .inl ⟨⟨xs, q, Nat.le_refl _⟩, hz, hd ys σ H p⟩
theorem comp_mapT {α : Type} {xs : List α} {emb : α → V} {σ0 : St} (f : α → V) (Sg : St → Prop) (hl : SqT K H a (xs.map emb)) (hz : xs.length ≤ sizeLine) (h0 : Sg σ0)
   (hs : ∀ (i : Nat) (x : α) (ys : List V) (σ : St) (H1 : Hp), xs[i]? = some x → CInv xs f Sg H i ys σ H1 → Same H H1 → Sg σ →
     g (emb x) σ H1 fun σ3 H3 => tc σ3 H3 fun b H4 => if b = true then te σ3 H4 fun y H5 => CInv xs f Sg H (i + 1) (ys ++ [y]) σ3 H5 else CInv xs f Sg H (i + 1) ys σ3 H4)
   (hd : ∀ H1, Same H H1 → fin (xs.map f) H1) : CompW (Itt K a) g tc te fin σ0 H := by
 refine comp_tup (xs := xs.map emb) (CInv xs f Sg H) ⟨Same.refl _, h0, rfl⟩ ?_ ?_ ?_
 · rintro i ys σ H1 hi ⟨s, _, rfl⟩
   refine ⟨SqT_same s hl, ?_⟩
   rw [List.length_map, List.length_take]; omega
 · intro i x ys σ H1 hx c
   rw [List.getElem?_map] at hx
   obtain ⟨z, hz, rfl⟩ := Option.map_eq_some_iff.mp hx
   exact hs i z ys σ H1 hz c c.1 c.2.1
 · rintro ys σ H1 ⟨s, _, rfl⟩
   rw [List.length_map, List.take_length]
   exact hd H1 s
end
theorem r_neD {K : PySem.W.Frag} {x y : V} {H : Hp} {Q : VK} (dx dy : PyData) (hx : Dp K H dx x) (hy : Dp K H dy y) (sx : shaped dx = true) (sy : shaped dy = true) (q : Q (.bl (!PyData.eqv dx dy)) H) : rNeA K x y H Q := .inr ⟨dx, dy, hx, hy, sx, sy, q⟩
theorem r_eqD {K : PySem.W.Frag} {x y : V} {H : Hp} {Q : VK} (dx dy : PyData) (hx : Dp K H dx x) (hy : Dp K H dy y) (sx : shaped dx = true) (sy : shaped dy = true) (q : Q (.bl (PyData.eqv dx dy)) H) : rEqA K x y H Q := .inr ⟨dx, dy, hx, hy, sx, sy, q⟩
end L3
namespace L3
open PySem PySem.Spec PyProof.Rows
section
variable {prog : Program} {w : World} {A : Around} {E : Value → Shared → Prop} {s : Shared}
theorem drawT0 {it t : Addr} {i : Nat} {its : Array Value} {Q : Value → Shared → Prop} (hi : s.heap.IsTupleIter it t i) (ht : s.heap.IsTuple t its)
   (q1 : ∀ x, its[i]? = some x → ∀ h', h'.IsTupleIter it t (i + 1) → Heap.SameBut it s.heap h' → Q x { s with heap := h' })
   (q2 : its[i]? = none → A.handled = none ∧ ∀ h' e, Heap.ExtBut it s.heap h' → (∃ o, h'.get? e = some o ∧ o.cls = .type "StopIteration") → E (.ref e) { s with heap := h' }) :
   wpAny (model prog w) A (Builtin.SmallTypes.nextOf (.ref it)) Q E s := by
 obtain ⟨o, ho, hc, hd⟩ := id hi
 obtain ⟨ot, hot, _, nt, hdt⟩ := ht
 unfold Builtin.SmallTypes.nextOf
 refine wpAny_bind (wpAny_callSpecial?_slot (name := Str.ofString "__next__") hi.typeIs F.slot_tuple_iterator_next (wpAny_call_entry F.slot_tuple_iterator_next hi.typeIs F.entry_tuple_iterator_next ?_ (F.args_tuple_iterator_next_1 _)))
 show wpAny _ _ (field (.ref it) 0 >>= _) _ _ _; refine wpAny_bind (wpAny_field ho hd (x := .ref t) rfl ?_)
 show wpAny _ _ (if (Value.ref t == Value.none) = true then _ else _) _ _ _; rw [if_neg (show ¬ (Value.ref t == Value.none) = true from fun z => Bool.false_ne_true z)]
 show wpAny _ _ (field (.ref it) 1 >>= _) _ _ _; refine wpAny_bind (wpAny_field ho hd (x := .int i 0) rfl ?_)
 show wpAny _ _ (seqItems? (.ref t) >>= _) _ _ _; refine wpAny_bind (wpAny_seqItems hot hdt ?_)
 cases hx : its[i]? with
 | some x =>
   simp only [Int.toNat_natCast, hx]; refine wpAny_bind (wpAny_setField ho hd (by simp) (wpAny_pure ⟨x, rfl, wpAny_pure (q1 x hx _ ?_ (Heap.SameBut.update ..))⟩))
   refine ⟨_, Heap.get?_update_self _ ho (Obj.isFreed_of_fields (Obj.data_mapFields hd _)), (Obj.cls_mapFields ..).trans hc, ?_⟩
   rw [Obj.data_mapFields hd]; simp [rawInt]
 | none =>
   obtain ⟨hh, q2⟩ := q2 hx
   simp only [Int.toNat_natCast, hx]; refine wpAny_bind (wpAny_rule (wpAny_bind (wpAny_setField ho hd (by simp) ?_)))
   show wpAny _ _ (newExc (.type "StopIteration") [] >>= _) _ _ _; refine wpAny_bind ?_
   simp only [newExc, newTuple]; refine wpAny_bind (wpAny_newObj_type ?_ (by size_fits))
   refine wpAny_bind (m := firstArgMember _ _) (wpAny_of_eq (a := Value.none) (by first | rfl | (simp only [firstArgMember]; rfl)) (wpAny_newObj_type ?_ (by size_fits)))
   simp only [raiseNew]; refine wpAny_bind (wpAny_handled ?_)
   rw [show A.in1.handled = none from hh]; refine wpAny_bind (wpAny_pure (wpAny_throw ?_))
   exact q2 _ _ (((Heap.SameBut.update ..).extBut.push _).push _) ⟨_, Heap.get?_push_size _ rfl, rfl⟩
theorem zipT {z TI TO i1 i2 t1 t2 : Addr} {k : Nat} {xs ys : Array Value} {a b : Value} {Q : Fin → Shared → Prop} (D : ZipApart z TI TO i1 i2 t1 t2) (hz : IsZip s.heap z TI TO .none) (hTI : IsPair s.heap TI (.ref i1) (.ref i2)) (hTO : IsPair s.heap TO a b)
   (h1 : s.heap.IsTupleIter i1 t1 k) (h2 : s.heap.IsTupleIter i2 t2 k) (ht1 : s.heap.IsTuple t1 xs) (ht2 : s.heap.IsTuple t2 ys)
   (q1 : ∀ x y, xs[k]? = some x → ys[k]? = some y → ∀ h', IsZip h' z TI TO (rawInt s.heap.objs.size) → IsPair h' TO x y → h'.IsTupleIter i1 t1 (k + 1) → h'.IsTupleIter i2 t2 (k + 1) → IsPair h' s.heap.objs.size x y →
     (∀ c o, c ≠ z → c ≠ TO → c ≠ i1 → c ≠ i2 → s.heap.get? c = some o → h'.get? c = some o) → Q (.done (.ret (.ref s.heap.objs.size))) { s with heap := h' })
   (q2 : (xs[k]? = none ∨ ys[k]? = none) → A.handled = none ∧ ∀ h' e, (∀ c o, c ≠ z → c ≠ TO → c ≠ i1 → c ≠ i2 → s.heap.get? c = some o → h'.get? c = some o) → (∃ o, h'.get? e = some o ∧ o.cls = .type "StopIteration") → E (.ref e) { s with heap := h' }) :
   wpAny (model prog w) A (Builtin.«zip.__next__» ⟨[.ref z], []⟩) Q E s := by
 show wpAny _ _ (field (.ref z) 2 >>= _) _ _ _; refine wpAny_bind (wpAny_field hz rfl (x := .bool false) rfl ?_)
 show wpAny _ _ (field (.ref z) 3 >>= _) _ _ _; refine wpAny_bind (wpAny_field hz rfl (x := .ref TI) rfl (wpAny_bind (wpAny_seqItems hTI rfl ?_)))
 show wpAny _ _ (Builtin.SmallTypes.ownedTupleIsFree (.ref z) >>= _) _ _ _; refine wpAny_bind ?_
 unfold Builtin.SmallTypes.ownedTupleIsFree; refine wpAny_bind (wpAny_field hz rfl (x := .none) rfl (wpAny_pure ?_))
 simp only [if_true]; refine wpAny_bind (wpAny_rule (wpAny_bind (wpAny_field hz rfl (x := .ref TO) rfl ?_)))
 refine wpAny_bind (wpAny_setField_rec hz (by simp) fun g1 hz1 s1 => ?_); replace hz1 : IsZip g1 z TI TO .ellipsis := hz1
 refine wpAny_bind ?_; simp only [List.zipIdx_cons, List.zipIdx_nil, List.forIn_cons, List.forIn_nil]
 refine wpAny_bind (wpAny_bind (wpAny_onRaise ?_)); show wpAny _ _ (Builtin.SmallTypes.nextOf (.ref i1) >>= _) _ _ _
 refine wpAny_bind (drawT0 (h1.at fun o e => s1.extBut _ o D.i1z e) (ht1.extBut s1.extBut D.l1z) (fun x hx g2 h12 s2 => wpAny_pure ?_) fun hx => ?_)
 · have hO2 : IsPair g2 TO a b := s2.extBut _ _ D.TOi1 (s1.extBut _ _ D.TOz hTO)
   refine wpAny_bind (wpAny_seqItems hO2 rfl (wpAny_bind (wpAny_updateSeq_pair hO2 fun g3 hO3 s3 => ?_))); replace hO3 : IsPair g3 TO x b := hO3
   refine wpAny_bind (wpAny_letGo (wpAny_pure ?_)); refine wpAny_bind (wpAny_bind (wpAny_onRaise ?_))
   show wpAny _ _ (Builtin.SmallTypes.nextOf (.ref i2) >>= _) _ _ _
   have k3 : ∀ c o, c ≠ z → c ≠ TO → c ≠ i1 → s.heap.get? c = some o → g3.get? c = some o := fun c o c1 c2 c3 e => s3.extBut _ _ c2 (s2.extBut _ _ c3 (s1.extBut _ _ c1 e))
   have hz3 : IsZip g3 z TI TO .ellipsis := s3.extBut _ _ D.TOz.symm (s2.extBut _ _ D.i1z.symm hz1)
   refine wpAny_bind (drawT0 (h2.at fun o e => k3 _ o D.i2z D.TOi2.symm D.i12.symm e) (ht2.at fun o e => k3 _ o D.l2z D.l2TO D.l2i1 e) (fun y hy g4 h24 s4 => wpAny_pure ?_) fun hy => ?_)
   · have hO4 : IsPair g4 TO x b := s4.extBut _ _ D.TOi2 hO3
     refine wpAny_bind (wpAny_seqItems hO4 rfl (wpAny_bind (wpAny_updateSeq_pair hO4 fun g5 hO5 s5 => ?_))); replace hO5 : IsPair g5 TO x y := hO5
     refine wpAny_bind (wpAny_letGo (wpAny_pure (wpAny_pure ?_))); refine wpAny_bind (wpAny_seqItems hO5 rfl (wpAny_bind (wpAny_newTuple ?_)))
     have z5 : g5.objs.size = s.heap.objs.size := by rw [s5.1, s4.1, s3.1, s2.1, s1.1]
     have hz5 : IsZip g5 z TI TO .ellipsis := s5.extBut _ _ D.TOz.symm (s4.extBut _ _ D.i2z.symm hz3)
     have k5 : ∀ c o, c ≠ z → c ≠ TO → c ≠ i1 → c ≠ i2 → s.heap.get? c = some o → g5.get? c = some o := fun c o c1 c2 c3 c4 e => s5.extBut _ _ c2 (s4.extBut _ _ c4 (k3 c o c1 c2 c3 e))
     have h15 : g5.IsTupleIter i1 t1 (k + 1) := h12.at fun o e => s5.extBut _ _ D.TOi1.symm (s4.extBut _ _ D.i12 (s3.extBut _ _ D.TOi1.symm e))
     have h25 : g5.IsTupleIter i2 t2 (k + 1) := h24.at fun o e => s5.extBut _ _ D.TOi2.symm e
     have zlt : z < g5.objs.size := Heap.lt_size hz5
     show wpAny _ _ (Builtin.SmallTypes.ownedTupleHandOut (.ref z) (.ref g5.objs.size) >>= _) _ _ _; refine wpAny_bind ?_
     unfold Builtin.SmallTypes.ownedTupleHandOut
     have hz6 : IsZip (g5.push { cls := .type "tuple", data := .seq #[x, y] }) z TI TO .ellipsis := Heap.get?_push_of_some _ hz5
     refine wpAny_bind (wpAny_setField_rec hz6 (by simp) fun g7 hz7 s7 => ?_); replace hz7 : IsZip g7 z TI TO (rawInt g5.objs.size) := hz7
     refine wpAny_setField_rec hz7 (by simp) fun g8 hz8 s8 => ?_; replace hz8 : IsZip g8 z TI TO (rawInt g5.objs.size) := hz8
     have up : ∀ c o, c ≠ z → g5.get? c = some o → g8.get? c = some o := fun c o c1 e => s8.extBut _ _ c1 (s7.extBut _ _ c1 (Heap.get?_push_of_some _ e))
     have hT8 : IsPair g8 g5.objs.size x y := s8.extBut _ _ (Nat.ne_of_gt zlt) (s7.extBut _ _ (Nat.ne_of_gt zlt) (Heap.get?_push_size _ rfl))
     rw [z5] at hz8 hT8; refine wpAny_pure ?_
     show Q (.done (.ret (.ref g5.objs.size))) _; rw [z5]
     exact q1 x y hx hy g8 hz8 (up _ _ D.TOz hO5) (h15.at fun o e => up _ o D.i1z e) (h25.at fun o e => up _ o D.i2z e) hT8 fun c o c1 c2 c3 c4 e => up c o c1 (k5 c o c1 c2 c3 c4 e)
   · obtain ⟨hh, q2⟩ := q2 (.inr hy)
     refine ⟨hh, fun g4 e s4 he => ?_⟩
     obtain ⟨oe, hoe, hce⟩ := he
     have hz4 : IsZip g4 z TI TO .ellipsis := s4 _ _ D.i2z.symm hz3
     have hez : e ≠ z := fun v => by subst v; rw [hz4] at hoe; cases hoe; simp at hce
     exact wpAny_setField_rec hz4 (by simp) fun g5 _ s5 => q2 g5 e (fun c o c1 c2 c3 c4 v => s5.extBut _ _ c1 (s4 _ _ c4 (k3 c o c1 c2 c3 v))) ⟨oe, s5.extBut _ _ hez hoe, hce⟩
 · obtain ⟨hh, q2⟩ := q2 (.inl hx)
   refine ⟨hh, fun g2 e s2 he => ?_⟩
   obtain ⟨oe, hoe, hce⟩ := he
   have hz2 : IsZip g2 z TI TO .ellipsis := s2 _ _ D.i1z.symm hz1
   have hez : e ≠ z := fun v => by subst v; rw [hz2] at hoe; cases hoe; simp at hce
   exact wpAny_setField_rec hz2 (by simp) fun g3 _ s3 => q2 g3 e (fun c o c1 _ c3 _ v => s3.extBut _ _ c1 (s2 _ _ c3 (s1.extBut _ _ c1 v))) ⟨oe, s3.extBut _ _ hez hoe, hce⟩
end
abbrev itO (t : Addr) : Obj := { cls := .type "tuple_iterator", data := .fields #[.ref t, .int 0 0] }
abbrev prO (a b : Value) : Obj := { cls := .type "tuple", data := .seq #[a, b] }
abbrev zG1 (h : Heap) (t : Addr) : Heap := h.push (itO t)
abbrev zG2 (h : Heap) (t u : Addr) : Heap := (zG1 h t).push (itO u)
abbrev zG3 (h : Heap) (t u : Addr) : Heap := (zG2 h t u).push (prO (.ref h.objs.size) (.ref (zG1 h t).objs.size))
abbrev zG4 (h : Heap) (t u : Addr) : Heap := (zG3 h t u).push (prO .none .none)
abbrev zG5 (h : Heap) (t u : Addr) : Heap := (zG4 h t u).push { cls := .type "zip", data := .fields #[.none, .bool false, .bool false, .ref (zG2 h t u).objs.size, .ref (zG3 h t u).objs.size] }
theorem zipT_new (t u : Addr) (xs ys : Array Value) : Meets (Builtin.«zip.__new__» ⟨[.type "zip", .ref t, .ref u], []⟩) (fun _ R s => s.heap.IsTuple t xs ∧ s.heap.IsTuple u ys ∧ R (.ok (.ret (.ref (zG4 s.heap t u).objs.size))) { s with heap := zG5 s.heap t u }) :=
 .of_wp fun prog w A R s h => by
   obtain ⟨hp, g, d, tk, os⟩ := s; obtain ⟨hl1, hl2, h⟩ := h
   have hsub := sub_zip; have hL1 : Heap.IsTuple (Shared.heap ⟨hp, g, d, tk, os⟩) t xs := hl1
   have hL2 : Heap.IsTuple (Shared.heap ⟨hp.push (itO t), g, d, tk, os⟩) u ys := hl2.at fun o e => Heap.get?_push_of_some _ e
   wp_walk using wpAny_pyIter_tuple hL1, wpAny_pyIter_tuple hL2
   exact ⟨_, rfl, h⟩
section
variable {prog : Program} {w : World} {A : Around} {E : Value → Shared → Prop} {s : Shared}
theorem callZip {t u : Addr} {xs ys : Array Value} {Q : Value → Shared → Prop} (h1 : s.heap.IsTuple t xs) (h2 : s.heap.IsTuple u ys)
   (q : ∀ h' n, n = s.heap.objs.size → IsZip h' (n + 4) (n + 2) (n + 3) .none → IsPair h' (n + 2) (.ref n) (.ref (n + 1)) → IsPair h' (n + 3) .none .none → h'.IsTupleIter n t 0 → h'.IsTupleIter (n + 1) u 0 →
     (∀ c o, s.heap.get? c = some o → h'.get? c = some o) → Q (.ref (n + 4)) { s with heap := h' }) : wpAny (model prog w) A (call (.type "zip") [.ref t, .ref u]) Q E s := by
 refine callType_new F.called_zip (by decide) (F.typeCall_zip_2 _ _) (F.newCall_zip_2 _ _) (fun obj => F.args_object_init_3 obj _ _) F.entry_zip_new (zipT_new t u xs ys) ⟨h1, h2, ?_⟩
 have z1 : (zG1 s.heap t).objs.size = s.heap.objs.size + 1 := Heap.size_push ..
 have z2 : (zG2 s.heap t u).objs.size = s.heap.objs.size + 2 := by rw [Heap.size_push, z1]
 have z3 : (zG3 s.heap t u).objs.size = s.heap.objs.size + 3 := by rw [Heap.size_push, z2]
 have z4 : (zG4 s.heap t u).objs.size = s.heap.objs.size + 4 := by rw [Heap.size_push, z3]
 have p5 : ∀ c o, (zG4 s.heap t u).get? c = some o → (zG5 s.heap t u).get? c = some o := fun c o e => Heap.get?_push_of_some _ e
 have p4 : ∀ c o, (zG3 s.heap t u).get? c = some o → (zG5 s.heap t u).get? c = some o := fun c o e => p5 c o (Heap.get?_push_of_some _ e)
 have p3 : ∀ c o, (zG2 s.heap t u).get? c = some o → (zG5 s.heap t u).get? c = some o := fun c o e => p4 c o (Heap.get?_push_of_some _ e)
 have p2 : ∀ c o, (zG1 s.heap t).get? c = some o → (zG5 s.heap t u).get? c = some o := fun c o e => p3 c o (Heap.get?_push_of_some _ e)
 have e5 : (zG5 s.heap t u).get? (zG4 s.heap t u).objs.size = some _ := Heap.get?_push_size _ rfl
 have e4 := p5 _ _ (show (zG4 s.heap t u).get? (zG3 s.heap t u).objs.size = some _ from Heap.get?_push_size _ rfl)
 have e3 := p4 _ _ (show (zG3 s.heap t u).get? (zG2 s.heap t u).objs.size = some _ from Heap.get?_push_size _ rfl)
 have e2 := p3 _ _ (show (zG2 s.heap t u).get? (zG1 s.heap t).objs.size = some _ from Heap.get?_push_size _ rfl)
 have e1 := p2 _ _ (show (zG1 s.heap t).get? s.heap.objs.size = some _ from Heap.get?_push_size _ rfl)
 rw [z2, z3, z4] at e5
 rw [z2, z1] at e3
 rw [z3] at e4
 rw [z1] at e2
 show _ ∧ _
 rw [z4]
 exact ⟨⟨_, e5, rfl⟩, q _ _ rfl e5 e3 e4 ⟨_, e1, rfl, rfl⟩ ⟨_, e2, rfl, rfl⟩ fun c o x => p2 c o (Heap.get?_push_of_some _ x)⟩
theorem nextZip {z TI TO i1 i2 t1 t2 : Addr} {k : Nat} {xs ys : Array Value} {a b : Value} {Q : Option Value → Shared → Prop} (D : ZipApart z TI TO i1 i2 t1 t2) (hz : IsZip s.heap z TI TO .none) (hTI : IsPair s.heap TI (.ref i1) (.ref i2)) (hTO : IsPair s.heap TO a b)
   (h1 : s.heap.IsTupleIter i1 t1 k) (h2 : s.heap.IsTupleIter i2 t2 k) (ht1 : s.heap.IsTuple t1 xs) (ht2 : s.heap.IsTuple t2 ys)
   (q1 : ∀ x y, xs[k]? = some x → ys[k]? = some y → ∀ h', IsZip h' z TI TO (rawInt s.heap.objs.size) → IsPair h' TO x y → h'.IsTupleIter i1 t1 (k + 1) → h'.IsTupleIter i2 t2 (k + 1) → IsPair h' s.heap.objs.size x y →
     (∀ c o, c ≠ z → c ≠ TO → c ≠ i1 → c ≠ i2 → s.heap.get? c = some o → h'.get? c = some o) → Q (some (.ref s.heap.objs.size)) { s with heap := h' })
   (q2 : (xs[k]? = none ∨ ys[k]? = none) → A.handled = none ∧ ∀ h', (∀ c o, c ≠ z → c ≠ TO → c ≠ i1 → c ≠ i2 → s.heap.get? c = some o → h'.get? c = some o) → Q none { s with heap := h' }) :
   wpAny (model prog w) A (pyNext (.ref z)) Q E s := by
 have hT : s.TypeIs (.ref z) "zip" := ⟨_, hz, rfl⟩; unfold pyNext
 refine wpAny_bind (wpAny_attempt (wpAny_callSpecial?_slot (name := Str.ofString "__next__") hT F.slot_zip_next (wpAny_call_entry F.slot_zip_next hT F.entry_zip_next ?_ (F.args_zip_next_1 _))))
 refine zipT D hz hTI hTO h1 h2 ht1 ht2 (fun x y hx hy h' a1 a2 a3 a4 a5 a6 => ⟨_, rfl, wpAny_pure (q1 x y hx hy h' a1 a2 a3 a4 a5 a6)⟩) fun he => ⟨(q2 he).1, fun h' e kk ho => ?_⟩
 obtain ⟨o, ho, hc⟩ := ho
 exact wpAny_bind (wpAny_isInstance (T := "StopIteration") (b := true) ⟨o, ho, hc⟩ isSubtype_stop (wpAny_pure ((q2 he).2 _ kk)))
end
end L3
namespace L3
open PySem PySem.Spec PyProof.Rows L2
def Itz (K : PySem.W.Frag) (a b : Addr) : It :=
 ⟨fun i H => ∃ xs ys x y, SqT K H a xs ∧ SqT K H b ys ∧ xs[i]? = some x ∧ ys[i]? = some y,
  fun i H v H' => ∃ T x y, v = .ref T ∧ H T = none ∧ H' = upd H T (.tup [x, y]) ∧ ∀ xs ys, SqT K H a xs → SqT K H b ys → xs[i]? = some x ∧ ys[i]? = some y,
  fun i H => ∃ xs ys, SqT K H a xs ∧ SqT K H b ys ∧ (xs.length ≤ i ∨ ys.length ≤ i)⟩
theorem inv_turns {X : Cx} {pins : List (Addr × Obj)} {σ : St} {H : Hp} {s : Shared} {h' : Heap} {ch : List Addr} {T : Addr} {xs : List V} (I : Inv X pins σ H s) (hf : ∀ b ∈ ch, FpOk X pins H b) (hT : s.heap.objs.size ≤ T)
   (k : ∀ b o, b ∉ ch → s.heap.get? b = some o → h'.get? b = some o) (kc : ∀ b ∈ ch, ∃ o, h'.get? b = some o) (new : ObjOk X.prog X.w (upd H T (.tup xs)) h' T (.tup xs)) : Inv X pins σ (upd H T (.tup xs)) { s with heap := h' } := by
 have hn : H T = none := I.hok.fresh hT
 have nc : ∀ b u, H b = some u → b ∉ ch := fun b u e hb => by rw [(hf b hb).1] at e; cases e
 have nT : ∀ b o, s.heap.get? b = some o → b ≠ T := fun b o e z => absurd (Heap.lt_size e) (by rw [z]; exact Nat.not_lt.mpr hT)
 refine I.call' (ch := ch) rfl ⟨fun b o e _ _ hc => k b o hc e, fun b o e _ _ hc => ⟨o.slots, k b o hc e⟩, fun b o e n _ => by rw [upd_ne (nT b o e)]; exact n, fun b o e hc => ⟨o, k b o hc e⟩, fun b xs e => ?_, fun b o u e => ?_, fun b ps e => ⟨#[], ?_⟩⟩ ?_ I.bare ?_
 · rw [upd_ne (ne_of_none e hn)]; exact e
 · rw [upd_ne (ne_of_none e hn)]; exact e
 · rw [upd_ne (ne_of_none e hn), e]; simp
 · intro b u e
   by_cases hb : b = T
   · subst hb
     rw [upd_same] at e
     cases e
     exact new
   · rw [upd_ne hb] at e
     refine (I.hok b u e).stay (fun c v hc q => k c v ?_ q) (fun c q => by rw [upd_ne (ne_of_none q hn)]; exact q) fun c ys q => by rw [upd_ne (ne_of_none q hn)]; exact q
     rcases hc with z | z
     · rw [z]; exact nc b u e
     · exact nc c _ z
 · intro b hb
   obtain ⟨f0, f1, f2, f3, f4, f5⟩ := hf b hb
   exact ⟨f3, f1, f4, f5⟩
theorem turn_zip {P : Program} {w : World} {K : PySem.W.Frag} {es : List Expr} {n : Nat} {pos : Pos} {a b z TI TO i1 i2 : Addr} (D : ZipApart z TI TO i1 i2 a b) :
   Turn P w K (.Tuple es n pos) (Itz K a b) [z, TI, TO, i1, i2] z (fun i h => IsZip h z TI TO .none ∧ IsPair h TI (.ref i1) (.ref i2) ∧ (∃ x y, IsPair h TO x y) ∧ h.IsTupleIter i1 a i ∧ h.IsTupleIter i2 b i) where
 mem := by simp
 obj := fun i h st c hc => by
   obtain ⟨hz, hI, ⟨x, y, hO⟩, ⟨o1, e1, _, d1⟩, ⟨o2, e2, _, d2⟩⟩ := st
   have hc : c = z ∨ c = TI ∨ c = TO ∨ c = i1 ∨ c = i2 := by simpa using hc
   rcases hc with rfl | rfl | rfl | rfl | rfl
   · exact ⟨_, hz, fun v e => by cases e⟩
   · exact ⟨_, hI, fun v e => by cases e⟩
   · exact ⟨_, hO, fun v e => by cases e⟩
   · exact ⟨_, e1, fun v e => by rw [d1] at e; cases e⟩
   · exact ⟨_, e2, fun v e => by rw [d2] at e; cases e⟩
 keep := fun i h h' st k => by
   obtain ⟨hz, hI, ⟨x, y, hO⟩, h1, h2⟩ := st
   exact ⟨k z (by simp) _ hz, k TI (by simp) _ hI, ⟨x, y, k TO (by simp) _ hO⟩, h1.at fun o e => k i1 (by simp) o e, h2.at fun o e => k i2 (by simp) o e⟩
 item := by
   intro X hP hw hK hc i pins s σ H E I hf st hg
   subst hP hw hK
   obtain ⟨hz, hI, ⟨x0, y0, hO⟩, h1, h2⟩ := st
   obtain ⟨xs, ys, x, y, hq1, hq2, hx, hy⟩ := hg
   obtain ⟨its1, rv1, p1, _⟩ := I.tuple hq1
   obtain ⟨its2, rv2, p2, _⟩ := I.tuple hq2
   obtain ⟨u, hu, ru⟩ := rv1.get hx
   obtain ⟨v, hv, rv⟩ := rv2.get hy
   refine nextZip D hz hI hO h1 h2 (show s.heap.IsTuple a its1.toArray from p1) (show s.heap.IsTuple b its2.toArray from p2) (fun u' v' hu' hv' h' z1 z2 z3 z4 z5 kk => ?_) fun he => ?_
   · have e1 : u' = u := by simpa [hu] using hu'.symm
     have e2 : v' = v := by simpa [hv] using hv'.symm
     subst e1 e2
     refine ⟨_, rfl, wpAny_letOwnedTupleGo_zip z1 fun h2' hz2 s2 => ?_⟩
     have T0 : H s.heap.objs.size = none := I.hok.fresh (Nat.le_refl _)
     have tz : s.heap.objs.size ≠ z := Nat.ne_of_gt (Heap.lt_size hz)
     have J : Inv X pins σ (upd H s.heap.objs.size (.tup [x, y])) { s with heap := h2' } := by
       refine inv_turns (ch := [z, TI, TO, i1, i2]) I hf (Nat.le_refl _) (fun c o hc e => ?_) (fun c hc => ?_) ?_
       · have c1 : c ≠ z := fun q => hc (by simp [q])
         exact s2.extBut _ _ c1 (kk c o c1 (fun q => hc (by simp [q])) (fun q => hc (by simp [q])) (fun q => hc (by simp [q])) e)
       · have hc : c = z ∨ c = TI ∨ c = TO ∨ c = i1 ∨ c = i2 := by simpa using hc
         rcases hc with rfl | rfl | rfl | rfl | rfl
         · exact ⟨_, hz2⟩
         · exact ⟨_, s2.extBut _ _ D.TIz (kk _ _ D.TIz D.TITO D.TIi1 D.TIi2 hI)⟩
         · exact ⟨_, s2.extBut _ _ D.TOz z2⟩
         · obtain ⟨o, e, _⟩ := z3; exact ⟨o, s2.extBut _ _ D.i1z e⟩
         · obtain ⟨o, e, _⟩ := z4; exact ⟨o, s2.extBut _ _ D.i2z e⟩
       · exact ⟨by show 2 ≤ sizeLine; decide, [u', v'], .cons ru (.cons rv .nil), ⟨_, s2.extBut _ _ tz z5, rfl, _, rfl⟩⟩
     refine ⟨.ref s.heap.objs.size, _, J, rfl, ⟨_, x, y, rfl, T0, rfl, fun xs' ys' q1 q2 => ?_⟩, ⟨hz2, s2.extBut _ _ D.TIz (kk _ _ D.TIz D.TITO D.TIi1 D.TIi2 hI), ⟨_, _, s2.extBut _ _ D.TOz z2⟩, z3.at fun o e => s2.extBut _ _ D.i1z e, z4.at fun o e => s2.extBut _ _ D.i2z e⟩, fun c hc => ?_⟩
     · rw [I.tuple_inj q1 hq1, I.tuple_inj q2 hq2]; exact ⟨hx, hy⟩
     · have hlt : c < s.heap.objs.size := by
         have hc : c = z ∨ c = TI ∨ c = TO ∨ c = i1 ∨ c = i2 := by simpa using hc
         rcases hc with e | e | e | e | e <;> rw [e]
         · exact Heap.lt_size hz
         · exact Heap.lt_size hI
         · exact Heap.lt_size hO
         · obtain ⟨o, e, _⟩ := h1; exact Heap.lt_size e
         · obtain ⟨o, e, _⟩ := h2; exact Heap.lt_size e
       rw [upd_ne (Nat.ne_of_lt hlt)]; exact (hf c hc).1
   · exfalso
     rcases he with he | he
     · simp [hu] at he
     · simp [hv] at he
 done := by
   intro X hP hw hK hc i pins s σ H E I hf st hg
   subst hP hw hK
   obtain ⟨hz, hI, ⟨x0, y0, hO⟩, h1, h2⟩ := st
   obtain ⟨xs, ys, hq1, hq2, hl⟩ := hg
   obtain ⟨its1, rv1, p1, _⟩ := I.tuple hq1
   obtain ⟨its2, rv2, p2, _⟩ := I.tuple hq2
   have l1 := rv1.length
   have l2 := rv2.length
   refine nextZip D hz hI hO h1 h2 (show s.heap.IsTuple a its1.toArray from p1) (show s.heap.IsTuple b its2.toArray from p2) (fun u' v' hu' hv' h' z1 z2 z3 z4 z5 kk => ?_) fun he => ⟨I.ok.hd hc, fun h' kk => ⟨rfl, ?_⟩⟩
   · exfalso
     have g1 : i < its1.length := by simpa using (Array.getElem?_eq_some_iff.mp hu').1
     have g2 : i < its2.length := by simpa using (Array.getElem?_eq_some_iff.mp hv').1
     omega
   · have hnc : ∀ c o, c ∉ [z, TI, TO, i1, i2] → s.heap.get? c = some o → h'.get? c = some o := fun c o hc e => kk c o (fun q => hc (by simp [q])) (fun q => hc (by simp [q])) (fun q => hc (by simp [q])) (fun q => hc (by simp [q])) e
     refine I.call' (s' := { s with heap := h' }) (ch := [z, TI, TO, i1, i2]) rfl ⟨fun b o e _ _ hc => hnc b o hc e, fun b o e _ _ hc => ⟨o.slots, hnc b o hc e⟩, fun b o e n _ => n, fun b o e hc => ⟨o, hnc b o hc e⟩, fun _ _ e => e, fun _ _ _ e => e, fun b ps e => ⟨#[], by rw [e]; simp⟩⟩ (fun b u e => ?_) I.bare ?_
     · have nc : ∀ b u, H b = some u → b ∉ [z, TI, TO, i1, i2] := fun b u e hb => by rw [(hf b hb).1] at e; cases e
       refine (I.hok b u e).stay (fun c v hc q => hnc c v ?_ q) (fun _ q => q) fun _ _ q => q
       rcases hc with q | q
       · rw [q]; exact nc b u e
       · exact nc c _ q
     · intro b hb
       obtain ⟨f0, f1, f2, f3, f4, f5⟩ := hf b hb
       exact ⟨f3, f1, f4, f5⟩
 self := fun _ _ _ _ _ st h => wpAny_pyIter_zip st.1 h
theorem b_zip : bootBuiltins "zip" = some (.type "zip") := by decide +kernel
def iZip (K : PySem.W.Frag) (ta : TA) : TI := fun σ H R => ta σ H fun vs H1 => ∃ a b xs ys, vs = [.ref a, .ref b] ∧ SqT K H1 a xs ∧ SqT K H1 b ys ∧ R (Itz K a b) H1
theorem pi_zip2 {X : Cx} {K : PySem.W.Frag} {es : List Expr} {n : Nat} {tpos : Pos} {a b : Expr} {ta : TA} {p pos : Pos} (hK : X.K = K) (hg : Gl X "zip") (hm : X.mg "zip" = none) (ha : PA X [a, b] ta) (hs : starEach [a, b] X.env = [(false, eval a X.env), (false, eval b X.env)] := by rfl) (hs2 : starEach [b] X.env = [(false, eval b X.env)] := by rfl) :
   PI X (.Tuple es n tpos) (.Call (.Name "zip" p) [a, b] [] pos) (iZip K ta) := by
 subst hK
 intro pins s σ H R I h
 refine Call_ (ld_blt I hg hm b_zip (PyProof.Rows.callWith_type1 (thn (ha pos pins s σ H _ I h) fun us s1 ⟨vs, H1, I1, r1, q1⟩ => ?_) (by rw [hs, hs2]) (by rw [hs2]; rfl)))
 obtain ⟨x, y, xs, ys, e, hx, hy, q⟩ := q1
 subst e
 cases r1 with
 | cons r rr =>
   cases rr with
   | cons r' rr =>
     cases rr
     cases r
     cases r'
     obtain ⟨its1, rv1, p1, _⟩ := I1.tuple hx
     obtain ⟨its2, rv2, p2, _⟩ := I1.tuple hy
     have lx : x < s1.heap.objs.size := p1.lt
     have ly : y < s1.heap.objs.size := p2.lt
     refine callZip (show s1.heap.IsTuple x its1.toArray from p1) (show s1.heap.IsTuple y its2.toArray from p2) fun h' m hm' z1 z2 z3 z4 z5 kk => ?_
     subst hm'
     refine wpAny_pyIter_zip z1 ⟨_, [s1.heap.objs.size + 4, s1.heap.objs.size + 2, s1.heap.objs.size + 3, s1.heap.objs.size, s1.heap.objs.size + 1], _, _, H1, rfl, I1.kept (t' := s1.toks) kk, turn_zip ⟨?_, ?_, ?_, ?_, ?_, ?_, ?_, ?_, ?_, ?_, ?_, ?_, ?_, ?_, ?_, ?_, ?_, ?_⟩, ⟨z1, z2, ⟨_, _, z3⟩, z4, z5⟩, fun c hc => ?last, q⟩
     case last =>
       have hc : c = s1.heap.objs.size + 4 ∨ c = s1.heap.objs.size + 2 ∨ c = s1.heap.objs.size + 3 ∨ c = s1.heap.objs.size ∨ c = s1.heap.objs.size + 1 := by simpa using hc
       have hge : s1.heap.objs.size ≤ c := by rcases hc with e | e | e | e | e <;> rw [e] <;> first | exact Nat.le_add_right _ _ | exact Nat.le_refl _
       exact I1.fpOk hge (I1.hok.fresh hge)
     all_goals (intro e; have e' : @Eq Nat _ _ := e; have lx' : @LT.lt Nat _ _ _ := lx; have ly' : @LT.lt Nat _ _ _ := ly; omega)
theorem r_zip {K : PySem.W.Frag} {ta : TA} {σ : St} {H : Hp} {R : It → Hp → Prop} (q : ta σ H fun vs H1 => ∃ a b xs ys, vs = [.ref a, .ref b] ∧ SqT K H1 a xs ∧ SqT K H1 b ys ∧ R (Itz K a b) H1) : iZip K ta σ H R := q
theorem comp_mapZ {K : PySem.W.Frag} {a b : Addr} {α : Type} {xs : List α} {e1 e2 : α → V} {g : TG} {tc : TT} {te : TE} {fin : List V → Hp → Prop} {σ0 : St} {H : Hp} (f : α → V) (Sg : St → Prop) (ha : SqT K H a (xs.map e1)) (hb : SqT K H b (xs.map e2)) (hz : xs.length ≤ sizeLine) (h0 : Sg σ0)
   (hs : ∀ (i : Nat) (x : α) (ys : List V) (σ : St) (H1 : Hp) (T : Addr), xs[i]? = some x → CInv xs f Sg H i ys σ H1 → Same H H1 → Sg σ → H1 T = none →
     g (.ref T) σ (upd H1 T (.tup [e1 x, e2 x])) fun σ3 H3 => tc σ3 H3 fun b H4 => if b = true then te σ3 H4 fun y H5 => CInv xs f Sg H (i + 1) (ys ++ [y]) σ3 H5 else CInv xs f Sg H (i + 1) ys σ3 H4)
   (hd : ∀ H1, Same H H1 → fin (xs.map f) H1) : CompW (Itz K a b) g tc te fin σ0 H := by
 refine ⟨fun i m ys σ H1 => m = xs.length - i ∧ i ≤ xs.length ∧ CInv xs f Sg H i ys σ H1, ⟨xs.length, by simp, Nat.zero_le _, Same.refl _, h0, rfl⟩, ?_⟩
 rintro i m ys σ H1 ⟨rfl, hi, c⟩
 obtain ⟨s, sg, rfl⟩ := id c
 by_cases hlt : i < xs.length
 · refine .inr ⟨⟨_, _, e1 xs[i], e2 xs[i], SqT_same s ha, SqT_same s hb, by simp [hlt], by simp [hlt]⟩, CInv xs f Sg H (i + 1), fun ys2 σ2 H2 p' => ⟨?_, xs.length - (i + 1), by omega, rfl, hlt, p'⟩, fun v H2 y => ?_⟩
   · obtain ⟨_, _, rfl⟩ := p'
     rw [List.length_map, List.length_take]; omega
   · obtain ⟨T, x, y', rfl, hT, rfl, hxy⟩ := y
     obtain ⟨q1, q2⟩ := hxy _ _ (SqT_same s ha) (SqT_same s hb)
     have e1' : e1 xs[i] = x := by simpa [hlt] using q1
     have e2' : e2 xs[i] = y' := by simpa [hlt] using q2
     rw [← e1', ← e2']
     exact hs i xs[i] _ σ H1 T (by simp [hlt]) c s sg hT
 · have e : i = xs.length := by omega
   subst e
   refine .inl ⟨⟨_, _, SqT_same s ha, SqT_same s hb, .inl (by simp)⟩, ?_, ?_⟩
   · rw [List.length_map, List.length_take]; omega
   · rw [List.take_length]; exact hd H1 s
end L3
namespace L3
open PySem PySem.Spec PyProof.Rows L2
theorem sqtK {K : PySem.W.Frag} {a : Addr} {xs : List V} {its : Array Value} {n : Nat} {od : Option Addr} {sl : Array (Option Value)} (l : K.lookup a = some ⟨.type "tuple", od, .seq its n, sl⟩) (hz : its.size ≤ sizeLine) (v : Vals xs its.toList) : ∀ H, SqT K H a xs := fun H => .inr ⟨_, its, n, l, rfl, rfl, hz, v⟩
theorem r_pop {l : Addr} {xs : List V} {y : V} {H : Hp} {Q : VK} (h : H l = some (.lst (xs ++ [y]))) (q : Q y (upd H l (.lst xs))) : rPop (.ref l) [] H Q := by
 refine ⟨l, xs ++ [y], y, rfl, rfl, h, ?_, ?_⟩
 · simp
 · simpa using q
theorem r_extend {l b : Addr} {xs zs : List V} {H : Hp} {Q : VK} (h : H l = some (.lst xs)) (hb : H b = some (.lst zs)) (hz : xs.length + zs.length ≤ sizeLine) (q : Q .non (upd H l (.lst (xs ++ zs)))) : rExtend (.ref l) [.ref b] H Q := ⟨l, b, xs, zs, rfl, rfl, h, hb, hz, q⟩
end L3
namespace L3
open PySem PySem.Spec PyProof.Rows L2 PySem.SeqAt
end L3
namespace L3
open PySem PySem.Spec PyProof.Rows L2 PySem.SeqAt
end L3
namespace L3
open PySem PySem.Spec PyProof.Rows L2 PySem.SeqAt
section
variable {P : Program} {w : World} {K : PySem.W.Frag} {mg : Str → Option Value} {base : Heap} {x qual : Str} {st : Stmt} {N ps : List Str} {sp : Sp} {C : Addr} {k : Nat}
end
section
variable {X : Cx} {pins : List (Addr × Obj)} {σ : St} {H : Hp} {s : Shared}
end
end L3
namespace L3
open PySem PySem.Spec PyProof.Rows L2 PySem.SeqAt
section
variable {X : Cx} {pins : List (Addr × Obj)} {σ : St} {H : Hp} {s : Shared} {k : Nat} {g x n : Str} {sp : Sp} {e : Expr} {es : List Expr} {t : TA} {gp cpos pos py : Pos}
end
end L3
namespace L3
open PySem PySem.Spec PyProof.Rows L2 PySem.SeqAt
section
variable {X : Cx} {pins : List (Addr × Obj)} {σ : St} {H H1 H' : Hp} {s s1 s' : Shared} {ea C : Addr}
end
end L3
namespace L3
open PySem PySem.Spec PyProof.Rows L2 PySem.SeqAt PySem.W Builtin Builtin.ObjectAttr Builtin.Getset_descriptor
section
variable {prog : Program} {w : World} {A : Around} {E : Value → Shared → Prop} {s : Shared} {K : PySem.W.Frag} {x C : Addr} {ox : Obj}
end
end L3
namespace L3
open PySem PySem.Spec PyProof.Rows L2 PySem.SeqAt PySem.W Builtin Builtin.ObjectAttr Builtin.Getset_descriptor
section
variable {prog : Program} {w : World} {A : Around} {E : Value → Shared → Prop} {s : Shared} {K : PySem.W.Frag} {x C : Addr} {ox : Obj}
end
end L3
namespace L3
open PySem PySem.Spec PyProof.Rows L2 PySem.SeqAt
section
variable {X : Cx} {k : Nat} {g : Str} {sp : Sp} {e c : Expr} {es : List Expr} {t : TA} {gp cpos pos : Pos} {b1 b2 : List Stmt} {tc : TT} {t1 t2 : TB}
end
section
variable {X : Cx} {v : Expr} {tv : TE} {x y : Str} {j1 j2 : Nat} {p0 p1 p2 p3 : Pos}
end
end L3
namespace L3
open PySem PySem.Spec PyProof.Rows
section
variable {prog : Program} {w : World} {A : Around} {E : Value → Shared → Prop} {s : Shared}
end
section
variable {prog : Program} {w : World} {A : Around} {E : Value → Shared → Prop} {s : Shared}
end
end L3
namespace L3
open PySem PySem.Spec PyProof.Rows L2
end L3
namespace L3
open PySem PySem.Spec PyProof.Rows L2 PySem.SeqAt
end L3
namespace L3
open PySem PySem.Spec PyProof.Rows L2 PySem.SeqAt
section
variable {P : Program} {w : World} {K : PySem.W.Frag} {mg : Str → Option Value} {base : Heap} {dv : Value}
end
section
variable {X : Cx} {CX : CXT} {k : Nat} {C : Addr} {dV : V} {sp : Sp} {E : XK} {x m : Str} {p pos apos : Pos} {e o : Expr} {es : List Expr} {ta : TE} {t : TA}
end
section
variable {P : Program} {w : World} {K : PySem.W.Frag} {mg : Str → Option Value} {base : Heap} {x qual : Str} {st : Stmt} {N ps : List Str} {sp : Sp} {C : Addr}
end
def tDead : TS := fun _ _ _ => False
theorem ps_dead {X : Cx} {st : Stmt} : PS X st tDead := fun _ _ _ _ _ _ h => h.elim
end L3
namespace FB
open PySem PySem.Spec PyProof.Rows L2 L3 PySem.SeqAt
def isVal (n : Int) : Prop := 0 ≤ n ∧ n ≤ 4294967295
def gI (xs : List Int) (i : Int) : Int := xs.getD i.toNat 0
def sI (xs : List Int) (i v : Int) : List Int := xs.set i.toNat v
theorem sI_len (xs : List Int) (i v : Int) : (sI xs i v).length = xs.length := by unfold sI; exact List.length_set ..
theorem gI_at {xs : List Int} {i : Int} (h0 : 0 ≤ i) (h1 : i < xs.length) : atI (xs.map V.int) i = some (.int (gI xs i)) := by
 have e : i = ((i.toNat : Nat) : Int) := by omega
 have hl : i.toNat < xs.length := by omega
 have z : atI (xs.map V.int) ((i.toNat : Nat) : Int) = some (.int (gI xs i)) := atI_nat (by
   rw [List.getElem?_map, List.getElem?_eq_getElem hl]
   simp [gI, List.getD, List.getElem?_eq_getElem hl])
 rw [← e] at z; exact z
theorem ixN_at {xs : List V} {i : Int} (h0 : 0 ≤ i) (h1 : i < xs.length) : ixN xs.length i = some i.toNat := by
 unfold ixN; rw [if_pos h0, if_pos h1]
theorem map_sI (xs : List Int) (i v : Int) : (xs.map V.int).set i.toNat (.int v) = (sI xs i v).map V.int := by
 unfold sI; rw [List.map_set]
theorem r_setI {p : Addr} {xs : List Int} {k v : Int} {H : Hp} {Q : Hp → Prop} (h : H p = some (.lst (xs.map V.int))) (h0 : 0 ≤ k) (h1 : k < xs.length) (q : Q (upd H p (.lst ((sI xs k v).map V.int)))) : rSetL (.ref p) (.int k) (.int v) H Q :=
 r_setL h (ixN_at h0 (by rw [List.length_map]; exact h1)) (by rw [map_sI]; exact q)
theorem r_lenI {K : PySem.W.Frag} {p : Addr} {xs : List Int} {H : Hp} {Q : VK} (h : SqL K H p (xs.map V.int)) (q : Q (.int xs.length) H) : rLen K [.ref p] H Q := r_lenL h (by rw [List.length_map]; exact q)
theorem r_timesZ {l : Addr} {n k : Int} {H : Hp} {Q : VK} (h : H l = some (.lst [.int n])) (h0 : 0 ≤ k) (h1 : k ≤ 4001) (q : ∀ p, H p = none → Q (.ref p) (upd H p (.lst ((List.replicate k.toNat n).map V.int)))) : rTimes (.ref l) (.int k) H Q := by
 refine .inr ⟨l, k, _, rfl, rfl, h, by omega, by omega, ?_, fun p hp => ?_⟩
 · show 1 * k.toNat ≤ sizeLine
   rw [sizeLine_eq]; omega
 · have e : (List.replicate k.toNat [V.int n]).flatten = (List.replicate k.toNat n).map V.int := by
     generalize k.toNat = j
     induction j with
     | zero => rfl
     | succ j ih => rw [List.replicate_succ, List.flatten_cons, ih, List.replicate_succ]; rfl
   rw [e]; exact q p hp
theorem r_plusII {K : PySem.W.Frag} {a b : Addr} {xs ys : List Int} {H : Hp} {Q : VK} (ha : H a = some (.lst (xs.map V.int))) (hb : H b = some (.lst (ys.map V.int))) (hz : xs.length + ys.length ≤ sizeLine) (q : ∀ p, H p = none → Q (.ref p) (upd H p (.lst ((xs ++ ys).map V.int)))) :
   rPlus K (.ref a) (.ref b) H Q := r_plusL ha hb (by rw [List.length_map, List.length_map]; exact hz) (by rw [← List.map_append]; exact q)
structure Adr where
 C_Row : Addr
 C_Set : Addr
 C_Copy : Addr
 C_Add : Addr
 C_Sub : Addr
 C_Mul : Addr
 C_Less : Addr
 C_Grow : Addr
 C_Shrink : Addr
 C_Put : Addr
 C_Get : Addr
 C_Jump : Addr
 C_Branch : Addr
 C_Call : Addr
 C_Back : Addr
 C_Drop : Addr
 C_Reckoning : Addr
 C_Reaching : Addr
 C_FrameError : Addr
 C_NoRow : Addr
 C_NoTable : Addr
 C_NoText : Addr
 C_Table : Addr
 C_Reading : Addr
 C_Machine : Addr
 C_Astray : Addr
 C_NoProgram : Addr
 C_NoLine : Addr
 C_NoName : Addr
 G_START : Addr
 G_WHICH : Addr
 G_COUNTS : Addr
 G_KEPT_BOXES : Addr
 G_SET_NAMES : Addr
 G_PARTS : Addr
 G_UNCOUNTED : Addr
def cellAt (ns : List Int) (k : Int) : Int := ns.getD k.toNat 0
def spCellAt (K : PySem.W.Frag) : Sp := fun vs H Q _ => ∃ (p : Addr) (ns : List Int) (k : Int), vs = [.ref p, .int k] ∧ SqL K H p (ns.map V.int) ∧ 0 ≤ k ∧ Q (.int (cellAt ns k)) H
theorem r_cellAt {K : PySem.W.Frag} {p : Addr} {ns : List Int} {k : Int} {H : Hp} {Q : VK} {E : XK} (h : SqL K H p (ns.map V.int)) (h0 : 0 ≤ k) (q : Q (.int (cellAt ns k)) H) : spCellAt K [.ref p, .int k] H Q E := ⟨p, ns, k, rfl, h, h0, q⟩
theorem cellAt_out {ns : List Int} {k : Int} (h0 : 0 ≤ k) (h : ¬ k < ns.length) : cellAt ns k = 0 := by
 unfold cellAt
 rw [List.getD_eq_getElem?_getD, List.getElem?_eq_none (by omega)]
 rfl
def spLaw (K : PySem.W.Frag) : Sp := fun vs H Q _ => ∃ (a : Addr) (ns : List Int), vs = [.ref a] ∧ SqL K H a (ns.map V.int) ∧ ns.length ≤ 63 ∧ ∀ H', Q (.bl true) H'
theorem look_of {fs : List (Str × V)} {f g : Str} {v w : V} (h : f ≠ g) (e : fs.lookup f = some w) : (putF g v fs).lookup f = some w := by rw [lookup_putF, if_neg h]; exact e
theorem look_hit {fs : List (Str × V)} {f : Str} {v : V} : (putF f v fs).lookup f = some v := by rw [lookup_putF, if_pos rfl]
theorem look_no {fs : List (Str × V)} {f g : Str} {v : V} (h : f ≠ g) (e : fs.lookup f = none) : (putF g v fs).lookup f = none := by rw [lookup_putF, if_neg h]; exact e
theorem len_of {fs : List (Str × V)} {f : Str} {v : V} {n : Nat} (e : fs.length ≤ n) : (putF f v fs).length ≤ n + 1 := Nat.le_trans (length_putF _ _ _) (Nat.succ_le_succ e)
end FB
namespace L3
open PySem PySem.Spec PyProof.Rows L2 PySem.SeqAt
section
variable {prog : Program} {w : World} {A : Around} {E : Value → Shared → Prop} {h : Heap} {g : Array GenState} {d : Drawn} {t : Nat} {os : OsState}
variable {nm q : Str} {C N : Addr} {bs bm bmB : List Value} {hdct : Bool} {sn : List Str} {sub : List Value} {ab : Bool} {col : Option Bool} {dd : Option Addr} {k0 k1 k2 k3 k5 : Option Value} {B Bn newId nid initId inN : String} {bmN : List Value}
end
end L3
namespace L3
open PySem PySem.Spec PyProof.Rows L2 PySem.SeqAt
end L3
namespace L3
open PySem PySem.Spec PyProof.Rows L2 PySem.SeqAt PySem.W Builtin Builtin.ObjectAttr
section
variable {prog : Program} {w : World} {A : Around} {E : Value → Shared → Prop} {s : Shared} {K : PySem.W.Frag} {x C t : Addr} {name : Str} {v : Value}
end
end L3
namespace L3
open PySem PySem.Spec PyProof.Rows L2 PySem.SeqAt
section
variable {X : Cx} {pins : List (Addr × Obj)} {σ : L2.St} {H : Hp} {s : Shared} {a C : Addr} {f : Str} {A : Around} {E : Value → Shared → Prop}
end
end L3
namespace L3
open PySem PySem.Spec PyProof.Rows L2 PySem.SeqAt
section
variable {M : Model} {A : Around} {E : Value → Shared → Prop} {s : Shared}
end
end L3
namespace L3
open PySem PySem.Spec PyProof.Rows L2 PySem.SeqAt
section
variable {M : Model} {A : Around} {E : Value → Shared → Prop} {env : Env}
variable {nm q : Str} {C N : Addr} {bs bm : List Value} {hdct : Bool} {sn : List Str} {sub : List Value} {ab : Bool} {col : Option Bool} {dd : Option Addr} {k0 k1 k2 k3 k5 : Option Value} {newId : String}
end
section
variable {prog : Program} {w : World} {A : Around} {E : Value → Shared → Prop} {s : Shared} {env : Env}
variable {nm q : Str} {C N : Addr} {bs bm bmB : List Value} {hdct : Bool} {sn : List Str} {sub : List Value} {ab : Bool} {col : Option Bool} {dd : Option Addr} {k0 k1 k2 k3 k5 : Option Value} {B Bn newId nid initId inN : String} {bmN : List Value}
end
end L3
namespace L3
open PySem PySem.Spec PyProof.Rows L2 PySem.SeqAt
section
variable {P : Program} {w : World} {K : PySem.W.Frag} {mg : Str → Option Value} {base : Heap} {x qual : Str} {st : Stmt} {N ps : List Str} {sp : Sp} {C : Addr} {k : Nat}
end
section
variable {X : Cx} {pins : List (Addr × Obj)} {σ : L2.St} {H : Hp} {s : Shared} {k : Nat} {g x n : Str} {sp : Sp} {e : Expr} {es : List Expr} {t : TA} {tx : TEX} {ta : TAX} {te : TE} {gp cpos pos py : Pos}
end
end L3
namespace L3
open PySem PySem.Spec PyProof.Rows L2 PySem.SeqAt PySem.W Builtin Builtin.ObjectAttr
section
variable {prog : Program} {w : World} {A : Around} {E : Value → Shared → Prop} {s : Shared} {K : PySem.W.Frag} {x C dx : Addr} {ox od : Obj} {name : Str} {v : Value}
end
section
variable {X : Cx} {pins : List (Addr × Obj)} {σ : L2.St} {C fI : Addr}
end
end L3
namespace L3
open PySem PySem.Spec PyProof.Rows L2 PySem.SeqAt
end L3
namespace L3
open PySem PySem.Spec PyProof.Rows L2 PySem.SeqAt
end L3
namespace L3
open PySem PySem.Spec PyProof.Rows L2 PySem.SeqAt
section
variable {prog : Program} {w : World} {A : Around} {E : Value → Shared → Prop} {s : Shared}
end
end L3
namespace L3
open PySem PySem.Spec PyProof.Rows L2 PySem.SeqAt
section
variable {M : Model} {A : Around} {E : Value → Shared → Prop}
variable {nm q : Str} {D N : Addr} {bs bm : List Value} {hdct : Bool} {sn : List Str} {sub : List Value} {ab : Bool} {col : Option Bool} {dd : Option Addr} {k0 k1 k2 k3 k5 : Option Value} {newId : String}
end
section
variable {X : Cx} {pins : List (Addr × Obj)} {σ : St} {H H1 H' : Hp} {s s1 s' : Shared} {ea C : Addr}
end
end L3
namespace L3
open PySem PySem.Spec PyProof.Rows L2
section
variable {prog : Program} {w : World} {A : Around} {E : Value → Shared → Prop} {s : Shared}
end
end L3
namespace L3
open PySem PySem.Spec PyProof.Rows L2
theorem r_chain {r r' : R2} {ta tb tc : TE} {σ : L2.St} {H : Hp} {Q : VK} (h : ta σ H fun x H1 => tb σ H1 fun y H2 => r x y H2 fun z H3 => ∃ k, z = .bl k ∧ (if k then tc σ H3 fun u H4 => r' y u H4 Q else Q (.bl false) H3)) : tChain r r' ta tb tc σ H Q := h
theorem r_tupLst {K : PySem.W.Frag} {p : Addr} {xs : List V} {H : Hp} {Q : VK} (h : SqL K H p xs) (q : ∀ l, H l = none → Q (.ref l) (upd H l (.tup xs))) : rTup K [.ref p] H Q := ⟨p, xs, rfl, .inl ⟨h, q⟩⟩
end L3
namespace L3
open PySem PySem.Spec PyProof.Rows L2 PySem.SeqAt
section
variable {X : Cx} {k : Nat} {x m : Str} {e o : Expr} {es : List Expr} {ta : TE} {t : TA} {apos cpos pos py : Pos}
end
end L3
namespace L3
open PySem PySem.Spec PyProof.Rows L2 PySem.SeqAt
section
variable {X : Cx} {pins : List (Addr × Obj)} {σ : L2.St} {C fI : Addr}
end
end L3
namespace L3
open PySem PySem.Spec PyProof.Rows L2 PySem.SeqAt
section
variable {prog : Program} {w : World} {A : Around} {E : Value → Shared → Prop} {s : Shared}
end
section
variable {M : Model} {A : Around} {E : Value → Shared → Prop} {s : Shared}
end
end L3
namespace L3
open PySem PySem.Spec PyProof.Rows L2 PySem.SeqAt
section
variable {X : Cx} {pins : List (Addr × Obj)} {σ : L2.St} {H : Hp} {s : Shared}
end
end L3
namespace L3
open PySem PySem.Spec PyProof.Rows L2 PySem.SeqAt
end L3
namespace L3
open PySem PySem.Spec PyProof.Rows L2 PySem.SeqAt
end L3
namespace L3
open PySem PySem.Spec PyProof.Rows L2 PySem.SeqAt
end L3
namespace L3
open PySem PySem.Spec PyProof.Rows L2 PySem.SeqAt
end L3
namespace L3
open PySem PySem.Spec PyProof.Rows L2 PySem.SeqAt
end L3
namespace L3
open PySem PySem.Spec PyProof.Rows L2 PySem.SeqAt
def conRE (w : World) (l : List (Str × Tok × Value)) : List DictEntry := l.map fun p => { hash := PyData.keyHash w.params p.1, key := .str p.1 p.2.1, val := p.2.2 }
def conRV (kvs : List (Str × V)) : List (Key × V) := kvs.map fun p => ((Sum.inr p.1 : Key), p.2)
inductive ConL : List (Str × V) → List (Str × Tok × Value) → Prop
 | nil : ConL [] []
 | cons {t : Str} {v : V} {u : Value} {tk : Tok} {kvs : List (Str × V)} {l : List (Str × Tok × Value)} (r : RelV v u) (h : ConL kvs l) : ConL ((t, v) :: kvs) ((t, tk, u) :: l)
structure ConR (w : World) (K : PySem.W.Frag) (a : Addr) (kvs : List (Str × V)) : Prop where
 sys : (a == sysModules) = false
 nd : ((conRV kvs).map (·.1)).Nodup
 ex : ∃ (l : List (Str × Tok × Value)) (ep : Nat), ConL kvs l ∧ K.lookup a = some { cls := .type "dict", dict := none, data := .dict (conRE w l).toArray ep, slots := #[] }
theorem conR_kv {kvs : List (Str × V)} {l : List (Str × Tok × Value)} (h : ConL kvs l) : KV (conRV kvs) (l.map fun p => ((Sum.inr p.1 : Key), p.2.2)) := by
 induction h with
 | nil => exact .nil
 | cons r _ ih => exact .cons ⟨rfl, r⟩ ih
theorem conR_pairs {P : Program} {w : World} : ∀ l : List (Str × Tok × Value), Pairs (mixKind P w) (conRE w l) (l.map fun p => ((Sum.inr p.1 : Key), p.2.2))
 | [] => .nil
 | p :: l => .cons (kV_is (k := .inr p.1) ⟨_, rfl⟩) rfl (conR_pairs l)
theorem ConR.dict {P : Program} {w : World} {K : PySem.W.Frag} {a : Addr} {kvs : List (Str × V)} {h : Heap} (c : ConR w K a kvs) (x : K.In h) : ∃ vs, KV (conRV kvs) vs ∧ h.DictOf (mixKind P w) a vs := by
 obtain ⟨l, ep, hl, lk⟩ := c.ex
 refine ⟨_, conR_kv hl, _, (conRE w l).toArray, ep, x _ _ lk, ⟨rfl, rfl, rfl⟩, rfl, fun e he => ?_, by rw [List.toList_toArray]; exact conR_pairs l, ?_⟩
 · have he : e ∈ conRE w l := by simpa using he
   obtain ⟨p, _, rfl⟩ := List.mem_map.mp he
   exact ⟨.inr p.1, kV_is (k := .inr p.1) ⟨_, rfl⟩, rfl⟩
 · rw [← (conR_kv hl).keys]; exact c.nd
def tRGet (w : World) (K : PySem.W.Frag) (td ty : TE) : TE := fun σ H Q => td σ H fun x H1 => ∃ a kvs, x = .ref a ∧ ConR w K a kvs ∧ ty σ H1 fun y H2 => ∃ t v, y = .str t ∧ valV (conRV kvs) (.inr t) = some v ∧ Q v H2
theorem pe_rget {X : Cx} {w : World} {K : PySem.W.Frag} {o i : Expr} {td ty : TE} {pos : Pos} (hw : X.w = w) (hK : X.K = K) (ho : PE X o td) (hi : PE X i ty) (hs : NoSl i) : PE X (.Subscript o i pos) (tRGet w K td ty) := by
 subst hw hK
 intro pins s σ H Q I h
 refine subD_of PySem.F.slot_dict_getitem.lookup hs (thn (ho pins s σ H _ I h) fun u s1 ⟨x, H1, I1, rx, a, kvs, ex, c, q1⟩ => thn (hi pins s1 σ H1 _ I1 q1) fun iv s2 ⟨y, H2, I2, ry, t, v, ey, e, q2⟩ => ?_)
 subst ex ey
 obtain rfl : u = Value.ref a := rx
 obtain ⟨vs, rel, dd⟩ := c.dict (P := X.prog) I2.kIn
 obtain ⟨w', hw, rw'⟩ := RelO.some_of (v := v) (o := valueAt vs (.inr t)) (by rw [← e]; exact rel.val (.inr t))
 exact ⟨dd.typeIs, wpAny_getItem_of (kV_is (k := .inr t) ry) dd.mapOf hw ⟨v, H2, I2.tok _, rw', q2⟩⟩
theorem pe_rget1 {X : Cx} {w : World} {K : PySem.W.Frag} {o e : Expr} {td ty : TE} {apos cpos : Pos} (hw : X.w = w) (hK : X.K = K) (ho : PE X o td) (he : PE X e ty) (m : M1 X o "get" apos e cpos) : PE X (.Call (.Attribute o "get" apos) [e] [] cpos) (tRGet w K td ty) := by
 subst hw hK
 intro pins s σ H Q I h
 refine wpAny_Call_method m.base m.few m.line PySem.F.plainAttrs_dict PySem.F.slot_dict_get PySem.F.type_dict_get (thn (ho pins s σ H _ I h) fun u s1 ⟨x, H1, I1, rx, a, kvs, ex, c, q1⟩ => ?_)
 subst ex
 obtain rfl : u = Value.ref a := rx
 obtain ⟨vs0, _, dd0⟩ := c.dict (P := X.prog) I1.kIn
 refine ⟨dd0.typeIs, fun b q => ?_, ?_⟩
 · cases q
   obtain ⟨ob, _, _, h1, h2, _⟩ := dd0
   exact ⟨ob, h1, h2.2.1⟩
 rw [m.trees]
 refine Calls.callWith_builtin rfl (Calls.evalArgs_plain (Calls.spliced_cons (thn (he pins s1 σ H1 _ I1 q1) fun iv s2 ⟨y, H2, I2, ry, t, v, ey, ev, q2⟩ => Calls.spliced_nil ?_)))
 subst ey
 obtain ⟨vs, rel, dd⟩ := c.dict (P := X.prog) I2.kIn
 refine call_meetsIn PySem.F.slot_dict_get dd.typeIs PySem.F.entry_dict_get (PySem.F.args_dict_get_2 _ _) (meets_dict_get (mixKind X.prog X.w) a (kV_is (k := .inr t) ry) c.sys) ⟨_, dd.mapOf, ⟨v, H2, I2.tok _, ?_, q2⟩⟩
 have := (rel.val (.inr t)).getD (d := .non) (d' := .none) rfl
 rw [ev] at this
 exact this
theorem r_rGet {w : World} {K : PySem.W.Frag} {td ty : TE} {σ : L2.St} {H : Hp} {Q : VK} (q : td σ H fun x H1 => ∃ a kvs, x = .ref a ∧ ConR w K a kvs ∧ ty σ H1 fun y H2 => ∃ t v, y = .str t ∧ valV (conRV kvs) (.inr t) = some v ∧ Q v H2) : tRGet w K td ty σ H Q := q
theorem comp_filZ {K : PySem.W.Frag} {a b : Addr} {α : Type} {xs : List α} {e1 e2 : α → V} {g : TG} {tc : TT} {te : TE} {fin : List V → Hp → Prop} {σ0 : L2.St} {H : Hp} (f : α → V) (pr : α → Bool) (Sg : L2.St → Prop) (ha : SqT K H a (xs.map e1)) (hb : SqT K H b (xs.map e2)) (hz : xs.length ≤ sizeLine) (h0 : Sg σ0)
   (hs : ∀ (i : Nat) (x : α) (ys : List V) (σ : L2.St) (H1 : Hp) (T : Addr), xs[i]? = some x → FInv xs f pr Sg H i ys σ H1 → Same H H1 → Sg σ → H1 T = none →
     g (.ref T) σ (upd H1 T (.tup [e1 x, e2 x])) fun σ3 H3 => tc σ3 H3 fun b H4 => if b = true then te σ3 H4 fun y H5 => FInv xs f pr Sg H (i + 1) (ys ++ [y]) σ3 H5 else FInv xs f pr Sg H (i + 1) ys σ3 H4)
   (hd : ∀ H1, Same H H1 → fin ((xs.filter pr).map f) H1) : CompW (Itz K a b) g tc te fin σ0 H := by
 have hlen : ∀ i, (((xs.take i).filter pr).map f).length ≤ sizeLine := fun i => by
   have h1 := List.length_filter_le pr (xs.take i)
   have h2 : (xs.take i).length ≤ xs.length := by rw [List.length_take]; omega
   rw [List.length_map]; omega
 refine ⟨fun i m ys σ H1 => m = xs.length - i ∧ i ≤ xs.length ∧ FInv xs f pr Sg H i ys σ H1, ⟨xs.length, by simp, Nat.zero_le _, Same.refl _, h0, rfl⟩, ?_⟩
 rintro i m ys σ H1 ⟨rfl, hi, c⟩
 obtain ⟨s, sg, rfl⟩ := id c
 by_cases hlt : i < xs.length
 · refine .inr ⟨⟨_, _, e1 xs[i], e2 xs[i], SqT_same s ha, SqT_same s hb, by simp [hlt], by simp [hlt]⟩, FInv xs f pr Sg H (i + 1), fun ys2 σ2 H2 p' => ⟨?_, xs.length - (i + 1), by omega, rfl, hlt, p'⟩, fun v H2 y => ?_⟩
   · obtain ⟨_, _, rfl⟩ := p'
     exact hlen _
   · obtain ⟨T, x, y', rfl, hT, rfl, hxy⟩ := y
     obtain ⟨q1, q2⟩ := hxy _ _ (SqT_same s ha) (SqT_same s hb)
     have e1' : e1 xs[i] = x := by simpa [hlt] using q1
     have e2' : e2 xs[i] = y' := by simpa [hlt] using q2
     rw [← e1', ← e2']
     exact hs i xs[i] _ σ H1 T (by simp [hlt]) c s sg hT
 · have e : i = xs.length := by omega
   subst e
   refine .inl ⟨⟨_, _, SqT_same s ha, SqT_same s hb, .inl (by simp)⟩, hlen _, ?_⟩
   rw [List.take_length]; exact hd H1 s
section
variable {X : Cx} {C : Addr}
end
end L3
namespace L3
open PySem PySem.Spec PyProof.Rows L2 PySem.SeqAt
def rIsi2 (K : PySem.W.Frag) : List V → Hp → VK → Prop := fun xs H Q => ∃ x t, xs = [.ref x, .ref t] ∧ SqT K H t [.ty "list", .ty "tuple"] ∧ ((∃ us, H x = some (.lst us)) ∨ (∃ us, H x = some (.tup us))) ∧
 PySem.W.kitOne K (.type "list") (.type "list") = some true ∧ PySem.W.kitOne K (.type "tuple") (.type "list") = some false ∧ PySem.W.kitOne K (.type "tuple") (.type "tuple") = some true ∧ Q (.bl true) H
theorem call_isi2 {X : Cx} {K : PySem.W.Frag} (hK : X.K = K) : CallR X (.builtin "isinstance") (rIsi2 K) := by
 subst hK
 intro pins s σ H xs us Q I r h
 obtain ⟨x, t, rfl, hq, hx, k1, k2, k3, q⟩ := h
 obtain ⟨u, w', rfl, rx, rt⟩ := vals2 r
 cases rx
 cases rt
 obtain ⟨its, vs, p1, _⟩ := I.tuple hq
 obtain ⟨o, h1, h2, h3⟩ := p1
 obtain ⟨u1, u2, rfl, r1, r2⟩ := vals2 vs
 cases r1
 cases r2
 obtain ⟨oc, od, odt, osl⟩ := o
 obtain ⟨n, h3⟩ := h3
 have h2 : oc = .type "tuple" := h2
 have h3 : odt = .seq #[.type "list", .type "tuple"] n := h3
 subst h2 h3
 have tk : ∀ tk, EP X pins σ Q (.bool true) { s with toks := tk } := fun tk => ⟨.bl true, H, I.tok _, rfl, q⟩
 rcases hx with ⟨us, hx⟩ | ⟨us, hx⟩
 · obtain ⟨_, its, m, _, e⟩ := I.hok x _ hx
   exact PySem.W.kia_tup PySem.W.kitx_list I.kIn ⟨_, e, rfl⟩ (its := [.type "list", .type "tuple"]) h1 (by unfold PySem.W.kitAny; rw [k1]) (fun z => nomatch z) tk
 · obtain ⟨_, its, _, o', e, e2, _⟩ := I.hok x _ hx
   exact PySem.W.kia_tup PySem.W.kitx_tuple I.kIn ⟨_, e, e2⟩ (its := [.type "list", .type "tuple"]) h1 (by unfold PySem.W.kitAny; rw [k2]; unfold PySem.W.kitAny; rw [k3]) (fun z => nomatch z) tk
theorem r_isi2 {K : PySem.W.Frag} {x t : Addr} {H : Hp} {Q : VK} (h : SqT K H t [.ty "list", .ty "tuple"]) (hx : (∃ us, H x = some (.lst us)) ∨ (∃ us, H x = some (.tup us))) (k1 : PySem.W.kitOne K (.type "list") (.type "list") = some true) (k2 : PySem.W.kitOne K (.type "tuple") (.type "list") = some false) (k3 : PySem.W.kitOne K (.type "tuple") (.type "tuple") = some true) (q : Q (.bl true) H) : rIsi2 K [.ref x, .ref t] H Q := ⟨x, t, rfl, h, hx, k1, k2, k3, q⟩
end L3
namespace L3
open PySem PySem.Spec PyProof.Rows L2 PySem.SeqAt
end L3
namespace L3
open PySem PySem.Spec PyProof.Rows L2 PySem.SeqAt
def rRepr (K : PySem.W.Frag) : List V → Hp → VK → Prop := fun xs H Q => ∃ a d, xs = [.ref a] ∧ Dp K H d (.ref a) ∧ d.showable = true ∧ d.hasDict = false ∧ d.depth ≤ 40 ∧ d.shown.length ≤ sizeLine ∧ Q (.str d.shown) H
theorem call_reprK {X : Cx} {K : PySem.W.Frag} (hK : X.K = K) (hg : X.A.guards = some []) (hu : X.A.units + 64 < cLine) : CallR X (.builtin "repr") (rRepr K) := by
 subst hK
 intro pins s σ H xs us Q I r h
 obtain ⟨a, d, rfl, hd, hs, hn, h40, hz, q⟩ := h
 obtain ⟨u, rfl, rx⟩ := vals1 r
 obtain ⟨as, hr⟩ := dp_reads I d _ _ hd rx
 cases rx
 exact repr_of_reads' hr hs (PyData.noDict_hsm hn) hg (by omega) (fun _ _ e => e) (fun h' u tk hk => ⟨.str d.shown, H, I.kept hk, ⟨_, rfl⟩, q⟩) hz
theorem b_repr : bootBuiltins "repr" = some (.builtin "repr") := by decide +kernel
theorem r_repr {K : PySem.W.Frag} {a : Addr} {d : PyData} {H : Hp} {Q : VK} (h : Dp K H d (.ref a)) (h1 : d.showable = true) (h2 : d.hasDict = false) (h3 : d.depth ≤ 40) (h4 : d.shown.length ≤ sizeLine) (q : Q (.str d.shown) H) : rRepr K [.ref a] H Q := ⟨a, d, rfl, h, h1, h2, h3, h4, q⟩
end L3
namespace FB
open PySem PySem.Spec PyProof.Rows L2 L3 PySem.SeqAt
local macro_rules | `(tactic| walk_at "clok") => `(tactic| repeat (first | exact True.intro | refine ⟨rfl, ?_⟩))
local macro_rules | `(tactic| walk_at "frok") => `(tactic| repeat (first | exact True.intro | refine ⟨⟨rfl, (by first | exact Or.inl rfl | exact Or.inr rfl), (by first | exact Or.inl rfl | exact Or.inr rfl), rfl⟩, ?_⟩))
local macro_rules | `(tactic| walk_at "hlk") => `(tactic| first | (with_reducible assumption) | (exact upd_same) | ((with_reducible refine' look_new ?x ?y); (case y => with_reducible assumption); (case x => walk_at "hlk")) | ((fail_if_success (((with_reducible refine' look_new ?x ?y); (case y => with_reducible assumption)))); (with_reducible refine' look_ne ?x ?y); (case x => walk_at "ne"); (case y => walk_at "hlk")) | ((with_reducible refine' same_at ?x ?y); (case x => with_reducible assumption); (case y => walk_at "hlk")))
local macro_rules | `(tactic| walk_at "ne") => `(tactic| first | (with_reducible assumption) | (apply Ne.symm; (with_reducible assumption)) | ((with_reducible refine' ne_of_none ?x ?y); (case y => with_reducible assumption); (case x => walk_at "hlk")) | (apply Ne.symm; (with_reducible refine' ne_of_none ?x ?y); (case y => with_reducible assumption); (case x => walk_at "hlk")))
local macro_rules | `(tactic| walk_at "sql") => `(tactic| first | (with_reducible assumption) | (refine' SqL.of ?x; (case x => first | (with_reducible assumption) | (exact upd_same))) | ((with_reducible refine' sql_new ?x ?y); (case y => with_reducible assumption); (case x => walk_at "sql")) | ((fail_if_success (((with_reducible refine' sql_new ?x ?y); (case y => with_reducible assumption)))); first | ((with_reducible refine' sql_upd ?s ?h ?q); (case h => with_reducible assumption); (case s => walk_at "same"); (case q => walk_at "sql")) | (refine' SqL.of ?x; (case x => (with_reducible refine' look_ne ?x2 ?y2); (case x2 => walk_at "ne"); (case y2 => walk_at "hlk")))) | ((with_reducible refine' Same.seq ?x ?y); (case x => with_reducible assumption); (case y => walk_at "sql")))
local macro_rules | `(tactic| walk_at "sqt") => `(tactic| first | (with_reducible assumption) | (refine' SqT.of ?x; (case x => first | (with_reducible assumption) | (exact upd_same))) | ((with_reducible refine' sqt_new ?x ?y); (case y => with_reducible assumption); (case x => walk_at "sqt")) | ((fail_if_success (((with_reducible refine' sqt_new ?x ?y); (case y => with_reducible assumption)))); first | ((with_reducible refine' sqt_upd ?s ?h ?q); (case h => with_reducible assumption); (case s => walk_at "same"); (case q => walk_at "sqt")) | (refine' SqT.of ?x; (case x => (with_reducible refine' look_ne ?x2 ?y2); (case x2 => walk_at "ne"); (case y2 => walk_at "hlk")))) | ((with_reducible refine' SqT_same ?x ?y); (case x => with_reducible assumption); (case y => walk_at "sqt")))
local macro_rules | `(tactic| walk_at "lk") => `(tactic| first | (with_reducible exact look_hit) | (refine' look_of ?x ?y; (case x => decide +kernel); (case y => walk_at "lk")) | exact look_hit)
local macro_rules | `(tactic| walk_at "nolk") => `(tactic| first | (with_reducible rfl) | (refine' look_no ?x ?y; (case x => decide +kernel); (case y => walk_at "nolk")) | rfl)
local macro_rules | `(tactic| walk_at "fewf") => `(tactic| first | exact Nat.lt_of_le_of_lt (Nat.le_refl 0) (by decide) | exact Nat.lt_of_le_of_lt (len_of (Nat.le_refl 0)) (by decide) | exact Nat.lt_of_le_of_lt (len_of (len_of (Nat.le_refl 0))) (by decide) | exact Nat.lt_of_le_of_lt (len_of (len_of (len_of (Nat.le_refl 0)))) (by decide))
local macro_rules | `(tactic| walk_at "small") => `(tactic| first | exact Nat.le_of_ble_eq_true rfl | (show _ ≤ sizeLine; rw [sizeLine_eq]; first | omega | (simp only [List.length_map, List.length_cons, List.length_nil, List.length_append, List.length_replicate, List.length_set, List.length_range]; omega)))
local macro_rules | `(tactic| walk_at "r1") => `(tactic| with_reducible first
 | refine r_var (by with_unfolding_all rfl) ?_
 | refine r_c ?_ | refine r_op ?_ | refine r_I0 ?_ | refine r_plusI ?_ | refine r_seq ?_ | refine r_asg ?_ | (refine' r_gN ?x ?_; (case x => simp only [List.set_cons_succ, List.set_cons_zero]; rfl)) | refine r_ret ?_ | refine r_ifS ?_ | refine r_test ?_
 | refine r_cons ?_ | refine r_nil ?_ | refine r_cb ?_ | refine r_callE ?_ | refine r_makeE ?_ | refine r_methE ?_ | refine r_fld ?_ | refine r_tru ?_ | refine r_truB ?_ | refine r_truI ?_
 | refine r_not ?_ | refine r_and ?_ | refine r_or ?_ | refine r_next ?_ | refine r_drop ?_ | refine r_sFld ?_ | refine r_retN ?_ | refine r_un ?_ | refine r_U ?_ | refine r_if ?_
 | refine r_andV ?_ | refine r_orV ?_ | refine r_notV ?_ | refine r_sl ?_ | refine r_part ?_ | refine r_noPart ?_ | refine r_bm ?_ | refine r_bm0 ?_ | refine r_tup ?_ | refine r_lst ?_ | refine r_two ?_
 | (refine' r_compE' ?x ?_; (case x => with_unfolding_all rfl)) | (refine' r_compS' ?x ?_; (case x => with_unfolding_all rfl)) | refine r_for ?_ | refine r_iSeq ?_ | refine r_rng1 ?_ | refine r_rng2 ?_ | refine r_true ?_
 | refine r_isNr ?_ | refine r_isNn ?_ | refine r_isNi ?_ | refine r_notNr ?_ | refine r_notNn ?_ | refine r_notNi ?_
 | refine iteT ?_ | refine iteF ?_ | refine iteNT ?_ | refine iteNF ?_
 | refine ⟨_, rfl, ?_⟩)
local macro_rules | `(tactic| walk_at "r2") => `(tactic| first
 | ((with_reducible refine' r_fldV ?h ?c ?n ?l ?_); (case h => walk_at "hlk"); (case c => walk_at "cls"); (case n => walk_at "noat"); (case l => walk_at "lk"))
 | ((with_reducible refine' r_sFldV ?h ?c ?n ?l ?_); (case h => walk_at "hlk"); (case c => walk_at "cls"); (case n => walk_at "noat"); (case l => walk_at "fewf"))
 | ((with_reducible refine' r_lenI ?h ?_); (case h => walk_at "sql"))
 | ((with_reducible refine' r_lenL ?h ?_); (case h => walk_at "sql"))
 | ((with_reducible refine' r_lenT ?h ?_); (case h => walk_at "sqt"))
 | ((with_reducible refine' r_listL ?h ?_); (case h => walk_at "sql"))
 | ((with_reducible refine' r_listT ?h ?_); (case h => walk_at "sqt"))
 | ((with_reducible refine' r_eqS ?h ?_); (case h => rfl))
 | ((with_reducible refine' r_neS ?h ?_); (case h => rfl)))
local macro_rules | `(tactic| walk_at "none") => `(tactic| first | (with_reducible assumption) | ((with_reducible refine' none_same ?x ?y); (case y => with_reducible assumption); (case x => walk_at "same")))
local macro_rules | `(tactic| walk_at "same") => `(tactic| first | (with_reducible assumption) | (with_reducible exact Same.refl _) | ((with_reducible refine' same_none ?x ?y); (case y => with_reducible assumption); (case x => walk_at "same")) | ((fail_if_success (((with_reducible refine' same_none ?x ?y); (case y => with_reducible assumption)))); (with_reducible refine' same_upd ?x ?y); (case y => walk_at "none"); (case x => walk_at "same")) | ((with_reducible refine' Same.trans ?x ?y); (case y => with_reducible assumption); (case x => walk_at "same")))
local macro_rules | `(tactic| walk_at "tt") => `(tactic| first | assumption | omega | with_unfolding_all rfl | decide | (simp only [List.length_map, List.length_cons, List.length_nil, List.length_append, List.length_replicate, List.length_set, sI_len]; omega))
local macro_rules | `(tactic| walk_at "nn") => `(tactic| first | assumption | omega | decide | (simp only [List.length_map, List.length_cons, List.length_nil, List.length_append, List.length_replicate, List.length_set, sI_len]; omega))
local macro_rules | `(tactic| walk_at "cond") => `(tactic| first
 | ((with_reducible refine' r_I ?h ?_); (case h => first | exact ⟨by decide, by decide⟩ | (show (0 : Int) < _; first | decide | omega) | (show (0 : Int) ≤ _; first | decide | omega)))
 | ((with_reducible refine' r_ifB ?x ?_); (case x => intro hh; exact absurd hh (by decide)); intro _)
 | ((with_reducible refine' r_ifB ?_ ?x); (case x => intro hh; exact absurd hh (by decide)); intro _)
 | ((with_reducible refine' ifInt ?x ?_); (case x => intro hh; exact absurd hh (by walk_at "nn")); intro _)
 | ((with_reducible refine' ifInt ?_ ?x); (case x => intro hh; exact absurd (by walk_at "tt") hh); intro _)
 | ((with_reducible refine' ifIntN ?x ?_); (case x => intro hh; exact absurd (by walk_at "tt") hh); intro _)
 | ((with_reducible refine' ifIntN ?_ ?x); (case x => intro hh; exact absurd hh (by walk_at "nn")); intro _)
 | ((with_reducible refine' ifDec ?x ?_); (case x => intro hh; exact absurd hh (by walk_at "nn")); intro _)
 | ((with_reducible refine' ifDec ?_ ?x); (case x => intro hh; exact absurd (by walk_at "tt") hh); intro _)
 | ((with_reducible refine' ifDecN ?x ?_); (case x => intro hh; exact absurd (by walk_at "tt") hh); intro _)
 | ((with_reducible refine' ifDecN ?_ ?x); (case x => intro hh; exact absurd hh (by walk_at "nn")); intro _))
local macro_rules | `(tactic| walk_at "at") => `(tactic| first | assumption | ((with_reducible refine' gI_at ?x ?y); (case x => walk_at "tt"); (case y => walk_at "tt")) | ((with_reducible refine' gI_neg ?x ?y); (case x => walk_at "tt"); (case y => walk_at "tt")) | rfl)
local macro_rules | `(tactic| walk_at "calls") => `(tactic| first
 | ((with_reducible refine' r_bounded ?a ?b ?_); (case a => omega); (case b => omega))
 | ((with_reducible refine' r_withBox ?h ?a ?b ?_); (case h => walk_at "sql"); (case a => omega); (case b => omega))
 | ((with_reducible refine' r_cellAt ?h ?a ?_); (case h => walk_at "sql"); (case a => omega))
 | (with_reducible refine r_whole ?_) | (with_reducible refine r_without ?_) | (with_reducible refine r_filled ?_)
 | ((with_reducible refine' r_boxPl ?a ?b ?_); (case a => omega); (case b => omega))
 | ((with_reducible refine' r_cellPl ?a ?b ?c ?_); (case a => omega); (case b => omega); (case c => omega))
 | ((with_reducible refine' r_setI ?x ?y ?z ?_); (case x => walk_at "hlk"); (case y => walk_at "tt"); (case z => walk_at "tt"))
 | ((with_reducible refine' r_setIN ?x ?y ?z ?_); (case x => walk_at "hlk"); (case y => walk_at "tt"); (case z => walk_at "tt"))
 | ((with_reducible refine' r_ixT ?h ?e ?_); (case h => walk_at "sqt"); (case e => walk_at "at"))
 | ((with_reducible refine' r_ixL ?h ?e ?_); (case h => walk_at "sql"); (case e => walk_at "at"))
 | (with_reducible refine r_gSub ?_))
local macro_rules | `(tactic| walk_at "ty") => `(tactic| first | (with_reducible exact TyOf.int _) | (with_reducible exact TyOf.bl _) | (with_reducible exact TyOf.str _) | (with_reducible exact TyOf.non) | (refine' TyOf.lst ?x; (case x => walk_at "hlk")) | (refine' TyOf.tup ?x; (case x => walk_at "hlk")))
local macro_rules | `(tactic| walk_at "dp") => `(tactic| first | (with_reducible exact dp_int _) | (with_reducible exact dp_str _) | (with_reducible exact dp_bool _) | (with_reducible exact dp_none) | ((with_reducible refine' dp_ints ?x); (case x => walk_at "sql")) | ((with_reducible refine' dp_lst ?x ?y); (case x => walk_at "sql"); (case y => walk_at "dps")) | ((with_reducible refine' dp_tup ?x ?y); (case x => walk_at "sqt"); (case y => walk_at "dps")))
local macro_rules | `(tactic| walk_at "dps") => `(tactic| first | (with_reducible exact dpAll_nil) | ((with_reducible refine' dpAll_cons ?x ?y); (case x => walk_at "dp"); (case y => walk_at "dps")))
local macro_rules | `(tactic| walk_at "shaped") => `(tactic| first | exact shaped_ints _ | (unfold shaped; simp [PyData.canLay0, PyData.canLayAll0, canLay_ints, PyData.depth, PyData.depthAll, depth_ints]))
local macro_rules | `(tactic| walk_at "eqd") => `(tactic| first
 | ((with_reducible refine' r_eqT ?d ?x ?y ?s ?_); (case x => walk_at "dp"); (case y => walk_at "dp"); (case s => walk_at "shaped"))
 | ((with_reducible refine' r_neT ?d ?x ?y ?s ?_); (case x => walk_at "dp"); (case y => walk_at "dp"); (case s => walk_at "shaped")))
local macro_rules | `(tactic| walk_at "r3") => `(tactic| first
 | (with_reducible refine r_alloc (fun _ _ => ?_))
 | ((with_reducible refine' r_small ?x ?_); (case x => walk_at "small"))
 | ((with_reducible refine' r_62 ?x ?y ?_); (case x => walk_at "tt"); (case y => walk_at "tt"))
 | ((with_reducible refine' r_62b ?x ?y ?z ?u ?_); (case x => walk_at "tt"); (case y => walk_at "tt"); (case z => walk_at "tt"); (case u => walk_at "tt"))
 | ((with_reducible refine' r_itL ?x ?_); (case x => walk_at "sql"))
 | ((with_reducible refine' r_itT ?x ?_); (case x => walk_at "sqt"))
 | ((with_reducible refine' r_slI ?x ?_); (case x => walk_at "sql"))
 | ((with_reducible refine' r_slL ?x ?_); (case x => walk_at "sql"))
 | ((with_reducible refine' r_timesZ ?x ?y ?z ?_); (case x => walk_at "hlk"); (case y => walk_at "tt"); (case z => walk_at "tt"))
 | ((with_reducible refine' r_plusII ?x ?y ?z ?_); (case x => walk_at "hlk"); (case y => walk_at "hlk"); (case z => walk_at "small"))
 | ((with_reducible refine' r_tyL ?x ?_); (case x => walk_at "hlk"))
 | ((with_reducible refine' r_timesI ?h ?_); (case h => walk_at "cmul"))
 | ((with_reducible refine' r_sum ?h ?_); (case h => walk_at "sql"))
 | ((with_reducible refine' r_inT ?h ?x ?y ?_); (case h => walk_at "sqt"); (case x => rfl); (case y => rfl))
 | ((with_reducible refine' r_clear ?x ?_); (case x => walk_at "hlk"))
 | ((with_reducible refine' r_append ?x ?y ?_); (case x => walk_at "hlk"); (case y => walk_at "small"))
 | ((with_reducible refine' r_isi ?c ?t ?e ?_); (case c => exact fun z => nomatch z); (case t => walk_at "ty"); (case e => walk_at "kit")))
local macro_rules | `(tactic| walk_at "rd") => `(tactic| repeat (first | walk_at "r1" | walk_at "r3" | walk_at "r2" | walk_at "cond" | walk_at "calls" | walk_at "mine"))
local macro_rules | `(tactic| walk_at "rds") => `(tactic| repeat' (first | walk_at "r1" | walk_at "r3" | walk_at "r2" | walk_at "cond" | walk_at "calls" | walk_at "mine" | walk_at "cs"))
local macro_rules | `(tactic| walk_at "sp") => `(tactic| (repeat' split) <;> first | assumption | rfl | (exfalso; omega))
local macro_rules | `(tactic| walk_at "rok") => `(tactic| first | assumption | exact ⟨by omega, by omega⟩)
local macro_rules | `(tactic| walk_at "cmul") => `(tactic| first | exact Or.inl ⟨by decide, by decide⟩ | exact Or.inr ⟨by decide, by decide⟩ | exact Or.inl ⟨by omega, by omega⟩ | exact Or.inr ⟨by omega, by omega⟩)
set_option hygiene false
local macro_rules | `(tactic| walk_at "cs") => `(tactic| with_reducible first | refine ifInt (fun hh => ?_) (fun hh => ?_) | refine ifIntN (fun hh => ?_) (fun hh => ?_) | refine ifDec (fun hh => ?_) (fun hh => ?_) | refine ifDecN (fun hh => ?_) (fun hh => ?_) | (refine' r_ixDi ?h (fun hh => ?_) (fun hh => ?_); (case h => walk_at "sql")) | (refine' r_ixD ?h (fun hh => ?_) (fun hh => ?_); (case h => walk_at "sql")))
local macro_rules | `(tactic| walk_at "tf") => `(tactic| (show Q _ _; refine' q _ _ _ _ ?zs ?znt ?znb ?znp ?ze1 ?ze2 ?ze3 ?zt ?zb ?zp; (case zt => walk_at "hlk"); (case zb => walk_at "hlk"); (case zp => walk_at "hlk"); (case zs => walk_at "same"); (case znt => walk_at "none"); (case znb => walk_at "none"); (case znp => walk_at "none"); (case ze1 => walk_at "ne"); (case ze2 => walk_at "ne"); (case ze3 => walk_at "ne")))
local macro_rules | `(tactic| walk_at "cls") => `(tactic| first | assumption | exact T.cl_Doing | exact T.cl_Run)
local macro_rules | `(tactic| walk_at "noat") => `(tactic| first | assumption | exact T.n_Doing_moves | exact T.n_Doing_mark | exact T.n_Doing_names | exact T.n_Run_bodies | exact T.n_Run_steps_left | exact T.n_Run_doings | exact T.n_Run_answer | exact T.n_Run_mark)
local macro_rules | `(tactic| walk_at "kit") => `(tactic| first | assumption | exact T.k_int_int | exact T.k_int_bool | exact T.k_tuple_tuple | exact T.k_str_str | exact T.k_list_list | exact T.k_tuple_list)
set_option hygiene true
abbrev Adr.C_Doing (a : Adr) : Addr := a.C_Table
abbrev Adr.C_Run (a : Adr) : Addr := a.C_Machine
def top (i : Nat) : Stmt := PySem.Challenge.pw_frameback_k56_more_steps.main.body.getD i (.Pass ⟨0, 0, 0, 0⟩)
abbrev s_is_whole : Stmt := top 6
theorem sc_is_whole : FnScope ["number"] ["number"] (defScope s_is_whole) := ⟨rfl, rfl, rfl, by decide +kernel, rfl, by decide +kernel, by decide +kernel⟩
abbrev s_add_if : Stmt := top 10
theorem sc_add_if : FnScope ["moves", "statement", "landing", "test", "go"] ["moves", "statement", "landing"] (defScope s_add_if) := ⟨rfl, rfl, rfl, by decide +kernel, rfl, by decide +kernel, by decide +kernel⟩
abbrev s_add_while : Stmt := top 11
theorem sc_add_while : FnScope ["moves", "statement", "landing", "test"] ["moves", "statement", "landing"] (defScope s_add_while) := ⟨rfl, rfl, rfl, by decide +kernel, rfl, by decide +kernel, by decide +kernel⟩
abbrev s_add_try : Stmt := top 12
theorem sc_add_try : FnScope ["moves", "statement", "landing", "begin", "own", "go"] ["moves", "statement", "landing"] (defScope s_add_try) := ⟨rfl, rfl, rfl, by decide +kernel, rfl, by decide +kernel, by decide +kernel⟩
abbrev s_add_hand : Stmt := top 13
theorem sc_add_hand : FnScope ["moves", "statement", "landing"] ["moves", "statement", "landing"] (defScope s_add_hand) := ⟨rfl, rfl, rfl, by decide +kernel, rfl, by decide +kernel, by decide +kernel⟩
abbrev s_add_all : Stmt := top 14
theorem sc_add_all : FnScope ["moves", "statements", "landing", "statement"] ["moves", "statements", "landing"] (defScope s_add_all) := ⟨rfl, rfl, rfl, by decide +kernel, rfl, by decide +kernel, by decide +kernel⟩
abbrev s_moves_of : Stmt := top 15
theorem sc_moves_of : FnScope ["body", "moves"] ["body"] (defScope s_moves_of) := ⟨rfl, rfl, rfl, by decide +kernel, rfl, by decide +kernel, by decide +kernel⟩
abbrev s_is_up_to : Stmt := top 23
theorem sc_is_up_to : FnScope ["thing", "top"] ["thing", "top"] (defScope s_is_up_to) := ⟨rfl, rfl, rfl, by decide +kernel, rfl, by decide +kernel, by decide +kernel⟩
abbrev s_is_name : Stmt := top 24
theorem sc_is_name : FnScope ["thing"] ["thing"] (defScope s_is_name) := ⟨rfl, rfl, rfl, by decide +kernel, rfl, by decide +kernel, by decide +kernel⟩
abbrev s_are_names : Stmt := top 25
theorem sc_are_names : FnScope ["things"] ["things"] (defScope s_are_names) := ⟨rfl, rfl, rfl, by decide +kernel, rfl, by decide +kernel, by decide +kernel⟩
abbrev s_is_part : Stmt := top 26
theorem sc_is_part : FnScope ["part", "kind", "functions"] ["part", "kind", "functions"] (defScope s_is_part) := ⟨rfl, rfl, rfl, by decide +kernel, rfl, by decide +kernel, by decide +kernel⟩
abbrev s_is_statement : Stmt := top 27
theorem sc_is_statement : FnScope ["statement", "handed", "kinds"] ["statement", "handed"] (defScope s_is_statement) := ⟨rfl, rfl, rfl, by decide +kernel, rfl, by decide +kernel, by decide +kernel⟩
abbrev s_lists_within : Stmt := top 28
theorem sc_lists_within : FnScope ["statement"] ["statement"] (defScope s_lists_within) := ⟨rfl, rfl, rfl, by decide +kernel, rfl, by decide +kernel, by decide +kernel⟩
abbrev s_are_statements : Stmt := top 29
theorem sc_are_statements : FnScope ["bodies", "handed", "waiting", "many", "found", "statement", "inner"] ["bodies", "handed"] (defScope s_are_statements) := ⟨rfl, rfl, rfl, by decide +kernel, rfl, by decide +kernel, by decide +kernel⟩
abbrev s_is_function : Stmt := top 30
theorem sc_is_function : FnScope ["function"] ["function"] (defScope s_is_function) := ⟨rfl, rfl, rfl, by decide +kernel, rfl, by decide +kernel, by decide +kernel⟩
abbrev s_is_program : Stmt := top 31
theorem sc_is_program : FnScope ["program"] ["program"] (defScope s_is_program) := ⟨rfl, rfl, rfl, by decide +kernel, rfl, by decide +kernel, by decide +kernel⟩
abbrev s_asked_for_program : Stmt := top 32
theorem sc_asked_for_program : FnScope ["program"] ["program"] (defScope s_asked_for_program) := ⟨rfl, rfl, rfl, by decide +kernel, rfl, by decide +kernel, by decide +kernel⟩
abbrev s_reckoned : Stmt := top 36
theorem sc_reckoned : FnScope ["move", "names", "word", "one", "other"] ["move", "names"] (defScope s_reckoned) := ⟨rfl, rfl, rfl, by decide +kernel, rfl, by decide +kernel, by decide +kernel⟩
abbrev s_Doing_init : Stmt := inClass (top 37) 0
theorem sc_Doing_init : FnScope ["self", "moves", "values"] ["self", "moves", "values"] (defScope s_Doing_init) := ⟨rfl, rfl, rfl, by decide +kernel, rfl, by decide +kernel, by decide +kernel⟩
abbrev s_Doing_last_move : Stmt := inClass (top 37) 1
theorem sc_Doing_last_move : FnScope ["self"] ["self"] (defScope s_Doing_last_move) := ⟨rfl, rfl, rfl, by decide +kernel, rfl, by decide +kernel, by decide +kernel⟩
abbrev s_Doing_lands : Stmt := inClass (top 37) 2
theorem sc_Doing_lands : FnScope ["self", "value", "landing"] ["self", "value"] (defScope s_Doing_lands) := ⟨rfl, rfl, rfl, by decide +kernel, rfl, by decide +kernel, by decide +kernel⟩
abbrev s_Run_init : Stmt := inClass (top 38) 0
theorem sc_Run_init : FnScope ["self", "program", "steps"] ["self", "program", "steps"] (defScope s_Run_init) := ⟨rfl, rfl, rfl, by decide +kernel, rfl, by decide +kernel, by decide +kernel⟩
abbrev s_Run_begin : Stmt := inClass (top 38) 1
theorem sc_Run_begin : FnScope ["self", "function", "values"] ["self", "function", "values"] (defScope s_Run_begin) := ⟨rfl, rfl, rfl, by decide +kernel, rfl, by decide +kernel, by decide +kernel⟩
abbrev s_Run_step : Stmt := inClass (top 38) 2
theorem sc_Run_step : FnScope ["self", "doing", "move"] ["self"] (defScope s_Run_step) := ⟨rfl, rfl, rfl, by decide +kernel, rfl, by decide +kernel, by decide +kernel⟩
abbrev s_Run_make : Stmt := inClass (top 38) 3
theorem sc_Run_make : FnScope ["self", "doing", "move", "word"] ["self", "doing", "move"] (defScope s_Run_make) := ⟨rfl, rfl, rfl, by decide +kernel, rfl, by decide +kernel, by decide +kernel⟩
abbrev s_Run_call : Stmt := inClass (top 38) 4
theorem sc_Run_call : FnScope ["self", "function", "values"] ["self", "function", "values"] (defScope s_Run_call) := ⟨rfl, rfl, rfl, by decide +kernel, rfl, by decide +kernel, by decide +kernel⟩
abbrev s_Run_leave : Stmt := inClass (top 38) 5
theorem sc_Run_leave : FnScope ["self", "value", "caller"] ["self", "value"] (defScope s_Run_leave) := ⟨rfl, rfl, rfl, by decide +kernel, rfl, by decide +kernel, by decide +kernel⟩
abbrev s_Run_drop : Stmt := inClass (top 38) 6
theorem sc_Run_drop : FnScope ["self", "value"] ["self", "value"] (defScope s_Run_drop) := ⟨rfl, rfl, rfl, by decide +kernel, rfl, by decide +kernel, by decide +kernel⟩
abbrev s_run : Stmt := top 39
theorem sc_run : FnScope ["program", "values", "steps", "running"] ["program", "values", "steps"] (defScope s_run) := ⟨rfl, rfl, rfl, by decide +kernel, rfl, by decide +kernel, by decide +kernel⟩
abbrev s_law_cell_at : Stmt := top 41
theorem sc_law_cell_at : FnScope ["_law_script", "_law_k"] ["_law_script", "_law_k"] (defScope s_law_cell_at) := ⟨rfl, rfl, rfl, by decide +kernel, rfl, by decide +kernel, by decide +kernel⟩
abbrev s_law_number : Stmt := top 42
theorem sc_law_number : FnScope ["_law_script", "_law_k"] ["_law_script", "_law_k"] (defScope s_law_number) := ⟨rfl, rfl, rfl, by decide +kernel, rfl, by decide +kernel, by decide +kernel⟩
abbrev s_law_block : Stmt := top 43
theorem sc_law_block : FnScope ["_law_script", "_law_at", "_law_many", "_law_deep", "_law_handed", "_law_some", "_law_k", "_law_told"] ["_law_script", "_law_at", "_law_many", "_law_deep", "_law_handed"] (defScope s_law_block) := ⟨rfl, rfl, rfl, by decide +kernel, rfl, by decide +kernel, by decide +kernel⟩
abbrev s_law_nested : Stmt := top 44
theorem sc_law_nested : FnScope ["_law_script", "_law_at", "_law_deep", "_law_handed", "_law_n", "_law_x", "_law_some", "_law_others"] ["_law_script", "_law_at", "_law_deep", "_law_handed"] (defScope s_law_nested) := ⟨rfl, rfl, rfl, by decide +kernel, rfl, by decide +kernel, by decide +kernel⟩
abbrev s_law_statement : Stmt := top 45
theorem sc_law_statement : FnScope ["_law_script", "_law_at", "_law_deep", "_law_handed", "_law_n", "_law_words", "_law_word", "_law_x", "_law_y", "_law_z", "_law_f", "_law_names"] ["_law_script", "_law_at", "_law_deep", "_law_handed"] (defScope s_law_statement) := ⟨rfl, rfl, rfl, by decide +kernel, rfl, by decide +kernel, by decide +kernel⟩
abbrev s_law_program : Stmt := top 46
theorem sc_law_program : FnScope ["_law_script", "_law_cell", "_law_handed", "_law_program_here", "_law_at", "_law_much", "_law_body"] ["_law_script"] (defScope s_law_program) := ⟨rfl, rfl, rfl, by decide +kernel, rfl, by decide +kernel, by decide +kernel⟩
abbrev s_law_answer : Stmt := top 47
theorem sc_law_answer : FnScope ["_law_found"] ["_law_found"] (defScope s_law_answer) := ⟨rfl, rfl, rfl, by decide +kernel, rfl, by decide +kernel, by decide +kernel⟩
abbrev s_law : Stmt := top 48
theorem sc_law : FnScope ["_law_script", "_law_program_here", "_law_values", "_law_plain", "_law_steps", "_law_handed", "_law_found", "_law_more", "_law_none"] ["_law_script"] (defScope s_law) := ⟨rfl, rfl, rfl, by decide +kernel, rfl, by decide +kernel, by decide +kernel⟩
structure Txt (w : World) (K : PySem.W.Frag) (mg : Str → Option Value) (a : Adr) : Prop where
 z_all : mg "all" = none
 z_bool : mg "bool" = none
 z_int : mg "int" = none
 z_isinstance : mg "isinstance" = none
 z_len : mg "len" = none
 z_list : mg "list" = none
 z_range : mg "range" = none
 z_repr : mg "repr" = none
 z_str : mg "str" = none
 z_tuple : mg "tuple" = none
 z_zip : mg "zip" = none
 g_NOUGHT : ∃ t, mg "NOUGHT" = some (Value.int 7 t)
 s_PARTS : mg "PARTS" = some (.ref a.G_PARTS)
 d_PARTS : ∃ q0 q1 q2 q3 q4 q5 q6 q7 q8 q9 q10 q11 q12 : Addr, ConR w K a.G_PARTS [("set", .ref q0), ("copy", .ref q1), ("sum", .ref q2), ("minus", .ref q3), ("product", .ref q4), ("less", .ref q5), ("call", .ref q6), ("if", .ref q7), ("while", .ref q8), ("try", .ref q9), ("drop", .ref q10), ("give", .ref q11), ("hand", .ref q12)] ∧ (∀ H, SqT K H q0 [.str "name", .str "value"]) ∧ (∀ H, SqT K H q1 [.str "name", .str "name"]) ∧ (∀ H, SqT K H q2 [.str "name", .str "name", .str "name"]) ∧ (∀ H, SqT K H q3 [.str "name", .str "name", .str "name"]) ∧ (∀ H, SqT K H q4 [.str "name", .str "name", .str "name"]) ∧ (∀ H, SqT K H q5 [.str "name", .str "name", .str "name"]) ∧ (∀ H, SqT K H q6 [.str "name", .str "function", .str "names"]) ∧ (∀ H, SqT K H q7 [.str "name", .str "statements", .str "statements"]) ∧ (∀ H, SqT K H q8 [.str "name", .str "statements"]) ∧ (∀ H, SqT K H q9 [.str "statements", .str "name", .str "statements"]) ∧ (∀ H, SqT K H q10 [.str "name"]) ∧ (∀ H, SqT K H q11 [.str "name"]) ∧ (∀ H, SqT K H q12 [.str "function", .str "names"])
 g_SPARE : ∃ t, mg "SPARE" = some (Value.int 6 t)
 g_TOP_CALLS : ∃ t, mg "TOP_CALLS" = some (Value.int 20 t)
 g_TOP_FUNCTIONS : ∃ t, mg "TOP_FUNCTIONS" = some (Value.int 8 t)
 g_TOP_HANDED : ∃ t, mg "TOP_HANDED" = some (Value.int 3 t)
 g_TOP_NAME : ∃ t, mg "TOP_NAME" = some (Value.int 5 t)
 g_TOP_STATEMENTS : ∃ t, mg "TOP_STATEMENTS" = some (Value.int 80 t)
 g_TOP_VALUE : ∃ t, mg "TOP_VALUE" = some (Value.int 4294967295 t)
 g_TOP_WITHIN : ∃ t, mg "TOP_WITHIN" = some (Value.int 4 t)
 s_UNCOUNTED : mg "UNCOUNTED" = some (.ref a.G_UNCOUNTED)
 t_UNCOUNTED : (∀ H, SqT K H a.G_UNCOUNTED [.str "go", .str "leave"])
 g_VALUES : ∃ t, mg "VALUES" = some (Value.int 4294967296 t)
 c_Doing : mg "Doing" = some (.ref a.C_Doing)
 c_NoProgram : mg "NoProgram" = some (.ref a.C_NoProgram)
 c_Run : mg "Run" = some (.ref a.C_Run)
 cl_Doing : Cls K a.C_Doing
 n_Doing_moves : NoAttr K a.C_Doing "moves"
 n_Doing_mark : NoAttr K a.C_Doing "mark"
 n_Doing_names : NoAttr K a.C_Doing "names"
 i_Doing : ∃ f fd, Fun K "__init__" "Doing.__init__" s_Doing_init f fd ∧ Mk K a.C_Doing f ∧ Binds K fd ["self", "moves", "values"] []
 m_Doing_lands : ∃ f fd, Fun K "lands" "Doing.lands" s_Doing_lands f fd ∧ Meth K a.C_Doing "lands" f ∧ Binds K fd ["self", "value"] []
 m_Doing_last_move : ∃ f fd, Fun K "last_move" "Doing.last_move" s_Doing_last_move f fd ∧ Meth K a.C_Doing "last_move" f ∧ Binds K fd ["self"] []
 cl_Run : Cls K a.C_Run
 n_Run_bodies : NoAttr K a.C_Run "bodies"
 n_Run_steps_left : NoAttr K a.C_Run "steps_left"
 n_Run_doings : NoAttr K a.C_Run "doings"
 n_Run_answer : NoAttr K a.C_Run "answer"
 n_Run_mark : NoAttr K a.C_Run "mark"
 i_Run : ∃ f fd, Fun K "__init__" "Run.__init__" s_Run_init f fd ∧ Mk K a.C_Run f ∧ Binds K fd ["self", "program", "steps"] []
 m_Run_begin : ∃ f fd, Fun K "begin" "Run.begin" s_Run_begin f fd ∧ Meth K a.C_Run "begin" f ∧ Binds K fd ["self", "function", "values"] []
 m_Run_call : ∃ f fd, Fun K "call" "Run.call" s_Run_call f fd ∧ Meth K a.C_Run "call" f ∧ Binds K fd ["self", "function", "values"] []
 m_Run_drop : ∃ f fd, Fun K "drop" "Run.drop" s_Run_drop f fd ∧ Meth K a.C_Run "drop" f ∧ Binds K fd ["self", "value"] []
 m_Run_leave : ∃ f fd, Fun K "leave" "Run.leave" s_Run_leave f fd ∧ Meth K a.C_Run "leave" f ∧ Binds K fd ["self", "value"] []
 m_Run_make : ∃ f fd, Fun K "make" "Run.make" s_Run_make f fd ∧ Meth K a.C_Run "make" f ∧ Binds K fd ["self", "doing", "move"] []
 m_Run_step : ∃ f fd, Fun K "step" "Run.step" s_Run_step f fd ∧ Meth K a.C_Run "step" f ∧ Binds K fd ["self"] []
 k_int_int : PySem.W.kitOne K (.type "int") (.type "int") = some true
 k_int_bool : PySem.W.kitOne K (.type "int") (.type "bool") = some false
 k_tuple_tuple : PySem.W.kitOne K (.type "tuple") (.type "tuple") = some true
 k_str_str : PySem.W.kitOne K (.type "str") (.type "str") = some true
 k_list_list : PySem.W.kitOne K (.type "list") (.type "list") = some true
 k_tuple_list : PySem.W.kitOne K (.type "tuple") (.type "list") = some false
 fn_is_whole : ∃ f fd, Fun K "is_whole" "is_whole" s_is_whole f fd ∧ mg "is_whole" = some (.ref f) ∧ Binds K fd ["number"] []
 fn_add_if : ∃ f fd, Fun K "add_if" "add_if" s_add_if f fd ∧ mg "add_if" = some (.ref f) ∧ Binds K fd ["moves", "statement", "landing"] []
 fn_add_while : ∃ f fd, Fun K "add_while" "add_while" s_add_while f fd ∧ mg "add_while" = some (.ref f) ∧ Binds K fd ["moves", "statement", "landing"] []
 fn_add_try : ∃ f fd, Fun K "add_try" "add_try" s_add_try f fd ∧ mg "add_try" = some (.ref f) ∧ Binds K fd ["moves", "statement", "landing"] []
 fn_add_hand : ∃ f fd, Fun K "add_hand" "add_hand" s_add_hand f fd ∧ mg "add_hand" = some (.ref f) ∧ Binds K fd ["moves", "statement", "landing"] []
 fn_add_all : ∃ f fd, Fun K "add_all" "add_all" s_add_all f fd ∧ mg "add_all" = some (.ref f) ∧ Binds K fd ["moves", "statements", "landing"] []
 fn_moves_of : ∃ f fd, Fun K "moves_of" "moves_of" s_moves_of f fd ∧ mg "moves_of" = some (.ref f) ∧ Binds K fd ["body"] []
 fn_is_up_to : ∃ f fd, Fun K "is_up_to" "is_up_to" s_is_up_to f fd ∧ mg "is_up_to" = some (.ref f) ∧ Binds K fd ["thing", "top"] []
 fn_is_name : ∃ f fd, Fun K "is_name" "is_name" s_is_name f fd ∧ mg "is_name" = some (.ref f) ∧ Binds K fd ["thing"] []
 fn_are_names : ∃ f fd, Fun K "are_names" "are_names" s_are_names f fd ∧ mg "are_names" = some (.ref f) ∧ Binds K fd ["things"] []
 fn_is_part : ∃ f fd, Fun K "is_part" "is_part" s_is_part f fd ∧ mg "is_part" = some (.ref f) ∧ Binds K fd ["part", "kind", "functions"] []
 fn_is_statement : ∃ f fd, Fun K "is_statement" "is_statement" s_is_statement f fd ∧ mg "is_statement" = some (.ref f) ∧ Binds K fd ["statement", "handed"] []
 fn_lists_within : ∃ f fd, Fun K "lists_within" "lists_within" s_lists_within f fd ∧ mg "lists_within" = some (.ref f) ∧ Binds K fd ["statement"] []
 fn_are_statements : ∃ f fd, Fun K "are_statements" "are_statements" s_are_statements f fd ∧ mg "are_statements" = some (.ref f) ∧ Binds K fd ["bodies", "handed"] []
 fn_is_function : ∃ f fd, Fun K "is_function" "is_function" s_is_function f fd ∧ mg "is_function" = some (.ref f) ∧ Binds K fd ["function"] []
 fn_is_program : ∃ f fd, Fun K "is_program" "is_program" s_is_program f fd ∧ mg "is_program" = some (.ref f) ∧ Binds K fd ["program"] []
 fn_asked_for_program : ∃ f fd, Fun K "asked_for_program" "asked_for_program" s_asked_for_program f fd ∧ mg "asked_for_program" = some (.ref f) ∧ Binds K fd ["program"] []
 fn_reckoned : ∃ f fd, Fun K "reckoned" "reckoned" s_reckoned f fd ∧ mg "reckoned" = some (.ref f) ∧ Binds K fd ["move", "names"] []
 fn_run : ∃ f fd, Fun K "run" "run" s_run f fd ∧ mg "run" = some (.ref f) ∧ Binds K fd ["program", "values", "steps"] []
 fn_law_cell_at : ∃ f fd, Fun K "_law_cell_at" "_law_cell_at" s_law_cell_at f fd ∧ mg "_law_cell_at" = some (.ref f) ∧ Binds K fd ["_law_script", "_law_k"] []
 fn_law_number : ∃ f fd, Fun K "_law_number" "_law_number" s_law_number f fd ∧ mg "_law_number" = some (.ref f) ∧ Binds K fd ["_law_script", "_law_k"] []
 fn_law_block : ∃ f fd, Fun K "_law_block" "_law_block" s_law_block f fd ∧ mg "_law_block" = some (.ref f) ∧ Binds K fd ["_law_script", "_law_at", "_law_many", "_law_deep", "_law_handed"] []
 fn_law_nested : ∃ f fd, Fun K "_law_nested" "_law_nested" s_law_nested f fd ∧ mg "_law_nested" = some (.ref f) ∧ Binds K fd ["_law_script", "_law_at", "_law_deep", "_law_handed"] []
 fn_law_statement : ∃ f fd, Fun K "_law_statement" "_law_statement" s_law_statement f fd ∧ mg "_law_statement" = some (.ref f) ∧ Binds K fd ["_law_script", "_law_at", "_law_deep", "_law_handed"] []
 fn_law_program : ∃ f fd, Fun K "_law_program" "_law_program" s_law_program f fd ∧ mg "_law_program" = some (.ref f) ∧ Binds K fd ["_law_script"] []
 fn_law_answer : ∃ f fd, Fun K "_law_answer" "_law_answer" s_law_answer f fd ∧ mg "_law_answer" = some (.ref f) ∧ Binds K fd ["_law_found"] []
 fn_law : ∃ f fd, Fun K "law" "law" s_law f fd ∧ mg "law" = some (.ref f) ∧ Binds K fd ["_law_script"] []
theorem r_gTup {K : PySem.W.Frag} {p : Addr} {xs : List V} {n : Nat} {t : TGs} {σ : L2.St} {H : Hp} {Q : L2.St → Hp → Prop} (h : SqT K H p xs) (hl : xs.length = n) (q : t xs σ H Q) : gTup K n t (.ref p) σ H Q := ⟨p, xs, rfl, h, hl, q⟩
theorem r_gCons {t : TG} {u : TGs} {v : V} {r : List V} {σ : L2.St} {H : Hp} {Q : L2.St → Hp → Prop} (q : t v σ H fun σ' H' => u r σ' H' Q) : gCons t u (v :: r) σ H Q := ⟨v, r, rfl, q⟩
theorem r_gNil {σ : L2.St} {H : Hp} {Q : L2.St → Hp → Prop} (q : Q σ H) : gNil [] σ H Q := ⟨rfl, q⟩
theorem mem_sI {xs : List Int} {i v x : Int} (h : x ∈ sI xs i v) : x ∈ xs ∨ x = v := by
 unfold sI at h
 exact List.mem_or_eq_of_mem_set h
theorem gI_any {xs : List Int} (hv : ∀ x ∈ xs, isVal x) (i : Int) : isVal (gI xs i) := by
 unfold gI
 rw [List.getD_eq_getElem?_getD]
 cases e : xs[i.toNat]? with
 | none => exact ⟨by decide, by decide⟩
 | some y => exact hv y (List.mem_of_getElem? e)
theorem sI_vals {xs : List Int} {i v : Int} (hv : ∀ x ∈ xs, isVal x) (h : isVal v) : ∀ x ∈ sI xs i v, isVal x := fun x hx => by
 rcases mem_sI hx with z | z
 · exact hv x z
 · rw [z]; exact h
theorem putF_len {f : Str} {v w : V} : ∀ {fs : List (Str × V)}, fs.lookup f = some w → (putF f v fs).length = fs.length
 | [], h => by cases h
 | (g, x) :: r, h => by
   by_cases e : g = f
   · show (if g = f then (g, v) :: r else (g, x) :: putF f v r).length = _
     rw [if_pos e]; rfl
   · have hb : (f == g) = false := beq_eq_false_iff_ne.mpr (fun z => e z.symm)
     rw [List.lookup_cons, hb] at h
     show (if g = f then (g, v) :: r else (g, x) :: putF f v r).length = _
     rw [if_neg e, List.length_cons, putF_len h]; rfl
theorem cut_tailV (x : V) (r : List V) : cutV (x :: r) (some 1) none = r := by
 unfold cutV
 have e1 : HT.sIx (x :: r).length 0 (some 1) = 1 := by
   rw [show HT.sIx (x :: r).length 0 (some 1) = min 1 (x :: r).length from HT.sIx_nat _ _ 1, List.length_cons]; omega
 have e2 : HT.sIx (x :: r).length (x :: r).length none = (x :: r).length := rfl
 rw [e1, e2, List.length_cons, List.drop_succ_cons, List.drop_zero, Nat.add_sub_cancel, List.take_length]
inductive Sm where
 | set (x v : Int) | copy (x y : Int) | sum (x y z : Int) | minus (x y z : Int) | product (x y z : Int) | less (x y z : Int) | give (x : Int) | leave (x : Int)
def Sm.vs : Sm → List V
 | .set x v => [.str "set", .int x, .int v]
 | .copy x y => [.str "copy", .int x, .int y]
 | .sum x y z => [.str "sum", .int x, .int y, .int z]
 | .minus x y z => [.str "minus", .int x, .int y, .int z]
 | .product x y z => [.str "product", .int x, .int y, .int z]
 | .less x y z => [.str "less", .int x, .int y, .int z]
 | .give x => [.str "give", .int x]
 | .leave x => [.str "leave", .int x]
def isN (x : Int) : Prop := 0 ≤ x ∧ x ≤ 5
def Sm.ok : Sm → Prop
 | .set x v => isN x ∧ isVal v
 | .copy x y => isN x ∧ isN y
 | .sum x y z | .minus x y z | .product x y z | .less x y z => isN x ∧ isN y ∧ isN z
 | .give x => isN x
 | .leave _ => False
def Sm.fills : Sm → Prop
 | .give _ | .leave _ => False
 | _ => True
def Sm.tgt : Sm → Int
 | .set x _ | .copy x _ | .sum x _ _ | .minus x _ _ | .product x _ _ | .less x _ _ | .give x | .leave x => x
def Sm.val (ns : List Int) : Sm → Int
 | .set _ v => v
 | .copy _ y => gI ns y
 | .sum _ y z => (gI ns y + gI ns z) % 4294967296
 | .minus _ y z => (gI ns y - gI ns z) % 4294967296
 | .product _ y z => (gI ns y * gI ns z) % 4294967296
 | .less _ y z => if gI ns y < gI ns z then 1 else 0
 | .give _ | .leave _ => 0
def Sm.done (ns : List Int) (s : Sm) : List Int := sI ns s.tgt (s.val ns)
theorem at_head (x : V) (xs : List V) : atI (x :: xs) 0 = some x := atI_nat (xs := x :: xs) (j := 0) (v := x) rfl
theorem cut_tail_neV (x : V) (r : List V) : ¬ (HT.sIx (x :: r).length 0 (some 1) = 0 ∧ HT.sIx (x :: r).length (x :: r).length none = (x :: r).length) := by
 intro z
 have e1 : HT.sIx (x :: r).length 0 (some 1) = 1 := by
   rw [show HT.sIx (x :: r).length 0 (some 1) = min 1 (x :: r).length from HT.sIx_nat _ _ 1, List.length_cons]; omega
 rw [e1] at z
 exact Nat.noConfusion z.1
inductive Stm where
 | pl (s : Sm) | call (x f : Int) (ns : List Int) (l : Bool) | hand (f : Int) (ns : List Int) (l : Bool) | drop (x : Int)
 | ifS (x : Int) (a b : List Stm) | whileS (x : Int) (a : List Stm) | tryS (a : List Stm) (x : Int) (b : List Stm)
def nmO (ns : List Int) (l : Bool) : HO := if l = true then .lst (ns.map V.int) else .tup (ns.map V.int)
def Each {α : Type} (R : Addr → α → Prop) (ps : List Addr) (xs : List α) : Prop := ps.length = xs.length ∧ ∀ (i : Nat) (p : Addr) (x : α), ps[i]? = some p → xs[i]? = some x → R p x
theorem Each.mono {α : Type} {R R' : Addr → α → Prop} {ps : List Addr} {xs : List α} (h : Each R ps xs) (k : ∀ p x, R p x → R' p x) : Each R' ps xs := ⟨h.1, fun i p x e1 e2 => k p x (h.2 i p x e1 e2)⟩
theorem Each.nil {α : Type} {R : Addr → α → Prop} : Each R [] [] := ⟨rfl, fun i p r e => by simp at e⟩
theorem Each.snoc {α : Type} {R : Addr → α → Prop} {ps : List Addr} {ss : List α} {p : Addr} {s : α} (h : Each R ps ss) (q : R p s) : Each R (ps ++ [p]) (ss ++ [s]) := by
 refine ⟨by rw [List.length_append, List.length_append, h.1]; rfl, fun i p' r' e1 e2 => ?_⟩
 by_cases hi : i < ss.length
 · rw [List.getElem?_append_left (by rw [h.1]; exact hi)] at e1
   rw [List.getElem?_append_left hi] at e2
   exact h.2 i p' r' e1 e2
 · rw [List.getElem?_append_right (by rw [h.1]; omega), h.1] at e1
   rw [List.getElem?_append_right (by omega)] at e2
   cases hj : i - ss.length with
   | zero => rw [hj] at e1 e2; simp at e1 e2; subst e1 e2; exact q
   | succ j => rw [hj] at e1; simp at e1
def BdAt (R : Addr → Stm → Prop) (H : Hp) (l : Addr) (ss : List Stm) : Prop := ∃ ps : List Addr, H l = some (.lst (ps.map V.ref)) ∧ Each R ps ss
def StAt (H : Hp) : Nat → Addr → Stm → Prop
 | 0, _, _ => False
 | d + 1, p, s => match s with
   | .pl s => H p = some (.tup s.vs)
   | .call x f ns l => ∃ q, H p = some (.tup [.str "call", .int x, .int f, .ref q]) ∧ H q = some (nmO ns l)
   | .hand f ns l => ∃ q, H p = some (.tup [.str "hand", .int f, .ref q]) ∧ H q = some (nmO ns l)
   | .drop x => H p = some (.tup [.str "drop", .int x])
   | .ifS x a b => ∃ la lb, H p = some (.tup [.str "if", .int x, .ref la, .ref lb]) ∧ BdAt (StAt H d) H la a ∧ BdAt (StAt H d) H lb b
   | .whileS x a => ∃ la, H p = some (.tup [.str "while", .int x, .ref la]) ∧ BdAt (StAt H d) H la a
   | .tryS a x b => ∃ la lb, H p = some (.tup [.str "try", .ref la, .int x, .ref lb]) ∧ BdAt (StAt H d) H la a ∧ BdAt (StAt H d) H lb b
theorem BdAt.same {R R' : Addr → Stm → Prop} {H H' : Hp} {l : Addr} {ss : List Stm} (s : Same H H') (k : ∀ p x, R p x → R' p x) (h : BdAt R H l ss) : BdAt R' H' l ss := let ⟨ps, e, q⟩ := h; ⟨ps, s _ _ e, q.mono k⟩
theorem StAt.same {H H' : Hp} (s : Same H H') : ∀ {d : Nat} {p : Addr} {x : Stm}, StAt H d p x → StAt H' d p x
 | 0, _, _, h => h.elim
 | d + 1, p, x, h => by
   cases x with
   | pl x => exact s _ _ h
   | call x f ns l => obtain ⟨q, h1, h2⟩ := h; exact ⟨q, s _ _ h1, s _ _ h2⟩
   | hand f ns l => obtain ⟨q, h1, h2⟩ := h; exact ⟨q, s _ _ h1, s _ _ h2⟩
   | drop x => exact s _ _ h
   | ifS x a b => obtain ⟨la, lb, h1, h2, h3⟩ := h; exact ⟨la, lb, s _ _ h1, h2.same s (fun _ _ => StAt.same s), h3.same s (fun _ _ => StAt.same s)⟩
   | whileS x a => obtain ⟨la, h1, h2⟩ := h; exact ⟨la, s _ _ h1, h2.same s (fun _ _ => StAt.same s)⟩
   | tryS a x b => obtain ⟨la, lb, h1, h2, h3⟩ := h; exact ⟨la, lb, s _ _ h1, h2.same s (fun _ _ => StAt.same s), h3.same s (fun _ _ => StAt.same s)⟩
def OkS (hd : List Int) : Nat → Stm → Prop
 | 0, _ => False
 | d + 1, s => match s with
   | .pl s => s.ok
   | .call x f ns _ => isN x ∧ 0 ≤ f ∧ (∀ n ∈ ns, isN n) ∧ hd[f.toNat]? = some (ns.length : Int)
   | .hand f ns _ => 0 ≤ f ∧ (∀ n ∈ ns, isN n) ∧ hd[f.toNat]? = some (ns.length : Int)
   | .drop x => isN x
   | .ifS x a b => isN x ∧ 0 < d ∧ (∀ s ∈ a, OkS hd d s) ∧ (∀ s ∈ b, OkS hd d s)
   | .whileS x a => isN x ∧ 0 < d ∧ (∀ s ∈ a, OkS hd d s)
   | .tryS a x b => isN x ∧ 0 < d ∧ (∀ s ∈ a, OkS hd d s) ∧ (∀ s ∈ b, OkS hd d s)
def cnt1 : Nat → Stm → Nat
 | 0, _ => 1
 | d + 1, s => match s with
   | .ifS _ a b => 1 + (a.map (cnt1 d)).sum + (b.map (cnt1 d)).sum
   | .whileS _ a => 1 + (a.map (cnt1 d)).sum
   | .tryS a _ b => 1 + (a.map (cnt1 d)).sum + (b.map (cnt1 d)).sum
   | _ => 1
def cntL (d : Nat) (ss : List Stm) : Nat := (ss.map (cnt1 d)).sum
def kindsT : List (Str × List Str) := [("set", ["name", "value"]), ("copy", ["name", "name"]), ("sum", ["name", "name", "name"]), ("minus", ["name", "name", "name"]), ("product", ["name", "name", "name"]), ("less", ["name", "name", "name"]), ("call", ["name", "function", "names"]), ("if", ["name", "statements", "statements"]), ("while", ["name", "statements"]), ("try", ["statements", "name", "statements"]), ("drop", ["name"]), ("give", ["name"]), ("hand", ["function", "names"])]
def PartOk (H : Hp) (n : Int) (k : Str) (v : V) : Prop :=
 (k = "name" ∧ ∃ i, v = .int i ∧ isN i) ∨ (k = "value" ∧ ∃ i, v = .int i ∧ isVal i) ∨ (k = "function" ∧ ∃ i, v = .int i ∧ 0 ≤ i ∧ i ≤ n - 1) ∨ (k = "names" ∧ ∃ (q : Addr) (ns : List Int) (l : Bool), v = .ref q ∧ H q = some (nmO ns l) ∧ (∀ x ∈ ns, isN x) ∧ ns.length ≤ 3) ∨ (k = "statements" ∧ ∃ (q : Addr) (us : List V), v = .ref q ∧ H q = some (.lst us))
theorem PartOk.same {H H' : Hp} {n : Int} {k : Str} {v : V} (s : Same H H') (h : PartOk H n k v) : PartOk H' n k v := by
 rcases h with h | h | h | ⟨e, q, ns, l, h1, h2, h3⟩ | ⟨e, q, us, h1, h2⟩
 · exact .inl h
 · exact .inr (.inl h)
 · exact .inr (.inr (.inl h))
 · exact .inr (.inr (.inr (.inl ⟨e, q, ns, l, h1, s _ _ h2, h3⟩)))
 · exact .inr (.inr (.inr (.inr ⟨e, q, us, h1, s _ _ h2⟩)))
def InAt (H : Hp) (hd : List Int) (d : Nat) (ls : List Addr) (bs : List (List Stm)) : Prop := Each (fun l b => BdAt (StAt H d) H l b ∧ ∀ s ∈ b, OkS hd d s) ls bs
structure Info (H : Hp) (hd : List Int) (d : Nat) (p : Addr) (s : Stm) (w : Str) (xs : List (V × Str)) (ls : List Addr) (bs : List (List Stm)) : Prop where
 hp : H p = some (.tup (.str w :: xs.map (·.1)))
 kd : (w, xs.map (·.2)) ∈ kindsT
 ok : ∀ x ∈ xs, PartOk H hd.length x.2 x.1
 few : xs.length ≤ 3
 cl : ((w = "call" ∨ w = "hand") ∧ ∃ (pre : List V) (f : Int) (q : Addr) (ns : List Int) (l : Bool), xs.map (·.1) = pre ++ [.int f, .ref q] ∧ H q = some (nmO ns l) ∧ 0 ≤ f ∧ hd[f.toNat]? = some (ns.length : Int)) ∨ (w ≠ "call" ∧ w ≠ "hand")
 fil : (xs.filter fun x => decide (x.2 = ("statements" : Str))).map (·.1) = ls.map V.ref
 inn : InAt H hd d ls bs
 cnt : cnt1 (d + 1) s = 1 + (bs.map (cntL d)).sum
 two : bs.length ≤ 2
 dep : bs ≠ [] → 0 < d
theorem lt_of_get {hd : List Int} {f : Int} {n : Int} (h0 : 0 ≤ f) (h : hd[f.toNat]? = some n) : f ≤ (hd.length : Int) - 1 := by
 have := (List.getElem?_eq_some_iff.mp h).1
 omega
theorem StAt.info {H : Hp} {hd : List Int} {d : Nat} {p : Addr} {s : Stm} (hd3 : ∀ n ∈ hd, n ≤ 3) (h : StAt H (d + 1) p s) (ok : OkS hd (d + 1) s) : ∃ (w : Str) (xs : List (V × Str)) (ls : List Addr) (bs : List (List Stm)), Info H hd d p s w xs ls bs := by
 have nm : ∀ {x : Int}, isN x → PartOk H hd.length "name" (.int x) := fun {x} h => .inl ⟨rfl, x, rfl, h⟩
 have three : ∀ {f : Int} {ns : List Int}, hd[f.toNat]? = some (ns.length : Int) → ns.length ≤ 3 := fun {f ns} e => by
   have := hd3 _ (List.mem_of_getElem? e); omega
 have bd : ∀ {l : Addr} {b : List Stm}, BdAt (StAt H d) H l b → PartOk H hd.length "statements" (.ref l) := fun {l b} ⟨ps, e, _⟩ => .inr (.inr (.inr (.inr ⟨rfl, l, _, rfl, e⟩)))
 have one : ∀ {R : Addr → List Stm → Prop} {l : Addr} {b : List Stm}, R l b → Each R [l] [b] := fun {R l b} h => Each.snoc Each.nil h
 cases s with
 | pl s =>
   cases s with
   | set x v => exact ⟨"set", [(.int x, "name"), (.int v, "value")], [], [], ⟨h, by simp [kindsT], by
       intro y hy; simp at hy; rcases hy with rfl | rfl
       · exact nm ok.1
       · exact .inr (.inl ⟨rfl, v, rfl, ok.2⟩), Nat.le_of_ble_eq_true rfl, .inr ⟨by decide, by decide⟩, rfl, Each.nil, rfl, Nat.le_of_ble_eq_true rfl, fun z => absurd rfl z⟩⟩
   | copy x y => exact ⟨"copy", [(.int x, "name"), (.int y, "name")], [], [], ⟨h, by simp [kindsT], by
       intro y hy; simp at hy; rcases hy with rfl | rfl
       · exact nm ok.1
       · exact nm ok.2, Nat.le_of_ble_eq_true rfl, .inr ⟨by decide, by decide⟩, rfl, Each.nil, rfl, Nat.le_of_ble_eq_true rfl, fun z => absurd rfl z⟩⟩
   | sum x y z => exact ⟨"sum", [(.int x, "name"), (.int y, "name"), (.int z, "name")], [], [], ⟨h, by simp [kindsT], by
       intro y hy; simp at hy; rcases hy with rfl | rfl | rfl
       · exact nm ok.1
       · exact nm ok.2.1
       · exact nm ok.2.2, Nat.le_of_ble_eq_true rfl, .inr ⟨by decide, by decide⟩, rfl, Each.nil, rfl, Nat.le_of_ble_eq_true rfl, fun z => absurd rfl z⟩⟩
   | minus x y z => exact ⟨"minus", [(.int x, "name"), (.int y, "name"), (.int z, "name")], [], [], ⟨h, by simp [kindsT], by
       intro y hy; simp at hy; rcases hy with rfl | rfl | rfl
       · exact nm ok.1
       · exact nm ok.2.1
       · exact nm ok.2.2, Nat.le_of_ble_eq_true rfl, .inr ⟨by decide, by decide⟩, rfl, Each.nil, rfl, Nat.le_of_ble_eq_true rfl, fun z => absurd rfl z⟩⟩
   | product x y z => exact ⟨"product", [(.int x, "name"), (.int y, "name"), (.int z, "name")], [], [], ⟨h, by simp [kindsT], by
       intro y hy; simp at hy; rcases hy with rfl | rfl | rfl
       · exact nm ok.1
       · exact nm ok.2.1
       · exact nm ok.2.2, Nat.le_of_ble_eq_true rfl, .inr ⟨by decide, by decide⟩, rfl, Each.nil, rfl, Nat.le_of_ble_eq_true rfl, fun z => absurd rfl z⟩⟩
   | less x y z => exact ⟨"less", [(.int x, "name"), (.int y, "name"), (.int z, "name")], [], [], ⟨h, by simp [kindsT], by
       intro y hy; simp at hy; rcases hy with rfl | rfl | rfl
       · exact nm ok.1
       · exact nm ok.2.1
       · exact nm ok.2.2, Nat.le_of_ble_eq_true rfl, .inr ⟨by decide, by decide⟩, rfl, Each.nil, rfl, Nat.le_of_ble_eq_true rfl, fun z => absurd rfl z⟩⟩
   | give x => exact ⟨"give", [(.int x, "name")], [], [], ⟨h, by simp [kindsT], by
       intro y hy; simp at hy; subst hy
       exact nm ok, Nat.le_of_ble_eq_true rfl, .inr ⟨by decide, by decide⟩, rfl, Each.nil, rfl, Nat.le_of_ble_eq_true rfl, fun z => absurd rfl z⟩⟩
   | leave x => exact ok.elim
 | call x f ns l =>
   obtain ⟨q, h1, h2⟩ := h
   obtain ⟨o1, o2, o3, o4⟩ := ok
   exact ⟨"call", [(.int x, "name"), (.int f, "function"), (.ref q, "names")], [], [], ⟨h1, by simp [kindsT], by
       intro y hy; simp at hy; rcases hy with rfl | rfl | rfl
       · exact nm o1
       · exact .inr (.inr (.inl ⟨rfl, f, rfl, o2, lt_of_get o2 o4⟩))
       · exact .inr (.inr (.inr (.inl ⟨rfl, q, ns, l, rfl, h2, o3, three o4⟩))), Nat.le_of_ble_eq_true rfl, .inl ⟨.inl rfl, [.int x], f, q, ns, l, rfl, h2, o2, o4⟩, rfl, Each.nil, rfl, Nat.le_of_ble_eq_true rfl, fun z => absurd rfl z⟩⟩
 | hand f ns l =>
   obtain ⟨q, h1, h2⟩ := h
   obtain ⟨o2, o3, o4⟩ := ok
   exact ⟨"hand", [(.int f, "function"), (.ref q, "names")], [], [], ⟨h1, by simp [kindsT], by
       intro y hy; simp at hy; rcases hy with rfl | rfl
       · exact .inr (.inr (.inl ⟨rfl, f, rfl, o2, lt_of_get o2 o4⟩))
       · exact .inr (.inr (.inr (.inl ⟨rfl, q, ns, l, rfl, h2, o3, three o4⟩))), Nat.le_of_ble_eq_true rfl, .inl ⟨.inr rfl, [], f, q, ns, l, rfl, h2, o2, o4⟩, rfl, Each.nil, rfl, Nat.le_of_ble_eq_true rfl, fun z => absurd rfl z⟩⟩
 | drop x => exact ⟨"drop", [(.int x, "name")], [], [], ⟨h, by simp [kindsT], by
       intro y hy; simp at hy; subst hy
       exact nm ok, Nat.le_of_ble_eq_true rfl, .inr ⟨by decide, by decide⟩, rfl, Each.nil, rfl, Nat.le_of_ble_eq_true rfl, fun z => absurd rfl z⟩⟩
 | ifS x a b =>
   obtain ⟨la, lb, h1, h2, h3⟩ := h
   obtain ⟨o1, o2, o3, o4⟩ := ok
   exact ⟨"if", [(.int x, "name"), (.ref la, "statements"), (.ref lb, "statements")], [la, lb], [a, b], ⟨h1, by simp [kindsT], by
       intro y hy; simp at hy; rcases hy with rfl | rfl | rfl
       · exact nm o1
       · exact bd h2
       · exact bd h3, Nat.le_of_ble_eq_true rfl, .inr ⟨by decide, by decide⟩, rfl, Each.snoc (one ⟨h2, o3⟩) ⟨h3, o4⟩, by simp [cnt1, cntL]; omega, Nat.le_of_ble_eq_true rfl, fun _ => o2⟩⟩
 | whileS x a =>
   obtain ⟨la, h1, h2⟩ := h
   obtain ⟨o1, o2, o3⟩ := ok
   exact ⟨"while", [(.int x, "name"), (.ref la, "statements")], [la], [a], ⟨h1, by simp [kindsT], by
       intro y hy; simp at hy; rcases hy with rfl | rfl
       · exact nm o1
       · exact bd h2, Nat.le_of_ble_eq_true rfl, .inr ⟨by decide, by decide⟩, rfl, one ⟨h2, o3⟩, by simp [cnt1, cntL], Nat.le_of_ble_eq_true rfl, fun _ => o2⟩⟩
 | tryS a x b =>
   obtain ⟨la, lb, h1, h2, h3⟩ := h
   obtain ⟨o1, o2, o3, o4⟩ := ok
   exact ⟨"try", [(.ref la, "statements"), (.int x, "name"), (.ref lb, "statements")], [la, lb], [a, b], ⟨h1, by simp [kindsT], by
       intro y hy; simp at hy; rcases hy with rfl | rfl | rfl
       · exact bd h2
       · exact nm o1
       · exact bd h3, Nat.le_of_ble_eq_true rfl, .inr ⟨by decide, by decide⟩, rfl, Each.snoc (one ⟨h2, o3⟩) ⟨h3, o4⟩, by simp [cnt1, cntL]; omega, Nat.le_of_ble_eq_true rfl, fun _ => o2⟩⟩
def spWhI : Sp := fun vs H Q _ => ∃ i : Int, vs = [.int i] ∧ 0 ≤ i ∧ Q (.bl true) H
def spUpTo : Sp := fun vs H Q _ => ∃ i t : Int, vs = [.int i, .int t] ∧ 0 ≤ i ∧ i ≤ t ∧ Q (.bl true) H
def spNm : Sp := fun vs H Q _ => ∃ i : Int, vs = [.int i] ∧ isN i ∧ Q (.bl true) H
def spNms : Sp := fun vs H Q _ => ∃ (q : Addr) (ns : List Int) (l : Bool), vs = [.ref q] ∧ H q = some (nmO ns l) ∧ (∀ x ∈ ns, isN x) ∧ ns.length ≤ 3 ∧ ∀ H', Same H H' → Q (.bl true) H'
def spPart : Sp := fun vs H Q _ => ∃ (v : V) (n : Int) (k : Str), vs = [v, .str k, .int n] ∧ PartOk H n k v ∧ ∀ H', Same H H' → Q (.bl true) H'
def spStm : Sp := fun vs H Q _ => ∃ (p h : Addr) (d : Nat) (s : Stm) (hd : List Int), vs = [.ref p, .ref h] ∧ StAt H d p s ∧ OkS hd d s ∧ H h = some (.lst (hd.map V.int)) ∧ (∀ n ∈ hd, n ≤ 3) ∧ hd.length ≤ 8 ∧ ∀ H', Same H H' → Q (.bl true) H'
def spWithin : Sp := fun vs H Q _ => ∃ (p : Addr) (w : Str) (xs : List (V × Str)) (ls : List Addr), vs = [.ref p] ∧ H p = some (.tup (.str w :: xs.map (·.1))) ∧ (w, xs.map (·.2)) ∈ kindsT ∧ xs.length ≤ 3 ∧ (xs.filter fun x => decide (x.2 = ("statements" : Str))).map (·.1) = ls.map V.ref ∧ ∀ l H', Same H H' → H' l = some (.lst (ls.map V.ref)) → H l = none → Q (.ref l) H'
def WaitAt (H0 H : Hp) (hd : List Int) (ts : List Addr) (ws : List (Nat × List Stm)) : Prop := Each (fun t w => ∃ l, H t = some (.tup [.ref l, .int (w.1 : Int)]) ∧ w.1 ≤ 4 ∧ BdAt (StAt H0 (5 - w.1)) H0 l w.2 ∧ ∀ s ∈ w.2, OkS hd (5 - w.1) s) ts ws
theorem WaitAt.to {H0 H H' : Hp} {hd : List Int} {ts : List Addr} {ws : List (Nat × List Stm)} (s : ∀ b xs, H b = some (.tup xs) → H' b = some (.tup xs)) (h : WaitAt H0 H hd ts ws) : WaitAt H0 H' hd ts ws := h.mono fun t w ⟨l, h1, h2, h3, h4⟩ => ⟨l, s _ _ h1, h2, h3, h4⟩
theorem WaitAt.same {H0 H H' : Hp} {hd : List Int} {ts : List Addr} {ws : List (Nat × List Stm)} (s : Same H H') (h : WaitAt H0 H hd ts ws) : WaitAt H0 H' hd ts ws := h.to fun b xs e => s _ _ e
theorem tup_upd {H : Hp} {l : Addr} {ys : List V} {o : HO} (h : H l = some (.lst ys)) (b : Addr) (xs : List V) (e : H b = some (.tup xs)) : (upd H l o) b = some (.tup xs) := by
 rw [upd_ne (fun z => by subst z; rw [h] at e; cases e)]; exact e
def totW (ws : List (Nat × List Stm)) : Nat := (ws.map fun w => cntL (5 - w.1) w.2).sum
def mesW (ws : List (Nat × List Stm)) : Nat := (ws.map fun w => 1 + 2 * cntL (5 - w.1) w.2).sum
def spAreS : Sp := fun vs H Q _ => ∃ (b h : Addr) (ls : List Addr) (bs : List (List Stm)) (hd : List Int), vs = [.ref b, .ref h] ∧ H b = some (.lst (ls.map V.ref)) ∧ Each (fun l ss => BdAt (StAt H 5) H l ss ∧ ∀ s ∈ ss, OkS hd 5 s) ls bs ∧ bs.length ≤ 8 ∧ (bs.map (cntL 5)).sum ≤ 80 ∧ H h = some (.lst (hd.map V.int)) ∧ (∀ n ∈ hd, n ≤ 3) ∧ hd.length ≤ 8 ∧ ∀ H', Same H H' → Q (.bl true) H'
def ProgAt (H : Hp) (pr : Addr) (fs : List (Int × List Stm)) : Prop := ∃ ps : List Addr, H pr = some (.lst (ps.map V.ref)) ∧ Each (fun p f => ∃ l, H p = some (.tup [.int f.1, .ref l]) ∧ BdAt (StAt H 5) H l f.2) ps fs
structure ProgOk (fs : List (Int × List Stm)) : Prop where
 one : 1 ≤ fs.length
 few : fs.length ≤ 8
 hd : ∀ f ∈ fs, 0 ≤ f.1 ∧ f.1 ≤ 3
 ok : ∀ f ∈ fs, ∀ s ∈ f.2, OkS (fs.map (·.1)) 5 s
 cnt : (fs.map fun f => cntL 5 f.2).sum ≤ 80
theorem ProgAt.same {H H' : Hp} {pr : Addr} {fs : List (Int × List Stm)} (s : Same H H') (h : ProgAt H pr fs) : ProgAt H' pr fs := by
 obtain ⟨ps, h1, h2⟩ := h
 exact ⟨ps, s _ _ h1, h2.mono fun p f ⟨l, e1, e2⟩ => ⟨l, s _ _ e1, e2.same s (fun _ _ => StAt.same s)⟩⟩
def bodyOf : Option HO → Addr
 | some (.tup [_, .ref l]) => l
 | _ => 0
def numOf : Option HO → Int
 | some (.tup [.int n, _]) => n
 | _ => 0
theorem Each.map_eq {α β : Type} {R : Addr → α → Prop} {ps : List Addr} {xs : List α} {g : Addr → β} {k : α → β} (h : Each R ps xs) (hr : ∀ p x, R p x → g p = k x) : ps.map g = xs.map k := by
 refine List.ext_getElem? fun i => ?_
 rw [List.getElem?_map, List.getElem?_map]
 by_cases hi : i < xs.length
 · have hp : i < ps.length := by rw [h.1]; exact hi
   rw [List.getElem?_eq_getElem hi, List.getElem?_eq_getElem hp]
   exact congrArg some (hr _ _ (h.2 i _ _ (List.getElem?_eq_getElem hp) (List.getElem?_eq_getElem hi)))
 · have hl := h.1
   rw [List.getElem?_eq_none (show ps.length ≤ i by omega), List.getElem?_eq_none (show xs.length ≤ i by omega)]; rfl
def spIsFn : Sp := fun vs H Q _ => ∃ (f l : Addr) (n : Int) (us : List V), vs = [.ref f] ∧ H f = some (.tup [.int n, .ref l]) ∧ 0 ≤ n ∧ n ≤ 3 ∧ H l = some (.lst us) ∧ Q (.bl true) H
def spIsP : Sp := fun vs H Q _ => ∃ (pr : Addr) (fs : List (Int × List Stm)), vs = [.ref pr] ∧ ProgAt H pr fs ∧ ProgOk fs ∧ ∀ H', Same H H' → Q (.bl true) H'
def spAsk : Sp := fun vs H Q _ => ∃ (pr : Addr) (fs : List (Int × List Stm)), vs = [.ref pr] ∧ ProgAt H pr fs ∧ ProgOk fs ∧ ∀ H', Same H H' → Q .non H'
inductive Mv where
 | sm (s : Sm) | call (x f : Int) (ns : List Int) (l : Bool) | hand (f : Int) (ns : List Int) (l : Bool) | drop (x : Int) | test (x : Int) (o : Nat) | go (o : Nat) | tr (o : Nat) | land (x : Int)
abbrev Mvs := List (Mv × Option Nat)
def landV : Option Nat → V
 | none => .non
 | some n => .int (n : Int)
def lays (one : Nat → Stm → Mvs) : Nat → List Stm → Mvs
 | _, [] => []
 | n, s :: r => one n s ++ lays one (n + (one n s).length) r
def lay1 : Nat → Option Nat → Nat → Stm → Mvs
 | 0, _, _, _ => []
 | d + 1, land, n, s => match s with
   | .pl s => [(.sm s, land)]
   | .call x f ns l => [(.call x f ns l, land)]
   | .drop x => [(.drop x, land)]
   | .hand f ns l => match land with
     | none => [(.hand f ns l, none)]
     | some k => [(.call 6 f ns l, some k), (.sm (.leave 6), some k)]
   | .ifS x a b =>
     (.test x (n + (lays (lay1 d land) (n + 1) a).length + 2), land) :: (lays (lay1 d land) (n + 1) a ++ ((.go (n + (lays (lay1 d land) (n + 1) a).length + 2 + (lays (lay1 d land) (n + (lays (lay1 d land) (n + 1) a).length + 2) b).length), land) :: lays (lay1 d land) (n + (lays (lay1 d land) (n + 1) a).length + 2) b))
   | .whileS x a => (.test x (n + (lays (lay1 d land) (n + 1) a).length + 2), land) :: (lays (lay1 d land) (n + 1) a ++ [(.go n, land)])
   | .tryS a x b =>
     (.tr (n + (lays (lay1 d land) (n + 2) b).length + 3), land) :: (.land x, land) :: (lays (lay1 d land) (n + 2) b ++ ((.go (n + (lays (lay1 d land) (n + 2) b).length + 3 + (lays (lay1 d (some (n + 1))) (n + (lays (lay1 d land) (n + 2) b).length + 3) a).length), land) :: lays (lay1 d (some (n + 1))) (n + (lays (lay1 d land) (n + 2) b).length + 3) a))
theorem lays_snoc (one : Nat → Stm → Mvs) (s : Stm) : ∀ (n : Nat) (r : List Stm), lays one n (r ++ [s]) = lays one n r ++ one (n + (lays one n r).length) s
 | n, [] => by simp [lays]
 | n, x :: r => by
   rw [List.cons_append, lays, lays, lays_snoc one s _ r, List.append_assoc, List.length_append, Nat.add_assoc]
def MvP (H0 H : Hp) (p : Addr) : Mv → Prop
 | .sm s => H p = some (.tup s.vs)
 | .call x f ns l => ∃ q, H p = some (.tup [.str "call", .int x, .int f, .ref q]) ∧ H0 q = some (nmO ns l)
 | .hand f ns l => ∃ q, H p = some (.tup [.str "hand", .int f, .ref q]) ∧ H0 q = some (nmO ns l)
 | .drop x => H p = some (.tup [.str "drop", .int x])
 | .test x o => H p = some (.tup [.str "test", .int x, .int (o : Int)])
 | .go o => H p = some (.tup [.str "go", .int (o : Int)])
 | .tr o => H p = some (.tup [.str "try", .int (o : Int)])
 | .land x => H p = some (.tup [.str "land", .int x])
def MvAt (H0 H : Hp) (v : V) (m : Mv × Option Nat) : Prop := ∃ q p, v = .ref q ∧ H q = some (.tup [.ref p, landV m.2]) ∧ MvP H0 H p m.1
def MvV (H0 H : Hp) (ws : List V) (ms : Mvs) : Prop := ws.length = ms.length ∧ ∀ (i : Nat) (v : V) (m : Mv × Option Nat), ws[i]? = some v → ms[i]? = some m → MvAt H0 H v m
theorem MvP.to {H0 H H' : Hp} {p : Addr} {m : Mv} (s : ∀ b xs, H b = some (.tup xs) → H' b = some (.tup xs)) (h : MvP H0 H p m) : MvP H0 H' p m := by
 cases m with
 | call x f ns l => obtain ⟨q, h1, h2⟩ := h; exact ⟨q, s _ _ h1, h2⟩
 | hand f ns l => obtain ⟨q, h1, h2⟩ := h; exact ⟨q, s _ _ h1, h2⟩
 | _ => exact s _ _ h
theorem MvV.to {H0 H H' : Hp} {ws : List V} {ms : Mvs} (h : MvV H0 H ws ms) (s : ∀ b xs, H b = some (.tup xs) → H' b = some (.tup xs)) : MvV H0 H' ws ms := ⟨h.1, fun i v m e1 e2 => let ⟨q, p, k1, k2, k3⟩ := h.2 i v m e1 e2; ⟨q, p, k1, s _ _ k2, k3.to s⟩⟩
theorem MvV.same {H0 H H' : Hp} {ws : List V} {ms : Mvs} (h : MvV H0 H ws ms) (s : Same H H') : MvV H0 H' ws ms := h.to fun b xs e => s _ _ e
theorem MvV.nil {H0 H : Hp} : MvV H0 H [] [] := ⟨rfl, fun i p r e => by simp at e⟩
theorem MvV.app {H0 H : Hp} {ps qs : List V} {xs ys : Mvs} (h : MvV H0 H ps xs) (k : MvV H0 H qs ys) : MvV H0 H (ps ++ qs) (xs ++ ys) := by
 refine ⟨by rw [List.length_append, List.length_append, h.1, k.1], fun i p r e1 e2 => ?_⟩
 by_cases hi : i < xs.length
 · rw [List.getElem?_append_left (by rw [h.1]; exact hi)] at e1
   rw [List.getElem?_append_left hi] at e2
   exact h.2 i p r e1 e2
 · rw [List.getElem?_append_right (by rw [h.1]; omega), h.1] at e1
   rw [List.getElem?_append_right (by omega)] at e2
   exact k.2 _ p r e1 e2
theorem MvV.one {H0 H : Hp} {v : V} {m : Mv × Option Nat} (h : MvAt H0 H v m) : MvV H0 H [v] [m] := ⟨rfl, fun i v' m' e1 e2 => by
 cases i with
 | zero => simp at e1 e2; subst e1 e2; exact h
 | succ i => simp at e1⟩
theorem MvV.cons {H0 H : Hp} {v : V} {m : Mv × Option Nat} {ws : List V} {ms : Mvs} (h : MvAt H0 H v m) (k : MvV H0 H ws ms) : MvV H0 H (v :: ws) (m :: ms) := MvV.app (MvV.one h) k
def KeepM (m : Addr) (H H' : Hp) : Prop := ∀ b o, H b = some o → b ≠ m → H' b = some o
def spAddAll (d : Nat) : Sp := fun vs H Q _ => ∃ (m l : Addr) (us : List V) (H0 : Hp) (ps : List Addr) (ss : List Stm) (land : Option Nat), vs = [.ref m, .ref l, landV land] ∧ H m = some (.lst us) ∧ Same H0 H ∧ H0 m = none ∧ H0 l = some (.lst (ps.map V.ref)) ∧ Each (StAt H0 d) ps ss ∧ us.length + (lays (lay1 d land) us.length ss).length ≤ 10000 ∧
 ∀ ws H', KeepM m H H' → H' m = some (.lst (us ++ ws)) → MvV H0 H' ws (lays (lay1 d land) us.length ss) → Q .non H'
def spAdd1 (P : Stm → Prop) (d : Nat) : Sp := fun vs H Q _ => ∃ (m p : Addr) (us : List V) (H0 : Hp) (s : Stm) (land : Option Nat), vs = [.ref m, .ref p, landV land] ∧ H m = some (.lst us) ∧ Same H0 H ∧ H0 m = none ∧ StAt H0 (d + 1) p s ∧ P s ∧ us.length + (lay1 (d + 1) land us.length s).length ≤ 10000 ∧
 ∀ ws H', KeepM m H H' → H' m = some (.lst (us ++ ws)) → MvV H0 H' ws (lay1 (d + 1) land us.length s) → Q .non H'
def Stm.isIf : Stm → Prop
 | .ifS .. => True
 | _ => False
def Stm.isWhile : Stm → Prop
 | .whileS .. => True
 | _ => False
def Stm.isTry : Stm → Prop
 | .tryS .. => True
 | _ => False
def Stm.isHand : Stm → Prop
 | .hand .. => True
 | _ => False
theorem KeepM.same {m : Addr} {H0 H H' : Hp} (k : KeepM m H H') (s : Same H0 H) (n : H0 m = none) : Same H0 H' := fun b o e => k b o (s b o e) (ne_of_none e n)
theorem KeepM.trans {m : Addr} {H H' H'' : Hp} (k : KeepM m H H') (k' : KeepM m H' H'') : KeepM m H H'' := fun b o e n => k' b o (k b o e n) n
theorem KeepM.put {m : Addr} {H H' : Hp} {o : HO} (k : KeepM m H H') : KeepM m H (upd H' m o) := fun b x e n => by rw [upd_ne n]; exact k b x e n
theorem KeepM.new {m t : Addr} {H H' : Hp} {o : HO} (k : KeepM m H H') (n : H' t = none) : KeepM m H (upd H' t o) := fun b x e ne => look_new (k b x e ne) n
theorem KeepM.tup {m : Addr} {H H' : Hp} {us : List V} (k : KeepM m H H') (h : H m = some (.lst us)) (b : Addr) (xs : List V) (e : H b = some (.tup xs)) : H' b = some (.tup xs) := k b _ e (fun z => by rw [z, h] at e; cases e)
theorem KeepM.refl {m : Addr} {H : Hp} : KeepM m H H := fun _ _ e _ => e
def spAddH : Sp := fun vs H Q E => ∃ d, spAdd1 Stm.isHand d vs H Q E
theorem set_mid {us r : List V} {x y : V} : (us ++ x :: r).set us.length y = us ++ y :: r := by
 rw [List.set_append_right _ _ (Nat.le_refl _), Nat.sub_self]; rfl
theorem ixN_mid {n : Nat} {k : Nat} (h : k < n) : ixN n (k : Int) = some k := by
 unfold ixN; rw [if_pos (by omega), if_pos (by omega), Int.toNat_natCast]
theorem same_put {H0 H : Hp} {m : Addr} {o : HO} (s : Same H0 H) (n : H0 m = none) : Same H0 (upd H m o) := fun b x e => by rw [upd_ne (ne_of_none e n)]; exact s b x e
local macro_rules | `(tactic| walk_at "mine") => `(tactic| first | (with_reducible refine r_rGet ?_) | (with_reducible refine r_gCons ?_) | (with_reducible refine r_gNil ?_) | (with_reducible refine r_zip ?_) | (with_reducible refine r_chain ?_) | (with_reducible refine r_dGet ?_) | (with_reducible refine r_raise ?_))
local macro_rules | `(tactic| walk_at "lk") => `(tactic| first | with_reducible assumption | (with_reducible exact look_hit) | (refine' look_of ?x ?y; (case x => decide +kernel); (case y => walk_at "lk")) | exact look_hit)
local macro_rules | `(tactic| walk_at "nolk") => `(tactic| first | with_reducible assumption | (with_reducible rfl) | (refine' look_no ?x ?y; (case x => decide +kernel); (case y => walk_at "nolk")) | rfl)
local macro_rules | `(tactic| walk_at "fewf") => `(tactic| first | exact Nat.lt_of_le_of_lt (by assumption) (by decide : 9 < 1000) | exact Nat.lt_of_le_of_lt (len_of (by assumption)) (by decide : 9 + 1 < 1000) | exact Nat.lt_of_le_of_lt (len_of (len_of (by assumption))) (by decide : 9 + 1 + 1 < 1000) | exact Nat.lt_of_le_of_lt (Nat.le_refl 0) (by decide) | exact Nat.lt_of_le_of_lt (len_of (Nat.le_refl 0)) (by decide) | exact Nat.lt_of_le_of_lt (len_of (len_of (Nat.le_refl 0))) (by decide) | exact Nat.lt_of_le_of_lt (len_of (len_of (len_of (Nat.le_refl 0)))) (by decide) | exact Nat.lt_of_le_of_lt (len_of (len_of (len_of (len_of (Nat.le_refl 0))))) (by decide))
local macro_rules | `(tactic| walk_at "rk") => `(tactic| repeat (first | walk_at "r1" | walk_at "r3" | walk_at "cond" | walk_at "calls" | walk_at "mine" | ((with_reducible refine' r_eqS ?h ?_); (case h => rfl)) | ((with_reducible refine' r_neS ?h ?_); (case h => rfl)) | ((with_reducible refine' r_fldV ?h ?c ?n ?l ?_); (case h => walk_at "hlk"); (case c => walk_at "cls"); (case n => walk_at "noat"); (case l => walk_at "lk"))))
set_option maxHeartbeats 4000000
section
variable {P : Program} {w : World} {K : PySem.W.Frag} {mg : Str → Option Value} {base : Heap} {a : Adr}
theorem sum_mem {α : Type} (c : α → Nat) {x : α} : ∀ {l : List α}, x ∈ l → c x ≤ (l.map c).sum
 | [], h => by cases h
 | y :: r, h => by
   rw [List.map_cons, List.sum_cons]
   rcases List.mem_cons.mp h with rfl | h
   · omega
   · have := sum_mem c h; omega
theorem at_end {pre : List V} {y : V} : atI (pre ++ [y]) (-1) = some y := by
 have hl : (pre ++ [y]).length = pre.length + 1 := by simp
 unfold atI ixN
 rw [hl, if_neg (by decide), if_pos (by omega)]
 show (pre ++ [y])[((-1 : Int) + ((pre.length + 1 : Nat) : Int)).toNat]? = _
 rw [show ((-1 : Int) + ((pre.length + 1 : Nat) : Int)).toNat = pre.length by omega, List.getElem?_append_right (Nat.le_refl _)]
 simp
theorem get_end {α : Type} {l : List α} {x : α} : (l ++ [x])[l.length]? = some x := by rw [List.getElem?_append_right (Nat.le_refl _), Nat.sub_self]; rfl
theorem parts_of (T : Txt w K mg a) : ∃ kvs, ConR w K a.G_PARTS kvs ∧ ∀ (w' : Str) (ks : List Str), (w', ks) ∈ kindsT → ∃ q, valV (conRV kvs) (.inr w') = some (.ref q) ∧ ∀ H, SqT K H q (ks.map V.str) := by
 obtain ⟨q0, q1, q2, q3, q4, q5, q6, q7, q8, q9, q10, q11, q12, C, t0, t1, t2, t3, t4, t5, t6, t7, t8, t9, t10, t11, t12⟩ := T.d_PARTS
 refine ⟨_, C, fun w' ks h => ?_⟩
 simp only [kindsT, List.mem_cons, Prod.mk.injEq, List.not_mem_nil, or_false] at h
 rcases h with ⟨rfl, rfl⟩ | ⟨rfl, rfl⟩ | ⟨rfl, rfl⟩ | ⟨rfl, rfl⟩ | ⟨rfl, rfl⟩ | ⟨rfl, rfl⟩ | ⟨rfl, rfl⟩ | ⟨rfl, rfl⟩ | ⟨rfl, rfl⟩ | ⟨rfl, rfl⟩ | ⟨rfl, rfl⟩ | ⟨rfl, rfl⟩ | ⟨rfl, rfl⟩
 · exact ⟨q0, rfl, t0⟩
 · exact ⟨q1, rfl, t1⟩
 · exact ⟨q2, rfl, t2⟩
 · exact ⟨q3, rfl, t3⟩
 · exact ⟨q4, rfl, t4⟩
 · exact ⟨q5, rfl, t5⟩
 · exact ⟨q6, rfl, t6⟩
 · exact ⟨q7, rfl, t7⟩
 · exact ⟨q8, rfl, t8⟩
 · exact ⟨q9, rfl, t9⟩
 · exact ⟨q10, rfl, t10⟩
 · exact ⟨q11, rfl, t11⟩
 · exact ⟨q12, rfl, t12⟩
theorem at_last1 {w : V} {pre : List V} {x y : V} : atI (w :: (pre ++ [x, y])) (-1) = some y := by
 have hl : (w :: (pre ++ [x, y])).length = pre.length + 3 := by simp
 unfold atI ixN
 rw [hl, if_neg (by decide), if_pos (by omega)]
 show (w :: (pre ++ [x, y]))[((-1 : Int) + ((pre.length + 3 : Nat) : Int)).toNat]? = _
 rw [show ((-1 : Int) + ((pre.length + 3 : Nat) : Int)).toNat = (pre.length + 1) + 1 by omega, List.getElem?_cons_succ, List.getElem?_append_right (by omega)]
 simp
theorem at_last2 {w : V} {pre : List V} {x y : V} : atI (w :: (pre ++ [x, y])) (-2) = some x := by
 have hl : (w :: (pre ++ [x, y])).length = pre.length + 3 := by simp
 unfold atI ixN
 rw [hl, if_neg (by decide), if_pos (by omega)]
 show (w :: (pre ++ [x, y]))[((-2 : Int) + ((pre.length + 3 : Nat) : Int)).toNat]? = _
 rw [show ((-2 : Int) + ((pre.length + 3 : Nat) : Int)).toNat = pre.length + 1 by omega, List.getElem?_cons_succ, List.getElem?_append_right (by omega)]
 simp
theorem cntL_cons (d : Nat) (s : Stm) (r : List Stm) : cntL d (s :: r) = cnt1 d s + cntL d r := by unfold cntL; rw [List.map_cons, List.sum_cons]
theorem totW_app (a b : List (Nat × List Stm)) : totW (a ++ b) = totW a + totW b := by unfold totW; rw [List.map_append, List.sum_append]
theorem mesW_app (a b : List (Nat × List Stm)) : mesW (a ++ b) = mesW a + mesW b := by unfold mesW; rw [List.map_append, List.sum_append]
theorem totW_in (k : Nat) (bs : List (List Stm)) : totW (bs.map fun b => (k, b)) = (bs.map (cntL (5 - k))).sum := by unfold totW; rw [List.map_map]; rfl
theorem mesW_in (k : Nat) : ∀ bs : List (List Stm), mesW (bs.map fun b => (k, b)) = bs.length + 2 * (bs.map (cntL (5 - k))).sum
 | [] => rfl
 | b :: r => by
   have := mesW_in k r
   unfold mesW at this ⊢
   rw [List.map_cons, List.map_cons, List.sum_cons, this, List.map_cons, List.sum_cons, List.length_cons]
   show 1 + 2 * cntL (5 - k) b + _ = _
   omega
theorem cnt1_pos (d : Nat) (s : Stm) : 1 ≤ cnt1 d s := by
 cases d with
 | zero => exact Nat.le_refl _
 | succ d => cases s <;> simp only [cnt1] <;> omega
theorem cntL_len (d : Nat) : ∀ ss : List Stm, ss.length ≤ cntL d ss
 | [] => Nat.le_refl _
 | s :: r => by
   have := cntL_len d r
   have := cnt1_pos d s
   rw [cntL_cons, List.length_cons]; omega
theorem Each.app {α : Type} {R : Addr → α → Prop} {ps qs : List Addr} {xs ys : List α} (h : Each R ps xs) (k : Each R qs ys) : Each R (ps ++ qs) (xs ++ ys) := by
 refine ⟨by rw [List.length_append, List.length_append, h.1, k.1], fun i p r e1 e2 => ?_⟩
 by_cases hi : i < xs.length
 · rw [List.getElem?_append_left (by rw [h.1]; exact hi)] at e1
   rw [List.getElem?_append_left hi] at e2
   exact h.2 i p r e1 e2
 · rw [List.getElem?_append_right (by rw [h.1]; omega), h.1] at e1
   rw [List.getElem?_append_right (by omega)] at e2
   exact k.2 _ p r e1 e2
theorem Each.last {α : Type} {R : Addr → α → Prop} {ps : List Addr} {xs : List α} (h : Each R ps xs) (hn : 0 < xs.length) : ∃ ps' p xs' x, ps = ps' ++ [p] ∧ xs = xs' ++ [x] ∧ Each R ps' xs' ∧ R p x := by
 have hl := h.1
 have hne : xs ≠ [] := fun z => by rw [z] at hn; cases hn
 have hpe : ps ≠ [] := fun z => by rw [z] at hl; exact hne (List.length_eq_zero_iff.mp hl.symm)
 have e1 := List.dropLast_concat_getLast hne
 have e2 := List.dropLast_concat_getLast hpe
 refine ⟨ps.dropLast, ps.getLast hpe, xs.dropLast, xs.getLast hne, e2.symm, e1.symm, ⟨by rw [List.length_dropLast, List.length_dropLast, hl], fun i p x a1 a2 => ?_⟩, ?_⟩
 · rw [List.getElem?_dropLast] at a1 a2
   split at a1
   · rw [if_pos (by omega)] at a2
     exact h.2 i p x a1 a2
   · cases a1
 · refine h.2 (xs.length - 1) _ _ ?_ ?_
   · rw [← hl, List.getLast_eq_getElem]; exact List.getElem?_eq_getElem _
   · rw [List.getLast_eq_getElem]; exact List.getElem?_eq_getElem _
theorem cntL_take (d : Nat) : ∀ (ss : List Stm) (i : Nat), cntL d (ss.take i) ≤ cntL d ss
 | [], i => by rw [List.take_nil]; exact Nat.le_refl _
 | s :: r, 0 => by rw [List.take_zero]; exact Nat.zero_le _
 | s :: r, i + 1 => by
   have := cntL_take d r i
   rw [List.take_succ_cons, cntL_cons, cntL_cons]; omega
theorem mesW_len : ∀ ws : List (Nat × List Stm), ws.length ≤ mesW ws
 | [] => Nat.le_refl _
 | w :: r => by
   have := mesW_len r
   unfold mesW at this ⊢
   rw [List.map_cons, List.sum_cons, List.length_cons]; omega
theorem lays_le (one : Nat → Stm → Mvs) : ∀ (n : Nat) (ss : List Stm) (i : Nat), (lays one n (ss.take i)).length ≤ (lays one n ss).length
 | n, [], i => by rw [List.take_nil]; exact Nat.le_refl _
 | n, s :: r, 0 => by rw [List.take_zero]; exact Nat.zero_le _
 | n, s :: r, i + 1 => by
   have := lays_le one (n + (one n s).length) r i
   rw [List.take_succ_cons, lays, lays, List.length_append, List.length_append]; omega
def movesD (ss : List Stm) : Mvs := lays (lay1 5 none) 0 ss ++ [(.sm (.leave 7), none)]
def spMovesOf : Sp := fun vs H Q _ => ∃ (l : Addr) (ss : List Stm) (H0 : Hp), vs = [.ref l] ∧ Same H0 H ∧ BdAt (StAt H0 5) H0 l ss ∧ (lays (lay1 5 none) 0 ss).length ≤ 9000 ∧ ∀ m ws H', Same H H' → H m = none → H' m = some (.lst ws) → MvV H0 H' ws (movesD ss) → Q (.ref m) H'
theorem lays_few (one : Nat → Stm → Mvs) (c : Stm → Nat) (h : ∀ n s, (one n s).length ≤ 3 * c s) : ∀ (n : Nat) (ss : List Stm), (lays one n ss).length ≤ 3 * (ss.map c).sum
 | n, [] => Nat.zero_le _
 | n, s :: r => by
   have h1 := lays_few one c h (n + (one n s).length) r
   have h2 := h n s
   rw [lays, List.length_append, List.map_cons, List.sum_cons]; omega
theorem lay1_few : ∀ (d : Nat) (land : Option Nat) (n : Nat) (s : Stm), (lay1 d land n s).length ≤ 3 * cnt1 d s
 | 0, land, n, s => Nat.zero_le _
 | d + 1, land, n, s => by
   cases s with
   | ifS x a b =>
     have h1 := lays_few (lay1 d land) (cnt1 d) (lay1_few d land) (n + 1) a
     have h2 := lays_few (lay1 d land) (cnt1 d) (lay1_few d land) (n + (lays (lay1 d land) (n + 1) a).length + 2) b
     simp only [lay1, cnt1, List.length_cons, List.length_append]; omega
   | whileS x a =>
     have h1 := lays_few (lay1 d land) (cnt1 d) (lay1_few d land) (n + 1) a
     simp only [lay1, cnt1, List.length_cons, List.length_append, List.length_nil]; omega
   | tryS a x b =>
     have h1 := lays_few (lay1 d land) (cnt1 d) (lay1_few d land) (n + 2) b
     have h2 := lays_few (lay1 d (some (n + 1))) (cnt1 d) (lay1_few d (some (n + 1))) (n + (lays (lay1 d land) (n + 2) b).length + 3) a
     simp only [lay1, cnt1, List.length_cons, List.length_append]; omega
   | hand f ns l =>
     cases land <;> simp only [lay1, cnt1, List.length_cons, List.length_nil] <;> omega
   | _ => simp only [lay1, cnt1, List.length_cons, List.length_nil]; omega
theorem moves_few (ss : List Stm) : (lays (lay1 5 none) 0 ss).length ≤ 3 * cntL 5 ss := lays_few _ _ (lay1_few 5 none) 0 ss
theorem MvV.rebase {H0 H0' H : Hp} {ws : List V} {ms : Mvs} (h : MvV H0 H ws ms) (s : ∀ q o, H0 q = some o → ((∃ us, o = .lst us) ∨ (∃ us, o = .tup us)) → H0' q = some o) : MvV H0' H ws ms := by
 have nm : ∀ (ns : List Int) (l : Bool), (∃ us, nmO ns l = .lst us) ∨ (∃ us, nmO ns l = .tup us) := fun ns l => by
   cases l
   · exact .inr ⟨_, rfl⟩
   · exact .inl ⟨_, rfl⟩
 refine ⟨h.1, fun i v m e1 e2 => ?_⟩
 obtain ⟨q, p, k1, k2, k3⟩ := h.2 i v m e1 e2
 refine ⟨q, p, k1, k2, ?_⟩
 obtain ⟨m, land⟩ := m
 cases m with
 | call x f ns l => obtain ⟨q', a1, a2⟩ := k3; exact ⟨q', a1, s _ _ a2 (nm ns l)⟩
 | hand f ns l => obtain ⟨q', a1, a2⟩ := k3; exact ⟨q', a1, s _ _ a2 (nm ns l)⟩
 | _ => exact k3
structure DF (fs : List (Str × V)) (m l : Addr) (k : Int) : Prop where
 moves : fs.lookup ("moves" : Str) = some (.ref m)
 mark : fs.lookup ("mark" : Str) = some (.int k)
 names : fs.lookup ("names" : Str) = some (.ref l)
 len : fs.length ≤ 9
 no : fs.lookup ("last_move" : Str) = none
 no2 : fs.lookup ("lands" : Str) = none
structure RF (fs : List (Str × V)) (bo dg : Addr) (st : Int) (an : V) : Prop where
 bodies : fs.lookup ("bodies" : Str) = some (.ref bo)
 steps : fs.lookup ("steps_left" : Str) = some (.int st)
 doings : fs.lookup ("doings" : Str) = some (.ref dg)
 answer : fs.lookup ("answer" : Str) = some an
 len : fs.length ≤ 9
 no : ∀ x : Str, x ∈ (["begin", "step", "make", "leave", "call", "drop"] : List Str) → fs.lookup x = none
def padN (ns : List Int) : List Int := ns ++ List.replicate (8 - ns.length) 0
theorem padN_len {xs : List Int} (h : xs.length ≤ 8) : (padN xs).length = 8 := by unfold padN; rw [List.length_append, List.length_replicate]; omega
theorem padN_val {xs : List Int} (h : ∀ x ∈ xs, isVal x) : ∀ x ∈ padN xs, isVal x := fun x hx => by
 rcases List.mem_append.mp hx with z | z
 · exact h x z
 · rw [List.eq_of_mem_replicate z]; exact ⟨by decide, by decide⟩
theorem DF.setMark {fs : List (Str × V)} {m l : Addr} {k : Int} (F : DF fs m l k) (n : Int) : DF (putF "mark" (.int n) fs) m l n :=
 ⟨look_of (by decide +kernel) F.moves, look_hit, look_of (by decide +kernel) F.names, by rw [putF_len F.mark]; exact F.len, look_no (by decide +kernel) F.no, look_no (by decide +kernel) F.no2⟩
theorem RF.noPut {fs : List (Str × V)} {f : Str} {v : V} (h : ∀ x : Str, x ∈ (["begin", "step", "make", "leave", "call", "drop"] : List Str) → fs.lookup x = none) (hf : f ∉ (["begin", "step", "make", "leave", "call", "drop"] : List Str)) : ∀ x : Str, x ∈ (["begin", "step", "make", "leave", "call", "drop"] : List Str) → (putF f v fs).lookup x = none := fun x hx => look_no (fun e => hf (e ▸ hx)) (h x hx)
theorem RF.setSteps {fs : List (Str × V)} {bo dg : Addr} {st : Int} {an : V} (F : RF fs bo dg st an) (n : Int) : RF (putF "steps_left" (.int n) fs) bo dg n an :=
 ⟨look_of (by decide +kernel) F.bodies, look_hit, look_of (by decide +kernel) F.doings, look_of (by decide +kernel) F.answer, by rw [putF_len F.steps]; exact F.len, RF.noPut F.no (by decide +kernel)⟩
theorem val_mod (x : Int) : isVal (x % 4294967296) := ⟨by omega, by omega⟩
theorem Sm.isval {s : Sm} {ns : List Int} (hv : ∀ x ∈ ns, isVal x) (ok : s.ok) : isVal (s.val ns) := by
 cases s with
 | set x v => exact ok.2
 | copy x y => exact gI_any hv y
 | sum x y z => exact val_mod _
 | minus x y z => exact val_mod _
 | product x y z => exact val_mod _
 | less x y z =>
   show isVal (if gI ns y < gI ns z then 1 else 0)
   split <;> exact ⟨by decide, by decide⟩
 | give x => exact (show isVal 0 from ⟨by decide, by decide⟩)
 | leave x => exact (show isVal 0 from ⟨by decide, by decide⟩)
inductive An where
 | gave (v : Int) | dropped (v : Int) | tired | deep
def An.vs : An → List V
 | .gave v => [.str "gave", .int v]
 | .dropped v => [.str "dropped", .int v]
 | .tired => [.str "tired"]
 | .deep => [.str "deep"]
structure Dg where
 b : Nat
 k : Nat
 ns : List Int
inductive Rs where
 | run (st : Int) (gs : List Dg) | ans (an : An)
def Mv.cnt : Mv → Bool
 | .go _ => false
 | .sm (.leave _) => false
 | _ => true
def mvAt (bs : List Mvs) (b k : Nat) : Option (Mv × Option Nat) := (bs[b]?).bind fun ms => ms[k]?
def leaveM (bs : List Mvs) (st : Int) (gs : List Dg) (v : Int) : Option Rs := match gs.getLast? with
 | none => some (.ans (.gave v))
 | some g => if g.k = 0 then none else match mvAt bs g.b (g.k - 1) with
   | some (.call x _ _ _, _) => some (.run st (gs.dropLast ++ [{ g with ns := sI g.ns x v }]))
   | _ => none
def dropM (bs : List Mvs) (st : Int) (v : Int) : List Dg → Option Rs
 | [] => some (.ans (.dropped v))
 | g :: r => if g.k = 0 then none else match mvAt bs g.b (g.k - 1) with
   | some (_, none) => dropM bs st v r
   | some (_, some o) => match mvAt bs g.b o with
     | some (.land x, _) => some (.run st ((⟨g.b, o + 1, sI g.ns x v⟩ :: r).reverse))
     | _ => none
   | none => none
def makeM (bs : List Mvs) (st : Int) (gs : List Dg) (g : Dg) (m : Mv) : Option Rs := match m with
 | .test x o => some (.run st (gs ++ [if gI g.ns x = 0 then { g with k := o } else { g with k := g.k + 1 }]))
 | .go o => some (.run st (gs ++ [{ g with k := o }]))
 | .tr o => some (.run st (gs ++ [{ g with k := o }]))
 | .call _ f ns _ => if 20 < gs.length + 1 then some (.ans .deep) else some (.run st (gs ++ [{ g with k := g.k + 1 }, ⟨f.toNat, 0, padN (ns.map (gI g.ns))⟩]))
 | .hand f ns _ => some (.run st (gs ++ [⟨f.toNat, 0, padN (ns.map (gI g.ns))⟩]))
 | .drop x => dropM bs st (gI g.ns x) ({ g with k := g.k + 1 } :: gs.reverse)
 | .land _ => none
 | .sm (.give x) => leaveM bs st gs (gI g.ns x)
 | .sm (.leave x) => leaveM bs st gs (gI g.ns x)
 | .sm s => some (.run st (gs ++ [{ g with k := g.k + 1, ns := s.done g.ns }]))
def stepM (bs : List Mvs) (st : Int) (gs : List Dg) : Option Rs := match gs.getLast? with
 | none => none
 | some g => match mvAt bs g.b g.k with
   | none => none
   | some (m, _) => if m.cnt = true ∧ st ≤ 0 then some (.ans .tired) else makeM bs (if m.cnt = true then st - 1 else st) gs.dropLast g m
def runM (bs : List Mvs) : Nat → Rs → Option An
 | _, .ans an => some an
 | 0, .run _ _ => none
 | n + 1, .run st gs => (stepM bs st gs).bind (runM bs n)
def DoAt (a : Adr) (mls : List Addr) (H : Hp) (x ln : Addr) (g : Dg) : Prop := ∃ dx fs m, H x = some (.ins a.C_Doing dx fs) ∧ mls[g.b]? = some m ∧ DF fs m ln g.k ∧ H ln = some (.lst (g.ns.map V.int)) ∧ g.ns.length = 8 ∧ ∀ v ∈ g.ns, isVal v
def Mv.ok (n : Nat) : Mv → Prop
 | .sm s => s.ok ∨ s = .leave 6 ∨ s = .leave 7
 | .call x f ns _ => 0 ≤ x ∧ x ≤ 6 ∧ 0 ≤ f ∧ f < n ∧ (∀ y ∈ ns, isN y) ∧ ns.length ≤ 3
 | .hand f ns _ => 0 ≤ f ∧ f < n ∧ (∀ y ∈ ns, isN y) ∧ ns.length ≤ 3
 | .drop x => isN x
 | .test x _ => isN x
 | .land x => isN x
 | .go _ | .tr _ => True
structure Bds (H0 HB : Hp) (r bo dg : Addr) (mls : List Addr) (bs : List Mvs) : Prop where
 ll : mls.length = bs.length
 hb : HB bo = some (.lst (mls.map V.ref))
 ms : ∀ (i : Nat) (m : Addr) (b : Mvs), mls[i]? = some m → bs[i]? = some b → ∃ ws, HB m = some (.lst ws) ∧ MvV H0 HB ws b ∧ m ≠ r ∧ m ≠ dg
 n1 : bo ≠ r
 n2 : bo ≠ dg
 n3 : r ≠ dg
 h0 : Same H0 HB
 h1 : H0 r = none
 h2 : H0 dg = none
 hr : ∃ C dx fs, HB r = some (.ins C dx fs)
 hg : ∃ us, HB dg = some (.lst us)
 ok : ∀ b ∈ bs, ∀ m ∈ b, m.1.ok bs.length
structure RSt (a : Adr) (HB H : Hp) (r dr bo dg : Addr) (mls xs lns : List Addr) (gs : List Dg) (st : Int) : Prop where
 kb : ∀ b o, HB b = some o → b ≠ r → b ≠ dg → H b = some o
 hr : ∃ fs, H r = some (.ins a.C_Run dr fs) ∧ RF fs bo dg st .non
 hg : H dg = some (.lst (xs.map V.ref))
 lx : xs.length = gs.length
 ll : lns.length = gs.length
 ds : ∀ (i : Nat) (x ln : Addr) (g : Dg), xs[i]? = some x → lns[i]? = some ln → gs[i]? = some g → DoAt a mls H x ln g
 ndx : xs.Nodup
 ndl : lns.Nodup
 nx : ∀ x ∈ xs, HB x = none
 nl : ∀ l ∈ lns, HB l = none
def RDone (a : Adr) (H : Hp) (r dr : Addr) (an : An) : Prop := ∃ fs t, H r = some (.ins a.C_Run dr fs) ∧ fs.lookup ("answer" : Str) = some (.ref t) ∧ H t = some (.tup an.vs)
def Mv.word : Mv → Str
 | .sm s => match s with
   | .set .. => "set" | .copy .. => "copy" | .sum .. => "sum" | .minus .. => "minus" | .product .. => "product" | .less .. => "less" | .give .. => "give" | .leave .. => "leave"
 | .call .. => "call" | .hand .. => "hand" | .drop .. => "drop" | .test .. => "test" | .go .. => "go" | .tr .. => "try" | .land .. => "land"
theorem MvP.word {H0 H : Hp} {p : Addr} {m : Mv} (h : MvP H0 H p m) : ∃ r, H p = some (.tup (.str m.word :: r)) := by
 cases m with
 | sm s => cases s <;> exact ⟨_, h⟩
 | call x f ns l => obtain ⟨q, h1, _⟩ := h; exact ⟨_, h1⟩
 | hand f ns l => obtain ⟨q, h1, _⟩ := h; exact ⟨_, h1⟩
 | _ => exact ⟨_, h⟩
theorem Mv.inU (m : Mv) : inV (.str m.word) [.str "go", .str "leave"] = !m.cnt := by
 cases m with
 | sm s => cases s <;> rfl
 | _ => rfl
def spReck : Sp := fun vs H Q _ => ∃ (m l : Addr) (s : Sm) (ns : List Int), vs = [.ref m, .ref l] ∧ H m = some (.tup s.vs) ∧ s.fills ∧ s.ok ∧ H l = some (.lst (ns.map V.int)) ∧ ns.length = 8 ∧ (∀ x ∈ ns, isVal x) ∧ Q (.int (s.val ns)) H
def spDoing (a : Adr) : Sp := fun vs H Q _ => ∃ (x dx m v : Addr) (ns : List Int), vs = [.ref x, .ref m, .ref v] ∧ H x = some (.ins a.C_Doing dx []) ∧ H v = some (.lst (ns.map V.int)) ∧ ns.length ≤ 3 ∧
 ∀ l fs H', H l = none → (∀ b o, H b = some o → b ≠ x → H' b = some o) → H' x = some (.ins a.C_Doing dx fs) → DF fs m l 0 → H' l = some (.lst ((padN ns).map V.int)) → Q .non H'
def spLast (a : Adr) : Sp := fun vs H Q _ => ∃ (x dx m l q p : Addr) (fs : List (Str × V)) (k : Nat) (ws : List V) (u : V), vs = [.ref x] ∧ H x = some (.ins a.C_Doing dx fs) ∧ DF fs m l ((k : Int) + 1) ∧ H m = some (.lst ws) ∧ ws[k]? = some (.ref q) ∧ H q = some (.tup [.ref p, u]) ∧ Q (.ref p) H
def spLandsN (a : Adr) : Sp := fun vs H Q _ => ∃ (x dx m l q p : Addr) (fs : List (Str × V)) (k : Nat) (ws : List V) (v : Int), vs = [.ref x, .int v] ∧ H x = some (.ins a.C_Doing dx fs) ∧ DF fs m l ((k : Int) + 1) ∧ H m = some (.lst ws) ∧ ws[k]? = some (.ref q) ∧ H q = some (.tup [.ref p, .non]) ∧ Q (.bl false) H
def spLandsY (a : Adr) : Sp := fun vs H Q _ => ∃ (x dx m l q p q2 p2 : Addr) (fs : List (Str × V)) (k o : Nat) (ws : List V) (v y : Int) (u2 : V) (ns : List Int), vs = [.ref x, .int v] ∧ H x = some (.ins a.C_Doing dx fs) ∧ DF fs m l ((k : Int) + 1) ∧ H m = some (.lst ws) ∧ ws[k]? = some (.ref q) ∧ H q = some (.tup [.ref p, .int (o : Int)]) ∧ ws[o]? = some (.ref q2) ∧ H q2 = some (.tup [.ref p2, u2]) ∧ H p2 = some (.tup [.str "land", .int y]) ∧ 0 ≤ y ∧ y ≤ 7 ∧ H l = some (.lst (ns.map V.int)) ∧ ns.length = 8 ∧ l ≠ x ∧
 ∀ fs', DF fs' m l ((o : Int) + 1) → Q (.bl true) (upd (upd H l (.lst ((sI ns y v).map V.int))) x (.ins a.C_Doing dx fs'))
def spLands (a : Adr) : Sp := fun vs H Q E => spLandsN a vs H Q E ∨ spLandsY a vs H Q E
def spBegin (a : Adr) : Sp := fun vs H Q _ => ∃ (r dr bo dg m v : Addr) (fs : List (Str × V)) (st : Int) (ns : List Int) (f : Nat) (us xs : List V), vs = [.ref r, .int (f : Int), .ref v] ∧ H r = some (.ins a.C_Run dr fs) ∧ RF fs bo dg st .non ∧ H bo = some (.lst us) ∧ us[f]? = some (.ref m) ∧ H dg = some (.lst xs) ∧ xs.length ≤ 100 ∧ H v = some (.lst (ns.map V.int)) ∧ ns.length ≤ 3 ∧ v ≠ dg ∧
 ∀ x dx l fs' H', H x = none → H l = none → x ≠ l → (∀ b o, H b = some o → b ≠ dg → H' b = some o) → H' dg = some (.lst (xs ++ [.ref x])) → H' x = some (.ins a.C_Doing dx fs') → DF fs' m l 0 → H' l = some (.lst ((padN ns).map V.int)) → Q .non H'
def spRunI (a : Adr) : Sp := fun vs H Q _ => ∃ (x dx pr : Addr) (st : Int) (fs : List (Int × List Stm)), vs = [.ref x, .ref pr, .int st] ∧ H x = some (.ins a.C_Run dx []) ∧ ProgAt H pr fs ∧ ProgOk fs ∧
 ∀ (bo dg : Addr) (mls : List Addr) (rf : List (Str × V)) (H' : Hp), H bo = none → H dg = none → bo ≠ dg → mls.length = fs.length → (∀ b o, H b = some o → b ≠ x → H' b = some o) → H' x = some (.ins a.C_Run dx rf) → RF rf bo dg st .non → H' bo = some (.lst (mls.map V.ref)) → H' dg = some (.lst []) →
   (∀ (i : Nat) (m : Addr) (f : Int × List Stm), mls[i]? = some m → fs[i]? = some f → ∃ ws, H' m = some (.lst ws) ∧ MvV H H' ws (movesD f.2) ∧ H m = none ∧ m ≠ dg) → Q .non H'
section
variable {a : Adr} {H0 HB H H' : Hp} {r dr bo dg : Addr} {mls xs lns : List Addr} {gs : List Dg} {bs : List Mvs} {st : Int}
def KeptR (HB H : Hp) (r dg : Addr) : Prop := ∀ b o, HB b = some o → b ≠ r → b ≠ dg → H b = some o
def RsAt (a : Adr) (HB H : Hp) (r dr bo dg : Addr) (mls : List Addr) : Rs → Prop
 | .run st gs => ∃ xs lns, RSt a HB H r dr bo dg mls xs lns gs st
 | .ans an => RDone a H r dr an ∧ KeptR HB H r dg
theorem DoAt.keep {x ln : Addr} {g : Dg} (h : DoAt a mls H x ln g) (k1 : ∀ o, H x = some o → H' x = some o) (k2 : ∀ o, H ln = some o → H' ln = some o) : DoAt a mls H' x ln g := by
 obtain ⟨dx, fs, m, h1, h2, h3, h4, h5⟩ := h
 exact ⟨dx, fs, m, k1 _ h1, h2, h3, k2 _ h4, h5⟩
theorem mem_get {α : Type} {l : List α} {x : α} (h : x ∈ l) : ∃ i : Nat, l[i]? = some x := List.mem_iff_getElem?.mp h
theorem get_lt {α : Type} {l : List α} {i : Nat} {x : α} (h : l[i]? = some x) : i < l.length := (List.getElem?_eq_some_iff.mp h).1
theorem RSt.xins (R : RSt a HB H r dr bo dg mls xs lns gs st) {x : Addr} (hx : x ∈ xs) : ∃ dx fs, H x = some (.ins a.C_Doing dx fs) := by
 obtain ⟨i, hi⟩ := mem_get hx
 have h1 : i < gs.length := by rw [← R.lx]; exact get_lt hi
 have h2 : i < lns.length := by rw [R.ll]; exact h1
 obtain ⟨dx, fs, m, e, _⟩ := R.ds i x _ _ hi (List.getElem?_eq_getElem h2) (List.getElem?_eq_getElem h1)
 exact ⟨dx, fs, e⟩
theorem RSt.llst (R : RSt a HB H r dr bo dg mls xs lns gs st) {l : Addr} (hl : l ∈ lns) : ∃ us, H l = some (.lst us) := by
 obtain ⟨i, hi⟩ := mem_get hl
 have h1 : i < gs.length := by rw [← R.ll]; exact get_lt hi
 have h2 : i < xs.length := by rw [R.lx]; exact h1
 obtain ⟨dx, fs, m, _, _, _, e, _⟩ := R.ds i _ l _ (List.getElem?_eq_getElem h2) hi (List.getElem?_eq_getElem h1)
 exact ⟨_, e⟩
theorem RSt.left (B : Bds H0 HB r bo dg mls bs) (R : RSt a HB H r dr bo dg mls xs lns gs st) {fs : List (Str × V)} {n : Int} (F : RF fs bo dg n .non) : RSt a HB (upd H r (.ins a.C_Run dr fs)) r dr bo dg mls xs lns gs n := by
 obtain ⟨_, _, _, hro⟩ := B.hr
 have nx : ∀ x ∈ xs, x ≠ r := fun x hx z => by rw [z] at hx; have := R.nx r hx; rw [hro] at this; cases this
 have nl : ∀ l ∈ lns, l ≠ r := fun l hl z => by rw [z] at hl; have := R.nl r hl; rw [hro] at this; cases this
 refine ⟨fun b o e n1 n2 => by rw [upd_ne n1]; exact R.kb b o e n1 n2, ⟨fs, upd_same, F⟩, by rw [upd_ne B.n3.symm]; exact R.hg, R.lx, R.ll, fun i x ln g e1 e2 e3 => ?_, R.ndx, R.ndl, R.nx, R.nl⟩
 exact (R.ds i x ln g e1 e2 e3).keep (fun o e => by rw [upd_ne (nx x (List.mem_of_getElem? e1))]; exact e) (fun o e => by rw [upd_ne (nl ln (List.mem_of_getElem? e2))]; exact e)
theorem RSt.same (R : RSt a HB H r dr bo dg mls xs lns gs st) (s : Same H H') : RSt a HB H' r dr bo dg mls xs lns gs st :=
 ⟨fun b o e n1 n2 => s _ _ (R.kb b o e n1 n2), let ⟨fs, e, F⟩ := R.hr; ⟨fs, s _ _ e, F⟩, s _ _ R.hg, R.lx, R.ll, fun i x ln g e1 e2 e3 => (R.ds i x ln g e1 e2 e3).keep (fun o e => s _ _ e) (fun o e => s _ _ e), R.ndx, R.ndl, R.nx, R.nl⟩
theorem RSt.top {x ln : Addr} {g g' : Dg} (B : Bds H0 HB r bo dg mls bs) (R : RSt a HB H r dr bo dg mls (xs ++ [x]) (lns ++ [ln]) (gs ++ [g]) st) (k : ∀ b o, H b = some o → b ≠ x → b ≠ ln → H' b = some o) (D : DoAt a mls H' x ln g') : RSt a HB H' r dr bo dg mls (xs ++ [x]) (lns ++ [ln]) (gs ++ [g']) st := by
 have lx : xs.length = gs.length := by have := R.lx; rw [List.length_append, List.length_append] at this; exact Nat.add_right_cancel this
 have ll : lns.length = gs.length := by have := R.ll; rw [List.length_append, List.length_append] at this; exact Nat.add_right_cancel this
 have hxm : x ∈ xs ++ [x] := List.mem_append_right _ (List.mem_singleton.mpr rfl)
 have hlm : ln ∈ lns ++ [ln] := List.mem_append_right _ (List.mem_singleton.mpr rfl)
 obtain ⟨dx0, fs0, ex⟩ := R.xins hxm
 obtain ⟨us0, el⟩ := R.llst hlm
 obtain ⟨_, _, _, hro⟩ := B.hr
 obtain ⟨o2, hgo⟩ := B.hg
 have rx : r ≠ x := fun z => by have := R.nx x hxm; rw [← z, hro] at this; cases this
 have rl : r ≠ ln := fun z => by have := R.nl ln hlm; rw [← z, hro] at this; cases this
 have gx : dg ≠ x := fun z => by have := R.nx x hxm; rw [← z, hgo] at this; cases this
 have gl : dg ≠ ln := fun z => by have := R.nl ln hlm; rw [← z, hgo] at this; cases this
 refine ⟨fun b o e n1 n2 => k b o (R.kb b o e n1 n2) (fun z => by have := R.nx x hxm; rw [← z, e] at this; cases this) (fun z => by have := R.nl ln hlm; rw [← z, e] at this; cases this), ?_, k _ _ R.hg gx gl, by rw [List.length_append, List.length_append, lx]; rfl, by rw [List.length_append, List.length_append, ll]; rfl, fun i y l g2 e1 e2 e3 => ?_, R.ndx, R.ndl, R.nx, R.nl⟩
 · obtain ⟨fs, e, F⟩ := R.hr
   exact ⟨fs, k _ _ e rx rl, F⟩
 · by_cases hi : i < gs.length
   · have nyx : y ≠ x := fun z => by
       rw [List.getElem?_append_left (by omega)] at e1
       have hd := (List.nodup_append.mp R.ndx).2.2
       exact hd y (List.mem_of_getElem? e1) x (List.mem_singleton.mpr rfl) z
     have nll : l ≠ ln := fun z => by
       rw [List.getElem?_append_left (by omega)] at e2
       have hd := (List.nodup_append.mp R.ndl).2.2
       exact hd l (List.mem_of_getElem? e2) ln (List.mem_singleton.mpr rfl) z
     obtain ⟨dy, fy, ey⟩ := R.xins (List.mem_of_getElem? e1)
     obtain ⟨ul, elu⟩ := R.llst (List.mem_of_getElem? e2)
     have nyl : y ≠ ln := fun z => by rw [z, el] at ey; cases ey
     have nlx : l ≠ x := fun z => by rw [z, ex] at elu; cases elu
     have e3' : (gs ++ [g])[i]? = some g2 := by rw [List.getElem?_append_left hi] at e3 ⊢; exact e3
     exact (R.ds i y l g2 e1 e2 e3').keep (fun o e => k _ _ e nyx nyl) (fun o e => k _ _ e nlx nll)
   · have ei : i = gs.length := by have := get_lt e3; rw [List.length_append] at this; have : i < gs.length + 1 := this; omega
     subst ei
     rw [List.getElem?_append_right (Nat.le_refl _), Nat.sub_self] at e3
     rw [List.getElem?_append_right (by omega), show gs.length - xs.length = 0 by omega] at e1
     rw [List.getElem?_append_right (by omega), show gs.length - lns.length = 0 by omega] at e2
     cases e1; cases e2; cases e3
     exact D
theorem nd_app {α : Type} {l : List α} {x : α} (h : (l ++ [x]).Nodup) : l.Nodup := (List.nodup_append.mp h).1
theorem RSt.pop {x ln : Addr} {g : Dg} (B : Bds H0 HB r bo dg mls bs) (R : RSt a HB H r dr bo dg mls (xs ++ [x]) (lns ++ [ln]) (gs ++ [g]) st) : RSt a HB (upd H dg (.lst (xs.map V.ref))) r dr bo dg mls xs lns gs st := by
 have lx : xs.length = gs.length := by have := R.lx; rw [List.length_append, List.length_append] at this; exact Nat.add_right_cancel this
 have ll : lns.length = gs.length := by have := R.ll; rw [List.length_append, List.length_append] at this; exact Nat.add_right_cancel this
 obtain ⟨o2, hgo⟩ := B.hg
 have nx : ∀ y ∈ xs ++ [x], y ≠ dg := fun y hy z => by have := R.nx y hy; rw [z, hgo] at this; cases this
 have nl : ∀ y ∈ lns ++ [ln], y ≠ dg := fun y hy z => by have := R.nl y hy; rw [z, hgo] at this; cases this
 refine ⟨fun b o e n1 n2 => by rw [upd_ne n2]; exact R.kb b o e n1 n2, ?_, upd_same, lx, ll, fun i y l g2 e1 e2 e3 => ?_, nd_app R.ndx, nd_app R.ndl, fun y hy => R.nx y (List.mem_append_left _ hy), fun y hy => R.nl y (List.mem_append_left _ hy)⟩
 · obtain ⟨fs, e, F⟩ := R.hr
   exact ⟨fs, by rw [upd_ne B.n3]; exact e, F⟩
 · have hx : y ∈ xs ++ [x] := List.mem_append_left _ (List.mem_of_getElem? e1)
   have hl : l ∈ lns ++ [ln] := List.mem_append_left _ (List.mem_of_getElem? e2)
   have a1 : (xs ++ [x])[i]? = some y := by rw [List.getElem?_append_left (get_lt e1)]; exact e1
   have a2 : (lns ++ [ln])[i]? = some l := by rw [List.getElem?_append_left (get_lt e2)]; exact e2
   have a3 : (gs ++ [g])[i]? = some g2 := by rw [List.getElem?_append_left (get_lt e3)]; exact e3
   exact (R.ds i y l g2 a1 a2 a3).keep (fun o e => by rw [upd_ne (nx y hx)]; exact e) (fun o e => by rw [upd_ne (nl l hl)]; exact e)
theorem RSt.push {x ln : Addr} {g : Dg} (B : Bds H0 HB r bo dg mls bs) (R : RSt a HB H r dr bo dg mls xs lns gs st) (nx : H x = none) (nl : H ln = none) (nxb : HB x = none) (nlb : HB ln = none) (k : ∀ b o, H b = some o → b ≠ dg → H' b = some o) (hg : H' dg = some (.lst (xs.map V.ref ++ [.ref x]))) (D : DoAt a mls H' x ln g) : RSt a HB H' r dr bo dg mls (xs ++ [x]) (lns ++ [ln]) (gs ++ [g]) st := by
 obtain ⟨o2, hgo⟩ := B.hg
 have hxx : x ∉ xs := fun z => by obtain ⟨dx, fs, e⟩ := R.xins z; rw [nx] at e; cases e
 have hll : ln ∉ lns := fun z => by obtain ⟨us, e⟩ := R.llst z; rw [nl] at e; cases e
 refine ⟨fun b o e n1 n2 => k b o (R.kb b o e n1 n2) n2, ?_, by rw [hg, List.map_append]; rfl, by rw [List.length_append, List.length_append, R.lx]; rfl, by rw [List.length_append, List.length_append, R.ll]; rfl, fun i y l g2 e1 e2 e3 => ?_, ?_, ?_, fun y hy => ?_, fun y hy => ?_⟩
 · obtain ⟨fs, e, F⟩ := R.hr
   exact ⟨fs, k _ _ e B.n3, F⟩
 · by_cases hi : i < gs.length
   · rw [List.getElem?_append_left (by rw [R.lx]; exact hi)] at e1
     rw [List.getElem?_append_left (by rw [R.ll]; exact hi)] at e2
     rw [List.getElem?_append_left hi] at e3
     have ny : y ≠ dg := fun z => by have := R.nx y (List.mem_of_getElem? e1); rw [z, hgo] at this; cases this
     have nll : l ≠ dg := fun z => by have := R.nl l (List.mem_of_getElem? e2); rw [z, hgo] at this; cases this
     exact (R.ds i y l g2 e1 e2 e3).keep (fun o e => k _ _ e ny) (fun o e => k _ _ e nll)
   · have ei : i = gs.length := by have := get_lt e3; rw [List.length_append] at this; have : i < gs.length + 1 := this; omega
     subst ei
     rw [List.getElem?_append_right (Nat.le_refl _), Nat.sub_self] at e3
     rw [List.getElem?_append_right (by rw [R.lx]; exact Nat.le_refl _), R.lx, Nat.sub_self] at e1
     rw [List.getElem?_append_right (by rw [R.ll]; exact Nat.le_refl _), R.ll, Nat.sub_self] at e2
     cases e1; cases e2; cases e3
     exact D
 · exact List.nodup_append.mpr ⟨R.ndx, by simp, fun y hy z hz e => by have : z = x := by simpa using hz
                                                                      rw [e, this] at hy; exact hxx hy⟩
 · exact List.nodup_append.mpr ⟨R.ndl, by simp, fun y hy z hz e => by have : z = ln := by simpa using hz
                                                                      rw [e, this] at hy; exact hll hy⟩
 · rcases List.mem_append.mp hy with z | z
   · exact R.nx y z
   · have : y = x := by simpa using z
     rw [this]; exact nxb
 · rcases List.mem_append.mp hy with z | z
   · exact R.nl y z
   · have : y = ln := by simpa using z
     rw [this]; exact nlb
theorem RSt.last (R : RSt a HB H r dr bo dg mls xs lns gs st) (hn : gs ≠ []) : ∃ xs' x lns' ln gs' g, xs = xs' ++ [x] ∧ lns = lns' ++ [ln] ∧ gs = gs' ++ [g] ∧ DoAt a mls H x ln g := by
 have lx := R.lx
 have ll := R.ll
 have hp : 0 < gs.length := List.length_pos_iff.mpr hn
 have hxn : xs ≠ [] := fun z => by rw [z] at lx; exact hn (List.length_eq_zero_iff.mp lx.symm)
 have hln : lns ≠ [] := fun z => by rw [z] at ll; exact hn (List.length_eq_zero_iff.mp ll.symm)
 refine ⟨_, _, _, _, _, _, (List.dropLast_concat_getLast hxn).symm, (List.dropLast_concat_getLast hln).symm, (List.dropLast_concat_getLast hn).symm, R.ds (gs.length - 1) _ _ _ ?_ ?_ ?_⟩
 · rw [List.getLast_eq_getElem, ← lx]; exact List.getElem?_eq_getElem _
 · rw [List.getLast_eq_getElem, ← ll]; exact List.getElem?_eq_getElem _
 · rw [List.getLast_eq_getElem]; exact List.getElem?_eq_getElem _
theorem RSt.none (R : RSt a HB H r dr bo dg mls xs lns gs st) (B : Bds H0 HB r bo dg mls bs) {x : Addr} (h : H x = none) : HB x = none := by
 cases e : HB x with
 | none => rfl
 | some o =>
   by_cases h1 : x = r
   · obtain ⟨fs, e1, _⟩ := R.hr; rw [h1, e1] at h; cases h
   · by_cases h2 : x = dg
     · rw [h2, R.hg] at h; cases h
     · rw [R.kb x o e h1 h2] at h; cases h
end
section
variable {a : Adr} {H0 HB H H' : Hp} {r dr bo dg : Addr} {mls xs lns : List Addr} {gs : List Dg} {bs : List Mvs} {st : Int}
theorem Bds.mv (B : Bds H0 HB r bo dg mls bs) (kb : KeptR HB H r dg) {b k : Nat} {m : Addr} {mv : Mv × Option Nat} (hm : mls[b]? = some m) (h : mvAt bs b k = some mv) : ∃ ws q p, H m = some (.lst ws) ∧ ws[k]? = some (.ref q) ∧ H q = some (.tup [.ref p, landV mv.2]) ∧ MvP H0 H p mv.1 ∧ mv.1.ok bs.length := by
 unfold mvAt at h
 obtain ⟨ms, h1, h2⟩ := Option.bind_eq_some_iff.mp h
 obtain ⟨ws, e1, e2, n1, n2⟩ := B.ms b m ms hm h1
 obtain ⟨C, dx, fs, hro⟩ := B.hr
 obtain ⟨us, hgo⟩ := B.hg
 have tk : ∀ b xs, HB b = some (.tup xs) → H b = some (.tup xs) := fun b xs e => kb b _ e (fun z => by rw [z, hro] at e; cases e) (fun z => by rw [z, hgo] at e; cases e)
 have hk : k < ws.length := by rw [e2.1]; exact (List.getElem?_eq_some_iff.mp h2).1
 obtain ⟨q, p, k1, k2, k3⟩ := e2.2 k _ mv (List.getElem?_eq_getElem hk) h2
 exact ⟨ws, q, p, kb _ _ e1 n1 n2, by rw [List.getElem?_eq_getElem hk, k1], tk _ _ k2, k3.to tk, B.ok ms (List.mem_of_getElem? h1) mv (List.mem_of_getElem? h2)⟩
theorem Bds.boAt (B : Bds H0 HB r bo dg mls bs) (kb : KeptR HB H r dg) : H bo = some (.lst (mls.map V.ref)) := kb _ _ B.hb B.n1 B.n2
end
def spCallR (a : Adr) : Sp := fun vs H Q _ => ∃ (H0 HB : Hp) (r dr bo dg v : Addr) (mls xs lns : List Addr) (gs : List Dg) (bs : List Mvs) (st : Int) (f : Nat) (ns : List Int), vs = [.ref r, .int (f : Int), .ref v] ∧ Bds H0 HB r bo dg mls bs ∧ RSt a HB H r dr bo dg mls xs lns gs st ∧ f < bs.length ∧ H v = some (.lst (ns.map V.int)) ∧ ns.length ≤ 3 ∧ (∀ x ∈ ns, isVal x) ∧ v ≠ dg ∧ gs.length ≤ 50 ∧
 ∀ H', RsAt a HB H' r dr bo dg mls (if 20 < gs.length then .ans .deep else .run st (gs ++ [⟨f, 0, padN ns⟩])) → Q .non H'
def spLeaveR (a : Adr) : Sp := fun vs H Q _ => ∃ (H0 HB : Hp) (r dr bo dg x ln : Addr) (mls xs lns : List Addr) (gs : List Dg) (g : Dg) (bs : List Mvs) (st v : Int) (rs : Rs), vs = [.ref r, .int v] ∧ Bds H0 HB r bo dg mls bs ∧ RSt a HB H r dr bo dg mls (xs ++ [x]) (lns ++ [ln]) (gs ++ [g]) st ∧ isVal v ∧ leaveM bs st gs v = some rs ∧ gs.length ≤ 50 ∧
 ∀ H', RsAt a HB H' r dr bo dg mls rs → Q .non H'
def spDropR (a : Adr) : Sp := fun vs H Q _ => ∃ (H0 HB : Hp) (r dr bo dg : Addr) (mls xs lns : List Addr) (gs : List Dg) (bs : List Mvs) (st v : Int) (rs : Rs), vs = [.ref r, .int v] ∧ Bds H0 HB r bo dg mls bs ∧ RSt a HB H r dr bo dg mls xs lns gs st ∧ isVal v ∧ dropM bs st v gs.reverse = some rs ∧ gs.length ≤ 50 ∧
 ∀ H', RsAt a HB H' r dr bo dg mls rs → Q .non H'
theorem Bds.h0At {H0 HB H : Hp} {r bo dg : Addr} {mls : List Addr} {bs : List Mvs} (B : Bds H0 HB r bo dg mls bs) (kb : KeptR HB H r dg) {q : Addr} {o : HO} (h : H0 q = some o) : H q = some o := kb _ _ (B.h0 _ _ h) (ne_of_none h B.h1) (ne_of_none h B.h2)
def spMakeR (a : Adr) : Sp := fun vs H Q _ => ∃ (H0 HB : Hp) (r dr bo dg x ln p : Addr) (mls xs lns : List Addr) (gs : List Dg) (g : Dg) (bs : List Mvs) (st : Int) (m : Mv) (rs : Rs), vs = [.ref r, .ref x, .ref p] ∧ Bds H0 HB r bo dg mls bs ∧ RSt a HB H r dr bo dg mls (xs ++ [x]) (lns ++ [ln]) (gs ++ [{ g with k := g.k + 1 }]) st ∧ MvP H0 H p m ∧ m.ok bs.length ∧ makeM bs st gs g m = some rs ∧ gs.length ≤ 40 ∧
 ∀ H', RsAt a HB H' r dr bo dg mls rs → Q .non H'
def spStepR (a : Adr) : Sp := fun vs H Q _ => ∃ (H0 HB : Hp) (r dr bo dg : Addr) (mls xs lns : List Addr) (gs : List Dg) (bs : List Mvs) (st : Int) (rs : Rs), vs = [.ref r] ∧ Bds H0 HB r bo dg mls bs ∧ RSt a HB H r dr bo dg mls xs lns gs st ∧ stepM bs st gs = some rs ∧ gs.length ≤ 41 ∧
 ∀ H', RsAt a HB H' r dr bo dg mls rs → Q .non H'
theorem lays_all {P : Mv × Option Nat → Prop} (one : Nat → Stm → Mvs) (Q : Stm → Prop) (h : ∀ n s, Q s → ∀ m ∈ one n s, P m) : ∀ (n : Nat) (ss : List Stm), (∀ s ∈ ss, Q s) → ∀ m ∈ lays one n ss, P m
 | n, [], _, m, hm => by simp [lays] at hm
 | n, s :: r, hq, m, hm => by
   rw [lays] at hm
   rcases List.mem_append.mp hm with z | z
   · exact h n s (hq s (List.mem_cons_self ..)) m z
   · exact lays_all one Q h _ r (fun t ht => hq t (List.mem_cons_of_mem _ ht)) m z
theorem lay1_ok {hd : List Int} (hd3 : ∀ n ∈ hd, n ≤ 3) : ∀ (d : Nat) (land : Option Nat) (n : Nat) (s : Stm), OkS hd d s → ∀ m ∈ lay1 d land n s, m.1.ok hd.length
 | 0, land, n, s, ok, m, hm => ok.elim
 | d + 1, land, n, s, ok, m, hm => by
   have three : ∀ {f : Int} {ns : List Int}, hd[f.toNat]? = some (ns.length : Int) → ns.length ≤ 3 := fun {f ns} e => by
     have := hd3 _ (List.mem_of_getElem? e); omega
   have lt : ∀ {f : Int} {k : Int}, 0 ≤ f → hd[f.toNat]? = some k → f < (hd.length : Int) := fun {f k} h0 e => by
     have := (List.getElem?_eq_some_iff.mp e).1; omega
   cases s with
   | pl s => simp only [lay1, List.mem_singleton] at hm; subst hm; exact .inl ok
   | call x f ns l => simp only [lay1, List.mem_singleton] at hm; subst hm; obtain ⟨o1, o2, o3, o4⟩ := ok; exact ⟨o1.1, Int.le_trans o1.2 (by decide), o2, lt o2 o4, o3, three o4⟩
   | drop x => simp only [lay1, List.mem_singleton] at hm; subst hm; exact ok
   | hand f ns l =>
     obtain ⟨o2, o3, o4⟩ := ok
     cases land with
     | none => simp only [lay1, List.mem_singleton] at hm; subst hm; exact ⟨o2, lt o2 o4, o3, three o4⟩
     | some k =>
       simp only [lay1, List.mem_cons, List.not_mem_nil, or_false] at hm
       rcases hm with rfl | rfl
       · exact ⟨by decide, by decide, o2, lt o2 o4, o3, three o4⟩
       · exact .inr (.inl rfl)
   | ifS x a b =>
     obtain ⟨o1, o2, o3, o4⟩ := ok
     simp only [lay1, List.mem_cons, List.mem_append] at hm
     rcases hm with rfl | hm | rfl | hm
     · exact o1
     · exact lays_all _ (OkS hd d) (lay1_ok hd3 d land) _ a o3 m hm
     · exact True.intro
     · exact lays_all _ (OkS hd d) (lay1_ok hd3 d land) _ b o4 m hm
   | whileS x a =>
     obtain ⟨o1, o2, o3⟩ := ok
     simp only [lay1, List.mem_cons, List.mem_append, List.not_mem_nil, or_false] at hm
     rcases hm with rfl | hm | rfl
     · exact o1
     · exact lays_all _ (OkS hd d) (lay1_ok hd3 d land) _ a o3 m hm
     · exact True.intro
   | tryS a x b =>
     obtain ⟨o1, o2, o3, o4⟩ := ok
     simp only [lay1, List.mem_cons, List.mem_append] at hm
     rcases hm with rfl | rfl | hm | rfl | hm
     · exact True.intro
     · exact o1
     · exact lays_all _ (OkS hd d) (lay1_ok hd3 d land) _ b o4 m hm
     · exact True.intro
     · exact lays_all _ (OkS hd d) (lay1_ok hd3 d (some (n + 1))) _ a o3 m hm
theorem moves_ok {hd : List Int} (hd3 : ∀ n ∈ hd, n ≤ 3) {ss : List Stm} (ok : ∀ s ∈ ss, OkS hd 5 s) : ∀ m ∈ movesD ss, m.1.ok hd.length := fun m hm => by
 rcases List.mem_append.mp hm with z | z
 · exact lays_all _ (OkS hd 5) (lay1_ok hd3 5 none) _ ss ok m z
 · have e : m = (.sm (.leave 7), none) := by simpa using z
   rw [e]; exact .inr (.inr rfl)
theorem drop_len (bs : List Mvs) (st v : Int) : ∀ (gs : List Dg) {st' : Int} {gs2 : List Dg}, dropM bs st v gs = some (.run st' gs2) → gs2.length ≤ gs.length
 | [], st', gs2, h => by cases h
 | g :: r, st', gs2, h => by
   rw [dropM] at h
   split at h
   · cases h
   · split at h
     · have := drop_len bs st v r h
       rw [List.length_cons]; omega
     · split at h
       · cases h; rw [List.length_reverse, List.length_cons, List.length_cons]; omega
       · cases h
     · cases h
theorem leave_len (bs : List Mvs) (st v : Int) (gs : List Dg) {st' : Int} {gs2 : List Dg} (h : leaveM bs st gs v = some (.run st' gs2)) : gs2.length ≤ gs.length := by
 unfold leaveM at h
 split at h
 · cases h
 · rename_i g hg
   have hne : gs ≠ [] := fun z => by rw [z] at hg; cases hg
   have hp := List.length_pos_iff.mpr hne
   split at h
   · cases h
   · split at h
     · cases h; rw [List.length_append, List.length_dropLast]; show _ + 1 ≤ _; omega
     · cases h
theorem step_len (bs : List Mvs) (st : Int) (gs : List Dg) {st' : Int} {gs2 : List Dg} (h : stepM bs st gs = some (.run st' gs2)) (hl : gs.length ≤ 21) : gs2.length ≤ 21 := by
 have h0 : gs ≠ [] := fun z => by rw [z] at h; cases h
 obtain ⟨gs', g, rfl⟩ : ∃ gs' g, gs = gs' ++ [g] := ⟨_, _, (List.dropLast_concat_getLast h0).symm⟩
 unfold stepM at h
 rw [List.getLast?_concat] at h
 simp only [List.dropLast_concat] at h
 rw [List.length_append] at hl
 have hl : gs'.length + 1 ≤ 21 := hl
 cases hmv : mvAt bs g.b g.k with
 | none => rw [hmv] at h; cases h
 | some mv =>
   obtain ⟨m, land⟩ := mv
   rw [hmv] at h
   have h : (if m.cnt = true ∧ st ≤ 0 then some (Rs.ans .tired) else makeM bs (if m.cnt = true then st - 1 else st) gs' g m) = some (.run st' gs2) := h
   split at h
   · cases h
   · generalize (if m.cnt = true then st - 1 else st) = s1 at h
     cases m with
     | sm s => cases s <;> first | (have := leave_len bs s1 _ gs' h; omega) | (cases h; rw [List.length_append]; exact hl)
     | call x f ns l =>
       have h : (if 20 < gs'.length + 1 then some (Rs.ans .deep) else some (Rs.run s1 (gs' ++ [{ g with k := g.k + 1 }, ⟨f.toNat, 0, padN (ns.map (gI g.ns))⟩]))) = some (.run st' gs2) := h
       split at h
       · cases h
       · cases h; rw [List.length_append]; show _ + 2 ≤ 21; omega
     | hand f ns l => cases h; rw [List.length_append]; exact hl
     | drop x => have := drop_len bs s1 _ _ h; rw [List.length_cons, List.length_reverse] at this; omega
     | test x o => cases h; rw [List.length_append]; exact hl
     | go o => cases h; rw [List.length_append]; exact hl
     | tr o => cases h; rw [List.length_append]; exact hl
     | land x => cases h
def bodiesD (fs : List (Int × List Stm)) : List Mvs := fs.map fun f => movesD f.2
def spRun (a : Adr) : Sp := fun vs H Q _ => ∃ (pr v : Addr) (st : Int) (fs : List (Int × List Stm)) (xs : List Int) (f0 : Int × List Stm) (n : Nat) (an : An), vs = [.ref pr, .ref v, .int st] ∧ ProgAt H pr fs ∧ ProgOk fs ∧ H v = some (.lst (xs.map V.int)) ∧ fs[0]? = some f0 ∧ (xs.length : Int) = f0.1 ∧ (∀ x ∈ xs, isVal x) ∧
 runM (bodiesD fs) n (.run st [⟨0, 0, padN xs⟩]) = some an ∧ ∀ t H', Same H H' → H' t = some (.tup an.vs) → Q (.ref t) H'
def Goes (bs : List Mvs) (x y : Rs) : Prop := ∃ n, ∀ m, runM bs (m + n) x = runM bs m y
theorem Goes.refl {bs : List Mvs} {x : Rs} : Goes bs x x := ⟨0, fun _ => rfl⟩
theorem Goes.trans {bs : List Mvs} {x y z : Rs} (h : Goes bs x y) (k : Goes bs y z) : Goes bs x z := by
 obtain ⟨n1, h1⟩ := h
 obtain ⟨n2, h2⟩ := k
 refine ⟨n2 + n1, fun m => ?_⟩
 rw [← Nat.add_assoc, h1, h2]
theorem Goes.step {bs : List Mvs} {st : Int} {gs : List Dg} {y : Rs} (h : stepM bs st gs = some y) : Goes bs (.run st gs) y := ⟨1, fun m => by show (stepM bs st gs).bind (runM bs m) = _; rw [h]; rfl⟩
theorem Goes.ans {bs : List Mvs} {x : Rs} {an : An} (h : Goes bs x (.ans an)) : ∃ n, runM bs n x = some an := by
 obtain ⟨n, h⟩ := h
 exact ⟨0 + n, by rw [h 0]; rfl⟩
def At (ms : Mvs) (n : Nat) (ls : Mvs) : Prop := ∀ i, i < ls.length → ms[n + i]? = ls[i]?
theorem At.left {ms : Mvs} {n : Nat} {a b : Mvs} (h : At ms n (a ++ b)) : At ms n a := fun i hi => by
 rw [h i (by rw [List.length_append]; omega), List.getElem?_append_left hi]
theorem At.right {ms : Mvs} {n : Nat} {a b : Mvs} (h : At ms n (a ++ b)) : At ms (n + a.length) b := fun i hi => by
 have := h (a.length + i) (by rw [List.length_append]; omega)
 rw [List.getElem?_append_right (by omega), show a.length + i - a.length = i by omega] at this
 rw [Nat.add_assoc]; exact this
theorem At.head {ms : Mvs} {n : Nat} {m : Mv × Option Nat} {r : Mvs} (h : At ms n (m :: r)) : ms[n]? = some m := h 0 (Nat.succ_pos _)
theorem At.tail {ms : Mvs} {n : Nat} {m : Mv × Option Nat} {r : Mvs} (h : At ms n (m :: r)) : At ms (n + 1) r := At.right (a := [m]) h
theorem At.self (ms : Mvs) : At ms 0 ms := fun i _ => by rw [Nat.zero_add]
inductive Out where
 | next (ns : List Int) (c : Nat) | gave (v : Int) (c : Nat) | dropped (v : Int) (ns : List Int) (c : Nat) | hand (f : Nat) (vs : List Int) (c : Nat) | tired | deep
inductive Tsk where
 | blk (deep : Nat) (ct : Bool) (ss : List Stm) (ns : List Int) (c : Nat)
 | fn (deep : Nat) (f : Nat) (vs : List Int) (c : Nat)
def Out.ofCall (ns : List Int) (x : Int) : Out → Option Out
 | .gave v c => some (.next (sI ns x v) c)
 | .dropped v _ c => some (.dropped v ns c)
 | .tired => some .tired
 | .deep => some .deep
 | _ => none
def Out.ofHand (ns : List Int) : Out → Option Out
 | .gave v c => some (.gave (gI (sI ns 6 v) 6) c)
 | .dropped v _ c => some (.dropped v ns c)
 | .tired => some .tired
 | .deep => some .deep
 | _ => none
def ev1 (R : Tsk → Option Out) (deep : Nat) (ct : Bool) (s : Stm) (ns : List Int) : Nat → Option Out
 | 0 => some .tired
 | c + 1 => match s with
   | .pl (.give x) => some (.gave (gI ns x) c)
   | .pl (.leave _) => none
   | .pl s => some (.next (s.done ns) c)
   | .drop x => some (.dropped (gI ns x) ns c)
   | .call x f nms _ => if 20 < deep + 1 then some .deep else (R (.fn (deep + 1) f.toNat (nms.map (gI ns)) c)).bind (Out.ofCall ns x)
   | .hand f nms _ => if ct = true then (if 20 < deep + 1 then some .deep else (R (.fn (deep + 1) f.toNat (nms.map (gI ns)) c)).bind (Out.ofHand ns)) else some (.hand f.toNat (nms.map (gI ns)) c)
   | .ifS x a b => R (.blk deep ct (if gI ns x = 0 then b else a) ns c)
   | .whileS x a => if gI ns x = 0 then some (.next ns c) else (R (.blk deep ct a ns c)).bind fun o => match o with
     | .next ns' c' => R (.blk deep ct [.whileS x a] ns' c')
     | o => some o
   | .tryS a x b => (R (.blk deep true a ns c)).bind fun o => match o with
     | .dropped v ns' c' => R (.blk deep ct b (sI ns' x v) c')
     | o => some o
def ev (bs : List (List Stm)) : Nat → Tsk → Option Out
 | 0, _ => none
 | n + 1, .blk deep ct ss ns c => match ss with
   | [] => some (.next ns c)
   | s :: r => (ev1 (ev bs n) deep ct s ns c).bind fun o => match o with
     | .next ns' c' => ev bs n (.blk deep ct r ns' c')
     | o => some o
 | n + 1, .fn deep f vs c => (bs[f]?).bind fun ss => (ev bs n (.blk deep false ss (padN vs) c)).bind fun o => match o with
     | .next ns' c' => some (.gave (gI ns' 7) c')
     | .hand f' vs' c' => ev bs n (.fn deep f' vs' c')
     | o => some o
section
variable {bs : List Mvs} {b k : Nat} {ms : Mvs} {m : Mv} {land : Option Nat} {ns : List Int} {gs : List Dg} {rs : Rs} {c : Nat} {v : Int}
theorem step_at (hb : bs[b]? = some ms) (h : ms[k]? = some (m, land)) (st : Int) (gs : List Dg) : stepM bs st (gs ++ [⟨b, k, ns⟩]) = if m.cnt = true ∧ st ≤ 0 then some (.ans .tired) else makeM bs (if m.cnt = true then st - 1 else st) gs ⟨b, k, ns⟩ m := by
 have hm : mvAt bs b k = some (m, land) := by unfold mvAt; rw [hb]; exact h
 unfold stepM
 rw [List.getLast?_concat, List.dropLast_concat]
 show (match mvAt bs b k with | none => none | some (m, _) => _) = _
 rw [hm]
theorem go_cnt (hb : bs[b]? = some ms) (h : ms[k]? = some (m, land)) (hc : m.cnt = true) (hk : makeM bs (c : Int) gs ⟨b, k, ns⟩ m = some rs) : Goes bs (.run ((c + 1 : Nat) : Int) (gs ++ [⟨b, k, ns⟩])) rs :=
 Goes.step (by rw [step_at hb h, if_neg (by omega), if_pos hc, show ((c + 1 : Nat) : Int) - 1 = (c : Int) by omega]; exact hk)
theorem go_tired (hb : bs[b]? = some ms) (h : ms[k]? = some (m, land)) (hc : m.cnt = true) : Goes bs (.run ((0 : Nat) : Int) (gs ++ [⟨b, k, ns⟩])) (.ans .tired) :=
 Goes.step (by rw [step_at hb h, if_pos ⟨hc, Int.le_refl _⟩])
theorem go_unc {st : Int} (hb : bs[b]? = some ms) (h : ms[k]? = some (m, land)) (hc : m.cnt = false) (hk : makeM bs st gs ⟨b, k, ns⟩ m = some rs) : Goes bs (.run st (gs ++ [⟨b, k, ns⟩])) rs :=
 Goes.step (by rw [step_at hb h, if_neg (fun z => by rw [hc] at z; cases z.1), if_neg (fun z => by rw [hc] at z; cases z)]; exact hk)
theorem go_go {o : Nat} {st : Int} (hb : bs[b]? = some ms) (h : ms[k]? = some (.go o, land)) : Goes bs (.run st (gs ++ [⟨b, k, ns⟩])) (.run st (gs ++ [⟨b, o, ns⟩])) := go_unc hb h rfl rfl
def dropAt (bs : List Mvs) (c : Int) (v : Int) (gs : List Dg) (b : Nat) (ns : List Int) : Option Nat → Option Rs
 | none => dropM bs c v gs.reverse
 | some o => match mvAt bs b o with
   | some (.land x, _) => some (.run c (gs ++ [⟨b, o + 1, sI ns x v⟩]))
   | _ => none
theorem drop_at {c : Int} (hb : bs[b]? = some ms) (h : ms[k]? = some (m, land)) : dropM bs c v (⟨b, k + 1, ns⟩ :: gs.reverse) = dropAt bs c v gs b ns land := by
 have hm : mvAt bs b k = some (m, land) := by unfold mvAt; rw [hb]; exact h
 rw [dropM, if_neg (Nat.succ_ne_zero k)]
 show (match mvAt bs b k with | some (_, none) => _ | some (_, some o) => _ | none => _) = _
 rw [hm]
 cases land with
 | none => rfl
 | some o =>
   show (match mvAt bs b o with | some (.land x, _) => _ | _ => _) = _
   unfold dropAt
   split <;> simp_all
theorem leave_at {c x : Int} {f : Int} {nms : List Int} {l : Bool} (hb : bs[b]? = some ms) (h : ms[k]? = some (.call x f nms l, land)) : leaveM bs c (gs ++ [⟨b, k + 1, ns⟩]) v = some (.run c (gs ++ [⟨b, k + 1, sI ns x v⟩])) := by
 have hm : mvAt bs b k = some (.call x f nms l, land) := by unfold mvAt; rw [hb]; exact h
 unfold leaveM
 rw [List.getLast?_concat, List.dropLast_concat]
 show (if k + 1 = 0 then none else match mvAt bs b k with | some (.call x _ _ _, _) => _ | _ => _) = _
 rw [if_neg (Nat.succ_ne_zero k), hm]
def tgtB (bs : List Mvs) (gs : List Dg) (b e : Nat) (land : Option Nat) : Out → Option Rs
 | .next ns c => some (.run c (gs ++ [⟨b, e, ns⟩]))
 | .gave v c => leaveM bs c gs v
 | .dropped v ns c => dropAt bs c v gs b ns land
 | .hand f vs c => some (.run c (gs ++ [⟨f, 0, padN vs⟩]))
 | .tired => some (.ans .tired)
 | .deep => some (.ans .deep)
def tgtF (bs : List Mvs) (gs : List Dg) : Out → Option Rs
 | .gave v c => leaveM bs c gs v
 | .dropped v _ c => dropM bs c v gs.reverse
 | .tired => some (.ans .tired)
 | .deep => some (.ans .deep)
 | _ => none
def Res (bs : List Mvs) (x : Rs) (gs : List Dg) (b e : Nat) (land : Option Nat) (o : Out) : Prop := ∀ rs, tgtB bs gs b e land o = some rs → Goes bs x rs
theorem Res.go {x : Rs} {e e2 : Nat} {o : Out} (h : Res bs x gs b e land o) (g : ∀ (ns : List Int) (c : Nat), Goes bs (.run c (gs ++ [⟨b, e, ns⟩])) (.run c (gs ++ [⟨b, e2, ns⟩]))) : Res bs x gs b e2 land o := by
 cases o with
 | next ns c => intro rs z; cases z; exact (h _ rfl).trans (g ns c)
 | _ => exact h
theorem Res.pre {x y : Rs} {e : Nat} {o : Out} (g : Goes bs x y) (h : Res bs y gs b e land o) : Res bs x gs b e land o := fun rs z => g.trans (h rs z)
end
def Snd (fs : List (Int × List Stm)) : Tsk → Out → Prop
 | .blk deep ct ss ns c, o => ∀ (gs : List Dg) (b k d : Nat) (land : Option Nat) (ms : Mvs), gs.length = deep → (bodiesD fs)[b]? = some ms → At ms k (lays (lay1 d land) k ss) → (∀ s ∈ ss, OkS (fs.map (·.1)) d s) → ct = land.isSome → Res (bodiesD fs) (.run c (gs ++ [⟨b, k, ns⟩])) gs b (k + (lays (lay1 d land) k ss).length) land o
 | .fn deep f vs c, o => ∀ gs : List Dg, gs.length = deep → ∀ rs, tgtF (bodiesD fs) gs o = some rs → Goes (bodiesD fs) (.run c (gs ++ [⟨f, 0, padN vs⟩])) rs
theorem call_snd {fs : List (Int × List Stm)} {deep : Nat} {f : Nat} {vs ns : List Int} {c : Nat} {o1 : Out} {gs : List Dg} {b k : Nat} {ms : Mvs} {x fi : Int} {nms : List Int} {l : Bool} {land : Option Nat} (hs : Snd fs (.fn (deep + 1) f vs c) o1) (hg : gs.length = deep) (hb : (bodiesD fs)[b]? = some ms) (h : ms[k]? = some (.call x fi nms l, land)) : ∀ rs, (match o1 with
   | .gave v c => some (.run c (gs ++ [⟨b, k + 1, sI ns x v⟩]))
   | .dropped v _ c => dropAt (bodiesD fs) c v gs b ns land
   | .tired => some (.ans .tired)
   | .deep => some (.ans .deep)
   | _ => none) = some rs → Goes (bodiesD fs) (.run c ((gs ++ [⟨b, k + 1, ns⟩]) ++ [⟨f, 0, padN vs⟩])) rs := by
 intro rs e
 have hl : (gs ++ [(⟨b, k + 1, ns⟩ : Dg)]).length = deep + 1 := by rw [List.length_append, hg]; rfl
 refine hs _ hl rs ?_
 cases o1 with
 | gave v c' => show leaveM _ _ _ _ = _; rw [leave_at hb h]; exact e
 | dropped v ns' c' =>
   show dropM _ _ _ _ = _
   rw [List.reverse_append]
   show dropM _ _ _ (⟨b, k + 1, ns⟩ :: gs.reverse) = _
   rw [drop_at hb h]; exact e
 | tired => exact e
 | deep => exact e
 | next _ _ => cases e
 | hand _ _ _ => cases e
theorem one_snd {fs : List (Int × List Stm)} {R : Tsk → Option Out} (hR : ∀ t o, R t = some o → Snd fs t o) {deep : Nat} {ct : Bool} {s : Stm} {ns : List Int} {c : Nat} {o : Out} (h : ev1 R deep ct s ns c = some o) {gs : List Dg} {b k d : Nat} {land : Option Nat} {ms : Mvs} (hg : gs.length = deep) (hb : (bodiesD fs)[b]? = some ms) (ha : At ms k (lay1 d land k s)) (ok : OkS (fs.map (·.1)) d s) (hl : ct = land.isSome) : Res (bodiesD fs) (.run c (gs ++ [⟨b, k, ns⟩])) gs b (k + (lay1 d land k s).length) land o := by
 cases d with
 | zero => exact ok.elim
 | succ d =>
 cases c with
 | zero =>
   have e : o = .tired := by cases h; rfl
   subst e
   intro rs z
   cases z
   cases s with
   | pl s =>
     refine go_tired hb (ha.head) ?_
     cases s <;> first | rfl | exact ok.elim
   | call x f nms l => exact go_tired hb (ha.head) rfl
   | drop x => exact go_tired hb (ha.head) rfl
   | hand f nms l =>
     cases land with
     | none => exact go_tired hb (ha.head) rfl
     | some o => exact go_tired hb (ha.head) rfl
   | ifS x a b => exact go_tired hb (ha.head) rfl
   | whileS x a => exact go_tired hb (ha.head) rfl
   | tryS a x b => exact go_tired hb (ha.head) rfl
 | succ c =>
 cases s with
 | pl s =>
   have hh := ha.head
   cases s with
   | give x => cases h; intro rs z; exact go_cnt hb hh rfl z
   | leave x => exact ok.elim
   | _ => cases h; intro rs z; cases z; exact go_cnt hb hh rfl rfl
 | drop x =>
   cases h
   intro rs z
   refine go_cnt hb ha.head rfl ?_
   show dropM _ _ _ _ = _
   rw [drop_at hb ha.head]; exact z
 | call x f nms l =>
   have hh : ms[k]? = some (.call x f nms l, land) := ha.head
   have h : (if 20 < deep + 1 then some Out.deep else (R (.fn (deep + 1) f.toNat (nms.map (gI ns)) c)).bind (Out.ofCall ns x)) = some o := h
   by_cases hd : 20 < deep + 1
   · rw [if_pos hd] at h
     cases h
     intro rs z; cases z
     exact go_cnt hb hh rfl (by show (if 20 < gs.length + 1 then _ else _) = _; rw [hg, if_pos hd])
   · rw [if_neg hd] at h
     obtain ⟨o1, h1, h2⟩ := Option.bind_eq_some_iff.mp h
     have hs := call_snd (ns := ns) (hR _ _ h1) hg hb hh
     refine Res.pre (go_cnt (rs := .run c ((gs ++ [⟨b, k + 1, ns⟩]) ++ [⟨f.toNat, 0, padN (nms.map (gI ns))⟩])) hb hh rfl (by show (if 20 < gs.length + 1 then _ else _) = _; rw [hg, if_neg hd, List.append_assoc]; rfl)) ?_
     intro rs z
     refine hs rs ?_
     cases o1 with
     | next _ _ => cases h2
     | hand _ _ _ => cases h2
     | _ => cases h2; exact z
 | hand f nms l =>
   cases land with
   | none =>
     have e : ct = false := hl
     subst e
     cases h
     intro rs z; cases z
     exact go_cnt hb ha.head rfl rfl
   | some lo =>
     have e : ct = true := hl
     subst e
     have hh : ms[k]? = some (.call 6 f nms l, some lo) := ha.head
     have hh2 : ms[k + 1]? = some (.sm (.leave 6), some lo) := ha.tail.head
     have h : (if 20 < deep + 1 then some Out.deep else (R (.fn (deep + 1) f.toNat (nms.map (gI ns)) c)).bind (Out.ofHand ns)) = some o := h
     by_cases hd : 20 < deep + 1
     · rw [if_pos hd] at h
       cases h
       intro rs z; cases z
       exact go_cnt hb hh rfl (by show (if 20 < gs.length + 1 then _ else _) = _; rw [hg, if_pos hd])
     · rw [if_neg hd] at h
       obtain ⟨o1, h1, h2⟩ := Option.bind_eq_some_iff.mp h
       have hs := call_snd (ns := ns) (hR _ _ h1) hg hb hh
       refine Res.pre (go_cnt (rs := .run c ((gs ++ [⟨b, k + 1, ns⟩]) ++ [⟨f.toNat, 0, padN (nms.map (gI ns))⟩])) hb hh rfl (by show (if 20 < gs.length + 1 then _ else _) = _; rw [hg, if_neg hd, List.append_assoc]; rfl)) ?_
       intro rs z
       cases o1 with
       | next _ _ => cases h2
       | hand _ _ _ => cases h2
       | gave v c' =>
         cases h2
         refine (hs _ rfl).trans (go_unc hb hh2 rfl ?_)
         exact z
       | dropped v ns' c' => cases h2; exact hs rs z
       | tired => cases h2; exact hs rs z
       | deep => cases h2; exact hs rs z
 | ifS x a b' =>
   have h : R (.blk deep ct (if gI ns x = 0 then b' else a) ns c) = some o := h
   obtain ⟨_, _, oa, ob⟩ := ok
   have hL : lay1 (d + 1) land k (.ifS x a b') = (.test x (k + (lays (lay1 d land) (k + 1) a).length + 2), land) :: (lays (lay1 d land) (k + 1) a ++ ((.go (k + (lays (lay1 d land) (k + 1) a).length + 2 + (lays (lay1 d land) (k + (lays (lay1 d land) (k + 1) a).length + 2) b').length), land) :: lays (lay1 d land) (k + (lays (lay1 d land) (k + 1) a).length + 2) b')) := rfl
   have hlen : k + (lay1 (d + 1) land k (.ifS x a b')).length = k + (lays (lay1 d land) (k + 1) a).length + 2 + (lays (lay1 d land) (k + (lays (lay1 d land) (k + 1) a).length + 2) b').length := by rw [hL]; simp only [List.length_cons, List.length_append]; omega
   rw [hL] at ha
   rw [hlen]
   generalize hA : lays (lay1 d land) (k + 1) a = A at ha ⊢
   generalize hB : lays (lay1 d land) (k + A.length + 2) b' = B at ha ⊢
   by_cases hx : gI ns x = 0
   · rw [if_pos hx] at h
     refine Res.pre (go_cnt (rs := .run c (gs ++ [⟨b, k + A.length + 2, ns⟩])) hb ha.head rfl (by show some (Rs.run _ (gs ++ [if gI ns x = 0 then _ else _])) = _; rw [if_pos hx])) ?_
     have := hR _ _ h gs b (k + A.length + 2) d land ms hg hb (by rw [hB]; have z := ha.tail.right.tail; rw [show k + 1 + A.length + 1 = k + A.length + 2 by omega] at z; exact z) ob hl
     rw [hB] at this
     exact this
   · rw [if_neg hx] at h
     refine Res.pre (go_cnt (rs := .run c (gs ++ [⟨b, k + 1, ns⟩])) hb ha.head rfl (by show some (Rs.run _ (gs ++ [if gI ns x = 0 then _ else _])) = _; rw [if_neg hx])) ?_
     have := hR _ _ h gs b (k + 1) d land ms hg hb (by rw [hA]; exact ha.tail.left) oa hl
     rw [hA] at this
     exact this.go fun ns c => go_go hb ha.tail.right.head
 | whileS x a =>
   obtain ⟨o1n, o0, oa⟩ := id ok
   have hL : lay1 (d + 1) land k (.whileS x a) = (.test x (k + (lays (lay1 d land) (k + 1) a).length + 2), land) :: (lays (lay1 d land) (k + 1) a ++ [(.go k, land)]) := rfl
   have hlen : k + (lay1 (d + 1) land k (.whileS x a)).length = k + (lays (lay1 d land) (k + 1) a).length + 2 := by rw [hL]; simp only [List.length_cons, List.length_append, List.length_nil]; omega
   have hS : lays (lay1 (d + 1) land) k [.whileS x a] = lay1 (d + 1) land k (.whileS x a) := by show lay1 (d + 1) land k (.whileS x a) ++ [] = _; rw [List.append_nil]
   have ha0 := ha
   rw [hL] at ha
   generalize hA : lays (lay1 d land) (k + 1) a = A at ha hlen
   have h : (if gI ns x = 0 then some (.next ns c) else (R (.blk deep ct a ns c)).bind fun o => match o with
     | .next ns' c' => R (.blk deep ct [.whileS x a] ns' c')
     | o => some o) = some o := h
   by_cases hx : gI ns x = 0
   · rw [if_pos hx] at h
     cases h
     intro rs z; cases z
     rw [hlen]
     exact go_cnt hb ha.head rfl (by show some (Rs.run _ (gs ++ [if gI ns x = 0 then _ else _])) = _; rw [if_pos hx])
   · rw [if_neg hx] at h
     obtain ⟨o1, h1, h2⟩ := Option.bind_eq_some_iff.mp h
     refine Res.pre (go_cnt (rs := .run c (gs ++ [⟨b, k + 1, ns⟩])) hb ha.head rfl (by show some (Rs.run _ (gs ++ [if gI ns x = 0 then _ else _])) = _; rw [if_neg hx])) ?_
     have r1 := hR _ _ h1 gs b (k + 1) d land ms hg hb (by rw [hA]; exact ha.tail.left) oa hl
     rw [hA] at r1
     have r2 := r1.go (e2 := k) fun ns c => go_go hb ha.tail.right.head
     cases o1 with
     | next ns' c' =>
       have r3 := hR _ _ h2 gs b k (d + 1) land ms hg hb (by rw [hS]; exact ha0) (fun s hs => by rw [List.mem_singleton.mp hs]; exact ok) hl
       rw [hS] at r3
       exact Res.pre (r2 _ rfl) r3
     | _ => cases h2; exact r2
 | tryS a x b' =>
   obtain ⟨_, _, oa, ob⟩ := ok
   have hL : lay1 (d + 1) land k (.tryS a x b') = (.tr (k + (lays (lay1 d land) (k + 2) b').length + 3), land) :: (.land x, land) :: (lays (lay1 d land) (k + 2) b' ++ ((.go (k + (lays (lay1 d land) (k + 2) b').length + 3 + (lays (lay1 d (some (k + 1))) (k + (lays (lay1 d land) (k + 2) b').length + 3) a).length), land) :: lays (lay1 d (some (k + 1))) (k + (lays (lay1 d land) (k + 2) b').length + 3) a)) := rfl
   have hlen : k + (lay1 (d + 1) land k (.tryS a x b')).length = k + (lays (lay1 d land) (k + 2) b').length + 3 + (lays (lay1 d (some (k + 1))) (k + (lays (lay1 d land) (k + 2) b').length + 3) a).length := by rw [hL]; simp only [List.length_cons, List.length_append]; omega
   rw [hL] at ha
   rw [hlen]
   generalize hB : lays (lay1 d land) (k + 2) b' = B at ha ⊢
   generalize hA : lays (lay1 d (some (k + 1))) (k + B.length + 3) a = A at ha ⊢
   have h : ((R (.blk deep true a ns c)).bind fun o => match o with
     | .dropped v ns' c' => R (.blk deep ct b' (sI ns' x v) c')
     | o => some o) = some o := h
   obtain ⟨o1, h1, h2⟩ := Option.bind_eq_some_iff.mp h
   refine Res.pre (go_cnt (rs := .run c (gs ++ [⟨b, k + B.length + 3, ns⟩])) hb ha.head rfl rfl) ?_
   have hh2 : ms[k + 1]? = some (.land x, land) := ha.tail.head
   have haA : At ms (k + B.length + 3) A := by
     have z := ha.tail.tail.right.tail
     rw [show k + 1 + 1 + B.length + 1 = k + B.length + 3 by omega] at z; exact z
   have haB : At ms (k + 2) B := ha.tail.tail.left
   have hgo : ms[k + 2 + B.length]? = some (.go (k + B.length + 3 + A.length), land) := ha.tail.tail.right.head
   have r1 := hR _ _ h1 gs b (k + B.length + 3) d (some (k + 1)) ms hg hb (by rw [hA]; exact haA) oa rfl
   rw [hA] at r1
   cases o1 with
   | dropped v ns' c' =>
     have r2 := hR _ _ h2 gs b (k + 2) d land ms hg hb (by rw [hB]; exact haB) ob hl
     rw [hB] at r2
     refine Res.pre (r1 (.run c' (gs ++ [⟨b, k + 1 + 1, sI ns' x v⟩])) ?_) (r2.go fun ns c => go_go hb hgo)
     show dropAt _ _ _ _ _ _ (some (k + 1)) = _
     have hm : mvAt (bodiesD fs) b (k + 1) = some (.land x, land) := by unfold mvAt; rw [hb]; exact hh2
     show (match mvAt (bodiesD fs) b (k + 1) with | some (.land x, _) => some (Rs.run (c' : Int) (gs ++ [(⟨b, k + 1 + 1, sI ns' x v⟩ : Dg)])) | _ => none) = _
     rw [hm]
   | _ => cases h2; exact r1
theorem ev_snd {fs : List (Int × List Stm)} (O : ∀ f ∈ fs, ∀ s ∈ f.2, OkS (fs.map (·.1)) 5 s) : ∀ (n : Nat) (t : Tsk) (o : Out), ev (fs.map (·.2)) n t = some o → Snd fs t o := by
 intro n
 induction n with
 | zero => intro t o h; cases h
 | succ n ih =>
   intro t o h
   cases t with
   | blk deep ct ss ns c =>
     intro gs b k d land ms hg hb ha ok hl
     cases ss with
     | nil =>
       cases h
       intro rs z; cases z
       exact Goes.refl
     | cons s r =>
       obtain ⟨o1, h1, h2⟩ := Option.bind_eq_some_iff.mp (show ((ev1 (ev (fs.map (·.2)) n) deep ct s ns c).bind fun o => match o with
         | .next ns' c' => ev (fs.map (·.2)) n (.blk deep ct r ns' c')
         | o => some o) = some o from h)
       have ha : At ms k (lay1 d land k s ++ lays (lay1 d land) (k + (lay1 d land k s).length) r) := ha
       have r1 := one_snd ih h1 hg hb ha.left (ok s (List.mem_cons_self ..)) hl
       have hlen : k + (lays (lay1 d land) k (s :: r)).length = k + (lay1 d land k s).length + (lays (lay1 d land) (k + (lay1 d land k s).length) r).length := by
         show k + (lay1 d land k s ++ lays (lay1 d land) (k + (lay1 d land k s).length) r).length = _
         rw [List.length_append]; omega
       rw [hlen]
       cases o1 with
       | next ns' c' =>
         have r2 := ih _ _ h2 gs b _ d land ms hg hb ha.right (fun t ht => ok t (List.mem_cons_of_mem _ ht)) hl
         exact Res.pre (r1 _ rfl) r2
       | _ => cases h2; exact r1
   | fn deep f vs c =>
     intro gs hg rs hr
     obtain ⟨ss, hs, h⟩ := Option.bind_eq_some_iff.mp (show (((fs.map (·.2))[f]?).bind fun ss => (ev (fs.map (·.2)) n (.blk deep false ss (padN vs) c)).bind fun o => match o with
       | .next ns' c' => some (.gave (gI ns' 7) c')
       | .hand f' vs' c' => ev (fs.map (·.2)) n (.fn deep f' vs' c')
       | o => some o) = some o from h)
     obtain ⟨o1, h1, h2⟩ := Option.bind_eq_some_iff.mp h
     rw [List.getElem?_map] at hs
     obtain ⟨fx, hf, rfl⟩ := Option.map_eq_some_iff.mp hs
     have hb : (bodiesD fs)[f]? = some (movesD fx.2) := by unfold bodiesD; rw [List.getElem?_map, hf]; rfl
     have ha : At (movesD fx.2) 0 (lays (lay1 5 none) 0 fx.2 ++ [(.sm (.leave 7), none)]) := At.self _
     have r1 := ih _ _ h1 gs f 0 5 none _ hg hb ha.left (O fx (List.mem_of_getElem? hf)) rfl
     cases o1 with
     | next ns' c' =>
       cases h2
       exact (r1 _ rfl).trans (go_unc hb ha.right.head rfl hr)
     | hand f' vs' c' => exact (r1 _ rfl).trans (ih _ _ h2 gs hg rs hr)
     | gave v c' => cases h2; exact r1 rs hr
     | dropped v ns' c' => cases h2; exact r1 rs hr
     | tired => cases h2; exact r1 rs hr
     | deep => cases h2; exact r1 rs hr
def Out.an : Out → Option An
 | .gave v _ => some (.gave v)
 | .dropped v _ _ => some (.dropped v)
 | .tired => some .tired
 | .deep => some .deep
 | _ => none
def Ev (bs : List (List Stm)) (t : Tsk) (o : Out) : Prop := ∃ n, ev bs n t = some o
def Ev1 (bs : List (List Stm)) (deep : Nat) (ct : Bool) (s : Stm) (ns : List Int) (c : Nat) (o : Out) : Prop := ∃ n, ev1 (ev bs n) deep ct s ns c = some o
theorem ev_run {fs : List (Int × List Stm)} (O : ProgOk fs) {xs : List Int} {c : Nat} {o : Out} {an : An} (h : Ev (fs.map (·.2)) (.fn 0 0 xs c) o) (ha : o.an = some an) : ∃ n, runM (bodiesD fs) n (.run (c : Int) [⟨0, 0, padN xs⟩]) = some an := by
 obtain ⟨n, h⟩ := h
 refine Goes.ans (ev_snd O.ok n _ _ h [] rfl _ ?_)
 cases o with
 | next _ _ => cases ha
 | hand _ _ _ => cases ha
 | _ => cases ha; rfl
theorem ev1_mono {R R' : Tsk → Option Out} (hR : ∀ t o, R t = some o → R' t = some o) {deep : Nat} {ct : Bool} {s : Stm} {ns : List Int} {c : Nat} {o : Out} (h : ev1 R deep ct s ns c = some o) : ev1 R' deep ct s ns c = some o := by
 have bm : ∀ {t : Tsk} {k : Out → Option Out} {k' : Out → Option Out} {o : Out}, (∀ x y, k x = some y → k' x = some y) → (R t).bind k = some o → (R' t).bind k' = some o := fun hk h => by
   obtain ⟨o1, h1, h2⟩ := Option.bind_eq_some_iff.mp h
   rw [hR _ _ h1]
   exact hk _ _ h2
 cases c with
 | zero => exact h
 | succ c =>
   cases s with
   | pl s => cases s <;> exact h
   | drop x => exact h
   | call x f nms l =>
     simp only [ev1] at h ⊢
     split at h
     · rename_i hd; rw [if_pos hd]; exact h
     · rename_i hd; rw [if_neg hd]; exact bm (fun _ _ z => z) h
   | hand f nms l =>
     simp only [ev1] at h ⊢
     split at h
     · rename_i hc
       rw [if_pos hc]
       split at h
       · rename_i hd; rw [if_pos hd]; exact h
       · rename_i hd; rw [if_neg hd]; exact bm (fun _ _ z => z) h
     · rename_i hc; rw [if_neg hc]; exact h
   | ifS x a b => exact hR _ _ h
   | whileS x a =>
     simp only [ev1] at h ⊢
     split at h
     · rename_i hd; rw [if_pos hd]; exact h
     · rename_i hd; rw [if_neg hd]
       exact bm (fun x y z => by cases x <;> first | exact hR _ _ z | exact z) h
   | tryS a x b =>
     simp only [ev1] at h ⊢
     exact bm (fun x y z => by cases x <;> first | exact hR _ _ z | exact z) h
theorem ev_succ (bs : List (List Stm)) : ∀ (n : Nat) (t : Tsk) (o : Out), ev bs n t = some o → ev bs (n + 1) t = some o := by
 intro n
 induction n with
 | zero => intro t o h; cases h
 | succ n ih =>
   intro t o h
   cases t with
   | blk deep ct ss ns c =>
     cases ss with
     | nil => exact h
     | cons s r =>
       obtain ⟨o1, h1, h2⟩ := Option.bind_eq_some_iff.mp (show ((ev1 (ev bs n) deep ct s ns c).bind fun o => match o with
         | .next ns' c' => ev bs n (.blk deep ct r ns' c')
         | o => some o) = some o from h)
       show ((ev1 (ev bs (n + 1)) deep ct s ns c).bind fun o => match o with
         | .next ns' c' => ev bs (n + 1) (.blk deep ct r ns' c')
         | o => some o) = some o
       rw [ev1_mono ih h1]
       cases o1 with
       | next ns' c' => exact ih _ _ h2
       | _ => exact h2
   | fn deep f vs c =>
     obtain ⟨ss, hs, h⟩ := Option.bind_eq_some_iff.mp (show ((bs[f]?).bind fun ss => (ev bs n (.blk deep false ss (padN vs) c)).bind fun o => match o with
       | .next ns' c' => some (.gave (gI ns' 7) c')
       | .hand f' vs' c' => ev bs n (.fn deep f' vs' c')
       | o => some o) = some o from h)
     obtain ⟨o1, h1, h2⟩ := Option.bind_eq_some_iff.mp h
     show ((bs[f]?).bind fun ss => (ev bs (n + 1) (.blk deep false ss (padN vs) c)).bind fun o => match o with
       | .next ns' c' => some (.gave (gI ns' 7) c')
       | .hand f' vs' c' => ev bs (n + 1) (.fn deep f' vs' c')
       | o => some o) = some o
     rw [hs]
     show ((ev bs (n + 1) (.blk deep false ss (padN vs) c)).bind fun o => match o with
       | .next ns' c' => some (.gave (gI ns' 7) c')
       | .hand f' vs' c' => ev bs (n + 1) (.fn deep f' vs' c')
       | o => some o) = some o
     rw [ih _ _ h1]
     cases o1 with
     | hand f' vs' c' => exact ih _ _ h2
     | _ => exact h2
theorem ev_le (bs : List (List Stm)) {n m : Nat} (hm : n ≤ m) {t : Tsk} {o : Out} (h : ev bs n t = some o) : ev bs m t = some o := by
 obtain ⟨k, rfl⟩ := Nat.le.dest hm
 clear hm
 induction k with
 | zero => exact h
 | succ k ih => exact ev_succ bs _ _ _ ih
theorem ev1_le (bs : List (List Stm)) {n m : Nat} (hm : n ≤ m) {deep : Nat} {ct : Bool} {s : Stm} {ns : List Int} {c : Nat} {o : Out} (h : ev1 (ev bs n) deep ct s ns c = some o) : ev1 (ev bs m) deep ct s ns c = some o := ev1_mono (fun _ _ z => ev_le bs hm z) h
section
variable {bs : List (List Stm)} {deep : Nat} {ct : Bool} {s : Stm} {r : List Stm} {ns ns' : List Int} {c c' : Nat} {o : Out}
theorem Ev.nil : Ev bs (.blk deep ct [] ns c) (.next ns c) := ⟨1, rfl⟩
theorem Ev.cons (h : Ev1 bs deep ct s ns c (.next ns' c')) (k : Ev bs (.blk deep ct r ns' c') o) : Ev bs (.blk deep ct (s :: r) ns c) o := by
 obtain ⟨n1, h⟩ := h
 obtain ⟨n2, k⟩ := k
 refine ⟨max n1 n2 + 1, ?_⟩
 show ((ev1 (ev bs (max n1 n2)) deep ct s ns c).bind fun o => match o with
   | .next ns' c' => ev bs (max n1 n2) (.blk deep ct r ns' c')
   | o => some o) = some o
 rw [ev1_le bs (Nat.le_max_left ..) h]
 exact ev_le bs (Nat.le_max_right ..) k
def Out.ends : Out → Prop
 | .next _ _ => False
 | _ => True
theorem Ev.stop (h : Ev1 bs deep ct s ns c o) (k : o.ends) : Ev bs (.blk deep ct (s :: r) ns c) o := by
 obtain ⟨n1, h⟩ := h
 refine ⟨n1 + 1, ?_⟩
 show ((ev1 (ev bs n1) deep ct s ns c).bind fun o => match o with
   | .next ns' c' => ev bs n1 (.blk deep ct r ns' c')
   | o => some o) = some o
 rw [h]
 cases o with
 | next _ _ => exact k.elim
 | _ => rfl
theorem Ev1.tired : Ev1 bs deep ct s ns 0 .tired := ⟨0, rfl⟩
theorem Ev1.plain {s : Sm} (hf : s.fills) : Ev1 bs deep ct (.pl s) ns (c + 1) (.next (s.done ns) c) := ⟨0, by cases s <;> first | rfl | exact hf.elim⟩
theorem Ev1.give {x : Int} : Ev1 bs deep ct (.pl (.give x)) ns (c + 1) (.gave (gI ns x) c) := ⟨0, rfl⟩
theorem Ev1.drop {x : Int} : Ev1 bs deep ct (.drop x) ns (c + 1) (.dropped (gI ns x) ns c) := ⟨0, rfl⟩
theorem Ev1.call {x f : Int} {nms : List Int} {l : Bool} {o1 : Out} (hd : deep < 20) (h : Ev bs (.fn (deep + 1) f.toNat (nms.map (gI ns)) c) o1) (k : o1.ofCall ns x = some o) : Ev1 bs deep ct (.call x f nms l) ns (c + 1) o := by
 obtain ⟨n, h⟩ := h
 refine ⟨n, ?_⟩
 show (if 20 < deep + 1 then some Out.deep else (ev bs n (.fn (deep + 1) f.toNat (nms.map (gI ns)) c)).bind (Out.ofCall ns x)) = _
 rw [if_neg (by omega), h]; exact k
theorem Ev1.hand {f : Int} {nms : List Int} {l : Bool} : Ev1 bs deep false (.hand f nms l) ns (c + 1) (.hand f.toNat (nms.map (gI ns)) c) := ⟨0, rfl⟩
theorem Ev1.handIn {f : Int} {nms : List Int} {l : Bool} {o1 : Out} (hd : deep < 20) (h : Ev bs (.fn (deep + 1) f.toNat (nms.map (gI ns)) c) o1) (k : o1.ofHand ns = some o) : Ev1 bs deep true (.hand f nms l) ns (c + 1) o := by
 obtain ⟨n, h⟩ := h
 refine ⟨n, ?_⟩
 show (if 20 < deep + 1 then some Out.deep else (ev bs n (.fn (deep + 1) f.toNat (nms.map (gI ns)) c)).bind (Out.ofHand ns)) = _
 rw [if_neg (by omega), h]; exact k
theorem Ev1.ifS {x : Int} {a b : List Stm} (h : Ev bs (.blk deep ct (if gI ns x = 0 then b else a) ns c) o) : Ev1 bs deep ct (.ifS x a b) ns (c + 1) o := h
theorem Ev1.tryS {a b : List Stm} {x v : Int} (h : Ev bs (.blk deep true a ns c) (.dropped v ns' c')) (k : Ev bs (.blk deep ct b (sI ns' x v) c') o) : Ev1 bs deep ct (.tryS a x b) ns (c + 1) o := by
 obtain ⟨n1, h⟩ := h
 obtain ⟨n2, k⟩ := k
 refine ⟨max n1 n2, ?_⟩
 show ((ev bs (max n1 n2) (.blk deep true a ns c)).bind fun o => match o with
     | .dropped v ns' c' => ev bs (max n1 n2) (.blk deep ct b (sI ns' x v) c')
     | o => some o) = some o
 rw [ev_le bs (Nat.le_max_left ..) h]
 exact ev_le bs (Nat.le_max_right ..) k
def Out.falls : Out → Prop
 | .dropped _ _ _ => True
 | _ => False
theorem Ev1.tryN {a b : List Stm} {x : Int} (h : Ev bs (.blk deep true a ns c) o) (k : ¬ o.falls) : Ev1 bs deep ct (.tryS a x b) ns (c + 1) o := by
 obtain ⟨n1, h⟩ := h
 refine ⟨n1, ?_⟩
 show ((ev bs n1 (.blk deep true a ns c)).bind fun o => match o with
     | .dropped v ns' c' => ev bs n1 (.blk deep ct b (sI ns' x v) c')
     | o => some o) = some o
 rw [h]
 cases o with
 | dropped _ _ _ => exact (k True.intro).elim
 | _ => rfl
theorem Ev.fn {f : Nat} {vs : List Int} {ss : List Stm} (hf : bs[f]? = some ss) (h : Ev bs (.blk deep false ss (padN vs) c) o) (k : match o with | .gave _ _ | .dropped _ _ _ | .tired | .deep => True | _ => False) : Ev bs (.fn deep f vs c) o := by
 obtain ⟨n, h⟩ := h
 refine ⟨n + 1, ?_⟩
 show ((bs[f]?).bind fun ss => (ev bs n (.blk deep false ss (padN vs) c)).bind fun o => match o with
     | .next ns' c' => some (.gave (gI ns' 7) c')
     | .hand f' vs' c' => ev bs n (.fn deep f' vs' c')
     | o => some o) = some o
 rw [hf]
 show ((ev bs n (.blk deep false ss (padN vs) c)).bind _) = _
 rw [h]
 cases o with
 | next _ _ => exact k.elim
 | hand _ _ _ => exact k.elim
 | _ => rfl
theorem Ev.fnEnd {f : Nat} {vs : List Int} {ss : List Stm} (hf : bs[f]? = some ss) (h : Ev bs (.blk deep false ss (padN vs) c) (.next ns' c')) : Ev bs (.fn deep f vs c) (.gave (gI ns' 7) c') := by
 obtain ⟨n, h⟩ := h
 refine ⟨n + 1, ?_⟩
 show ((bs[f]?).bind fun ss => (ev bs n (.blk deep false ss (padN vs) c)).bind fun o => match o with
     | .next ns' c' => some (.gave (gI ns' 7) c')
     | .hand f' vs' c' => ev bs n (.fn deep f' vs' c')
     | o => some o) = _
 rw [hf]
 show ((ev bs n (.blk deep false ss (padN vs) c)).bind _) = _
 rw [h]; rfl
theorem Ev.fnHand {f f' : Nat} {vs vs' : List Int} {ss : List Stm} (hf : bs[f]? = some ss) (h : Ev bs (.blk deep false ss (padN vs) c) (.hand f' vs' c')) (k : Ev bs (.fn deep f' vs' c') o) : Ev bs (.fn deep f vs c) o := by
 obtain ⟨n1, h⟩ := h
 obtain ⟨n2, k⟩ := k
 refine ⟨max n1 n2 + 1, ?_⟩
 show ((bs[f]?).bind fun ss => (ev bs (max n1 n2) (.blk deep false ss (padN vs) c)).bind fun o => match o with
     | .next ns' c' => some (.gave (gI ns' 7) c')
     | .hand f' vs' c' => ev bs (max n1 n2) (.fn deep f' vs' c')
     | o => some o) = _
 rw [hf]
 show ((ev bs (max n1 n2) (.blk deep false ss (padN vs) c)).bind _) = _
 rw [ev_le bs (Nat.le_max_left ..) h]
 exact ev_le bs (Nat.le_max_right ..) k
end
def Out.clk : Out → Option Nat
 | .next _ c | .gave _ c | .dropped _ _ c | .hand _ _ c => some c
 | _ => none
def BkO (m c : Nat) : Out → Prop
 | .next _ c' | .gave _ c' | .dropped _ _ c' => c' ≤ c
 | .hand f _ c' => f < m ∧ c' < c
 | _ => True
def FnO (c : Nat) : Out → Prop
 | .gave _ c' | .dropped _ _ c' => c' ≤ c
 | .tired | .deep => True
 | _ => False
theorem ofCall_some {c : Nat} {o : Out} (h : FnO c o) (m : Nat) (ns : List Int) (x : Int) : ∃ o', o.ofCall ns x = some o' ∧ BkO m c o' ∧ (∀ n c', o' = .next n c' → c' ≤ c) := by
 cases o with
 | gave v c' => exact ⟨_, rfl, h, fun n c2 e => by cases e; exact h⟩
 | dropped v n c' => exact ⟨_, rfl, h, (fun n c2 e => by cases e)⟩
 | tired => exact ⟨_, rfl, True.intro, (fun n c2 e => by cases e)⟩
 | deep => exact ⟨_, rfl, True.intro, (fun n c2 e => by cases e)⟩
 | next _ _ => exact h.elim
 | hand _ _ _ => exact h.elim
theorem ofHand_some {c : Nat} {o : Out} (h : FnO c o) (m : Nat) (ns : List Int) : ∃ o', o.ofHand ns = some o' ∧ BkO m c o' ∧ (∀ n c', o' = .next n c' → c' ≤ c) := by
 cases o with
 | gave v c' => exact ⟨_, rfl, h, (fun n c2 e => by cases e)⟩
 | dropped v n c' => exact ⟨_, rfl, h, (fun n c2 e => by cases e)⟩
 | tired => exact ⟨_, rfl, True.intro, (fun n c2 e => by cases e)⟩
 | deep => exact ⟨_, rfl, True.intro, (fun n c2 e => by cases e)⟩
 | next _ _ => exact h.elim
 | hand _ _ _ => exact h.elim
theorem BkO.le {m c c' : Nat} {o : Out} (h : BkO m c o) (hc : c ≤ c') : BkO m c' o := by
 cases o with
 | hand f vs k => exact ⟨h.1, Nat.lt_of_lt_of_le h.2 hc⟩
 | next _ _ => exact Nat.le_trans h hc
 | gave _ _ => exact Nat.le_trans h hc
 | dropped _ _ _ => exact Nat.le_trans h hc
 | tired => exact True.intro
 | deep => exact True.intro
theorem FnO.le {c c' : Nat} {o : Out} (h : FnO c o) (hc : c ≤ c') : FnO c' o := by
 cases o with
 | hand f vs k => exact h
 | next _ _ => exact h
 | gave _ _ => exact Nat.le_trans h hc
 | dropped _ _ _ => exact Nat.le_trans h hc
 | tired => exact True.intro
 | deep => exact True.intro
section
variable {fs : List (Int × List Stm)}
theorem one_total {c : Nat} (hB : ∀ c', c' ≤ c → ∀ deep ct d ss ns, (∀ s ∈ ss, OkS (fs.map (·.1)) d s) → ∃ o, Ev (fs.map (·.2)) (.blk deep ct ss ns c') o ∧ BkO fs.length c' o) (hF : ∀ c', c' ≤ c → ∀ deep f vs, f < fs.length → ∃ o, Ev (fs.map (·.2)) (.fn deep f vs c') o ∧ FnO c' o)
   (deep : Nat) (ct : Bool) {d : Nat} {s : Stm} (ns : List Int) (ok : OkS (fs.map (·.1)) d s) : ∃ o, Ev1 (fs.map (·.2)) deep ct s ns (c + 1) o ∧ BkO fs.length (c + 1) o ∧ (∀ n c', o = .next n c' → c' ≤ c) := by
 have lt : ∀ {f : Int} {n : Int}, 0 ≤ f → (fs.map (·.1))[f.toNat]? = some n → f.toNat < fs.length := fun h0 h => by
   have := (List.getElem?_eq_some_iff.mp h).1
   rw [List.length_map] at this; exact this
 cases d with
 | zero => exact ok.elim
 | succ d =>
 cases s with
 | pl s =>
   cases s with
   | give x => exact ⟨_, Ev1.give, Nat.le_succ _, (fun n c2 e => by cases e)⟩
   | leave x => exact ok.elim
   | _ => exact ⟨_, Ev1.plain True.intro, Nat.le_succ _, fun n c2 e => by cases e; exact Nat.le_refl _⟩
 | drop x => exact ⟨_, Ev1.drop, Nat.le_succ _, (fun n c2 e => by cases e)⟩
 | call x f nms l =>
   by_cases hd : 20 < deep + 1
   · exact ⟨.deep, ⟨0, by simp only [ev1]; rw [if_pos hd]⟩, True.intro, (fun n c2 e => by cases e)⟩
   · obtain ⟨o, h1, h2⟩ := hF c (Nat.le_refl _) (deep + 1) f.toNat (nms.map (gI ns)) (lt ok.2.1 ok.2.2.2)
     obtain ⟨o', h3, h4, h5⟩ := ofCall_some h2 fs.length ns x
     exact ⟨o', Ev1.call (by omega) h1 h3, h4.le (Nat.le_succ _), h5⟩
 | hand f nms l =>
   cases ct with
   | false => exact ⟨_, Ev1.hand, ⟨lt ok.1 ok.2.2, Nat.lt_succ_self _⟩, (fun n c2 e => by cases e)⟩
   | true =>
     by_cases hd : 20 < deep + 1
     · exact ⟨.deep, ⟨0, by simp only [ev1]; rw [if_pos True.intro, if_pos hd]⟩, True.intro, (fun n c2 e => by cases e)⟩
     · obtain ⟨o, h1, h2⟩ := hF c (Nat.le_refl _) (deep + 1) f.toNat (nms.map (gI ns)) (lt ok.1 ok.2.2)
       obtain ⟨o', h3, h4, h5⟩ := ofHand_some h2 fs.length ns
       exact ⟨o', Ev1.handIn (by omega) h1 h3, h4.le (Nat.le_succ _), h5⟩
 | ifS x a b =>
   obtain ⟨_, _, oa, ob⟩ := ok
   obtain ⟨o, h1, h2⟩ := hB c (Nat.le_refl _) deep ct d (if gI ns x = 0 then b else a) ns (by split <;> assumption)
   exact ⟨o, Ev1.ifS h1, h2.le (Nat.le_succ _), fun n c2 e => by subst e; exact h2⟩
 | whileS x a =>
   obtain ⟨_, _, oa⟩ := id ok
   by_cases hz : gI ns x = 0
   · exact ⟨.next ns c, ⟨0, by simp only [ev1]; rw [if_pos hz]⟩, Nat.le_succ _, fun n c2 e => by cases e; exact Nat.le_refl _⟩
   · obtain ⟨o, ⟨n1, h1⟩, h2⟩ := hB c (Nat.le_refl _) deep ct d a ns oa
     cases o with
     | next ns' c' =>
       obtain ⟨o3, ⟨n3, h3⟩, h4⟩ := hB c' h2 deep ct (d + 1) [.whileS x a] ns' (fun s hs => by rw [List.mem_singleton.mp hs]; exact ok)
       refine ⟨o3, ⟨max n1 n3, ?_⟩, h4.le (Nat.le_succ_of_le h2), fun n c2 e => by subst e; exact Nat.le_trans h4 h2⟩
       simp only [ev1]
       rw [if_neg hz, ev_le _ (Nat.le_max_left ..) h1]
       exact ev_le _ (Nat.le_max_right ..) h3
     | _ =>
       refine ⟨_, ⟨n1, ?_⟩, h2.le (Nat.le_succ _), (fun n c2 e => by cases e)⟩
       simp only [ev1]
       rw [if_neg hz, h1]; rfl
 | tryS a x b =>
   obtain ⟨_, _, oa, ob⟩ := ok
   obtain ⟨o, h1, h2⟩ := hB c (Nat.le_refl _) deep true d a ns oa
   cases o with
   | dropped v ns' c' =>
     obtain ⟨o3, h3, h4⟩ := hB c' h2 deep ct d b (sI ns' x v) ob
     exact ⟨o3, Ev1.tryS h1 h3, h4.le (Nat.le_succ_of_le h2), fun n c2 e => by subst e; exact Nat.le_trans h4 h2⟩
   | next ns' c' => exact ⟨_, Ev1.tryN h1 (fun z => z), h2.le (Nat.le_succ _), fun n c2 e => by cases e; exact h2⟩
   | _ => exact ⟨_, Ev1.tryN h1 (fun z => z), h2.le (Nat.le_succ _), (fun n c2 e => by cases e)⟩
theorem all_total (O : ∀ f ∈ fs, ∀ s ∈ f.2, OkS (fs.map (·.1)) 5 s) (c : Nat) : (∀ deep ct d ss ns, (∀ s ∈ ss, OkS (fs.map (·.1)) d s) → ∃ o, Ev (fs.map (·.2)) (.blk deep ct ss ns c) o ∧ BkO fs.length c o) ∧ (∀ deep f vs, f < fs.length → ∃ o, Ev (fs.map (·.2)) (.fn deep f vs c) o ∧ FnO c o) := by
 induction c using Nat.strongRecOn with
 | _ c ih =>
   have hB : ∀ deep ct d ss ns, (∀ s ∈ ss, OkS (fs.map (·.1)) d s) → ∃ o, Ev (fs.map (·.2)) (.blk deep ct ss ns c) o ∧ BkO fs.length c o := by
     intro deep ct d ss ns ok
     cases ss with
     | nil => exact ⟨_, Ev.nil, Nat.le_refl _⟩
     | cons s r =>
       cases c with
       | zero => exact ⟨.tired, Ev.stop Ev1.tired True.intro, True.intro⟩
       | succ c =>
         obtain ⟨o, h1, h2, h3⟩ := one_total (c := c) (fun c' hc => (ih c' (by omega)).1) (fun c' hc => (ih c' (by omega)).2) deep ct ns (ok s (List.mem_cons_self ..))
         cases o with
         | next ns' c' =>
           have hc := h3 ns' c' rfl
           obtain ⟨o4, h4, h5⟩ := (ih c' (by omega)).1 deep ct d r ns' (fun t ht => ok t (List.mem_cons_of_mem _ ht))
           exact ⟨o4, Ev.cons h1 h4, h5.le (by omega)⟩
         | _ => exact ⟨_, Ev.stop h1 True.intro, h2⟩
   refine ⟨hB, fun deep f vs hf => ?_⟩
   have hg : (fs.map (·.2))[f]? = some (fs[f]).2 := by rw [List.getElem?_map, List.getElem?_eq_getElem hf]; rfl
   obtain ⟨o, h1, h2⟩ := hB deep false 5 (fs[f]).2 (padN vs) (O _ (List.getElem_mem hf))
   cases o with
   | next ns' c' => exact ⟨_, Ev.fnEnd hg h1, h2⟩
   | hand f' vs' c' =>
     obtain ⟨o3, h3, h4⟩ := (ih c' h2.2).2 deep f' vs' h2.1
     exact ⟨o3, Ev.fnHand hg h1 h3, h4.le (Nat.le_of_lt h2.2)⟩
   | gave v c' => exact ⟨_, Ev.fn hg h1 True.intro, h2⟩
   | dropped v n c' => exact ⟨_, Ev.fn hg h1 True.intro, h2⟩
   | tired => exact ⟨_, Ev.fn hg h1 True.intro, True.intro⟩
   | deep => exact ⟨_, Ev.fn hg h1 True.intro, True.intro⟩
theorem fn_total (O : ProgOk fs) (xs : List Int) (c : Nat) : ∃ o an, Ev (fs.map (·.2)) (.fn 0 0 xs c) o ∧ o.an = some an := by
 obtain ⟨o, h1, h2⟩ := (all_total O.ok c).2 0 0 xs O.one
 cases o with
 | next _ _ => exact h2.elim
 | hand _ _ _ => exact h2.elim
 | _ => exact ⟨_, _, h1, rfl⟩
end
def Out.add (k : Nat) : Out → Out
 | .next ns c => .next ns (c + k)
 | .gave v c => .gave v (c + k)
 | .dropped v ns c => .dropped v ns (c + k)
 | .hand f vs c => .hand f vs (c + k)
 | .tired => .tired
 | .deep => .deep
def Tsk.add (k : Nat) : Tsk → Tsk
 | .blk deep ct ss ns c => .blk deep ct ss ns (c + k)
 | .fn deep f vs c => .fn deep f vs (c + k)
theorem ofCall_add (k : Nat) (ns : List Int) (x : Int) (o : Out) : (o.add k).ofCall ns x = (o.ofCall ns x).map (Out.add k) := by cases o <;> rfl
theorem ofHand_add (k : Nat) (ns : List Int) (o : Out) : (o.add k).ofHand ns = (o.ofHand ns).map (Out.add k) := by cases o <;> rfl
theorem ev1_more {R : Tsk → Option Out} {k : Nat} (hR : ∀ t o, R t = some o → o ≠ .tired → R (t.add k) = some (o.add k)) {deep : Nat} {ct : Bool} {s : Stm} {ns : List Int} {c : Nat} {o : Out} (h : ev1 R deep ct s ns c = some o) (ht : o ≠ .tired) : ev1 R deep ct s ns (c + k) = some (o.add k) := by
 cases c with
 | zero => cases h; exact absurd rfl ht
 | succ c =>
   rw [show c + 1 + k = (c + k) + 1 by omega]
   cases s with
   | pl s => cases s <;> (cases h <;> rfl)
   | drop x => cases h; rfl
   | call x f nms l =>
     simp only [ev1] at h ⊢
     split at h
     · rename_i hd; rw [if_pos hd]; cases h; rfl
     · rename_i hd
       rw [if_neg hd]
       obtain ⟨o1, h1, h2⟩ := Option.bind_eq_some_iff.mp h
       have n1 : o1 ≠ .tired := fun z => by rw [z] at h2; cases h2; exact ht rfl
       have := hR _ _ h1 n1
       have e : R (.fn (deep + 1) f.toNat (nms.map (gI ns)) (c + k)) = some (o1.add k) := this
       rw [e]
       show (o1.add k).ofCall ns x = _
       rw [ofCall_add, h2]; rfl
   | hand f nms l =>
     cases ct with
     | false => cases h; rfl
     | true =>
       simp only [ev1] at h ⊢
       rw [if_pos True.intro] at h ⊢
       split at h
       · rename_i hd; rw [if_pos hd]; cases h; rfl
       · rename_i hd
         rw [if_neg hd]
         obtain ⟨o1, h1, h2⟩ := Option.bind_eq_some_iff.mp h
         have n1 : o1 ≠ .tired := fun z => by rw [z] at h2; cases h2; exact ht rfl
         have e : R (.fn (deep + 1) f.toNat (nms.map (gI ns)) (c + k)) = some (o1.add k) := hR _ _ h1 n1
         rw [e]
         show (o1.add k).ofHand ns = _
         rw [ofHand_add, h2]; rfl
   | ifS x a b => exact hR _ _ h ht
   | whileS x a =>
     simp only [ev1] at h ⊢
     split at h
     · rename_i hz; rw [if_pos hz]; cases h; rfl
     · rename_i hz
       rw [if_neg hz]
       obtain ⟨o1, h1, h2⟩ := Option.bind_eq_some_iff.mp h
       have n1 : o1 ≠ .tired := fun z => by rw [z] at h2; cases h2; exact ht rfl
       have e : R (.blk deep ct a ns (c + k)) = some (o1.add k) := hR _ _ h1 n1
       rw [e]
       cases o1 with
       | next ns' c' => exact hR _ _ h2 ht
       | _ => cases h2; rfl
   | tryS a x b =>
     simp only [ev1] at h ⊢
     obtain ⟨o1, h1, h2⟩ := Option.bind_eq_some_iff.mp h
     have n1 : o1 ≠ .tired := fun z => by rw [z] at h2; cases h2; exact ht rfl
     have e : R (.blk deep true a ns (c + k)) = some (o1.add k) := hR _ _ h1 n1
     rw [e]
     cases o1 with
     | dropped v ns' c' => exact hR _ _ h2 ht
     | _ => cases h2; rfl
theorem ev_more (bs : List (List Stm)) (k : Nat) : ∀ (n : Nat) (t : Tsk) (o : Out), ev bs n t = some o → o ≠ .tired → ev bs n (t.add k) = some (o.add k) := by
 intro n
 induction n with
 | zero => intro t o h; cases h
 | succ n ih =>
   intro t o h ht
   cases t with
   | blk deep ct ss ns c =>
     cases ss with
     | nil => cases h; rfl
     | cons s r =>
       obtain ⟨o1, h1, h2⟩ := Option.bind_eq_some_iff.mp (show ((ev1 (ev bs n) deep ct s ns c).bind fun o => match o with
         | .next ns' c' => ev bs n (.blk deep ct r ns' c')
         | o => some o) = some o from h)
       show ((ev1 (ev bs n) deep ct s ns (c + k)).bind fun o => match o with
         | .next ns' c' => ev bs n (.blk deep ct r ns' c')
         | o => some o) = some (o.add k)
       have n1 : o1 ≠ .tired := fun z => by rw [z] at h2; cases h2; exact ht rfl
       rw [ev1_more ih h1 n1]
       cases o1 with
       | next ns' c' => exact ih _ _ h2 ht
       | _ => cases h2; rfl
   | fn deep f vs c =>
     obtain ⟨ss, hs, h⟩ := Option.bind_eq_some_iff.mp (show ((bs[f]?).bind fun ss => (ev bs n (.blk deep false ss (padN vs) c)).bind fun o => match o with
       | .next ns' c' => some (.gave (gI ns' 7) c')
       | .hand f' vs' c' => ev bs n (.fn deep f' vs' c')
       | o => some o) = some o from h)
     obtain ⟨o1, h1, h2⟩ := Option.bind_eq_some_iff.mp h
     show ((bs[f]?).bind fun ss => (ev bs n (.blk deep false ss (padN vs) (c + k))).bind fun o => match o with
       | .next ns' c' => some (.gave (gI ns' 7) c')
       | .hand f' vs' c' => ev bs n (.fn deep f' vs' c')
       | o => some o) = some (o.add k)
     rw [hs]
     show ((ev bs n (.blk deep false ss (padN vs) (c + k))).bind fun o => match o with
       | .next ns' c' => some (.gave (gI ns' 7) c')
       | .hand f' vs' c' => ev bs n (.fn deep f' vs' c')
       | o => some o) = some (o.add k)
     have n1 : o1 ≠ .tired := fun z => by rw [z] at h2; cases h2; exact ht rfl
     have e : ev bs n (.blk deep false ss (padN vs) (c + k)) = some (o1.add k) := ih _ _ h1 n1
     rw [e]
     cases o1 with
     | next ns' c' => cases h2; rfl
     | hand f' vs' c' => exact ih _ _ h2 ht
     | _ => cases h2; rfl
def VsOk (ns : List Int) : Prop := ∀ x ∈ ns, isVal x
def OutV : Out → Prop
 | .next ns _ => VsOk ns
 | .gave v _ => isVal v
 | .dropped v ns _ => isVal v ∧ VsOk ns
 | .hand _ vs _ => VsOk vs
 | _ => True
def TskV (hd : List Int) : Tsk → Prop
 | .blk _ _ ss ns _ => VsOk ns ∧ ∃ d, ∀ s ∈ ss, OkS hd d s
 | .fn _ _ vs _ => VsOk vs
theorem map_val {ns nms : List Int} (h : VsOk ns) : VsOk (nms.map (gI ns)) := fun x hx => by
 obtain ⟨m, _, rfl⟩ := List.mem_map.mp hx
 exact gI_any h m
theorem ofCall_val {ns : List Int} (hn : VsOk ns) {x : Int} {o o' : Out} (h : o.ofCall ns x = some o') (ho : OutV o) : OutV o' := by
 cases o with
 | gave v c => cases h; exact sI_vals hn ho
 | dropped v n c => cases h; exact ⟨ho.1, hn⟩
 | tired => cases h; exact True.intro
 | deep => cases h; exact True.intro
 | next _ _ => cases h
 | hand _ _ _ => cases h
theorem ofHand_val {ns : List Int} (hn : VsOk ns) {o o' : Out} (h : o.ofHand ns = some o') (ho : OutV o) : OutV o' := by
 cases o with
 | gave v c => cases h; exact gI_any (sI_vals hn ho) 6
 | dropped v n c => cases h; exact ⟨ho.1, hn⟩
 | tired => cases h; exact True.intro
 | deep => cases h; exact True.intro
 | next _ _ => cases h
 | hand _ _ _ => cases h
theorem ev1_val {hd : List Int} {R : Tsk → Option Out} (hR : ∀ t o, R t = some o → TskV hd t → OutV o) {deep : Nat} {ct : Bool} {d : Nat} {s : Stm} {ns : List Int} {c : Nat} {o : Out} (h : ev1 R deep ct s ns c = some o) (hn : VsOk ns) (ok : OkS hd d s) : OutV o := by
 cases d with
 | zero => exact ok.elim
 | succ d =>
 cases c with
 | zero => cases h; exact True.intro
 | succ c =>
   cases s with
   | pl s =>
     cases s with
     | give x => cases h; exact gI_any hn x
     | leave x => exact ok.elim
     | _ => cases h; exact sI_vals hn (Sm.isval hn ok)
   | drop x => cases h; exact ⟨gI_any hn x, hn⟩
   | call x f nms l =>
     simp only [ev1] at h
     split at h
     · cases h; exact True.intro
     · obtain ⟨o1, h1, h2⟩ := Option.bind_eq_some_iff.mp h
       exact ofCall_val hn h2 (hR _ _ h1 (map_val hn))
   | hand f nms l =>
     cases ct with
     | false => cases h; exact map_val hn
     | true =>
       simp only [ev1] at h
       rw [if_pos True.intro] at h
       split at h
       · cases h; exact True.intro
       · obtain ⟨o1, h1, h2⟩ := Option.bind_eq_some_iff.mp h
         exact ofHand_val hn h2 (hR _ _ h1 (map_val hn))
   | ifS x a b =>
     obtain ⟨_, _, oa, ob⟩ := ok
     exact hR _ _ h ⟨hn, d, by split <;> assumption⟩
   | whileS x a =>
     obtain ⟨_, _, oa⟩ := id ok
     simp only [ev1] at h
     split at h
     · cases h; exact hn
     · obtain ⟨o1, h1, h2⟩ := Option.bind_eq_some_iff.mp h
       have v1 := hR _ _ h1 ⟨hn, d, oa⟩
       cases o1 with
       | next ns' c' => exact hR _ _ h2 ⟨v1, d + 1, fun s hs => by rw [List.mem_singleton.mp hs]; exact ok⟩
       | _ => cases h2; exact v1
   | tryS a x b =>
     obtain ⟨_, _, oa, ob⟩ := ok
     simp only [ev1] at h
     obtain ⟨o1, h1, h2⟩ := Option.bind_eq_some_iff.mp h
     have v1 := hR _ _ h1 ⟨hn, d, oa⟩
     cases o1 with
     | dropped v ns' c' => exact hR _ _ h2 ⟨sI_vals v1.2 v1.1, d, ob⟩
     | _ => cases h2; exact v1
theorem ev_val {fs : List (Int × List Stm)} (O : ∀ f ∈ fs, ∀ s ∈ f.2, OkS (fs.map (·.1)) 5 s) : ∀ (n : Nat) (t : Tsk) (o : Out), ev (fs.map (·.2)) n t = some o → TskV (fs.map (·.1)) t → OutV o := by
 intro n
 induction n with
 | zero => intro t o h; cases h
 | succ n ih =>
   intro t o h hv
   cases t with
   | blk deep ct ss ns c =>
     obtain ⟨hn, d, ok⟩ := hv
     cases ss with
     | nil => cases h; exact hn
     | cons s r =>
       obtain ⟨o1, h1, h2⟩ := Option.bind_eq_some_iff.mp (show ((ev1 (ev (fs.map (·.2)) n) deep ct s ns c).bind fun o => match o with
         | .next ns' c' => ev (fs.map (·.2)) n (.blk deep ct r ns' c')
         | o => some o) = some o from h)
       have v1 := ev1_val ih h1 hn (ok s (List.mem_cons_self ..))
       cases o1 with
       | next ns' c' => exact ih _ _ h2 ⟨v1, d, fun t ht => ok t (List.mem_cons_of_mem _ ht)⟩
       | _ => cases h2; exact v1
   | fn deep f vs c =>
     obtain ⟨ss, hs, h⟩ := Option.bind_eq_some_iff.mp (show (((fs.map (·.2))[f]?).bind fun ss => (ev (fs.map (·.2)) n (.blk deep false ss (padN vs) c)).bind fun o => match o with
       | .next ns' c' => some (.gave (gI ns' 7) c')
       | .hand f' vs' c' => ev (fs.map (·.2)) n (.fn deep f' vs' c')
       | o => some o) = some o from h)
     obtain ⟨o1, h1, h2⟩ := Option.bind_eq_some_iff.mp h
     rw [List.getElem?_map] at hs
     obtain ⟨fx, hf, rfl⟩ := Option.map_eq_some_iff.mp hs
     have v1 := ih _ _ h1 ⟨padN_val hv, 5, O fx (List.mem_of_getElem? hf)⟩
     cases o1 with
     | next ns' c' => cases h2; exact gI_any v1 7
     | hand f' vs' c' => exact ih _ _ h2 v1
     | gave v c' => cases h2; exact v1
     | dropped v n c' => cases h2; exact v1
     | tired => cases h2; exact v1
     | deep => cases h2; exact v1
def hid (l : Addr) (H : Hp) : Hp := fun b => if b = l then none else H b
theorem hid_to {l : Addr} {H : Hp} : Same (hid l H) H := fun b o e => by
 unfold hid at e
 split at e
 · cases e
 · exact e
theorem hid_at {l b : Addr} {H : Hp} {o : HO} (h : H b = some o) (n : b ≠ l) : hid l H b = some o := by unfold hid; rw [if_neg n]; exact h
def FnAt (H : Hp) (p : Addr) (f : Int × List Stm) : Prop := ∃ l, H p = some (.tup [.int f.1, .ref l]) ∧ BdAt (StAt H 5) H l f.2
theorem FnAt.same {H H' : Hp} {p : Addr} {f : Int × List Stm} (h : FnAt H p f) (s : Same H H') : FnAt H' p f := let ⟨l, h1, h2⟩ := h; ⟨l, s _ _ h1, h2.same s (fun _ _ => StAt.same s)⟩
def nw (H H' : Hp) : Hp := fun b => match H b with
 | none => H' b
 | some _ => none
theorem nw_at {H H' : Hp} {b : Addr} {o : HO} (n : H b = none) (h : H' b = some o) : nw H H' b = some o := by unfold nw; rw [n]; exact h
theorem nw_of {H H' : Hp} {b : Addr} {o : HO} (h : nw H H' b = some o) : H b = none ∧ H' b = some o := by
 unfold nw at h
 split at h
 · rename_i e; exact ⟨e, h⟩
 · cases h
theorem nw_sub {A B C D : Hp} (k : ∀ b o, B b = none → C b = some o → A b = none ∧ D b = some o) : Same (nw B C) (nw A D) := fun b o h => by
 obtain ⟨h1, h2⟩ := nw_of h
 obtain ⟨k1, k2⟩ := k b o h1 h2
 exact nw_at k1 k2
theorem nw_same {A C D : Hp} (s : Same C D) : Same (nw A C) (nw A D) := nw_sub fun b o h1 h2 => ⟨h1, s _ _ h2⟩
theorem nw_put {A C : Hp} {l : Addr} {o x : HO} : nw (upd A l x) (upd C l o) = nw (upd A l x) C := by
 funext b
 unfold nw
 by_cases h : b = l
 · rw [h, upd_same]
 · rw [upd_ne h, upd_ne h]
theorem upd_none {A : Hp} {l b : Addr} {x : HO} (h : (upd A l x) b = none) : A b = none ∧ b ≠ l := by
 by_cases e : b = l
 · rw [e, upd_same] at h; cases h
 · rw [upd_ne e] at h; exact ⟨h, e⟩
structure HdOk (hd : List Int) : Prop where
 one : 1 ≤ hd.length
 three : hd.length ≤ 3
 val : ∀ n ∈ hd, 0 ≤ n ∧ n ≤ 3
def numAt (ns : List Int) (k : Int) : Int := cellAt ns k + 7919 * k * k + 31 * k
def spNum (K : PySem.W.Frag) : Sp := fun vs H Q _ => ∃ (a0 : Addr) (ns : List Int) (k : Int), vs = [.ref a0, .int k] ∧ SqL K H a0 (ns.map V.int) ∧ 0 ≤ k ∧ k ≤ 63 ∧ Q (.int (numAt ns k)) H
def spSt (K : PySem.W.Frag) (j : Nat) : Sp := fun vs H Q _ => ∃ (a0 lh : Addr) (ns hd : List Int) (at' : Int), vs = [.ref a0, .int at', .int (4 - (j : Int)), .ref lh] ∧ SqL K H a0 (ns.map V.int) ∧ H lh = some (.lst (hd.map V.int)) ∧ HdOk hd ∧ 0 ≤ at' ∧ at' < 40 ∧ j ≤ 4 ∧
 ∀ t p s e H', Same H H' → H' t = some (.tup [.ref p, .int e]) → StAt (nw H H') (j + 1) p s → OkS hd (j + 1) s → (cnt1 (j + 1) s : Int) + 2 * at' ≤ 2 * e → at' < e → e ≤ 40 → Q (.ref t) H'
def spBk (K : PySem.W.Frag) (j : Nat) : Sp := fun vs H Q _ => ∃ (a0 lh : Addr) (ns hd : List Int) (at' many : Int), vs = [.ref a0, .int at', .int many, .int (4 - (j : Int)), .ref lh] ∧ SqL K H a0 (ns.map V.int) ∧ H lh = some (.lst (hd.map V.int)) ∧ HdOk hd ∧ 0 ≤ at' ∧ at' ≤ 40 ∧ 0 ≤ many ∧ many ≤ 6 ∧ j ≤ 4 ∧
 ∀ t l ps ss e H', Same H H' → H l = none → H' t = some (.tup [.ref l, .int e]) → H' l = some (.lst (ps.map V.ref)) → ps.length ≤ 6 → Each (StAt (nw (upd H l (.lst [])) H') (j + 1)) ps ss → (∀ s ∈ ss, OkS hd (j + 1) s) → (cntL (j + 1) ss : Int) + 2 * at' ≤ 2 * e → at' ≤ e → e ≤ 40 → Q (.ref t) H'
def spProgB (K : PySem.W.Frag) : Sp := fun vs H Q _ => ∃ (a0 : Addr) (ns : List Int), vs = [.ref a0] ∧ SqL K H a0 (ns.map V.int) ∧ ∀ pr fs H', Same H H' → ProgAt H' pr fs → ProgOk fs → Q (.ref pr) H'
def wordsV : List V := [.str "set", .str "sum", .str "copy", .str "call", .str "if", .str "while", .str "less", .str "minus", .str "try", .str "call", .str "product", .str "drop"] ++ [.str "give", .str "hand", .str "set", .str "sum"]
theorem words_at {m : Int} (h0 : 0 ≤ m) (h1 : m < 16) : ∃ w : Str, atI wordsV m = some (.str w) ∧ (w = "set" ∨ w = "sum" ∨ w = "copy" ∨ w = "call" ∨ w = "if" ∨ w = "while" ∨ w = "less" ∨ w = "minus" ∨ w = "try" ∨ w = "product" ∨ w = "drop" ∨ w = "give" ∨ w = "hand") := by
 have hm : m = 0 ∨ m = 1 ∨ m = 2 ∨ m = 3 ∨ m = 4 ∨ m = 5 ∨ m = 6 ∨ m = 7 ∨ m = 8 ∨ m = 9 ∨ m = 10 ∨ m = 11 ∨ m = 12 ∨ m = 13 ∨ m = 14 ∨ m = 15 := by omega
 rcases hm with rfl | rfl | rfl | rfl | rfl | rfl | rfl | rfl | rfl | rfl | rfl | rfl | rfl | rfl | rfl | rfl
 · exact ⟨"set", rfl, by simp⟩
 · exact ⟨"sum", rfl, by simp⟩
 · exact ⟨"copy", rfl, by simp⟩
 · exact ⟨"call", rfl, by simp⟩
 · exact ⟨"if", rfl, by simp⟩
 · exact ⟨"while", rfl, by simp⟩
 · exact ⟨"less", rfl, by simp⟩
 · exact ⟨"minus", rfl, by simp⟩
 · exact ⟨"try", rfl, by simp⟩
 · exact ⟨"call", rfl, by simp⟩
 · exact ⟨"product", rfl, by simp⟩
 · exact ⟨"drop", rfl, by simp⟩
 · exact ⟨"give", rfl, by simp⟩
 · exact ⟨"hand", rfl, by simp⟩
 · exact ⟨"set", rfl, by simp⟩
 · exact ⟨"sum", rfl, by simp⟩
structure PdOk (D : PyData) (dep w : Nat) : Prop where
 sh : D.showable = true
 nd : D.hasDict = false
 lv : D.leavesShort 13 = true
 cl : D.canLay0 = true
 dp : D.depth ≤ dep
 wt : D.weight ≤ w
structure PdAll (Ds : List PyData) (dep w : Nat) : Prop where
 sh : PyData.showableAll Ds = true
 nd : PyData.hasDictAll Ds = false
 lv : PyData.leavesShortAll 13 Ds = true
 cl : PyData.canLayAll0 Ds = true
 dp : PyData.depthAll Ds ≤ dep
 wt : PyData.weightAll Ds ≤ w
theorem PdOk.le {D : PyData} {dep w dep' w' : Nat} (h : PdOk D dep w) (h1 : dep ≤ dep') (h2 : w ≤ w') : PdOk D dep' w' := ⟨h.sh, h.nd, h.lv, h.cl, Nat.le_trans h.dp h1, Nat.le_trans h.wt h2⟩
theorem PdAll.le {Ds : List PyData} {dep w dep' w' : Nat} (h : PdAll Ds dep w) (h1 : dep ≤ dep') (h2 : w ≤ w') : PdAll Ds dep' w' := ⟨h.sh, h.nd, h.lv, h.cl, Nat.le_trans h.dp h1, Nat.le_trans h.wt h2⟩
theorem PdAll.nil {dep w : Nat} : PdAll [] dep w := ⟨by simp only [PyData.showableAll], by simp only [PyData.hasDictAll], by simp only [PyData.leavesShortAll], by simp only [PyData.canLayAll0], by simp only [PyData.depthAll]; exact Nat.zero_le _, by simp only [PyData.weightAll]; exact Nat.zero_le _⟩
theorem PdAll.cons {D : PyData} {Ds : List PyData} {dep w w' : Nat} (h : PdOk D dep w) (k : PdAll Ds dep w') : PdAll (D :: Ds) dep (w + 1 + w') :=
 ⟨by simp only [PyData.showableAll, h.sh, k.sh, Bool.and_self], by simp only [PyData.hasDictAll, h.nd, k.nd, Bool.or_self], by simp only [PyData.leavesShortAll, h.lv, k.lv, Bool.and_self], by simp only [PyData.canLayAll0, h.cl, k.cl, Bool.and_self], by simp only [PyData.depthAll]; exact Nat.max_le.mpr ⟨h.dp, k.dp⟩, by simp only [PyData.weightAll]; have := h.wt; have := k.wt; omega⟩
theorem PdOk.lst {Ds : List PyData} {dep w : Nat} (h : PdAll Ds dep w) : PdOk (.list Ds) (dep + 1) w := ⟨by simp only [PyData.showable]; exact h.sh, by simp only [PyData.hasDict]; exact h.nd, by simp only [PyData.leavesShort]; exact h.lv, by simp only [PyData.canLay0]; exact h.cl, by simp only [PyData.depth]; have := h.dp; omega, by simp only [PyData.weight]; exact h.wt⟩
theorem PdOk.tup {Ds : List PyData} {dep w : Nat} (h : PdAll Ds dep w) : PdOk (.tuple Ds) (dep + 1) w := ⟨by simp only [PyData.showable]; exact h.sh, by simp only [PyData.hasDict]; exact h.nd, by simp only [PyData.leavesShort]; exact h.lv, by simp only [PyData.canLay0]; exact h.cl, by simp only [PyData.depth]; have := h.dp; omega, by simp only [PyData.weight]; exact h.wt⟩
theorem pd_int {i : Int} {dep : Nat} (h0 : 0 ≤ i) (h : i ≤ 4294967295) : PdOk (.int i) dep 33 := by
 have hn : i.natAbs < 2 ^ 32 := by have : (2 : Nat) ^ 32 = 4294967296 := by decide
                                   omega
 have hlg : i.natAbs.log2 ≤ 31 := by
   by_cases hz : i.natAbs = 0
   · rw [hz]; decide
   · have := (Nat.log2_lt hz).mpr hn; omega
 refine ⟨by simp only [PyData.showable]; exact decide_eq_true (by omega), by simp only [PyData.hasDict], by simp only [PyData.leavesShort]; exact decide_eq_true (PyData.shown_int_le (Nat.lt_of_lt_of_le hn (by decide))), by simp only [PyData.canLay0], by simp only [PyData.depth]; exact Nat.zero_le _, ?_⟩
 simp only [PyData.weight]
 split <;> omega
theorem pd_set {dep : Nat} : PdOk (.str "set") dep 10 := ⟨by simp only [PyData.showable], by simp only [PyData.hasDict], by decide +kernel, by decide +kernel, by simp only [PyData.depth]; exact Nat.zero_le _, by decide +kernel⟩
theorem pd_copy {dep : Nat} : PdOk (.str "copy") dep 10 := ⟨by simp only [PyData.showable], by simp only [PyData.hasDict], by decide +kernel, by decide +kernel, by simp only [PyData.depth]; exact Nat.zero_le _, by decide +kernel⟩
theorem pd_sum {dep : Nat} : PdOk (.str "sum") dep 10 := ⟨by simp only [PyData.showable], by simp only [PyData.hasDict], by decide +kernel, by decide +kernel, by simp only [PyData.depth]; exact Nat.zero_le _, by decide +kernel⟩
theorem pd_minus {dep : Nat} : PdOk (.str "minus") dep 10 := ⟨by simp only [PyData.showable], by simp only [PyData.hasDict], by decide +kernel, by decide +kernel, by simp only [PyData.depth]; exact Nat.zero_le _, by decide +kernel⟩
theorem pd_product {dep : Nat} : PdOk (.str "product") dep 10 := ⟨by simp only [PyData.showable], by simp only [PyData.hasDict], by decide +kernel, by decide +kernel, by simp only [PyData.depth]; exact Nat.zero_le _, by decide +kernel⟩
theorem pd_less {dep : Nat} : PdOk (.str "less") dep 10 := ⟨by simp only [PyData.showable], by simp only [PyData.hasDict], by decide +kernel, by decide +kernel, by simp only [PyData.depth]; exact Nat.zero_le _, by decide +kernel⟩
theorem pd_give {dep : Nat} : PdOk (.str "give") dep 10 := ⟨by simp only [PyData.showable], by simp only [PyData.hasDict], by decide +kernel, by decide +kernel, by simp only [PyData.depth]; exact Nat.zero_le _, by decide +kernel⟩
theorem pd_call {dep : Nat} : PdOk (.str "call") dep 10 := ⟨by simp only [PyData.showable], by simp only [PyData.hasDict], by decide +kernel, by decide +kernel, by simp only [PyData.depth]; exact Nat.zero_le _, by decide +kernel⟩
theorem pd_hand {dep : Nat} : PdOk (.str "hand") dep 10 := ⟨by simp only [PyData.showable], by simp only [PyData.hasDict], by decide +kernel, by decide +kernel, by simp only [PyData.depth]; exact Nat.zero_le _, by decide +kernel⟩
theorem pd_drop {dep : Nat} : PdOk (.str "drop") dep 10 := ⟨by simp only [PyData.showable], by simp only [PyData.hasDict], by decide +kernel, by decide +kernel, by simp only [PyData.depth]; exact Nat.zero_le _, by decide +kernel⟩
theorem pd_if {dep : Nat} : PdOk (.str "if") dep 10 := ⟨by simp only [PyData.showable], by simp only [PyData.hasDict], by decide +kernel, by decide +kernel, by simp only [PyData.depth]; exact Nat.zero_le _, by decide +kernel⟩
theorem pd_while {dep : Nat} : PdOk (.str "while") dep 10 := ⟨by simp only [PyData.showable], by simp only [PyData.hasDict], by decide +kernel, by decide +kernel, by simp only [PyData.depth]; exact Nat.zero_le _, by decide +kernel⟩
theorem pd_try {dep : Nat} : PdOk (.str "try") dep 10 := ⟨by simp only [PyData.showable], by simp only [PyData.hasDict], by decide +kernel, by decide +kernel, by simp only [PyData.depth]; exact Nat.zero_le _, by decide +kernel⟩
def pdNms (ns : List Int) (l : Bool) : PyData := if l = true then .list (ns.map .int) else .tuple (ns.map .int)
def pdSm : Sm → List PyData
 | .set x v => [.str "set", .int x, .int v]
 | .copy x y => [.str "copy", .int x, .int y]
 | .sum x y z => [.str "sum", .int x, .int y, .int z]
 | .minus x y z => [.str "minus", .int x, .int y, .int z]
 | .product x y z => [.str "product", .int x, .int y, .int z]
 | .less x y z => [.str "less", .int x, .int y, .int z]
 | .give x => [.str "give", .int x]
 | .leave x => [.str "leave", .int x]
def pdS : Nat → Stm → PyData
 | 0, _ => .none
 | d + 1, s => match s with
   | .pl s => .tuple (pdSm s)
   | .call x f ns l => .tuple [.str "call", .int x, .int f, pdNms ns l]
   | .hand f ns l => .tuple [.str "hand", .int f, pdNms ns l]
   | .drop x => .tuple [.str "drop", .int x]
   | .ifS x a b => .tuple [.str "if", .int x, .list (a.map (pdS d)), .list (b.map (pdS d))]
   | .whileS x a => .tuple [.str "while", .int x, .list (a.map (pdS d))]
   | .tryS a x b => .tuple [.str "try", .list (a.map (pdS d)), .int x, .list (b.map (pdS d))]
def pdF (f : Int × List Stm) : PyData := .tuple [.int f.1, .list (f.2.map (pdS 5))]
def pdP (fs : List (Int × List Stm)) : PyData := .list (fs.map pdF)
section
variable {K : PySem.W.Frag} {H : Hp}
theorem dpAll_each {α : Type} {g : α → PyData} {R : Addr → α → Prop} (hR : ∀ p s, R p s → Dp K H (g s) (.ref p)) : ∀ {ps : List Addr} {ss : List α}, Each R ps ss → DpAll K H (ss.map g) (ps.map V.ref)
 | [], [], _ => dpAll_nil
 | [], s :: r, h => by have := h.1; cases this
 | p :: ps, [], h => by have := h.1; cases this
 | p :: ps, s :: r, h => dpAll_cons (hR p s (h.2 0 p s rfl rfl)) (dpAll_each hR (ps := ps) (ss := r) ⟨by have := h.1; simpa using this, fun i q x e1 e2 => h.2 (i + 1) q x e1 e2⟩)
theorem dpAll_ints : ∀ ns : List Int, DpAll K H (ns.map .int) (ns.map V.int)
 | [] => dpAll_nil
 | n :: r => dpAll_cons (dp_int n) (dpAll_ints r)
theorem dp_nms {q : Addr} {ns : List Int} {l : Bool} (h : H q = some (nmO ns l)) : Dp K H (pdNms ns l) (.ref q) := by
 cases l with
 | true => exact dp_lst (SqL.of h) (dpAll_ints ns)
 | false => exact dp_tup (SqT.of h) (dpAll_ints ns)
theorem dp_stm : ∀ (d : Nat) {p : Addr} {s : Stm}, StAt H d p s → Dp K H (pdS d s) (.ref p)
 | 0, p, s, h => h.elim
 | d + 1, p, s, h => by
   have bd : ∀ {l : Addr} {b : List Stm}, BdAt (StAt H d) H l b → Dp K H (.list (b.map (pdS d))) (.ref l) := fun {l b} ⟨ps, e, he⟩ => dp_lst (SqL.of e) (dpAll_each (fun p s h => dp_stm d h) he)
   cases s with
   | pl s =>
     cases s with
     | set x v => exact dp_tup (SqT.of h) (dpAll_cons (dp_str _) (dpAll_cons (dp_int _) (dpAll_cons (dp_int _) dpAll_nil)))
     | copy x v => exact dp_tup (SqT.of h) (dpAll_cons (dp_str _) (dpAll_cons (dp_int _) (dpAll_cons (dp_int _) dpAll_nil)))
     | give x => exact dp_tup (SqT.of h) (dpAll_cons (dp_str _) (dpAll_cons (dp_int _) dpAll_nil))
     | leave x => exact dp_tup (SqT.of h) (dpAll_cons (dp_str _) (dpAll_cons (dp_int _) dpAll_nil))
     | _ => exact dp_tup (SqT.of h) (dpAll_cons (dp_str _) (dpAll_cons (dp_int _) (dpAll_cons (dp_int _) (dpAll_cons (dp_int _) dpAll_nil))))
   | call x f ns l => obtain ⟨q, h1, h2⟩ := h; exact dp_tup (SqT.of h1) (dpAll_cons (dp_str _) (dpAll_cons (dp_int _) (dpAll_cons (dp_int _) (dpAll_cons (dp_nms h2) dpAll_nil))))
   | hand f ns l => obtain ⟨q, h1, h2⟩ := h; exact dp_tup (SqT.of h1) (dpAll_cons (dp_str _) (dpAll_cons (dp_int _) (dpAll_cons (dp_nms h2) dpAll_nil)))
   | drop x => exact dp_tup (SqT.of h) (dpAll_cons (dp_str _) (dpAll_cons (dp_int _) dpAll_nil))
   | ifS x a b => obtain ⟨la, lb, h1, h2, h3⟩ := h; exact dp_tup (SqT.of h1) (dpAll_cons (dp_str _) (dpAll_cons (dp_int _) (dpAll_cons (bd h2) (dpAll_cons (bd h3) dpAll_nil))))
   | whileS x a => obtain ⟨la, h1, h2⟩ := h; exact dp_tup (SqT.of h1) (dpAll_cons (dp_str _) (dpAll_cons (dp_int _) (dpAll_cons (bd h2) dpAll_nil)))
   | tryS a x b => obtain ⟨la, lb, h1, h2, h3⟩ := h; exact dp_tup (SqT.of h1) (dpAll_cons (dp_str _) (dpAll_cons (bd h2) (dpAll_cons (dp_int _) (dpAll_cons (bd h3) dpAll_nil))))
theorem dp_body {l : Addr} {ss : List Stm} (h : BdAt (StAt H 5) H l ss) : Dp K H (.list (ss.map (pdS 5))) (.ref l) := let ⟨_, e, he⟩ := h; dp_lst (SqL.of e) (dpAll_each (fun p s h => dp_stm 5 h) he)
theorem dp_prog {pr : Addr} {fs : List (Int × List Stm)} (h : ProgAt H pr fs) : Dp K H (pdP fs) (.ref pr) := by
 obtain ⟨ps, e, he⟩ := h
 exact dp_lst (SqL.of e) (dpAll_each (fun p f ⟨l, h1, h2⟩ => dp_tup (SqT.of h1) (dpAll_cons (dp_int _) (dpAll_cons (dp_body h2) dpAll_nil))) he)
end
theorem pd_isN {x : Int} {dep : Nat} (h : isN x) : PdOk (.int x) dep 33 := pd_int h.1 (by have := h.2; omega)
theorem pd_ints {dep : Nat} : ∀ {ns : List Int}, (∀ n ∈ ns, isN n) → PdAll (ns.map .int) dep (34 * ns.length)
 | [], _ => PdAll.nil
 | n :: r, h => (PdAll.cons (pd_isN (h n (List.mem_cons_self ..))) (pd_ints (ns := r) fun m hm => h m (List.mem_cons_of_mem _ hm))).le (Nat.le_refl _) (by rw [List.length_cons]; omega)
theorem pd_nms {ns : List Int} {l : Bool} (h : ∀ n ∈ ns, isN n) (h3 : ns.length ≤ 3) : PdOk (pdNms ns l) 1 102 := by
 cases l with
 | true => exact (PdOk.lst (dep := 0) (pd_ints h)).le (Nat.le_refl _) (by omega)
 | false => exact (PdOk.tup (dep := 0) (pd_ints h)).le (Nat.le_refl _) (by omega)
theorem pd_list {d : Nat} {c : Nat} : ∀ {ss : List Stm}, (∀ s ∈ ss, PdOk (pdS d s) (2 * d) (c * cnt1 d s)) → PdAll (ss.map (pdS d)) (2 * d) ((c + 1) * cntL d ss)
 | [], _ => PdAll.nil
 | s :: r, h => (PdAll.cons (h s (List.mem_cons_self ..)) (pd_list (ss := r) fun t ht => h t (List.mem_cons_of_mem _ ht))).le (Nat.le_refl _) (by
     have := cnt1_pos d s
     rw [cntL_cons, Nat.mul_add, Nat.add_mul c 1 (cnt1 d s)]
     omega)
theorem pd_stm {hd : List Int} (h3 : ∀ n ∈ hd, n ≤ 3) (h8 : hd.length ≤ 8) : ∀ (d : Nat) {s : Stm}, OkS hd d s → PdOk (pdS d s) (2 * d) ((200 + d) * cnt1 d s)
 | 0, s, ok => ok.elim
 | d + 1, s, ok => by
   have fi : ∀ {f : Int} {n : Int} {dep : Nat}, 0 ≤ f → hd[f.toNat]? = some n → PdOk (.int f) dep 33 := fun h0 h => pd_int h0 (by have := (List.getElem?_eq_some_iff.mp h).1; omega)
   have l3 : ∀ {f : Int} {ns : List Int}, hd[f.toNat]? = some (ns.length : Int) → ns.length ≤ 3 := fun h => by have := h3 _ (List.mem_of_getElem? h); omega
   have bd : ∀ {b : List Stm}, (∀ s ∈ b, OkS hd d s) → PdOk (.list (b.map (pdS d))) (2 * d + 1) ((200 + d + 1) * cntL d b) := fun hb => PdOk.lst (pd_list fun s hs => pd_stm h3 h8 d (hb s hs))
   have up : ∀ {D : PyData} {w : Nat}, PdOk D (2 * d + 1 + 1) w → PdOk D (2 * (d + 1)) w := fun h => h.le (by omega) (Nat.le_refl _)
   cases s with
   | pl s =>
     have one : ∀ w, w ≤ 200 → w ≤ (200 + (d + 1)) * cnt1 (d + 1) (.pl s) := fun w hw => by show w ≤ (200 + (d + 1)) * 1; omega
     cases s with
     | set x v => exact up ((PdOk.tup (PdAll.cons pd_set (PdAll.cons (pd_isN ok.1) (PdAll.cons (pd_int ok.2.1 ok.2.2) PdAll.nil)))).le (Nat.le_refl _) (one (10 + 1 + (33 + 1 + (33 + 1 + 0))) (by omega)))
     | copy x y => exact up ((PdOk.tup (PdAll.cons pd_copy (PdAll.cons (pd_isN ok.1) (PdAll.cons (pd_isN ok.2) PdAll.nil)))).le (Nat.le_refl _) (one (10 + 1 + (33 + 1 + (33 + 1 + 0))) (by omega)))
     | sum x y z => exact up ((PdOk.tup (PdAll.cons pd_sum (PdAll.cons (pd_isN ok.1) (PdAll.cons (pd_isN ok.2.1) (PdAll.cons (pd_isN ok.2.2) PdAll.nil))))).le (Nat.le_refl _) (one (10 + 1 + (33 + 1 + (33 + 1 + (33 + 1 + 0)))) (by omega)))
     | minus x y z => exact up ((PdOk.tup (PdAll.cons pd_minus (PdAll.cons (pd_isN ok.1) (PdAll.cons (pd_isN ok.2.1) (PdAll.cons (pd_isN ok.2.2) PdAll.nil))))).le (Nat.le_refl _) (one (10 + 1 + (33 + 1 + (33 + 1 + (33 + 1 + 0)))) (by omega)))
     | product x y z => exact up ((PdOk.tup (PdAll.cons pd_product (PdAll.cons (pd_isN ok.1) (PdAll.cons (pd_isN ok.2.1) (PdAll.cons (pd_isN ok.2.2) PdAll.nil))))).le (Nat.le_refl _) (one (10 + 1 + (33 + 1 + (33 + 1 + (33 + 1 + 0)))) (by omega)))
     | less x y z => exact up ((PdOk.tup (PdAll.cons pd_less (PdAll.cons (pd_isN ok.1) (PdAll.cons (pd_isN ok.2.1) (PdAll.cons (pd_isN ok.2.2) PdAll.nil))))).le (Nat.le_refl _) (one (10 + 1 + (33 + 1 + (33 + 1 + (33 + 1 + 0)))) (by omega)))
     | give x => exact up ((PdOk.tup (PdAll.cons pd_give (PdAll.cons (pd_isN ok) PdAll.nil))).le (Nat.le_refl _) (one (10 + 1 + (33 + 1 + 0)) (by omega)))
     | leave x => exact ok.elim
   | drop x => exact up ((PdOk.tup (PdAll.cons pd_drop (PdAll.cons (pd_isN ok) PdAll.nil))).le (Nat.le_refl _) (by show 10 + 1 + (33 + 1 + 0) ≤ (200 + (d + 1)) * 1; omega))
   | call x f ns l => exact up ((PdOk.tup (dep := 2 * d + 1) (PdAll.cons pd_call (PdAll.cons (pd_isN ok.1) (PdAll.cons (fi ok.2.1 ok.2.2.2) (PdAll.cons ((pd_nms ok.2.2.1 (l3 ok.2.2.2)).le (by omega) (Nat.le_refl _)) PdAll.nil))))).le (Nat.le_refl _) (by show 10 + 1 + (33 + 1 + (33 + 1 + (102 + 1 + 0))) ≤ (200 + (d + 1)) * 1; omega))
   | hand f ns l => exact up ((PdOk.tup (dep := 2 * d + 1) (PdAll.cons pd_hand (PdAll.cons (fi ok.1 ok.2.2) (PdAll.cons ((pd_nms ok.2.1 (l3 ok.2.2)).le (by omega) (Nat.le_refl _)) PdAll.nil)))).le (Nat.le_refl _) (by show 10 + 1 + (33 + 1 + (102 + 1 + 0)) ≤ (200 + (d + 1)) * 1; omega))
   | ifS x a b => exact up ((PdOk.tup (PdAll.cons pd_if (PdAll.cons (pd_isN ok.1) (PdAll.cons (bd ok.2.2.1) (PdAll.cons (bd ok.2.2.2) PdAll.nil))))).le (Nat.le_refl _) (by show 10 + 1 + (33 + 1 + ((200 + d + 1) * cntL d a + 1 + ((200 + d + 1) * cntL d b + 1 + 0))) ≤ (200 + (d + 1)) * (1 + cntL d a + cntL d b); rw [Nat.mul_add, Nat.mul_add, Nat.add_assoc 200 d 1]; omega))
   | whileS x a => exact up ((PdOk.tup (PdAll.cons pd_while (PdAll.cons (pd_isN ok.1) (PdAll.cons (bd ok.2.2) PdAll.nil)))).le (Nat.le_refl _) (by show 10 + 1 + (33 + 1 + ((200 + d + 1) * cntL d a + 1 + 0)) ≤ (200 + (d + 1)) * (1 + cntL d a); rw [Nat.mul_add, Nat.add_assoc 200 d 1]; omega))
   | tryS a x b => exact up ((PdOk.tup (PdAll.cons pd_try (PdAll.cons (bd ok.2.2.1) (PdAll.cons (pd_isN ok.1) (PdAll.cons (bd ok.2.2.2) PdAll.nil))))).le (Nat.le_refl _) (by show 10 + 1 + ((200 + d + 1) * cntL d a + 1 + (33 + 1 + ((200 + d + 1) * cntL d b + 1 + 0))) ≤ (200 + (d + 1)) * (1 + cntL d a + cntL d b); rw [Nat.mul_add, Nat.mul_add, Nat.add_assoc 200 d 1]; omega))
theorem pd_body {fs : List (Int × List Stm)} (O : ProgOk fs) {f : Int × List Stm} (hf : f ∈ fs) : PdOk (.list (f.2.map (pdS 5))) 11 (206 * cntL 5 f.2) := PdOk.lst (pd_list fun s hs => pd_stm (fun n hn => by obtain ⟨g, hg, rfl⟩ := List.mem_map.mp hn; exact (O.hd g hg).2) (by rw [List.length_map]; exact O.few) 5 (O.ok f hf s hs))
theorem pd_fs {fs : List (Int × List Stm)} (O : ProgOk fs) : ∀ {gs : List (Int × List Stm)}, (∀ g ∈ gs, g ∈ fs) → PdAll (gs.map pdF) 12 (40 * gs.length + 206 * (gs.map fun f => cntL 5 f.2).sum)
 | [], _ => PdAll.nil
 | g :: r, h => by
   have hg := h g (List.mem_cons_self ..)
   have h1 := O.hd g hg
   refine (PdAll.cons (PdOk.tup (dep := 11) (PdAll.cons (pd_int h1.1 (by omega)) (PdAll.cons (pd_body O hg) (PdAll.nil (w := 0))))) (pd_fs O (gs := r) fun x hx => h x (List.mem_cons_of_mem _ hx))).le (Nat.le_refl _) ?_
   rw [List.map_cons, List.sum_cons, List.length_cons, Nat.mul_add 206]; omega
theorem pd_prog {fs : List (Int × List Stm)} (O : ProgOk fs) : PdOk (pdP fs) 13 (2 ^ 20) := by
 have h8 := O.few
 have hc := O.cnt
 have e : (2 : Nat) ^ 20 = 1048576 := by decide
 exact (PdOk.lst (pd_fs O fun g h => h)).le (Nat.le_refl _) (by rw [e]; omega)
theorem PdOk.fits {D : PyData} {dep : Nat} (h : PdOk D dep (2 ^ 20)) : D.shown.length ≤ sizeLine := PyData.shown_fits (B := 13) (by decide) (by decide) h.lv h.wt
def An.val : An → Prop
 | .gave v | .dropped v => isVal v
 | _ => True
def spAns : Sp := fun vs H Q _ => ∃ (t : Addr) (an : An), vs = [.ref t] ∧ H t = some (.tup an.vs) ∧ an.val ∧ ∀ H', Same H H' → Q (.bl true) H'
def An.pd : An → PyData
 | .gave v => .tuple [.str "gave", .int v]
 | .dropped v => .tuple [.str "dropped", .int v]
 | .tired => .tuple [.str "tired"]
 | .deep => .tuple [.str "deep"]
theorem An.dp {K : PySem.W.Frag} {H : Hp} {t : Addr} {an : An} (h : H t = some (.tup an.vs)) : Dp K H an.pd (.ref t) := by
 cases an with
 | gave v => exact dp_tup (SqT.of h) (dpAll_cons (dp_str _) (dpAll_cons (dp_int _) dpAll_nil))
 | dropped v => exact dp_tup (SqT.of h) (dpAll_cons (dp_str _) (dpAll_cons (dp_int _) dpAll_nil))
 | tired => exact dp_tup (SqT.of h) (dpAll_cons (dp_str _) dpAll_nil)
 | deep => exact dp_tup (SqT.of h) (dpAll_cons (dp_str _) dpAll_nil)
theorem An.sh (an : An) : shaped an.pd = true := by
 cases an with
 | gave v => unfold An.pd shaped; simp [PyData.canLay0, PyData.canLayAll0, PyData.depth, PyData.depthAll]; decide +kernel
 | dropped v => unfold An.pd shaped; simp [PyData.canLay0, PyData.canLayAll0, PyData.depth, PyData.depthAll]; decide +kernel
 | tired => decide +kernel
 | deep => decide +kernel
def zeroA : List Stm → An
 | [] => .gave 0
 | _ :: _ => .tired
theorem an_add (k : Nat) (o : Out) : (o.add k).an = o.an := by cases o <;> rfl
theorem pad7 {xs : List Int} (h3 : xs.length ≤ 3) : gI (padN xs) 7 = 0 := by
 unfold gI padN
 rw [List.getD_eq_getElem?_getD, List.getElem?_append_right (by show xs.length ≤ 7; omega), List.getElem?_replicate, if_pos (by show 7 - xs.length < 8 - xs.length; omega)]; rfl
theorem val_an {o : Out} {an : An} (h : o.an = some an) (hv : OutV o) : an.val := by
 cases o with
 | gave v c => cases h; exact hv
 | dropped v n c => cases h; exact hv.1
 | tired => cases h; exact True.intro
 | deep => cases h; exact True.intro
 | next _ _ => cases h
 | hand _ _ _ => cases h
section
variable {fs : List (Int × List Stm)}
theorem run_an (O : ProgOk fs) {xs : List Int} (hx : VsOk xs) (c : Nat) : ∃ an, an.val ∧ (∃ n, runM (bodiesD fs) n (.run (c : Int) [⟨0, 0, padN xs⟩]) = some an) ∧ ∀ k, ∃ an2, an2.val ∧ (∃ n, runM (bodiesD fs) n (.run ((c + k : Nat) : Int) [⟨0, 0, padN xs⟩]) = some an2) ∧ (an ≠ .tired → an2 = an) := by
 obtain ⟨o, an, ⟨nE, hE⟩, han⟩ := fn_total O xs c
 refine ⟨an, val_an han (ev_val O.ok nE _ _ hE hx), ev_run O ⟨nE, hE⟩ han, fun k => ?_⟩
 by_cases ht : o = .tired
 · obtain ⟨o2, an2, ⟨n2, h2⟩, ha2⟩ := fn_total O xs (c + k)
   refine ⟨an2, val_an ha2 (ev_val O.ok n2 _ _ h2 hx), ev_run O ⟨n2, h2⟩ ha2, fun z => ?_⟩
   rw [ht] at han
   cases han
   exact absurd rfl z
 · have h2 : ev (fs.map (·.2)) nE (.fn 0 0 xs (c + k)) = some (o.add k) := ev_more _ k nE _ _ hE ht
   have ha2 : (o.add k).an = some an := by rw [an_add]; exact han
   exact ⟨an, val_an han (ev_val O.ok nE _ _ hE hx), ev_run O ⟨nE, h2⟩ ha2, fun _ => rfl⟩
theorem zero_an (O : ProgOk fs) {f0 : Int × List Stm} (hf : fs[0]? = some f0) {xs : List Int} (h3 : xs.length ≤ 3) : ∃ n, runM (bodiesD fs) n (.run ((0 : Nat) : Int) [⟨0, 0, padN xs⟩]) = some (zeroA f0.2) := by
 have hg : (fs.map (·.2))[0]? = some f0.2 := by rw [List.getElem?_map, hf]; rfl
 cases e : f0.2 with
 | nil =>
   rw [e] at hg
   have := Ev.fnEnd (deep := 0) (vs := xs) (c := 0) hg Ev.nil
   rw [pad7 h3] at this
   exact ev_run O this rfl
 | cons s r =>
   rw [e] at hg
   exact ev_run O (Ev.fn (o := .tired) (c := 0) hg (Ev.stop Ev1.tired True.intro) True.intro) rfl
end
theorem sh_pd {D : PyData} {dep w : Nat} (h : PdOk D dep w) (hd : dep ≤ 20) : shaped D = true := by
 unfold shaped
 rw [h.cl, Bool.true_and]
 exact decide_eq_true (by have := h.dp; omega)
theorem eqv_no (D : PyData) (Ds : List PyData) : PyData.eqv (.list (D :: Ds)) (.list []) = false := by simp [PyData.eqv, PyData.eqvAll]
theorem an_ne {an : An} (h : an ≠ .tired) : PyData.eqv an.pd (.tuple [.str "tired"]) = false := by
 cases an with
 | gave v => simp [An.pd, PyData.eqv, PyData.eqvAll]
 | dropped v => simp [An.pd, PyData.eqv, PyData.eqvAll]
 | tired => exact absurd rfl h
 | deep => decide +kernel
theorem ok_is_whole (T : Txt w K mg a) : FnE P w K mg base CX0 1 "is_whole" spWhI := by
 refine fnE_of (sp := spWhI) 0 T.fn_is_whole sc_is_whole (fun vs H Q E h => ?_) (fun f cdv A outer s H vs Q E hr h => ?_)
 · obtain ⟨i, rfl, _⟩ := h
   rfl
 · obtain ⟨i, rfl, h0, q⟩ := h
   refine ⟨_, (pss_one (ps_ret (pe_and (pe_callB (call_isiK (K := K) rfl) rfl T.z_isinstance b_isinstance (pa_cons (pv 0) (pa_cons (pe_bltn (v := .ty "int") rfl T.z_int b_int rfl) pa_nil))) (pe_and (pe_not (pe_callB (call_isiK (K := K) rfl) rfl T.z_isinstance b_isinstance (pa_cons (pv 0) (pa_cons (pe_bltn (v := .ty "bool") rfl T.z_bool b_bool rfl) pa_nil)))) (pe_one (pe_cmpR op_ge (pv 0) pe_int (nomark _))))))), ?_⟩
   refine r_st (σ' := [some _]) rfl ?_
   walk_at "rd"
   rw [decide_eq_true h0]
   exact q
theorem ok_add_hand (T : Txt w K mg a) : FnE P w K mg base CX0 1 "add_hand" spAddH := by
 refine fnE_of (sp := spAddH) 0 T.fn_add_hand sc_add_hand (fun vs H Q E h => ?_) (fun f cdv A outer s H vs Q E hr h => ?_)
 · obtain ⟨d, m, p, us, H0, s, land, rfl, _⟩ := h
   rfl
 · obtain ⟨d, m, p, us, H0, s, land, rfl, hm, s0, nm, hst, hP, hle, q⟩ := h
   refine ⟨_, (pss_one (ps_if (pt_cmpR op_isNA (pv 2) pe_non (nomark _)) (pss_one (ps_expr (pe_bmK (K := K) rfl PySem.F.plainAttrs_list PySem.F.slot_list_append PySem.F.type_list_append mt_append (pv 0) (pa_cons (pe_tup (pa_cons (pv 1) (pa_cons (pv 2) pa_nil))) pa_nil)))) (pss_cons (ps_expr (pe_bmK (K := K) rfl PySem.F.plainAttrs_list PySem.F.slot_list_append PySem.F.type_list_append mt_append (pv 0) (pa_cons (pe_tup (pa_cons (pe_tup (pa_cons pe_str (pa_cons (pe_glob (v := .int 6) rfl T.g_SPARE.choose_spec ⟨_, rfl⟩) (pa_cons (pe_ix (ix_K (K := K) rfl) (pv 1) pe_int (fun _ _ => rfl)) (pa_cons (pe_ix (ix_K (K := K) rfl) (pv 1) pe_int (fun _ _ => rfl)) pa_nil))))) (pa_cons (pv 2) pa_nil))) pa_nil)))
     (pss_one (ps_expr (pe_bmK (K := K) rfl PySem.F.plainAttrs_list PySem.F.slot_list_append PySem.F.type_list_append mt_append (pv 0) (pa_cons (pe_tup (pa_cons (pe_tup (pa_cons pe_str (pa_cons (pe_glob (v := .int 6) rfl T.g_SPARE.choose_spec ⟨_, rfl⟩) pa_nil))) (pa_cons (pv 2) pa_nil))) pa_nil))))))), ?_⟩
   refine r_st (σ' := [some _, some _, some _]) rfl ?_
   cases s with
   | hand f' ns l =>
     obtain ⟨q', h1, h2⟩ := hst
     have hp := s0 _ _ h1
     cases land with
     | none =>
       have hle : us.length + 1 ≤ 10000 := hle
       show tIfS _ _ _ _ [some (.ref m), some (.ref p), some .non] _
       walk_at "rd"
       rename_i t nt
       exact q [.ref t] _ (KeepM.put (KeepM.new KeepM.refl nt)) upd_same (MvV.one ⟨t, p, rfl, tup_upd (look_new hm nt) _ _ upd_same, q', tup_upd (look_new hm nt) _ _ (look_new hp nt), h2⟩)
     | some k =>
       have hle : us.length + 2 ≤ 10000 := hle
       show tIfS _ _ _ _ [some (.ref m), some (.ref p), some (.int (k : Int))] _
       walk_at "rd"
       rename_i t1 n1 t2 n2 t3 n3 t4 n4
       have hm2 := look_new (o := .tup [.ref t1, .int (k : Int)]) (look_new (o := .tup [.str "call", .int 6, .int f', .ref q']) hm n1) n2
       have b1 := tup_upd (o := .lst (us ++ [.ref t2])) hm2 t1 _ (look_new upd_same n2)
       have b2 := tup_upd (o := .lst (us ++ [.ref t2])) hm2 t2 _ upd_same
       have hmc := look_new (o := .tup [.ref t3, .int (k : Int)]) (look_new (o := .tup [.str "leave", .int 6]) upd_same n3) n4
       refine q [.ref t2, .ref t4] _ (KeepM.put (KeepM.new (KeepM.new (KeepM.put (KeepM.new (KeepM.new KeepM.refl n1) n2)) n3) n4)) (by rw [upd_same, List.append_assoc]; rfl) (MvV.cons ⟨t2, t1, rfl, tup_upd hmc _ _ (look_new (look_new b2 n3) n4), q', tup_upd hmc _ _ (look_new (look_new b1 n3) n4), h2⟩ (MvV.one ⟨t4, t3, rfl, tup_upd hmc _ _ upd_same, tup_upd hmc _ _ (look_new upd_same n4)⟩))
   | _ => exact hP.elim
theorem ok_lists_within (T : Txt w K mg a) : FnE P w K mg base CX0 1 "lists_within" spWithin := by
 refine fnE_of (sp := spWithin) 0 T.fn_lists_within sc_lists_within (fun vs H Q E h => ?_) (fun f cdv A outer s H vs Q E hr h => ?_)
 · obtain ⟨p, w', xs, ls, rfl, _⟩ := h
   rfl
 · obtain ⟨p, w', xs, ls, rfl, hp, kd, few, fil, q⟩ := h
   obtain ⟨kvs, C, hkv⟩ := parts_of T
   obtain ⟨qk, hqk, tk⟩ := hkv _ _ kd
   have hat0 := at_head (.str w') (xs.map (·.1))
   refine ⟨_, (pss_one (ps_ret (pe_comp (own := ["part", "kind"]) (fr := []) rfl ⟨rfl, (by walk_at "clok"), (by walk_at "frok"), rfl, (by decide +kernel), (by decide +kernel), rfl⟩ (pi_zip2 (K := K) rfl rfl T.z_zip (pa_cons (pe_slice (sl_K (K := K) rfl) (pv 0) (po_some pe_int) po_none) (pa_cons (pe_rget (w := w) (K := K) rfl rfl (pe_glob (v := .ref a.G_PARTS) rfl T.s_PARTS rfl) (pe_ix (ix_K (K := K) rfl) (pv 0) pe_int (fun _ _ => rfl)) (fun _ _ => rfl)) pa_nil))) (fun _ _ _ _ => (pg_tupK (K := K) (n := 2) rfl rfl (pgs_cons (pg_name (i := 0) (show List.Nodup [("part" : Str), ("kind" : Str)] from by decide +kernel) rfl (Or.inl rfl)) (pgs_cons (pg_name (i := 1) (show List.Nodup [("part" : Str), ("kind" : Str)] from by decide +kernel) rfl (Or.inl rfl)) pgs_nil)))) (fun _ _ _ _ => (pts_one (pt_cmpR (op_eqK (K := K) rfl hr.units) (pv 1) pe_str (nomark _)))) (fun _ _ _ _ => (pv 0))))), ?_⟩
   refine r_st (σ' := [some _]) rfl ?_
   walk_at "rd"
   refine r_slT (SqT.of hp) (cut_tail_neV _ _) fun ls' nls => ?_
   rw [cut_tailV]
   have hp1 := look_new (o := .tup (xs.map (·.1))) hp nls
   walk_at "rd"
   refine ⟨_, _, rfl, C, ?_⟩
   walk_at "rd"
   refine ⟨_, .ref qk, rfl, hqk, ?_⟩
   walk_at "rd"
   refine ⟨ls', qk, _, _, rfl, SqT.of upd_same, tk _, ?_⟩
   have e2 : ∀ H, SqT K H qk (xs.map fun p => .str p.2) := fun H => by have := tk H; rw [List.map_map] at this; exact this
   refine comp_filZ (α := V × Str) (xs := xs) (e1 := fun p => p.1) (e2 := fun p => .str p.2) (fun p => p.1) (fun x => decide (x.2 = ("statements" : Str))) (fun σ => ∃ u v, σ = [u, v]) (SqT.of upd_same) (e2 _) (by walk_at "small") ⟨_, _, rfl⟩ ?_ ?_
   · rintro i ⟨zz, k⟩ ys σ H1 T' hx cc s1 ⟨u, v', rfl⟩ nT
     refine r_gTup (SqT.of upd_same) rfl ?_
     show gCons _ _ [zz, .str k] _ _ _
     walk_at "rd"
     by_cases hk : k = "statements"
     · rw [decide_eq_true (congrArg V.str hk)]
       walk_at "rd"
       exact cc.yes hx (decide_eq_true hk) rfl (s1.trans (same_new nT)) ⟨_, _, rfl⟩
     · rw [decide_eq_false (fun z => hk (V.str.inj z))]
       walk_at "rd"
       exact cc.no hx (decide_eq_false hk) (s1.trans (same_new nT)) ⟨_, _, rfl⟩
   intro H1 s1 l2 nl2
   exact q l2 _ ((same_new nls).trans (s1.trans (same_new nl2))) (by rw [← fil]; exact upd_same) (none_same ((same_new (o := .tup (xs.map (·.1))) nls).trans s1) nl2)
theorem ok_reckoned (T : Txt w K mg a) : FnE P w K mg base CX0 1 "reckoned" spReck := by
 refine fnE_of (sp := spReck) 0 T.fn_reckoned sc_reckoned (fun vs H Q E h => ?_) (fun f cdv A outer s H vs Q E hr h => ?_)
 · obtain ⟨m, l, s, ns, rfl, _⟩ := h
   rfl
 · obtain ⟨m, l, s, ns, rfl, hm, hf, ok, hl, h8, hv, q⟩ := h
   refine ⟨_, (pss_cons (ps_set (i := 2) sc_reckoned.nd rfl (Or.inl rfl) (pe_ix (ix_K (K := K) rfl) (pv 0) pe_int (fun _ _ => rfl)))
     (pss_cons (ps_if (pt_cmpR (op_eqK (K := K) rfl hr.units) (pv 2) pe_str (nomark _)) (pss_one (ps_ret (pe_ix (ix_K (K := K) rfl) (pv 0) pe_int (fun _ _ => rfl)))) pss_nil)
     (pss_cons (ps_set (i := 3) sc_reckoned.nd rfl (Or.inl rfl) (pe_ix (ix_K (K := K) rfl) (pv 1) (pe_ix (ix_K (K := K) rfl) (pv 0) pe_int (fun _ _ => rfl)) (fun _ _ => rfl)))
     (pss_cons (ps_if (pt_cmpR (op_eqK (K := K) rfl hr.units) (pv 2) pe_str (nomark _)) (pss_one (ps_ret (pv 3))) pss_nil)
     (pss_cons (ps_set (i := 4) sc_reckoned.nd rfl (Or.inl rfl) (pe_ix (ix_K (K := K) rfl) (pv 1) (pe_ix (ix_K (K := K) rfl) (pv 0) pe_int (fun _ _ => rfl)) (fun _ _ => rfl)))
     (pss_cons (ps_if (pt_cmpR (op_eqK (K := K) rfl hr.units) (pv 2) pe_str (nomark _)) (pss_one (ps_ret (pe_ifExp (pt_cmpR op_lt (pv 3) (pv 4) (nomark _)) pe_int pe_int))) pss_nil)
     (pss_cons (ps_if (pt_cmpR (op_eqK (K := K) rfl hr.units) (pv 2) pe_str (nomark _)) (pss_one (ps_ret (pe_op op_mod (pe_op (op_plusK (K := K) rfl) (pv 3) (pv 4)) (pe_glob (v := .int 4294967296) rfl T.g_VALUES.choose_spec ⟨_, rfl⟩)))) pss_nil)
     (pss_cons (ps_if (pt_cmpR (op_eqK (K := K) rfl hr.units) (pv 2) pe_str (nomark _)) (pss_one (ps_ret (pe_op op_mod (pe_op op_sub (pv 3) (pv 4)) (pe_glob (v := .int 4294967296) rfl T.g_VALUES.choose_spec ⟨_, rfl⟩)))) pss_nil)
     (pss_one (ps_ret (pe_op op_mod (pe_op op_times (pv 3) (pv 4)) (pe_glob (v := .int 4294967296) rfl T.g_VALUES.choose_spec ⟨_, rfl⟩)))))))))))), ?_⟩
   refine r_st (σ' := [some _, some _, none, none, none]) rfl ?_
   cases s with
   | set x v =>
     have hm : H m = some (.tup [.str "set", .int x, .int v]) := hm
     obtain ⟨⟨o0, o1⟩, o2, o3⟩ := ok
     walk_at "rd"
     exact q
   | copy x y =>
     have hm : H m = some (.tup [.str "copy", .int x, .int y]) := hm
     obtain ⟨⟨o0, o1⟩, o2, o3⟩ := ok
     walk_at "rd"
     exact q
   | sum x y z =>
     have hm : H m = some (.tup [.str "sum", .int x, .int y, .int z]) := hm
     obtain ⟨⟨o0, o1⟩, ⟨o2, o3⟩, o4, o5⟩ := ok
     walk_at "rd"
     exact q
   | minus x y z =>
     have hm : H m = some (.tup [.str "minus", .int x, .int y, .int z]) := hm
     obtain ⟨⟨o0, o1⟩, ⟨o2, o3⟩, o4, o5⟩ := ok
     walk_at "rd"
     exact q
   | product x y z =>
     have hm : H m = some (.tup [.str "product", .int x, .int y, .int z]) := hm
     obtain ⟨⟨o0, o1⟩, ⟨o2, o3⟩, o4, o5⟩ := ok
     obtain ⟨b1, b2⟩ : 0 ≤ gI ns y ∧ gI ns y ≤ 4294967295 := gI_any hv y
     walk_at "rd"
     exact q
   | less x y z =>
     have hm : H m = some (.tup [.str "less", .int x, .int y, .int z]) := hm
     obtain ⟨⟨o0, o1⟩, ⟨o2, o3⟩, o4, o5⟩ := ok
     have q : Q (.int (if gI ns y < gI ns z then 1 else 0)) H := q
     walk_at "rd"
     refine ifDec (fun hh => ?_) (fun hh => ?_)
     · rw [if_pos hh] at q
       walk_at "rd"
       exact q
     · rw [if_neg hh] at q
       walk_at "rd"
       exact q
   | give x => exact hf.elim
   | leave x => exact ok.elim
theorem mk_Doing (T : Txt w K mg a) : MkE P w K mg base CX0 1 "Doing" a.C_Doing (spDoing a) := by
 refine mkE_of (sp := (spDoing a)) 0 T.c_Doing T.i_Doing sc_Doing_init (fun vs H Q E h => ?_) (fun f cdv A outer s H vs Q E hr h => ?_)
 · obtain ⟨x, dx, m, v, ns, rfl, _⟩ := h
   rfl
 · obtain ⟨x, dx, m, v, ns, rfl, hx, hv, h3, q⟩ := h
   have nvx : v ≠ x := fun z => by rw [z, hx] at hv; cases hv
   refine ⟨_, (pss_cons (ps_fldK (K := K) rfl (pv 0) (pv 1))
     (pss_cons (ps_fldK (K := K) rfl (pv 0) pe_int)
     (pss_one (ps_fldK (K := K) rfl (pv 0) (pe_op (op_plusK (K := K) rfl) (pe_callTy (call_listK (K := K) rfl) rfl T.z_list b_list (pa_cons (pv 2) pa_nil)) (pe_op op_times (pe_lst (pa_cons pe_int pa_nil)) (pe_op op_sub (pe_op (op_plusK (K := K) rfl) (pe_glob (v := .int 7) rfl T.g_NOUGHT.choose_spec ⟨_, rfl⟩) pe_int) (pe_callB (call_lenK (K := K) rfl) rfl T.z_len b_len (pa_cons (pv 2) pa_nil))))))))), ?_⟩
   refine r_st (σ' := [some _, some _, some _]) rfl ?_
   walk_at "rd"
   rename_i l1 n1 l2 n2 l3 n3 l4 n4
   have e : (7 + 1 - (ns.length : Int)).toNat = 8 - ns.length := by omega
   rw [e] at n4 ⊢
   refine q l4 _ _ (none_upd1 (none_upd1 (none_upd1 (none_upd1 (none_upd1 n4))))) (fun b o h1 h2 => ?_) upd_same ⟨by walk_at "lk", by walk_at "lk", by walk_at "lk", ?_, by walk_at "nolk", by walk_at "nolk"⟩ ?_
   · walk_at "hlk"
   · exact Nat.le_of_lt_succ (by walk_at "fewf")
   · show _ = some (HO.lst ((ns ++ List.replicate (8 - ns.length) 0).map V.int))
     have nx4 : l4 ≠ x := (none_upd (none_upd1 (none_upd1 (none_upd1 n4)))).2
     exact look_ne nx4 upd_same
theorem me_Doing_last_move (T : Txt w K mg a)  : MethE P w K mg base CX0 1 a.C_Doing "last_move" (spLast a) := by
 refine methE_of (sp := (spLast a)) 0 T.cl_Doing T.m_Doing_last_move sc_Doing_last_move (fun vs H Q E h => ?_) (fun f cdv A outer s H vs Q E hr h => ?_)
 · obtain ⟨x, dx, m, l, q', p, fs, k, ws, u, rfl, _⟩ := h
   rfl
 · obtain ⟨x, dx, m, l, q', p, fs, k, ws, u, rfl, hx, F, hm, hq, hq', q⟩ := h
   have f1 := F.moves
   have f2 := F.mark
   have hat : atI ws ((k : Int) + 1 - 1) = some (.ref q') := by
     rw [show (k : Int) + 1 - 1 = (k : Int) by omega]
     exact atI_nat hq
   refine ⟨_, (pss_one (ps_ret (pe_ix (ix_K (K := K) rfl) (pe_ix (ix_K (K := K) rfl) (pe_fldK (K := K) rfl (pv 0)) (pe_op op_sub (pe_fldK (K := K) rfl (pv 0)) pe_int) (fun _ _ => rfl)) pe_int (fun _ _ => rfl)))), ?_⟩
   refine r_st (σ' := [some _]) rfl ?_
   walk_at "rd"
   exact q
theorem me_Doing_lands (T : Txt w K mg a)  : MethE P w K mg base CX0 1 a.C_Doing "lands" (spLands a) := by
 refine methE_of (sp := (spLands a)) 0 T.cl_Doing T.m_Doing_lands sc_Doing_lands (fun vs H Q E h => ?_) (fun f cdv A outer s H vs Q E hr h => ?_)
 · rcases h with ⟨x, dx, m, l, q', p, fs, k, ws, v, rfl, _⟩ | ⟨x, dx, m, l, q', p, q2, p2, fs, k, o, ws, v, y, u2, ns, rfl, _⟩
   · rfl
   · rfl
 · rcases h with ⟨x, dx, m, l, q', p, fs, k, ws, v, rfl, hx, F, hm, hq, hq', q⟩ | ⟨x, dx, m, l, q', p, q2, p2, fs, k, o, ws, v, y, u2, ns, rfl, hx, F, hm, hq, hq', ho, hq2, hp2, y0, y7, hl, h8, nlx, q⟩
   · have f1 := F.moves
     have f2 := F.mark
     have hat : atI ws ((k : Int) + 1 - 1) = some (.ref q') := by
       rw [show (k : Int) + 1 - 1 = (k : Int) by omega]
       exact atI_nat hq
     refine ⟨_, (pss_cons (ps_set (i := 2) sc_Doing_lands.nd rfl (Or.inl rfl) (pe_ix (ix_K (K := K) rfl) (pe_ix (ix_K (K := K) rfl) (pe_fldK (K := K) rfl (pv 0)) (pe_op op_sub (pe_fldK (K := K) rfl (pv 0)) pe_int) (fun _ _ => rfl)) pe_int (fun _ _ => rfl)))
     (pss_cons (ps_if (pt_cmpR op_isNA (pv 2) pe_non (nomark _)) (pss_one (ps_ret pe_bl)) pss_nil)
     (pss_cons (ps_asg (pv 1) (pg_sub (pe_fldK (K := K) rfl (pv 0)) (pe_ix (ix_K (K := K) rfl) (pe_ix (ix_K (K := K) rfl) (pe_ix (ix_K (K := K) rfl) (pe_fldK (K := K) rfl (pv 0)) (pv 2) (fun _ _ => rfl)) pe_int (fun _ _ => rfl)) pe_int (fun _ _ => rfl)) set_list))
     (pss_cons (ps_fldK (K := K) rfl (pv 0) (pe_op (op_plusK (K := K) rfl) (pv 2) pe_int))
     (pss_one (ps_ret pe_bl)))))), ?_⟩
     refine r_st (σ' := [some _, some _, none]) rfl ?_
     walk_at "rd"
     exact q
   · have f1 := F.moves
     have f2 := F.mark
     have f3 := F.names
     have f4 := F.len
     have hat : atI ws ((k : Int) + 1 - 1) = some (.ref q') := by
       rw [show (k : Int) + 1 - 1 = (k : Int) by omega]
       exact atI_nat hq
     have hat2 : atI ws (o : Int) = some (.ref q2) := atI_nat ho
     refine ⟨_, (pss_cons (ps_set (i := 2) sc_Doing_lands.nd rfl (Or.inl rfl) (pe_ix (ix_K (K := K) rfl) (pe_ix (ix_K (K := K) rfl) (pe_fldK (K := K) rfl (pv 0)) (pe_op op_sub (pe_fldK (K := K) rfl (pv 0)) pe_int) (fun _ _ => rfl)) pe_int (fun _ _ => rfl)))
     (pss_cons (ps_if (pt_cmpR op_isNA (pv 2) pe_non (nomark _)) (pss_one (ps_ret pe_bl)) pss_nil)
     (pss_cons (ps_asg (pv 1) (pg_sub (pe_fldK (K := K) rfl (pv 0)) (pe_ix (ix_K (K := K) rfl) (pe_ix (ix_K (K := K) rfl) (pe_ix (ix_K (K := K) rfl) (pe_fldK (K := K) rfl (pv 0)) (pv 2) (fun _ _ => rfl)) pe_int (fun _ _ => rfl)) pe_int (fun _ _ => rfl)) set_list))
     (pss_cons (ps_fldK (K := K) rfl (pv 0) (pe_op (op_plusK (K := K) rfl) (pv 2) pe_int))
     (pss_one (ps_ret pe_bl)))))), ?_⟩
     refine r_st (σ' := [some _, some _, none]) rfl ?_
     walk_at "rd"
     exact q _ (F.setMark _)
theorem ok_law_cell_at (T : Txt w K mg a) : FnE P w K mg base CX0 1 "_law_cell_at" (spCellAt K) := by
 refine fnE_of (sp := (spCellAt K)) 0 T.fn_law_cell_at sc_law_cell_at (fun vs H Q E h => ?_) (fun f cdv A outer s H vs Q E hr h => ?_)
 · obtain ⟨p, ns, k, rfl, _⟩ := h
   rfl
 · obtain ⟨p, ns, k, rfl, hS, h0, q⟩ := h
   refine ⟨_, (pss_cons (ps_if (pt_cmpR op_lt (pv 1) (pe_callB (call_lenK (K := K) rfl) rfl T.z_len b_len (pa_cons (pv 0) pa_nil)) (nomark _)) (pss_one (ps_ret (pe_ix (ix_K (K := K) rfl) (pv 0) (pv 1) (fun _ _ => rfl)))) pss_nil)
     (pss_one (ps_ret pe_int))), ?_⟩
   refine r_st (σ' := [some _, some _]) rfl ?_
   walk_at "rd"
   refine ifDec (fun hh => ?_) (fun hh => ?_)
   · walk_at "rd"
     exact q
   · walk_at "rd"
     have e := cellAt_out h0 hh
     rw [e] at q
     exact q
theorem ok_law_answer (T : Txt w K mg a) : FnE P w K mg base CX0 1 "_law_answer" spAns := by
 refine fnE_of (sp := spAns) 0 T.fn_law_answer sc_law_answer (fun vs H Q E h => ?_) (fun f cdv A outer s H vs Q E hr h => ?_)
 · obtain ⟨t, an, rfl, _⟩ := h
   rfl
 · obtain ⟨t, an, rfl, ht, hv, q⟩ := h
   refine' ⟨_, ?body0, ?_⟩
   (case body0 => (refine' pss_cons ?tu1 ?tq2; (case tq2 => (refine' pss_cons ?tu3 ?tq4; (case tq4 => exact (pss_one (ps_ret (pe_and (pe_callB (call_isiK (K := K) rfl) rfl T.z_isinstance b_isinstance (pa_cons (pe_ix (ix_K (K := K) rfl) (pv 0) pe_int (fun _ _ => rfl)) (pa_cons (pe_bltn (v := .ty "int") rfl T.z_int b_int rfl) pa_nil))) (pe_and (pe_not (pe_callB (call_isiK (K := K) rfl) rfl T.z_isinstance b_isinstance (pa_cons (pe_ix (ix_K (K := K) rfl) (pv 0) pe_int (fun _ _ => rfl)) (pa_cons (pe_bltn (v := .ty "bool") rfl T.z_bool b_bool rfl) pa_nil)))) (pe_one (pe_chain op_le op_lt pe_int (pe_ix (ix_K (K := K) rfl) (pv 0) pe_int (fun _ _ => rfl)) pe_int))))))); (case tu3 => (refine' ps_if ?ti5 ?tj6 ?tm7; (case ti5 => (refine' PW.pt ?tb8; (case tb8 => (refine' pw_or ?tt9 ?tw10; (case tt9 => exact (pt_not (pt_truK (K := K) rfl (pe_callB (call_isiK (K := K) rfl) rfl T.z_isinstance b_isinstance (pa_cons (pv 0) (pa_cons (pe_bltn (v := .ty "tuple") rfl T.z_tuple b_tuple rfl) pa_nil)))))); (case tw10 => (refine' pw_or ?tt11 ?tw12; (case tt11 => exact (pt_cmpR (op_neK (K := K) rfl hr.units) (pe_callB (call_lenK (K := K) rfl) rfl T.z_len b_len (pa_cons (pv 0) pa_nil)) pe_int (nomark _))); (case tw12 => (refine' pw_or1 ?tt13; (case tt13 => (refine' pt_cmpR (op_notInK (K := K) rfl) ?tl14 ?tr15 rfl; (case tl14 => exact (pe_ix (ix_K (K := K) rfl) (pv 0) pe_int (fun _ _ => rfl))); (case tr15 => (refine' pe_tup ?ta16; (case ta16 => (refine' pa_cons ?tx17 ?ty18 ?tz19; (case tz19 => rfl); (case tx17 => exact pe_str); (case ty18 => (refine' pa_cons ?tx20 ?ty21 ?tz22; (case tz22 => rfl); (case tx20 => exact pe_str); (case ty21 => exact pa_nil))))))))))))))))); (case tj6 => exact (pss_one ps_dead)); (case tm7 => exact pss_nil))))); (case tu1 => (refine' ps_if ?ti23 ?tj24 ?tm25; (case ti23 => (refine' PW.pt ?tb26; (case tb26 => (refine' pw_or ?tt27 ?tw28; (case tt27 => (refine' pt_cmpR (op_eqK (K := K) rfl hr.units) ?tl29 ?tr30 (nomark _); (case tl29 => exact (pv 0)); (case tr30 => (refine' pe_tup ?ta31; (case ta31 => (refine' pa_cons ?tx32 ?ty33 ?tz34; (case tz34 => rfl); (case tx32 => exact pe_str); (case ty33 => exact pa_nil))))))); (case tw28 => (refine' pw_or1 ?tt35; (case tt35 => (refine' pt_cmpR (op_eqK (K := K) rfl hr.units) ?tl36 ?tr37 (nomark _); (case tl36 => exact (pv 0)); (case tr37 => (refine' pe_tup ?ta38; (case ta38 => (refine' pa_cons ?tx39 ?ty40 ?tz41; (case tz41 => rfl); (case tx39 => exact pe_str); (case ty40 => exact pa_nil))))))))))))); (case tj24 => exact (pss_one (ps_ret (pe_callB (call_isiK (K := K) rfl) rfl T.z_isinstance b_isinstance (pa_cons (pv 0) (pa_cons (pe_bltn (v := .ty "tuple") rfl T.z_tuple b_tuple rfl) pa_nil)))))); (case tm25 => exact pss_nil)))))
   refine r_st (σ' := [some _]) rfl ?_
   walk_at "rk"
   rename_i u nu
   refine r_eqD an.pd (.tuple [.str "tired"]) (An.dp (look_new ht nu)) (An.dp (an := .tired) upd_same) an.sh (An.sh .tired) ?_
   have s1 := same_new (o := .tup [.str "tired"]) nu
   have ht1 := s1 _ _ ht
   generalize (upd H u (.tup [.str "tired"])) = H1 at s1 ht1 ⊢
   clear nu
   cases an with
   | tired =>
     have ht1 : H1 t = some (.tup [.str "tired"]) := ht1
     rw [show PyData.eqv (An.pd .tired) (.tuple [.str "tired"]) = true from by decide +kernel]
     walk_at "rk"
     exact q _ s1
   | deep =>
     have ht1 : H1 t = some (.tup [.str "deep"]) := ht1
     rw [show PyData.eqv (An.pd .deep) (.tuple [.str "tired"]) = false from by decide +kernel]
     walk_at "rk"
     rename_i u2 nu2
     refine r_eqD (An.pd .deep) (.tuple [.str "deep"]) (An.dp (look_new ht1 nu2)) (An.dp (an := .deep) upd_same) (An.sh .deep) (An.sh .deep) ?_
     have s2 := s1.trans (same_new (o := .tup [.str "deep"]) nu2)
     have ht2 := look_new (o := .tup [.str "deep"]) ht1 nu2
     generalize (upd H1 u2 (.tup [.str "deep"])) = H2 at s2 ht2 ⊢
     rw [show PyData.eqv (An.pd .deep) (.tuple [.str "deep"]) = true from by decide +kernel]
     clear ht1 nu2
     walk_at "rk"
     exact q _ s2
   | gave v =>
     have ht1 : H1 t = some (.tup [.str "gave", .int v]) := ht1
     obtain ⟨v0, v1⟩ : 0 ≤ v ∧ v ≤ 4294967295 := hv
     rw [show PyData.eqv (An.pd (.gave v)) (.tuple [.str "tired"]) = false from by simp [An.pd, PyData.eqv, PyData.eqvAll]]
     walk_at "rk"
     rename_i u2 nu2
     refine r_eqD (An.pd (.gave v)) (.tuple [.str "deep"]) (An.dp (look_new ht1 nu2)) (An.dp (an := .deep) upd_same) (An.sh _) (An.sh .deep) ?_
     have s2 := s1.trans (same_new (o := .tup [.str "deep"]) nu2)
     have ht2 := look_new (o := .tup [.str "deep"]) ht1 nu2
     generalize (upd H1 u2 (.tup [.str "deep"])) = H2 at s2 ht2 ⊢
     rw [show PyData.eqv (An.pd (.gave v)) (.tuple [.str "deep"]) = false from by simp [An.pd, PyData.eqv, PyData.eqvAll]]
     clear ht1 nu2 s1
     walk_at "rk"
     refine r_lenT (SqT.of ht2) ?_
     walk_at "rk"
     rename_i u3 nu3
     refine ⟨_, _, rfl, .inr (SqT.of upd_same), rfl, rfl, ?_⟩
     have s3 := s2.trans (same_new (o := .tup [.str "gave", .str "dropped"]) nu3)
     have ht3 := look_new (o := .tup [.str "gave", .str "dropped"]) ht2 nu3
     generalize (upd H2 u3 (.tup [.str "gave", .str "dropped"])) = H3 at s3 ht3 ⊢
     clear ht2 nu3 s2
     walk_at "rk"
     rw [decide_eq_true (show v < 4294967296 by omega)]
     exact q _ s3
   | dropped v =>
     have ht1 : H1 t = some (.tup [.str "dropped", .int v]) := ht1
     obtain ⟨v0, v1⟩ : 0 ≤ v ∧ v ≤ 4294967295 := hv
     rw [show PyData.eqv (An.pd (.dropped v)) (.tuple [.str "tired"]) = false from by simp [An.pd, PyData.eqv, PyData.eqvAll]]
     walk_at "rk"
     rename_i u2 nu2
     refine r_eqD (An.pd (.dropped v)) (.tuple [.str "deep"]) (An.dp (look_new ht1 nu2)) (An.dp (an := .deep) upd_same) (An.sh _) (An.sh .deep) ?_
     have s2 := s1.trans (same_new (o := .tup [.str "deep"]) nu2)
     have ht2 := look_new (o := .tup [.str "deep"]) ht1 nu2
     generalize (upd H1 u2 (.tup [.str "deep"])) = H2 at s2 ht2 ⊢
     rw [show PyData.eqv (An.pd (.dropped v)) (.tuple [.str "deep"]) = false from by simp [An.pd, PyData.eqv, PyData.eqvAll]]
     clear ht1 nu2 s1
     walk_at "rk"
     refine r_lenT (SqT.of ht2) ?_
     walk_at "rk"
     rename_i u3 nu3
     refine ⟨_, _, rfl, .inr (SqT.of upd_same), rfl, rfl, ?_⟩
     have s3 := s2.trans (same_new (o := .tup [.str "gave", .str "dropped"]) nu3)
     have ht3 := look_new (o := .tup [.str "gave", .str "dropped"]) ht2 nu3
     generalize (upd H2 u3 (.tup [.str "gave", .str "dropped"])) = H3 at s3 ht3 ⊢
     clear ht2 nu3 s2
     walk_at "rk"
     rw [decide_eq_true (show v < 4294967296 by omega)]
     exact q _ s3
theorem ok_add_if {k d : Nat} (G : FnE P w K mg base CX0 k "add_all" (spAddAll d)) (T : Txt w K mg a) : FnE P w K mg base CX0 (k + 1) "add_if" (spAdd1 Stm.isIf d) := by
 refine fnE_of (sp := spAdd1 Stm.isIf d) k T.fn_add_if sc_add_if (fun vs H Q E h => ?_) (fun f cdv A outer s H vs Q E hr h => ?_)
 · obtain ⟨m, p, us, H0, s, land, rfl, _⟩ := h
   rfl
 · obtain ⟨m, p, us, H0, s, land, rfl, hm, s0, nm, hst, hP, hle, q⟩ := h
   refine ⟨_, (pss_cons (ps_set (i := 3) sc_add_if.nd rfl (Or.inl rfl) (pe_callB (call_lenK (K := K) rfl) rfl T.z_len b_len (pa_cons (pv 0) pa_nil)))
     (pss_cons (ps_expr (pe_bmK (K := K) rfl PySem.F.plainAttrs_list PySem.F.slot_list_append PySem.F.type_list_append mt_append (pv 0) (pa_cons pe_non pa_nil)))
     (pss_cons (ps_expr (pe_callE G (hr.mono (Nat.le_refl _)) pass0 rfl (pa_cons (pv 0) (pa_cons (pe_ix (ix_K (K := K) rfl) (pv 1) pe_int (fun _ _ => rfl)) (pa_cons (pv 2) pa_nil)))))
     (pss_cons (ps_set (i := 4) sc_add_if.nd rfl (Or.inl rfl) (pe_callB (call_lenK (K := K) rfl) rfl T.z_len b_len (pa_cons (pv 0) pa_nil)))
     (pss_cons (ps_expr (pe_bmK (K := K) rfl PySem.F.plainAttrs_list PySem.F.slot_list_append PySem.F.type_list_append mt_append (pv 0) (pa_cons pe_non pa_nil)))
     (pss_cons (ps_asg (pe_tup (pa_cons (pe_tup (pa_cons pe_str (pa_cons (pe_ix (ix_K (K := K) rfl) (pv 1) pe_int (fun _ _ => rfl)) (pa_cons (pe_callB (call_lenK (K := K) rfl) rfl T.z_len b_len (pa_cons (pv 0) pa_nil)) pa_nil)))) (pa_cons (pv 2) pa_nil))) (pg_sub (pv 0) (pv 3) set_list))
     (pss_cons (ps_expr (pe_callE G (hr.mono (Nat.le_refl _)) pass0 rfl (pa_cons (pv 0) (pa_cons (pe_ix (ix_K (K := K) rfl) (pv 1) pe_int (fun _ _ => rfl)) (pa_cons (pv 2) pa_nil)))))
     (pss_one (ps_asg (pe_tup (pa_cons (pe_tup (pa_cons pe_str (pa_cons (pe_callB (call_lenK (K := K) rfl) rfl T.z_len b_len (pa_cons (pv 0) pa_nil)) pa_nil))) (pa_cons (pv 2) pa_nil))) (pg_sub (pv 0) (pv 4) set_list)))))))))), ?_⟩
   refine r_st (σ' := [some _, some _, some _, none, none]) rfl ?_
   cases s with
   | ifS x a' b =>
     obtain ⟨la, lb, h1, ⟨pa, hla, hpa⟩, ⟨pb, hlb, hpb⟩⟩ := hst
     have hp := s0 _ _ h1
     simp only [lay1] at q hle
     have e1 : (us ++ [V.non]).length = us.length + 1 := by rw [List.length_append]; rfl
     generalize hA' : lays (lay1 d land) (us.length + 1) a' = LA at q hle
     generalize hB' : lays (lay1 d land) (us.length + LA.length + 2) b = LB at q hle
     simp only [List.length_cons, List.length_append] at hle
     walk_at "rd"
     refine ⟨m, la, us ++ [.non], H0, pa, a', land, rfl, upd_same, same_put s0 nm, nm, hla, hpa, by rw [e1, hA']; omega, fun wsA H2 k2 hm2 hA => ?_⟩
     rw [e1, hA'] at hA
     have hlA := hA.1
     have kA : KeepM m H H2 := (KeepM.put KeepM.refl).trans k2
     have s2 := kA.same s0 nm
     have hp2 := s2 _ _ h1
     have hm2 : H2 m = some (.lst (us ++ .non :: wsA)) := by rw [hm2, List.append_assoc]; rfl
     have e2 : (us ++ V.non :: wsA).length = us.length + LA.length + 1 := by rw [List.length_append, List.length_cons]; omega
     have e3 : (us ++ V.non :: wsA ++ [V.non]).length = us.length + LA.length + 2 := by rw [List.length_append, e2]; rfl
     clear k2 hm hp
     walk_at "rd"
     rename_i t1 n1 t2 n2
     rw [e3] at n2 ⊢
     have hm3 : (upd (upd (upd H2 m (.lst (us ++ .non :: wsA ++ [.non]))) t1 (.tup [.str "test", .int x, .int ((us.length + LA.length + 2 : Nat) : Int)])) t2 (.tup [.ref t1, landV land])) m = some (.lst (us ++ .non :: wsA ++ [.non])) := look_new (look_new upd_same n1) n2
     refine r_setL hm3 (ixN_mid (by rw [e3]; omega)) ?_
     have e4 : (us ++ V.non :: wsA ++ [V.non]).set us.length (V.ref t2) = us ++ .ref t2 :: (wsA ++ [.non]) := by rw [List.append_assoc, List.cons_append]; exact set_mid
     rw [e4, e2]
     have hm4 : (upd (upd (upd (upd H2 m (.lst (us ++ .non :: wsA ++ [.non]))) t1 (.tup [.str "test", .int x, .int ((us.length + LA.length + 2 : Nat) : Int)])) t2 (.tup [.ref t1, landV land])) m (.lst (us ++ .ref t2 :: (wsA ++ [.non])))) m = some (.lst (us ++ .ref t2 :: (wsA ++ [.non]))) := upd_same
     have k4 : KeepM m H (upd (upd (upd (upd H2 m (.lst (us ++ .non :: wsA ++ [.non]))) t1 (.tup [.str "test", .int x, .int ((us.length + LA.length + 2 : Nat) : Int)])) t2 (.tup [.ref t1, landV land])) m (.lst (us ++ .ref t2 :: (wsA ++ [.non])))) := KeepM.put (KeepM.new (KeepM.new (KeepM.put kA) n1) n2)
     have T1 := tup_upd (o := .lst (us ++ .ref t2 :: (wsA ++ [.non]))) hm3 t1 _ (look_new upd_same n2)
     have T2 := tup_upd (o := .lst (us ++ .ref t2 :: (wsA ++ [.non]))) hm3 t2 _ upd_same
     have hA4 := ((hA.to (tup_upd (o := .lst (us ++ .non :: wsA ++ [.non])) hm2)).same ((same_new n1).trans (same_new n2))).to (tup_upd (o := .lst (us ++ .ref t2 :: (wsA ++ [.non]))) hm3)
     generalize (upd (upd (upd (upd H2 m (.lst (us ++ .non :: wsA ++ [.non]))) t1 (.tup [.str "test", .int x, .int ((us.length + LA.length + 2 : Nat) : Int)])) t2 (.tup [.ref t1, landV land])) m (.lst (us ++ .ref t2 :: (wsA ++ [.non])))) = H4 at hm4 k4 T1 T2 hA4 ⊢
     have hp4 := (k4.same s0 nm) _ _ h1
     clear n1 n2 hm3 hm2 hp2 s2 kA hA
     have e5 : (us ++ V.ref t2 :: (wsA ++ [.non])).length = us.length + LA.length + 2 := by rw [List.length_append, List.length_cons, List.length_append]; show _ + (_ + 1 + 1) = _; omega
     walk_at "rd"
     refine ⟨m, lb, us ++ .ref t2 :: (wsA ++ [.non]), H0, pb, b, land, rfl, hm4, k4.same s0 nm, nm, hlb, hpb, by rw [e5, hB']; omega, fun wsB H5 k5 hm5 hB => ?_⟩
     rw [e5, hB'] at hB
     have hlB := hB.1
     have hm5 : H5 m = some (.lst ((us ++ .ref t2 :: wsA) ++ .non :: wsB)) := by rw [hm5]; simp [List.append_assoc]
     have e7 : (us ++ V.ref t2 :: wsA).length = us.length + LA.length + 1 := by rw [List.length_append, List.length_cons]; omega
     have e6 : ((us ++ V.ref t2 :: wsA) ++ .non :: wsB).length = us.length + LA.length + 2 + LB.length := by rw [List.length_append, e7, List.length_cons]; omega
     have k45 := k4.trans k5
     have hp5 := (k45.same s0 nm) _ _ h1
     have T15 := k5.tup hm4 _ _ T1
     have T25 := k5.tup hm4 _ _ T2
     have hA5 := hA4.to (k5.tup hm4)
     clear k5 T1 T2 hA4 hm4 hp4
     walk_at "rd"
     rename_i t3 n3 t4 n4
     rw [e6] at n4 ⊢
     have hm6 := look_new (o := .tup [.ref t3, landV land]) (look_new (o := .tup [.str "go", .int ((us.length + LA.length + 2 + LB.length : Nat) : Int)]) hm5 n3) n4
     refine r_setL hm6 (ixN_mid (by rw [e6]; omega)) ?_
     have e8 : ((us ++ V.ref t2 :: wsA) ++ .non :: wsB).set (us.length + LA.length + 1) (.ref t4) = us ++ .ref t2 :: (wsA ++ .ref t4 :: wsB) := by rw [← e7, set_mid]; simp
     rw [e8]
     have sn := (same_new (o := .tup [.str "go", .int ((us.length + LA.length + 2 + LB.length : Nat) : Int)]) n3).trans (same_new (o := .tup [.ref t3, landV land]) n4)
     exact q (.ref t2 :: (wsA ++ .ref t4 :: wsB)) _ (KeepM.put (KeepM.new (KeepM.new k45 n3) n4)) upd_same (MvV.cons ⟨t2, t1, rfl, tup_upd hm6 _ _ (sn _ _ T25), tup_upd hm6 _ _ (sn _ _ T15)⟩ (MvV.app ((hA5.same sn).to (tup_upd hm6)) (MvV.cons ⟨t4, t3, rfl, tup_upd hm6 _ _ upd_same, tup_upd hm6 _ _ (look_new upd_same n4)⟩ ((hB.same sn).to (tup_upd hm6)))))
   | _ => exact hP.elim
theorem ok_add_while {k d : Nat} (G : FnE P w K mg base CX0 k "add_all" (spAddAll d)) (T : Txt w K mg a) : FnE P w K mg base CX0 (k + 1) "add_while" (spAdd1 Stm.isWhile d) := by
 refine fnE_of (sp := spAdd1 Stm.isWhile d) k T.fn_add_while sc_add_while (fun vs H Q E h => ?_) (fun f cdv A outer s H vs Q E hr h => ?_)
 · obtain ⟨m, p, us, H0, s, land, rfl, _⟩ := h
   rfl
 · obtain ⟨m, p, us, H0, s, land, rfl, hm, s0, nm, hst, hP, hle, q⟩ := h
   refine ⟨_, (pss_cons (ps_set (i := 3) sc_add_while.nd rfl (Or.inl rfl) (pe_callB (call_lenK (K := K) rfl) rfl T.z_len b_len (pa_cons (pv 0) pa_nil)))
     (pss_cons (ps_expr (pe_bmK (K := K) rfl PySem.F.plainAttrs_list PySem.F.slot_list_append PySem.F.type_list_append mt_append (pv 0) (pa_cons pe_non pa_nil)))
     (pss_cons (ps_expr (pe_callE G (hr.mono (Nat.le_refl _)) pass0 rfl (pa_cons (pv 0) (pa_cons (pe_ix (ix_K (K := K) rfl) (pv 1) pe_int (fun _ _ => rfl)) (pa_cons (pv 2) pa_nil)))))
     (pss_cons (ps_expr (pe_bmK (K := K) rfl PySem.F.plainAttrs_list PySem.F.slot_list_append PySem.F.type_list_append mt_append (pv 0) (pa_cons (pe_tup (pa_cons (pe_tup (pa_cons pe_str (pa_cons (pv 3) pa_nil))) (pa_cons (pv 2) pa_nil))) pa_nil)))
     (pss_one (ps_asg (pe_tup (pa_cons (pe_tup (pa_cons pe_str (pa_cons (pe_ix (ix_K (K := K) rfl) (pv 1) pe_int (fun _ _ => rfl)) (pa_cons (pe_callB (call_lenK (K := K) rfl) rfl T.z_len b_len (pa_cons (pv 0) pa_nil)) pa_nil)))) (pa_cons (pv 2) pa_nil))) (pg_sub (pv 0) (pv 3) set_list))))))), ?_⟩
   refine r_st (σ' := [some _, some _, some _, none]) rfl ?_
   cases s with
   | whileS x a' =>
     obtain ⟨la, h1, ⟨pa, hla, hpa⟩⟩ := hst
     have hp := s0 _ _ h1
     simp only [lay1] at q hle
     have e1 : (us ++ [V.non]).length = us.length + 1 := by rw [List.length_append]; rfl
     generalize hA' : lays (lay1 d land) (us.length + 1) a' = LA at q hle
     simp only [List.length_cons, List.length_append] at hle
     have hle : us.length + LA.length + 2 ≤ 10000 := by have := hle; simp at this; omega
     walk_at "rd"
     refine ⟨m, la, us ++ [.non], H0, pa, a', land, rfl, upd_same, same_put s0 nm, nm, hla, hpa, by rw [e1, hA']; omega, fun wsA H2 k2 hm2 hA => ?_⟩
     rw [e1, hA'] at hA
     have hlA := hA.1
     have kA : KeepM m H H2 := (KeepM.put KeepM.refl).trans k2
     have s2 := kA.same s0 nm
     have hp2 := s2 _ _ h1
     have hm2 : H2 m = some (.lst (us ++ .non :: wsA)) := by rw [hm2, List.append_assoc]; rfl
     have e2 : (us ++ V.non :: wsA).length = us.length + LA.length + 1 := by rw [List.length_append, List.length_cons]; omega
     clear k2 hm hp
     walk_at "rd"
     rename_i t1 n1 t2 n2 t3 n3 t4 n4
     have e3 : (us ++ V.non :: wsA ++ [V.ref t2]).length = us.length + LA.length + 2 := by rw [List.length_append, e2]; rfl
     rw [e3] at n4 ⊢
     have hmA := look_new (o := .tup [.ref t1, landV land]) (look_new (o := .tup [.str "go", .int (us.length : Int)]) hm2 n1) n2
     have hm3 := look_new (o := .tup [.ref t3, landV land]) (look_new (o := .tup [.str "test", .int x, .int ((us.length + LA.length + 2 : Nat) : Int)]) (upd_same (H := upd (upd H2 t1 (.tup [.str "go", .int (us.length : Int)])) t2 (.tup [.ref t1, landV land])) (a := m) (o := .lst (us ++ .non :: wsA ++ [.ref t2]))) n3) n4
     refine r_setL hm3 (ixN_mid (by rw [e3]; omega)) ?_
     have e4 : (us ++ V.non :: wsA ++ [V.ref t2]).set us.length (V.ref t4) = us ++ .ref t4 :: (wsA ++ [.ref t2]) := by rw [List.append_assoc, List.cons_append]; exact set_mid
     rw [e4]
     have sa := (same_new (o := .tup [.str "go", .int (us.length : Int)]) n1).trans (same_new (o := .tup [.ref t1, landV land]) n2)
     have sb := (same_new (o := .tup [.str "test", .int x, .int ((us.length + LA.length + 2 : Nat) : Int)]) n3).trans (same_new (o := .tup [.ref t3, landV land]) n4)
     have b1 := tup_upd (o := .lst (us ++ .non :: wsA ++ [.ref t2])) hmA t1 _ (look_new upd_same n2)
     have b2 := tup_upd (o := .lst (us ++ .non :: wsA ++ [.ref t2])) hmA t2 _ upd_same
     have hAb := (hA.same sa).to (tup_upd (o := .lst (us ++ .non :: wsA ++ [.ref t2])) hmA)
     exact q (.ref t4 :: (wsA ++ [.ref t2])) _ (KeepM.put (KeepM.new (KeepM.new (KeepM.put (KeepM.new (KeepM.new kA n1) n2)) n3) n4)) upd_same (MvV.cons ⟨t4, t3, rfl, tup_upd hm3 _ _ upd_same, tup_upd hm3 _ _ (look_new upd_same n4)⟩ (MvV.app ((hAb.same sb).to (tup_upd hm3)) (MvV.one ⟨t2, t1, rfl, tup_upd hm3 _ _ (sb _ _ b2), tup_upd hm3 _ _ (sb _ _ b1)⟩)))
   | _ => exact hP.elim
theorem ok_add_try {k d : Nat} (G : FnE P w K mg base CX0 k "add_all" (spAddAll d)) (T : Txt w K mg a) : FnE P w K mg base CX0 (k + 1) "add_try" (spAdd1 Stm.isTry d) := by
 refine fnE_of (sp := spAdd1 Stm.isTry d) k T.fn_add_try sc_add_try (fun vs H Q E h => ?_) (fun f cdv A outer s H vs Q E hr h => ?_)
 · obtain ⟨m, p, us, H0, s, land, rfl, _⟩ := h
   rfl
 · obtain ⟨m, p, us, H0, s, land, rfl, hm, s0, nm, hst, hP, hle, q⟩ := h
   refine ⟨_, (pss_cons (ps_set (i := 3) sc_add_try.nd rfl (Or.inl rfl) (pe_callB (call_lenK (K := K) rfl) rfl T.z_len b_len (pa_cons (pv 0) pa_nil)))
     (pss_cons (ps_expr (pe_bmK (K := K) rfl PySem.F.plainAttrs_list PySem.F.slot_list_append PySem.F.type_list_append mt_append (pv 0) (pa_cons pe_non pa_nil)))
     (pss_cons (ps_set (i := 4) sc_add_try.nd rfl (Or.inl rfl) (pe_callB (call_lenK (K := K) rfl) rfl T.z_len b_len (pa_cons (pv 0) pa_nil)))
     (pss_cons (ps_expr (pe_bmK (K := K) rfl PySem.F.plainAttrs_list PySem.F.slot_list_append PySem.F.type_list_append mt_append (pv 0) (pa_cons (pe_tup (pa_cons (pe_tup (pa_cons pe_str (pa_cons (pe_ix (ix_K (K := K) rfl) (pv 1) pe_int (fun _ _ => rfl)) pa_nil))) (pa_cons (pv 2) pa_nil))) pa_nil)))
     (pss_cons (ps_expr (pe_callE G (hr.mono (Nat.le_refl _)) pass0 rfl (pa_cons (pv 0) (pa_cons (pe_ix (ix_K (K := K) rfl) (pv 1) pe_int (fun _ _ => rfl)) (pa_cons (pv 2) pa_nil)))))
     (pss_cons (ps_set (i := 5) sc_add_try.nd rfl (Or.inl rfl) (pe_callB (call_lenK (K := K) rfl) rfl T.z_len b_len (pa_cons (pv 0) pa_nil)))
     (pss_cons (ps_expr (pe_bmK (K := K) rfl PySem.F.plainAttrs_list PySem.F.slot_list_append PySem.F.type_list_append mt_append (pv 0) (pa_cons pe_non pa_nil)))
     (pss_cons (ps_asg (pe_tup (pa_cons (pe_tup (pa_cons pe_str (pa_cons (pe_callB (call_lenK (K := K) rfl) rfl T.z_len b_len (pa_cons (pv 0) pa_nil)) pa_nil))) (pa_cons (pv 2) pa_nil))) (pg_sub (pv 0) (pv 3) set_list))
     (pss_cons (ps_expr (pe_callE G (hr.mono (Nat.le_refl _)) pass0 rfl (pa_cons (pv 0) (pa_cons (pe_ix (ix_K (K := K) rfl) (pv 1) pe_int (fun _ _ => rfl)) (pa_cons (pv 4) pa_nil)))))
     (pss_one (ps_asg (pe_tup (pa_cons (pe_tup (pa_cons pe_str (pa_cons (pe_callB (call_lenK (K := K) rfl) rfl T.z_len b_len (pa_cons (pv 0) pa_nil)) pa_nil))) (pa_cons (pv 2) pa_nil))) (pg_sub (pv 0) (pv 5) set_list)))))))))))), ?_⟩
   refine r_st (σ' := [some _, some _, some _, none, none, none]) rfl ?_
   cases s with
   | tryS a' x b =>
     obtain ⟨la, lb, h1, ⟨pa, hla, hpa⟩, ⟨pb, hlb, hpb⟩⟩ := hst
     have hp := s0 _ _ h1
     simp only [lay1] at q hle
     have e1 : (us ++ [V.non]).length = us.length + 1 := by rw [List.length_append]; rfl
     generalize hB' : lays (lay1 d land) (us.length + 2) b = LB at q hle
     generalize hA' : lays (lay1 d (some (us.length + 1))) (us.length + LB.length + 3) a' = LA at q hle
     simp only [List.length_cons, List.length_append] at hle
     walk_at "rd"
     rename_i t1 n1 t2 n2
     have hmA := look_new (o := .tup [.ref t1, landV land]) (look_new (o := .tup [.str "land", .int x]) (upd_same (H := H) (a := m) (o := .lst (us ++ [.non]))) n1) n2
     have hm1 : (upd (upd (upd (upd H m (.lst (us ++ [.non]))) t1 (.tup [.str "land", .int x])) t2 (.tup [.ref t1, landV land])) m (.lst (us ++ [.non] ++ [.ref t2]))) m = some (.lst (us ++ [.non] ++ [.ref t2])) := upd_same
     have k1 : KeepM m H (upd (upd (upd (upd H m (.lst (us ++ [.non]))) t1 (.tup [.str "land", .int x])) t2 (.tup [.ref t1, landV land])) m (.lst (us ++ [.non] ++ [.ref t2]))) := KeepM.put (KeepM.new (KeepM.new (KeepM.put KeepM.refl) n1) n2)
     have T1 := tup_upd (o := .lst (us ++ [.non] ++ [.ref t2])) hmA t1 _ (look_new upd_same n2)
     have T2 := tup_upd (o := .lst (us ++ [.non] ++ [.ref t2])) hmA t2 _ upd_same
     generalize (upd (upd (upd (upd H m (.lst (us ++ [.non]))) t1 (.tup [.str "land", .int x])) t2 (.tup [.ref t1, landV land])) m (.lst (us ++ [.non] ++ [.ref t2]))) = H1 at hm1 k1 T1 T2 ⊢
     have e2 : (us ++ [V.non] ++ [V.ref t2]).length = us.length + 2 := by rw [List.length_append, e1]; rfl
     rw [e1]
     clear n1 n2 hmA hm
     have hp1 := (k1.same s0 nm) _ _ h1
     refine ⟨m, lb, us ++ [.non] ++ [.ref t2], H0, pb, b, land, rfl, hm1, k1.same s0 nm, nm, hlb, hpb, by rw [e2, hB']; omega, fun wsB H2 k2 hm2 hB => ?_⟩
     rw [e2, hB'] at hB
     have hlB := hB.1
     have kB := k1.trans k2
     have hp2 := (kB.same s0 nm) _ _ h1
     have T12 := k2.tup hm1 _ _ T1
     have T22 := k2.tup hm1 _ _ T2
     have hm2 : H2 m = some (.lst (us ++ .non :: (.ref t2 :: wsB))) := by rw [hm2]; simp
     have e3 : (us ++ V.non :: (V.ref t2 :: wsB)).length = us.length + LB.length + 2 := by rw [List.length_append, List.length_cons, List.length_cons]; omega
     have e4 : (us ++ V.non :: (V.ref t2 :: wsB) ++ [V.non]).length = us.length + LB.length + 3 := by rw [List.length_append, e3]; rfl
     clear k2 hm1 hp1 hp T1 T2 k1
     walk_at "rd"
     rename_i t3 n3 t4 n4
     rw [e4] at n4 ⊢
     have hm3 : (upd (upd (upd H2 m (.lst (us ++ .non :: (.ref t2 :: wsB) ++ [.non]))) t3 (.tup [.str "try", .int ((us.length + LB.length + 3 : Nat) : Int)])) t4 (.tup [.ref t3, landV land])) m = some (.lst (us ++ .non :: (.ref t2 :: wsB) ++ [.non])) := look_new (look_new upd_same n3) n4
     refine r_setL hm3 (ixN_mid (by rw [e4]; omega)) ?_
     have e5 : (us ++ V.non :: (V.ref t2 :: wsB) ++ [V.non]).set us.length (V.ref t4) = us ++ .ref t4 :: (.ref t2 :: wsB ++ [.non]) := by rw [List.append_assoc, List.cons_append]; exact set_mid
     rw [e5, e3]
     have hm4 : (upd (upd (upd (upd H2 m (.lst (us ++ .non :: (.ref t2 :: wsB) ++ [.non]))) t3 (.tup [.str "try", .int ((us.length + LB.length + 3 : Nat) : Int)])) t4 (.tup [.ref t3, landV land])) m (.lst (us ++ .ref t4 :: (.ref t2 :: wsB ++ [.non])))) m = some (.lst (us ++ .ref t4 :: (.ref t2 :: wsB ++ [.non]))) := upd_same
     have k4 : KeepM m H (upd (upd (upd (upd H2 m (.lst (us ++ .non :: (.ref t2 :: wsB) ++ [.non]))) t3 (.tup [.str "try", .int ((us.length + LB.length + 3 : Nat) : Int)])) t4 (.tup [.ref t3, landV land])) m (.lst (us ++ .ref t4 :: (.ref t2 :: wsB ++ [.non])))) := KeepM.put (KeepM.new (KeepM.new (KeepM.put kB) n3) n4)
     have sn1 := (same_new (o := .tup [.str "try", .int ((us.length + LB.length + 3 : Nat) : Int)]) n3).trans (same_new (o := .tup [.ref t3, landV land]) n4)
     have T14 := tup_upd (o := .lst (us ++ .ref t4 :: (.ref t2 :: wsB ++ [.non]))) hm3 t1 _ (sn1 _ _ (tup_upd hm2 _ _ T12))
     have T24 := tup_upd (o := .lst (us ++ .ref t4 :: (.ref t2 :: wsB ++ [.non]))) hm3 t2 _ (sn1 _ _ (tup_upd hm2 _ _ T22))
     have T34 := tup_upd (o := .lst (us ++ .ref t4 :: (.ref t2 :: wsB ++ [.non]))) hm3 t3 _ (look_new upd_same n4)
     have T44 := tup_upd (o := .lst (us ++ .ref t4 :: (.ref t2 :: wsB ++ [.non]))) hm3 t4 _ upd_same
     have hB4 := ((hB.to (tup_upd (o := .lst (us ++ .non :: (.ref t2 :: wsB) ++ [.non])) hm2)).same sn1).to (tup_upd (o := .lst (us ++ .ref t4 :: (.ref t2 :: wsB ++ [.non]))) hm3)
     generalize (upd (upd (upd (upd H2 m (.lst (us ++ .non :: (.ref t2 :: wsB) ++ [.non]))) t3 (.tup [.str "try", .int ((us.length + LB.length + 3 : Nat) : Int)])) t4 (.tup [.ref t3, landV land])) m (.lst (us ++ .ref t4 :: (.ref t2 :: wsB ++ [.non])))) = H4 at hm4 k4 T14 T24 T34 T44 hB4 ⊢
     have hp4 := (k4.same s0 nm) _ _ h1
     clear n3 n4 hm3 hm2 hp2 kB hB T12 T22 sn1
     have e6 : (us ++ V.ref t4 :: (V.ref t2 :: wsB ++ [.non])).length = us.length + LB.length + 3 := by rw [List.length_append, List.length_cons, List.length_append, List.length_cons]; show _ + (_ + 1 + 1 + 1) = _; omega
     walk_at "rd"
     refine ⟨m, la, us ++ .ref t4 :: (.ref t2 :: wsB ++ [.non]), H0, pa, a', some (us.length + 1), rfl, hm4, k4.same s0 nm, nm, hla, hpa, by rw [e6, hA']; omega, fun wsA H5 k5 hm5 hA => ?_⟩
     rw [e6, hA'] at hA
     have hlA := hA.1
     have hm5 : H5 m = some (.lst ((us ++ .ref t4 :: .ref t2 :: wsB) ++ .non :: wsA)) := by rw [hm5]; simp [List.append_assoc]
     have e7 : (us ++ V.ref t4 :: V.ref t2 :: wsB).length = us.length + LB.length + 2 := by rw [List.length_append, List.length_cons, List.length_cons]; omega
     have e8 : ((us ++ V.ref t4 :: V.ref t2 :: wsB) ++ .non :: wsA).length = us.length + LB.length + 3 + LA.length := by rw [List.length_append, e7, List.length_cons]; omega
     have k45 := k4.trans k5
     have hp5 := (k45.same s0 nm) _ _ h1
     have T15 := k5.tup hm4 _ _ T14
     have T25 := k5.tup hm4 _ _ T24
     have T35 := k5.tup hm4 _ _ T34
     have T45 := k5.tup hm4 _ _ T44
     have hB5 := hB4.to (k5.tup hm4)
     clear k5 T14 T24 T34 T44 hB4 hm4 hp4
     walk_at "rd"
     rename_i t5 n5 t6 n6
     rw [e8] at n6 ⊢
     have hm6 := look_new (o := .tup [.ref t5, landV land]) (look_new (o := .tup [.str "go", .int ((us.length + LB.length + 3 + LA.length : Nat) : Int)]) hm5 n5) n6
     refine r_setL hm6 (ixN_mid (by rw [e8]; omega)) ?_
     have e9 : ((us ++ V.ref t4 :: V.ref t2 :: wsB) ++ .non :: wsA).set (us.length + LB.length + 2) (.ref t6) = us ++ .ref t4 :: .ref t2 :: (wsB ++ .ref t6 :: wsA) := by rw [← e7, set_mid]; simp
     rw [e9]
     have sn := (same_new (o := .tup [.str "go", .int ((us.length + LB.length + 3 + LA.length : Nat) : Int)]) n5).trans (same_new (o := .tup [.ref t5, landV land]) n6)
     exact q (.ref t4 :: .ref t2 :: (wsB ++ .ref t6 :: wsA)) _ (KeepM.put (KeepM.new (KeepM.new k45 n5) n6)) upd_same (MvV.cons ⟨t4, t3, rfl, tup_upd hm6 _ _ (sn _ _ T45), tup_upd hm6 _ _ (sn _ _ T35)⟩ (MvV.cons ⟨t2, t1, rfl, tup_upd hm6 _ _ (sn _ _ T25), tup_upd hm6 _ _ (sn _ _ T15)⟩ (MvV.app ((hB5.same sn).to (tup_upd hm6)) (MvV.cons ⟨t6, t5, rfl, tup_upd hm6 _ _ upd_same, tup_upd hm6 _ _ (look_new upd_same n6)⟩ ((hA.same sn).to (tup_upd hm6))))))
   | _ => exact hP.elim
theorem ok_add_allS {k d : Nat} (G : FnE P w K mg base CX0 k "add_all" (spAddAll d)) (T : Txt w K mg a) : FnE P w K mg base CX0 (k + 2) "add_all" (spAddAll (d + 1)) := by
 refine fnE_of (sp := spAddAll (d + 1)) (k + 1) T.fn_add_all sc_add_all (fun vs H Q E h => ?_) (fun f cdv A outer s H vs Q E hr h => ?_)
 · obtain ⟨m, l, us, H0, ps, ss, land, rfl, _⟩ := h
   rfl
 · obtain ⟨m, l, us, H0, ps, ss, land, rfl, hm, s0, nm, hl, hps, hle, q⟩ := h
   have hpl := hps.1
   have nml : l ≠ m := ne_of_none hl nm
   refine ⟨_, (pss_one (ps_for PassesOwn.never rfl (pi_seqK (K := K) rfl (pv 1)) (pg_name (i := 3) sc_add_all.nd rfl (Or.inl rfl)) (pss_one (ps_if (pt_cmpR (op_eqK (K := K) rfl hr.units) (pe_ix (ix_K (K := K) rfl) (pv 3) pe_int (fun _ _ => rfl)) pe_str (nomark _)) (pss_one (ps_expr (pe_callE (ok_add_if (K := K) G T) (hr.mono (Nat.le_refl _)) pass0 rfl (pa_cons (pv 0) (pa_cons (pv 3) (pa_cons (pv 2) pa_nil)))))) (pss_one (ps_if (pt_cmpR (op_eqK (K := K) rfl hr.units) (pe_ix (ix_K (K := K) rfl) (pv 3) pe_int (fun _ _ => rfl)) pe_str (nomark _)) (pss_one (ps_expr (pe_callE (ok_add_while (K := K) G T) (hr.mono (Nat.le_refl _)) pass0 rfl (pa_cons (pv 0) (pa_cons (pv 3) (pa_cons (pv 2) pa_nil)))))) (pss_one (ps_if (pt_cmpR (op_eqK (K := K) rfl hr.units) (pe_ix (ix_K (K := K) rfl) (pv 3) pe_int (fun _ _ => rfl)) pe_str (nomark _)) (pss_one (ps_expr (pe_callE (ok_add_try (K := K) G T) (hr.mono (Nat.le_refl _)) pass0 rfl (pa_cons (pv 0) (pa_cons (pv 3) (pa_cons (pv 2) pa_nil)))))) (pss_one (ps_if (pt_cmpR (op_eqK (K := K) rfl hr.units) (pe_ix (ix_K (K := K) rfl) (pv 3) pe_int (fun _ _ => rfl)) pe_str (nomark _)) (pss_one (ps_expr (pe_callE (ok_add_hand (K := K) T) (hr.mono (by omega)) pass0 rfl (pa_cons (pv 0) (pa_cons (pv 3) (pa_cons (pv 2) pa_nil)))))) (pss_one (ps_expr (pe_bmK (K := K) rfl PySem.F.plainAttrs_list PySem.F.slot_list_append PySem.F.type_list_append mt_append (pv 0) (pa_cons (pe_tup (pa_cons (pv 3) (pa_cons (pv 2) pa_nil))) pa_nil)))))))))))))), ?_⟩
   refine r_st (σ' := [some _, some _, some _, none]) rfl ?_
   walk_at "rd"
   refine for_list (K := K) (a := l) (xs := ps.map V.ref) (fun i σ H1 => (∃ u, σ = [some (.ref m), some (.ref l), some (landV land), u]) ∧ KeepM m H H1 ∧ ∃ ws, H1 m = some (.lst (us ++ ws)) ∧ MvV H0 H1 ws (lays (lay1 (d + 1) land) us.length (ss.take i))) ⟨⟨_, rfl⟩, KeepM.refl, [], by rw [List.append_nil]; exact hm, MvV.nil⟩ (fun i σ H1 _ ⟨_, k1, _⟩ => SqL.of (k1 _ _ (s0 _ _ hl) nml)) ?_ ?_
   · rintro i v σ H1 hv ⟨⟨u, rfl⟩, k1, ws, hm1, hw1⟩
     obtain ⟨p, hx, rfl⟩ : ∃ p, ps[i]? = some p ∧ v = .ref p := by
       rw [List.getElem?_map] at hv
       obtain ⟨p, hp, e⟩ := Option.map_eq_some_iff.mp hv
       exact ⟨p, hp, e.symm⟩
     have hi : i < ss.length := by rw [← hpl]; exact (List.getElem?_eq_some_iff.mp hx).1
     have hsi : ss[i]? = some ss[i] := List.getElem?_eq_getElem hi
     have hst := hps.2 i p _ hx hsi
     have hlw := hw1.1
     have s1 := k1.same s0 nm
     have hsn : lays (lay1 (d + 1) land) us.length (ss.take (i + 1)) = lays (lay1 (d + 1) land) us.length (ss.take i) ++ lay1 (d + 1) land (us ++ ws).length ss[i] := by
       rw [List.take_add_one, hsi, Option.toList_some, lays_snoc, List.length_append, hlw]
     have hbd : (us ++ ws).length + (lay1 (d + 1) land (us ++ ws).length ss[i]).length ≤ 10000 := by
       have h1 := lays_le (lay1 (d + 1) land) us.length ss (i + 1)
       rw [hsn, List.length_append] at h1
       have h2 : (us ++ ws).length = us.length + ws.length := List.length_append
       omega
     rw [hsn]
     generalize ss[i] = s at hsi hst hbd
     clear hv hx hsn
     have fin : ∀ ws2 H2, KeepM m H1 H2 → H2 m = some (.lst (us ++ ws ++ ws2)) → MvV H0 H2 ws2 (lay1 (d + 1) land (us ++ ws).length s) → KeepM m H H2 ∧ ∃ ws', H2 m = some (.lst (us ++ ws')) ∧ MvV H0 H2 ws' (lays (lay1 (d + 1) land) us.length (ss.take i) ++ lay1 (d + 1) land (us ++ ws).length s) := fun ws2 H2 k2 hm2 hw2 => ⟨k1.trans k2, ws ++ ws2, by rw [hm2, List.append_assoc], MvV.app (hw1.to (k2.tup hm1)) hw2⟩
     cases s with
     | pl s =>
       have hbd : (us ++ ws).length + 1 ≤ 10000 := hbd
       have hst : H0 p = some (.tup s.vs) := hst
       have h11 := s1 _ _ hst
       have finP : ∀ t, H1 t = none → KeepM m H (upd (upd H1 t (.tup [.ref p, landV land])) m (.lst (us ++ ws ++ [.ref t]))) ∧ ∃ ws', (upd (upd H1 t (.tup [.ref p, landV land])) m (.lst (us ++ ws ++ [.ref t]))) m = some (.lst (us ++ ws')) ∧ MvV H0 (upd (upd H1 t (.tup [.ref p, landV land])) m (.lst (us ++ ws ++ [.ref t]))) ws' (lays (lay1 (d + 1) land) us.length (ss.take i) ++ lay1 (d + 1) land (us ++ ws).length (.pl s)) := fun t nt => fin [.ref t] _ (KeepM.put (KeepM.new KeepM.refl nt)) upd_same (MvV.one ⟨t, p, rfl, tup_upd (look_new hm1 nt) _ _ upd_same, tup_upd (look_new hm1 nt) _ _ (look_new h11 nt)⟩)
       cases s with
       | set x v =>
         have h11 : H1 p = some (.tup [.str "set", .int x, .int v]) := h11
         walk_at "rd"
         rename_i t nt
         exact ⟨⟨_, rfl⟩, finP t nt⟩
       | copy x y =>
         have h11 : H1 p = some (.tup [.str "copy", .int x, .int y]) := h11
         walk_at "rd"
         rename_i t nt
         exact ⟨⟨_, rfl⟩, finP t nt⟩
       | sum x y z =>
         have h11 : H1 p = some (.tup [.str "sum", .int x, .int y, .int z]) := h11
         walk_at "rd"
         rename_i t nt
         exact ⟨⟨_, rfl⟩, finP t nt⟩
       | minus x y z =>
         have h11 : H1 p = some (.tup [.str "minus", .int x, .int y, .int z]) := h11
         walk_at "rd"
         rename_i t nt
         exact ⟨⟨_, rfl⟩, finP t nt⟩
       | product x y z =>
         have h11 : H1 p = some (.tup [.str "product", .int x, .int y, .int z]) := h11
         walk_at "rd"
         rename_i t nt
         exact ⟨⟨_, rfl⟩, finP t nt⟩
       | less x y z =>
         have h11 : H1 p = some (.tup [.str "less", .int x, .int y, .int z]) := h11
         walk_at "rd"
         rename_i t nt
         exact ⟨⟨_, rfl⟩, finP t nt⟩
       | give x =>
         have h11 : H1 p = some (.tup [.str "give", .int x]) := h11
         walk_at "rd"
         rename_i t nt
         exact ⟨⟨_, rfl⟩, finP t nt⟩
       | leave x =>
         have h11 : H1 p = some (.tup [.str "leave", .int x]) := h11
         walk_at "rd"
         rename_i t nt
         exact ⟨⟨_, rfl⟩, finP t nt⟩
     | call x f' ns lb =>
       obtain ⟨q', h1, h2⟩ := hst
       have h11 := s1 _ _ h1
       have hbd : (us ++ ws).length + 1 ≤ 10000 := hbd
       walk_at "rd"
       rename_i t nt
       exact ⟨⟨_, rfl⟩, fin [.ref t] _ (KeepM.put (KeepM.new KeepM.refl nt)) upd_same (MvV.one ⟨t, p, rfl, tup_upd (look_new hm1 nt) _ _ upd_same, q', tup_upd (look_new hm1 nt) _ _ (look_new h11 nt), h2⟩)⟩
     | drop x =>
       have h11 := s1 _ _ (show H0 p = some (.tup [.str "drop", .int x]) from hst)
       have hbd : (us ++ ws).length + 1 ≤ 10000 := hbd
       walk_at "rd"
       rename_i t nt
       exact ⟨⟨_, rfl⟩, fin [.ref t] _ (KeepM.put (KeepM.new KeepM.refl nt)) upd_same (MvV.one ⟨t, p, rfl, tup_upd (look_new hm1 nt) _ _ upd_same, tup_upd (look_new hm1 nt) _ _ (look_new h11 nt)⟩)⟩
     | hand f' ns lb =>
       obtain ⟨q', h1, h2⟩ := id hst
       have h11 := s1 _ _ h1
       walk_at "rd"
       refine ⟨d, m, p, us ++ ws, H0, .hand f' ns lb, land, rfl, hm1, s1, nm, hst, True.intro, hbd, fun ws2 H2 k2 hm2 hw2 => ?_⟩
       walk_at "rd"
       exact ⟨⟨_, rfl⟩, fin ws2 H2 k2 hm2 hw2⟩
     | ifS x a' b =>
       obtain ⟨la, lb, h1, _⟩ := id hst
       have h11 := s1 _ _ h1
       walk_at "rd"
       refine ⟨m, p, us ++ ws, H0, .ifS x a' b, land, rfl, hm1, s1, nm, hst, True.intro, hbd, fun ws2 H2 k2 hm2 hw2 => ?_⟩
       walk_at "rd"
       exact ⟨⟨_, rfl⟩, fin ws2 H2 k2 hm2 hw2⟩
     | whileS x a' =>
       obtain ⟨la, h1, _⟩ := id hst
       have h11 := s1 _ _ h1
       walk_at "rd"
       refine ⟨m, p, us ++ ws, H0, .whileS x a', land, rfl, hm1, s1, nm, hst, True.intro, hbd, fun ws2 H2 k2 hm2 hw2 => ?_⟩
       walk_at "rd"
       exact ⟨⟨_, rfl⟩, fin ws2 H2 k2 hm2 hw2⟩
     | tryS a' x b =>
       obtain ⟨la, lb, h1, _⟩ := id hst
       have h11 := s1 _ _ h1
       walk_at "rd"
       refine ⟨m, p, us ++ ws, H0, .tryS a' x b, land, rfl, hm1, s1, nm, hst, True.intro, hbd, fun ws2 H2 k2 hm2 hw2 => ?_⟩
       walk_at "rd"
       exact ⟨⟨_, rfl⟩, fin ws2 H2 k2 hm2 hw2⟩
   · rintro σ H1 ⟨⟨u, rfl⟩, k1, ws, hm1, hw1⟩
     rw [List.length_map, hpl, List.take_length] at hw1
     walk_at "rd"
     exact q ws H1 k1 hm1 hw1
theorem ok_add_all0 (T : Txt w K mg a) : FnE P w K mg base CX0 1 "add_all" (spAddAll 0) := by
 refine fnE_of (sp := spAddAll 0) 0 T.fn_add_all sc_add_all (fun vs H Q E h => ?_) (fun f cdv A outer s H vs Q E hr h => ?_)
 · obtain ⟨m, l, us, H0, ps, ss, land, rfl, _⟩ := h
   rfl
 · obtain ⟨m, l, us, H0, ps, ss, land, rfl, hm, s0, nm, hl, hps, hle, q⟩ := h
   have hss : ss = [] := by
     cases ss with
     | nil => rfl
     | cons s r =>
       have hpl := hps.1
       cases ps with
       | nil => cases hpl
       | cons p r' => exact (hps.2 0 p s rfl rfl).elim
   subst hss
   have hps0 : ps = [] := List.length_eq_zero_iff.mp hps.1
   subst hps0
   have hl1 := s0 _ _ hl
   refine ⟨_, (pss_one (ps_for PassesOwn.never rfl (pi_seqK (K := K) rfl (pv 1)) (pg_name (i := 3) sc_add_all.nd rfl (Or.inl rfl)) (pss_one ps_dead))), ?_⟩
   refine r_st (σ' := [some _, some _, some _, none]) rfl ?_
   walk_at "rd"
   refine for_list (K := K) (a := l) (xs := []) (fun i σ H1 => (∃ u, σ = [some (.ref m), some (.ref l), some (landV land), u]) ∧ H1 = H) ⟨⟨_, rfl⟩, rfl⟩ (fun i σ H1 _ ⟨_, e⟩ => by rw [e]; exact SqL.of hl1) ?_ ?_
   · rintro i v σ H1 hv
     simp at hv
   · rintro σ H1 ⟨⟨u, rfl⟩, rfl⟩
     walk_at "rd"
     exact q [] _ KeepM.refl (by rw [List.append_nil]; exact hm) MvV.nil
theorem ok_add_all (T : Txt w K mg a) : FnE P w K mg base CX0 11 "add_all" (spAddAll 5) := ok_add_allS (d := 4) (ok_add_allS (d := 3) (ok_add_allS (d := 2) (ok_add_allS (d := 1) (ok_add_allS (d := 0) (ok_add_all0 T) T) T) T) T) T
theorem ok_is_up_to (T : Txt w K mg a) : FnE P w K mg base CX0 2 "is_up_to" spUpTo := by
 refine fnE_of (sp := spUpTo) 1 T.fn_is_up_to sc_is_up_to (fun vs H Q E h => ?_) (fun f cdv A outer s H vs Q E hr h => ?_)
 · obtain ⟨i, t, rfl, _⟩ := h
   rfl
 · obtain ⟨i, t, rfl, h0, h1, q⟩ := h
   refine ⟨_, (pss_one (ps_ret (pe_and (pe_callE (ok_is_whole (K := K) T) (hr.mono (by decide)) pass0 rfl (pa_cons (pv 0) pa_nil)) (pe_one (pe_cmpR op_le (pv 0) (pv 1) (nomark _)))))), ?_⟩
   refine r_st (σ' := [some _, some _]) rfl ?_
   walk_at "rd"
   refine ⟨_, rfl, h0, ?_⟩
   walk_at "rd"
   rw [decide_eq_true h1]
   exact q
theorem me_Run_leave (T : Txt w K mg a)  : MethE P w K mg base CX0 2 a.C_Run "leave" (spLeaveR a) := by
 refine methE_of (sp := (spLeaveR a)) 1 T.cl_Run T.m_Run_leave sc_Run_leave (fun vs H Q E h => ?_) (fun f cdv A outer s H vs Q E hr h => ?_)
 · obtain ⟨H0, HB, r, dr, bo, dg, x, ln, mls, xs, lns, gs, g, bs, st, v, rs, rfl, _⟩ := h
   rfl
 · obtain ⟨H0, HB, r, dr, bo, dg, x, ln, mls, xs, lns, gs, g, bs, st, v, rs, rfl, B, R, hv, hl, h50, q⟩ := h
   obtain ⟨fr, hr', Fr⟩ := R.hr
   have f1 := Fr.doings
   have hdg := R.hg
   have R1 := R.pop B
   have hxl := R1.lx
   have nrd := B.n3
   refine ⟨_, (pss_cons (ps_expr (pe_bm0K (K := K) rfl PySem.F.plainAttrs_list PySem.F.slot_list_pop PySem.F.type_list_pop mt_pop (pe_fldK (K := K) rfl (pv 0))))
     (pss_one (ps_if (pt_cmpR (op_eqK (K := K) rfl hr.units) (pe_callB (call_lenK (K := K) rfl) rfl T.z_len b_len (pa_cons (pe_fldK (K := K) rfl (pv 0)) pa_nil)) pe_int (nomark _)) (pss_one (ps_fldK (K := K) rfl (pv 0) (pe_tup (pa_cons pe_str (pa_cons (pv 1) pa_nil))))) (pss_cons (ps_set (i := 2) sc_Run_leave.nd rfl (Or.inl rfl) (pe_ix (ix_K (K := K) rfl) (pe_fldK (K := K) rfl (pv 0)) (pe_un un_neg pe_int) (fun _ _ => rfl)))
     (pss_one (ps_asg (pv 1) (pg_sub (pe_fldK (K := K) rfl (pv 2)) (pe_ix (ix_K (K := K) rfl) (pe_methK0 (P := P) (w := w) (K := K) (mg := mg) (base := base) (k := 1) ⟨rfl, rfl, rfl, rfl, rfl⟩ (pv 2) (hr.mono (by decide)) pass0) pe_int (fun _ _ => rfl)) set_list))))))), ?_⟩
   refine r_st (σ' := [some _, some _, none]) rfl ?_
   walk_at "rd"
   refine r_pop (xs := xs.map V.ref) (by rw [hdg, List.map_append]; rfl) ?_
   generalize (upd H dg (.lst (xs.map V.ref))) = H1 at R1 ⊢
   clear R hdg hr' Fr f1
   obtain ⟨fr, hr', Fr⟩ := R1.hr
   have f1 := Fr.doings
   have f2 := Fr.len
   have hdg := R1.hg
   walk_at "rk"
   refine r_lenL (SqL.of hdg) ?_
   rw [List.length_map, hxl]
   by_cases h0 : gs = []
   · subst h0
     unfold leaveM at hl
     cases hl
     walk_at "rd"
     rename_i t nt
     exact q _ ⟨⟨_, t, upd_same, look_hit, by rw [upd_ne (ne_of_none hr' nt).symm]; exact upd_same⟩, fun b o e n1 n2 => by rw [upd_ne n1]; exact look_new (R1.kb b o e n1 n2) nt⟩
   · obtain ⟨xs', x', lns', ln', gs', g', rfl, rfl, rfl, D⟩ := R1.last h0
     have hgl : 0 < (gs' ++ [g']).length := List.length_pos_iff.mpr h0
     unfold leaveM at hl
     rw [List.getLast?_concat] at hl
     simp only [List.dropLast_concat] at hl
     by_cases hk0 : g'.k = 0
     · rw [if_pos hk0] at hl; cases hl
     rw [if_neg hk0] at hl
     obtain ⟨dx, fs', m, hx', hm, F', hln, h8, hvs⟩ := id D
     cases hmv : mvAt bs g'.b (g'.k - 1) with
     | none => rw [hmv] at hl; cases hl
     | some mv =>
       obtain ⟨mv, land⟩ := mv
       rw [hmv] at hl
       cases mv with
       | call x0 f0 ns0 l0 =>
         cases hl
         obtain ⟨ws, q1, p1, hm1, hw1, hq1, ⟨qn, hp1, _⟩, ⟨x00, x06, _⟩⟩ := B.mv R1.kb hm hmv
         have hat : atI ((xs' ++ [x']).map V.ref) (-1) = some (.ref x') := by rw [List.map_append]; exact at_end
         have g1 := F'.names
         have nxl : x' ≠ ln' := fun z => by rw [z, hln] at hx'; cases hx'
         have x00 : 0 ≤ x0 := x00
         have x06 : x0 ≤ 6 := x06
         have F2 : DF fs' m ln' (((g'.k - 1 : Nat) : Int) + 1) := by rw [show (((g'.k - 1 : Nat) : Int) + 1) = (g'.k : Int) by omega]; exact F'
         walk_at "rd"
         refine r_methV hx' F'.no ((me_Doing_last_move T).mono (by decide)) ?_
         walk_at "rd"
         refine ⟨x', dx, m, ln', q1, p1, fs', g'.k - 1, ws, _, rfl, hx', F2, hm1, hw1, hq1, ?_⟩
         walk_at "rd"
         exact q _ ⟨_, _, R1.top B (fun b o e n1 n2 => by rw [upd_ne n2]; exact e) ⟨dx, fs', m, by rw [upd_ne nxl]; exact hx', hm, F', upd_same, by rw [sI_len]; exact h8, sI_vals hvs hv⟩⟩
       | _ => cases hl
theorem me_Run_drop (T : Txt w K mg a)  : MethE P w K mg base CX0 2 a.C_Run "drop" (spDropR a) := by
 refine methE_of (sp := (spDropR a)) 1 T.cl_Run T.m_Run_drop sc_Run_drop (fun vs H Q E h => ?_) (fun f cdv A outer s H vs Q E hr h => ?_)
 · obtain ⟨H0, HB, r, dr, bo, dg, mls, xs, lns, gs, bs, st, v, rs, rfl, _⟩ := h
   rfl
 · obtain ⟨H0, HB, r, dr, bo, dg, mls, xs, lns, gs, bs, st, v, rs, rfl, B, R, hv, hd, h50, q⟩ := h
   refine ⟨_, (pss_cons (ps_while PassesOwn.never (pt_cmpR op_gt (pe_callB (call_lenK (K := K) rfl) rfl T.z_len b_len (pa_cons (pe_fldK (K := K) rfl (pv 0)) pa_nil)) pe_int (nomark _)) (pss_cons (ps_if (pt_truK (K := K) rfl (pe_methK (P := P) (w := w) (K := K) (mg := mg) (base := base) (k := 1) ⟨rfl, rfl, rfl, rfl, rfl⟩ (pe_ix (ix_K (K := K) rfl) (pe_fldK (K := K) rfl (pv 0)) (pe_un un_neg pe_int) (fun _ _ => rfl)) (hr.mono (by decide)) pass0 (pa_cons (pv 1) pa_nil))) (pss_one ps_retN) pss_nil)
     (pss_one (ps_expr (pe_bm0K (K := K) rfl PySem.F.plainAttrs_list PySem.F.slot_list_pop PySem.F.type_list_pop mt_pop (pe_fldK (K := K) rfl (pv 0)))))))
     (pss_one (ps_fldK (K := K) rfl (pv 0) (pe_tup (pa_cons pe_str (pa_cons (pv 1) pa_nil)))))), ?_⟩
   refine r_st (σ' := [some _, some _]) rfl ?_
   walk_at "rd"
   refine ⟨fun j σ H1 => σ = [some (.ref r), some (.int v)] ∧ ∃ xs lns gs, RSt a HB H1 r dr bo dg mls xs lns gs st ∧ dropM bs st v gs.reverse = some rs ∧ j = gs.length ∧ gs.length ≤ 50, ⟨gs.length, rfl, xs, lns, gs, R, hd, rfl, h50⟩, ?_⟩
   clear R hd h50
   rintro j σ H1 ⟨rfl, xs, lns, gs, R, hd, rfl, h50⟩
   obtain ⟨fr, hr', Fr⟩ := R.hr
   have f1 := Fr.doings
   have f2 := Fr.len
   have hdg := R.hg
   have hxl := R.lx
   by_cases h0 : gs = []
   · subst h0
     cases hd
     have e : xs = [] := List.length_eq_zero_iff.mp hxl
     subst e
     have hdg : H1 dg = some (.lst []) := hdg
     walk_at "rd"
     rename_i t nt
     exact q _ ⟨⟨_, t, upd_same, look_hit, by rw [upd_ne (ne_of_none hr' nt).symm]; exact upd_same⟩, fun b o e n1 n2 => by rw [upd_ne n1]; exact look_new (R.kb b o e n1 n2) nt⟩
   · obtain ⟨xs', x', lns', ln', gs', g', rfl, rfl, rfl, D⟩ := R.last h0
     have hlen : (gs' ++ [g']).length = gs'.length + 1 := by rw [List.length_append]; rfl
     rw [List.reverse_append, List.reverse_singleton, List.singleton_append, dropM] at hd
     by_cases hk0 : g'.k = 0
     · rw [if_pos hk0] at hd; cases hd
     rw [if_neg hk0] at hd
     obtain ⟨dx, fs', m, hx', hm, F', hln, h8, hvs⟩ := id D
     have hat : atI ((xs' ++ [x']).map V.ref) (-1) = some (.ref x') := by rw [List.map_append]; exact at_end
     have F2 : DF fs' m ln' (((g'.k - 1 : Nat) : Int) + 1) := by rw [show (((g'.k - 1 : Nat) : Int) + 1) = (g'.k : Int) by omega]; exact F'
     have nxl : ln' ≠ x' := fun z => by rw [z, hx'] at hln; cases hln
     walk_at "rk"
     refine r_lenL (SqL.of hdg) ?_
     rw [List.length_map, hxl, hlen]
     walk_at "rd"
     refine ⟨_, fun σ' H' h => h, ?_⟩
     walk_at "rd"
     refine r_methV hx' F'.no2 ((me_Doing_lands T).mono (by decide)) ?_
     walk_at "rd"
     cases hmv : mvAt bs g'.b (g'.k - 1) with
     | none => rw [hmv] at hd; cases hd
     | some mv =>
       obtain ⟨mv, land⟩ := mv
       rw [hmv] at hd
       obtain ⟨ws, q1, p1, hm1, hw1, hq1, _, _⟩ := B.mv R.kb hm hmv
       cases land with
       | none =>
         have hd : dropM bs st v gs'.reverse = some rs := hd
         refine .inl ⟨x', dx, m, ln', q1, p1, fs', g'.k - 1, ws, v, rfl, hx', F2, hm1, hw1, hq1, ?_⟩
         walk_at "rd"
         refine r_pop (xs := xs'.map V.ref) (by rw [hdg, List.map_append]; rfl) ?_
         walk_at "rd"
         exact ⟨gs'.length, by omega, rfl, _, _, _, R.pop B, hd, rfl, by omega⟩
       | some o =>
         cases hmv2 : mvAt bs g'.b o with
         | none => simp only [hmv2] at hd; cases hd
         | some mv2 =>
           obtain ⟨mv2, land2⟩ := mv2
           simp only [hmv2] at hd
           cases mv2 with
           | land y =>
             obtain ⟨ws2, q2, p2, hm2, hw2, hq2, hp2, oky⟩ := B.mv R.kb hm hmv2
             have ews : ws2 = ws := by rw [hm1] at hm2; cases hm2; rfl
             subst ews
             have oky : isN y := oky
             have hp2 : H1 p2 = some (.tup [.str "land", .int y]) := hp2
             have hq1 : H1 q1 = some (.tup [.ref p1, .int (o : Int)]) := hq1
             refine .inr ⟨x', dx, m, ln', q1, p1, q2, p2, fs', g'.k - 1, o, ws2, v, y, _, g'.ns, rfl, hx', F2, hm1, hw1, hq1, hw2, hq2, hp2, oky.1, by have := oky.2; omega, hln, h8, nxl, fun fs2 G2 => ?_⟩
             have hrs : rs = .run st (gs' ++ [⟨g'.b, o + 1, sI g'.ns y v⟩]) := by
               have := Option.some.inj hd
               rw [← this, List.reverse_cons, List.reverse_reverse]
             rw [hrs] at q
             walk_at "rd"
             exact q _ ⟨_, _, R.top B (fun b o e n1 n2 => by rw [upd_ne n1, upd_ne n2]; exact e) ⟨dx, fs2, m, upd_same, hm, G2, by rw [upd_ne nxl]; exact upd_same, by show (sI g'.ns y v).length = 8; rw [sI_len]; exact h8, sI_vals hvs hv⟩⟩
           | _ => cases hd
theorem ok_law_number (T : Txt w K mg a) : FnE P w K mg base CX0 2 "_law_number" (spNum K) := by
 refine fnE_of (sp := (spNum K)) 1 T.fn_law_number sc_law_number (fun vs H Q E h => ?_) (fun f cdv A outer s H vs Q E hr h => ?_)
 · obtain ⟨a0, ns, k, rfl, _⟩ := h
   rfl
 · obtain ⟨a0, ns, k, rfl, hS, k0, k63, q⟩ := h
   refine ⟨_, (pss_one (ps_ret (pe_op (op_plusK (K := K) rfl) (pe_op (op_plusK (K := K) rfl) (pe_callE (ok_law_cell_at (K := K) T) (hr.mono (by decide)) pass0 rfl (pa_cons (pv 0) (pa_cons (pv 1) pa_nil))) (pe_op op_times (pe_op op_times pe_int (pv 1)) (pv 1))) (pe_op op_times pe_int (pv 1))))), ?_⟩
   refine r_st (σ' := [some _, some _]) rfl ?_
   walk_at "rd"
   exact q
theorem ok_is_name (T : Txt w K mg a) : FnE P w K mg base CX0 3 "is_name" spNm := by
 refine fnE_of (sp := spNm) 2 T.fn_is_name sc_is_name (fun vs H Q E h => ?_) (fun f cdv A outer s H vs Q E hr h => ?_)
 · obtain ⟨i, rfl, _⟩ := h
   rfl
 · obtain ⟨i, rfl, ⟨h0, h1⟩, q⟩ := h
   refine ⟨_, (pss_one (ps_ret (pe_callE (ok_is_up_to (K := K) T) (hr.mono (by decide)) pass0 rfl (pa_cons (pv 0) (pa_cons (pe_glob (v := .int 5) rfl T.g_TOP_NAME.choose_spec ⟨_, rfl⟩) pa_nil))))), ?_⟩
   refine r_st (σ' := [some _]) rfl ?_
   walk_at "rd"
   refine ⟨_, _, rfl, h0, h1, ?_⟩
   walk_at "rd"
   exact q
theorem ok_is_function (T : Txt w K mg a) : FnE P w K mg base CX0 3 "is_function" spIsFn := by
 refine fnE_of (sp := spIsFn) 2 T.fn_is_function sc_is_function (fun vs H Q E h => ?_) (fun f cdv A outer s H vs Q E hr h => ?_)
 · obtain ⟨f', l, n, us, rfl, _⟩ := h
   rfl
 · obtain ⟨f', l, n, us, rfl, hf, h0, h3, hl, q⟩ := h
   refine ⟨_, (pss_cons (ps_if (PW.pt (pw_or (pt_not (pt_truK (K := K) rfl (pe_callB (call_isiK (K := K) rfl) rfl T.z_isinstance b_isinstance (pa_cons (pv 0) (pa_cons (pe_bltn (v := .ty "tuple") rfl T.z_tuple b_tuple rfl) pa_nil))))) (pw_or1 (pt_cmpR (op_neK (K := K) rfl hr.units) (pe_callB (call_lenK (K := K) rfl) rfl T.z_len b_len (pa_cons (pv 0) pa_nil)) pe_int (nomark _))))) (pss_one ps_dead) pss_nil)
     (pss_one (ps_ret (pe_and (pe_callE (ok_is_up_to (K := K) T) (hr.mono (by decide)) pass0 rfl (pa_cons (pe_ix (ix_K (K := K) rfl) (pv 0) pe_int (fun _ _ => rfl)) (pa_cons (pe_glob (v := .int 3) rfl T.g_TOP_HANDED.choose_spec ⟨_, rfl⟩) pa_nil))) (pe_one (pe_callB (call_isiK (K := K) rfl) rfl T.z_isinstance b_isinstance (pa_cons (pe_ix (ix_K (K := K) rfl) (pv 0) pe_int (fun _ _ => rfl)) (pa_cons (pe_bltn (v := .ty "list") rfl T.z_list b_list rfl) pa_nil)))))))), ?_⟩
   refine r_st (σ' := [some _]) rfl ?_
   walk_at "rd"
   refine ⟨_, _, rfl, h0, h3, ?_⟩
   walk_at "rd"
   exact q
theorem me_Run_begin (T : Txt w K mg a)  : MethE P w K mg base CX0 3 a.C_Run "begin" (spBegin a) := by
 refine methE_of (sp := (spBegin a)) 2 T.cl_Run T.m_Run_begin sc_Run_begin (fun vs H Q E h => ?_) (fun f cdv A outer s H vs Q E hr h => ?_)
 · obtain ⟨r, dr, bo, dg, m, v, fs, st, ns, f', us, xs, rfl, _⟩ := h
   rfl
 · obtain ⟨r, dr, bo, dg, m, v, fs, st, ns, f', us, xs, rfl, hr', F, hbo, hus, hdg, hxl, hv, h3, nvd, q⟩ := h
   have f1 := F.bodies
   have f2 := F.doings
   have hat : atI us (f' : Int) = some (.ref m) := atI_nat hus
   refine ⟨_, (pss_one (ps_expr (pe_bmK (K := K) rfl PySem.F.plainAttrs_list PySem.F.slot_list_append PySem.F.type_list_append mt_append (pe_fldK (K := K) rfl (pv 0)) (pa_cons (pe_makeE (mk_Doing (K := K) T) (hr.mono (by decide)) pass0 rfl (pa_cons (pe_ix (ix_K (K := K) rfl) (pe_fldK (K := K) rfl (pv 0)) (pv 1) (fun _ _ => rfl)) (pa_cons (pv 2) pa_nil))) pa_nil)))), ?_⟩
   refine r_st (σ' := [some _, some _, some _]) rfl ?_
   walk_at "rd"
   intro x dx nx ndx nne
   have s0 : Same H (upd (upd H dx (.own x)) x (.ins a.C_Doing dx [])) := fun b o e => by rw [upd_ne (ne_of_none e nx), upd_ne (ne_of_none e ndx)]; exact e
   refine ⟨x, dx, m, v, ns, rfl, upd_same, s0 _ _ hv, h3, fun l fs' H1 nl kp hx F' hl => ⟨rfl, ?_⟩⟩
   have nl' := none_same s0 nl
   have nxl : x ≠ l := fun z => by rw [← z, upd_same] at nl; cases nl
   have k0 : ∀ b o, H b = some o → H1 b = some o := fun b o e => kp b o (s0 b o e) (ne_of_none e nx)
   have hdg1 := k0 _ _ hdg
   clear kp s0 nl
   walk_at "rd"
   exact q x dx l fs' _ nx nl' nxl (fun b o e ne => by rw [upd_ne ne]; exact k0 b o e) upd_same (by rw [upd_ne (ne_of_none hdg nx).symm]; exact hx) F' (by rw [upd_ne (ne_of_none hdg nl').symm]; exact hl)
theorem ok_law_blockS {k j : Nat} (G : FnE P w K mg base CX0 k "_law_statement" (spSt K j)) (T : Txt w K mg a) : FnE P w K mg base CX0 (k + 1) "_law_block" (spBk K j) := by
 refine fnE_of (sp := (spBk K j)) k T.fn_law_block sc_law_block (fun vs H Q E h => ?_) (fun f cdv A outer s H vs Q E hr h => ?_)
 · obtain ⟨a0, lh, ns, hd, at', many, rfl, _⟩ := h
   rfl
 · obtain ⟨a0, lh, ns, hd, at', many, rfl, hS, hlh, hHd, a1, a2, m1, m2, j4, q⟩ := h
   refine ⟨_, (pss_cons (ps_set (i := 5) sc_law_block.nd rfl (Or.inl rfl) (pe_lst pa_nil))
     (pss_cons (ps_for PassesOwn.never rfl (pi_range1 rfl T.z_range (pa_cons (pv 2) pa_nil)) (pg_name (i := 6) sc_law_block.nd rfl (Or.inl rfl)) (pss_one (ps_if (pt_cmpR op_lt (pv 1) pe_int (nomark _)) (pss_cons (ps_asg (pe_callE G (hr.mono (Nat.le_refl _)) pass0 rfl (pa_cons (pv 0) (pa_cons (pv 1) (pa_cons (pv 3) (pa_cons (pv 4) pa_nil))))) (pg_tupK (K := K) rfl rfl (pgs_cons (pg_name (i := 7) sc_law_block.nd rfl (Or.inl rfl)) (pgs_cons (pg_name (i := 1) sc_law_block.nd rfl (Or.inl rfl)) pgs_nil))))
     (pss_one (ps_expr (pe_bmK (K := K) rfl PySem.F.plainAttrs_list PySem.F.slot_list_append PySem.F.type_list_append mt_append (pv 5) (pa_cons (pv 7) pa_nil))))) pss_nil)))
     (pss_one (ps_ret (pe_tup (pa_cons (pv 5) (pa_cons (pv 1) pa_nil))))))), ?_⟩
   refine r_st (σ' := [some _, some _, some _, some _, some _, none, none, none]) rfl ?_
   walk_at "rk"
   rename_i l nl
   refine for_range (fun i σ HQ => Same H HQ ∧ ∃ (e : Int) (ps : List Addr) (ss : List Stm) (u v : Option V), σ = [some (.ref a0), some (.int e), some (.int many), some (.int (4 - (j : Int))), some (.ref lh), some (.ref l), u, v] ∧ HQ l = some (.lst (ps.map V.ref)) ∧ ps.length ≤ i ∧ Each (StAt (nw (upd H l (.lst [])) HQ) (j + 1)) ps ss ∧ (∀ s ∈ ss, OkS hd (j + 1) s) ∧ (cntL (j + 1) ss : Int) + 2 * at' ≤ 2 * e ∧ at' ≤ e ∧ e ≤ 40) ⟨same_new nl, at', [], [], _, _, rfl, upd_same, Nat.le_refl _, Each.nil, (fun _ z => by cases z), by show ((0 : Nat) : Int) + 2 * at' ≤ 2 * at'; omega, Int.le_refl _, a2⟩ ?_ ?_
   · rintro i σ HQ hi ⟨s1, e, ps, ss, u, v, rfl, hl, hpl, he, hok, hcn, h1, h2⟩
     have hi6 : i < 6 := by omega
     walk_at "rk"
     refine ifDec (fun hh => ?_) (fun hh => ?_)
     · walk_at "rk"
       refine ⟨a0, lh, ns, hd, e, rfl, Same.seq s1 hS, s1 _ _ hlh, hHd, by omega, hh, j4, fun t p s e2 H2 s2 ht hst hks hc2 h3 h4 => ?_⟩
       have hl2 := s2 _ _ hl
       clear hh
       refine r_gTup (SqT.of ht) rfl ?_
       walk_at "rk"
       refine ⟨fun b o eb => by rw [upd_ne (ne_of_none eb nl)]; exact s2 _ _ (s1 _ _ eb), e2, ps ++ [p], ss ++ [s], _, _, rfl, by rw [upd_same, List.map_append]; rfl, by rw [List.length_append]; show ps.length + 1 ≤ i + 1; omega, ?_, fun x hx => ?_, ?_, by omega, h4⟩
       · rw [nw_put]
         refine Each.snoc (he.mono fun p x h => StAt.same (nw_same s2) h) (StAt.same (nw_sub fun b o k1 k2 => ⟨?_, k2⟩) hst)
         by_cases eb : b = l
         · rw [eb, hl] at k1; cases k1
         · rw [upd_ne eb]; exact none_same s1 k1
       · rcases List.mem_append.mp hx with z | z
         · exact hok x z
         · rw [List.mem_singleton.mp z]; exact hks
       · have : cntL (j + 1) (ss ++ [s]) = cntL (j + 1) ss + cnt1 (j + 1) s := by unfold cntL; rw [List.map_append, List.sum_append]; simp
         rw [this]; omega
     · clear hh
       walk_at "rk"
       exact ⟨s1, e, ps, ss, _, _, rfl, hl, by omega, he, hok, hcn, h1, h2⟩
   · rintro σ HQ ⟨s1, e, ps, ss, u, v, rfl, hl, hpl, he, hok, hcn, h1, h2⟩
     walk_at "rk"
     rename_i t nt
     exact q t l ps ss e _ (s1.trans (same_new nt)) nl upd_same (look_new hl nt) (by omega) (he.mono fun p x h => StAt.same (nw_same (same_new nt)) h) hok hcn h1 h2
theorem ok_law_nestedS {k j : Nat} (hk : 4 ≤ k) (G : FnE P w K mg base CX0 k "_law_block" (spBk K j)) (T : Txt w K mg a) : FnE P w K mg base CX0 (k + 1) "_law_nested" (spSt K (j + 1)) := by
 refine fnE_of (sp := (spSt K (j + 1))) k T.fn_law_nested sc_law_nested (fun vs H Q E h => ?_) (fun f cdv A outer s H vs Q E hr h => ?_)
 · obtain ⟨a0, lh, ns, hd, at', rfl, _⟩ := h
   rfl
 · obtain ⟨a0, lh, ns, hd, at', rfl, hS, hlh, hHd, a1, a2, j4, q⟩ := h
   refine' ⟨_, ?body0, ?_⟩
   (case body0 => (refine' pss_cons ?tu1 ?tq2; (case tq2 => (refine' pss_cons ?tu3 ?tq4; (case tq4 => (refine' pss_cons ?tu5 ?tq6; (case tq6 => (refine' pss_cons ?tu7 ?tq8; (case tq8 => (refine' pss_cons ?tu9 ?tq10; (case tq10 => (refine' pss_cons ?tu11 ?tq12; (case tq12 => (refine' pss_one ?tu13; (case tu13 => (refine' ps_ret ?ts14; (case ts14 => (refine' pe_tup ?ta15; (case ta15 => (refine' pa_cons ?tx16 ?ty17 ?tz18; (case tz18 => rfl); (case tx16 => (refine' pe_tup ?ta19; (case ta19 => (refine' pa_cons ?tx20 ?ty21 ?tz22; (case tz22 => rfl); (case tx20 => exact pe_str); (case ty21 => (refine' pa_cons ?tx23 ?ty24 ?tz25; (case tz25 => rfl); (case tx23 => exact (pv 6)); (case ty24 => (refine' pa_cons ?tx26 ?ty27 ?tz28; (case tz28 => rfl); (case tx26 => exact (pv 5)); (case ty27 => (refine' pa_cons ?tx29 ?ty30 ?tz31; (case tz31 => rfl); (case tx29 => exact (pv 7)); (case ty30 => exact pa_nil))))))))))); (case ty17 => (refine' pa_cons ?tx32 ?ty33 ?tz34; (case tz34 => rfl); (case tx32 => exact (pv 1)); (case ty33 => exact pa_nil))))))))))); (case tu11 => (refine' ps_if ?ti35 ?tj36 ?tm37; (case ti35 => exact (pt_cmpR (op_eqK (K := K) rfl hr.units) (pe_op op_mod (pv 4) pe_int) pe_int (nomark _))); (case tj36 => (refine' pss_one ?tu38; (case tu38 => (refine' ps_ret ?ts39; (case ts39 => (refine' pe_tup ?ta40; (case ta40 => (refine' pa_cons ?tx41 ?ty42 ?tz43; (case tz43 => rfl); (case tx41 => (refine' pe_tup ?ta44; (case ta44 => (refine' pa_cons ?tx45 ?ty46 ?tz47; (case tz47 => rfl); (case tx45 => exact pe_str); (case ty46 => (refine' pa_cons ?tx48 ?ty49 ?tz50; (case tz50 => rfl); (case tx48 => exact (pv 5)); (case ty49 => (refine' pa_cons ?tx51 ?ty52 ?tz53; (case tz53 => rfl); (case tx51 => exact (pv 6)); (case ty52 => (refine' pa_cons ?tx54 ?ty55 ?tz56; (case tz56 => rfl); (case tx54 => exact (pv 7)); (case ty55 => exact pa_nil))))))))))); (case ty42 => (refine' pa_cons ?tx57 ?ty58 ?tz59; (case tz59 => rfl); (case tx57 => exact (pv 1)); (case ty58 => exact pa_nil))))))))))); (case tm37 => exact pss_nil))))); (case tu9 => exact (ps_asg (pe_callE G (hr.mono (Nat.le_refl _)) pass0 rfl (pa_cons (pv 0) (pa_cons (pv 1) (pa_cons (pe_op op_mod (pe_op op_fdiv (pv 4) pe_int) pe_int) (pa_cons (pe_op (op_plusK (K := K) rfl) (pv 2) pe_int) (pa_cons (pv 3) pa_nil)))))) (pg_tupK (K := K) rfl rfl (pgs_cons (pg_name (i := 7) sc_law_nested.nd rfl (Or.inl rfl)) (pgs_cons (pg_name (i := 1) sc_law_nested.nd rfl (Or.inl rfl)) pgs_nil))))))); (case tu7 => (refine' ps_if ?ti60 ?tj61 ?tm62; (case ti60 => exact (pt_cmpR (op_eqK (K := K) rfl hr.units) (pe_op op_mod (pv 4) pe_int) pe_int (nomark _))); (case tj61 => (refine' pss_cons ?tu63 ?tq64; (case tq64 => (refine' pss_one ?tu65; (case tu65 => (refine' ps_ret ?ts66; (case ts66 => (refine' pe_tup ?ta67; (case ta67 => (refine' pa_cons ?tx68 ?ty69 ?tz70; (case tz70 => rfl); (case tx68 => (refine' pe_tup ?ta71; (case ta71 => (refine' pa_cons ?tx72 ?ty73 ?tz74; (case tz74 => rfl); (case tx72 => exact pe_str); (case ty73 => (refine' pa_cons ?tx75 ?ty76 ?tz77; (case tz77 => rfl); (case tx75 => exact (pv 5)); (case ty76 => (refine' pa_cons ?tx78 ?ty79 ?tz80; (case tz80 => rfl); (case tx78 => exact (pv 6)); (case ty79 => exact pa_nil))))))))); (case ty69 => (refine' pa_cons ?tx81 ?ty82 ?tz83; (case tz83 => rfl); (case tx81 => exact (pv 1)); (case ty82 => exact pa_nil))))))))))); (case tu63 => (refine' ps_if ?ti84 ?tj85 ?tm86; (case ti84 => exact (pt_cmpR op_gt (pe_op op_mod (pe_op op_fdiv (pv 4) pe_int) pe_int) pe_int (nomark _))); (case tj85 => (refine' pss_one ?tu87; (case tu87 => exact (ps_expr (pe_bmK (K := K) rfl PySem.F.plainAttrs_list PySem.F.slot_list_append PySem.F.type_list_append mt_append (pv 6) (pa_cons (pe_tup (pa_cons pe_str (pa_cons (pv 5) (pa_cons pe_int pa_nil)))) pa_nil)))))); (case tm86 => exact pss_nil))))); (case tm62 => exact pss_nil))))); (case tu5 => exact (ps_asg (pe_callE G (hr.mono (Nat.le_refl _)) pass0 rfl (pa_cons (pv 0) (pa_cons (pe_op (op_plusK (K := K) rfl) (pv 1) pe_int) (pa_cons (pe_op op_mod (pe_op op_fdiv (pv 4) pe_int) pe_int) (pa_cons (pe_op (op_plusK (K := K) rfl) (pv 2) pe_int) (pa_cons (pv 3) pa_nil)))))) (pg_tupK (K := K) rfl rfl (pgs_cons (pg_name (i := 6) sc_law_nested.nd rfl (Or.inl rfl)) (pgs_cons (pg_name (i := 1) sc_law_nested.nd rfl (Or.inl rfl)) pgs_nil))))))); (case tu3 => exact (ps_set (i := 5) sc_law_nested.nd rfl (Or.inl rfl) (pe_op op_mod (pe_op op_fdiv (pv 4) pe_int) pe_int))))); (case tu1 => exact (ps_set (i := 4) sc_law_nested.nd rfl (Or.inl rfl) (pe_callE (ok_law_number (K := K) T) (hr.mono (by omega)) pass0 rfl (pa_cons (pv 0) (pa_cons (pv 1) pa_nil)))))))
   refine r_st (σ' := [some _, some _, some _, some _, none, none, none, none]) rfl ?_
   walk_at "rk"
   refine ⟨a0, ns, _, rfl, hS, a1, by omega, ?_⟩
   generalize numAt ns at' = n
   walk_at "rk"
   have hx : isN (n / 16 % 6) := ⟨by omega, by omega⟩
   generalize n / 16 % 6 = x at hx ⊢
   refine ⟨a0, lh, ns, hd, at' + 1, _, by rw [show 4 - ((j + 1 : Nat) : Int) + 1 = 4 - (j : Int) by omega], hS, hlh, hHd, by omega, by omega, by omega, by omega, by omega, fun t l ps ss e H1 s1 nl ht hl hpl he hok hcn h1 h2 => ?_⟩
   refine r_gTup (SqT.of ht) rfl ?_
   walk_at "rk"
   refine ifInt (fun hh => ?_) (fun hh => ?_)
   · clear hh ht
     walk_at "rk"
     refine ifDec (fun hh => ?_) (fun hh => ?_)
     · clear hh
       walk_at "rk"
       rename_i ts nts tw ntw t2 nt2
       have ets : ts ≠ l := (ne_of_none hl nts).symm
       have ntw1 : H1 tw = none := (upd_none (upd_none ntw).1).1
       have kF : ∀ b o, H1 b = some o → b ≠ l → (upd (upd (upd (upd H1 ts (.tup [.str "set", .int x, .int 0])) l (.lst (ps.map V.ref ++ [.ref ts]))) tw (.tup [.str "while", .int x, .ref l])) t2 (.tup [.ref tw, .int e])) b = some o := fun b o eb nb => look_new (look_new (by rw [upd_ne nb]; exact look_new eb nts) ntw) nt2
       have hts : (upd (upd (upd (upd H1 ts (.tup [.str "set", .int x, .int 0])) l (.lst (ps.map V.ref ++ [.ref ts]))) tw (.tup [.str "while", .int x, .ref l])) t2 (.tup [.ref tw, .int e])) ts = some (.tup [.str "set", .int x, .int 0]) := look_new (look_new (by rw [upd_ne ets]; exact upd_same) ntw) nt2
       have hlF : (upd (upd (upd (upd H1 ts (.tup [.str "set", .int x, .int 0])) l (.lst (ps.map V.ref ++ [.ref ts]))) tw (.tup [.str "while", .int x, .ref l])) t2 (.tup [.ref tw, .int e])) l = some (.lst ((ps ++ [ts]).map V.ref)) := look_new (look_new (by rw [upd_same, List.map_append]; rfl) ntw) nt2
       have htw : (upd (upd (upd (upd H1 ts (.tup [.str "set", .int x, .int 0])) l (.lst (ps.map V.ref ++ [.ref ts]))) tw (.tup [.str "while", .int x, .ref l])) t2 (.tup [.ref tw, .int e])) tw = some (.tup [.str "while", .int x, .ref l]) := look_new upd_same nt2
       have ht2 : (upd (upd (upd (upd H1 ts (.tup [.str "set", .int x, .int 0])) l (.lst (ps.map V.ref ++ [.ref ts]))) tw (.tup [.str "while", .int x, .ref l])) t2 (.tup [.ref tw, .int e])) t2 = some (.tup [.ref tw, .int e]) := upd_same
       generalize (upd (upd (upd (upd H1 ts (.tup [.str "set", .int x, .int 0])) l (.lst (ps.map V.ref ++ [.ref ts]))) tw (.tup [.str "while", .int x, .ref l])) t2 (.tup [.ref tw, .int e])) = HF at kF hts hlF htw ht2 ⊢
       have sF : Same H HF := fun b o eb => kF b o (s1 b o eb) (ne_of_none eb nl)
       have sub : Same (nw (upd H l (.lst [])) H1) (nw H HF) := nw_sub fun b o k1 k2 => ⟨(upd_none k1).1, kF b o k2 (upd_none k1).2⟩
       refine q t2 tw (.whileS x (ss ++ [.pl (.set x 0)])) e HF sF ht2 ⟨l, nw_at (none_same s1 ntw1) htw, ps ++ [ts], nw_at nl hlF, Each.snoc (he.mono fun p z h => StAt.same sub h) (show StAt (nw H HF) (j + 1) ts (.pl (.set x 0)) from nw_at (none_same s1 nts) hts)⟩ ⟨hx, by omega, fun z hz => ?_⟩ ?_ (by omega) h2
       · rcases List.mem_append.mp hz with y | y
         · exact hok z y
         · rw [List.mem_singleton.mp y]; exact (show (Sm.set x 0).ok from ⟨hx, by decide, by decide⟩)
       · have ec : cnt1 (j + 1 + 1) (.whileS x (ss ++ [.pl (.set x 0)])) = 1 + (cntL (j + 1) ss + 1) := by show 1 + cntL (j + 1) (ss ++ [.pl (.set x 0)]) = _; unfold cntL; rw [List.map_append, List.sum_append]; rfl
         rw [ec]; omega
     · clear hh
       walk_at "rk"
       rename_i tw ntw t2 nt2
       have ntw1 := ntw
       have kF : ∀ b o, H1 b = some o → b ≠ l → (upd (upd H1 tw (.tup [.str "while", .int x, .ref l])) t2 (.tup [.ref tw, .int e])) b = some o := fun b o eb nb => look_new (look_new eb ntw) nt2
       have hlF : (upd (upd H1 tw (.tup [.str "while", .int x, .ref l])) t2 (.tup [.ref tw, .int e])) l = some (.lst (ps.map V.ref)) := look_new (look_new hl ntw) nt2
       have htw : (upd (upd H1 tw (.tup [.str "while", .int x, .ref l])) t2 (.tup [.ref tw, .int e])) tw = some (.tup [.str "while", .int x, .ref l]) := look_new upd_same nt2
       have ht2 : (upd (upd H1 tw (.tup [.str "while", .int x, .ref l])) t2 (.tup [.ref tw, .int e])) t2 = some (.tup [.ref tw, .int e]) := upd_same
       generalize (upd (upd H1 tw (.tup [.str "while", .int x, .ref l])) t2 (.tup [.ref tw, .int e])) = HF at kF hlF htw ht2 ⊢
       have sF : Same H HF := fun b o eb => kF b o (s1 b o eb) (ne_of_none eb nl)
       have sub : Same (nw (upd H l (.lst [])) H1) (nw H HF) := nw_sub fun b o k1 k2 => ⟨(upd_none k1).1, kF b o k2 (upd_none k1).2⟩
       refine q t2 tw (.whileS x ss) e HF sF ht2 ⟨l, nw_at (none_same s1 ntw1) htw, ps, nw_at nl hlF, he.mono fun p z h => StAt.same sub h⟩ ⟨hx, by omega, hok⟩ ?_ (by omega) h2
       have ec : cnt1 (j + 1 + 1) (.whileS x ss) = 1 + cntL (j + 1) ss := rfl
       rw [ec]; omega
   · clear hh ht
     have hS1 := Same.seq s1 hS
     walk_at "rk"
     refine ⟨a0, lh, ns, hd, e, _, by rw [show 4 - ((j + 1 : Nat) : Int) + 1 = 4 - (j : Int) by omega], hS1, s1 _ _ hlh, hHd, by omega, by omega, by omega, by omega, by omega, fun t' l2 ps2 ss2 e2 H2 s2 nl2 ht' hl2 hpl2 he2 hok2 hcn2 h3 h4 => ?_⟩
     refine r_gTup (SqT.of ht') rfl ?_
     clear hS1 ht'
     walk_at "rk"
     refine ifInt (fun hh => ?_) (fun hh => ?_)
     · clear hh
       walk_at "rk"
       rename_i tw ntw t2 nt2
       have sF2 : Same H2 (upd (upd H2 tw (.tup [.str "if", .int x, .ref l, .ref l2])) t2 (.tup [.ref tw, .int e2])) := (same_new ntw).trans (same_new nt2)
       have htw : (upd (upd H2 tw (.tup [.str "if", .int x, .ref l, .ref l2])) t2 (.tup [.ref tw, .int e2])) tw = some (.tup [.str "if", .int x, .ref l, .ref l2]) := look_new upd_same nt2
       have ht2 : (upd (upd H2 tw (.tup [.str "if", .int x, .ref l, .ref l2])) t2 (.tup [.ref tw, .int e2])) t2 = some (.tup [.ref tw, .int e2]) := upd_same
       generalize (upd (upd H2 tw (.tup [.str "if", .int x, .ref l, .ref l2])) t2 (.tup [.ref tw, .int e2])) = HF at sF2 htw ht2 ⊢
       have sub : Same (nw (upd H l (.lst [])) H1) (nw H HF) := nw_sub fun b o k1 k2 => ⟨(upd_none k1).1, sF2 _ _ (s2 _ _ k2)⟩
       have sub2 : Same (nw (upd H1 l2 (.lst [])) H2) (nw H HF) := nw_sub fun b o k1 k2 => ⟨none_same s1 (upd_none k1).1, sF2 _ _ k2⟩
       refine q t2 tw (.ifS x ss ss2) e2 HF (s1.trans (s2.trans sF2)) ht2 ⟨l, l2, nw_at (none_same s1 (none_same s2 ntw)) htw, ⟨ps, nw_at nl (sF2 _ _ (s2 _ _ hl)), he.mono fun p z h => StAt.same sub h⟩, ⟨ps2, nw_at (none_same s1 nl2) (sF2 _ _ hl2), he2.mono fun p z h => StAt.same sub2 h⟩⟩ ⟨hx, by omega, hok, hok2⟩ ?_ (by omega) h4
       have ec : cnt1 (j + 1 + 1) (.ifS x ss ss2) = 1 + cntL (j + 1) ss + cntL (j + 1) ss2 := rfl
       rw [ec]; omega
     · clear hh
       walk_at "rk"
       rename_i tw ntw t2 nt2
       have sF2 : Same H2 (upd (upd H2 tw (.tup [.str "try", .ref l, .int x, .ref l2])) t2 (.tup [.ref tw, .int e2])) := (same_new ntw).trans (same_new nt2)
       have htw : (upd (upd H2 tw (.tup [.str "try", .ref l, .int x, .ref l2])) t2 (.tup [.ref tw, .int e2])) tw = some (.tup [.str "try", .ref l, .int x, .ref l2]) := look_new upd_same nt2
       have ht2 : (upd (upd H2 tw (.tup [.str "try", .ref l, .int x, .ref l2])) t2 (.tup [.ref tw, .int e2])) t2 = some (.tup [.ref tw, .int e2]) := upd_same
       generalize (upd (upd H2 tw (.tup [.str "try", .ref l, .int x, .ref l2])) t2 (.tup [.ref tw, .int e2])) = HF at sF2 htw ht2 ⊢
       have sub : Same (nw (upd H l (.lst [])) H1) (nw H HF) := nw_sub fun b o k1 k2 => ⟨(upd_none k1).1, sF2 _ _ (s2 _ _ k2)⟩
       have sub2 : Same (nw (upd H1 l2 (.lst [])) H2) (nw H HF) := nw_sub fun b o k1 k2 => ⟨none_same s1 (upd_none k1).1, sF2 _ _ k2⟩
       refine q t2 tw (.tryS ss x ss2) e2 HF (s1.trans (s2.trans sF2)) ht2 ⟨l, l2, nw_at (none_same s1 (none_same s2 ntw)) htw, ⟨ps, nw_at nl (sF2 _ _ (s2 _ _ hl)), he.mono fun p z h => StAt.same sub h⟩, ⟨ps2, nw_at (none_same s1 nl2) (sF2 _ _ hl2), he2.mono fun p z h => StAt.same sub2 h⟩⟩ ⟨hx, by omega, hok, hok2⟩ ?_ (by omega) h4
       have ec : cnt1 (j + 1 + 1) (.tryS ss x ss2) = 1 + cntL (j + 1) ss + cntL (j + 1) ss2 := rfl
       rw [ec]; omega
theorem ok_law_statementS {k j : Nat} (hk : 4 ≤ k) (G : FnE P w K mg base CX0 k "_law_nested" (spSt K (j + 1))) (T : Txt w K mg a) : FnE P w K mg base CX0 (k + 1) "_law_statement" (spSt K (j + 1)) := by
 refine fnE_of (sp := (spSt K (j + 1))) k T.fn_law_statement sc_law_statement (fun vs H Q E h => ?_) (fun f cdv A outer s H vs Q E hr h => ?_)
 · obtain ⟨a0, lh, ns, hd, at', rfl, _⟩ := h
   rfl
 · obtain ⟨a0, lh, ns, hd, at', rfl, hS, hlh, hHd, a1, a2, j4, q⟩ := h
   refine' ⟨_, ?body0, ?_⟩
   (case body0 => (refine' pss_cons ?tu88 ?tq89; (case tq89 => (refine' pss_cons ?tu90 ?tq91; (case tq91 => (refine' pss_cons ?tu92 ?tq93; (case tq93 => (refine' pss_cons ?tu94 ?tq95; (case tq95 => (refine' pss_cons ?tu96 ?tq97; (case tq97 => (refine' pss_cons ?tu98 ?tq99; (case tq99 => (refine' pss_cons ?tu100 ?tq101; (case tq101 => (refine' pss_cons ?tu102 ?tq103; (case tq103 => (refine' pss_cons ?tu104 ?tq105; (case tq105 => (refine' pss_cons ?tu106 ?tq107; (case tq107 => (refine' pss_cons ?tu108 ?tq109; (case tq109 => (refine' pss_cons ?tu110 ?tq111; (case tq111 => (refine' pss_cons ?tu112 ?tq113; (case tq113 => (refine' pss_cons ?tu114 ?tq115; (case tq115 => (refine' pss_one ?tu116; (case tu116 => (refine' ps_ret ?ts117; (case ts117 => (refine' pe_tup ?ta118; (case ta118 => (refine' pa_cons ?tx119 ?ty120 ?tz121; (case tz121 => rfl); (case tx119 => (refine' pe_tup ?ta122; (case ta122 => (refine' pa_cons ?tx123 ?ty124 ?tz125; (case tz125 => rfl); (case tx123 => exact pe_str); (case ty124 => (refine' pa_cons ?tx126 ?ty127 ?tz128; (case tz128 => rfl); (case tx126 => exact (pv 7)); (case ty127 => (refine' pa_cons ?tx129 ?ty130 ?tz131; (case tz131 => rfl); (case tx129 => exact (pe_op op_mod (pe_callE (ok_law_cell_at (K := K) T) (hr.mono (by omega)) pass0 rfl (pa_cons (pv 0) (pa_cons (pv 1) pa_nil))) pe_int)); (case ty130 => exact pa_nil))))))))); (case ty120 => (refine' pa_cons ?tx132 ?ty133 ?tz134; (case tz134 => rfl); (case tx132 => exact (pe_op (op_plusK (K := K) rfl) (pv 1) pe_int)); (case ty133 => exact pa_nil))))))))))); (case tu114 => (refine' ps_if ?ti135 ?tj136 ?tm137; (case ti135 => (refine' pt_cmpR (op_inK (K := K) rfl) ?tl138 ?tr139 rfl; (case tl138 => exact (pv 6)); (case tr139 => (refine' pe_tup ?ta140; (case ta140 => (refine' pa_cons ?tx141 ?ty142 ?tz143; (case tz143 => rfl); (case tx141 => exact pe_str); (case ty142 => (refine' pa_cons ?tx144 ?ty145 ?tz146; (case tz146 => rfl); (case tx144 => exact pe_str); (case ty145 => (refine' pa_cons ?tx147 ?ty148 ?tz149; (case tz149 => rfl); (case tx147 => exact pe_str); (case ty148 => (refine' pa_cons ?tx150 ?ty151 ?tz152; (case tz152 => rfl); (case tx150 => exact pe_str); (case ty151 => exact pa_nil))))))))))))); (case tj136 => exact (pss_one (ps_ret (pe_tup (pa_cons (pe_tup (pa_cons (pv 6) (pa_cons (pv 7) (pa_cons (pv 8) (pa_cons (pv 9) pa_nil))))) (pa_cons (pe_op (op_plusK (K := K) rfl) (pv 1) pe_int) pa_nil)))))); (case tm137 => exact pss_nil))))); (case tu112 => exact (ps_if (pt_cmpR (op_eqK (K := K) rfl hr.units) (pv 6) pe_str (nomark _)) (pss_one (ps_ret (pe_tup (pa_cons (pe_tup (pa_cons (pv 6) (pa_cons (pv 7) (pa_cons (pv 8) pa_nil)))) (pa_cons (pe_op (op_plusK (K := K) rfl) (pv 1) pe_int) pa_nil))))) pss_nil)))); (case tu110 => exact (ps_if (PW.pt (pw_or (pt_cmpR (op_eqK (K := K) rfl hr.units) (pv 6) pe_str (nomark _)) (pw_or1 (pt_cmpR (op_eqK (K := K) rfl hr.units) (pv 6) pe_str (nomark _))))) (pss_one (ps_ret (pe_tup (pa_cons (pe_tup (pa_cons (pv 6) (pa_cons (pv 7) pa_nil))) (pa_cons (pe_op (op_plusK (K := K) rfl) (pv 1) pe_int) pa_nil))))) pss_nil)))); (case tu108 => (refine' ps_if ?ti153 ?tj154 ?tm155; (case ti153 => exact (pt_cmpR (op_eqK (K := K) rfl hr.units) (pv 6) pe_str (nomark _))); (case tj154 => (refine' pss_one ?tu156; (case tu156 => (refine' ps_ret ?ts157; (case ts157 => (refine' pe_tup ?ta158; (case ta158 => (refine' pa_cons ?tx159 ?ty160 ?tz161; (case tz161 => rfl); (case tx159 => (refine' pe_tup ?ta162; (case ta162 => (refine' pa_cons ?tx163 ?ty164 ?tz165; (case tz165 => rfl); (case tx163 => exact pe_str); (case ty164 => (refine' pa_cons ?tx166 ?ty167 ?tz168; (case tz168 => rfl); (case tx166 => exact (pv 10)); (case ty167 => (refine' pa_cons ?tx169 ?ty170 ?tz171; (case tz171 => rfl); (case tx169 => exact (pe_callTy (call_tupK (K := K) rfl) rfl T.z_tuple b_tuple (pa_cons (pv 11) pa_nil))); (case ty170 => exact pa_nil))))))))); (case ty160 => (refine' pa_cons ?tx172 ?ty173 ?tz174; (case tz174 => rfl); (case tx172 => exact (pe_op (op_plusK (K := K) rfl) (pv 1) pe_int)); (case ty173 => exact pa_nil))))))))))); (case tm155 => exact pss_nil))))); (case tu106 => (refine' ps_if ?ti175 ?tj176 ?tm177; (case ti175 => exact (pt_cmpR (op_eqK (K := K) rfl hr.units) (pv 6) pe_str (nomark _))); (case tj176 => (refine' pss_one ?tu178; (case tu178 => (refine' ps_ret ?ts179; (case ts179 => (refine' pe_tup ?ta180; (case ta180 => (refine' pa_cons ?tx181 ?ty182 ?tz183; (case tz183 => rfl); (case tx181 => (refine' pe_tup ?ta184; (case ta184 => (refine' pa_cons ?tx185 ?ty186 ?tz187; (case tz187 => rfl); (case tx185 => exact pe_str); (case ty186 => (refine' pa_cons ?tx188 ?ty189 ?tz190; (case tz190 => rfl); (case tx188 => exact (pv 7)); (case ty189 => (refine' pa_cons ?tx191 ?ty192 ?tz193; (case tz193 => rfl); (case tx191 => exact (pv 10)); (case ty192 => (refine' pa_cons ?tx194 ?ty195 ?tz196; (case tz196 => rfl); (case tx194 => exact (pv 11)); (case ty195 => exact pa_nil))))))))))); (case ty182 => (refine' pa_cons ?tx197 ?ty198 ?tz199; (case tz199 => rfl); (case tx197 => exact (pe_op (op_plusK (K := K) rfl) (pv 1) pe_int)); (case ty198 => exact pa_nil))))))))))); (case tm177 => exact pss_nil))))); (case tu104 => (refine' ps_if ?ti200 ?tj201 ?tm202; (case ti200 => (refine' PW.pt ?tb203; (case tb203 => (refine' pw_and ?tt204 ?tw205; (case tt204 => (refine' pt_cmpR (op_inK (K := K) rfl) ?tl206 ?tr207 rfl; (case tl206 => exact (pv 6)); (case tr207 => (refine' pe_tup ?ta208; (case ta208 => (refine' pa_cons ?tx209 ?ty210 ?tz211; (case tz211 => rfl); (case tx209 => exact pe_str); (case ty210 => (refine' pa_cons ?tx212 ?ty213 ?tz214; (case tz214 => rfl); (case tx212 => exact pe_str); (case ty213 => (refine' pa_cons ?tx215 ?ty216 ?tz217; (case tz217 => rfl); (case tx215 => exact pe_str); (case ty216 => exact pa_nil))))))))))); (case tw205 => (refine' pw_and1 ?tt218; (case tt218 => exact (pt_cmpR op_lt (pv 2) pe_int (nomark _))))))))); (case tj201 => exact (pss_one (ps_ret (pe_callE G (hr.mono (Nat.le_refl _)) pass0 rfl (pa_cons (pv 0) (pa_cons (pv 1) (pa_cons (pv 2) (pa_cons (pv 3) pa_nil)))))))); (case tm202 => exact pss_nil))))); (case tu102 => exact (ps_setC (i := 11) sc_law_statement.nd rfl rfl (own := ["_law_k"]) (fr := [("_law_y", 8), ("_law_z", 9)]) rfl ⟨rfl, (by walk_at "clok"), (by walk_at "frok"), rfl, (by decide +kernel), (by decide +kernel), rfl⟩ (pi_range1 rfl T.z_range (pa_cons (pe_ix (ix_K (K := K) rfl) (pv 3) (pv 10) (fun _ _ => rfl)) pa_nil)) (fun _ _ _ _ => (pg_name (i := 0) (show List.Nodup [("_law_k" : Str), ("_law_y" : Str), ("_law_z" : Str)] from by decide +kernel) rfl (Or.inl rfl))) (fun _ _ _ _ => pts_nil) (fun _ _ _ _ => (pe_op op_mod (pe_op (op_plusK (K := K) rfl) (pv 2) (pe_op op_times (pv 0) (pv 1))) pe_int)))))); (case tu100 => exact (ps_set (i := 10) sc_law_statement.nd rfl (Or.inl rfl) (pe_op op_mod (pe_op op_fdiv (pv 4) pe_int) (pe_callB (call_lenK (K := K) rfl) rfl T.z_len b_len (pa_cons (pv 3) pa_nil))))))); (case tu98 => exact (ps_set (i := 9) sc_law_statement.nd rfl (Or.inr rfl) (pe_op op_mod (pe_op op_fdiv (pv 4) pe_int) pe_int))))); (case tu96 => exact (ps_set (i := 8) sc_law_statement.nd rfl (Or.inr rfl) (pe_op op_mod (pe_op op_fdiv (pv 4) pe_int) pe_int))))); (case tu94 => exact (ps_set (i := 7) sc_law_statement.nd rfl (Or.inl rfl) (pe_op op_mod (pe_op op_fdiv (pv 4) pe_int) pe_int))))); (case tu92 => (refine' ps_set (i := 6) ?tv219 ?tv220 ?tv221 ?tv222 ?tv223 ?tv224; (case tv219 => exact sc_law_statement.nd); (case tv220 => rfl); (case tv221 => exact (Or.inl rfl)); (case tv223 => rfl); (case tv224 => exact .inl rfl); (case tv222 => exact (pe_ix (ix_K (K := K) rfl) (pe_op (op_plusK (K := K) rfl) (pv 5) (pe_lst (pa_cons pe_str (pa_cons pe_str (pa_cons pe_str (pa_cons pe_str pa_nil)))))) (pe_op op_mod (pv 4) pe_int) (fun _ _ => rfl))))))); (case tu90 => (refine' ps_set (i := 5) ?tv225 ?tv226 ?tv227 ?tv228 ?tv229 ?tv230; (case tv225 => exact sc_law_statement.nd); (case tv226 => rfl); (case tv227 => exact (Or.inl rfl)); (case tv229 => rfl); (case tv230 => exact .inl rfl); (case tv228 => (refine' pe_lst ?ta231; (case ta231 => (refine' pa_cons ?tx232 ?ty233 ?tz234; (case tz234 => rfl); (case tx232 => exact pe_str); (case ty233 => (refine' pa_cons ?tx235 ?ty236 ?tz237; (case tz237 => rfl); (case tx235 => exact pe_str); (case ty236 => (refine' pa_cons ?tx238 ?ty239 ?tz240; (case tz240 => rfl); (case tx238 => exact pe_str); (case ty239 => (refine' pa_cons ?tx241 ?ty242 ?tz243; (case tz243 => rfl); (case tx241 => exact pe_str); (case ty242 => (refine' pa_cons ?tx244 ?ty245 ?tz246; (case tz246 => rfl); (case tx244 => exact pe_str); (case ty245 => (refine' pa_cons ?tx247 ?ty248 ?tz249; (case tz249 => rfl); (case tx247 => exact pe_str); (case ty248 => (refine' pa_cons ?tx250 ?ty251 ?tz252; (case tz252 => rfl); (case tx250 => exact pe_str); (case ty251 => (refine' pa_cons ?tx253 ?ty254 ?tz255; (case tz255 => rfl); (case tx253 => exact pe_str); (case ty254 => (refine' pa_cons ?tx256 ?ty257 ?tz258; (case tz258 => rfl); (case tx256 => exact pe_str); (case ty257 => (refine' pa_cons ?tx259 ?ty260 ?tz261; (case tz261 => rfl); (case tx259 => exact pe_str); (case ty260 => (refine' pa_cons ?tx262 ?ty263 ?tz264; (case tz264 => rfl); (case tx262 => exact pe_str); (case ty263 => (refine' pa_cons ?tx265 ?ty266 ?tz267; (case tz267 => rfl); (case tx265 => exact pe_str); (case ty266 => exact pa_nil))))))))))))))))))))))))))))))); (case tu88 => exact (ps_set (i := 4) sc_law_statement.nd rfl (Or.inl rfl) (pe_callE (ok_law_number (K := K) T) (hr.mono (by omega)) pass0 rfl (pa_cons (pv 0) (pa_cons (pv 1) pa_nil)))))))
   refine r_st (σ' := [some _, some _, some _, some _, none, none, none, none, none, none, none, none]) rfl ?_
   walk_at "rk"
   refine ⟨a0, ns, _, rfl, hS, a1, by omega, ?_⟩
   generalize numAt ns at' = n
   walk_at "rk"
   rename_i lw1 nlw1 lw2 nlw2
   refine r_plusL (look_new upd_same nlw2) upd_same (Nat.le_of_ble_eq_true rfl) fun lw3 nlw3 => ?_
   obtain ⟨w', hw1, hw2⟩ := words_at (m := n % 16) (by omega) (by omega)
   have sB : Same H (upd (upd (upd H lw1 (.lst [.str "set", .str "sum", .str "copy", .str "call", .str "if", .str "while", .str "less", .str "minus", .str "try", .str "call", .str "product", .str "drop"])) lw2 (.lst [.str "give", .str "hand", .str "set", .str "sum"])) lw3 (.lst ([.str "set", .str "sum", .str "copy", .str "call", .str "if", .str "while", .str "less", .str "minus", .str "try", .str "call", .str "product", .str "drop"] ++ [.str "give", .str "hand", .str "set", .str "sum"]))) := (same_new nlw1).trans ((same_new nlw2).trans (same_new nlw3))
   have hlw : (upd (upd (upd H lw1 (.lst [.str "set", .str "sum", .str "copy", .str "call", .str "if", .str "while", .str "less", .str "minus", .str "try", .str "call", .str "product", .str "drop"])) lw2 (.lst [.str "give", .str "hand", .str "set", .str "sum"])) lw3 (.lst ([.str "set", .str "sum", .str "copy", .str "call", .str "if", .str "while", .str "less", .str "minus", .str "try", .str "call", .str "product", .str "drop"] ++ [.str "give", .str "hand", .str "set", .str "sum"]))) lw3 = some (.lst wordsV) := upd_same
   generalize (upd (upd (upd H lw1 (.lst [.str "set", .str "sum", .str "copy", .str "call", .str "if", .str "while", .str "less", .str "minus", .str "try", .str "call", .str "product", .str "drop"])) lw2 (.lst [.str "give", .str "hand", .str "set", .str "sum"])) lw3 (.lst ([.str "set", .str "sum", .str "copy", .str "call", .str "if", .str "while", .str "less", .str "minus", .str "try", .str "call", .str "product", .str "drop"] ++ [.str "give", .str "hand", .str "set", .str "sum"]))) = HB at sB hlw ⊢
   clear nlw1 nlw2 nlw3
   have hx : isN (n / 16 % 6) := ⟨by omega, by omega⟩
   have hy : isN (n / 96 % 6) := ⟨by omega, by omega⟩
   have hz : isN (n / 576 % 6) := ⟨by omega, by omega⟩
   have hlhB := sB _ _ hlh
   walk_at "rk"
   clear hw1 hlw
   refine r_lenL (SqL.of hlhB) ?_
   rw [List.length_map]
   have hl1 := hHd.one
   have hl3 := hHd.three
   walk_at "rk"
   have hf0 : 0 ≤ n / 3456 % (hd.length : Int) := Int.emod_nonneg _ (by omega)
   have hfl : n / 3456 % (hd.length : Int) < hd.length := Int.emod_lt_of_pos _ (by omega)
   generalize n / 16 % 6 = x at hx ⊢
   generalize n / 96 % 6 = y at hy ⊢
   generalize n / 576 % 6 = z at hz ⊢
   generalize n / 3456 % (hd.length : Int) = f' at hf0 hfl ⊢
   clear hl1 hl3
   obtain ⟨m, hm⟩ : ∃ m, hd[f'.toNat]? = some m := ⟨_, List.getElem?_eq_getElem (show f'.toNat < hd.length by omega)⟩
   have hm3 := hHd.val m (List.mem_of_getElem? hm)
   have hat : atI (hd.map V.int) f' = some (.int m) := by
     have := gI_at (xs := hd) hf0 (by omega)
     rw [this]
     unfold gI
     rw [List.getD_eq_getElem?_getD, hm]; rfl
   walk_at "rk"
   refine comp_range (fun i ys σ HQ => (∃ v, σ = [v, some (.int y), some (.int z)]) ∧ Same HB HQ ∧ ∃ ks : List Int, ys = ks.map V.int ∧ ks.length = i ∧ ∀ k ∈ ks, isN k) ⟨⟨_, rfl⟩, Same.refl _, [], rfl, rfl, (fun _ z => by cases z)⟩ ?_ ?_ ?_
   · rintro i ys σ HQ hi ⟨_, _, ks, rfl, e, _⟩
     rw [List.length_map, e]
     walk_at "small"
   · rintro i ys σ HQ hi ⟨⟨v, rfl⟩, s1, ks, rfl, hl, hk⟩
     walk_at "rd"
     refine ⟨⟨_, rfl⟩, s1, ks ++ [_], by rw [List.map_append]; rfl, by rw [List.length_append, hl]; rfl, fun x hx => ?_⟩
     rcases List.mem_append.mp hx with z | z
     · exact hk x z
     · rw [List.mem_singleton.mp z]; exact ⟨by omega, by omega⟩
   rintro ys σ HQ ⟨_, s8, nms, rfl, hnl, hnn⟩ ln nln
   have sC := sB.trans (s8.trans (same_new (o := .lst (nms.map V.int)) nln))
   have hln : (upd HQ ln (.lst (nms.map V.int))) ln = some (.lst (nms.map V.int)) := upd_same
   replace nln : H ln = none := none_same sB (none_same s8 nln)
   generalize (upd HQ ln (.lst (nms.map V.int))) = HC at sC hln ⊢
   have hfm : hd[f'.toNat]? = some (nms.length : Int) := by rw [hm]; exact congrArg some (by omega)
   clear sB s8 hlhB hat hm hnl hm3
   rcases hw2 with rfl | rfl | rfl | rfl | rfl | rfl | rfl | rfl | rfl | rfl | rfl | rfl | rfl
   · have hSc := Same.seq sC hS
     walk_at "rk"
     repeat (rename @Eq Bool _ _ => hzz; clear hzz)
     rename_i ti nti t4 nt4 tp ntp t2 nt2
     have nt1 : HC tp = none := (upd_none (upd_none ntp).1).1
     generalize zz : (upd (upd (upd (upd HC ti (.tup [.str "if", .str "while", .str "try"])) t4 (.tup [.str "sum", .str "minus", .str "product", .str "less"])) tp (.tup [.str "set", .int x, .int (cellAt ns at' % 4294967296)])) t2 (.tup [.ref tp, .int (at' + 1)])) = HF
     have sHF : Same HC HF := by rw [← zz]; exact (same_new nti).trans ((same_new nt4).trans ((same_new ntp).trans (same_new nt2)))
     have h_ti : HF ti = some (.tup [.str "if", .str "while", .str "try"]) := by rw [← zz]; exact look_new (look_new (look_new upd_same nt4) ntp) nt2
     have h_t4 : HF t4 = some (.tup [.str "sum", .str "minus", .str "product", .str "less"]) := by rw [← zz]; exact look_new (look_new upd_same ntp) nt2
     have h_tp : HF tp = some (.tup [.str "set", .int x, .int (cellAt ns at' % 4294967296)]) := by rw [← zz]; exact look_new upd_same nt2
     have h_t2 : HF t2 = some (.tup [.ref tp, .int (at' + 1)]) := by rw [← zz]; exact upd_same
     clear zz nti nt4 ntp nt2
     exact q t2 tp (.pl (.set x (cellAt ns at' % 4294967296))) (at' + 1) HF (sC.trans sHF) h_t2 (nw_at (none_same sC nt1) h_tp) (show (Sm.set x (cellAt ns at' % 4294967296)).ok from ⟨hx, by omega, by omega⟩) (by show ((1 : Nat) : Int) + 2 * at' ≤ 2 * (at' + 1); omega) (by omega) (by omega)
   · walk_at "rk"
     repeat (rename @Eq Bool _ _ => hzz; clear hzz)
     rename_i ti nti t4 nt4 tp ntp t2 nt2
     have nt1 : HC tp = none := (upd_none (upd_none ntp).1).1
     generalize zz : (upd (upd (upd (upd HC ti (.tup [.str "if", .str "while", .str "try"])) t4 (.tup [.str "sum", .str "minus", .str "product", .str "less"])) tp (.tup [.str "sum", .int x, .int y, .int z])) t2 (.tup [.ref tp, .int (at' + 1)])) = HF
     have sHF : Same HC HF := by rw [← zz]; exact (same_new nti).trans ((same_new nt4).trans ((same_new ntp).trans (same_new nt2)))
     have h_ti : HF ti = some (.tup [.str "if", .str "while", .str "try"]) := by rw [← zz]; exact look_new (look_new (look_new upd_same nt4) ntp) nt2
     have h_t4 : HF t4 = some (.tup [.str "sum", .str "minus", .str "product", .str "less"]) := by rw [← zz]; exact look_new (look_new upd_same ntp) nt2
     have h_tp : HF tp = some (.tup [.str "sum", .int x, .int y, .int z]) := by rw [← zz]; exact look_new upd_same nt2
     have h_t2 : HF t2 = some (.tup [.ref tp, .int (at' + 1)]) := by rw [← zz]; exact upd_same
     clear zz nti nt4 ntp nt2
     exact q t2 tp (.pl (.sum x y z)) (at' + 1) HF (sC.trans sHF) h_t2 (nw_at (none_same sC nt1) h_tp) (show (Sm.sum x y z).ok from ⟨hx, hy, hz⟩) (by show ((1 : Nat) : Int) + 2 * at' ≤ 2 * (at' + 1); omega) (by omega) (by omega)
   · walk_at "rk"
     repeat (rename @Eq Bool _ _ => hzz; clear hzz)
     rename_i ti nti tp ntp t2 nt2
     have nt1 : HC tp = none := (upd_none ntp).1
     generalize zz : (upd (upd (upd HC ti (.tup [.str "if", .str "while", .str "try"])) tp (.tup [.str "copy", .int x, .int y])) t2 (.tup [.ref tp, .int (at' + 1)])) = HF
     have sHF : Same HC HF := by rw [← zz]; exact (same_new nti).trans ((same_new ntp).trans (same_new nt2))
     have h_ti : HF ti = some (.tup [.str "if", .str "while", .str "try"]) := by rw [← zz]; exact look_new (look_new upd_same ntp) nt2
     have h_tp : HF tp = some (.tup [.str "copy", .int x, .int y]) := by rw [← zz]; exact look_new upd_same nt2
     have h_t2 : HF t2 = some (.tup [.ref tp, .int (at' + 1)]) := by rw [← zz]; exact upd_same
     clear zz nti ntp nt2
     exact q t2 tp (.pl (.copy x y)) (at' + 1) HF (sC.trans sHF) h_t2 (nw_at (none_same sC nt1) h_tp) (show (Sm.copy x y).ok from ⟨hx, hy⟩) (by show ((1 : Nat) : Int) + 2 * at' ≤ 2 * (at' + 1); omega) (by omega) (by omega)
   · walk_at "rk"
     repeat (rename @Eq Bool _ _ => hzz; clear hzz)
     rename_i ti nti tp ntp t2 nt2
     have nt1 : HC tp = none := (upd_none ntp).1
     generalize zz : (upd (upd (upd HC ti (.tup [.str "if", .str "while", .str "try"])) tp (.tup [.str "call", .int x, .int f', .ref ln])) t2 (.tup [.ref tp, .int (at' + 1)])) = HF
     have sHF : Same HC HF := by rw [← zz]; exact (same_new nti).trans ((same_new ntp).trans (same_new nt2))
     have h_ti : HF ti = some (.tup [.str "if", .str "while", .str "try"]) := by rw [← zz]; exact look_new (look_new upd_same ntp) nt2
     have h_tp : HF tp = some (.tup [.str "call", .int x, .int f', .ref ln]) := by rw [← zz]; exact look_new upd_same nt2
     have h_t2 : HF t2 = some (.tup [.ref tp, .int (at' + 1)]) := by rw [← zz]; exact upd_same
     clear zz nti ntp nt2
     exact q t2 tp (.call x f' nms true) (at' + 1) HF (sC.trans sHF) h_t2 (⟨ln, nw_at (none_same sC nt1) h_tp, nw_at nln (sHF _ _ hln)⟩) ⟨hx, hf0, hnn, hfm⟩ (by show ((1 : Nat) : Int) + 2 * at' ≤ 2 * (at' + 1); omega) (by omega) (by omega)
   · walk_at "rk"
     repeat (rename @Eq Bool _ _ => hzz; clear hzz)
     rename_i ti nti _
     replace sC := sC.trans (same_new (o := .tup [.str "if", .str "while", .str "try"]) nti)
     exact ⟨a0, lh, ns, hd, at', rfl, Same.seq sC hS, sC _ _ hlh, hHd, a1, a2, j4, fun t p s e H' s' ht hst hok hcn h1 h2 => q t p s e H' (sC.trans s') ht (StAt.same (nw_sub fun b o k1 k2 => ⟨none_same sC k1, k2⟩) hst) hok hcn h1 h2⟩
   · walk_at "rk"
     repeat (rename @Eq Bool _ _ => hzz; clear hzz)
     rename_i ti nti _
     replace sC := sC.trans (same_new (o := .tup [.str "if", .str "while", .str "try"]) nti)
     exact ⟨a0, lh, ns, hd, at', rfl, Same.seq sC hS, sC _ _ hlh, hHd, a1, a2, j4, fun t p s e H' s' ht hst hok hcn h1 h2 => q t p s e H' (sC.trans s') ht (StAt.same (nw_sub fun b o k1 k2 => ⟨none_same sC k1, k2⟩) hst) hok hcn h1 h2⟩
   · walk_at "rk"
     repeat (rename @Eq Bool _ _ => hzz; clear hzz)
     rename_i ti nti t4 nt4 tp ntp t2 nt2
     have nt1 : HC tp = none := (upd_none (upd_none ntp).1).1
     generalize zz : (upd (upd (upd (upd HC ti (.tup [.str "if", .str "while", .str "try"])) t4 (.tup [.str "sum", .str "minus", .str "product", .str "less"])) tp (.tup [.str "less", .int x, .int y, .int z])) t2 (.tup [.ref tp, .int (at' + 1)])) = HF
     have sHF : Same HC HF := by rw [← zz]; exact (same_new nti).trans ((same_new nt4).trans ((same_new ntp).trans (same_new nt2)))
     have h_ti : HF ti = some (.tup [.str "if", .str "while", .str "try"]) := by rw [← zz]; exact look_new (look_new (look_new upd_same nt4) ntp) nt2
     have h_t4 : HF t4 = some (.tup [.str "sum", .str "minus", .str "product", .str "less"]) := by rw [← zz]; exact look_new (look_new upd_same ntp) nt2
     have h_tp : HF tp = some (.tup [.str "less", .int x, .int y, .int z]) := by rw [← zz]; exact look_new upd_same nt2
     have h_t2 : HF t2 = some (.tup [.ref tp, .int (at' + 1)]) := by rw [← zz]; exact upd_same
     clear zz nti nt4 ntp nt2
     exact q t2 tp (.pl (.less x y z)) (at' + 1) HF (sC.trans sHF) h_t2 (nw_at (none_same sC nt1) h_tp) (show (Sm.less x y z).ok from ⟨hx, hy, hz⟩) (by show ((1 : Nat) : Int) + 2 * at' ≤ 2 * (at' + 1); omega) (by omega) (by omega)
   · walk_at "rk"
     repeat (rename @Eq Bool _ _ => hzz; clear hzz)
     rename_i ti nti t4 nt4 tp ntp t2 nt2
     have nt1 : HC tp = none := (upd_none (upd_none ntp).1).1
     generalize zz : (upd (upd (upd (upd HC ti (.tup [.str "if", .str "while", .str "try"])) t4 (.tup [.str "sum", .str "minus", .str "product", .str "less"])) tp (.tup [.str "minus", .int x, .int y, .int z])) t2 (.tup [.ref tp, .int (at' + 1)])) = HF
     have sHF : Same HC HF := by rw [← zz]; exact (same_new nti).trans ((same_new nt4).trans ((same_new ntp).trans (same_new nt2)))
     have h_ti : HF ti = some (.tup [.str "if", .str "while", .str "try"]) := by rw [← zz]; exact look_new (look_new (look_new upd_same nt4) ntp) nt2
     have h_t4 : HF t4 = some (.tup [.str "sum", .str "minus", .str "product", .str "less"]) := by rw [← zz]; exact look_new (look_new upd_same ntp) nt2
     have h_tp : HF tp = some (.tup [.str "minus", .int x, .int y, .int z]) := by rw [← zz]; exact look_new upd_same nt2
     have h_t2 : HF t2 = some (.tup [.ref tp, .int (at' + 1)]) := by rw [← zz]; exact upd_same
     clear zz nti nt4 ntp nt2
     exact q t2 tp (.pl (.minus x y z)) (at' + 1) HF (sC.trans sHF) h_t2 (nw_at (none_same sC nt1) h_tp) (show (Sm.minus x y z).ok from ⟨hx, hy, hz⟩) (by show ((1 : Nat) : Int) + 2 * at' ≤ 2 * (at' + 1); omega) (by omega) (by omega)
   · walk_at "rk"
     repeat (rename @Eq Bool _ _ => hzz; clear hzz)
     rename_i ti nti _
     replace sC := sC.trans (same_new (o := .tup [.str "if", .str "while", .str "try"]) nti)
     exact ⟨a0, lh, ns, hd, at', rfl, Same.seq sC hS, sC _ _ hlh, hHd, a1, a2, j4, fun t p s e H' s' ht hst hok hcn h1 h2 => q t p s e H' (sC.trans s') ht (StAt.same (nw_sub fun b o k1 k2 => ⟨none_same sC k1, k2⟩) hst) hok hcn h1 h2⟩
   · walk_at "rk"
     repeat (rename @Eq Bool _ _ => hzz; clear hzz)
     rename_i ti nti t4 nt4 tp ntp t2 nt2
     have nt1 : HC tp = none := (upd_none (upd_none ntp).1).1
     generalize zz : (upd (upd (upd (upd HC ti (.tup [.str "if", .str "while", .str "try"])) t4 (.tup [.str "sum", .str "minus", .str "product", .str "less"])) tp (.tup [.str "product", .int x, .int y, .int z])) t2 (.tup [.ref tp, .int (at' + 1)])) = HF
     have sHF : Same HC HF := by rw [← zz]; exact (same_new nti).trans ((same_new nt4).trans ((same_new ntp).trans (same_new nt2)))
     have h_ti : HF ti = some (.tup [.str "if", .str "while", .str "try"]) := by rw [← zz]; exact look_new (look_new (look_new upd_same nt4) ntp) nt2
     have h_t4 : HF t4 = some (.tup [.str "sum", .str "minus", .str "product", .str "less"]) := by rw [← zz]; exact look_new (look_new upd_same ntp) nt2
     have h_tp : HF tp = some (.tup [.str "product", .int x, .int y, .int z]) := by rw [← zz]; exact look_new upd_same nt2
     have h_t2 : HF t2 = some (.tup [.ref tp, .int (at' + 1)]) := by rw [← zz]; exact upd_same
     clear zz nti nt4 ntp nt2
     exact q t2 tp (.pl (.product x y z)) (at' + 1) HF (sC.trans sHF) h_t2 (nw_at (none_same sC nt1) h_tp) (show (Sm.product x y z).ok from ⟨hx, hy, hz⟩) (by show ((1 : Nat) : Int) + 2 * at' ≤ 2 * (at' + 1); omega) (by omega) (by omega)
   · walk_at "rk"
     repeat (rename @Eq Bool _ _ => hzz; clear hzz)
     rename_i ti nti tp ntp t2 nt2
     have nt1 : HC tp = none := (upd_none ntp).1
     generalize zz : (upd (upd (upd HC ti (.tup [.str "if", .str "while", .str "try"])) tp (.tup [.str "drop", .int x])) t2 (.tup [.ref tp, .int (at' + 1)])) = HF
     have sHF : Same HC HF := by rw [← zz]; exact (same_new nti).trans ((same_new ntp).trans (same_new nt2))
     have h_ti : HF ti = some (.tup [.str "if", .str "while", .str "try"]) := by rw [← zz]; exact look_new (look_new upd_same ntp) nt2
     have h_tp : HF tp = some (.tup [.str "drop", .int x]) := by rw [← zz]; exact look_new upd_same nt2
     have h_t2 : HF t2 = some (.tup [.ref tp, .int (at' + 1)]) := by rw [← zz]; exact upd_same
     clear zz nti ntp nt2
     exact q t2 tp (.drop x) (at' + 1) HF (sC.trans sHF) h_t2 (nw_at (none_same sC nt1) h_tp) hx (by show ((1 : Nat) : Int) + 2 * at' ≤ 2 * (at' + 1); omega) (by omega) (by omega)
   · walk_at "rk"
     repeat (rename @Eq Bool _ _ => hzz; clear hzz)
     rename_i ti nti tp ntp t2 nt2
     have nt1 : HC tp = none := (upd_none ntp).1
     generalize zz : (upd (upd (upd HC ti (.tup [.str "if", .str "while", .str "try"])) tp (.tup [.str "give", .int x])) t2 (.tup [.ref tp, .int (at' + 1)])) = HF
     have sHF : Same HC HF := by rw [← zz]; exact (same_new nti).trans ((same_new ntp).trans (same_new nt2))
     have h_ti : HF ti = some (.tup [.str "if", .str "while", .str "try"]) := by rw [← zz]; exact look_new (look_new upd_same ntp) nt2
     have h_tp : HF tp = some (.tup [.str "give", .int x]) := by rw [← zz]; exact look_new upd_same nt2
     have h_t2 : HF t2 = some (.tup [.ref tp, .int (at' + 1)]) := by rw [← zz]; exact upd_same
     clear zz nti ntp nt2
     exact q t2 tp (.pl (.give x)) (at' + 1) HF (sC.trans sHF) h_t2 (nw_at (none_same sC nt1) h_tp) (show (Sm.give x).ok from hx) (by show ((1 : Nat) : Int) + 2 * at' ≤ 2 * (at' + 1); omega) (by omega) (by omega)
   · walk_at "rk"
     repeat (rename @Eq Bool _ _ => hzz; clear hzz)
     rename_i ti nti
     refine r_tupLst (SqL.of (look_new hln nti)) fun lt nlt => ?_
     walk_at "rk"
     rename_i tp ntp t2 nt2
     have nt1 : HC tp = none := (upd_none (upd_none ntp).1).1
     have nl1 : HC lt = none := (upd_none nlt).1
     generalize zz : (upd (upd (upd (upd HC ti (.tup [.str "if", .str "while", .str "try"])) lt (.tup (nms.map V.int))) tp (.tup [.str "hand", .int f', .ref lt])) t2 (.tup [.ref tp, .int (at' + 1)])) = HF
     have sHF : Same HC HF := by rw [← zz]; exact (same_new nti).trans ((same_new nlt).trans ((same_new ntp).trans (same_new nt2)))
     have h_ti : HF ti = some (.tup [.str "if", .str "while", .str "try"]) := by rw [← zz]; exact look_new (look_new (look_new upd_same nlt) ntp) nt2
     have h_lt : HF lt = some (.tup (nms.map V.int)) := by rw [← zz]; exact look_new (look_new upd_same ntp) nt2
     have h_tp : HF tp = some (.tup [.str "hand", .int f', .ref lt]) := by rw [← zz]; exact look_new upd_same nt2
     have h_t2 : HF t2 = some (.tup [.ref tp, .int (at' + 1)]) := by rw [← zz]; exact upd_same
     clear zz nti nlt ntp nt2
     exact q t2 tp (.hand f' nms false) (at' + 1) HF (sC.trans sHF) h_t2 (⟨lt, nw_at (none_same sC nt1) h_tp, nw_at (none_same sC nl1) h_lt⟩) ⟨hf0, hnn, hfm⟩ (by show ((1 : Nat) : Int) + 2 * at' ≤ 2 * (at' + 1); omega) (by omega) (by omega)
theorem ok_law_statement0 (T : Txt w K mg a) : FnE P w K mg base CX0 3 "_law_statement" (spSt K 0) := by
 refine fnE_of (sp := (spSt K 0)) 2 T.fn_law_statement sc_law_statement (fun vs H Q E h => ?_) (fun f cdv A outer s H vs Q E hr h => ?_)
 · obtain ⟨a0, lh, ns, hd, at', rfl, _⟩ := h
   rfl
 · obtain ⟨a0, lh, ns, hd, at', rfl, hS, hlh, hHd, a1, a2, j4, q⟩ := h
   refine' ⟨_, ?body0, ?_⟩
   (case body0 => (refine' pss_cons ?tu1 ?tq2; (case tq2 => (refine' pss_cons ?tu3 ?tq4; (case tq4 => (refine' pss_cons ?tu5 ?tq6; (case tq6 => (refine' pss_cons ?tu7 ?tq8; (case tq8 => (refine' pss_cons ?tu9 ?tq10; (case tq10 => (refine' pss_cons ?tu11 ?tq12; (case tq12 => (refine' pss_cons ?tu13 ?tq14; (case tq14 => (refine' pss_cons ?tu15 ?tq16; (case tq16 => (refine' pss_cons ?tu17 ?tq18; (case tq18 => (refine' pss_cons ?tu19 ?tq20; (case tq20 => (refine' pss_cons ?tu21 ?tq22; (case tq22 => (refine' pss_cons ?tu23 ?tq24; (case tq24 => (refine' pss_cons ?tu25 ?tq26; (case tq26 => (refine' pss_cons ?tu27 ?tq28; (case tq28 => (refine' pss_one ?tu29; (case tu29 => (refine' ps_ret ?ts30; (case ts30 => (refine' pe_tup ?ta31; (case ta31 => (refine' pa_cons ?tx32 ?ty33 ?tz34; (case tz34 => rfl); (case tx32 => (refine' pe_tup ?ta35; (case ta35 => (refine' pa_cons ?tx36 ?ty37 ?tz38; (case tz38 => rfl); (case tx36 => exact pe_str); (case ty37 => (refine' pa_cons ?tx39 ?ty40 ?tz41; (case tz41 => rfl); (case tx39 => exact (pv 7)); (case ty40 => (refine' pa_cons ?tx42 ?ty43 ?tz44; (case tz44 => rfl); (case tx42 => exact (pe_op op_mod (pe_callE (ok_law_cell_at (K := K) T) (hr.mono (by decide)) pass0 rfl (pa_cons (pv 0) (pa_cons (pv 1) pa_nil))) pe_int)); (case ty43 => exact pa_nil))))))))); (case ty33 => (refine' pa_cons ?tx45 ?ty46 ?tz47; (case tz47 => rfl); (case tx45 => exact (pe_op (op_plusK (K := K) rfl) (pv 1) pe_int)); (case ty46 => exact pa_nil))))))))))); (case tu27 => (refine' ps_if ?ti48 ?tj49 ?tm50; (case ti48 => (refine' pt_cmpR (op_inK (K := K) rfl) ?tl51 ?tr52 rfl; (case tl51 => exact (pv 6)); (case tr52 => (refine' pe_tup ?ta53; (case ta53 => (refine' pa_cons ?tx54 ?ty55 ?tz56; (case tz56 => rfl); (case tx54 => exact pe_str); (case ty55 => (refine' pa_cons ?tx57 ?ty58 ?tz59; (case tz59 => rfl); (case tx57 => exact pe_str); (case ty58 => (refine' pa_cons ?tx60 ?ty61 ?tz62; (case tz62 => rfl); (case tx60 => exact pe_str); (case ty61 => (refine' pa_cons ?tx63 ?ty64 ?tz65; (case tz65 => rfl); (case tx63 => exact pe_str); (case ty64 => exact pa_nil))))))))))))); (case tj49 => exact (pss_one (ps_ret (pe_tup (pa_cons (pe_tup (pa_cons (pv 6) (pa_cons (pv 7) (pa_cons (pv 8) (pa_cons (pv 9) pa_nil))))) (pa_cons (pe_op (op_plusK (K := K) rfl) (pv 1) pe_int) pa_nil)))))); (case tm50 => exact pss_nil))))); (case tu25 => exact (ps_if (pt_cmpR (op_eqK (K := K) rfl hr.units) (pv 6) pe_str (nomark _)) (pss_one (ps_ret (pe_tup (pa_cons (pe_tup (pa_cons (pv 6) (pa_cons (pv 7) (pa_cons (pv 8) pa_nil)))) (pa_cons (pe_op (op_plusK (K := K) rfl) (pv 1) pe_int) pa_nil))))) pss_nil)))); (case tu23 => exact (ps_if (PW.pt (pw_or (pt_cmpR (op_eqK (K := K) rfl hr.units) (pv 6) pe_str (nomark _)) (pw_or1 (pt_cmpR (op_eqK (K := K) rfl hr.units) (pv 6) pe_str (nomark _))))) (pss_one (ps_ret (pe_tup (pa_cons (pe_tup (pa_cons (pv 6) (pa_cons (pv 7) pa_nil))) (pa_cons (pe_op (op_plusK (K := K) rfl) (pv 1) pe_int) pa_nil))))) pss_nil)))); (case tu21 => (refine' ps_if ?ti66 ?tj67 ?tm68; (case ti66 => exact (pt_cmpR (op_eqK (K := K) rfl hr.units) (pv 6) pe_str (nomark _))); (case tj67 => (refine' pss_one ?tu69; (case tu69 => (refine' ps_ret ?ts70; (case ts70 => (refine' pe_tup ?ta71; (case ta71 => (refine' pa_cons ?tx72 ?ty73 ?tz74; (case tz74 => rfl); (case tx72 => (refine' pe_tup ?ta75; (case ta75 => (refine' pa_cons ?tx76 ?ty77 ?tz78; (case tz78 => rfl); (case tx76 => exact pe_str); (case ty77 => (refine' pa_cons ?tx79 ?ty80 ?tz81; (case tz81 => rfl); (case tx79 => exact (pv 10)); (case ty80 => (refine' pa_cons ?tx82 ?ty83 ?tz84; (case tz84 => rfl); (case tx82 => exact (pe_callTy (call_tupK (K := K) rfl) rfl T.z_tuple b_tuple (pa_cons (pv 11) pa_nil))); (case ty83 => exact pa_nil))))))))); (case ty73 => (refine' pa_cons ?tx85 ?ty86 ?tz87; (case tz87 => rfl); (case tx85 => exact (pe_op (op_plusK (K := K) rfl) (pv 1) pe_int)); (case ty86 => exact pa_nil))))))))))); (case tm68 => exact pss_nil))))); (case tu19 => (refine' ps_if ?ti88 ?tj89 ?tm90; (case ti88 => exact (pt_cmpR (op_eqK (K := K) rfl hr.units) (pv 6) pe_str (nomark _))); (case tj89 => (refine' pss_one ?tu91; (case tu91 => (refine' ps_ret ?ts92; (case ts92 => (refine' pe_tup ?ta93; (case ta93 => (refine' pa_cons ?tx94 ?ty95 ?tz96; (case tz96 => rfl); (case tx94 => (refine' pe_tup ?ta97; (case ta97 => (refine' pa_cons ?tx98 ?ty99 ?tz100; (case tz100 => rfl); (case tx98 => exact pe_str); (case ty99 => (refine' pa_cons ?tx101 ?ty102 ?tz103; (case tz103 => rfl); (case tx101 => exact (pv 7)); (case ty102 => (refine' pa_cons ?tx104 ?ty105 ?tz106; (case tz106 => rfl); (case tx104 => exact (pv 10)); (case ty105 => (refine' pa_cons ?tx107 ?ty108 ?tz109; (case tz109 => rfl); (case tx107 => exact (pv 11)); (case ty108 => exact pa_nil))))))))))); (case ty95 => (refine' pa_cons ?tx110 ?ty111 ?tz112; (case tz112 => rfl); (case tx110 => exact (pe_op (op_plusK (K := K) rfl) (pv 1) pe_int)); (case ty111 => exact pa_nil))))))))))); (case tm90 => exact pss_nil))))); (case tu17 => (refine' ps_if ?ti113 ?tj114 ?tm115; (case ti113 => (refine' PW.pt ?tb116; (case tb116 => (refine' pw_and ?tt117 ?tw118; (case tt117 => (refine' pt_cmpR (op_inK (K := K) rfl) ?tl119 ?tr120 rfl; (case tl119 => exact (pv 6)); (case tr120 => (refine' pe_tup ?ta121; (case ta121 => (refine' pa_cons ?tx122 ?ty123 ?tz124; (case tz124 => rfl); (case tx122 => exact pe_str); (case ty123 => (refine' pa_cons ?tx125 ?ty126 ?tz127; (case tz127 => rfl); (case tx125 => exact pe_str); (case ty126 => (refine' pa_cons ?tx128 ?ty129 ?tz130; (case tz130 => rfl); (case tx128 => exact pe_str); (case ty129 => exact pa_nil))))))))))); (case tw118 => (refine' pw_and1 ?tt131; (case tt131 => exact (pt_cmpR op_lt (pv 2) pe_int (nomark _))))))))); (case tj114 => exact (pss_one ps_dead)); (case tm115 => exact pss_nil))))); (case tu15 => exact (ps_setC (i := 11) sc_law_statement.nd rfl rfl (own := ["_law_k"]) (fr := [("_law_y", 8), ("_law_z", 9)]) rfl ⟨rfl, (by walk_at "clok"), (by walk_at "frok"), rfl, (by decide +kernel), (by decide +kernel), rfl⟩ (pi_range1 rfl T.z_range (pa_cons (pe_ix (ix_K (K := K) rfl) (pv 3) (pv 10) (fun _ _ => rfl)) pa_nil)) (fun _ _ _ _ => (pg_name (i := 0) (show List.Nodup [("_law_k" : Str), ("_law_y" : Str), ("_law_z" : Str)] from by decide +kernel) rfl (Or.inl rfl))) (fun _ _ _ _ => pts_nil) (fun _ _ _ _ => (pe_op op_mod (pe_op (op_plusK (K := K) rfl) (pv 2) (pe_op op_times (pv 0) (pv 1))) pe_int)))))); (case tu13 => exact (ps_set (i := 10) sc_law_statement.nd rfl (Or.inl rfl) (pe_op op_mod (pe_op op_fdiv (pv 4) pe_int) (pe_callB (call_lenK (K := K) rfl) rfl T.z_len b_len (pa_cons (pv 3) pa_nil))))))); (case tu11 => exact (ps_set (i := 9) sc_law_statement.nd rfl (Or.inr rfl) (pe_op op_mod (pe_op op_fdiv (pv 4) pe_int) pe_int))))); (case tu9 => exact (ps_set (i := 8) sc_law_statement.nd rfl (Or.inr rfl) (pe_op op_mod (pe_op op_fdiv (pv 4) pe_int) pe_int))))); (case tu7 => exact (ps_set (i := 7) sc_law_statement.nd rfl (Or.inl rfl) (pe_op op_mod (pe_op op_fdiv (pv 4) pe_int) pe_int))))); (case tu5 => (refine' ps_set (i := 6) ?tv132 ?tv133 ?tv134 ?tv135 ?tv136 ?tv137; (case tv132 => exact sc_law_statement.nd); (case tv133 => rfl); (case tv134 => exact (Or.inl rfl)); (case tv136 => rfl); (case tv137 => exact .inl rfl); (case tv135 => exact (pe_ix (ix_K (K := K) rfl) (pe_op (op_plusK (K := K) rfl) (pv 5) (pe_lst (pa_cons pe_str (pa_cons pe_str (pa_cons pe_str (pa_cons pe_str pa_nil)))))) (pe_op op_mod (pv 4) pe_int) (fun _ _ => rfl))))))); (case tu3 => (refine' ps_set (i := 5) ?tv138 ?tv139 ?tv140 ?tv141 ?tv142 ?tv143; (case tv138 => exact sc_law_statement.nd); (case tv139 => rfl); (case tv140 => exact (Or.inl rfl)); (case tv142 => rfl); (case tv143 => exact .inl rfl); (case tv141 => (refine' pe_lst ?ta144; (case ta144 => (refine' pa_cons ?tx145 ?ty146 ?tz147; (case tz147 => rfl); (case tx145 => exact pe_str); (case ty146 => (refine' pa_cons ?tx148 ?ty149 ?tz150; (case tz150 => rfl); (case tx148 => exact pe_str); (case ty149 => (refine' pa_cons ?tx151 ?ty152 ?tz153; (case tz153 => rfl); (case tx151 => exact pe_str); (case ty152 => (refine' pa_cons ?tx154 ?ty155 ?tz156; (case tz156 => rfl); (case tx154 => exact pe_str); (case ty155 => (refine' pa_cons ?tx157 ?ty158 ?tz159; (case tz159 => rfl); (case tx157 => exact pe_str); (case ty158 => (refine' pa_cons ?tx160 ?ty161 ?tz162; (case tz162 => rfl); (case tx160 => exact pe_str); (case ty161 => (refine' pa_cons ?tx163 ?ty164 ?tz165; (case tz165 => rfl); (case tx163 => exact pe_str); (case ty164 => (refine' pa_cons ?tx166 ?ty167 ?tz168; (case tz168 => rfl); (case tx166 => exact pe_str); (case ty167 => (refine' pa_cons ?tx169 ?ty170 ?tz171; (case tz171 => rfl); (case tx169 => exact pe_str); (case ty170 => (refine' pa_cons ?tx172 ?ty173 ?tz174; (case tz174 => rfl); (case tx172 => exact pe_str); (case ty173 => (refine' pa_cons ?tx175 ?ty176 ?tz177; (case tz177 => rfl); (case tx175 => exact pe_str); (case ty176 => (refine' pa_cons ?tx178 ?ty179 ?tz180; (case tz180 => rfl); (case tx178 => exact pe_str); (case ty179 => exact pa_nil))))))))))))))))))))))))))))))); (case tu1 => exact (ps_set (i := 4) sc_law_statement.nd rfl (Or.inl rfl) (pe_callE (ok_law_number (K := K) T) (hr.mono (by decide)) pass0 rfl (pa_cons (pv 0) (pa_cons (pv 1) pa_nil)))))))
   refine r_st (σ' := [some _, some _, some _, some _, none, none, none, none, none, none, none, none]) rfl ?_
   walk_at "rk"
   refine ⟨a0, ns, _, rfl, hS, a1, by omega, ?_⟩
   generalize numAt ns at' = n
   walk_at "rk"
   rename_i lw1 nlw1 lw2 nlw2
   refine r_plusL (look_new upd_same nlw2) upd_same (Nat.le_of_ble_eq_true rfl) fun lw3 nlw3 => ?_
   obtain ⟨w', hw1, hw2⟩ := words_at (m := n % 16) (by omega) (by omega)
   have sB : Same H (upd (upd (upd H lw1 (.lst [.str "set", .str "sum", .str "copy", .str "call", .str "if", .str "while", .str "less", .str "minus", .str "try", .str "call", .str "product", .str "drop"])) lw2 (.lst [.str "give", .str "hand", .str "set", .str "sum"])) lw3 (.lst ([.str "set", .str "sum", .str "copy", .str "call", .str "if", .str "while", .str "less", .str "minus", .str "try", .str "call", .str "product", .str "drop"] ++ [.str "give", .str "hand", .str "set", .str "sum"]))) := (same_new nlw1).trans ((same_new nlw2).trans (same_new nlw3))
   have hlw : (upd (upd (upd H lw1 (.lst [.str "set", .str "sum", .str "copy", .str "call", .str "if", .str "while", .str "less", .str "minus", .str "try", .str "call", .str "product", .str "drop"])) lw2 (.lst [.str "give", .str "hand", .str "set", .str "sum"])) lw3 (.lst ([.str "set", .str "sum", .str "copy", .str "call", .str "if", .str "while", .str "less", .str "minus", .str "try", .str "call", .str "product", .str "drop"] ++ [.str "give", .str "hand", .str "set", .str "sum"]))) lw3 = some (.lst wordsV) := upd_same
   generalize (upd (upd (upd H lw1 (.lst [.str "set", .str "sum", .str "copy", .str "call", .str "if", .str "while", .str "less", .str "minus", .str "try", .str "call", .str "product", .str "drop"])) lw2 (.lst [.str "give", .str "hand", .str "set", .str "sum"])) lw3 (.lst ([.str "set", .str "sum", .str "copy", .str "call", .str "if", .str "while", .str "less", .str "minus", .str "try", .str "call", .str "product", .str "drop"] ++ [.str "give", .str "hand", .str "set", .str "sum"]))) = HB at sB hlw ⊢
   clear nlw1 nlw2 nlw3
   have hx : isN (n / 16 % 6) := ⟨by omega, by omega⟩
   have hy : isN (n / 96 % 6) := ⟨by omega, by omega⟩
   have hz : isN (n / 576 % 6) := ⟨by omega, by omega⟩
   have hlhB := sB _ _ hlh
   walk_at "rk"
   clear hw1 hlw
   refine r_lenL (SqL.of hlhB) ?_
   rw [List.length_map]
   have hl1 := hHd.one
   have hl3 := hHd.three
   walk_at "rk"
   have hf0 : 0 ≤ n / 3456 % (hd.length : Int) := Int.emod_nonneg _ (by omega)
   have hfl : n / 3456 % (hd.length : Int) < hd.length := Int.emod_lt_of_pos _ (by omega)
   generalize n / 16 % 6 = x at hx ⊢
   generalize n / 96 % 6 = y at hy ⊢
   generalize n / 576 % 6 = z at hz ⊢
   generalize n / 3456 % (hd.length : Int) = f' at hf0 hfl ⊢
   clear hl1 hl3
   obtain ⟨m, hm⟩ : ∃ m, hd[f'.toNat]? = some m := ⟨_, List.getElem?_eq_getElem (show f'.toNat < hd.length by omega)⟩
   have hm3 := hHd.val m (List.mem_of_getElem? hm)
   have hat : atI (hd.map V.int) f' = some (.int m) := by
     have := gI_at (xs := hd) hf0 (by omega)
     rw [this]
     unfold gI
     rw [List.getD_eq_getElem?_getD, hm]; rfl
   walk_at "rk"
   refine comp_range (fun i ys σ HQ => (∃ v, σ = [v, some (.int y), some (.int z)]) ∧ Same HB HQ ∧ ∃ ks : List Int, ys = ks.map V.int ∧ ks.length = i ∧ ∀ k ∈ ks, isN k) ⟨⟨_, rfl⟩, Same.refl _, [], rfl, rfl, (fun _ z => by cases z)⟩ ?_ ?_ ?_
   · rintro i ys σ HQ hi ⟨_, _, ks, rfl, e, _⟩
     rw [List.length_map, e]
     walk_at "small"
   · rintro i ys σ HQ hi ⟨⟨v, rfl⟩, s1, ks, rfl, hl, hk⟩
     walk_at "rd"
     refine ⟨⟨_, rfl⟩, s1, ks ++ [_], by rw [List.map_append]; rfl, by rw [List.length_append, hl]; rfl, fun x hx => ?_⟩
     rcases List.mem_append.mp hx with z | z
     · exact hk x z
     · rw [List.mem_singleton.mp z]; exact ⟨by omega, by omega⟩
   rintro ys σ HQ ⟨_, s8, nms, rfl, hnl, hnn⟩ ln nln
   have sC := sB.trans (s8.trans (same_new (o := .lst (nms.map V.int)) nln))
   have hln : (upd HQ ln (.lst (nms.map V.int))) ln = some (.lst (nms.map V.int)) := upd_same
   replace nln : H ln = none := none_same sB (none_same s8 nln)
   generalize (upd HQ ln (.lst (nms.map V.int))) = HC at sC hln ⊢
   have hfm : hd[f'.toNat]? = some (nms.length : Int) := by rw [hm]; exact congrArg some (by omega)
   clear sB s8 hlhB hat hm hnl hm3
   rcases hw2 with rfl | rfl | rfl | rfl | rfl | rfl | rfl | rfl | rfl | rfl | rfl | rfl | rfl
   · have hSc := Same.seq sC hS
     walk_at "rk"
     repeat (rename @Eq Bool _ _ => hzz; clear hzz)
     rename_i ti nti t4 nt4 tp ntp t2 nt2
     have nt1 : HC tp = none := (upd_none (upd_none ntp).1).1
     generalize zz : (upd (upd (upd (upd HC ti (.tup [.str "if", .str "while", .str "try"])) t4 (.tup [.str "sum", .str "minus", .str "product", .str "less"])) tp (.tup [.str "set", .int x, .int (cellAt ns at' % 4294967296)])) t2 (.tup [.ref tp, .int (at' + 1)])) = HF
     have sHF : Same HC HF := by rw [← zz]; exact (same_new nti).trans ((same_new nt4).trans ((same_new ntp).trans (same_new nt2)))
     have h_ti : HF ti = some (.tup [.str "if", .str "while", .str "try"]) := by rw [← zz]; exact look_new (look_new (look_new upd_same nt4) ntp) nt2
     have h_t4 : HF t4 = some (.tup [.str "sum", .str "minus", .str "product", .str "less"]) := by rw [← zz]; exact look_new (look_new upd_same ntp) nt2
     have h_tp : HF tp = some (.tup [.str "set", .int x, .int (cellAt ns at' % 4294967296)]) := by rw [← zz]; exact look_new upd_same nt2
     have h_t2 : HF t2 = some (.tup [.ref tp, .int (at' + 1)]) := by rw [← zz]; exact upd_same
     clear zz nti nt4 ntp nt2
     exact q t2 tp (.pl (.set x (cellAt ns at' % 4294967296))) (at' + 1) HF (sC.trans sHF) h_t2 (nw_at (none_same sC nt1) h_tp) (show (Sm.set x (cellAt ns at' % 4294967296)).ok from ⟨hx, by omega, by omega⟩) (by show ((1 : Nat) : Int) + 2 * at' ≤ 2 * (at' + 1); omega) (by omega) (by omega)
   · walk_at "rk"
     repeat (rename @Eq Bool _ _ => hzz; clear hzz)
     rename_i ti nti t4 nt4 tp ntp t2 nt2
     have nt1 : HC tp = none := (upd_none (upd_none ntp).1).1
     generalize zz : (upd (upd (upd (upd HC ti (.tup [.str "if", .str "while", .str "try"])) t4 (.tup [.str "sum", .str "minus", .str "product", .str "less"])) tp (.tup [.str "sum", .int x, .int y, .int z])) t2 (.tup [.ref tp, .int (at' + 1)])) = HF
     have sHF : Same HC HF := by rw [← zz]; exact (same_new nti).trans ((same_new nt4).trans ((same_new ntp).trans (same_new nt2)))
     have h_ti : HF ti = some (.tup [.str "if", .str "while", .str "try"]) := by rw [← zz]; exact look_new (look_new (look_new upd_same nt4) ntp) nt2
     have h_t4 : HF t4 = some (.tup [.str "sum", .str "minus", .str "product", .str "less"]) := by rw [← zz]; exact look_new (look_new upd_same ntp) nt2
     have h_tp : HF tp = some (.tup [.str "sum", .int x, .int y, .int z]) := by rw [← zz]; exact look_new upd_same nt2
     have h_t2 : HF t2 = some (.tup [.ref tp, .int (at' + 1)]) := by rw [← zz]; exact upd_same
     clear zz nti nt4 ntp nt2
     exact q t2 tp (.pl (.sum x y z)) (at' + 1) HF (sC.trans sHF) h_t2 (nw_at (none_same sC nt1) h_tp) (show (Sm.sum x y z).ok from ⟨hx, hy, hz⟩) (by show ((1 : Nat) : Int) + 2 * at' ≤ 2 * (at' + 1); omega) (by omega) (by omega)
   · walk_at "rk"
     repeat (rename @Eq Bool _ _ => hzz; clear hzz)
     rename_i ti nti tp ntp t2 nt2
     have nt1 : HC tp = none := (upd_none ntp).1
     generalize zz : (upd (upd (upd HC ti (.tup [.str "if", .str "while", .str "try"])) tp (.tup [.str "copy", .int x, .int y])) t2 (.tup [.ref tp, .int (at' + 1)])) = HF
     have sHF : Same HC HF := by rw [← zz]; exact (same_new nti).trans ((same_new ntp).trans (same_new nt2))
     have h_ti : HF ti = some (.tup [.str "if", .str "while", .str "try"]) := by rw [← zz]; exact look_new (look_new upd_same ntp) nt2
     have h_tp : HF tp = some (.tup [.str "copy", .int x, .int y]) := by rw [← zz]; exact look_new upd_same nt2
     have h_t2 : HF t2 = some (.tup [.ref tp, .int (at' + 1)]) := by rw [← zz]; exact upd_same
     clear zz nti ntp nt2
     exact q t2 tp (.pl (.copy x y)) (at' + 1) HF (sC.trans sHF) h_t2 (nw_at (none_same sC nt1) h_tp) (show (Sm.copy x y).ok from ⟨hx, hy⟩) (by show ((1 : Nat) : Int) + 2 * at' ≤ 2 * (at' + 1); omega) (by omega) (by omega)
   · walk_at "rk"
     repeat (rename @Eq Bool _ _ => hzz; clear hzz)
     rename_i ti nti tp ntp t2 nt2
     have nt1 : HC tp = none := (upd_none ntp).1
     generalize zz : (upd (upd (upd HC ti (.tup [.str "if", .str "while", .str "try"])) tp (.tup [.str "call", .int x, .int f', .ref ln])) t2 (.tup [.ref tp, .int (at' + 1)])) = HF
     have sHF : Same HC HF := by rw [← zz]; exact (same_new nti).trans ((same_new ntp).trans (same_new nt2))
     have h_ti : HF ti = some (.tup [.str "if", .str "while", .str "try"]) := by rw [← zz]; exact look_new (look_new upd_same ntp) nt2
     have h_tp : HF tp = some (.tup [.str "call", .int x, .int f', .ref ln]) := by rw [← zz]; exact look_new upd_same nt2
     have h_t2 : HF t2 = some (.tup [.ref tp, .int (at' + 1)]) := by rw [← zz]; exact upd_same
     clear zz nti ntp nt2
     exact q t2 tp (.call x f' nms true) (at' + 1) HF (sC.trans sHF) h_t2 (⟨ln, nw_at (none_same sC nt1) h_tp, nw_at nln (sHF _ _ hln)⟩) ⟨hx, hf0, hnn, hfm⟩ (by show ((1 : Nat) : Int) + 2 * at' ≤ 2 * (at' + 1); omega) (by omega) (by omega)
   · have hSc := Same.seq sC hS
     walk_at "rk"
     repeat (rename @Eq Bool _ _ => hzz; clear hzz)
     rename_i ti nti t4 nt4 tp ntp t2 nt2
     have nt1 : HC tp = none := (upd_none (upd_none ntp).1).1
     generalize zz : (upd (upd (upd (upd HC ti (.tup [.str "if", .str "while", .str "try"])) t4 (.tup [.str "sum", .str "minus", .str "product", .str "less"])) tp (.tup [.str "set", .int x, .int (cellAt ns at' % 4294967296)])) t2 (.tup [.ref tp, .int (at' + 1)])) = HF
     have sHF : Same HC HF := by rw [← zz]; exact (same_new nti).trans ((same_new nt4).trans ((same_new ntp).trans (same_new nt2)))
     have h_ti : HF ti = some (.tup [.str "if", .str "while", .str "try"]) := by rw [← zz]; exact look_new (look_new (look_new upd_same nt4) ntp) nt2
     have h_t4 : HF t4 = some (.tup [.str "sum", .str "minus", .str "product", .str "less"]) := by rw [← zz]; exact look_new (look_new upd_same ntp) nt2
     have h_tp : HF tp = some (.tup [.str "set", .int x, .int (cellAt ns at' % 4294967296)]) := by rw [← zz]; exact look_new upd_same nt2
     have h_t2 : HF t2 = some (.tup [.ref tp, .int (at' + 1)]) := by rw [← zz]; exact upd_same
     clear zz nti nt4 ntp nt2
     exact q t2 tp (.pl (.set x (cellAt ns at' % 4294967296))) (at' + 1) HF (sC.trans sHF) h_t2 (nw_at (none_same sC nt1) h_tp) (show (Sm.set x (cellAt ns at' % 4294967296)).ok from ⟨hx, by omega, by omega⟩) (by show ((1 : Nat) : Int) + 2 * at' ≤ 2 * (at' + 1); omega) (by omega) (by omega)
   · have hSc := Same.seq sC hS
     walk_at "rk"
     repeat (rename @Eq Bool _ _ => hzz; clear hzz)
     rename_i ti nti t4 nt4 tp ntp t2 nt2
     have nt1 : HC tp = none := (upd_none (upd_none ntp).1).1
     generalize zz : (upd (upd (upd (upd HC ti (.tup [.str "if", .str "while", .str "try"])) t4 (.tup [.str "sum", .str "minus", .str "product", .str "less"])) tp (.tup [.str "set", .int x, .int (cellAt ns at' % 4294967296)])) t2 (.tup [.ref tp, .int (at' + 1)])) = HF
     have sHF : Same HC HF := by rw [← zz]; exact (same_new nti).trans ((same_new nt4).trans ((same_new ntp).trans (same_new nt2)))
     have h_ti : HF ti = some (.tup [.str "if", .str "while", .str "try"]) := by rw [← zz]; exact look_new (look_new (look_new upd_same nt4) ntp) nt2
     have h_t4 : HF t4 = some (.tup [.str "sum", .str "minus", .str "product", .str "less"]) := by rw [← zz]; exact look_new (look_new upd_same ntp) nt2
     have h_tp : HF tp = some (.tup [.str "set", .int x, .int (cellAt ns at' % 4294967296)]) := by rw [← zz]; exact look_new upd_same nt2
     have h_t2 : HF t2 = some (.tup [.ref tp, .int (at' + 1)]) := by rw [← zz]; exact upd_same
     clear zz nti nt4 ntp nt2
     exact q t2 tp (.pl (.set x (cellAt ns at' % 4294967296))) (at' + 1) HF (sC.trans sHF) h_t2 (nw_at (none_same sC nt1) h_tp) (show (Sm.set x (cellAt ns at' % 4294967296)).ok from ⟨hx, by omega, by omega⟩) (by show ((1 : Nat) : Int) + 2 * at' ≤ 2 * (at' + 1); omega) (by omega) (by omega)
   · walk_at "rk"
     repeat (rename @Eq Bool _ _ => hzz; clear hzz)
     rename_i ti nti t4 nt4 tp ntp t2 nt2
     have nt1 : HC tp = none := (upd_none (upd_none ntp).1).1
     generalize zz : (upd (upd (upd (upd HC ti (.tup [.str "if", .str "while", .str "try"])) t4 (.tup [.str "sum", .str "minus", .str "product", .str "less"])) tp (.tup [.str "less", .int x, .int y, .int z])) t2 (.tup [.ref tp, .int (at' + 1)])) = HF
     have sHF : Same HC HF := by rw [← zz]; exact (same_new nti).trans ((same_new nt4).trans ((same_new ntp).trans (same_new nt2)))
     have h_ti : HF ti = some (.tup [.str "if", .str "while", .str "try"]) := by rw [← zz]; exact look_new (look_new (look_new upd_same nt4) ntp) nt2
     have h_t4 : HF t4 = some (.tup [.str "sum", .str "minus", .str "product", .str "less"]) := by rw [← zz]; exact look_new (look_new upd_same ntp) nt2
     have h_tp : HF tp = some (.tup [.str "less", .int x, .int y, .int z]) := by rw [← zz]; exact look_new upd_same nt2
     have h_t2 : HF t2 = some (.tup [.ref tp, .int (at' + 1)]) := by rw [← zz]; exact upd_same
     clear zz nti nt4 ntp nt2
     exact q t2 tp (.pl (.less x y z)) (at' + 1) HF (sC.trans sHF) h_t2 (nw_at (none_same sC nt1) h_tp) (show (Sm.less x y z).ok from ⟨hx, hy, hz⟩) (by show ((1 : Nat) : Int) + 2 * at' ≤ 2 * (at' + 1); omega) (by omega) (by omega)
   · walk_at "rk"
     repeat (rename @Eq Bool _ _ => hzz; clear hzz)
     rename_i ti nti t4 nt4 tp ntp t2 nt2
     have nt1 : HC tp = none := (upd_none (upd_none ntp).1).1
     generalize zz : (upd (upd (upd (upd HC ti (.tup [.str "if", .str "while", .str "try"])) t4 (.tup [.str "sum", .str "minus", .str "product", .str "less"])) tp (.tup [.str "minus", .int x, .int y, .int z])) t2 (.tup [.ref tp, .int (at' + 1)])) = HF
     have sHF : Same HC HF := by rw [← zz]; exact (same_new nti).trans ((same_new nt4).trans ((same_new ntp).trans (same_new nt2)))
     have h_ti : HF ti = some (.tup [.str "if", .str "while", .str "try"]) := by rw [← zz]; exact look_new (look_new (look_new upd_same nt4) ntp) nt2
     have h_t4 : HF t4 = some (.tup [.str "sum", .str "minus", .str "product", .str "less"]) := by rw [← zz]; exact look_new (look_new upd_same ntp) nt2
     have h_tp : HF tp = some (.tup [.str "minus", .int x, .int y, .int z]) := by rw [← zz]; exact look_new upd_same nt2
     have h_t2 : HF t2 = some (.tup [.ref tp, .int (at' + 1)]) := by rw [← zz]; exact upd_same
     clear zz nti nt4 ntp nt2
     exact q t2 tp (.pl (.minus x y z)) (at' + 1) HF (sC.trans sHF) h_t2 (nw_at (none_same sC nt1) h_tp) (show (Sm.minus x y z).ok from ⟨hx, hy, hz⟩) (by show ((1 : Nat) : Int) + 2 * at' ≤ 2 * (at' + 1); omega) (by omega) (by omega)
   · have hSc := Same.seq sC hS
     walk_at "rk"
     repeat (rename @Eq Bool _ _ => hzz; clear hzz)
     rename_i ti nti t4 nt4 tp ntp t2 nt2
     have nt1 : HC tp = none := (upd_none (upd_none ntp).1).1
     generalize zz : (upd (upd (upd (upd HC ti (.tup [.str "if", .str "while", .str "try"])) t4 (.tup [.str "sum", .str "minus", .str "product", .str "less"])) tp (.tup [.str "set", .int x, .int (cellAt ns at' % 4294967296)])) t2 (.tup [.ref tp, .int (at' + 1)])) = HF
     have sHF : Same HC HF := by rw [← zz]; exact (same_new nti).trans ((same_new nt4).trans ((same_new ntp).trans (same_new nt2)))
     have h_ti : HF ti = some (.tup [.str "if", .str "while", .str "try"]) := by rw [← zz]; exact look_new (look_new (look_new upd_same nt4) ntp) nt2
     have h_t4 : HF t4 = some (.tup [.str "sum", .str "minus", .str "product", .str "less"]) := by rw [← zz]; exact look_new (look_new upd_same ntp) nt2
     have h_tp : HF tp = some (.tup [.str "set", .int x, .int (cellAt ns at' % 4294967296)]) := by rw [← zz]; exact look_new upd_same nt2
     have h_t2 : HF t2 = some (.tup [.ref tp, .int (at' + 1)]) := by rw [← zz]; exact upd_same
     clear zz nti nt4 ntp nt2
     exact q t2 tp (.pl (.set x (cellAt ns at' % 4294967296))) (at' + 1) HF (sC.trans sHF) h_t2 (nw_at (none_same sC nt1) h_tp) (show (Sm.set x (cellAt ns at' % 4294967296)).ok from ⟨hx, by omega, by omega⟩) (by show ((1 : Nat) : Int) + 2 * at' ≤ 2 * (at' + 1); omega) (by omega) (by omega)
   · walk_at "rk"
     repeat (rename @Eq Bool _ _ => hzz; clear hzz)
     rename_i ti nti t4 nt4 tp ntp t2 nt2
     have nt1 : HC tp = none := (upd_none (upd_none ntp).1).1
     generalize zz : (upd (upd (upd (upd HC ti (.tup [.str "if", .str "while", .str "try"])) t4 (.tup [.str "sum", .str "minus", .str "product", .str "less"])) tp (.tup [.str "product", .int x, .int y, .int z])) t2 (.tup [.ref tp, .int (at' + 1)])) = HF
     have sHF : Same HC HF := by rw [← zz]; exact (same_new nti).trans ((same_new nt4).trans ((same_new ntp).trans (same_new nt2)))
     have h_ti : HF ti = some (.tup [.str "if", .str "while", .str "try"]) := by rw [← zz]; exact look_new (look_new (look_new upd_same nt4) ntp) nt2
     have h_t4 : HF t4 = some (.tup [.str "sum", .str "minus", .str "product", .str "less"]) := by rw [← zz]; exact look_new (look_new upd_same ntp) nt2
     have h_tp : HF tp = some (.tup [.str "product", .int x, .int y, .int z]) := by rw [← zz]; exact look_new upd_same nt2
     have h_t2 : HF t2 = some (.tup [.ref tp, .int (at' + 1)]) := by rw [← zz]; exact upd_same
     clear zz nti nt4 ntp nt2
     exact q t2 tp (.pl (.product x y z)) (at' + 1) HF (sC.trans sHF) h_t2 (nw_at (none_same sC nt1) h_tp) (show (Sm.product x y z).ok from ⟨hx, hy, hz⟩) (by show ((1 : Nat) : Int) + 2 * at' ≤ 2 * (at' + 1); omega) (by omega) (by omega)
   · walk_at "rk"
     repeat (rename @Eq Bool _ _ => hzz; clear hzz)
     rename_i ti nti tp ntp t2 nt2
     have nt1 : HC tp = none := (upd_none ntp).1
     generalize zz : (upd (upd (upd HC ti (.tup [.str "if", .str "while", .str "try"])) tp (.tup [.str "drop", .int x])) t2 (.tup [.ref tp, .int (at' + 1)])) = HF
     have sHF : Same HC HF := by rw [← zz]; exact (same_new nti).trans ((same_new ntp).trans (same_new nt2))
     have h_ti : HF ti = some (.tup [.str "if", .str "while", .str "try"]) := by rw [← zz]; exact look_new (look_new upd_same ntp) nt2
     have h_tp : HF tp = some (.tup [.str "drop", .int x]) := by rw [← zz]; exact look_new upd_same nt2
     have h_t2 : HF t2 = some (.tup [.ref tp, .int (at' + 1)]) := by rw [← zz]; exact upd_same
     clear zz nti ntp nt2
     exact q t2 tp (.drop x) (at' + 1) HF (sC.trans sHF) h_t2 (nw_at (none_same sC nt1) h_tp) hx (by show ((1 : Nat) : Int) + 2 * at' ≤ 2 * (at' + 1); omega) (by omega) (by omega)
   · walk_at "rk"
     repeat (rename @Eq Bool _ _ => hzz; clear hzz)
     rename_i ti nti tp ntp t2 nt2
     have nt1 : HC tp = none := (upd_none ntp).1
     generalize zz : (upd (upd (upd HC ti (.tup [.str "if", .str "while", .str "try"])) tp (.tup [.str "give", .int x])) t2 (.tup [.ref tp, .int (at' + 1)])) = HF
     have sHF : Same HC HF := by rw [← zz]; exact (same_new nti).trans ((same_new ntp).trans (same_new nt2))
     have h_ti : HF ti = some (.tup [.str "if", .str "while", .str "try"]) := by rw [← zz]; exact look_new (look_new upd_same ntp) nt2
     have h_tp : HF tp = some (.tup [.str "give", .int x]) := by rw [← zz]; exact look_new upd_same nt2
     have h_t2 : HF t2 = some (.tup [.ref tp, .int (at' + 1)]) := by rw [← zz]; exact upd_same
     clear zz nti ntp nt2
     exact q t2 tp (.pl (.give x)) (at' + 1) HF (sC.trans sHF) h_t2 (nw_at (none_same sC nt1) h_tp) (show (Sm.give x).ok from hx) (by show ((1 : Nat) : Int) + 2 * at' ≤ 2 * (at' + 1); omega) (by omega) (by omega)
   · walk_at "rk"
     repeat (rename @Eq Bool _ _ => hzz; clear hzz)
     rename_i ti nti
     refine r_tupLst (SqL.of (look_new hln nti)) fun lt nlt => ?_
     walk_at "rk"
     rename_i tp ntp t2 nt2
     have nt1 : HC tp = none := (upd_none (upd_none ntp).1).1
     have nl1 : HC lt = none := (upd_none nlt).1
     generalize zz : (upd (upd (upd (upd HC ti (.tup [.str "if", .str "while", .str "try"])) lt (.tup (nms.map V.int))) tp (.tup [.str "hand", .int f', .ref lt])) t2 (.tup [.ref tp, .int (at' + 1)])) = HF
     have sHF : Same HC HF := by rw [← zz]; exact (same_new nti).trans ((same_new nlt).trans ((same_new ntp).trans (same_new nt2)))
     have h_ti : HF ti = some (.tup [.str "if", .str "while", .str "try"]) := by rw [← zz]; exact look_new (look_new (look_new upd_same nlt) ntp) nt2
     have h_lt : HF lt = some (.tup (nms.map V.int)) := by rw [← zz]; exact look_new (look_new upd_same ntp) nt2
     have h_tp : HF tp = some (.tup [.str "hand", .int f', .ref lt]) := by rw [← zz]; exact look_new upd_same nt2
     have h_t2 : HF t2 = some (.tup [.ref tp, .int (at' + 1)]) := by rw [← zz]; exact upd_same
     clear zz nti nlt ntp nt2
     exact q t2 tp (.hand f' nms false) (at' + 1) HF (sC.trans sHF) h_t2 (⟨lt, nw_at (none_same sC nt1) h_tp, nw_at (none_same sC nl1) h_lt⟩) ⟨hf0, hnn, hfm⟩ (by show ((1 : Nat) : Int) + 2 * at' ≤ 2 * (at' + 1); omega) (by omega) (by omega)
theorem ok_law_block (T : Txt w K mg a) : FnE P w K mg base CX0 16 "_law_block" (spBk K 4) := (ok_law_blockS (ok_law_statementS (by decide) (ok_law_nestedS (by decide) (ok_law_blockS (ok_law_statementS (by decide) (ok_law_nestedS (by decide) (ok_law_blockS (ok_law_statementS (by decide) (ok_law_nestedS (by decide) (ok_law_blockS (ok_law_statementS (by decide) (ok_law_nestedS (by decide) (ok_law_blockS (ok_law_statement0 T) T) T) T) T) T) T) T) T) T) T) T) T) T)
theorem ok_are_names (T : Txt w K mg a) : FnE P w K mg base CX0 4 "are_names" spNms := by
 refine fnE_of (sp := spNms) 3 T.fn_are_names sc_are_names (fun vs H Q E h => ?_) (fun f cdv A outer s H vs Q E hr h => ?_)
 · obtain ⟨q', ns, l, rfl, _⟩ := h
   rfl
 · obtain ⟨q', ns, l, rfl, hq, hn, h3, q⟩ := h
   refine ⟨_, (pss_one (ps_ret (pe_and (pe_callB (call_isi2 (K := K) rfl) rfl T.z_isinstance b_isinstance (pa_cons (pv 0) (pa_cons (pe_tup (pa_cons (pe_bltn (v := .ty "list") rfl T.z_list b_list rfl) (pa_cons (pe_bltn (v := .ty "tuple") rfl T.z_tuple b_tuple rfl) pa_nil))) pa_nil))) (pe_one (pe_callB (call_allK (K := K) rfl rfl) rfl T.z_all b_all (pa_cons (pe_comp (own := ["thing"]) (fr := []) rfl ⟨rfl, (by walk_at "clok"), (by walk_at "frok"), rfl, (by decide +kernel), (by decide +kernel), rfl⟩ (pi_seqK (K := K) rfl (pv 0)) (fun _ _ _ _ => (pg_name (i := 0) (show List.Nodup [("thing" : Str)] from by decide +kernel) rfl (Or.inl rfl))) (fun _ _ _ _ => pts_nil) (fun _ _ _ _ => (pe_callE (ok_is_name (K := K) T) (hr.mono (by decide)) pass0 rfl (pa_cons (pv 0) pa_nil)))) pa_nil)))))), ?_⟩
   refine r_st (σ' := [some _]) rfl ?_
   walk_at "rd"
   rename_i t nt
   cases l with
   | true =>
     have hq : H q' = some (.lst (ns.map V.int)) := hq
     refine r_isi2 (SqT.of upd_same) (.inl ⟨_, look_new hq nt⟩) T.k_list_list T.k_tuple_list T.k_tuple_tuple ?_
     have hq1 := look_new (o := .tup [.ty "list", .ty "tuple"]) hq nt
     walk_at "rd"
     refine comp_mapL (α := Int) (xs := ns) (emb := V.int) (fun _ => .bl true) (fun σ => ∃ v, σ = [v]) (SqL.of hq1) (by walk_at "small") ⟨_, rfl⟩ ?_ ?_
     · rintro i x ys σ H1 hx cc s1 ⟨v, rfl⟩
       walk_at "rd"
       refine ⟨x, rfl, hn x (List.mem_of_getElem? hx), ?_⟩
       exact cc.next hx rfl s1 ⟨_, rfl⟩
     intro H1 s1 l2 nl2
     have s2 := (same_new (o := .tup [.ty "list", .ty "tuple"]) nt).trans (s1.trans (same_new (o := .lst (ns.map fun _ => V.bl true)) nl2))
     walk_at "rd"
     refine r_all (bs := ns.map fun _ => true) (by rw [List.map_map]; exact SqL.of upd_same) ?_
     rw [show (ns.map fun _ => true).all id = true from by rw [List.all_map]; exact List.all_eq_true.mpr fun _ _ => rfl]
     exact q _ s2
   | false =>
     have hq : H q' = some (.tup (ns.map V.int)) := hq
     refine r_isi2 (SqT.of upd_same) (.inr ⟨_, look_new hq nt⟩) T.k_list_list T.k_tuple_list T.k_tuple_tuple ?_
     have hq1 := look_new (o := .tup [.ty "list", .ty "tuple"]) hq nt
     walk_at "rd"
     refine comp_mapT (α := Int) (xs := ns) (emb := V.int) (fun _ => .bl true) (fun σ => ∃ v, σ = [v]) (SqT.of hq1) (by walk_at "small") ⟨_, rfl⟩ ?_ ?_
     · rintro i x ys σ H1 hx cc s1 ⟨v, rfl⟩
       walk_at "rd"
       refine ⟨x, rfl, hn x (List.mem_of_getElem? hx), ?_⟩
       exact cc.next hx rfl s1 ⟨_, rfl⟩
     intro H1 s1 l2 nl2
     have s2 := (same_new (o := .tup [.ty "list", .ty "tuple"]) nt).trans (s1.trans (same_new (o := .lst (ns.map fun _ => V.bl true)) nl2))
     walk_at "rd"
     refine r_all (bs := ns.map fun _ => true) (by rw [List.map_map]; exact SqL.of upd_same) ?_
     rw [show (ns.map fun _ => true).all id = true from by rw [List.all_map]; exact List.all_eq_true.mpr fun _ _ => rfl]
     exact q _ s2
theorem me_Run_call (T : Txt w K mg a)  : MethE P w K mg base CX0 4 a.C_Run "call" (spCallR a) := by
 refine methE_of (sp := (spCallR a)) 3 T.cl_Run T.m_Run_call sc_Run_call (fun vs H Q E h => ?_) (fun f cdv A outer s H vs Q E hr h => ?_)
 · obtain ⟨H0, HB, r, dr, bo, dg, v, mls, xs, lns, gs, bs, st, f', ns, rfl, _⟩ := h
   rfl
 · obtain ⟨H0, HB, r, dr, bo, dg, v, mls, xs, lns, gs, bs, st, f', ns, rfl, B, R, hf, hv, h3, hnv, nvd, h50, q⟩ := h
   obtain ⟨fr, hr', Fr⟩ := R.hr
   have f1 := Fr.doings
   have f2 := Fr.len
   have hdg := R.hg
   have hxl := R.lx
   refine ⟨_, (pss_one (ps_if (pt_cmpR op_gt (pe_callB (call_lenK (K := K) rfl) rfl T.z_len b_len (pa_cons (pe_fldK (K := K) rfl (pv 0)) pa_nil)) (pe_glob (v := .int 20) rfl T.g_TOP_CALLS.choose_spec ⟨_, rfl⟩) (nomark _)) (pss_one (ps_fldK (K := K) rfl (pv 0) (pe_tup (pa_cons pe_str pa_nil)))) (pss_one (ps_expr (pe_methK (P := P) (w := w) (K := K) (mg := mg) (base := base) (k := 3) ⟨rfl, rfl, rfl, rfl, rfl⟩ (pv 0) (hr.mono (by decide)) pass0 (pa_cons (pv 1) (pa_cons (pv 2) pa_nil))))))), ?_⟩
   refine r_st (σ' := [some _, some _, some _]) rfl ?_
   walk_at "rk"
   refine r_lenL (SqL.of hdg) ?_
   rw [List.length_map, hxl]
   walk_at "rd"
   refine ifDec (fun hh => ?_) (fun hh => ?_)
   · rw [if_pos (by omega)] at q
     walk_at "rd"
     rename_i t nt
     refine q _ ⟨⟨_, t, upd_same, look_hit, by rw [upd_ne (ne_of_none hr' nt).symm]; exact upd_same⟩, fun b o e n1 n2 => by rw [upd_ne n1]; exact look_new (R.kb b o e n1 n2) nt⟩
   · rw [if_neg (by omega)] at q
     have hfm : f' < mls.length := by rw [B.ll]; exact hf
     have hmf : mls[f']? = some mls[f'] := List.getElem?_eq_getElem hfm
     walk_at "rd"
     refine r_methV hr' (Fr.no _ (by decide +kernel)) ((me_Run_begin T).mono (by decide)) ?_
     walk_at "rd"
     refine ⟨r, dr, bo, dg, mls[f'], v, fr, st, ns, f', mls.map V.ref, xs.map V.ref, rfl, hr', Fr, B.boAt R.kb, by rw [List.getElem?_map, hmf]; rfl, hdg, by rw [List.length_map]; omega, hv, h3, nvd, fun x dx l fs' H1 nx nl nxl k1 hdg1 hx F' hl => ?_⟩
     walk_at "rd"
     exact q H1 ⟨_, _, R.push B nx nl (R.none B nx) (R.none B nl) k1 hdg1 ⟨dx, fs', mls[f'], hx, hmf, F', hl, padN_len (by omega), padN_val hnv⟩⟩
theorem ok_is_part (T : Txt w K mg a) : FnE P w K mg base CX0 5 "is_part" spPart := by
 refine fnE_of (sp := spPart) 4 T.fn_is_part sc_is_part (fun vs H Q E h => ?_) (fun f cdv A outer s H vs Q E hr h => ?_)
 · obtain ⟨v, n, k, rfl, _⟩ := h
   rfl
 · obtain ⟨v, n, k, rfl, h, q⟩ := h
   refine ⟨_, (pss_cons (ps_if (pt_cmpR (op_eqK (K := K) rfl hr.units) (pv 1) pe_str (nomark _)) (pss_one (ps_ret (pe_callE (ok_is_name (K := K) T) (hr.mono (by decide)) pass0 rfl (pa_cons (pv 0) pa_nil)))) pss_nil)
     (pss_cons (ps_if (pt_cmpR (op_eqK (K := K) rfl hr.units) (pv 1) pe_str (nomark _)) (pss_one (ps_ret (pe_callE (ok_is_up_to (K := K) T) (hr.mono (by decide)) pass0 rfl (pa_cons (pv 0) (pa_cons (pe_glob (v := .int 4294967295) rfl T.g_TOP_VALUE.choose_spec ⟨_, rfl⟩) pa_nil))))) pss_nil)
     (pss_cons (ps_if (pt_cmpR (op_eqK (K := K) rfl hr.units) (pv 1) pe_str (nomark _)) (pss_one (ps_ret (pe_callE (ok_is_up_to (K := K) T) (hr.mono (by decide)) pass0 rfl (pa_cons (pv 0) (pa_cons (pe_op op_sub (pv 2) pe_int) pa_nil))))) pss_nil)
     (pss_cons (ps_if (pt_cmpR (op_eqK (K := K) rfl hr.units) (pv 1) pe_str (nomark _)) (pss_one (ps_ret (pe_callE (ok_are_names (K := K) T) (hr.mono (by decide)) pass0 rfl (pa_cons (pv 0) pa_nil)))) pss_nil)
     (pss_one (ps_ret (pe_callB (call_isiK (K := K) rfl) rfl T.z_isinstance b_isinstance (pa_cons (pv 0) (pa_cons (pe_bltn (v := .ty "list") rfl T.z_list b_list rfl) pa_nil))))))))), ?_⟩
   refine r_st (σ' := [some _, some _, some _]) rfl ?_
   rcases h with ⟨rfl, i, rfl, hn⟩ | ⟨rfl, i, rfl, hv⟩ | ⟨rfl, i, rfl, h0, h1⟩ | ⟨rfl, q', ns, l, rfl, hq, hn, h3⟩ | ⟨rfl, q', us, rfl, hq⟩
   · walk_at "rd"
     refine ⟨_, rfl, hn, ?_⟩
     walk_at "rd"
     exact q _ (Same.refl _)
   · walk_at "rd"
     refine ⟨_, _, rfl, hv.1, hv.2, ?_⟩
     walk_at "rd"
     exact q _ (Same.refl _)
   · walk_at "rd"
     refine ⟨_, _, rfl, h0, h1, ?_⟩
     walk_at "rd"
     exact q _ (Same.refl _)
   · walk_at "rd"
     refine ⟨q', ns, l, rfl, hq, hn, h3, fun H1 s1 => ?_⟩
     walk_at "rd"
     exact q _ s1
   · walk_at "rd"
     exact q _ (Same.refl _)
theorem me_Run_make (T : Txt w K mg a)  : MethE P w K mg base CX0 5 a.C_Run "make" (spMakeR a) := by
 refine methE_of (sp := (spMakeR a)) 4 T.cl_Run T.m_Run_make sc_Run_make (fun vs H Q E h => ?_) (fun f cdv A outer s H vs Q E hr h => ?_)
 · obtain ⟨H0, HB, r, dr, bo, dg, x, ln, p, mls, xs, lns, gs, g, bs, st, m, rs, rfl, _⟩ := h
   rfl
 · obtain ⟨H0, HB, r, dr, bo, dg, x, ln, p, mls, xs, lns, gs, g, bs, st, m, rs, rfl, B, R, hp, ok, hmk, h40, q⟩ := h
   obtain ⟨fr, hr', Fr⟩ := R.hr
   have hdg := R.hg
   have f1 := Fr.doings
   have hglen : xs.length = gs.length := by have := R.lx; rw [List.length_append, List.length_append] at this; exact Nat.add_right_cancel this
   have hlr : lns.length = gs.length := by have := R.ll; rw [List.length_append, List.length_append] at this; exact Nat.add_right_cancel this
   obtain ⟨dx, fs', m', hx, hm, F', hln, h8, hvs⟩ := R.ds gs.length x ln _ (by rw [← hglen]; exact get_end) (by rw [← hlr]; exact get_end) get_end
   have hln : H ln = some (.lst (g.ns.map V.int)) := hln
   have h8 : g.ns.length = 8 := h8
   have hvs : ∀ v ∈ g.ns, isVal v := hvs
   have g1 := F'.names
   have g2 := F'.len
   have nxl : x ≠ ln := fun z => by rw [z, hln] at hx; cases hx
   have ngl : dg ≠ ln := fun z => by have := R.nl ln (List.mem_append_right _ (List.mem_singleton.mpr rfl)); obtain ⟨us, hg0⟩ := B.hg; rw [← z, hg0] at this; cases this
   refine ⟨_, (pss_cons (ps_set (i := 3) sc_Run_make.nd rfl (Or.inl rfl) (pe_ix (ix_K (K := K) rfl) (pv 2) pe_int (fun _ _ => rfl)))
     (pss_one (ps_if (pt_cmpR (op_eqK (K := K) rfl hr.units) (pv 3) pe_str (nomark _)) (pss_one (ps_if (pt_cmpR (op_eqK (K := K) rfl hr.units) (pe_ix (ix_K (K := K) rfl) (pe_fldK (K := K) rfl (pv 1)) (pe_ix (ix_K (K := K) rfl) (pv 2) pe_int (fun _ _ => rfl)) (fun _ _ => rfl)) pe_int (nomark _)) (pss_one (ps_fldK (K := K) rfl (pv 1) (pe_ix (ix_K (K := K) rfl) (pv 2) pe_int (fun _ _ => rfl)))) pss_nil)) (pss_one (ps_if (PW.pt (pw_or (pt_cmpR (op_eqK (K := K) rfl hr.units) (pv 3) pe_str (nomark _)) (pw_or1 (pt_cmpR (op_eqK (K := K) rfl hr.units) (pv 3) pe_str (nomark _))))) (pss_one (ps_fldK (K := K) rfl (pv 1) (pe_ix (ix_K (K := K) rfl) (pv 2) pe_int (fun _ _ => rfl)))) (pss_one (ps_if (pt_cmpR (op_eqK (K := K) rfl hr.units) (pv 3) pe_str (nomark _)) (pss_one (ps_expr (pe_methK (P := P) (w := w) (K := K) (mg := mg) (base := base) (k := 4) ⟨rfl, rfl, rfl, rfl, rfl⟩ (pv 0) (hr.mono (by decide)) pass0 (pa_cons (pe_ix (ix_K (K := K) rfl) (pv 2) pe_int (fun _ _ => rfl)) (pa_cons (pe_comp (own := ["name"]) (fr := [("doing", 1)]) rfl ⟨rfl, (by walk_at "clok"), (by walk_at "frok"), rfl, (by decide +kernel), (by decide +kernel), rfl⟩ (pi_seqK (K := K) rfl (pe_ix (ix_K (K := K) rfl) (pv 2) pe_int (fun _ _ => rfl))) (fun _ _ _ _ => (pg_name (i := 0) (show List.Nodup [("name" : Str), ("doing" : Str)] from by decide +kernel) rfl (Or.inl rfl))) (fun _ _ _ _ => pts_nil) (fun _ _ _ _ => (pe_ix (ix_K (K := K) rfl) (pe_fldK (K := K) rfl (pv 1)) (pv 0) (fun _ _ => rfl)))) pa_nil))))) (pss_one (ps_if (pt_cmpR (op_eqK (K := K) rfl hr.units) (pv 3) pe_str (nomark _)) (pss_cons (ps_expr (pe_bm0K (K := K) rfl PySem.F.plainAttrs_list PySem.F.slot_list_pop PySem.F.type_list_pop mt_pop (pe_fldK (K := K) rfl (pv 0))))
     (pss_one (ps_expr (pe_methK (P := P) (w := w) (K := K) (mg := mg) (base := base) (k := 3) ⟨rfl, rfl, rfl, rfl, rfl⟩ (pv 0) (hr.mono (by decide)) pass0 (pa_cons (pe_ix (ix_K (K := K) rfl) (pv 2) pe_int (fun _ _ => rfl)) (pa_cons (pe_comp (own := ["name"]) (fr := [("doing", 1)]) rfl ⟨rfl, (by walk_at "clok"), (by walk_at "frok"), rfl, (by decide +kernel), (by decide +kernel), rfl⟩ (pi_seqK (K := K) rfl (pe_ix (ix_K (K := K) rfl) (pv 2) pe_int (fun _ _ => rfl))) (fun _ _ _ _ => (pg_name (i := 0) (show List.Nodup [("name" : Str), ("doing" : Str)] from by decide +kernel) rfl (Or.inl rfl))) (fun _ _ _ _ => pts_nil) (fun _ _ _ _ => (pe_ix (ix_K (K := K) rfl) (pe_fldK (K := K) rfl (pv 1)) (pv 0) (fun _ _ => rfl)))) pa_nil)))))) (pss_one (ps_if (PW.pt (pw_or (pt_cmpR (op_eqK (K := K) rfl hr.units) (pv 3) pe_str (nomark _)) (pw_or1 (pt_cmpR (op_eqK (K := K) rfl hr.units) (pv 3) pe_str (nomark _))))) (pss_one (ps_expr (pe_methK (P := P) (w := w) (K := K) (mg := mg) (base := base) (k := 2) ⟨rfl, rfl, rfl, rfl, rfl⟩ (pv 0) (hr.mono (by decide)) pass0 (pa_cons (pe_ix (ix_K (K := K) rfl) (pe_fldK (K := K) rfl (pv 1)) (pe_ix (ix_K (K := K) rfl) (pv 2) pe_int (fun _ _ => rfl)) (fun _ _ => rfl)) pa_nil)))) (pss_one (ps_if (pt_cmpR (op_eqK (K := K) rfl hr.units) (pv 3) pe_str (nomark _)) (pss_one (ps_expr (pe_methK (P := P) (w := w) (K := K) (mg := mg) (base := base) (k := 2) ⟨rfl, rfl, rfl, rfl, rfl⟩ (pv 0) (hr.mono (by decide)) pass0 (pa_cons (pe_ix (ix_K (K := K) rfl) (pe_fldK (K := K) rfl (pv 1)) (pe_ix (ix_K (K := K) rfl) (pv 2) pe_int (fun _ _ => rfl)) (fun _ _ => rfl)) pa_nil)))) (pss_one (ps_asg (pe_callE (ok_reckoned (K := K) T) (hr.mono (by decide)) pass0 rfl (pa_cons (pv 2) (pa_cons (pe_fldK (K := K) rfl (pv 1)) pa_nil))) (pg_sub (pe_fldK (K := K) rfl (pv 1)) (pe_ix (ix_K (K := K) rfl) (pv 2) pe_int (fun _ _ => rfl)) set_list)))))))))))))))), ?_⟩
   refine r_st (σ' := [some _, some _, some _, none]) rfl ?_
   cases m with
   | sm s =>
     rcases ok with ok | rfl | rfl
     · cases s with
       | set x v =>
         have hp : H p = some (.tup [.str "set", .int x, .int v]) := hp
         obtain ⟨⟨o0, o1⟩, o2, o3⟩ := id ok
         cases hmk
         walk_at "rd"
         refine ⟨p, ln, .set x v, g.ns, rfl, hp, True.intro, ok, hln, h8, hvs, ?_⟩
         walk_at "rd"
         exact q _ ⟨_, _, R.top B (fun b o e n1 n2 => by rw [upd_ne n2]; exact e) ⟨dx, fs', m', by rw [upd_ne nxl]; exact hx, hm, F', upd_same, by show (sI _ _ _).length = 8; rw [sI_len]; exact h8, sI_vals hvs (Sm.isval hvs ok)⟩⟩
       | copy x y =>
         have hp : H p = some (.tup [.str "copy", .int x, .int y]) := hp
         obtain ⟨⟨o0, o1⟩, o2, o3⟩ := id ok
         cases hmk
         walk_at "rd"
         refine ⟨p, ln, .copy x y, g.ns, rfl, hp, True.intro, ok, hln, h8, hvs, ?_⟩
         walk_at "rd"
         exact q _ ⟨_, _, R.top B (fun b o e n1 n2 => by rw [upd_ne n2]; exact e) ⟨dx, fs', m', by rw [upd_ne nxl]; exact hx, hm, F', upd_same, by show (sI _ _ _).length = 8; rw [sI_len]; exact h8, sI_vals hvs (Sm.isval hvs ok)⟩⟩
       | sum x y z =>
         have hp : H p = some (.tup [.str "sum", .int x, .int y, .int z]) := hp
         obtain ⟨⟨o0, o1⟩, ⟨o2, o3⟩, o4, o5⟩ := id ok
         cases hmk
         walk_at "rd"
         refine ⟨p, ln, .sum x y z, g.ns, rfl, hp, True.intro, ok, hln, h8, hvs, ?_⟩
         walk_at "rd"
         exact q _ ⟨_, _, R.top B (fun b o e n1 n2 => by rw [upd_ne n2]; exact e) ⟨dx, fs', m', by rw [upd_ne nxl]; exact hx, hm, F', upd_same, by show (sI _ _ _).length = 8; rw [sI_len]; exact h8, sI_vals hvs (Sm.isval hvs ok)⟩⟩
       | minus x y z =>
         have hp : H p = some (.tup [.str "minus", .int x, .int y, .int z]) := hp
         obtain ⟨⟨o0, o1⟩, ⟨o2, o3⟩, o4, o5⟩ := id ok
         cases hmk
         walk_at "rd"
         refine ⟨p, ln, .minus x y z, g.ns, rfl, hp, True.intro, ok, hln, h8, hvs, ?_⟩
         walk_at "rd"
         exact q _ ⟨_, _, R.top B (fun b o e n1 n2 => by rw [upd_ne n2]; exact e) ⟨dx, fs', m', by rw [upd_ne nxl]; exact hx, hm, F', upd_same, by show (sI _ _ _).length = 8; rw [sI_len]; exact h8, sI_vals hvs (Sm.isval hvs ok)⟩⟩
       | product x y z =>
         have hp : H p = some (.tup [.str "product", .int x, .int y, .int z]) := hp
         obtain ⟨⟨o0, o1⟩, ⟨o2, o3⟩, o4, o5⟩ := id ok
         cases hmk
         walk_at "rd"
         refine ⟨p, ln, .product x y z, g.ns, rfl, hp, True.intro, ok, hln, h8, hvs, ?_⟩
         walk_at "rd"
         exact q _ ⟨_, _, R.top B (fun b o e n1 n2 => by rw [upd_ne n2]; exact e) ⟨dx, fs', m', by rw [upd_ne nxl]; exact hx, hm, F', upd_same, by show (sI _ _ _).length = 8; rw [sI_len]; exact h8, sI_vals hvs (Sm.isval hvs ok)⟩⟩
       | less x y z =>
         have hp : H p = some (.tup [.str "less", .int x, .int y, .int z]) := hp
         obtain ⟨⟨o0, o1⟩, ⟨o2, o3⟩, o4, o5⟩ := id ok
         cases hmk
         walk_at "rd"
         refine ⟨p, ln, .less x y z, g.ns, rfl, hp, True.intro, ok, hln, h8, hvs, ?_⟩
         walk_at "rd"
         exact q _ ⟨_, _, R.top B (fun b o e n1 n2 => by rw [upd_ne n2]; exact e) ⟨dx, fs', m', by rw [upd_ne nxl]; exact hx, hm, F', upd_same, by show (sI _ _ _).length = 8; rw [sI_len]; exact h8, sI_vals hvs (Sm.isval hvs ok)⟩⟩
       | give y =>
         obtain ⟨o0, o1⟩ : isN y := ok
         have hp : H p = some (.tup [.str "give", .int y]) := hp
         have hmk : leaveM bs st gs (gI g.ns y) = some rs := hmk
         walk_at "rd"
         refine r_methV hr' (Fr.no _ (by decide +kernel)) ((me_Run_leave T).mono (by decide)) ?_
         walk_at "rd"
         refine ⟨H0, HB, r, dr, bo, dg, x, ln, mls, xs, lns, gs, _, bs, st, _, rs, rfl, B, R, gI_any hvs _, hmk, by omega, fun H1 D1 => ?_⟩
         walk_at "rd"
         exact q H1 D1
       | leave y => exact ok.elim
     · skip
       have hp : H p = some (.tup [.str "leave", .int 6]) := hp
       have hmk : leaveM bs st gs (gI g.ns 6) = some rs := hmk
       walk_at "rd"
       refine r_methV hr' (Fr.no _ (by decide +kernel)) ((me_Run_leave T).mono (by decide)) ?_
       walk_at "rd"
       refine ⟨H0, HB, r, dr, bo, dg, x, ln, mls, xs, lns, gs, _, bs, st, _, rs, rfl, B, R, gI_any hvs _, hmk, by omega, fun H1 D1 => ?_⟩
       walk_at "rd"
       exact q H1 D1
     · skip
       have hp : H p = some (.tup [.str "leave", .int 7]) := hp
       have hmk : leaveM bs st gs (gI g.ns 7) = some rs := hmk
       walk_at "rd"
       refine r_methV hr' (Fr.no _ (by decide +kernel)) ((me_Run_leave T).mono (by decide)) ?_
       walk_at "rd"
       refine ⟨H0, HB, r, dr, bo, dg, x, ln, mls, xs, lns, gs, _, bs, st, _, rs, rfl, B, R, gI_any hvs _, hmk, by omega, fun H1 D1 => ?_⟩
       walk_at "rd"
       exact q H1 D1
   | call y f' ns l =>
     obtain ⟨y0, y6, f0, fl, okn, ok3⟩ := ok
     obtain ⟨fn, rfl⟩ : ∃ n : Nat, f' = n := ⟨f'.toNat, by omega⟩
     obtain ⟨q', hp, hq0⟩ := hp
     have hmk : (if 20 < gs.length + 1 then some (Rs.ans .deep) else some (Rs.run st (gs ++ [{ g with k := g.k + 1 }, ⟨fn, 0, padN (ns.map (gI g.ns))⟩]))) = some rs := hmk
     have hmk2 : (if 20 < gs.length + 1 then (Rs.ans .deep) else (Rs.run st (gs ++ [{ g with k := g.k + 1 }, ⟨fn, 0, padN (ns.map (gI g.ns))⟩]))) = rs := by split at hmk <;> (rename_i h; first | rw [if_pos h] | rw [if_neg h]) <;> exact Option.some.inj hmk
     clear hmk
     subst hmk2
     cases l with
     | true =>
       have hq : H q' = some (.lst (ns.map V.int)) := B.h0At R.kb hq0
       walk_at "rd"
       refine r_methV hr' (Fr.no _ (by decide +kernel)) ((me_Run_call T).mono (by decide)) ?_
       walk_at "rd"
       refine comp_mapL (α := Int) (xs := ns) (emb := V.int) (fun n => .int (gI g.ns n)) (fun σ => ∃ v, σ = [v, some (.ref x)]) (SqL.of hq) (by walk_at "small") ⟨_, rfl⟩ ?_ ?_
       · rintro i n ys σ H2 hn cc s2 ⟨v, rfl⟩
         obtain ⟨n0, n5⟩ := okn n (List.mem_of_getElem? hn)
         have hx2 := s2 _ _ hx
         have hln2 := s2 _ _ hln
         walk_at "rd"
         exact cc.next hn rfl (by walk_at "same") ⟨_, rfl⟩
       intro H2 s2 lv nlv
       rw [map_int]
       have s3 := s2.trans (same_new (o := .lst ((ns.map (gI g.ns)).map V.int)) nlv)
       have hlv : (upd H2 lv (.lst ((ns.map (gI g.ns)).map V.int))) lv = some (.lst ((ns.map (gI g.ns)).map V.int)) := upd_same
       have nvd : lv ≠ dg := (ne_of_none (s2 _ _ hdg) nlv).symm
       generalize (upd H2 lv (.lst ((ns.map (gI g.ns)).map V.int))) = H3 at s3 hlv ⊢
       have vv : ∀ y ∈ ns.map (gI g.ns), isVal y := fun y hy => by
         obtain ⟨n, _, rfl⟩ := List.mem_map.mp hy
         exact gI_any hvs n
       have vl : (ns.map (gI g.ns)).length ≤ 3 := by rw [List.length_map]; exact ok3
       walk_at "rd"
       refine ⟨H0, HB, r, dr, bo, dg, lv, mls, xs ++ [x], lns ++ [ln], gs ++ [{ g with k := g.k + 1 }], bs, st, fn, ns.map (gI g.ns), rfl, B, R.same s3, by omega, hlv, vl, vv, nvd, by rw [List.length_append]; show _ + 1 ≤ 50; omega, fun H4 D4 => ?_⟩
       rw [List.length_append, List.append_assoc] at D4
       have D4 : RsAt a HB H4 r dr bo dg mls (if 20 < gs.length + 1 then .ans .deep else .run st (gs ++ [{ g with k := g.k + 1 }, ⟨fn, 0, padN (ns.map (gI g.ns))⟩])) := D4
       walk_at "rd"
       exact q H4 D4
     | false =>
       have hq : H q' = some (.tup (ns.map V.int)) := B.h0At R.kb hq0
       walk_at "rd"
       refine r_methV hr' (Fr.no _ (by decide +kernel)) ((me_Run_call T).mono (by decide)) ?_
       walk_at "rd"
       refine comp_mapT (α := Int) (xs := ns) (emb := V.int) (fun n => .int (gI g.ns n)) (fun σ => ∃ v, σ = [v, some (.ref x)]) (SqT.of hq) (by walk_at "small") ⟨_, rfl⟩ ?_ ?_
       · rintro i n ys σ H2 hn cc s2 ⟨v, rfl⟩
         obtain ⟨n0, n5⟩ := okn n (List.mem_of_getElem? hn)
         have hx2 := s2 _ _ hx
         have hln2 := s2 _ _ hln
         walk_at "rd"
         exact cc.next hn rfl (by walk_at "same") ⟨_, rfl⟩
       intro H2 s2 lv nlv
       rw [map_int]
       have s3 := s2.trans (same_new (o := .lst ((ns.map (gI g.ns)).map V.int)) nlv)
       have hlv : (upd H2 lv (.lst ((ns.map (gI g.ns)).map V.int))) lv = some (.lst ((ns.map (gI g.ns)).map V.int)) := upd_same
       have nvd : lv ≠ dg := (ne_of_none (s2 _ _ hdg) nlv).symm
       generalize (upd H2 lv (.lst ((ns.map (gI g.ns)).map V.int))) = H3 at s3 hlv ⊢
       have vv : ∀ y ∈ ns.map (gI g.ns), isVal y := fun y hy => by
         obtain ⟨n, _, rfl⟩ := List.mem_map.mp hy
         exact gI_any hvs n
       have vl : (ns.map (gI g.ns)).length ≤ 3 := by rw [List.length_map]; exact ok3
       walk_at "rd"
       refine ⟨H0, HB, r, dr, bo, dg, lv, mls, xs ++ [x], lns ++ [ln], gs ++ [{ g with k := g.k + 1 }], bs, st, fn, ns.map (gI g.ns), rfl, B, R.same s3, by omega, hlv, vl, vv, nvd, by rw [List.length_append]; show _ + 1 ≤ 50; omega, fun H4 D4 => ?_⟩
       rw [List.length_append, List.append_assoc] at D4
       have D4 : RsAt a HB H4 r dr bo dg mls (if 20 < gs.length + 1 then .ans .deep else .run st (gs ++ [{ g with k := g.k + 1 }, ⟨fn, 0, padN (ns.map (gI g.ns))⟩])) := D4
       walk_at "rd"
       exact q H4 D4
   | hand f' ns l =>
     obtain ⟨f0, fl, okn, ok3⟩ := ok
     obtain ⟨fn, rfl⟩ : ∃ n : Nat, f' = n := ⟨f'.toNat, by omega⟩
     obtain ⟨q', hp, hq0⟩ := hp
     have hmk : some (Rs.run st (gs ++ [⟨fn, 0, padN (ns.map (gI g.ns))⟩])) = some rs := hmk
     cases hmk
     have hfm : fn < mls.length := by rw [B.ll]; omega
     have hmf : mls[fn]? = some mls[fn] := List.getElem?_eq_getElem hfm
     cases l with
     | true =>
       have hq : H q' = some (.lst (ns.map V.int)) := B.h0At R.kb hq0
       walk_at "rd"
       refine r_pop (xs := xs.map V.ref) (by rw [hdg, List.map_append]; rfl) ?_
       have R1 := R.pop B
       have kp : ∀ b o, H b = some o → b ≠ dg → (upd H dg (.lst (xs.map V.ref))) b = some o := fun b o e n => by rw [upd_ne n]; exact e
       have hx1 := kp _ _ hx (fun z => by rw [z, hdg] at hx; cases hx)
       have hln1 := kp _ _ hln ngl.symm
       have hp1 := kp _ _ hp (fun z => by rw [z, hdg] at hp; cases hp)
       have hq1 := kp _ _ hq (ne_of_none hq0 B.h2)
       generalize (upd H dg (.lst (xs.map V.ref))) = H1 at R1 hx1 hln1 hp1 hq1 ⊢
       have hdg1 := R1.hg
       obtain ⟨fr1, hr1, Fr1⟩ := R1.hr
       walk_at "rd"
       refine r_methV hr1 (Fr1.no _ (by decide +kernel)) ((me_Run_begin T).mono (by decide)) ?_
       walk_at "rd"
       refine comp_mapL (α := Int) (xs := ns) (emb := V.int) (fun n => .int (gI g.ns n)) (fun σ => ∃ v, σ = [v, some (.ref x)]) (SqL.of hq1) (by walk_at "small") ⟨_, rfl⟩ ?_ ?_
       · rintro i n ys σ H2 hn cc s2 ⟨v, rfl⟩
         obtain ⟨n0, n5⟩ := okn n (List.mem_of_getElem? hn)
         have hx2 := s2 _ _ hx1
         have hln2 := s2 _ _ hln1
         walk_at "rd"
         exact cc.next hn rfl (by walk_at "same") ⟨_, rfl⟩
       intro H2 s2 lv nlv
       rw [map_int]
       have s3 := s2.trans (same_new (o := .lst ((ns.map (gI g.ns)).map V.int)) nlv)
       have hlv : (upd H2 lv (.lst ((ns.map (gI g.ns)).map V.int))) lv = some (.lst ((ns.map (gI g.ns)).map V.int)) := upd_same
       have nvd : lv ≠ dg := (ne_of_none (s2 _ _ hdg1) nlv).symm
       generalize (upd H2 lv (.lst ((ns.map (gI g.ns)).map V.int))) = H3 at s3 hlv ⊢
       have vv : ∀ y ∈ ns.map (gI g.ns), isVal y := fun y hy => by
         obtain ⟨n, _, rfl⟩ := List.mem_map.mp hy
         exact gI_any hvs n
       have vl : (ns.map (gI g.ns)).length ≤ 3 := by rw [List.length_map]; exact ok3
       have R3 := R1.same s3
       obtain ⟨fr3, hr3, Fr3⟩ := R3.hr
       walk_at "rd"
       refine ⟨r, dr, bo, dg, mls[fn], lv, fr3, st, ns.map (gI g.ns), fn, mls.map V.ref, xs.map V.ref, rfl, hr3, Fr3, B.boAt R3.kb, by rw [List.getElem?_map, hmf]; rfl, R3.hg, by rw [List.length_map]; omega, hlv, vl, nvd, fun y dy l4 fs4 H4 ny nl nyl k4 hdg4 hy F4 hl4 => ?_⟩
       walk_at "rd"
       exact q H4 ⟨_, _, R3.push B ny nl (R3.none B ny) (R3.none B nl) k4 hdg4 ⟨dy, fs4, mls[fn], hy, hmf, F4, hl4, padN_len (by omega), padN_val vv⟩⟩
     | false =>
       have hq : H q' = some (.tup (ns.map V.int)) := B.h0At R.kb hq0
       walk_at "rd"
       refine r_pop (xs := xs.map V.ref) (by rw [hdg, List.map_append]; rfl) ?_
       have R1 := R.pop B
       have kp : ∀ b o, H b = some o → b ≠ dg → (upd H dg (.lst (xs.map V.ref))) b = some o := fun b o e n => by rw [upd_ne n]; exact e
       have hx1 := kp _ _ hx (fun z => by rw [z, hdg] at hx; cases hx)
       have hln1 := kp _ _ hln ngl.symm
       have hp1 := kp _ _ hp (fun z => by rw [z, hdg] at hp; cases hp)
       have hq1 := kp _ _ hq (ne_of_none hq0 B.h2)
       generalize (upd H dg (.lst (xs.map V.ref))) = H1 at R1 hx1 hln1 hp1 hq1 ⊢
       have hdg1 := R1.hg
       obtain ⟨fr1, hr1, Fr1⟩ := R1.hr
       walk_at "rd"
       refine r_methV hr1 (Fr1.no _ (by decide +kernel)) ((me_Run_begin T).mono (by decide)) ?_
       walk_at "rd"
       refine comp_mapT (α := Int) (xs := ns) (emb := V.int) (fun n => .int (gI g.ns n)) (fun σ => ∃ v, σ = [v, some (.ref x)]) (SqT.of hq1) (by walk_at "small") ⟨_, rfl⟩ ?_ ?_
       · rintro i n ys σ H2 hn cc s2 ⟨v, rfl⟩
         obtain ⟨n0, n5⟩ := okn n (List.mem_of_getElem? hn)
         have hx2 := s2 _ _ hx1
         have hln2 := s2 _ _ hln1
         walk_at "rd"
         exact cc.next hn rfl (by walk_at "same") ⟨_, rfl⟩
       intro H2 s2 lv nlv
       rw [map_int]
       have s3 := s2.trans (same_new (o := .lst ((ns.map (gI g.ns)).map V.int)) nlv)
       have hlv : (upd H2 lv (.lst ((ns.map (gI g.ns)).map V.int))) lv = some (.lst ((ns.map (gI g.ns)).map V.int)) := upd_same
       have nvd : lv ≠ dg := (ne_of_none (s2 _ _ hdg1) nlv).symm
       generalize (upd H2 lv (.lst ((ns.map (gI g.ns)).map V.int))) = H3 at s3 hlv ⊢
       have vv : ∀ y ∈ ns.map (gI g.ns), isVal y := fun y hy => by
         obtain ⟨n, _, rfl⟩ := List.mem_map.mp hy
         exact gI_any hvs n
       have vl : (ns.map (gI g.ns)).length ≤ 3 := by rw [List.length_map]; exact ok3
       have R3 := R1.same s3
       obtain ⟨fr3, hr3, Fr3⟩ := R3.hr
       walk_at "rd"
       refine ⟨r, dr, bo, dg, mls[fn], lv, fr3, st, ns.map (gI g.ns), fn, mls.map V.ref, xs.map V.ref, rfl, hr3, Fr3, B.boAt R3.kb, by rw [List.getElem?_map, hmf]; rfl, R3.hg, by rw [List.length_map]; omega, hlv, vl, nvd, fun y dy l4 fs4 H4 ny nl nyl k4 hdg4 hy F4 hl4 => ?_⟩
       walk_at "rd"
       exact q H4 ⟨_, _, R3.push B ny nl (R3.none B ny) (R3.none B nl) k4 hdg4 ⟨dy, fs4, mls[fn], hy, hmf, F4, hl4, padN_len (by omega), padN_val vv⟩⟩
   | drop y =>
     obtain ⟨o0, o1⟩ : isN y := ok
     have hp : H p = some (.tup [.str "drop", .int y]) := hp
     have hmk : dropM bs st (gI g.ns y) ({ g with k := g.k + 1 } :: gs.reverse) = some rs := hmk
     walk_at "rd"
     refine r_methV hr' (Fr.no _ (by decide +kernel)) ((me_Run_drop T).mono (by decide)) ?_
     walk_at "rd"
     refine ⟨H0, HB, r, dr, bo, dg, mls, xs ++ [x], lns ++ [ln], gs ++ [{ g with k := g.k + 1 }], bs, st, _, rs, rfl, B, R, gI_any hvs _, by rw [List.reverse_append]; exact hmk, by rw [List.length_append]; show _ + 1 ≤ 50; omega, fun H1 D1 => ?_⟩
     walk_at "rd"
     exact q H1 D1
   | test y o =>
     obtain ⟨o0, o1⟩ : isN y := ok
     have hp : H p = some (.tup [.str "test", .int y, .int (o : Int)]) := hp
     have hmk : some (Rs.run st (gs ++ [if gI g.ns y = 0 then { g with k := o } else { g with k := g.k + 1 }])) = some rs := hmk
     cases hmk
     walk_at "rd"
     refine ifInt (fun hh => ?_) (fun hh => ?_)
     · rw [if_pos hh] at q
       walk_at "rd"
       exact q _ ⟨_, _, R.top B (fun b o e n1 n2 => by rw [upd_ne n1]; exact e) ⟨dx, _, m', upd_same, hm, F'.setMark _, by rw [upd_ne nxl.symm]; exact hln, h8, hvs⟩⟩
     · rw [if_neg hh] at q
       walk_at "rd"
       exact q _ ⟨_, _, R⟩
   | go o =>
     have hp : H p = some (.tup [.str "go", .int (o : Int)]) := hp
     have hmk : some (Rs.run st (gs ++ [{ g with k := o }])) = some rs := hmk
     cases hmk
     walk_at "rd"
     exact q _ ⟨_, _, R.top B (fun b o e n1 n2 => by rw [upd_ne n1]; exact e) ⟨dx, _, m', upd_same, hm, F'.setMark _, by rw [upd_ne nxl.symm]; exact hln, h8, hvs⟩⟩
   | tr o =>
     have hp : H p = some (.tup [.str "try", .int (o : Int)]) := hp
     have hmk : some (Rs.run st (gs ++ [{ g with k := o }])) = some rs := hmk
     cases hmk
     walk_at "rd"
     exact q _ ⟨_, _, R.top B (fun b o e n1 n2 => by rw [upd_ne n1]; exact e) ⟨dx, _, m', upd_same, hm, F'.setMark _, by rw [upd_ne nxl.symm]; exact hln, h8, hvs⟩⟩
   | land y => cases hmk
theorem ok_is_statement (T : Txt w K mg a) : FnE P w K mg base CX0 6 "is_statement" spStm := by
 refine fnE_of (sp := spStm) 5 T.fn_is_statement sc_is_statement (fun vs H Q E h => ?_) (fun f cdv A outer s H vs Q E hr h => ?_)
 · obtain ⟨p, h, d, s, hd, rfl, _⟩ := h
   rfl
 · obtain ⟨p, h, d, s, hd, rfl, hst, hok, hh, h3, h8, q⟩ := h
   cases d with
   | zero => exact hst.elim
   | succ d =>
   obtain ⟨w', xs, ls, bs, F⟩ := hst.info h3 hok
   obtain ⟨kvs, C, hkv⟩ := parts_of T
   obtain ⟨qk, hqk, tk⟩ := hkv _ _ F.kd
   have hp := F.hp
   have fw := F.few
   have hat0 := at_head (.str w') (xs.map (·.1))
   have hln : (V.str w' :: xs.map (·.1)).length = xs.length + 1 := by rw [List.length_cons, List.length_map]
   refine ⟨_, (pss_cons (ps_if (PW.pt (pw_or (pt_not (pt_truK (K := K) rfl (pe_callB (call_isiK (K := K) rfl) rfl T.z_isinstance b_isinstance (pa_cons (pv 0) (pa_cons (pe_bltn (v := .ty "tuple") rfl T.z_tuple b_tuple rfl) pa_nil))))) (pw_or (pt_cmpR (op_eqK (K := K) rfl hr.units) (pe_callB (call_lenK (K := K) rfl) rfl T.z_len b_len (pa_cons (pv 0) pa_nil)) pe_int (nomark _)) (pw_or1 (pt_not (pt_truK (K := K) rfl (pe_callB (call_isiK (K := K) rfl) rfl T.z_isinstance b_isinstance (pa_cons (pe_ix (ix_K (K := K) rfl) (pv 0) pe_int (fun _ _ => rfl)) (pa_cons (pe_bltn (v := .ty "str") rfl T.z_str b_str rfl) pa_nil))))))))) (pss_one ps_dead) pss_nil)
     (pss_cons (ps_set (i := 2) sc_is_statement.nd rfl (Or.inl rfl) (pe_rget1 (w := w) (K := K) rfl rfl (pe_glob (v := .ref a.G_PARTS) rfl T.s_PARTS rfl) (pe_ix (ix_K (K := K) rfl) (pv 0) pe_int (fun _ _ => rfl)) ⟨rfl, rfl, rfl, rfl⟩))
     (pss_cons (ps_if (PW.pt (pw_or (pt_cmpR op_isNA (pv 2) pe_non (nomark _)) (pw_or1 (pt_cmpR (op_neK (K := K) rfl hr.units) (pe_callB (call_lenK (K := K) rfl) rfl T.z_len b_len (pa_cons (pv 0) pa_nil)) (pe_op (op_plusK (K := K) rfl) pe_int (pe_callB (call_lenK (K := K) rfl) rfl T.z_len b_len (pa_cons (pv 2) pa_nil))) (nomark _))))) (pss_one ps_dead) pss_nil)
     (pss_cons (ps_if (pt_not (pt_truK (K := K) rfl (pe_callB (call_allK (K := K) rfl rfl) rfl T.z_all b_all (pa_cons (pe_comp (own := ["part", "kind"]) (fr := [("handed", 1)]) rfl ⟨rfl, (by walk_at "clok"), (by walk_at "frok"), rfl, (by decide +kernel), (by decide +kernel), rfl⟩ (pi_zip2 (K := K) rfl rfl T.z_zip (pa_cons (pe_slice (sl_K (K := K) rfl) (pv 0) (po_some pe_int) po_none) (pa_cons (pv 2) pa_nil))) (fun _ _ _ _ => (pg_tupK (K := K) (n := 2) rfl rfl (pgs_cons (pg_name (i := 0) (show List.Nodup [("part" : Str), ("kind" : Str), ("handed" : Str)] from by decide +kernel) rfl (Or.inl rfl)) (pgs_cons (pg_name (i := 1) (show List.Nodup [("part" : Str), ("kind" : Str), ("handed" : Str)] from by decide +kernel) rfl (Or.inl rfl)) pgs_nil)))) (fun _ _ _ _ => pts_nil) (fun _ _ _ _ => (pe_callE (ok_is_part (K := K) T) (hr.mono (by decide)) pass0 rfl (pa_cons (pv 0) (pa_cons (pv 1) (pa_cons (pe_callB (call_lenK (K := K) rfl) rfl T.z_len b_len (pa_cons (pv 2) pa_nil)) pa_nil)))))) pa_nil)))) (pss_one ps_dead) pss_nil)
     (pss_cons (ps_if (PW.pt (pw_or (pt_cmpR (op_eqK (K := K) rfl hr.units) (pe_ix (ix_K (K := K) rfl) (pv 0) pe_int (fun _ _ => rfl)) pe_str (nomark _)) (pw_or1 (pt_cmpR (op_eqK (K := K) rfl hr.units) (pe_ix (ix_K (K := K) rfl) (pv 0) pe_int (fun _ _ => rfl)) pe_str (nomark _))))) (pss_one (ps_ret (pe_cmpR (op_eqK (K := K) rfl hr.units) (pe_callB (call_lenK (K := K) rfl) rfl T.z_len b_len (pa_cons (pe_ix (ix_K (K := K) rfl) (pv 0) (pe_un un_neg pe_int) (fun _ _ => rfl)) pa_nil)) (pe_ix (ix_K (K := K) rfl) (pv 1) (pe_ix (ix_K (K := K) rfl) (pv 0) (pe_un un_neg pe_int) (fun _ _ => rfl)) (fun _ _ => rfl)) (nomark _)))) pss_nil)
     (pss_one (ps_ret pe_bl))))))), ?_⟩
   refine r_st (σ' := [some _, some _, none]) rfl ?_
   walk_at "rd"
   refine ⟨_, _, rfl, C, ?_⟩
   walk_at "rd"
   refine ⟨_, .ref qk, rfl, hqk, ?_⟩
   walk_at "rd"
   refine r_lenT (tk _) ?_
   rw [List.length_map, List.length_map]
   walk_at "rd"
   refine r_slT (SqT.of hp) (cut_tail_neV _ _) fun ls' nls => ?_
   rw [cut_tailV]
   walk_at "rd"
   refine ⟨ls', qk, _, _, rfl, SqT.of upd_same, tk _, ?_⟩
   have e2 : ∀ H, SqT K H qk (xs.map fun p => .str p.2) := fun H => by have := tk H; rw [List.map_map] at this; exact this
   refine comp_mapZ (α := V × Str) (xs := xs) (e1 := fun p => p.1) (e2 := fun p => .str p.2) (fun _ => .bl true) (fun σ => ∃ u v, σ = [u, v, some (.ref h)]) (SqT.of upd_same) (e2 _) (by walk_at "small") ⟨_, _, rfl⟩ ?_ ?_
   · rintro i ⟨zz, k⟩ ys σ H1 T' hx cc s1 ⟨u, v', rfl⟩ nT
     have hpk := F.ok _ (List.mem_of_getElem? hx)
     have s01 := (same_new (o := .tup (xs.map (·.1))) nls).trans (s1.trans (same_new (o := .tup [zz, .str k]) nT))
     have s11 := s1.trans (same_new (o := .tup [zz, .str k]) nT)
     have hh1 := s01 _ _ hh
     refine r_gTup (SqT.of upd_same) rfl ?_
     show gCons _ _ [zz, .str k] _ _ _
     generalize (upd H1 T' (.tup [zz, .str k])) = H2 at s01 s11 hh1 ⊢
     have hpk2 := hpk.same s01
     clear s01 nT s1
     walk_at "rd"
     refine ⟨zz, _, k, rfl, hpk2, fun H3 s3 => ?_⟩
     exact cc.next hx rfl (s11.trans s3) ⟨_, _, rfl⟩
   intro H1 s1 l2 nl2
   have s2 : Same H (upd H1 l2 (.lst (xs.map fun _ => V.bl true))) := (same_new nls).trans (s1.trans (same_new nl2))
   walk_at "rd"
   refine r_all (bs := xs.map fun _ => true) (by rw [List.map_map]; exact SqL.of upd_same) ?_
   rw [show (xs.map fun _ => true).all id = true from by rw [List.all_map]; exact List.all_eq_true.mpr fun _ _ => rfl]
   generalize (upd H1 l2 (.lst (xs.map fun _ => V.bl true))) = H2 at s2 ⊢
   clear nls nl2 s1
   have hp2 := s2 _ _ hp
   have hh2 := s2 _ _ hh
   rcases F.cl with ⟨hw, pre, f', q', ns, l, ex, hq', f0, hf⟩ | ⟨n1, n2⟩
   · rw [ex] at hp2
     have hat1 : atI (V.str w' :: (pre ++ [.int f', .ref q'])) (-1) = some (.ref q') := at_last1
     have hat2 : atI (V.str w' :: (pre ++ [.int f', .ref q'])) (-2) = some (.int f') := at_last2
     have hat0 := at_head (.str w') (pre ++ [.int f', .ref q'])
     have hq2 := s2 _ _ hq'
     have hfl : f'.toNat < hd.length := (List.getElem?_eq_some_iff.mp hf).1
     have hat3 : atI (hd.map V.int) f' = some (.int (ns.length : Int)) := by
       rw [show f' = ((f'.toNat : Nat) : Int) by omega]
       exact atI_nat (by rw [List.getElem?_map, hf]; rfl)
     rcases hw with rfl | rfl
     · cases l with
       | true =>
         have hq2 : H2 q' = some (.lst (ns.map V.int)) := hq2
         walk_at "rd"
         rw [decide_eq_true (by first | rfl | (rw [List.length_map]))]
         exact q _ s2
       | false =>
         have hq2 : H2 q' = some (.tup (ns.map V.int)) := hq2
         walk_at "rd"
         rw [decide_eq_true (by first | rfl | (rw [List.length_map]))]
         exact q _ s2
     · cases l with
       | true =>
         have hq2 : H2 q' = some (.lst (ns.map V.int)) := hq2
         walk_at "rd"
         rw [decide_eq_true (by first | rfl | (rw [List.length_map]))]
         exact q _ s2
       | false =>
         have hq2 : H2 q' = some (.tup (ns.map V.int)) := hq2
         walk_at "rd"
         rw [decide_eq_true (by first | rfl | (rw [List.length_map]))]
         exact q _ s2
   · have d1 : decide (V.str w' = V.str "call") = false := decide_eq_false fun z => n1 (V.str.inj z)
     have d2 : decide (V.str w' = V.str "hand") = false := decide_eq_false fun z => n2 (V.str.inj z)
     walk_at "rd"
     rw [d1]
     walk_at "rd"
     rw [d2]
     walk_at "rd"
     exact q _ s2
theorem me_Run_step (T : Txt w K mg a)  : MethE P w K mg base CX0 6 a.C_Run "step" (spStepR a) := by
 refine methE_of (sp := (spStepR a)) 5 T.cl_Run T.m_Run_step sc_Run_step (fun vs H Q E h => ?_) (fun f cdv A outer s H vs Q E hr h => ?_)
 · obtain ⟨H0, HB, r, dr, bo, dg, mls, xs, lns, gs, bs, st, rs, rfl, _⟩ := h
   rfl
 · obtain ⟨H0, HB, r, dr, bo, dg, mls, xs, lns, gs, bs, st, rs, rfl, B, R, hs, h41, q⟩ := h
   have h0 : gs ≠ [] := fun z => by rw [z] at hs; cases hs
   obtain ⟨xs', x, lns', ln, gs', g, rfl, rfl, rfl, D⟩ := R.last h0
   have hlen : (gs' ++ [g]).length = gs'.length + 1 := by rw [List.length_append]; rfl
   unfold stepM at hs
   rw [List.getLast?_concat] at hs
   simp only [List.dropLast_concat] at hs
   cases hmv : mvAt bs g.b g.k with
   | none => rw [hmv] at hs; cases hs
   | some mv =>
   obtain ⟨m, land⟩ := mv
   rw [hmv] at hs
   have hs : (if m.cnt = true ∧ st ≤ 0 then some (Rs.ans .tired) else makeM bs (if m.cnt = true then st - 1 else st) gs' g m) = some rs := hs
   obtain ⟨dx, fs', m', hx, hm, F', hln, h8, hvs⟩ := id D
   obtain ⟨fr, hr', Fr⟩ := R.hr
   have hdg := R.hg
   have f1 := Fr.doings
   have g1 := F'.mark
   have g2 := F'.len
   have nxl : ln ≠ x := fun z => by rw [z, hx] at hln; cases hln
   have hat : atI ((xs' ++ [x]).map V.ref) (-1) = some (.ref x) := by rw [List.map_append]; exact at_end
   refine ⟨_, (pss_cons (ps_set (i := 1) sc_Run_step.nd rfl (Or.inl rfl) (pe_ix (ix_K (K := K) rfl) (pe_fldK (K := K) rfl (pv 0)) (pe_un un_neg pe_int) (fun _ _ => rfl)))
     (pss_cons (ps_fldK (K := K) rfl (pv 1) (pe_op (op_plusK (K := K) rfl) (pe_fldK (K := K) rfl (pv 1)) pe_int))
     (pss_cons (ps_set (i := 2) sc_Run_step.nd rfl (Or.inl rfl) (pe_methK0 (P := P) (w := w) (K := K) (mg := mg) (base := base) (k := 1) ⟨rfl, rfl, rfl, rfl, rfl⟩ (pv 1) (hr.mono (by decide)) pass0))
     (pss_cons (ps_if (pt_cmpR (op_notInK (K := K) rfl) (pe_ix (ix_K (K := K) rfl) (pv 2) pe_int (fun _ _ => rfl)) (pe_glob (v := .ref a.G_UNCOUNTED) rfl T.s_UNCOUNTED rfl) rfl) (pss_cons (ps_if (pt_cmpR op_le (pe_fldK (K := K) rfl (pv 0)) pe_int (nomark _)) (pss_cons (ps_fldK (K := K) rfl (pv 0) (pe_tup (pa_cons pe_str pa_nil)))
     (pss_one ps_retN)) pss_nil)
     (pss_one (ps_fldK (K := K) rfl (pv 0) (pe_op op_sub (pe_fldK (K := K) rfl (pv 0)) pe_int)))) pss_nil)
     (pss_one (ps_expr (pe_methK (P := P) (w := w) (K := K) (mg := mg) (base := base) (k := 5) ⟨rfl, rfl, rfl, rfl, rfl⟩ (pv 0) (hr.mono (by decide)) pass0 (pa_cons (pv 1) (pa_cons (pv 2) pa_nil))))))))), ?_⟩
   refine r_st (σ' := [some _, none, none]) rfl ?_
   walk_at "rd"
   have F1 := F'.setMark ((g.k : Int) + 1)
   have R1 : RSt a HB (upd H x (.ins a.C_Doing dx (putF "mark" (.int ((g.k : Int) + 1)) fs'))) r dr bo dg mls (xs' ++ [x]) (lns' ++ [ln]) (gs' ++ [{ g with k := g.k + 1 }]) st := R.top B (fun b o e n1 n2 => by rw [upd_ne n1]; exact e) ⟨dx, _, m', upd_same, hm, F1, by rw [upd_ne nxl]; exact hln, h8, hvs⟩
   have hx1 : (upd H x (.ins a.C_Doing dx (putF "mark" (.int ((g.k : Int) + 1)) fs'))) x = some (.ins a.C_Doing dx (putF "mark" (.int ((g.k : Int) + 1)) fs')) := upd_same
   generalize (upd H x (.ins a.C_Doing dx (putF "mark" (.int ((g.k : Int) + 1)) fs'))) = H1 at R1 hx1 ⊢
   clear R D hx hln F' hr' Fr hdg f1 g1 g2
   obtain ⟨ws, q1, p1, hm1, hw1, hq1, hp1, ok⟩ := B.mv R1.kb hm hmv
   refine r_methV hx1 F1.no ((me_Doing_last_move T).mono (by decide)) ?_
   walk_at "rd"
   refine ⟨x, dx, m', ln, q1, p1, _, g.k, ws, _, rfl, hx1, F1, hm1, hw1, hq1, ?_⟩
   obtain ⟨fr, hr', Fr⟩ := R1.hr
   have f2 := Fr.steps
   have f3 := Fr.len
   obtain ⟨rest, hpw⟩ := hp1.word
   have hat0 := at_head (.str m.word) rest
   have npr : p1 ≠ r := fun z => by rw [z, hr'] at hpw; cases hpw
   walk_at "rd"
   refine ⟨_, _, rfl, .inr (T.t_UNCOUNTED _), rfl, rfl, ?_⟩
   rw [if_pos rfl, Mv.inU, Bool.not_not]
   cases hc : m.cnt with
   | true =>
     rw [hc] at hs
     walk_at "rd"
     refine ifDec (fun hh => ?_) (fun hh => ?_)
     · rw [if_pos ⟨rfl, hh⟩] at hs
       cases hs
       walk_at "rd"
       rename_i t nt
       exact q _ ⟨⟨_, t, upd_same, look_hit, by rw [upd_ne (ne_of_none hr' nt).symm]; exact upd_same⟩, fun b o e n1 n2 => by rw [upd_ne n1]; exact look_new (R1.kb b o e n1 n2) nt⟩
     · rw [if_neg (fun z => hh z.2), if_pos rfl] at hs
       walk_at "rd"
       have F2 := Fr.setSteps (st - 1)
       have R2 := R1.left B F2
       refine r_methV upd_same (F2.no _ (by decide +kernel)) ((me_Run_make T).mono (by decide)) ?_
       walk_at "rd"
       refine ⟨H0, HB, r, dr, bo, dg, x, ln, p1, mls, xs', lns', gs', g, bs, st - 1, m, rs, rfl, B, R2, hp1.to (fun b xs e => by rw [upd_ne (fun z => by rw [z, hr'] at e; cases e)]; exact e), ok, hs, by omega, fun H3 D3 => ?_⟩
       walk_at "rd"
       exact q H3 D3
   | false =>
     rw [hc] at hs
     rw [if_neg (fun z => by cases z.1), if_neg (by decide)] at hs
     walk_at "rd"
     refine r_methV hr' (Fr.no _ (by decide +kernel)) ((me_Run_make T).mono (by decide)) ?_
     walk_at "rd"
     refine ⟨H0, HB, r, dr, bo, dg, x, ln, p1, mls, xs', lns', gs', g, bs, st, m, rs, rfl, B, R1, hp1, ok, hs, by omega, fun H3 D3 => ?_⟩
     walk_at "rd"
     exact q H3 D3
theorem ok_are_statements (T : Txt w K mg a) : FnE P w K mg base CX0 7 "are_statements" spAreS := by
 refine fnE_of (sp := spAreS) 6 T.fn_are_statements sc_are_statements (fun vs H Q E h => ?_) (fun f cdv A outer s H vs Q E hr h => ?_)
 · obtain ⟨b, h, ls, bs, hd, rfl, _⟩ := h
   rfl
 · obtain ⟨b, h, ls, bs, hd, rfl, hb, hls, h8, h80, hh, hd3, hd8, q⟩ := h
   have hll := hls.1
   refine ⟨_, (pss_cons (ps_setC (i := 2) sc_are_statements.nd rfl rfl (own := ["body"]) (fr := []) rfl ⟨rfl, (by walk_at "clok"), (by walk_at "frok"), rfl, (by decide +kernel), (by decide +kernel), rfl⟩ (pi_seqK (K := K) rfl (pv 0)) (fun _ _ _ _ => (pg_name (i := 0) (show List.Nodup [("body" : Str)] from by decide +kernel) rfl (Or.inl rfl))) (fun _ _ _ _ => pts_nil) (fun _ _ _ _ => (pe_tup (pa_cons (pv 0) (pa_cons pe_int pa_nil)))))
     (pss_cons (ps_set (i := 3) sc_are_statements.nd rfl (Or.inl rfl) pe_int)
     (pss_cons (ps_while PassesOwn.never (pt_cmpR op_gt (pe_callB (call_lenK (K := K) rfl) rfl T.z_len b_len (pa_cons (pv 2) pa_nil)) pe_int (nomark _)) (pss_cons (ps_set (i := 4) sc_are_statements.nd rfl (Or.inr rfl) (pe_bm0K (K := K) rfl PySem.F.plainAttrs_list PySem.F.slot_list_pop PySem.F.type_list_pop mt_pop (pv 2)))
     (pss_cons (ps_set (i := 3) sc_are_statements.nd rfl (Or.inl rfl) (pe_op (op_plusK (K := K) rfl) (pv 3) (pe_callB (call_lenK (K := K) rfl) rfl T.z_len b_len (pa_cons (pe_ix (ix_K (K := K) rfl) (pv 4) pe_int (fun _ _ => rfl)) pa_nil))))
     (pss_cons (ps_if (PW.pt (pw_or (pt_cmpR op_gt (pv 3) (pe_glob (v := .int 80) rfl T.g_TOP_STATEMENTS.choose_spec ⟨_, rfl⟩) (nomark _)) (pw_or1 (pt_not (pt_truK (K := K) rfl (pe_callB (call_allK (K := K) rfl rfl) rfl T.z_all b_all (pa_cons (pe_comp (own := ["statement"]) (fr := [("handed", 1)]) rfl ⟨rfl, (by walk_at "clok"), (by walk_at "frok"), rfl, (by decide +kernel), (by decide +kernel), rfl⟩ (pi_seqK (K := K) rfl (pe_ix (ix_K (K := K) rfl) (pv 4) pe_int (fun _ _ => rfl))) (fun _ _ _ _ => (pg_name (i := 0) (show List.Nodup [("statement" : Str), ("handed" : Str)] from by decide +kernel) rfl (Or.inl rfl))) (fun _ _ _ _ => pts_nil) (fun _ _ _ _ => (pe_callE (ok_is_statement (K := K) T) (hr.mono (by decide)) pass0 rfl (pa_cons (pv 0) (pa_cons (pv 1) pa_nil))))) pa_nil))))))) (pss_one ps_dead) pss_nil)
     (pss_one (ps_for PassesOwn.never rfl (pi_seqK (K := K) rfl (pe_ix (ix_K (K := K) rfl) (pv 4) pe_int (fun _ _ => rfl))) (pg_name (i := 5) sc_are_statements.nd rfl (Or.inl rfl)) (pss_cons (ps_set (i := 6) sc_are_statements.nd rfl (Or.inl rfl) (pe_callE (ok_lists_within (K := K) T) (hr.mono (by decide)) pass0 rfl (pa_cons (pv 5) pa_nil)))
     (pss_cons (ps_if (PW.pt (pw_and (pt_cmpR op_gt (pe_callB (call_lenK (K := K) rfl) rfl T.z_len b_len (pa_cons (pv 6) pa_nil)) pe_int (nomark _)) (pw_and1 (pt_cmpR (op_eqK (K := K) rfl hr.units) (pe_ix (ix_K (K := K) rfl) (pv 4) pe_int (fun _ _ => rfl)) (pe_glob (v := .int 4) rfl T.g_TOP_WITHIN.choose_spec ⟨_, rfl⟩) (nomark _))))) (pss_one ps_dead) pss_nil)
     (pss_one (ps_expr (pe_bmK (K := K) rfl PySem.F.plainAttrs_list PySem.F.slot_list_extend PySem.F.type_list_extend mt_extend (pv 2) (pa_cons (pe_comp (own := ["statements"]) (fr := [("found", 4)]) rfl ⟨rfl, (by walk_at "clok"), (by walk_at "frok"), rfl, (by decide +kernel), (by decide +kernel), rfl⟩ (pi_seqK (K := K) rfl (pv 6)) (fun _ _ _ _ => (pg_name (i := 0) (show List.Nodup [("statements" : Str), ("found" : Str)] from by decide +kernel) rfl (Or.inl rfl))) (fun _ _ _ _ => pts_nil) (fun _ _ _ _ => (pe_tup (pa_cons (pv 0) (pa_cons (pe_op (op_plusK (K := K) rfl) (pe_ix (ix_K (K := K) rfl) (pv 1) pe_int (fun _ _ => rfl)) pe_int) pa_nil))))) pa_nil))))))))))))
     (pss_one (ps_ret pe_bl))))), ?_⟩
   refine r_st (σ' := [some _, some _, none, none, none, none, none]) rfl ?_
   walk_at "rd"
   refine comp_list (xs := ls.map V.ref) (fun i ys σ H1 => (∃ v, σ = [v]) ∧ Same H H1 ∧ ∃ ts : List Addr, ys = ts.map V.ref ∧ WaitAt H H1 hd ts ((bs.take i).map fun b => (0, b))) ⟨⟨_, rfl⟩, Same.refl _, [], rfl, by rw [List.take_zero]; exact Each.nil⟩ ?_ ?_ ?_
   · rintro i ys σ H1 hi ⟨_, s1, ts, rfl, hw⟩
     refine ⟨SqL.of (s1 _ _ hb), ?_⟩
     rw [List.length_map, hw.1, List.length_map, List.length_take]
     walk_at "small"
   · rintro i v ys σ H1 hv ⟨⟨u, rfl⟩, s1, ts, rfl, hw⟩
     obtain ⟨l, hx, rfl⟩ : ∃ p, ls[i]? = some p ∧ v = .ref p := by
       rw [List.getElem?_map] at hv
       obtain ⟨p, hp, e⟩ := Option.map_eq_some_iff.mp hv
       exact ⟨p, hp, e.symm⟩
     have hi : i < bs.length := by rw [← hll]; exact (List.getElem?_eq_some_iff.mp hx).1
     have hbi : bs[i]? = some bs[i] := List.getElem?_eq_getElem hi
     obtain ⟨g1, g2⟩ := hls.2 i l _ hx hbi
     walk_at "rd"
     rename_i t nt
     refine ⟨⟨_, rfl⟩, s1.trans (same_new nt), ts ++ [t], by rw [List.map_append]; rfl, ?_⟩
     rw [List.take_add_one, hbi, Option.toList_some, List.map_append]
     exact Each.snoc (hw.same (same_new nt)) ⟨l, upd_same, Nat.zero_le _, g1, g2⟩
   rintro ys σ H1 ⟨_, s1, ts, rfl, hw⟩ lw nlw
   rw [List.length_map, hll, List.take_length] at hw
   have nlwH : H lw = none := none_same s1 nlw
   have hm0 := mesW_in 0 bs
   have ht0 := totW_in 0 bs
   have hw1 := hw.same (same_new (o := .lst (ts.map V.ref)) nlw)
   have s2 := s1.trans (same_new (o := .lst (ts.map V.ref)) nlw)
   have hlw1 : (upd H1 lw (.lst (ts.map V.ref))) lw = some (.lst (ts.map V.ref)) := upd_same
   generalize (upd H1 lw (.lst (ts.map V.ref))) = H2 at hw1 s2 hlw1 ⊢
   clear hw nlw s1
   walk_at "rd"
   refine ⟨fun j σ H3 => Same H H3 ∧ ∃ (ts : List Addr) (ws : List (Nat × List Stm)) (many : Nat) (u v x : Option V), σ = [some (.ref b), some (.ref h), some (.ref lw), some (.int (many : Int)), u, v, x] ∧ H3 lw = some (.lst (ts.map V.ref)) ∧ WaitAt H H3 hd ts ws ∧ many + totW ws ≤ 80 ∧ j = mesW ws ∧ j ≤ 168, ⟨mesW (bs.map fun b => (0, b)), s2, ts, _, 0, _, _, _, rfl, hlw1, hw1, by rw [ht0]; show 0 + (bs.map (cntL 5)).sum ≤ 80; omega, rfl, by rw [hm0]; show bs.length + 2 * (bs.map (cntL 5)).sum ≤ 168; omega⟩, ?_⟩
   clear hw1 hlw1 s2 hm0 ht0
   rintro j σ H3 ⟨s3, ts, ws, many, u, v, x, rfl, hlw, hw, htot, rfl, hj⟩
   have hwl := hw.1
   have hml := mesW_len ws
   by_cases hz : 0 < ws.length
   · obtain ⟨ts', t, ws', ⟨k, ss⟩, rfl, rfl, hw', l, ht, hk4, ⟨ps, hl, hps⟩, hokk⟩ := hw.last hz
     have hpl : ps.length = ss.length := hps.1
     have hk4 : k ≤ 4 := hk4
     have hokk : ∀ s ∈ ss, OkS hd (5 - k) s := hokk
     have hps : Each (StAt H (5 - k)) ps ss := hps
     have ht : H3 t = some (.tup [.ref l, .int (k : Int)]) := ht
     rw [totW_app] at htot
     have etot : totW [(k, ss)] = cntL (5 - k) ss := by unfold totW; simp
     have emes : mesW (ws' ++ [(k, ss)]) = mesW ws' + (1 + 2 * cntL (5 - k) ss) := by rw [mesW_app]; unfold mesW; simp
     have hcl := cntL_len (5 - k) ss
     rw [etot] at htot
     walk_at "rd"
     refine ⟨_, fun σ' H' h => h, ?_⟩
     walk_at "rd"
     refine r_pop (xs := ts'.map V.ref) (by rw [hlw, List.map_append]; rfl) ?_
     have s4 : Same H (upd H3 lw (.lst (ts'.map V.ref))) := fun b o e => by rw [upd_ne (ne_of_none e nlwH)]; exact s3 b o e
     have hlw4 : (upd H3 lw (.lst (ts'.map V.ref))) lw = some (.lst (ts'.map V.ref)) := upd_same
     have ht4 : (upd H3 lw (.lst (ts'.map V.ref))) t = some (.tup [.ref l, .int (k : Int)]) := tup_upd hlw _ _ ht
     have hw4 := WaitAt.to (tup_upd (o := .lst (ts'.map V.ref)) hlw) (show WaitAt H H3 hd ts' ws' from hw')
     generalize (upd H3 lw (.lst (ts'.map V.ref))) = H4 at s4 hlw4 ht4 hw4 ⊢
     clear s3 hlw ht hw' hw
     have hl4 := s4 _ _ hl
     have hh4 := s4 _ _ hh
     walk_at "rd"
     refine comp_mapL (α := Addr) (xs := ps) (emb := V.ref) (fun _ => .bl true) (fun σ => ∃ v, σ = [v, some (.ref h)]) (SqL.of hl4) (by walk_at "small") ⟨_, rfl⟩ ?_ ?_
     · rintro i p ys σ H5 hx cc s5 ⟨v, rfl⟩
       have hi : i < ss.length := by rw [← hpl]; exact (List.getElem?_eq_some_iff.mp hx).1
       have hsi : ss[i]? = some ss[i] := List.getElem?_eq_getElem hi
       walk_at "rd"
       refine ⟨p, h, 5 - k, ss[i], hd, rfl, StAt.same (s4.trans s5) (hps.2 i p _ hx hsi), hokk _ (List.mem_of_getElem? hsi), s5 _ _ hh4, hd3, hd8, fun H6 s6 => ?_⟩
       exact cc.next hx rfl (s5.trans s6) ⟨_, rfl⟩
     intro H5 s5 lb nlb
     have s6 := s5.trans (same_new (o := .lst (ps.map fun _ => V.bl true)) nlb)
     walk_at "rd"
     refine r_all (bs := ps.map fun _ => true) (by rw [List.map_map]; exact SqL.of upd_same) ?_
     generalize (upd H5 lb (.lst (ps.map fun _ => V.bl true))) = H6 at s6 ⊢
     rw [show (ps.map fun _ => true).all id = true from by rw [List.all_map]; exact List.all_eq_true.mpr fun _ _ => rfl]
     have hlw6 := s6 _ _ hlw4
     have ht6 := s6 _ _ ht4
     have hw6 := hw4.same s6
     have s06 := s4.trans s6
     clear s5 nlb s6 ht4 hlw4 hl4 hh4 s4 hw4
     have hl6 := s06 _ _ hl
     walk_at "rd"
     refine for_list (K := K) (a := l) (xs := ps.map V.ref) (fun i σ H7 => (∃ x y, σ = [some (.ref b), some (.ref h), some (.ref lw), some (.int ((many : Int) + (ps.map V.ref).length)), some (.ref t), x, y]) ∧ Same H H7 ∧ H7 t = some (.tup [.ref l, .int (k : Int)]) ∧ ∃ (tn : List Addr) (wn : List (Nat × List Stm)), H7 lw = some (.lst ((ts' ++ tn).map V.ref)) ∧ WaitAt H H7 hd (ts' ++ tn) (ws' ++ wn) ∧ totW wn + i = cntL (5 - k) (ss.take i) ∧ mesW wn ≤ 2 * cntL (5 - k) (ss.take i)) ⟨⟨_, _, rfl⟩, s06, ht6, [], [], by rw [List.append_nil]; exact hlw6, by rw [List.append_nil, List.append_nil]; exact hw6, rfl, Nat.le_refl _⟩ (fun i σ H7 _ ⟨_, s7, _⟩ => SqL.of (s7 _ _ hl)) ?_ ?_
     · clear s06 hlw6 ht6 hl6 hw6
       rintro i v σ H7 hv ⟨⟨x, y, rfl⟩, s7, ht7, tn, wn, hlw7, hw7, e1, e2⟩
       obtain ⟨p, hx, rfl⟩ : ∃ p, ps[i]? = some p ∧ v = .ref p := by
         rw [List.getElem?_map] at hv
         obtain ⟨p, hp, e⟩ := Option.map_eq_some_iff.mp hv
         exact ⟨p, hp, e.symm⟩
       have hi : i < ss.length := by rw [← hpl]; exact (List.getElem?_eq_some_iff.mp hx).1
       have hsi : ss[i]? = some ss[i] := List.getElem?_eq_getElem hi
       have hst := hps.2 i p _ hx hsi
       have hok := hokk _ (List.mem_of_getElem? hsi)
       have ecnt : cntL (5 - k) (ss.take (i + 1)) = cntL (5 - k) (ss.take i) + cnt1 (5 - k) ss[i] := by
         rw [List.take_add_one, hsi, Option.toList_some]; unfold cntL; rw [List.map_append, List.sum_append]; simp
       have hle : cntL (5 - k) (ss.take i) ≤ cntL (5 - k) ss := cntL_take _ _ _
       generalize ss[i] = sm at hsi hst hok ecnt
       obtain ⟨d, hd'⟩ : ∃ d, 5 - k = d + 1 := ⟨4 - k, by omega⟩
       rw [hd'] at hst hok
       obtain ⟨w', xs, ls', bs', F⟩ := hst.info hd3 hok
       have hcn : cnt1 (5 - k) sm = 1 + (bs'.map (cntL d)).sum := by rw [hd']; exact F.cnt
       have hbl := F.inn.1
       have h2 := F.two
       have hmw := mesW_len wn
       have hmw' := mesW_len ws'
       walk_at "rd"
       refine ⟨p, w', xs, ls', rfl, s7 _ _ F.hp, F.kd, F.few, F.fil, fun li H8 s8 hli nli => ?_⟩
       have hlw8 := s8 _ _ hlw7
       have ht8 := s8 _ _ ht7
       have hw8 := hw7.same s8
       have s08 := s7.trans s8
       clear s7 s8 hlw7 ht7 hw7 nli
       walk_at "rd"
       refine ifDec (fun hh1 => ?_) (fun hh1 => ?_)
       · have hk3 : (k : Int) ≠ 4 := by
           have hd0 : 0 < d := F.dep (fun z => by rw [List.length_map, hbl, z] at hh1; cases hh1)
           omega
         clear hh1
         walk_at "rd"
         refine comp_list (xs := ls'.map V.ref) (fun i ys σ H9 => (∃ v, σ = [v, some (.ref t)]) ∧ Same H8 H9 ∧ ∃ ts2 : List Addr, ys = ts2.map V.ref ∧ WaitAt H H9 hd ts2 ((bs'.take i).map fun b => (k + 1, b))) ⟨⟨_, rfl⟩, Same.refl _, [], rfl, by rw [List.take_zero]; exact Each.nil⟩ ?_ ?_ ?_
         · rintro i2 ys σ H9 hi ⟨_, s9, ts2, rfl, hw9⟩
           refine ⟨SqL.of (s9 _ _ hli), ?_⟩
           rw [List.length_map, hw9.1, List.length_map, List.length_take]
           walk_at "small"
         · rintro i2 v ys σ H9 hv ⟨⟨u, rfl⟩, s9, ts2, rfl, hw9⟩
           obtain ⟨l2, hx2, rfl⟩ : ∃ p, ls'[i2]? = some p ∧ v = .ref p := by
             rw [List.getElem?_map] at hv
             obtain ⟨p, hp, e⟩ := Option.map_eq_some_iff.mp hv
             exact ⟨p, hp, e.symm⟩
           have hi2 : i2 < bs'.length := by rw [← hbl]; exact (List.getElem?_eq_some_iff.mp hx2).1
           have hbi : bs'[i2]? = some bs'[i2] := List.getElem?_eq_getElem hi2
           obtain ⟨g1, g2⟩ := F.inn.2 i2 l2 _ hx2 hbi
           have hd0 : 0 < d := F.dep (fun z => by rw [z] at hi2; cases hi2)
           have ht9 := s9 _ _ ht8
           walk_at "rd"
           rename_i t2 nt2
           refine ⟨⟨_, rfl⟩, s9.trans (same_new nt2), ts2 ++ [t2], by rw [List.map_append]; rfl, ?_⟩
           rw [List.take_add_one, hbi, Option.toList_some, List.map_append]
           exact Each.snoc (hw9.same (same_new nt2)) ⟨l2, upd_same, show k + 1 ≤ 4 by omega, (show 5 - (k + 1) = d by omega) ▸ g1, (show 5 - (k + 1) = d by omega) ▸ g2⟩
         rintro ys σ H9 ⟨_, s9, ts2, rfl, hw9⟩ l9 nl9
         rw [List.length_map, hbl, List.take_length] at hw9
         have hlw9 := s9 _ _ hlw8
         have ht9 := s9 _ _ ht8
         have hw79 := (hw8.same s9).same (same_new (o := .lst (ts2.map V.ref)) nl9)
         have hwa := Each.app hw79 (hw9.same (same_new (o := .lst (ts2.map V.ref)) nl9))
         have hl2 := hw9.1
         rw [List.length_map] at hl2
         have s99 := (s08.trans s9).trans (same_new (o := .lst (ts2.map V.ref)) nl9)
         have hlen := hw8.1
         walk_at "rd"
         refine r_extend (look_new hlw9 nl9) upd_same (by rw [List.length_map, List.length_map, hlen, hl2]; rw [List.length_append]; show _ ≤ sizeLine; rw [sizeLine_eq]; omega) ?_
         refine ⟨⟨_, _, rfl⟩, fun b o e => by rw [upd_ne (ne_of_none e nlwH)]; exact s99 b o e, tup_upd (look_new hlw9 nl9) _ _ (look_new ht9 nl9), tn ++ ts2, wn ++ bs'.map (fun b => (k + 1, b)), by rw [upd_same, ← List.append_assoc, List.map_append (l₂ := ts2)], ?_, ?_, ?_⟩
         · rw [← List.append_assoc, ← List.append_assoc]
           exact WaitAt.to (tup_upd (look_new hlw9 nl9)) hwa
         · rw [totW_app, totW_in, ecnt, ← e1, hcn]; rw [show 5 - (k + 1) = d by omega]; omega
         · rw [mesW_app, mesW_in, ecnt, hcn]; rw [show 5 - (k + 1) = d by omega]; have := F.two; omega
       · clear hh1
         walk_at "rd"
         refine comp_list (xs := ls'.map V.ref) (fun i ys σ H9 => (∃ v, σ = [v, some (.ref t)]) ∧ Same H8 H9 ∧ ∃ ts2 : List Addr, ys = ts2.map V.ref ∧ WaitAt H H9 hd ts2 ((bs'.take i).map fun b => (k + 1, b))) ⟨⟨_, rfl⟩, Same.refl _, [], rfl, by rw [List.take_zero]; exact Each.nil⟩ ?_ ?_ ?_
         · rintro i2 ys σ H9 hi ⟨_, s9, ts2, rfl, hw9⟩
           refine ⟨SqL.of (s9 _ _ hli), ?_⟩
           rw [List.length_map, hw9.1, List.length_map, List.length_take]
           walk_at "small"
         · rintro i2 v ys σ H9 hv ⟨⟨u, rfl⟩, s9, ts2, rfl, hw9⟩
           obtain ⟨l2, hx2, rfl⟩ : ∃ p, ls'[i2]? = some p ∧ v = .ref p := by
             rw [List.getElem?_map] at hv
             obtain ⟨p, hp, e⟩ := Option.map_eq_some_iff.mp hv
             exact ⟨p, hp, e.symm⟩
           have hi2 : i2 < bs'.length := by rw [← hbl]; exact (List.getElem?_eq_some_iff.mp hx2).1
           have hbi : bs'[i2]? = some bs'[i2] := List.getElem?_eq_getElem hi2
           obtain ⟨g1, g2⟩ := F.inn.2 i2 l2 _ hx2 hbi
           have hd0 : 0 < d := F.dep (fun z => by rw [z] at hi2; cases hi2)
           have ht9 := s9 _ _ ht8
           walk_at "rd"
           rename_i t2 nt2
           refine ⟨⟨_, rfl⟩, s9.trans (same_new nt2), ts2 ++ [t2], by rw [List.map_append]; rfl, ?_⟩
           rw [List.take_add_one, hbi, Option.toList_some, List.map_append]
           exact Each.snoc (hw9.same (same_new nt2)) ⟨l2, upd_same, show k + 1 ≤ 4 by omega, (show 5 - (k + 1) = d by omega) ▸ g1, (show 5 - (k + 1) = d by omega) ▸ g2⟩
         rintro ys σ H9 ⟨_, s9, ts2, rfl, hw9⟩ l9 nl9
         rw [List.length_map, hbl, List.take_length] at hw9
         have hlw9 := s9 _ _ hlw8
         have ht9 := s9 _ _ ht8
         have hw79 := (hw8.same s9).same (same_new (o := .lst (ts2.map V.ref)) nl9)
         have hwa := Each.app hw79 (hw9.same (same_new (o := .lst (ts2.map V.ref)) nl9))
         have hl2 := hw9.1
         rw [List.length_map] at hl2
         have s99 := (s08.trans s9).trans (same_new (o := .lst (ts2.map V.ref)) nl9)
         have hlen := hw8.1
         walk_at "rd"
         refine r_extend (look_new hlw9 nl9) upd_same (by rw [List.length_map, List.length_map, hlen, hl2]; rw [List.length_append]; show _ ≤ sizeLine; rw [sizeLine_eq]; omega) ?_
         refine ⟨⟨_, _, rfl⟩, fun b o e => by rw [upd_ne (ne_of_none e nlwH)]; exact s99 b o e, tup_upd (look_new hlw9 nl9) _ _ (look_new ht9 nl9), tn ++ ts2, wn ++ bs'.map (fun b => (k + 1, b)), by rw [upd_same, ← List.append_assoc, List.map_append (l₂ := ts2)], ?_, ?_, ?_⟩
         · rw [← List.append_assoc, ← List.append_assoc]
           exact WaitAt.to (tup_upd (look_new hlw9 nl9)) hwa
         · rw [totW_app, totW_in, ecnt, ← e1, hcn]; rw [show 5 - (k + 1) = d by omega]; omega
         · rw [mesW_app, mesW_in, ecnt, hcn]; rw [show 5 - (k + 1) = d by omega]; have := F.two; omega
     · rintro σ H7 ⟨⟨x, y, rfl⟩, s7, ht7, tn, wn, hlw7, hw7, e1, e2⟩
       rw [List.length_map, hpl, List.take_length] at e1 e2
       exact ⟨mesW (ws' ++ wn), by rw [emes, mesW_app]; omega, s7, ts' ++ tn, ws' ++ wn, many + ss.length, _, _, _, (by rw [List.length_map, hpl]; rfl), hlw7, hw7, by rw [totW_app]; omega, rfl, by rw [mesW_app]; omega⟩
   · have e : ts = [] := List.length_eq_zero_iff.mp (by omega)
     subst e
     walk_at "rd"
     exact q _ s3
theorem ok_is_program (T : Txt w K mg a) : FnE P w K mg base CX0 8 "is_program" spIsP := by
 refine fnE_of (sp := spIsP) 7 T.fn_is_program sc_is_program (fun vs H Q E h => ?_) (fun f cdv A outer s H vs Q E hr h => ?_)
 · obtain ⟨pr, fs, rfl, _⟩ := h
   rfl
 · obtain ⟨pr, fs, rfl, ⟨ps, hpr, hps⟩, O, q⟩ := h
   have hpl := hps.1
   have o1 := O.one
   have o2 := O.few
   have hget : ∀ {i : Nat} {p : Addr}, ps[i]? = some p → ∃ f l, f ∈ fs ∧ H p = some (.tup [.int f.1, .ref l]) ∧ BdAt (StAt H 5) H l f.2 := fun {i p} hx => by
     have hi : i < fs.length := by rw [← hpl]; exact (List.getElem?_eq_some_iff.mp hx).1
     obtain ⟨l, e1, e2⟩ := hps.2 i p _ hx (List.getElem?_eq_getElem hi)
     exact ⟨_, l, List.getElem_mem hi, e1, e2⟩
   refine ⟨_, (pss_cons (ps_if (PW.pt (pw_or (pt_not (pt_truK (K := K) rfl (pe_callB (call_isiK (K := K) rfl) rfl T.z_isinstance b_isinstance (pa_cons (pv 0) (pa_cons (pe_bltn (v := .ty "list") rfl T.z_list b_list rfl) pa_nil))))) (pw_or1 (pt_not (pt_chain op_le op_le pe_int (pe_callB (call_lenK (K := K) rfl) rfl T.z_len b_len (pa_cons (pv 0) pa_nil)) (pe_glob (v := .int 8) rfl T.g_TOP_FUNCTIONS.choose_spec ⟨_, rfl⟩)))))) (pss_one ps_dead) pss_nil)
     (pss_cons (ps_if (pt_not (pt_truK (K := K) rfl (pe_callB (call_allK (K := K) rfl rfl) rfl T.z_all b_all (pa_cons (pe_comp (own := ["function"]) (fr := []) rfl ⟨rfl, (by walk_at "clok"), (by walk_at "frok"), rfl, (by decide +kernel), (by decide +kernel), rfl⟩ (pi_seqK (K := K) rfl (pv 0)) (fun _ _ _ _ => (pg_name (i := 0) (show List.Nodup [("function" : Str)] from by decide +kernel) rfl (Or.inl rfl))) (fun _ _ _ _ => pts_nil) (fun _ _ _ _ => (pe_callE (ok_is_function (K := K) T) (hr.mono (by decide)) pass0 rfl (pa_cons (pv 0) pa_nil)))) pa_nil)))) (pss_one ps_dead) pss_nil)
     (pss_one (ps_ret (pe_callE (ok_are_statements (K := K) T) (hr.mono (by decide)) pass0 rfl (pa_cons (pe_comp (own := ["function"]) (fr := []) rfl ⟨rfl, (by walk_at "clok"), (by walk_at "frok"), rfl, (by decide +kernel), (by decide +kernel), rfl⟩ (pi_seqK (K := K) rfl (pv 0)) (fun _ _ _ _ => (pg_name (i := 0) (show List.Nodup [("function" : Str)] from by decide +kernel) rfl (Or.inl rfl))) (fun _ _ _ _ => pts_nil) (fun _ _ _ _ => (pe_ix (ix_K (K := K) rfl) (pv 0) pe_int (fun _ _ => rfl)))) (pa_cons (pe_comp (own := ["function"]) (fr := []) rfl ⟨rfl, (by walk_at "clok"), (by walk_at "frok"), rfl, (by decide +kernel), (by decide +kernel), rfl⟩ (pi_seqK (K := K) rfl (pv 0)) (fun _ _ _ _ => (pg_name (i := 0) (show List.Nodup [("function" : Str)] from by decide +kernel) rfl (Or.inl rfl))) (fun _ _ _ _ => pts_nil) (fun _ _ _ _ => (pe_ix (ix_K (K := K) rfl) (pv 0) pe_int (fun _ _ => rfl)))) pa_nil))))))), ?_⟩
   refine r_st (σ' := [some _]) rfl ?_
   walk_at "rd"
   refine comp_mapL (α := Addr) (xs := ps) (emb := V.ref) (fun _ => .bl true) (fun σ => ∃ v, σ = [v]) (SqL.of hpr) (by walk_at "small") ⟨_, rfl⟩ ?_ ?_
   · rintro i p ys σ H1 hx cc s1 ⟨v, rfl⟩
     obtain ⟨f', l, hm, e1, ps', e2, _⟩ := hget hx
     walk_at "rd"
     refine ⟨p, l, f'.1, _, rfl, s1 _ _ e1, (O.hd f' hm).1, (O.hd f' hm).2, s1 _ _ e2, ?_⟩
     exact cc.next hx rfl s1 ⟨_, rfl⟩
   intro H1 s1 l1 nl1
   have s2 := s1.trans (same_new (o := .lst (ps.map fun _ => V.bl true)) nl1)
   walk_at "rd"
   refine r_all (bs := ps.map fun _ => true) (by rw [List.map_map]; exact SqL.of upd_same) ?_
   generalize (upd H1 l1 (.lst (ps.map fun _ => V.bl true))) = H2 at s2 ⊢
   rw [show (ps.map fun _ => true).all id = true from by rw [List.all_map]; exact List.all_eq_true.mpr fun _ _ => rfl]
   clear nl1 s1
   have hpr2 := s2 _ _ hpr
   walk_at "rd"
   refine comp_mapL (α := Addr) (xs := ps) (emb := V.ref) (fun p => .ref (bodyOf (H p))) (fun σ => ∃ v, σ = [v]) (SqL.of hpr2) (by walk_at "small") ⟨_, rfl⟩ ?_ ?_
   · rintro i p ys σ H3 hx cc s3 ⟨v, rfl⟩
     obtain ⟨f', l, hm, e1, _⟩ := hget hx
     have e3 := s3 _ _ (s2 _ _ e1)
     walk_at "rd"
     exact cc.next hx (by rw [e1]; rfl) s3 ⟨_, rfl⟩
   intro H3 s3 l3 nl3
   have s4 := s2.trans (s3.trans (same_new (o := .lst (ps.map fun p => .ref (bodyOf (H p)))) nl3))
   have hl3 : (upd H3 l3 (.lst (ps.map fun p => .ref (bodyOf (H p))))) l3 = some (.lst ((ps.map fun p => bodyOf (H p)).map V.ref)) := by rw [upd_same, List.map_map]; rfl
   generalize (upd H3 l3 (.lst (ps.map fun p => .ref (bodyOf (H p))))) = H4 at s4 hl3 ⊢
   clear nl3 s3 s2 hpr2
   have hpr4 := s4 _ _ hpr
   walk_at "rd"
   refine comp_mapL (α := Addr) (xs := ps) (emb := V.ref) (fun p => .int (numOf (H p))) (fun σ => ∃ v, σ = [v]) (SqL.of hpr4) (by walk_at "small") ⟨_, rfl⟩ ?_ ?_
   · rintro i p ys σ H5 hx cc s5 ⟨v, rfl⟩
     obtain ⟨f', l, hm, e1, _⟩ := hget hx
     have e3 := s5 _ _ (s4 _ _ e1)
     walk_at "rd"
     exact cc.next hx (by rw [e1]; rfl) s5 ⟨_, rfl⟩
   intro H5 s5 l5 nl5
   have hnm : (ps.map fun p => V.int (numOf (H p))) = (fs.map (·.1)).map V.int := by
     rw [List.map_map]
     exact hps.map_eq fun p f' ⟨l, e, _⟩ => by rw [e]; rfl
   rw [hnm]
   have s6 := s4.trans (s5.trans (same_new (o := .lst ((fs.map (·.1)).map V.int)) nl5))
   have hl5 : (upd H5 l5 (.lst ((fs.map (·.1)).map V.int))) l5 = some (.lst ((fs.map (·.1)).map V.int)) := upd_same
   have hl36 := look_new (o := .lst ((fs.map (·.1)).map V.int)) (s5 _ _ hl3) nl5
   generalize (upd H5 l5 (.lst ((fs.map (·.1)).map V.int))) = H6 at s6 hl5 hl36 ⊢
   walk_at "rd"
   refine ⟨l3, l5, ps.map fun p => bodyOf (H p), fs.map (·.2), fs.map (·.1), rfl, hl36, ?_, by rw [List.length_map]; exact o2, by rw [List.map_map]; exact O.cnt, hl5, fun n hn => ?_, by rw [List.length_map]; exact o2, fun H7 s7 => ?_⟩
   · refine ⟨by rw [List.length_map, List.length_map]; exact hpl, fun i l b a1 a2 => ?_⟩
     rw [List.getElem?_map] at a1 a2
     obtain ⟨p, hp, rfl⟩ := Option.map_eq_some_iff.mp a1
     obtain ⟨f', hf, rfl⟩ := Option.map_eq_some_iff.mp a2
     obtain ⟨l, e1, e2⟩ := hps.2 i p f' hp hf
     have el : bodyOf (H p) = l := by rw [e1]; rfl
     rw [el]
     exact ⟨e2.same s6 (fun _ _ => StAt.same s6), O.ok f' (List.mem_of_getElem? hf)⟩
   · obtain ⟨f', hf, rfl⟩ := List.mem_map.mp hn
     exact (O.hd f' hf).2
   · walk_at "rd"
     exact q _ (s6.trans s7)
theorem ok_asked_for_program (T : Txt w K mg a) : FnE P w K mg base CX0 9 "asked_for_program" spAsk := by
 refine fnE_of (sp := spAsk) 8 T.fn_asked_for_program sc_asked_for_program (fun vs H Q E h => ?_) (fun f cdv A outer s H vs Q E hr h => ?_)
 · obtain ⟨pr, fs, rfl, _⟩ := h
   rfl
 · obtain ⟨pr, fs, rfl, hp, hok, q⟩ := h
   refine ⟨_, (pss_one (ps_if (pt_not (pt_truK (K := K) rfl (pe_callE (ok_is_program (K := K) T) (hr.mono (by decide)) pass0 rfl (pa_cons (pv 0) pa_nil)))) (pss_one ps_never) pss_nil)), ?_⟩
   refine r_st (σ' := [some _]) rfl ?_
   walk_at "rd"
   refine ⟨pr, fs, rfl, hp, hok, fun H1 s1 => ?_⟩
   walk_at "rd"
   exact q _ s1
theorem ok_moves_of (T : Txt w K mg a) : FnE P w K mg base CX0 12 "moves_of" spMovesOf := by
 refine fnE_of (sp := spMovesOf) 11 T.fn_moves_of sc_moves_of (fun vs H Q E h => ?_) (fun f cdv A outer s H vs Q E hr h => ?_)
 · obtain ⟨l, ss, H0, rfl, _⟩ := h
   rfl
 · obtain ⟨l, ss, H0, rfl, s0, ⟨ps, hl, hs⟩, hle, q⟩ := h
   refine ⟨_, (pss_cons (ps_set (i := 1) sc_moves_of.nd rfl (Or.inl rfl) (pe_lst pa_nil))
     (pss_cons (ps_expr (pe_callE (ok_add_all (K := K) T) (hr.mono (by decide)) pass0 rfl (pa_cons (pv 1) (pa_cons (pv 0) (pa_cons pe_non pa_nil)))))
     (pss_cons (ps_expr (pe_bmK (K := K) rfl PySem.F.plainAttrs_list PySem.F.slot_list_append PySem.F.type_list_append mt_append (pv 1) (pa_cons (pe_tup (pa_cons (pe_tup (pa_cons pe_str (pa_cons (pe_glob (v := .int 7) rfl T.g_NOUGHT.choose_spec ⟨_, rfl⟩) pa_nil))) (pa_cons pe_non pa_nil))) pa_nil)))
     (pss_one (ps_ret (pv 1)))))), ?_⟩
   refine r_st (σ' := [some _, none]) rfl ?_
   walk_at "rd"
   rename_i m nm
   refine ⟨m, l, [], H0, ps, ss, none, rfl, upd_same, s0.trans (same_new nm), none_same s0 nm, hl, hs, by show 0 + (lays (lay1 5 none) 0 ss).length ≤ 10000; omega, fun ws H1 k1 hm1 hw1 => ?_⟩
   have s1 : Same H H1 := k1.same (same_new nm) nm
   have hm1 : H1 m = some (.lst ws) := hm1
   have hql : ws.length ≤ 9000 := by rw [hw1.1]; exact hle
   clear k1
   walk_at "rd"
   rename_i t1 nt1 t2 nt2
   have hmx := look_new (o := .tup [.ref t1, .non]) (look_new (o := .tup [.str "leave", .int 7]) hm1 nt1) nt2
   refine q m (ws ++ [.ref t2]) _ (fun b o e => by rw [upd_ne (ne_of_none e nm)]; exact (s1.trans ((same_new nt1).trans (same_new nt2))) b o e) nm upd_same ?_
   exact MvV.app ((hw1.same ((same_new nt1).trans (same_new nt2))).to (tup_upd hmx)) (MvV.one ⟨t2, t1, rfl, tup_upd hmx _ _ upd_same, tup_upd hmx _ _ (look_new upd_same nt2)⟩)
theorem mk_Run (T : Txt w K mg a) : MkE P w K mg base CX0 13 "Run" a.C_Run (spRunI a) := by
 refine mkE_of (sp := (spRunI a)) 12 T.c_Run T.i_Run sc_Run_init (fun vs H Q E h => ?_) (fun f cdv A outer s H vs Q E hr h => ?_)
 · obtain ⟨x, dx, pr, st, fs, rfl, _⟩ := h
   rfl
 · obtain ⟨x, dx, pr, st, fs, rfl, hx, ⟨ps, hpr, hps⟩, O, q⟩ := h
   have hpl := hps.1
   have o2 := O.few
   refine ⟨_, (pss_cons (ps_fldK (K := K) rfl (pv 0) (pe_comp (own := ["function"]) (fr := []) rfl ⟨rfl, (by walk_at "clok"), (by walk_at "frok"), rfl, (by decide +kernel), (by decide +kernel), rfl⟩ (pi_seqK (K := K) rfl (pv 1)) (fun _ _ _ _ => (pg_name (i := 0) (show List.Nodup [("function" : Str)] from by decide +kernel) rfl (Or.inl rfl))) (fun _ _ _ _ => pts_nil) (fun _ _ _ _ => (pe_callE (ok_moves_of (K := K) T) (hr.mono (by decide)) pass0 rfl (pa_cons (pe_ix (ix_K (K := K) rfl) (pv 0) pe_int (fun _ _ => rfl)) pa_nil)))))
     (pss_cons (ps_fldK (K := K) rfl (pv 0) (pv 2))
     (pss_cons (ps_fldK (K := K) rfl (pv 0) (pe_lst pa_nil))
     (pss_one (ps_fldK (K := K) rfl (pv 0) pe_non))))), ?_⟩
   refine r_st (σ' := [some _, some _, some _]) rfl ?_
   walk_at "rd"
   refine comp_list (xs := ps.map V.ref) (fun i ys σ H1 => (∃ v, σ = [v]) ∧ Same H H1 ∧ ∃ mls : List Addr, ys = mls.map V.ref ∧ mls.length = i ∧ ∀ (j : Nat) (m : Addr) (f : Int × List Stm), mls[j]? = some m → fs[j]? = some f → ∃ ws, H1 m = some (.lst ws) ∧ MvV H H1 ws (movesD f.2) ∧ H m = none) ⟨⟨_, rfl⟩, Same.refl _, [], rfl, rfl, fun j m f e => by simp at e⟩ ?_ ?_ ?_
   · rintro i ys σ H1 hi ⟨_, s1, mls, rfl, hml, _⟩
     refine ⟨SqL.of (s1 _ _ hpr), ?_⟩
     rw [List.length_map, hml]
     rw [List.length_map] at hi
     walk_at "small"
   · rintro i v ys σ H1 hv ⟨⟨u, rfl⟩, s1, mls, rfl, hml, hms⟩
     obtain ⟨p, hx', rfl⟩ : ∃ p, ps[i]? = some p ∧ v = .ref p := by
       rw [List.getElem?_map] at hv
       obtain ⟨p, hp, e⟩ := Option.map_eq_some_iff.mp hv
       exact ⟨p, hp, e.symm⟩
     have hi : i < fs.length := by rw [← hpl]; exact (List.getElem?_eq_some_iff.mp hx').1
     have hfi : fs[i]? = some fs[i] := List.getElem?_eq_getElem hi
     obtain ⟨l, e1, e2⟩ := hps.2 i p _ hx' hfi
     have e11 := s1 _ _ e1
     have hcn : cntL 5 fs[i].2 ≤ 80 := Nat.le_trans (sum_mem (fun f : Int × List Stm => cntL 5 f.2) (List.getElem_mem hi)) O.cnt
     have hmf := moves_few fs[i].2
     walk_at "rd"
     refine ⟨l, fs[i].2, H, rfl, s1, e2, by omega, fun m ws H2 s2 nm hm hw => ?_⟩
     refine ⟨⟨_, rfl⟩, s1.trans s2, mls ++ [m], by rw [List.map_append]; rfl, by rw [List.length_append, hml]; rfl, fun j m' f' a1 a2 => ?_⟩
     by_cases hj : j < mls.length
     · rw [List.getElem?_append_left hj] at a1
       obtain ⟨ws', b1, b2, b3⟩ := hms j m' f' a1 a2
       exact ⟨ws', s2 _ _ b1, b2.same s2, b3⟩
     · have ej : j = i := by
         have := (List.getElem?_eq_some_iff.mp a1).1
         rw [List.length_append] at this
         have : j < mls.length + 1 := this
         omega
       subst ej
       rw [List.getElem?_append_right (by omega), hml, Nat.sub_self] at a1
       rw [hfi] at a2
       cases a1
       cases a2
       exact ⟨ws, hm, hw, none_same s1 nm⟩
   rintro ys σ H1 ⟨_, s1, mls, rfl, hml, hms⟩ bo nbo
   have hx1 := s1 _ _ hx
   have nbx : bo ≠ x := fun z => by rw [z, hx1] at nbo; cases nbo
   walk_at "rd"
   rename_i dg ndg
   have a1 := none_upd ndg
   have a2 := none_upd a1.1
   have a3 := none_upd a2.1
   refine q bo dg mls _ _ (none_same s1 nbo) (none_same s1 a3.1) a3.2.symm (by rw [hml, List.length_map]; exact hpl) (fun b o e ne => ?_) upd_same ⟨by walk_at "lk", by walk_at "lk", by walk_at "lk", by walk_at "lk", ?_, ?_⟩ ?_ ?_ ?_
   · exact look_ne ne (look_ne ne (look_new (look_ne ne (look_ne ne (look_new (s1 _ _ e) nbo))) ndg))
   · exact Nat.le_of_lt_succ (by walk_at "fewf")
   · intro y hy
     simp only [List.mem_cons, List.not_mem_nil, or_false] at hy
     rcases hy with rfl | rfl | rfl | rfl | rfl | rfl <;> walk_at "nolk"
   · exact look_ne nbx (look_ne nbx (look_new (look_ne nbx (look_ne nbx upd_same)) ndg))
   · exact look_ne a2.2 (look_ne a2.2 upd_same)
   · intro i m f' b1 b2
     obtain ⟨ws, c1, c2, c3⟩ := hms i m f' b1 b2
     have nmx : m ≠ x := fun z => by rw [z, hx] at c3; cases c3
     refine ⟨ws, look_ne nmx (look_ne nmx (look_new (look_ne nmx (look_ne nmx (look_new c1 nbo))) ndg)), c2.to fun b xs e => ?_, c3, ne_of_none c1 a3.1⟩
     have ne : b ≠ x := fun z => by rw [z, hx1] at e; cases e
     exact look_ne ne (look_ne ne (look_new (look_ne ne (look_ne ne (look_new e nbo))) ndg))
theorem ok_run (T : Txt w K mg a) : FnE P w K mg base CX0 15 "run" (spRun a) := by
 refine fnE_of (sp := (spRun a)) 14 T.fn_run sc_run (fun vs H Q E h => ?_) (fun f cdv A outer s H vs Q E hr h => ?_)
 · obtain ⟨pr, v, st, fs, xs, f0, n, an, rfl, _⟩ := h
   rfl
 · obtain ⟨pr, v, st, fs, xs, f0, n, an, rfl, hp, O, hv, hf0, hn, hxv, hrun, q⟩ := h
   refine ⟨_, (pss_cons (ps_expr (pe_callE (ok_asked_for_program (K := K) T) (hr.mono (by decide)) pass0 rfl (pa_cons (pv 0) pa_nil)))
     (pss_cons (ps_if (pt_cmpR (op_neK (K := K) rfl hr.units) (pe_callB (call_lenK (K := K) rfl) rfl T.z_len b_len (pa_cons (pv 1) pa_nil)) (pe_ix (ix_K (K := K) rfl) (pe_ix (ix_K (K := K) rfl) (pv 0) pe_int (fun _ _ => rfl)) pe_int (fun _ _ => rfl)) (nomark _)) (pss_one ps_never) pss_nil)
     (pss_cons (ps_set (i := 3) sc_run.nd rfl (Or.inl rfl) (pe_makeE (mk_Run (K := K) T) (hr.mono (by decide)) pass0 rfl (pa_cons (pv 0) (pa_cons (pv 2) pa_nil))))
     (pss_cons (ps_expr (pe_methK (P := P) (w := w) (K := K) (mg := mg) (base := base) (k := 3) ⟨rfl, rfl, rfl, rfl, rfl⟩ (pv 3) (hr.mono (by decide)) pass0 (pa_cons pe_int (pa_cons (pv 1) pa_nil))))
     (pss_cons (ps_while PassesOwn.never (pt_cmpR op_isNA (pe_fldK (K := K) rfl (pv 3)) pe_non (nomark _)) (pss_one (ps_expr (pe_methK0 (P := P) (w := w) (K := K) (mg := mg) (base := base) (k := 6) ⟨rfl, rfl, rfl, rfl, rfl⟩ (pv 3) (hr.mono (by decide)) pass0))))
     (pss_one (ps_ret (pe_fldK (K := K) rfl (pv 3))))))))), ?_⟩
   refine r_st (σ' := [some _, some _, some _, none]) rfl ?_
   walk_at "rd"
   refine ⟨pr, fs, rfl, hp, O, fun H1 s1 => ?_⟩
   have hp1 := hp.same s1
   have hv1 := s1 _ _ hv
   obtain ⟨ps, hpr, hps⟩ := id hp1
   have hf0l := get_lt hf0
   have hp0l : 0 < ps.length := by rw [hps.1]; exact hf0l
   have hp0 : ps[0]? = some ps[0] := List.getElem?_eq_getElem hp0l
   obtain ⟨l0, e0, _⟩ := hps.2 0 _ f0 hp0 hf0
   generalize ps[0] = p0 at hp0 e0
   have hat : atI (ps.map V.ref) 0 = some (.ref p0) := atI_nat (j := 0) (by rw [List.getElem?_map, hp0]; rfl)
   have h03 := O.hd f0 (List.mem_of_getElem? hf0)
   have hx3 : xs.length ≤ 3 := by omega
   walk_at "rd"
   intro x dx nx ndx nne
   have s2 : Same H1 (upd (upd H1 dx (.own x)) x (.ins a.C_Run dx [])) := fun b o e => by rw [upd_ne (ne_of_none e nx), upd_ne (ne_of_none e ndx)]; exact e
   refine ⟨x, dx, pr, st, fs, rfl, upd_same, hp1.same s2, O, fun bo dg mls rf H2 nbo ndg nbd hml kp hx F hbo hdg hms => ⟨rfl, ?_⟩⟩
   have k2 : Same H1 H2 := fun b o e => kp b o (s2 b o e) (ne_of_none e nx)
   have ndg1 := none_same s2 ndg
   have nxd : x ≠ dg := fun z => by rw [z, hdg] at hx; cases hx
   have nbx : bo ≠ x := fun z => by rw [z, hx] at hbo; cases hbo
   have B : Bds H1 H2 x bo dg mls (bodiesD fs) := by
     refine ⟨by unfold bodiesD; rw [List.length_map]; exact hml, hbo, fun i m b e1 e2 => ?_, nbx, nbd, nxd, k2, nx, ndg1, ⟨_, _, _, hx⟩, ⟨_, hdg⟩, fun b hb m hm => ?_⟩
     · unfold bodiesD at e2
       rw [List.getElem?_map] at e2
       obtain ⟨f', hf', rfl⟩ := Option.map_eq_some_iff.mp e2
       obtain ⟨ws, c1, c2, c3, c4⟩ := hms i m f' e1 hf'
       refine ⟨ws, c1, MvV.rebase c2 (fun q o e ho => ?_), (fun z => by rw [z, hx] at c1; cases c1), c4⟩
       rw [upd_ne (fun z => by rw [z, upd_same] at e; cases e; rcases ho with ⟨_, z⟩ | ⟨_, z⟩ <;> cases z)] at e
       rw [upd_ne (fun z => by rw [z, upd_same] at e; cases e; rcases ho with ⟨_, z⟩ | ⟨_, z⟩ <;> cases z)] at e
       exact e
     · unfold bodiesD at hb ⊢
       obtain ⟨f', hf', rfl⟩ := List.mem_map.mp hb
       have := moves_ok (hd := fs.map (·.1)) (fun n hn => by obtain ⟨f2, hf2, rfl⟩ := List.mem_map.mp hn; exact (O.hd f2 hf2).2) (O.ok f' hf') m hm
       rw [List.length_map] at this ⊢
       exact this
   have hv2 := k2 _ _ hv1
   have nvd : v ≠ dg := ne_of_none hv1 ndg1
   have hm0l : 0 < mls.length := by rw [hml]; exact hf0l
   have hm0 : mls[0]? = some mls[0] := List.getElem?_eq_getElem hm0l
   generalize mls[0] = m0 at hm0
   have R0 : RSt a H2 H2 x dx bo dg mls [] [] [] st := ⟨fun b o e _ _ => e, ⟨rf, hx, F⟩, hdg, rfl, rfl, (fun i x ln g e => by simp at e), List.nodup_nil, List.nodup_nil, (fun _ z => by cases z), (fun _ z => by cases z)⟩
   clear kp hms s2 ndx nne
   walk_at "rd"
   refine r_methV hx (F.no _ (by decide +kernel)) ((me_Run_begin T).mono (by decide)) ?_
   walk_at "rd"
   refine ⟨x, dx, bo, dg, m0, v, rf, st, xs, 0, mls.map V.ref, [], rfl, hx, F, hbo, by rw [List.getElem?_map, hm0]; rfl, hdg, Nat.zero_le _, hv2, hx3, nvd, fun y dy l fs' H3 ny nl nyl k3 hdg3 hy F' hl => ?_⟩
   have R : RSt a H2 H3 x dx bo dg mls [y] [l] [⟨0, 0, padN xs⟩] st := R0.push B ny nl ny nl k3 hdg3 ⟨dy, fs', m0, hy, hm0, F', hl, padN_len (by omega), padN_val hxv⟩
   have kS : ∀ H4, KeptR H2 H4 x dg → Same H H4 := fun H4 kb b o e => kb b o (k2 _ _ (s1 _ _ e)) (ne_of_none (s1 _ _ e) nx) (ne_of_none (s1 _ _ e) ndg1)
   clear R0 k3 hdg3 hy hl hx hbo hdg hv2 hv1 hpr F
   walk_at "rd"
   refine ⟨fun j σ H4 => σ = [some (.ref pr), some (.ref v), some (.int st), some (.ref x)] ∧ ∃ rs, RsAt a H2 H4 x dx bo dg mls rs ∧ runM (bodiesD fs) j rs = some an ∧ ∀ st' gs', rs = .run st' gs' → gs'.length ≤ 21, ⟨n, rfl, .run st [⟨0, 0, padN xs⟩], ⟨_, _, R⟩, hrun, (fun st' gs' e => by cases e; exact Nat.le_of_ble_eq_true rfl)⟩, ?_⟩
   clear R hrun
   rintro j σ H4 ⟨rfl, rs, D, hr, hb⟩
   cases rs with
   | ans an' =>
     obtain ⟨⟨fs4, t, hx4, hf4, ht4⟩, kb⟩ := D
     have e : an' = an := by cases j <;> exact Option.some.inj hr
     rw [e] at ht4
     walk_at "rd"
     exact q t H4 (kS H4 kb) ht4
   | run st' gs' =>
     obtain ⟨xs', lns', R⟩ := D
     cases j with
     | zero => cases hr
     | succ j =>
       obtain ⟨rs2, h1, h2⟩ := Option.bind_eq_some_iff.mp (show (stepM (bodiesD fs) st' gs').bind (runM (bodiesD fs) j) = some an from hr)
       have h21 := hb st' gs' rfl
       obtain ⟨fr, hr', Fr⟩ := R.hr
       have f1 := Fr.answer
       walk_at "rd"
       refine ⟨_, fun σ' H' h => h, ?_⟩
       walk_at "rd"
       refine r_methV hr' (Fr.no _ (by decide +kernel)) ((me_Run_step T).mono (by decide)) ?_
       walk_at "rd"
       refine ⟨H1, H2, x, dx, bo, dg, mls, xs', lns', gs', bodiesD fs, st', rs2, rfl, B, R, h1, by omega, fun H5 D5 => ?_⟩
       walk_at "rd"
       exact ⟨j, by omega, rfl, rs2, D5, h2, fun st2 gs2 e => by subst e; exact step_len _ _ _ h1 h21⟩
theorem ok_law_program (T : Txt w K mg a) : FnE P w K mg base CX0 17 "_law_program" (spProgB K) := by
 refine fnE_of (sp := (spProgB K)) 16 T.fn_law_program sc_law_program (fun vs H Q E h => ?_) (fun f cdv A outer s H vs Q E hr h => ?_)
 · obtain ⟨a0, ns, rfl, _⟩ := h
   rfl
 · obtain ⟨a0, ns, rfl, hS, q⟩ := h
   refine ⟨_, (pss_cons (ps_set (i := 1) sc_law_program.nd rfl (Or.inr rfl) (pe_callE (ok_law_number (K := K) T) (hr.mono (by decide)) pass0 rfl (pa_cons (pv 0) (pa_cons pe_int pa_nil))))
     (pss_cons (ps_setC (i := 2) sc_law_program.nd rfl rfl (own := ["_law_k"]) (fr := [("_law_cell", 1)]) rfl ⟨rfl, (by walk_at "clok"), (by walk_at "frok"), rfl, (by decide +kernel), (by decide +kernel), rfl⟩ (pi_range1 rfl T.z_range (pa_cons (pe_op (op_plusK (K := K) rfl) pe_int (pe_op op_mod (pv 1) pe_int)) pa_nil)) (fun _ _ _ _ => (pg_name (i := 0) (show List.Nodup [("_law_k" : Str), ("_law_cell" : Str)] from by decide +kernel) rfl (Or.inl rfl))) (fun _ _ _ _ => pts_nil) (fun _ _ _ _ => (pe_op op_mod (pe_op (op_plusK (K := K) rfl) (pe_op op_fdiv (pv 1) pe_int) (pe_op op_times pe_int (pv 0))) pe_int)))
     (pss_cons (ps_set (i := 3) sc_law_program.nd rfl (Or.inl rfl) (pe_lst pa_nil))
     (pss_cons (ps_set (i := 4) sc_law_program.nd rfl (Or.inl rfl) pe_int)
     (pss_cons (ps_for PassesOwn.never rfl (pi_seqK (K := K) rfl (pv 2)) (pg_name (i := 5) sc_law_program.nd rfl (Or.inl rfl)) (pss_cons (ps_asg (pe_callE (ok_law_block (K := K) T) (hr.mono (by decide)) pass0 rfl (pa_cons (pv 0) (pa_cons (pv 4) (pa_cons (pe_op op_mod (pe_callE (ok_law_number (K := K) T) (hr.mono (by decide)) pass0 rfl (pa_cons (pv 0) (pa_cons (pv 4) pa_nil))) pe_int) (pa_cons pe_int (pa_cons (pv 2) pa_nil)))))) (pg_tupK (K := K) rfl rfl (pgs_cons (pg_name (i := 6) sc_law_program.nd rfl (Or.inl rfl)) (pgs_cons (pg_name (i := 4) sc_law_program.nd rfl (Or.inl rfl)) pgs_nil))))
     (pss_one (ps_expr (pe_bmK (K := K) rfl PySem.F.plainAttrs_list PySem.F.slot_list_append PySem.F.type_list_append mt_append (pv 3) (pa_cons (pe_tup (pa_cons (pv 5) (pa_cons (pv 6) pa_nil))) pa_nil))))))
     (pss_one (ps_ret (pv 3)))))))), ?_⟩
   refine r_st (σ' := [some _, none, none, none, none, none, none]) rfl ?_
   walk_at "rk"
   refine ⟨a0, ns, 0, rfl, hS, by decide, by decide, ?_⟩
   generalize numAt ns 0 = cell
   walk_at "rk"
   refine comp_range (fun i ys σ HQ => (∃ v, σ = [v, some (.int cell)]) ∧ Same H HQ ∧ ∃ ks : List Int, ys = ks.map V.int ∧ ks.length = i ∧ ∀ k ∈ ks, 0 ≤ k ∧ k ≤ 3) ⟨⟨_, rfl⟩, Same.refl _, [], rfl, rfl, (fun _ z => by cases z)⟩ ?_ ?_ ?_
   · rintro i ys σ HQ hi ⟨_, _, ks, rfl, e, _⟩
     rw [List.length_map, e]
     walk_at "small"
   · rintro i ys σ HQ hi ⟨⟨v, rfl⟩, s1, ks, rfl, hl, hk⟩
     walk_at "rd"
     refine ⟨⟨_, rfl⟩, s1, ks ++ [_], by rw [List.map_append]; rfl, by rw [List.length_append, hl]; rfl, fun x hx => ?_⟩
     rcases List.mem_append.mp hx with z | z
     · exact hk x z
     · rw [List.mem_singleton.mp z]; exact ⟨by omega, by omega⟩
   rintro ys σ HQ ⟨_, s8, hd, rfl, hnl, hhv⟩ lh nlh
   have hHd : HdOk hd := ⟨by omega, by omega, hhv⟩
   have sA := s8.trans (same_new (o := .lst (hd.map V.int)) nlh)
   have hlh : (upd HQ lh (.lst (hd.map V.int))) lh = some (.lst (hd.map V.int)) := upd_same
   generalize (upd HQ lh (.lst (hd.map V.int))) = HA at sA hlh ⊢
   clear s8 nlh hnl hhv
   walk_at "rk"
   rename_i pl npl
   have hl3 := hHd.three
   refine for_list (K := K) (a := lh) (xs := hd.map V.int) (fun i σ HQ => Same HA HQ ∧ ∃ (e : Int) (ps : List Addr) (fs : List (Int × List Stm)) (u v : Option V), σ = [some (.ref a0), some (.int cell), some (.ref lh), some (.ref pl), some (.int e), u, v] ∧ HQ pl = some (.lst (ps.map V.ref)) ∧ Each (FnAt (hid pl HQ)) ps fs ∧ fs.map (·.1) = hd.take i ∧ (∀ f ∈ fs, ∀ s ∈ f.2, OkS hd 5 s) ∧ ((fs.map fun f => cntL 5 f.2).sum : Int) + 8 ≤ 2 * e ∧ 4 ≤ e ∧ e ≤ 40) ⟨same_new npl, 4, [], [], _, _, rfl, upd_same, Each.nil, by rw [List.take_zero]; rfl, (fun _ z => by cases z), by show ((0 : Nat) : Int) + 8 ≤ 2 * 4; decide, by decide, by decide⟩ (fun i σ HQ _ ⟨s, _⟩ => SqL.of (s _ _ hlh)) ?_ ?_
   · rintro i v σ HQ hv ⟨s1, e, ps, fs, u1, u2, rfl, hpl, he, hfd, hok, hcn, h1, h2⟩
     obtain ⟨m, hx, rfl⟩ : ∃ p, hd[i]? = some p ∧ v = .int p := by
       rw [List.getElem?_map] at hv
       obtain ⟨p, hp, e⟩ := Option.map_eq_some_iff.mp hv
       exact ⟨p, hp, e.symm⟩
     have hi3 : i < hd.length := (List.getElem?_eq_some_iff.mp hx).1
     have hpe : ps.length = fs.length := he.1
     have hfl : fs.length = i := by have := congrArg List.length hfd; rw [List.length_map, List.length_take] at this; omega
     have hSq := Same.seq (sA.trans s1) hS
     walk_at "rk"
     refine ⟨a0, ns, e, rfl, hSq, by omega, by omega, ?_⟩
     walk_at "rk"
     refine ⟨a0, lh, ns, hd, e, _, rfl, hSq, s1 _ _ hlh, hHd, by omega, h2, by omega, by omega, by omega, fun t l pb ss e2 H2 s2 nl ht hl hpl2 he2 hok2 hcn2 h3 h4 => ?_⟩
     refine r_gTup (SqT.of ht) rfl ?_
     have hpl3 := s2 _ _ hpl
     clear hSq ht
     walk_at "rk"
     rename_i tp ntp
     have etp : tp ≠ pl := (ne_of_none hpl3 ntp).symm
     have el : l ≠ pl := (ne_of_none hpl nl).symm
     have kF : ∀ b o, H2 b = some o → b ≠ pl → (upd (upd H2 tp (.tup [.int m, .ref l])) pl (.lst (ps.map V.ref ++ [.ref tp]))) b = some o := fun b o eb nb => by rw [upd_ne nb]; exact look_new eb ntp
     have htp : (upd (upd H2 tp (.tup [.int m, .ref l])) pl (.lst (ps.map V.ref ++ [.ref tp]))) tp = some (.tup [.int m, .ref l]) := by rw [upd_ne etp]; exact upd_same
     have hplF : (upd (upd H2 tp (.tup [.int m, .ref l])) pl (.lst (ps.map V.ref ++ [.ref tp]))) pl = some (.lst ((ps ++ [tp]).map V.ref)) := by rw [upd_same, List.map_append]; rfl
     generalize (upd (upd H2 tp (.tup [.int m, .ref l])) pl (.lst (ps.map V.ref ++ [.ref tp]))) = HF at kF htp hplF ⊢
     have kA : Same HA HF := fun b o eb => kF b o (s2 _ _ (s1 _ _ eb)) (ne_of_none eb npl)
     have kH : Same (hid pl HQ) (hid pl HF) := fun b o eb => by
       unfold hid at eb ⊢
       split at eb
       · cases eb
       · rename_i nb; rw [if_neg nb]; exact kF b o (s2 _ _ eb) nb
     have kN : Same (nw (upd HQ l (.lst [])) H2) (hid pl HF) := fun b o eb => by
       obtain ⟨k1, k2⟩ := nw_of eb
       have nb : b ≠ pl := fun z => by rw [z] at k1; rw [(upd_none k1).1] at hpl; cases hpl
       exact hid_at (kF b o k2 nb) nb
     refine ⟨kA, e2, ps ++ [tp], fs ++ [(m, ss)], _, _, rfl, hplF, Each.snoc (he.mono fun p f h => h.same kH) ⟨l, hid_at htp etp, pb, hid_at (kF _ _ hl el) el, he2.mono fun p z h => StAt.same kN h⟩, ?_, fun f hf => ?_, ?_, by omega, h4⟩
     · rw [List.map_append, hfd, List.take_add_one, hx]; rfl
     · rcases List.mem_append.mp hf with z | z
       · exact hok f z
       · rw [List.mem_singleton.mp z]; exact hok2
     · have hcn2 : (cntL 5 ss : Int) + 2 * e ≤ 2 * e2 := hcn2
       have ec : ((fs ++ [(m, ss)]).map fun f => cntL 5 f.2).sum = (fs.map fun f => cntL 5 f.2).sum + cntL 5 ss := by rw [List.map_append, List.sum_append]; simp
       rw [ec]; omega
   · rintro σ HQ ⟨s1, e, ps, fs, u1, u2, rfl, hpl, he, hfd, hok, hcn, h1, h2⟩
     rw [List.length_map, List.take_length] at hfd
     have hfl : fs.length = hd.length := by have := congrArg List.length hfd; rw [List.length_map] at this; exact this
     have hl1 := hHd.one
     walk_at "rk"
     refine q pl fs HQ (sA.trans s1) ⟨ps, hpl, he.mono fun p f h => h.same hid_to⟩ ⟨by omega, by omega, fun f hf => ?_, fun f hf => by rw [hfd]; exact hok f hf, by omega⟩
     exact hHd.val f.1 (by rw [← hfd]; exact List.mem_map_of_mem hf)
theorem law_fn {fa : Addr} {fd : FuncData} (T : Txt w K mg a) (F : Fun K "law" "law" s_law fa fd) : FnOk P w K mg base CX0 18 fa fd ["_law_script"] (spLaw K) := by
 refine F.ok (k := 17) sc_law (fun vs H Q E h => ?_) (fun cdv A outer s H vs Q E hr h => ?_)
 · obtain ⟨a0, ns, rfl, _⟩ := h
   rfl
 · obtain ⟨a0, ns, rfl, hS, h63, q⟩ := h
   refine' ⟨_, ?body0, ?_⟩
   (case body0 => (refine' pss_cons ?tu42 ?tq43; (case tq43 => (refine' pss_cons ?tu44 ?tq45; (case tq45 => (refine' pss_cons ?tu46 ?tq47; (case tq47 => (refine' pss_cons ?tu48 ?tq49; (case tq49 => (refine' pss_cons ?tu50 ?tq51; (case tq51 => (refine' pss_cons ?tu52 ?tq53; (case tq53 => (refine' pss_cons ?tu54 ?tq55; (case tq55 => (refine' pss_cons ?tu56 ?tq57; (case tq57 => (refine' pss_cons ?tu58 ?tq59; (case tq59 => (refine' pss_cons ?tu60 ?tq61; (case tq61 => (refine' pss_cons ?tu62 ?tq63; (case tq63 => exact (pss_one (ps_ret (pe_and (pe_cmpR (op_eqK (K := K) rfl hr.units) (pe_callE (ok_run (K := K) T) (hr.mono (by decide)) pass0 rfl (pa_cons (pv 1) (pa_cons (pv 5) (pa_cons pe_int pa_nil)))) (pv 8) (nomark _)) (pe_one (pe_cmpR (op_eqK (K := K) rfl hr.units) (pe_callE (ok_run (K := K) T) (hr.mono (by decide)) pass0 rfl (pa_cons (pv 1) (pa_cons (pv 5) (pa_cons (pv 4) pa_nil)))) (pv 6) (nomark _))))))); (case tu62 => (refine' ps_if ?ti64 ?tj65 ?tm66; (case ti64 => exact (pt_cmpR (op_eqK (K := K) rfl hr.units) (pe_ix (ix_K (K := K) rfl) (pe_ix (ix_K (K := K) rfl) (pv 1) pe_int (fun _ _ => rfl)) pe_int (fun _ _ => rfl)) (pe_lst pa_nil) (nomark _))); (case tj65 => (refine' pss_one ?tu67; (case tu67 => (refine' ps_set (i := 8) ?tv68 ?tv69 ?tv70 ?tv71 ?tv72 ?tv73; (case tv68 => exact sc_law.nd); (case tv69 => rfl); (case tv70 => exact (Or.inl rfl)); (case tv72 => rfl); (case tv73 => exact .inl rfl); (case tv71 => (refine' pe_tup ?ta74; (case ta74 => (refine' pa_cons ?tx75 ?ty76 ?tz77; (case tz77 => rfl); (case tx75 => exact pe_str); (case ty76 => (refine' pa_cons ?tx78 ?ty79 ?tz80; (case tz80 => rfl); (case tx78 => exact pe_int); (case ty79 => exact pa_nil))))))))))); (case tm66 => exact pss_nil))))); (case tu60 => (refine' ps_set (i := 8) ?tv81 ?tv82 ?tv83 ?tv84 ?tv85 ?tv86; (case tv81 => exact sc_law.nd); (case tv82 => rfl); (case tv83 => exact (Or.inl rfl)); (case tv85 => rfl); (case tv86 => exact .inl rfl); (case tv84 => (refine' pe_tup ?ta87; (case ta87 => (refine' pa_cons ?tx88 ?ty89 ?tz90; (case tz90 => rfl); (case tx88 => exact pe_str); (case ty89 => exact pa_nil))))))))); (case tu58 => (refine' ps_if ?ti91 ?tj92 ?tm93; (case ti91 => (refine' PW.pt ?tb94; (case tb94 => (refine' pw_or ?tt95 ?tw96; (case tt95 => exact (pt_not (pt_truK (K := K) rfl (pe_callE (ok_law_answer (K := K) T) (hr.mono (by decide)) pass0 rfl (pa_cons (pv 7) pa_nil))))); (case tw96 => (refine' pw_or1 ?tt97; (case tt97 => (refine' PW.pt ?tb98; (case tb98 => (refine' pw_and ?tt99 ?tw100; (case tt99 => (refine' pt_cmpR (op_neK (K := K) rfl hr.units) ?tl101 ?tr102 (nomark _); (case tl101 => exact (pv 6)); (case tr102 => (refine' pe_tup ?ta103; (case ta103 => (refine' pa_cons ?tx104 ?ty105 ?tz106; (case tz106 => rfl); (case tx104 => exact pe_str); (case ty105 => exact pa_nil))))))); (case tw100 => (refine' pw_and1 ?tt107; (case tt107 => exact (pt_cmpR (op_neK (K := K) rfl hr.units) (pv 7) (pv 6) (nomark _))))))))))))))); (case tj92 => exact (pss_one ps_dead)); (case tm93 => exact pss_nil))))); (case tu56 => exact (ps_set (i := 7) sc_law.nd rfl (Or.inl rfl) (pe_callE (ok_run (K := K) T) (hr.mono (by decide)) pass0 rfl (pa_cons (pv 1) (pa_cons (pv 5) (pa_cons (pe_op (op_plusK (K := K) rfl) (pv 4) (pe_op op_mod (pe_callE (ok_law_number (K := K) T) (hr.mono (by decide)) pass0 rfl (pa_cons (pv 0) (pa_cons pe_int pa_nil))) pe_int)) pa_nil)))))))); (case tu54 => exact (ps_if (PW.pt (pw_or (pt_not (pt_truK (K := K) rfl (pe_callE (ok_law_answer (K := K) T) (hr.mono (by decide)) pass0 rfl (pa_cons (pv 6) pa_nil)))) (pw_or (pt_cmpR (op_neK (K := K) rfl hr.units) (pe_callB (call_reprK (K := K) rfl hr.gd hr.units) rfl T.z_repr b_repr (pa_cons (pv 1) pa_nil)) (pv 3) (nomark _)) (pw_or1 (pt_cmpR (op_neK (K := K) rfl hr.units) (pv 5) (pv 2) (nomark _)))))) (pss_one ps_dead) pss_nil)))); (case tu52 => exact (ps_set (i := 6) sc_law.nd rfl (Or.inl rfl) (pe_callE (ok_run (K := K) T) (hr.mono (by decide)) pass0 rfl (pa_cons (pv 1) (pa_cons (pv 5) (pa_cons (pv 4) pa_nil)))))))); (case tu50 => exact (ps_set (i := 5) sc_law.nd rfl (Or.inl rfl) (pe_callTy (call_listK (K := K) rfl) rfl T.z_list b_list (pa_cons (pv 2) pa_nil)))))); (case tu48 => exact (ps_set (i := 4) sc_law.nd rfl (Or.inl rfl) (pe_op op_mod (pe_callE (ok_law_number (K := K) T) (hr.mono (by decide)) pass0 rfl (pa_cons (pv 0) (pa_cons pe_int pa_nil))) pe_int))))); (case tu46 => exact (ps_set (i := 3) sc_law.nd rfl (Or.inl rfl) (pe_callB (call_reprK (K := K) rfl hr.gd hr.units) rfl T.z_repr b_repr (pa_cons (pv 1) pa_nil)))))); (case tu44 => exact (ps_setC (i := 2) sc_law.nd rfl rfl (own := ["_law_k"]) (fr := [("_law_script", 0)]) rfl ⟨rfl, (by walk_at "clok"), (by walk_at "frok"), rfl, (by decide +kernel), (by decide +kernel), rfl⟩ (pi_range1 rfl T.z_range (pa_cons (pe_ix (ix_K (K := K) rfl) (pe_ix (ix_K (K := K) rfl) (pv 1) pe_int (fun _ _ => rfl)) pe_int (fun _ _ => rfl)) pa_nil)) (fun _ _ _ _ => (pg_name (i := 0) (show List.Nodup [("_law_k" : Str), ("_law_script" : Str)] from by decide +kernel) rfl (Or.inl rfl))) (fun _ _ _ _ => pts_nil) (fun _ _ _ _ => (pe_op op_mod (pe_callE (ok_law_cell_at (K := K) T) (hr.mono (by decide)) pass0 rfl (pa_cons (pv 1) (pa_cons (pe_op (op_plusK (K := K) rfl) pe_int (pv 0)) pa_nil))) pe_int)))))); (case tu42 => exact (ps_set (i := 1) sc_law.nd rfl (Or.inl rfl) (pe_callE (ok_law_program (K := K) T) (hr.mono (by decide)) pass0 rfl (pa_cons (pv 0) pa_nil))))))
   refine r_st (σ' := [some _, none, none, none, none, none, none, none, none]) rfl ?_
   walk_at "rk"
   refine ⟨a0, ns, rfl, hS, fun pr fs H1 s1 hP O => ?_⟩
   obtain ⟨pps, hpr, hpe⟩ := id hP
   have h1 := O.one
   have hp1 : 0 < pps.length := by rw [hpe.1]; exact h1
   have hf0 : fs[0]? = some fs[0] := List.getElem?_eq_getElem h1
   have hp0 : pps[0]? = some pps[0] := List.getElem?_eq_getElem hp1
   obtain ⟨l0, hpf, hbd⟩ := hpe.2 0 _ _ hp0 hf0
   have hfm := List.mem_of_getElem? hf0
   have h03 := O.hd _ hfm
   generalize fs[0] = f0 at hf0 hpf h03 hbd hfm
   generalize pps[0] = p0 at hp0 hpf
   have hat : atI (pps.map V.ref) 0 = some (.ref p0) := atI_nat (j := 0) (by rw [List.getElem?_map, hp0]; rfl)
   have hS1 := Same.seq s1 hS
   walk_at "rk"
   refine comp_range (fun i ys σ HQ => (∃ v, σ = [v, some (.ref a0)]) ∧ Same H1 HQ ∧ ∃ ks : List Int, ys = ks.map V.int ∧ ks.length = i ∧ ∀ k ∈ ks, isVal k) ⟨⟨_, rfl⟩, Same.refl _, [], rfl, rfl, (fun _ z => by cases z)⟩ ?_ ?_ ?_
   · rintro i ys σ HQ hi ⟨_, _, ks, rfl, e, _⟩
     rw [List.length_map, e]
     walk_at "small"
   · rintro i ys σ HQ hi ⟨⟨v, rfl⟩, s2, ks, rfl, hl, hk⟩
     have hSx := Same.seq s2 hS1
     walk_at "rd"
     refine ⟨⟨_, rfl⟩, s2, ks ++ [_], by rw [List.map_append]; rfl, by rw [List.length_append, hl]; rfl, fun x hx => ?_⟩
     rcases List.mem_append.mp hx with z | z
     · exact hk x z
     · rw [List.mem_singleton.mp z]; exact val_mod _
   rintro ys σ HQ ⟨_, s2, xs, rfl, hxl, hxv⟩ lv nlv
   have s3 := s2.trans (same_new (o := .lst (xs.map V.int)) nlv)
   have hlv : (upd HQ lv (.lst (xs.map V.int))) lv = some (.lst (xs.map V.int)) := upd_same
   generalize (upd HQ lv (.lst (xs.map V.int))) = H2 at s3 hlv ⊢
   have hx0 : (xs.length : Int) = f0.1 := by omega
   have hS2 := Same.seq s3 hS1
   replace hP := hP.same s3
   replace hpr := s3 _ _ hpr
   replace hpf := s3 _ _ hpf
   replace hbd := hbd.same s3 (fun _ _ => StAt.same s3)
   clear s2 s3 nlv hS1 hpe hp1 HQ
   have PD := pd_prog O
   walk_at "rk"
   refine r_repr (dp_prog hP) PD.sh PD.nd (Nat.le_trans PD.dp (by decide)) PD.fits ?_
   walk_at "rk"
   refine ⟨a0, ns, 3, rfl, hS2, by decide, by decide, ?_⟩
   obtain ⟨c, hc⟩ : ∃ c : Nat, numAt ns 3 % 121 = (c : Int) := ⟨(numAt ns 3 % 121).toNat, by omega⟩
   walk_at "rk"
   rw [hc]
   clear hc
   obtain ⟨an, hav, ⟨m1, hm1⟩, hmore⟩ := run_an O hxv c
   refine r_listL (SqL.of hlv) fun l2 nl2 => ?_
   have s4 := same_new (o := .lst (xs.map V.int)) nl2
   have hl2 : (upd H2 l2 (.lst (xs.map V.int))) l2 = some (.lst (xs.map V.int)) := upd_same
   generalize (upd H2 l2 (.lst (xs.map V.int))) = H3 at s4 hl2 ⊢
   walk_at "rk"
   refine ⟨pr, l2, c, fs, xs, f0, m1, an, rfl, hP.same s4, O, hl2, hf0, hx0, hxv, hm1, fun t H4 s5 ht => ?_⟩
   have sA := s4.trans s5
   replace hl2 := s5 _ _ hl2
   clear s4 s5 nl2
   walk_at "rk"
   refine ⟨t, an, rfl, ht, hav, fun H5 s6 => ?_⟩
   replace sA := sA.trans s6
   replace hl2 := s6 _ _ hl2
   replace ht := s6 _ _ ht
   clear s6 H4 H3
   walk_at "rk"
   refine r_repr (dp_prog (hP.same sA)) PD.sh PD.nd (Nat.le_trans PD.dp (by decide)) PD.fits ?_
   walk_at "rk"
   refine r_neT (.list (xs.map .int)) (dp_ints (SqL.of hl2)) (dp_ints (SqL.of (sA _ _ hlv))) (shaped_ints _) ?_
   have hS5 := Same.seq sA hS2
   walk_at "rk"
   refine ⟨a0, ns, 2, rfl, hS5, by decide, by decide, ?_⟩
   obtain ⟨k2, hk2⟩ : ∃ k : Nat, numAt ns 2 % 201 = (k : Int) := ⟨(numAt ns 2 % 201).toNat, by omega⟩
   walk_at "rk"
   rw [hk2]
   clear hk2 hS5
   obtain ⟨an2, hav2, ⟨m2, hm2⟩, hsame⟩ := hmore k2
   walk_at "rk"
   refine ⟨pr, l2, (c : Int) + (k2 : Int), fs, xs, f0, m2, an2, rfl, hP.same sA, O, hl2, hf0, hx0, hxv, (show ((c + k2 : Nat) : Int) = (c : Int) + (k2 : Int) by omega) ▸ hm2, fun t2 H6 s7 ht2 => ?_⟩
   replace sA := sA.trans s7
   replace hl2 := s7 _ _ hl2
   replace ht := s7 _ _ ht
   clear s7 H5
   walk_at "rk"
   refine ⟨t2, an2, rfl, ht2, hav2, fun H7 s8 => ?_⟩
   replace sA := sA.trans s8
   replace hl2 := s8 _ _ hl2
   replace ht := s8 _ _ ht
   replace ht2 := s8 _ _ ht2
   clear s8 H6
   walk_at "rk"
   rename_i u nu
   refine r_neD an.pd (.tuple [.str "tired"]) (An.dp (look_new ht nu)) (An.dp (an := .tired) upd_same) an.sh (An.sh .tired) ?_
   replace sA := sA.trans (same_new (o := .tup [.str "tired"]) nu)
   replace hl2 := look_new (o := .tup [.str "tired"]) hl2 nu
   replace ht := look_new (o := .tup [.str "tired"]) ht nu
   replace ht2 := look_new (o := .tup [.str "tired"]) ht2 nu
   generalize (upd H7 u (.tup [.str "tired"])) = H8 at sA hl2 ht ht2 ⊢
   clear nu H7
   by_cases htd : an = .tired
   · subst htd
     rw [show (!PyData.eqv (An.pd .tired) (.tuple [.str "tired"])) = false from by decide +kernel]
     have hprx := sA _ _ hpr
     have hpfx := sA _ _ hpf
     walk_at "rk"
     rename_i tn ntn le nle
     generalize zz : (upd (upd H8 tn (.tup [.str "tired"])) le (.lst [])) = H9
     have s9 : Same H8 H9 := by rw [← zz]; exact (same_new ntn).trans (same_new nle)
     have htn : H9 tn = some (.tup [.str "tired"]) := by rw [← zz]; exact look_new upd_same nle
     have hle : H9 le = some (.lst []) := by rw [← zz]; exact upd_same
     clear zz ntn nle hprx hpfx
     have sB := sA.trans s9
     refine r_eqD (.list (f0.2.map (pdS 5))) (.list []) (dp_body (hbd.same sB (fun _ _ => StAt.same sB))) (dp_lst (SqL.of hle) dpAll_nil) (sh_pd (pd_body O hfm) (by decide)) (by decide +kernel) ?_
     cases ef : f0.2 with
     | nil =>
       rw [show PyData.eqv (.list (([] : List Stm).map (pdS 5))) (.list []) = true from by decide +kernel]
       walk_at "rk"
       rename_i tg ntg
       generalize zz : (upd H9 tg (.tup [.str "gave", .int 0])) = H10
       have s9b : Same H9 H10 := by rw [← zz]; exact same_new ntg
       have htg : H10 tg = some (.tup [.str "gave", .int 0]) := by rw [← zz]; exact upd_same
       clear zz ntg
       have sC := sB.trans s9b
       have sC9 := s9.trans s9b
       obtain ⟨m3, hm3⟩ := zero_an O hf0 (xs := xs) (by omega)
       rw [ef] at hm3
       walk_at "rk"
       refine ⟨pr, l2, 0, fs, xs, f0, m3, (.gave 0), rfl, hP.same sC, O, sC9 _ _ hl2, hf0, hx0, hxv, hm3, fun t3 HA s10 ht3 => ?_⟩
       walk_at "rk"
       refine r_eqT (An.pd (.gave 0)) (An.dp ht3) (An.dp (an := (.gave 0)) (s10 _ _ htg)) (An.sh _) ?_
       walk_at "rk"
       refine ⟨pr, l2, c, fs, xs, f0, m1, .tired, rfl, (hP.same sC).same s10, O, s10 _ _ (sC9 _ _ hl2), hf0, hx0, hxv, hm1, fun t4 HB s11 ht4 => ?_⟩
       walk_at "rk"
       refine r_eqT (An.pd .tired) (An.dp ht4) (An.dp (an := .tired) (s11 _ _ (s10 _ _ (sC9 _ _ ht)))) (An.sh .tired) ?_
       exact q _
     | cons sm rm =>
       rw [show PyData.eqv (.list ((sm :: rm).map (pdS 5))) (.list []) = false from eqv_no _ _]
       have sC := sB
       have sC9 := s9
       obtain ⟨m3, hm3⟩ := zero_an O hf0 (xs := xs) (by omega)
       rw [ef] at hm3
       walk_at "rk"
       refine ⟨pr, l2, 0, fs, xs, f0, m3, .tired, rfl, hP.same sC, O, sC9 _ _ hl2, hf0, hx0, hxv, hm3, fun t3 HA s10 ht3 => ?_⟩
       walk_at "rk"
       refine r_eqT (An.pd .tired) (An.dp ht3) (An.dp (an := .tired) (s10 _ _ htn)) (An.sh _) ?_
       walk_at "rk"
       refine ⟨pr, l2, c, fs, xs, f0, m1, .tired, rfl, (hP.same sC).same s10, O, s10 _ _ (sC9 _ _ hl2), hf0, hx0, hxv, hm1, fun t4 HB s11 ht4 => ?_⟩
       walk_at "rk"
       refine r_eqT (An.pd .tired) (An.dp ht4) (An.dp (an := .tired) (s11 _ _ (s10 _ _ (sC9 _ _ ht)))) (An.sh .tired) ?_
       exact q _
   · rw [an_ne htd]
     have e2 := hsame htd
     subst e2
     walk_at "rk"
     refine r_neT an2.pd (An.dp ht2) (An.dp ht) an2.sh ?_
     have hprx := sA _ _ hpr
     have hpfx := sA _ _ hpf
     walk_at "rk"
     rename_i tn ntn le nle
     generalize zz : (upd (upd H8 tn (.tup [.str "tired"])) le (.lst [])) = H9
     have s9 : Same H8 H9 := by rw [← zz]; exact (same_new ntn).trans (same_new nle)
     have htn : H9 tn = some (.tup [.str "tired"]) := by rw [← zz]; exact look_new upd_same nle
     have hle : H9 le = some (.lst []) := by rw [← zz]; exact upd_same
     clear zz ntn nle hprx hpfx
     have sB := sA.trans s9
     refine r_eqD (.list (f0.2.map (pdS 5))) (.list []) (dp_body (hbd.same sB (fun _ _ => StAt.same sB))) (dp_lst (SqL.of hle) dpAll_nil) (sh_pd (pd_body O hfm) (by decide)) (by decide +kernel) ?_
     cases ef : f0.2 with
     | nil =>
       rw [show PyData.eqv (.list (([] : List Stm).map (pdS 5))) (.list []) = true from by decide +kernel]
       walk_at "rk"
       rename_i tg ntg
       generalize zz : (upd H9 tg (.tup [.str "gave", .int 0])) = H10
       have s9b : Same H9 H10 := by rw [← zz]; exact same_new ntg
       have htg : H10 tg = some (.tup [.str "gave", .int 0]) := by rw [← zz]; exact upd_same
       clear zz ntg
       have sC := sB.trans s9b
       have sC9 := s9.trans s9b
       obtain ⟨m3, hm3⟩ := zero_an O hf0 (xs := xs) (by omega)
       rw [ef] at hm3
       walk_at "rk"
       refine ⟨pr, l2, 0, fs, xs, f0, m3, (.gave 0), rfl, hP.same sC, O, sC9 _ _ hl2, hf0, hx0, hxv, hm3, fun t3 HA s10 ht3 => ?_⟩
       walk_at "rk"
       refine r_eqT (An.pd (.gave 0)) (An.dp ht3) (An.dp (an := (.gave 0)) (s10 _ _ htg)) (An.sh _) ?_
       walk_at "rk"
       refine ⟨pr, l2, c, fs, xs, f0, m1, an2, rfl, (hP.same sC).same s10, O, s10 _ _ (sC9 _ _ hl2), hf0, hx0, hxv, hm1, fun t4 HB s11 ht4 => ?_⟩
       walk_at "rk"
       refine r_eqT an2.pd (An.dp ht4) (An.dp (s11 _ _ (s10 _ _ (sC9 _ _ ht)))) an2.sh ?_
       exact q _
     | cons sm rm =>
       rw [show PyData.eqv (.list ((sm :: rm).map (pdS 5))) (.list []) = false from eqv_no _ _]
       have sC := sB
       have sC9 := s9
       obtain ⟨m3, hm3⟩ := zero_an O hf0 (xs := xs) (by omega)
       rw [ef] at hm3
       walk_at "rk"
       refine ⟨pr, l2, 0, fs, xs, f0, m3, .tired, rfl, hP.same sC, O, sC9 _ _ hl2, hf0, hx0, hxv, hm3, fun t3 HA s10 ht3 => ?_⟩
       walk_at "rk"
       refine r_eqT (An.pd .tired) (An.dp ht3) (An.dp (an := .tired) (s10 _ _ htn)) (An.sh _) ?_
       walk_at "rk"
       refine ⟨pr, l2, c, fs, xs, f0, m1, an2, rfl, (hP.same sC).same s10, O, s10 _ _ (sC9 _ _ hl2), hf0, hx0, hxv, hm1, fun t4 HB s11 ht4 => ?_⟩
       walk_at "rk"
       refine r_eqT an2.pd (An.dp ht4) (An.dp (s11 _ _ (s10 _ _ (sC9 _ _ ht)))) an2.sh ?_
       exact q _
end
set_option maxHeartbeats 8000000 in
theorem txt_mk {w : World} {K : PySem.W.Frag} {h : Heap} {mg : Str → Option Value} {fa : Addr} (X : K.In h) (G : h.Ns mainGlobals mg) (hfa : mg "law" = some (.ref fa))
   {t_NOUGHT : Tok}
   {G_PARTS : Addr} {ep_PARTS : Nat}
   {tk1 : Tok} {q0_PARTS : Addr}
   {tk2 : Tok}
   {tk3 : Tok}
   {od4 : Option Addr} {nn4 : Nat} {sl4 : Array (Option Value)}
   {tk5 : Tok} {q1_PARTS : Addr}
   {tk6 : Tok}
   {tk7 : Tok}
   {od8 : Option Addr} {nn8 : Nat} {sl8 : Array (Option Value)}
   {tk9 : Tok} {q2_PARTS : Addr}
   {tk10 : Tok}
   {tk11 : Tok}
   {tk12 : Tok}
   {od13 : Option Addr} {nn13 : Nat} {sl13 : Array (Option Value)}
   {tk14 : Tok} {q3_PARTS : Addr}
   {tk15 : Tok}
   {tk16 : Tok}
   {tk17 : Tok}
   {od18 : Option Addr} {nn18 : Nat} {sl18 : Array (Option Value)}
   {tk19 : Tok} {q4_PARTS : Addr}
   {tk20 : Tok}
   {tk21 : Tok}
   {tk22 : Tok}
   {od23 : Option Addr} {nn23 : Nat} {sl23 : Array (Option Value)}
   {tk24 : Tok} {q5_PARTS : Addr}
   {tk25 : Tok}
   {tk26 : Tok}
   {tk27 : Tok}
   {od28 : Option Addr} {nn28 : Nat} {sl28 : Array (Option Value)}
   {tk29 : Tok} {q6_PARTS : Addr}
   {tk30 : Tok}
   {tk31 : Tok}
   {tk32 : Tok}
   {od33 : Option Addr} {nn33 : Nat} {sl33 : Array (Option Value)}
   {tk34 : Tok} {q7_PARTS : Addr}
   {tk35 : Tok}
   {tk36 : Tok}
   {tk37 : Tok}
   {od38 : Option Addr} {nn38 : Nat} {sl38 : Array (Option Value)}
   {tk39 : Tok} {q8_PARTS : Addr}
   {tk40 : Tok}
   {tk41 : Tok}
   {od42 : Option Addr} {nn42 : Nat} {sl42 : Array (Option Value)}
   {tk43 : Tok} {q9_PARTS : Addr}
   {tk44 : Tok}
   {tk45 : Tok}
   {tk46 : Tok}
   {od47 : Option Addr} {nn47 : Nat} {sl47 : Array (Option Value)}
   {tk48 : Tok} {q10_PARTS : Addr}
   {tk49 : Tok}
   {od50 : Option Addr} {nn50 : Nat} {sl50 : Array (Option Value)}
   {tk51 : Tok} {q11_PARTS : Addr}
   {tk52 : Tok}
   {od53 : Option Addr} {nn53 : Nat} {sl53 : Array (Option Value)}
   {tk54 : Tok} {q12_PARTS : Addr}
   {tk55 : Tok}
   {tk56 : Tok}
   {od57 : Option Addr} {nn57 : Nat} {sl57 : Array (Option Value)}
   {t_SPARE : Tok}
   {t_TOP_CALLS : Tok}
   {t_TOP_FUNCTIONS : Tok}
   {t_TOP_HANDED : Tok}
   {t_TOP_NAME : Tok}
   {t_TOP_STATEMENTS : Tok}
   {t_TOP_VALUE : Tok}
   {t_TOP_WITHIN : Tok}
   {tk58 : Tok}
   {tk59 : Tok}
   {od60 : Option Addr} {nn60 : Nat} {sl60 : Array (Option Value)}
   {G_UNCOUNTED : Addr}
   {t_VALUES : Tok}
   {C_Doing : Addr}
   {C_NoProgram : Addr}
   {C_Run : Addr}
   {f61 : Addr} {od61 an61 : Option Addr} {sl61 : Array (Option Value)} {oc61 kV61 dc61 pm61 cd61 ct61 : Value}
   {f62 : Addr} {od62 an62 : Option Addr} {sl62 : Array (Option Value)} {oc62 kV62 dc62 pm62 cd62 ct62 : Value}
   {f63 : Addr} {od63 an63 : Option Addr} {sl63 : Array (Option Value)} {oc63 kV63 dc63 pm63 cd63 ct63 : Value}
   {f64 : Addr} {od64 an64 : Option Addr} {sl64 : Array (Option Value)} {oc64 kV64 dc64 pm64 cd64 ct64 : Value}
   {f65 : Addr} {od65 an65 : Option Addr} {sl65 : Array (Option Value)} {oc65 kV65 dc65 pm65 cd65 ct65 : Value}
   {f66 : Addr} {od66 an66 : Option Addr} {sl66 : Array (Option Value)} {oc66 kV66 dc66 pm66 cd66 ct66 : Value}
   {f67 : Addr} {od67 an67 : Option Addr} {sl67 : Array (Option Value)} {oc67 kV67 dc67 pm67 cd67 ct67 : Value}
   {f68 : Addr} {od68 an68 : Option Addr} {sl68 : Array (Option Value)} {oc68 kV68 dc68 pm68 cd68 ct68 : Value}
   {f69 : Addr} {od69 an69 : Option Addr} {sl69 : Array (Option Value)} {oc69 kV69 dc69 pm69 cd69 ct69 : Value}
   {f70 : Addr} {od70 an70 : Option Addr} {sl70 : Array (Option Value)} {oc70 kV70 dc70 pm70 cd70 ct70 : Value}
   {f71 : Addr} {od71 an71 : Option Addr} {sl71 : Array (Option Value)} {oc71 kV71 dc71 pm71 cd71 ct71 : Value}
   {f72 : Addr} {od72 an72 : Option Addr} {sl72 : Array (Option Value)} {oc72 kV72 dc72 pm72 cd72 ct72 : Value}
   {f73 : Addr} {od73 an73 : Option Addr} {sl73 : Array (Option Value)} {oc73 kV73 dc73 pm73 cd73 ct73 : Value}
   {f74 : Addr} {od74 an74 : Option Addr} {sl74 : Array (Option Value)} {oc74 kV74 dc74 pm74 cd74 ct74 : Value}
   {f75 : Addr} {od75 an75 : Option Addr} {sl75 : Array (Option Value)} {oc75 kV75 dc75 pm75 cd75 ct75 : Value}
   {f76 : Addr} {od76 an76 : Option Addr} {sl76 : Array (Option Value)} {oc76 kV76 dc76 pm76 cd76 ct76 : Value}
   {f77 : Addr} {od77 an77 : Option Addr} {sl77 : Array (Option Value)} {oc77 kV77 dc77 pm77 cd77 ct77 : Value}
   {f78 : Addr} {od78 an78 : Option Addr} {sl78 : Array (Option Value)} {oc78 kV78 dc78 pm78 cd78 ct78 : Value}
   {f79 : Addr} {od79 an79 : Option Addr} {sl79 : Array (Option Value)} {oc79 kV79 dc79 pm79 cd79 ct79 : Value}
   {f80 : Addr} {od80 an80 : Option Addr} {sl80 : Array (Option Value)} {oc80 kV80 dc80 pm80 cd80 ct80 : Value}
   {f81 : Addr} {od81 an81 : Option Addr} {sl81 : Array (Option Value)} {oc81 kV81 dc81 pm81 cd81 ct81 : Value}
   {f82 : Addr} {od82 an82 : Option Addr} {sl82 : Array (Option Value)} {oc82 kV82 dc82 pm82 cd82 ct82 : Value}
   {f83 : Addr} {od83 an83 : Option Addr} {sl83 : Array (Option Value)} {oc83 kV83 dc83 pm83 cd83 ct83 : Value}
   {f84 : Addr} {od84 an84 : Option Addr} {sl84 : Array (Option Value)} {oc84 kV84 dc84 pm84 cd84 ct84 : Value}
   {f85 : Addr} {od85 an85 : Option Addr} {sl85 : Array (Option Value)} {oc85 kV85 dc85 pm85 cd85 ct85 : Value}
   {f86 : Addr} {od86 an86 : Option Addr} {sl86 : Array (Option Value)} {oc86 kV86 dc86 pm86 cd86 ct86 : Value}
   {f87 : Addr} {od87 an87 : Option Addr} {sl87 : Array (Option Value)} {oc87 kV87 dc87 pm87 cd87 ct87 : Value}
   {f88 : Addr} {od88 an88 : Option Addr} {sl88 : Array (Option Value)} {oc88 kV88 dc88 pm88 cd88 ct88 : Value}
   {f89 : Addr} {od89 an89 : Option Addr} {sl89 : Array (Option Value)} {oc89 kV89 dc89 pm89 cd89 ct89 : Value}
   {f90 : Addr} {od90 an90 : Option Addr} {sl90 : Array (Option Value)} {oc90 kV90 dc90 pm90 cd90 ct90 : Value}
   {f91 : Addr} {od91 an91 : Option Addr} {sl91 : Array (Option Value)} {oc91 kV91 dc91 pm91 cd91 ct91 : Value}
   {f92 : Addr} {od92 an92 : Option Addr} {sl92 : Array (Option Value)} {oc92 kV92 dc92 pm92 cd92 ct92 : Value}
   {f93 : Addr} {od93 an93 : Option Addr} {sl93 : Array (Option Value)} {oc93 kV93 dc93 pm93 cd93 ct93 : Value}
   {f94 : Addr} {od94 an94 : Option Addr} {sl94 : Array (Option Value)} {oc94 kV94 dc94 pm94 cd94 ct94 : Value}
   {f95 : Addr} {od95 an95 : Option Addr} {sl95 : Array (Option Value)} {oc95 kV95 dc95 pm95 cd95 ct95 : Value}
   {f96 : Addr} {od96 an96 : Option Addr} {sl96 : Array (Option Value)} {oc96 kV96 dc96 pm96 cd96 ct96 : Value}
   {f97 : Addr} {od97 an97 : Option Addr} {sl97 : Array (Option Value)} {oc97 kV97 dc97 pm97 cd97 ct97 : Value}
   (z_all : PySem.W.nsIn K mainGlobals "all" = some none)
   (z_bool : PySem.W.nsIn K mainGlobals "bool" = some none)
   (z_int : PySem.W.nsIn K mainGlobals "int" = some none)
   (z_isinstance : PySem.W.nsIn K mainGlobals "isinstance" = some none)
   (z_len : PySem.W.nsIn K mainGlobals "len" = some none)
   (z_list : PySem.W.nsIn K mainGlobals "list" = some none)
   (z_range : PySem.W.nsIn K mainGlobals "range" = some none)
   (z_repr : PySem.W.nsIn K mainGlobals "repr" = some none)
   (z_str : PySem.W.nsIn K mainGlobals "str" = some none)
   (z_tuple : PySem.W.nsIn K mainGlobals "tuple" = some none)
   (z_zip : PySem.W.nsIn K mainGlobals "zip" = some none)
   (g_NOUGHT : PySem.W.nsIn K mainGlobals "NOUGHT" = some (some (Value.int 7 t_NOUGHT)))
   (g_PARTS : PySem.W.nsIn K mainGlobals "PARTS" = some (some (.ref G_PARTS)))
   (l_PARTS : K.lookup G_PARTS = some ⟨.type "dict", none, .dict #[{ hash := PyData.keyHash w.params "set", key := .str "set" tk1, val := .ref q0_PARTS }, { hash := PyData.keyHash w.params "copy", key := .str "copy" tk5, val := .ref q1_PARTS }, { hash := PyData.keyHash w.params "sum", key := .str "sum" tk9, val := .ref q2_PARTS }, { hash := PyData.keyHash w.params "minus", key := .str "minus" tk14, val := .ref q3_PARTS }, { hash := PyData.keyHash w.params "product", key := .str "product" tk19, val := .ref q4_PARTS }, { hash := PyData.keyHash w.params "less", key := .str "less" tk24, val := .ref q5_PARTS }, { hash := PyData.keyHash w.params "call", key := .str "call" tk29, val := .ref q6_PARTS }, { hash := PyData.keyHash w.params "if", key := .str "if" tk34, val := .ref q7_PARTS }, { hash := PyData.keyHash w.params "while", key := .str "while" tk39, val := .ref q8_PARTS }, { hash := PyData.keyHash w.params "try", key := .str "try" tk43, val := .ref q9_PARTS }, { hash := PyData.keyHash w.params "drop", key := .str "drop" tk48, val := .ref q10_PARTS }, { hash := PyData.keyHash w.params "give", key := .str "give" tk51, val := .ref q11_PARTS }, { hash := PyData.keyHash w.params "hand", key := .str "hand" tk54, val := .ref q12_PARTS }] ep_PARTS, #[]⟩)
   (y_PARTS : (G_PARTS == sysModules) = false)
   (t4_PARTS : K.lookup q0_PARTS = some ⟨.type "tuple", od4, .seq #[.str "name" tk2, .str "value" tk3] nn4, sl4⟩)
   (t8_PARTS : K.lookup q1_PARTS = some ⟨.type "tuple", od8, .seq #[.str "name" tk6, .str "name" tk7] nn8, sl8⟩)
   (t13_PARTS : K.lookup q2_PARTS = some ⟨.type "tuple", od13, .seq #[.str "name" tk10, .str "name" tk11, .str "name" tk12] nn13, sl13⟩)
   (t18_PARTS : K.lookup q3_PARTS = some ⟨.type "tuple", od18, .seq #[.str "name" tk15, .str "name" tk16, .str "name" tk17] nn18, sl18⟩)
   (t23_PARTS : K.lookup q4_PARTS = some ⟨.type "tuple", od23, .seq #[.str "name" tk20, .str "name" tk21, .str "name" tk22] nn23, sl23⟩)
   (t28_PARTS : K.lookup q5_PARTS = some ⟨.type "tuple", od28, .seq #[.str "name" tk25, .str "name" tk26, .str "name" tk27] nn28, sl28⟩)
   (t33_PARTS : K.lookup q6_PARTS = some ⟨.type "tuple", od33, .seq #[.str "name" tk30, .str "function" tk31, .str "names" tk32] nn33, sl33⟩)
   (t38_PARTS : K.lookup q7_PARTS = some ⟨.type "tuple", od38, .seq #[.str "name" tk35, .str "statements" tk36, .str "statements" tk37] nn38, sl38⟩)
   (t42_PARTS : K.lookup q8_PARTS = some ⟨.type "tuple", od42, .seq #[.str "name" tk40, .str "statements" tk41] nn42, sl42⟩)
   (t47_PARTS : K.lookup q9_PARTS = some ⟨.type "tuple", od47, .seq #[.str "statements" tk44, .str "name" tk45, .str "statements" tk46] nn47, sl47⟩)
   (t50_PARTS : K.lookup q10_PARTS = some ⟨.type "tuple", od50, .seq #[.str "name" tk49] nn50, sl50⟩)
   (t53_PARTS : K.lookup q11_PARTS = some ⟨.type "tuple", od53, .seq #[.str "name" tk52] nn53, sl53⟩)
   (t57_PARTS : K.lookup q12_PARTS = some ⟨.type "tuple", od57, .seq #[.str "function" tk55, .str "names" tk56] nn57, sl57⟩)
   (g_SPARE : PySem.W.nsIn K mainGlobals "SPARE" = some (some (Value.int 6 t_SPARE)))
   (g_TOP_CALLS : PySem.W.nsIn K mainGlobals "TOP_CALLS" = some (some (Value.int 20 t_TOP_CALLS)))
   (g_TOP_FUNCTIONS : PySem.W.nsIn K mainGlobals "TOP_FUNCTIONS" = some (some (Value.int 8 t_TOP_FUNCTIONS)))
   (g_TOP_HANDED : PySem.W.nsIn K mainGlobals "TOP_HANDED" = some (some (Value.int 3 t_TOP_HANDED)))
   (g_TOP_NAME : PySem.W.nsIn K mainGlobals "TOP_NAME" = some (some (Value.int 5 t_TOP_NAME)))
   (g_TOP_STATEMENTS : PySem.W.nsIn K mainGlobals "TOP_STATEMENTS" = some (some (Value.int 80 t_TOP_STATEMENTS)))
   (g_TOP_VALUE : PySem.W.nsIn K mainGlobals "TOP_VALUE" = some (some (Value.int 4294967295 t_TOP_VALUE)))
   (g_TOP_WITHIN : PySem.W.nsIn K mainGlobals "TOP_WITHIN" = some (some (Value.int 4 t_TOP_WITHIN)))
   (g_UNCOUNTED : PySem.W.nsIn K mainGlobals "UNCOUNTED" = some (some (.ref G_UNCOUNTED)))
   (t60_UNCOUNTED : K.lookup G_UNCOUNTED = some ⟨.type "tuple", od60, .seq #[.str "go" tk58, .str "leave" tk59] nn60, sl60⟩)
   (g_VALUES : PySem.W.nsIn K mainGlobals "VALUES" = some (some (Value.int 4294967296 t_VALUES)))
   (c_Doing : PySem.W.nsIn K mainGlobals "Doing" = some (some (.ref C_Doing)))
   (c_NoProgram : PySem.W.nsIn K mainGlobals "NoProgram" = some (some (.ref C_NoProgram)))
   (c_Run : PySem.W.nsIn K mainGlobals "Run" = some (some (.ref C_Run)))
   (pg_Doing : PySem.W.plainGet K C_Doing Str.empty = true)
   (hd_Doing : PySem.W.hasDictIn K C_Doing = true)
   (po_Doing : PySem.W.plainOver K C_Doing = true)
   (sa_Doing : PySem.W.findIn K (.ref C_Doing) "__setattr__" = some (some (.builtin "object.__setattr__")))
   (mk_Doing : PySem.W.makesIn K C_Doing = true)
   (kc_Doing : PySem.W.keepIn K (.ref C_Doing) = true)
   (n_Doing_moves : PySem.W.findIn K (.ref C_Doing) "moves" = some none)
   (n_Doing_mark : PySem.W.findIn K (.ref C_Doing) "mark" = some none)
   (n_Doing_names : PySem.W.findIn K (.ref C_Doing) "names" = some none)
   (a61 : PySem.W.findIn K (.ref C_Doing) "__init__" = some (some (.ref f61)))
   (i61 : PySem.W.isFn K (.ref f61) = true)
   (l61 : K.lookup f61 = some ⟨oc61, od61, .func (PySem.W.fnOf "__init__" "Doing.__init__" (defArgs s_Doing_init) (defBody s_Doing_init) (defScope s_Doing_init) .none kV61 dc61 pm61 an61 cd61 ct61), sl61⟩)
   (c61 : PySem.W.codeIn K cd61 "Doing.__init__" = true) (k61 : PySem.W.keepIn K (.ref f61) = true)
   (a62 : PySem.W.findIn K (.ref C_Doing) "lands" = some (some (.ref f62)))
   (i62 : PySem.W.isFn K (.ref f62) = true)
   (l62 : K.lookup f62 = some ⟨oc62, od62, .func (PySem.W.fnOf "lands" "Doing.lands" (defArgs s_Doing_lands) (defBody s_Doing_lands) (defScope s_Doing_lands) .none kV62 dc62 pm62 an62 cd62 ct62), sl62⟩)
   (c62 : PySem.W.codeIn K cd62 "Doing.lands" = true) (k62 : PySem.W.keepIn K (.ref f62) = true)
   (a63 : PySem.W.findIn K (.ref C_Doing) "last_move" = some (some (.ref f63)))
   (i63 : PySem.W.isFn K (.ref f63) = true)
   (l63 : K.lookup f63 = some ⟨oc63, od63, .func (PySem.W.fnOf "last_move" "Doing.last_move" (defArgs s_Doing_last_move) (defBody s_Doing_last_move) (defScope s_Doing_last_move) .none kV63 dc63 pm63 an63 cd63 ct63), sl63⟩)
   (c63 : PySem.W.codeIn K cd63 "Doing.last_move" = true) (k63 : PySem.W.keepIn K (.ref f63) = true)
   (pg_Run : PySem.W.plainGet K C_Run Str.empty = true)
   (hd_Run : PySem.W.hasDictIn K C_Run = true)
   (po_Run : PySem.W.plainOver K C_Run = true)
   (sa_Run : PySem.W.findIn K (.ref C_Run) "__setattr__" = some (some (.builtin "object.__setattr__")))
   (mk_Run : PySem.W.makesIn K C_Run = true)
   (kc_Run : PySem.W.keepIn K (.ref C_Run) = true)
   (n_Run_bodies : PySem.W.findIn K (.ref C_Run) "bodies" = some none)
   (n_Run_steps_left : PySem.W.findIn K (.ref C_Run) "steps_left" = some none)
   (n_Run_doings : PySem.W.findIn K (.ref C_Run) "doings" = some none)
   (n_Run_answer : PySem.W.findIn K (.ref C_Run) "answer" = some none)
   (n_Run_mark : PySem.W.findIn K (.ref C_Run) "mark" = some none)
   (a64 : PySem.W.findIn K (.ref C_Run) "__init__" = some (some (.ref f64)))
   (i64 : PySem.W.isFn K (.ref f64) = true)
   (l64 : K.lookup f64 = some ⟨oc64, od64, .func (PySem.W.fnOf "__init__" "Run.__init__" (defArgs s_Run_init) (defBody s_Run_init) (defScope s_Run_init) .none kV64 dc64 pm64 an64 cd64 ct64), sl64⟩)
   (c64 : PySem.W.codeIn K cd64 "Run.__init__" = true) (k64 : PySem.W.keepIn K (.ref f64) = true)
   (a65 : PySem.W.findIn K (.ref C_Run) "begin" = some (some (.ref f65)))
   (i65 : PySem.W.isFn K (.ref f65) = true)
   (l65 : K.lookup f65 = some ⟨oc65, od65, .func (PySem.W.fnOf "begin" "Run.begin" (defArgs s_Run_begin) (defBody s_Run_begin) (defScope s_Run_begin) .none kV65 dc65 pm65 an65 cd65 ct65), sl65⟩)
   (c65 : PySem.W.codeIn K cd65 "Run.begin" = true) (k65 : PySem.W.keepIn K (.ref f65) = true)
   (a66 : PySem.W.findIn K (.ref C_Run) "call" = some (some (.ref f66)))
   (i66 : PySem.W.isFn K (.ref f66) = true)
   (l66 : K.lookup f66 = some ⟨oc66, od66, .func (PySem.W.fnOf "call" "Run.call" (defArgs s_Run_call) (defBody s_Run_call) (defScope s_Run_call) .none kV66 dc66 pm66 an66 cd66 ct66), sl66⟩)
   (c66 : PySem.W.codeIn K cd66 "Run.call" = true) (k66 : PySem.W.keepIn K (.ref f66) = true)
   (a67 : PySem.W.findIn K (.ref C_Run) "drop" = some (some (.ref f67)))
   (i67 : PySem.W.isFn K (.ref f67) = true)
   (l67 : K.lookup f67 = some ⟨oc67, od67, .func (PySem.W.fnOf "drop" "Run.drop" (defArgs s_Run_drop) (defBody s_Run_drop) (defScope s_Run_drop) .none kV67 dc67 pm67 an67 cd67 ct67), sl67⟩)
   (c67 : PySem.W.codeIn K cd67 "Run.drop" = true) (k67 : PySem.W.keepIn K (.ref f67) = true)
   (a68 : PySem.W.findIn K (.ref C_Run) "leave" = some (some (.ref f68)))
   (i68 : PySem.W.isFn K (.ref f68) = true)
   (l68 : K.lookup f68 = some ⟨oc68, od68, .func (PySem.W.fnOf "leave" "Run.leave" (defArgs s_Run_leave) (defBody s_Run_leave) (defScope s_Run_leave) .none kV68 dc68 pm68 an68 cd68 ct68), sl68⟩)
   (c68 : PySem.W.codeIn K cd68 "Run.leave" = true) (k68 : PySem.W.keepIn K (.ref f68) = true)
   (a69 : PySem.W.findIn K (.ref C_Run) "make" = some (some (.ref f69)))
   (i69 : PySem.W.isFn K (.ref f69) = true)
   (l69 : K.lookup f69 = some ⟨oc69, od69, .func (PySem.W.fnOf "make" "Run.make" (defArgs s_Run_make) (defBody s_Run_make) (defScope s_Run_make) .none kV69 dc69 pm69 an69 cd69 ct69), sl69⟩)
   (c69 : PySem.W.codeIn K cd69 "Run.make" = true) (k69 : PySem.W.keepIn K (.ref f69) = true)
   (a70 : PySem.W.findIn K (.ref C_Run) "step" = some (some (.ref f70)))
   (i70 : PySem.W.isFn K (.ref f70) = true)
   (l70 : K.lookup f70 = some ⟨oc70, od70, .func (PySem.W.fnOf "step" "Run.step" (defArgs s_Run_step) (defBody s_Run_step) (defScope s_Run_step) .none kV70 dc70 pm70 an70 cd70 ct70), sl70⟩)
   (c70 : PySem.W.codeIn K cd70 "Run.step" = true) (k70 : PySem.W.keepIn K (.ref f70) = true)
   (k_int_int : PySem.W.kitOne K (.type "int") (.type "int") = some true)
   (k_int_bool : PySem.W.kitOne K (.type "int") (.type "bool") = some false)
   (k_tuple_tuple : PySem.W.kitOne K (.type "tuple") (.type "tuple") = some true)
   (k_str_str : PySem.W.kitOne K (.type "str") (.type "str") = some true)
   (k_list_list : PySem.W.kitOne K (.type "list") (.type "list") = some true)
   (k_tuple_list : PySem.W.kitOne K (.type "tuple") (.type "list") = some false)
   (a71 : PySem.W.nsIn K mainGlobals "is_whole" = some (some (.ref f71)))
   (l71 : K.lookup f71 = some ⟨oc71, od71, .func (PySem.W.fnOf "is_whole" "is_whole" (defArgs s_is_whole) (defBody s_is_whole) (defScope s_is_whole) .none kV71 dc71 pm71 an71 cd71 ct71), sl71⟩)
   (c71 : PySem.W.codeIn K cd71 "is_whole" = true) (k71 : PySem.W.keepIn K (.ref f71) = true)
   (a72 : PySem.W.nsIn K mainGlobals "add_if" = some (some (.ref f72)))
   (l72 : K.lookup f72 = some ⟨oc72, od72, .func (PySem.W.fnOf "add_if" "add_if" (defArgs s_add_if) (defBody s_add_if) (defScope s_add_if) .none kV72 dc72 pm72 an72 cd72 ct72), sl72⟩)
   (c72 : PySem.W.codeIn K cd72 "add_if" = true) (k72 : PySem.W.keepIn K (.ref f72) = true)
   (a73 : PySem.W.nsIn K mainGlobals "add_while" = some (some (.ref f73)))
   (l73 : K.lookup f73 = some ⟨oc73, od73, .func (PySem.W.fnOf "add_while" "add_while" (defArgs s_add_while) (defBody s_add_while) (defScope s_add_while) .none kV73 dc73 pm73 an73 cd73 ct73), sl73⟩)
   (c73 : PySem.W.codeIn K cd73 "add_while" = true) (k73 : PySem.W.keepIn K (.ref f73) = true)
   (a74 : PySem.W.nsIn K mainGlobals "add_try" = some (some (.ref f74)))
   (l74 : K.lookup f74 = some ⟨oc74, od74, .func (PySem.W.fnOf "add_try" "add_try" (defArgs s_add_try) (defBody s_add_try) (defScope s_add_try) .none kV74 dc74 pm74 an74 cd74 ct74), sl74⟩)
   (c74 : PySem.W.codeIn K cd74 "add_try" = true) (k74 : PySem.W.keepIn K (.ref f74) = true)
   (a75 : PySem.W.nsIn K mainGlobals "add_hand" = some (some (.ref f75)))
   (l75 : K.lookup f75 = some ⟨oc75, od75, .func (PySem.W.fnOf "add_hand" "add_hand" (defArgs s_add_hand) (defBody s_add_hand) (defScope s_add_hand) .none kV75 dc75 pm75 an75 cd75 ct75), sl75⟩)
   (c75 : PySem.W.codeIn K cd75 "add_hand" = true) (k75 : PySem.W.keepIn K (.ref f75) = true)
   (a76 : PySem.W.nsIn K mainGlobals "add_all" = some (some (.ref f76)))
   (l76 : K.lookup f76 = some ⟨oc76, od76, .func (PySem.W.fnOf "add_all" "add_all" (defArgs s_add_all) (defBody s_add_all) (defScope s_add_all) .none kV76 dc76 pm76 an76 cd76 ct76), sl76⟩)
   (c76 : PySem.W.codeIn K cd76 "add_all" = true) (k76 : PySem.W.keepIn K (.ref f76) = true)
   (a77 : PySem.W.nsIn K mainGlobals "moves_of" = some (some (.ref f77)))
   (l77 : K.lookup f77 = some ⟨oc77, od77, .func (PySem.W.fnOf "moves_of" "moves_of" (defArgs s_moves_of) (defBody s_moves_of) (defScope s_moves_of) .none kV77 dc77 pm77 an77 cd77 ct77), sl77⟩)
   (c77 : PySem.W.codeIn K cd77 "moves_of" = true) (k77 : PySem.W.keepIn K (.ref f77) = true)
   (a78 : PySem.W.nsIn K mainGlobals "is_up_to" = some (some (.ref f78)))
   (l78 : K.lookup f78 = some ⟨oc78, od78, .func (PySem.W.fnOf "is_up_to" "is_up_to" (defArgs s_is_up_to) (defBody s_is_up_to) (defScope s_is_up_to) .none kV78 dc78 pm78 an78 cd78 ct78), sl78⟩)
   (c78 : PySem.W.codeIn K cd78 "is_up_to" = true) (k78 : PySem.W.keepIn K (.ref f78) = true)
   (a79 : PySem.W.nsIn K mainGlobals "is_name" = some (some (.ref f79)))
   (l79 : K.lookup f79 = some ⟨oc79, od79, .func (PySem.W.fnOf "is_name" "is_name" (defArgs s_is_name) (defBody s_is_name) (defScope s_is_name) .none kV79 dc79 pm79 an79 cd79 ct79), sl79⟩)
   (c79 : PySem.W.codeIn K cd79 "is_name" = true) (k79 : PySem.W.keepIn K (.ref f79) = true)
   (a80 : PySem.W.nsIn K mainGlobals "are_names" = some (some (.ref f80)))
   (l80 : K.lookup f80 = some ⟨oc80, od80, .func (PySem.W.fnOf "are_names" "are_names" (defArgs s_are_names) (defBody s_are_names) (defScope s_are_names) .none kV80 dc80 pm80 an80 cd80 ct80), sl80⟩)
   (c80 : PySem.W.codeIn K cd80 "are_names" = true) (k80 : PySem.W.keepIn K (.ref f80) = true)
   (a81 : PySem.W.nsIn K mainGlobals "is_part" = some (some (.ref f81)))
   (l81 : K.lookup f81 = some ⟨oc81, od81, .func (PySem.W.fnOf "is_part" "is_part" (defArgs s_is_part) (defBody s_is_part) (defScope s_is_part) .none kV81 dc81 pm81 an81 cd81 ct81), sl81⟩)
   (c81 : PySem.W.codeIn K cd81 "is_part" = true) (k81 : PySem.W.keepIn K (.ref f81) = true)
   (a82 : PySem.W.nsIn K mainGlobals "is_statement" = some (some (.ref f82)))
   (l82 : K.lookup f82 = some ⟨oc82, od82, .func (PySem.W.fnOf "is_statement" "is_statement" (defArgs s_is_statement) (defBody s_is_statement) (defScope s_is_statement) .none kV82 dc82 pm82 an82 cd82 ct82), sl82⟩)
   (c82 : PySem.W.codeIn K cd82 "is_statement" = true) (k82 : PySem.W.keepIn K (.ref f82) = true)
   (a83 : PySem.W.nsIn K mainGlobals "lists_within" = some (some (.ref f83)))
   (l83 : K.lookup f83 = some ⟨oc83, od83, .func (PySem.W.fnOf "lists_within" "lists_within" (defArgs s_lists_within) (defBody s_lists_within) (defScope s_lists_within) .none kV83 dc83 pm83 an83 cd83 ct83), sl83⟩)
   (c83 : PySem.W.codeIn K cd83 "lists_within" = true) (k83 : PySem.W.keepIn K (.ref f83) = true)
   (a84 : PySem.W.nsIn K mainGlobals "are_statements" = some (some (.ref f84)))
   (l84 : K.lookup f84 = some ⟨oc84, od84, .func (PySem.W.fnOf "are_statements" "are_statements" (defArgs s_are_statements) (defBody s_are_statements) (defScope s_are_statements) .none kV84 dc84 pm84 an84 cd84 ct84), sl84⟩)
   (c84 : PySem.W.codeIn K cd84 "are_statements" = true) (k84 : PySem.W.keepIn K (.ref f84) = true)
   (a85 : PySem.W.nsIn K mainGlobals "is_function" = some (some (.ref f85)))
   (l85 : K.lookup f85 = some ⟨oc85, od85, .func (PySem.W.fnOf "is_function" "is_function" (defArgs s_is_function) (defBody s_is_function) (defScope s_is_function) .none kV85 dc85 pm85 an85 cd85 ct85), sl85⟩)
   (c85 : PySem.W.codeIn K cd85 "is_function" = true) (k85 : PySem.W.keepIn K (.ref f85) = true)
   (a86 : PySem.W.nsIn K mainGlobals "is_program" = some (some (.ref f86)))
   (l86 : K.lookup f86 = some ⟨oc86, od86, .func (PySem.W.fnOf "is_program" "is_program" (defArgs s_is_program) (defBody s_is_program) (defScope s_is_program) .none kV86 dc86 pm86 an86 cd86 ct86), sl86⟩)
   (c86 : PySem.W.codeIn K cd86 "is_program" = true) (k86 : PySem.W.keepIn K (.ref f86) = true)
   (a87 : PySem.W.nsIn K mainGlobals "asked_for_program" = some (some (.ref f87)))
   (l87 : K.lookup f87 = some ⟨oc87, od87, .func (PySem.W.fnOf "asked_for_program" "asked_for_program" (defArgs s_asked_for_program) (defBody s_asked_for_program) (defScope s_asked_for_program) .none kV87 dc87 pm87 an87 cd87 ct87), sl87⟩)
   (c87 : PySem.W.codeIn K cd87 "asked_for_program" = true) (k87 : PySem.W.keepIn K (.ref f87) = true)
   (a88 : PySem.W.nsIn K mainGlobals "reckoned" = some (some (.ref f88)))
   (l88 : K.lookup f88 = some ⟨oc88, od88, .func (PySem.W.fnOf "reckoned" "reckoned" (defArgs s_reckoned) (defBody s_reckoned) (defScope s_reckoned) .none kV88 dc88 pm88 an88 cd88 ct88), sl88⟩)
   (c88 : PySem.W.codeIn K cd88 "reckoned" = true) (k88 : PySem.W.keepIn K (.ref f88) = true)
   (a89 : PySem.W.nsIn K mainGlobals "run" = some (some (.ref f89)))
   (l89 : K.lookup f89 = some ⟨oc89, od89, .func (PySem.W.fnOf "run" "run" (defArgs s_run) (defBody s_run) (defScope s_run) .none kV89 dc89 pm89 an89 cd89 ct89), sl89⟩)
   (c89 : PySem.W.codeIn K cd89 "run" = true) (k89 : PySem.W.keepIn K (.ref f89) = true)
   (a90 : PySem.W.nsIn K mainGlobals "_law_cell_at" = some (some (.ref f90)))
   (l90 : K.lookup f90 = some ⟨oc90, od90, .func (PySem.W.fnOf "_law_cell_at" "_law_cell_at" (defArgs s_law_cell_at) (defBody s_law_cell_at) (defScope s_law_cell_at) .none kV90 dc90 pm90 an90 cd90 ct90), sl90⟩)
   (c90 : PySem.W.codeIn K cd90 "_law_cell_at" = true) (k90 : PySem.W.keepIn K (.ref f90) = true)
   (a91 : PySem.W.nsIn K mainGlobals "_law_number" = some (some (.ref f91)))
   (l91 : K.lookup f91 = some ⟨oc91, od91, .func (PySem.W.fnOf "_law_number" "_law_number" (defArgs s_law_number) (defBody s_law_number) (defScope s_law_number) .none kV91 dc91 pm91 an91 cd91 ct91), sl91⟩)
   (c91 : PySem.W.codeIn K cd91 "_law_number" = true) (k91 : PySem.W.keepIn K (.ref f91) = true)
   (a92 : PySem.W.nsIn K mainGlobals "_law_block" = some (some (.ref f92)))
   (l92 : K.lookup f92 = some ⟨oc92, od92, .func (PySem.W.fnOf "_law_block" "_law_block" (defArgs s_law_block) (defBody s_law_block) (defScope s_law_block) .none kV92 dc92 pm92 an92 cd92 ct92), sl92⟩)
   (c92 : PySem.W.codeIn K cd92 "_law_block" = true) (k92 : PySem.W.keepIn K (.ref f92) = true)
   (a93 : PySem.W.nsIn K mainGlobals "_law_nested" = some (some (.ref f93)))
   (l93 : K.lookup f93 = some ⟨oc93, od93, .func (PySem.W.fnOf "_law_nested" "_law_nested" (defArgs s_law_nested) (defBody s_law_nested) (defScope s_law_nested) .none kV93 dc93 pm93 an93 cd93 ct93), sl93⟩)
   (c93 : PySem.W.codeIn K cd93 "_law_nested" = true) (k93 : PySem.W.keepIn K (.ref f93) = true)
   (a94 : PySem.W.nsIn K mainGlobals "_law_statement" = some (some (.ref f94)))
   (l94 : K.lookup f94 = some ⟨oc94, od94, .func (PySem.W.fnOf "_law_statement" "_law_statement" (defArgs s_law_statement) (defBody s_law_statement) (defScope s_law_statement) .none kV94 dc94 pm94 an94 cd94 ct94), sl94⟩)
   (c94 : PySem.W.codeIn K cd94 "_law_statement" = true) (k94 : PySem.W.keepIn K (.ref f94) = true)
   (a95 : PySem.W.nsIn K mainGlobals "_law_program" = some (some (.ref f95)))
   (l95 : K.lookup f95 = some ⟨oc95, od95, .func (PySem.W.fnOf "_law_program" "_law_program" (defArgs s_law_program) (defBody s_law_program) (defScope s_law_program) .none kV95 dc95 pm95 an95 cd95 ct95), sl95⟩)
   (c95 : PySem.W.codeIn K cd95 "_law_program" = true) (k95 : PySem.W.keepIn K (.ref f95) = true)
   (a96 : PySem.W.nsIn K mainGlobals "_law_answer" = some (some (.ref f96)))
   (l96 : K.lookup f96 = some ⟨oc96, od96, .func (PySem.W.fnOf "_law_answer" "_law_answer" (defArgs s_law_answer) (defBody s_law_answer) (defScope s_law_answer) .none kV96 dc96 pm96 an96 cd96 ct96), sl96⟩)
   (c96 : PySem.W.codeIn K cd96 "_law_answer" = true) (k96 : PySem.W.keepIn K (.ref f96) = true)
   (a97 : PySem.W.nsIn K mainGlobals "law" = some (some (.ref f97)))
   (l97 : K.lookup f97 = some ⟨oc97, od97, .func (PySem.W.fnOf "law" "law" (defArgs s_law) (defBody s_law) (defScope s_law) .none kV97 dc97 pm97 an97 cd97 ct97), sl97⟩)
   (c97 : PySem.W.codeIn K cd97 "law" = true) (k97 : PySem.W.keepIn K (.ref f97) = true) :
   ∃ (a : Adr) (fd : FuncData), Txt w K mg a ∧ Fun K "law" "law" s_law fa fd ∧ ∀ (s : Shared) (v : Value), BindsTo s fd ⟨[v], []⟩ [("_law_script", v)] := by
 have e := hfa.symm.trans (PySem.W.mg_of X G a97)
 cases e
 refine ⟨⟨0, 0, 0, 0, 0, 0, 0, 0, 0, 0, 0, 0, 0, 0, 0, 0, 0, 0, 0, 0, 0, 0, C_Doing, 0, C_Run, 0, C_NoProgram, 0, 0, 0, 0, 0, 0, 0, G_PARTS, G_UNCOUNTED⟩, _, ?_, fun_mk (st := s_law) l97 c97 k97, fun s v => .of_eq rfl⟩
 exact {
   z_all := PySem.W.mg_none_of X G z_all
   z_bool := PySem.W.mg_none_of X G z_bool
   z_int := PySem.W.mg_none_of X G z_int
   z_isinstance := PySem.W.mg_none_of X G z_isinstance
   z_len := PySem.W.mg_none_of X G z_len
   z_list := PySem.W.mg_none_of X G z_list
   z_range := PySem.W.mg_none_of X G z_range
   z_repr := PySem.W.mg_none_of X G z_repr
   z_str := PySem.W.mg_none_of X G z_str
   z_tuple := PySem.W.mg_none_of X G z_tuple
   z_zip := PySem.W.mg_none_of X G z_zip
   g_NOUGHT := ⟨_, PySem.W.mg_of X G g_NOUGHT⟩
   s_PARTS := PySem.W.mg_of X G g_PARTS
   d_PARTS := ⟨_, _, _, _, _, _, _, _, _, _, _, _, _, ⟨y_PARTS, (show List.Nodup [(Sum.inr ("set" : Str) : Key), (Sum.inr ("copy" : Str) : Key), (Sum.inr ("sum" : Str) : Key), (Sum.inr ("minus" : Str) : Key), (Sum.inr ("product" : Str) : Key), (Sum.inr ("less" : Str) : Key), (Sum.inr ("call" : Str) : Key), (Sum.inr ("if" : Str) : Key), (Sum.inr ("while" : Str) : Key), (Sum.inr ("try" : Str) : Key), (Sum.inr ("drop" : Str) : Key), (Sum.inr ("give" : Str) : Key), (Sum.inr ("hand" : Str) : Key)] from by decide +kernel), [("set", tk1, .ref q0_PARTS), ("copy", tk5, .ref q1_PARTS), ("sum", tk9, .ref q2_PARTS), ("minus", tk14, .ref q3_PARTS), ("product", tk19, .ref q4_PARTS), ("less", tk24, .ref q5_PARTS), ("call", tk29, .ref q6_PARTS), ("if", tk34, .ref q7_PARTS), ("while", tk39, .ref q8_PARTS), ("try", tk43, .ref q9_PARTS), ("drop", tk48, .ref q10_PARTS), ("give", tk51, .ref q11_PARTS), ("hand", tk54, .ref q12_PARTS)], ep_PARTS, (.cons rfl (.cons rfl (.cons rfl (.cons rfl (.cons rfl (.cons rfl (.cons rfl (.cons rfl (.cons rfl (.cons rfl (.cons rfl (.cons rfl (.cons rfl .nil))))))))))))), l_PARTS⟩, sqtK t4_PARTS (show 2 ≤ sizeLine by decide) (.cons ⟨_, rfl⟩ (.cons ⟨_, rfl⟩ .nil)), sqtK t8_PARTS (show 2 ≤ sizeLine by decide) (.cons ⟨_, rfl⟩ (.cons ⟨_, rfl⟩ .nil)), sqtK t13_PARTS (show 3 ≤ sizeLine by decide) (.cons ⟨_, rfl⟩ (.cons ⟨_, rfl⟩ (.cons ⟨_, rfl⟩ .nil))), sqtK t18_PARTS (show 3 ≤ sizeLine by decide) (.cons ⟨_, rfl⟩ (.cons ⟨_, rfl⟩ (.cons ⟨_, rfl⟩ .nil))), sqtK t23_PARTS (show 3 ≤ sizeLine by decide) (.cons ⟨_, rfl⟩ (.cons ⟨_, rfl⟩ (.cons ⟨_, rfl⟩ .nil))), sqtK t28_PARTS (show 3 ≤ sizeLine by decide) (.cons ⟨_, rfl⟩ (.cons ⟨_, rfl⟩ (.cons ⟨_, rfl⟩ .nil))), sqtK t33_PARTS (show 3 ≤ sizeLine by decide) (.cons ⟨_, rfl⟩ (.cons ⟨_, rfl⟩ (.cons ⟨_, rfl⟩ .nil))), sqtK t38_PARTS (show 3 ≤ sizeLine by decide) (.cons ⟨_, rfl⟩ (.cons ⟨_, rfl⟩ (.cons ⟨_, rfl⟩ .nil))), sqtK t42_PARTS (show 2 ≤ sizeLine by decide) (.cons ⟨_, rfl⟩ (.cons ⟨_, rfl⟩ .nil)), sqtK t47_PARTS (show 3 ≤ sizeLine by decide) (.cons ⟨_, rfl⟩ (.cons ⟨_, rfl⟩ (.cons ⟨_, rfl⟩ .nil))), sqtK t50_PARTS (show 1 ≤ sizeLine by decide) (.cons ⟨_, rfl⟩ .nil), sqtK t53_PARTS (show 1 ≤ sizeLine by decide) (.cons ⟨_, rfl⟩ .nil), sqtK t57_PARTS (show 2 ≤ sizeLine by decide) (.cons ⟨_, rfl⟩ (.cons ⟨_, rfl⟩ .nil))⟩
   g_SPARE := ⟨_, PySem.W.mg_of X G g_SPARE⟩
   g_TOP_CALLS := ⟨_, PySem.W.mg_of X G g_TOP_CALLS⟩
   g_TOP_FUNCTIONS := ⟨_, PySem.W.mg_of X G g_TOP_FUNCTIONS⟩
   g_TOP_HANDED := ⟨_, PySem.W.mg_of X G g_TOP_HANDED⟩
   g_TOP_NAME := ⟨_, PySem.W.mg_of X G g_TOP_NAME⟩
   g_TOP_STATEMENTS := ⟨_, PySem.W.mg_of X G g_TOP_STATEMENTS⟩
   g_TOP_VALUE := ⟨_, PySem.W.mg_of X G g_TOP_VALUE⟩
   g_TOP_WITHIN := ⟨_, PySem.W.mg_of X G g_TOP_WITHIN⟩
   s_UNCOUNTED := PySem.W.mg_of X G g_UNCOUNTED
   t_UNCOUNTED := sqtK t60_UNCOUNTED (show 2 ≤ sizeLine by decide) (.cons ⟨_, rfl⟩ (.cons ⟨_, rfl⟩ .nil))
   g_VALUES := ⟨_, PySem.W.mg_of X G g_VALUES⟩
   c_Doing := PySem.W.mg_of X G c_Doing
   c_NoProgram := PySem.W.mg_of X G c_NoProgram
   c_Run := PySem.W.mg_of X G c_Run
   cl_Doing := ⟨pg_Doing, hd_Doing, po_Doing, sa_Doing⟩
   n_Doing_moves := n_Doing_moves
   n_Doing_mark := n_Doing_mark
   n_Doing_names := n_Doing_names
   i_Doing := ⟨_, _, fun_mk (st := s_Doing_init) l61 c61 k61, ⟨mk_Doing, a61, i61, kc_Doing⟩, (fun_mk (st := s_Doing_init) l61 c61 k61).binds (ps := ["self", "moves", "values"]) fun _ _ _ _ _ _ us hl => match us, hl with | [_, _, _], _ => rfl⟩
   m_Doing_lands := ⟨_, _, fun_mk (st := s_Doing_lands) l62 c62 k62, ⟨a62, i62, k62⟩, (fun_mk (st := s_Doing_lands) l62 c62 k62).binds (ps := ["self", "value"]) fun _ _ _ _ _ _ us hl => match us, hl with | [_, _], _ => rfl⟩
   m_Doing_last_move := ⟨_, _, fun_mk (st := s_Doing_last_move) l63 c63 k63, ⟨a63, i63, k63⟩, (fun_mk (st := s_Doing_last_move) l63 c63 k63).binds (ps := ["self"]) fun _ _ _ _ _ _ us hl => match us, hl with | [_], _ => rfl⟩
   cl_Run := ⟨pg_Run, hd_Run, po_Run, sa_Run⟩
   n_Run_bodies := n_Run_bodies
   n_Run_steps_left := n_Run_steps_left
   n_Run_doings := n_Run_doings
   n_Run_answer := n_Run_answer
   n_Run_mark := n_Run_mark
   i_Run := ⟨_, _, fun_mk (st := s_Run_init) l64 c64 k64, ⟨mk_Run, a64, i64, kc_Run⟩, (fun_mk (st := s_Run_init) l64 c64 k64).binds (ps := ["self", "program", "steps"]) fun _ _ _ _ _ _ us hl => match us, hl with | [_, _, _], _ => rfl⟩
   m_Run_begin := ⟨_, _, fun_mk (st := s_Run_begin) l65 c65 k65, ⟨a65, i65, k65⟩, (fun_mk (st := s_Run_begin) l65 c65 k65).binds (ps := ["self", "function", "values"]) fun _ _ _ _ _ _ us hl => match us, hl with | [_, _, _], _ => rfl⟩
   m_Run_call := ⟨_, _, fun_mk (st := s_Run_call) l66 c66 k66, ⟨a66, i66, k66⟩, (fun_mk (st := s_Run_call) l66 c66 k66).binds (ps := ["self", "function", "values"]) fun _ _ _ _ _ _ us hl => match us, hl with | [_, _, _], _ => rfl⟩
   m_Run_drop := ⟨_, _, fun_mk (st := s_Run_drop) l67 c67 k67, ⟨a67, i67, k67⟩, (fun_mk (st := s_Run_drop) l67 c67 k67).binds (ps := ["self", "value"]) fun _ _ _ _ _ _ us hl => match us, hl with | [_, _], _ => rfl⟩
   m_Run_leave := ⟨_, _, fun_mk (st := s_Run_leave) l68 c68 k68, ⟨a68, i68, k68⟩, (fun_mk (st := s_Run_leave) l68 c68 k68).binds (ps := ["self", "value"]) fun _ _ _ _ _ _ us hl => match us, hl with | [_, _], _ => rfl⟩
   m_Run_make := ⟨_, _, fun_mk (st := s_Run_make) l69 c69 k69, ⟨a69, i69, k69⟩, (fun_mk (st := s_Run_make) l69 c69 k69).binds (ps := ["self", "doing", "move"]) fun _ _ _ _ _ _ us hl => match us, hl with | [_, _, _], _ => rfl⟩
   m_Run_step := ⟨_, _, fun_mk (st := s_Run_step) l70 c70 k70, ⟨a70, i70, k70⟩, (fun_mk (st := s_Run_step) l70 c70 k70).binds (ps := ["self"]) fun _ _ _ _ _ _ us hl => match us, hl with | [_], _ => rfl⟩
   k_int_int := k_int_int
   k_int_bool := k_int_bool
   k_tuple_tuple := k_tuple_tuple
   k_str_str := k_str_str
   k_list_list := k_list_list
   k_tuple_list := k_tuple_list
   fn_is_whole := ⟨_, _, fun_mk (st := s_is_whole) l71 c71 k71, PySem.W.mg_of X G a71, (fun_mk (st := s_is_whole) l71 c71 k71).binds (ps := ["number"]) fun _ _ _ _ _ _ us hl => match us, hl with | [_], _ => rfl⟩
   fn_add_if := ⟨_, _, fun_mk (st := s_add_if) l72 c72 k72, PySem.W.mg_of X G a72, (fun_mk (st := s_add_if) l72 c72 k72).binds (ps := ["moves", "statement", "landing"]) fun _ _ _ _ _ _ us hl => match us, hl with | [_, _, _], _ => rfl⟩
   fn_add_while := ⟨_, _, fun_mk (st := s_add_while) l73 c73 k73, PySem.W.mg_of X G a73, (fun_mk (st := s_add_while) l73 c73 k73).binds (ps := ["moves", "statement", "landing"]) fun _ _ _ _ _ _ us hl => match us, hl with | [_, _, _], _ => rfl⟩
   fn_add_try := ⟨_, _, fun_mk (st := s_add_try) l74 c74 k74, PySem.W.mg_of X G a74, (fun_mk (st := s_add_try) l74 c74 k74).binds (ps := ["moves", "statement", "landing"]) fun _ _ _ _ _ _ us hl => match us, hl with | [_, _, _], _ => rfl⟩
   fn_add_hand := ⟨_, _, fun_mk (st := s_add_hand) l75 c75 k75, PySem.W.mg_of X G a75, (fun_mk (st := s_add_hand) l75 c75 k75).binds (ps := ["moves", "statement", "landing"]) fun _ _ _ _ _ _ us hl => match us, hl with | [_, _, _], _ => rfl⟩
   fn_add_all := ⟨_, _, fun_mk (st := s_add_all) l76 c76 k76, PySem.W.mg_of X G a76, (fun_mk (st := s_add_all) l76 c76 k76).binds (ps := ["moves", "statements", "landing"]) fun _ _ _ _ _ _ us hl => match us, hl with | [_, _, _], _ => rfl⟩
   fn_moves_of := ⟨_, _, fun_mk (st := s_moves_of) l77 c77 k77, PySem.W.mg_of X G a77, (fun_mk (st := s_moves_of) l77 c77 k77).binds (ps := ["body"]) fun _ _ _ _ _ _ us hl => match us, hl with | [_], _ => rfl⟩
   fn_is_up_to := ⟨_, _, fun_mk (st := s_is_up_to) l78 c78 k78, PySem.W.mg_of X G a78, (fun_mk (st := s_is_up_to) l78 c78 k78).binds (ps := ["thing", "top"]) fun _ _ _ _ _ _ us hl => match us, hl with | [_, _], _ => rfl⟩
   fn_is_name := ⟨_, _, fun_mk (st := s_is_name) l79 c79 k79, PySem.W.mg_of X G a79, (fun_mk (st := s_is_name) l79 c79 k79).binds (ps := ["thing"]) fun _ _ _ _ _ _ us hl => match us, hl with | [_], _ => rfl⟩
   fn_are_names := ⟨_, _, fun_mk (st := s_are_names) l80 c80 k80, PySem.W.mg_of X G a80, (fun_mk (st := s_are_names) l80 c80 k80).binds (ps := ["things"]) fun _ _ _ _ _ _ us hl => match us, hl with | [_], _ => rfl⟩
   fn_is_part := ⟨_, _, fun_mk (st := s_is_part) l81 c81 k81, PySem.W.mg_of X G a81, (fun_mk (st := s_is_part) l81 c81 k81).binds (ps := ["part", "kind", "functions"]) fun _ _ _ _ _ _ us hl => match us, hl with | [_, _, _], _ => rfl⟩
   fn_is_statement := ⟨_, _, fun_mk (st := s_is_statement) l82 c82 k82, PySem.W.mg_of X G a82, (fun_mk (st := s_is_statement) l82 c82 k82).binds (ps := ["statement", "handed"]) fun _ _ _ _ _ _ us hl => match us, hl with | [_, _], _ => rfl⟩
   fn_lists_within := ⟨_, _, fun_mk (st := s_lists_within) l83 c83 k83, PySem.W.mg_of X G a83, (fun_mk (st := s_lists_within) l83 c83 k83).binds (ps := ["statement"]) fun _ _ _ _ _ _ us hl => match us, hl with | [_], _ => rfl⟩
   fn_are_statements := ⟨_, _, fun_mk (st := s_are_statements) l84 c84 k84, PySem.W.mg_of X G a84, (fun_mk (st := s_are_statements) l84 c84 k84).binds (ps := ["bodies", "handed"]) fun _ _ _ _ _ _ us hl => match us, hl with | [_, _], _ => rfl⟩
   fn_is_function := ⟨_, _, fun_mk (st := s_is_function) l85 c85 k85, PySem.W.mg_of X G a85, (fun_mk (st := s_is_function) l85 c85 k85).binds (ps := ["function"]) fun _ _ _ _ _ _ us hl => match us, hl with | [_], _ => rfl⟩
   fn_is_program := ⟨_, _, fun_mk (st := s_is_program) l86 c86 k86, PySem.W.mg_of X G a86, (fun_mk (st := s_is_program) l86 c86 k86).binds (ps := ["program"]) fun _ _ _ _ _ _ us hl => match us, hl with | [_], _ => rfl⟩
   fn_asked_for_program := ⟨_, _, fun_mk (st := s_asked_for_program) l87 c87 k87, PySem.W.mg_of X G a87, (fun_mk (st := s_asked_for_program) l87 c87 k87).binds (ps := ["program"]) fun _ _ _ _ _ _ us hl => match us, hl with | [_], _ => rfl⟩
   fn_reckoned := ⟨_, _, fun_mk (st := s_reckoned) l88 c88 k88, PySem.W.mg_of X G a88, (fun_mk (st := s_reckoned) l88 c88 k88).binds (ps := ["move", "names"]) fun _ _ _ _ _ _ us hl => match us, hl with | [_, _], _ => rfl⟩
   fn_run := ⟨_, _, fun_mk (st := s_run) l89 c89 k89, PySem.W.mg_of X G a89, (fun_mk (st := s_run) l89 c89 k89).binds (ps := ["program", "values", "steps"]) fun _ _ _ _ _ _ us hl => match us, hl with | [_, _, _], _ => rfl⟩
   fn_law_cell_at := ⟨_, _, fun_mk (st := s_law_cell_at) l90 c90 k90, PySem.W.mg_of X G a90, (fun_mk (st := s_law_cell_at) l90 c90 k90).binds (ps := ["_law_script", "_law_k"]) fun _ _ _ _ _ _ us hl => match us, hl with | [_, _], _ => rfl⟩
   fn_law_number := ⟨_, _, fun_mk (st := s_law_number) l91 c91 k91, PySem.W.mg_of X G a91, (fun_mk (st := s_law_number) l91 c91 k91).binds (ps := ["_law_script", "_law_k"]) fun _ _ _ _ _ _ us hl => match us, hl with | [_, _], _ => rfl⟩
   fn_law_block := ⟨_, _, fun_mk (st := s_law_block) l92 c92 k92, PySem.W.mg_of X G a92, (fun_mk (st := s_law_block) l92 c92 k92).binds (ps := ["_law_script", "_law_at", "_law_many", "_law_deep", "_law_handed"]) fun _ _ _ _ _ _ us hl => match us, hl with | [_, _, _, _, _], _ => rfl⟩
   fn_law_nested := ⟨_, _, fun_mk (st := s_law_nested) l93 c93 k93, PySem.W.mg_of X G a93, (fun_mk (st := s_law_nested) l93 c93 k93).binds (ps := ["_law_script", "_law_at", "_law_deep", "_law_handed"]) fun _ _ _ _ _ _ us hl => match us, hl with | [_, _, _, _], _ => rfl⟩
   fn_law_statement := ⟨_, _, fun_mk (st := s_law_statement) l94 c94 k94, PySem.W.mg_of X G a94, (fun_mk (st := s_law_statement) l94 c94 k94).binds (ps := ["_law_script", "_law_at", "_law_deep", "_law_handed"]) fun _ _ _ _ _ _ us hl => match us, hl with | [_, _, _, _], _ => rfl⟩
   fn_law_program := ⟨_, _, fun_mk (st := s_law_program) l95 c95 k95, PySem.W.mg_of X G a95, (fun_mk (st := s_law_program) l95 c95 k95).binds (ps := ["_law_script"]) fun _ _ _ _ _ _ us hl => match us, hl with | [_], _ => rfl⟩
   fn_law_answer := ⟨_, _, fun_mk (st := s_law_answer) l96 c96 k96, PySem.W.mg_of X G a96, (fun_mk (st := s_law_answer) l96 c96 k96).binds (ps := ["_law_found"]) fun _ _ _ _ _ _ us hl => match us, hl with | [_], _ => rfl⟩
   fn_law := ⟨_, _, fun_mk (st := s_law) l97 c97 k97, PySem.W.mg_of X G a97, (fun_mk (st := s_law) l97 c97 k97).binds (ps := ["_law_script"]) fun _ _ _ _ _ _ us hl => match us, hl with | [_], _ => rfl⟩ }
theorem walk {l : PySem.W.OpenLaw} {q : Program} {loose : List Str} {XP : (Str → Option Value) → Heap → Prop} {YP : World → Heap → Prop} {d : DefRec} {K : Params → PySem.W.Frag} (hn : l.most = some 63) (hdf : d.params.defaults = [])
   (hY : ∀ (w : World) (h : Heap), YP w h → (K w.params).In h)
   (F : ∀ (w : World) (mg : Str → Option Value) (fa : Addr) (h : Heap), (K w.params).In h → h.Ns mainGlobals mg → mg d.name = some (.ref fa) →
     ∃ fd : FuncData, (∀ (s : Shared) (u : Value), BindsTo s fd ⟨[u], []⟩ [("_law_script", u)]) ∧ ∀ base : Heap, (K w.params).In base → base.Ns mainGlobals mg → FnOk l.prog w (K w.params) mg base CX0 18 fa fd ["_law_script"] (spLaw (K w.params))) :
   PySem.W.WalkO q loose XP YP l.row.toRowW d [] (fun f vs => PySem.call f vs) :=
 L2.walk_of (n := 63) (k := 18) (x := "_law_script") (CX := fun _ => CX0) (sp := fun w => spLaw (K w.params)) hn (by decide) hdf ⟨rfl, by decide, by decide, rfl⟩ hY F (fun _ _ a ns hl _ hS => ⟨a, ns, rfl, hS, hl, fun _ => rfl⟩) fun _ _ _ _ _ z => z
end FB
namespace PySem.W.Fast
def tw4987508180654737043:=0
def tw14175750874253941757:=0
def tw4549978104240266597:=0
def tw4136079873379705500:=0
def tw16332867548075387283:=0
def tw10315633147098029513:=0
def tw7602873821826875022:=0
def tw10400476516612801903:=0
def tw9306362776749611446:=0
def tw12587197083840023501:=0
def tw49486438550633753:=0
def tw1056822571905618056:=0
def tw13535695346910529850:=0
def tw5729728146959241401:=0
def tw15217315318786440091:=0
def tw16282042517816332926:=0
def tw11813651790390189137:=0
def tw5417149689777559617:=0
def tw14638051814774729069:=0
def tw10562519373571073050:=0
def tw9094180546665068723:=0
def tw15608601755980457237:=0
def tw658123870952952160:=0
def tw9080812372612207081:=0
def tw10316489227340659464:=0
def tw15586527816990370544:=0
def tw7696294747614435398:=0
def tw16964228509750025744:=0
def tw6369457948124620229:=0
def tw3613557022407791606:=0
def tw4705296909685729664:=0
def tw11017286447457423583:=0
def tw4732756047900339643:=0
def tw10107437951319890248:=0
def tw16526711287266433354:=0
def tw14122233183542569037:=0
def tw3523339179553023955:=0
def tw12270196686029905984:=0
def tw5388799704685382893:=0
def tw7833126026678710984:=0
def tw7187203409131013179:=0
def tw804558231041472239:=0
def tw8088830592291712991:=0
def tw7484267077664560800:=0
def tw2090817035950286306:=0
def tw9536576316095986261:=0
def tw16103182633321552322:=0
def tw16086213829531559413:=0
def tw2598702540888929989:=0
def tw3898497768632878329:=0
def tw16407595362254388709:=0
def tw15298837274119344584:=0
def tw10881554688478869848:=0
def tw15984901182882205669:=0
def tw14226098318738511104:=0
def tw1801341140298245183:=0
def tw11399532180087556091:=0
def tw10589115624957389232:=0
def tw9117078637112305940:=0
def tw11213059891844075339:=0
def tw17655630243905530608:=0
def tw15082624387444762997:=0
def tw7508232526547779305:=0
def tw5453658017172262278:=0
def tw8770560419438592523:=0
def tw4213213814984906324:=0
def tw171447945466823959:=0
def tw4479963217654068888:=0
def tw6960461505400792318:=0
def tw8048713132806306148:=0
def tw9757789000033708474:=0
def tw11678624098692507759:=0
def tw3054874334075938150:=0
def tw8511848176066626003:=0
def tw15948051788115983502:=0
def tw6609375504986556450:=0
def tw14598493146911124246:=0
def tw15490694066777026508:=0
def tw8833881227971562349:=0
def tw15959207014876011182:=0
def tw17106580839100183644:=0
def tw5707201082976159919:=0
def tw11402794341812650131:=0
def tw5471645118003468431:=0
def tw11635272528721092268:=0
def tw3821659875892816956:=0
def tw10329551345963208601:=0
def tw6229063751260812391:=0
def tw14178930659924293244:=0
def tw5188873367350583881:=0
def tw10281685585011468294:=0
def tw5440836565746249106:=0
def tw3996605215281944891:=0
def tw17264746746097528763:=0
def tw14354045151672884222:=0
def tw4742100885481279901:=0
def tw6373925313625717762:=0
def tw13989379558723487878:=0
def tw16251847770672874277:=0
def tw1830082472086637710:=0
def tw2476959385539062709:=0
def tw7015595342505629852:=0
def tw3668598262277108496:=0
def tw10641962999182552476:=0
def tw4365616811107785714:=0
def tw7443770140310200554:=0
def tw17228640654880279003:=0
def tw13406137943213969427:=0
def tw1162572037074522779:=0
def tw3466252583757991198:=0
def tw8341590716703233825:=0
def tw11213069774033278752:=0
def tw10128288756150217373:=0
def tw5710301517268492004:=0
def tw9883084632616979082:=0
def tw12874447746846878534:=0
def tw9349703078378976335:=0
def tw4556089900529391975:=0
def tw16094062883169639742:=0
def tw18398698037417703320:=0
def tw35161695371543654:=0
def tw6739276493929016826:=0
def tw8319663554054965143:=0
def tw2930031133876065184:=0
def tw1235564592186579575:=0
def tw18085839861278679857:=0
def tw7985212180384848711:=0
def tw8319811808030179964:=0
def tw536814963117851170:=0
def tw6144293279191743994:=0
def tw8584306312313063949:=0
def tw17552066492608005485:=0
def tw13208787635309467611:=0
def tw3519659724998521889:=0
def tw2354631875460675618:=0
def tw1237739839744412979:=0
def tw582402206474546370:=0
def tw15554196399650759547:=0
def tw6352143767806903308:=0
def tw17190717356517784552:=0
def tw5942775132094244808:=0
def tw12383920352761531247:=0
def tw779147654036827929:=0
def tw9310282792370093690:=0
def tw11098748863009514346:=0
def tw5637563535809897073:=0
def tw5125075657560431801:=0
def tw1122735143825768841:=0
def tw16174458864324380335:=0
def tw8268577782340574056:=0
def tw3356608902954695511:=0
def tw10616727070951825859:=0
def tw15918086160895666969:=0
def tw5619394453772552739:=0
def tw11693596853665740731:=0
def tw10600333312166078453:=0
def tw2625730034303015688:=0
def tw3626242015047246358:=0
def tw14156963698120525404:=0
def tw7522467929763864680:=0
def tw6926244607083017823:=0
def tw7789604342527858235:=0
def tw8078334423583101576:=0
def tw10051287658523971203:=0
def tw16080966481745478727:=0
def tw15833164369419994423:=0
def tw7261485513992507368:=0
def tw18352620641316573331:=0
def tw8052377654558769050:=0
def tw17245504969341490167:=0
def tw15269613759633536057:=0
def tw5122524673714796657:=0
def tw7771970292241873949:=0
def tw5614169692500821735:=0
def tw5032598053135980681:=0
def tw4816476331404288378:=0
def tw8871018890662657737:=0
def tw11562264699376944970:=0
def tw13354506778455730184:=0
def tw17414510951016810482:=0
def tw1728399230455595414:=0
def tw751683596134515241:=0
def tw12321612363522143949:=0
def tw9555595656732645372:=0
def tw18267094425185452086:=0
def tw10265906567820820321:=0
def tw8755034505800505494:=0
def tw12140612604800360938:=0
def tw12885821019394455996:=0
def tw14650940161603608145:=0
def tw3142299187257742045:=0
def tw5191206891968636395:=0
def tw11918984049227731364:=0
def tw9036391230956387854:=0
def tw6938307854209855401:=0
def tw14708281296105888200:=0
def tw9858981638742276114:=0
def tw2107990314908407214:=0
def tw1479497475326872751:=0
def tw1732654679909020647:=0
def tw12682717591425759681:=0
def tw93212966214011991:=0
def tw1064184284858421314:=0
def tw6583955048235968813:=0
def tw7902752723907695484:=0
def tw10702995969997165811:=0
def tw10567007603139963915:=0
def tw11890892834071146021:=0
def tw4529191411481556249:=0
def tw11208279720107152256:=0
def tw6886015972361292136:=0
def tw13012668266959498344:=0
def tw1012031178365868194:=0
def tw4315986030282496334:=0
def tw2982442788360977422:=0
def tw7405032178593361352:=0
def tw7169241702944033124:=0
def tw16933291438125491614:=0
def tw1908420726929894461:=0
def tw1728494030378418971:=0
def tw2986586977231833753:=0
def tw5490563283980132721:=0
def tw1266335011799400401:=0
def tw7943147543512063478:=0
def tw7924701783963276225:=0
def tw4582135390072008886:=0
def tw14392772187110489266:=0
def tw3037863552285657089:=0
def tw8779006373146976623:=0
def tw15912192751227921328:=0
def tw13487321932590703779:=0
def tw6441390463939118349:=0
def tw4004654767115172476:=0
def tw13330554666067371498:=0
def tw16370573321137921073:=0
def tw9705397950208491899:=0
def tw6232643230822226044:=0
def tw12080422954629429706:=0
def tw1863941104090995972:=0
def tw10043792254232787389:=0
def tw9362071317223865725:=0
def tw17312602997878100664:=0
def tw18202660357975136409:=0
def tw7021816256235443738:=0
def tw16512229020563852427:=0
def tw13573170328209961526:=0
def tw15825923402127573161:=0
def tw696700010959247969:=0
def tw6144977154315936764:=0
def tw6813227577649707770:=0
def tw4671076914614342625:=0
def tw6735735298068325153:=0
def tw5290943859711653750:=0
def tw12070826268615581939:=0
def tw3382460516819238658:=0
def tw117820223757775338:=0
def tw17417006920925278912:=0
def tw4174420273483368280:=0
def tw7111976733521754473:=0
def tw11336742620231296136:=0
def tw9010308162544211939:=0
def tw756480131306431137:=0
def tw10171519325548706700:=0
def tw12680508689811848014:=0
def tw18243416554090797617:=0
def tw2872946726497304373:=0
def tw10401028150659988483:=0
def tw12017199111825901542:=0
def tw12922915426668044792:=0
def tw9094984334203282779:=0
def tw4316399241239683312:=0
def tw530387757886426286:=0
def tw7528521903299241177:=0
def tw2942261047306753561:=0
def tw17708977701295128622:=0
def tw17417220515170556841:=0
def tw9321601344884588122:=0
def tw16004408722839623165:=0
def tw12655793307560706593:=0
def tw17279649733703985419:=0
def tw17224729562507266037:=0
def tw4147016291661619512:=0
def tw16670691676375168721:=0
def tw5582457049777269878:=0
def tw9399456329298523925:=0
def tw12136108975138585178:=0
def tw16647465209289693008:=0
def tw1809086181655798397:=0
def tw8152801269801256192:=0
def tw7518000861976173990:=0
def tw6300117972006296893:=0
def tw12575959190593466335:=0
def tw13653389563015334583:=0
def tw550428472801145462:=0
def tw18328660603015719332:=0
def tw10124849981946051512:=0
def tw1016246387847637553:=0
def tw18371103136717992531:=0
def tw4353253145679613411:=0
def tw3889183231468599673:=0
def tw17905905842859963240:=0
def tw10926087847379193290:=0
def tw3748305368607279679:=0
def tw18206990855436704112:=0
def tw811231709655372022:=0
def tw1941969121169774860:=0
def tw12716197664888813483:=0
def tw11220570640570750845:=0
def tw8311669818612747766:=0
def tw10748043838383141097:=0
def tw12381411473912867620:=0
def tw8471263509813752198:=0
def tw9688039936284937387:=0
def tw1610396820179496085:=0
def tw10778350507701177356:=0
def tw13078135677416172689:=0
def tw11254487107772992048:=0
def tw6331004882037893160:=0
def tw2490487978652341942:=0
def tw805431050052078889:=0
def tw18237434282826904553:=0
def tw989997595438130011:=0
def tw17626645158524501425:=0
def tw17755783764924134464:=0
def tw11563316696535332150:=0
def tw12871042140458804628:=0
def tw17913583953100816336:=0
def tw17506495838397716145:=0
def tw14556030335671570349:=0
def tw17658573319084791368:=0
def tw14105820395211015961:=0
def tw16521387018203701385:=0
def tw16361335973176721304:=0
def tw7124066152074322704:=0
def tw6942543959760466364:=0
def tw644040542571835693:=0
def tw2313149984629192943:=0
def tw10889311060274901719:=0
def tw2687014398970318391:=0
def tw3914389008036225733:=0
def tw524655020490976315:=0
def tw6417050864724028973:=0
def tw5518840188216733191:=0
def tw14885409006655231442:=0
def tw16463328873222763864:=0
end PySem.W.Fast
open PySem PySem.W PyProof.Rows
local macro_rules | `(tactic| walk_at "k") => `(tactic| first | k_is | kit_is | rfl | kernel_rfl)
set_option maxRecDepth 100000 in
set_option maxHeartbeats 0 in
theorem PySem.Challenge.cw_frameback_k56_more_steps_holds : PySem.Challenge.rw_frameback_k56_more_steps.Holds := by
 w_on; o_law; k_head; (case hw => w_witness2)
 k_fill
 refine FB.walk (l := PySem.Challenge.rw_frameback_k56_more_steps) rfl rfl (fun w h Y => PySem.W.kIn_of Y) ?F
 case F =>
   intro w mg fa h KX G hmg
   have T : ∃ (a : FB.Adr) (fd : FuncData), FB.Txt w (L2.KOf KX) mg a ∧ L2.Fun (L2.KOf KX) "law" "law" FB.s_law fa fd ∧ ∀ (s : Shared) (v : Value), BindsTo s fd ⟨[v], []⟩ [("_law_script", v)] := by
     dsimp only [L2.KOf]
     refine' FB.txt_mk KX G hmg ?z_all ?z_bool ?z_int ?z_isinstance ?z_len ?z_list ?z_range ?z_repr ?z_str ?z_tuple ?z_zip ?g_NOUGHT ?g_PARTS ?l_PARTS ?y_PARTS ?t4_PARTS ?t8_PARTS ?t13_PARTS ?t18_PARTS ?t23_PARTS ?t28_PARTS ?t33_PARTS ?t38_PARTS ?t42_PARTS ?t47_PARTS ?t50_PARTS ?t53_PARTS ?t57_PARTS ?g_SPARE ?g_TOP_CALLS ?g_TOP_FUNCTIONS ?g_TOP_HANDED ?g_TOP_NAME ?g_TOP_STATEMENTS ?g_TOP_VALUE ?g_TOP_WITHIN ?g_UNCOUNTED ?t60_UNCOUNTED ?g_VALUES ?c_Doing ?c_NoProgram ?c_Run ?pg_Doing ?hd_Doing ?po_Doing ?sa_Doing ?mk_Doing ?kc_Doing ?n_Doing_moves ?n_Doing_mark ?n_Doing_names ?a61 ?i61 ?l61 ?c61 ?k61 ?a62 ?i62 ?l62 ?c62 ?k62 ?a63 ?i63 ?l63 ?c63 ?k63 ?pg_Run ?hd_Run ?po_Run ?sa_Run ?mk_Run ?kc_Run ?n_Run_bodies ?n_Run_steps_left ?n_Run_doings ?n_Run_answer ?n_Run_mark ?a64 ?i64 ?l64 ?c64 ?k64 ?a65 ?i65 ?l65 ?c65 ?k65 ?a66 ?i66 ?l66 ?c66 ?k66 ?a67 ?i67 ?l67 ?c67 ?k67 ?a68 ?i68 ?l68 ?c68 ?k68 ?a69 ?i69 ?l69 ?c69 ?k69 ?a70 ?i70 ?l70 ?c70 ?k70 ?k_int_int ?k_int_bool ?k_tuple_tuple ?k_str_str ?k_list_list ?k_tuple_list ?a71 ?l71 ?c71 ?k71 ?a72 ?l72 ?c72 ?k72 ?a73 ?l73 ?c73 ?k73 ?a74 ?l74 ?c74 ?k74 ?a75 ?l75 ?c75 ?k75 ?a76 ?l76 ?c76 ?k76 ?a77 ?l77 ?c77 ?k77 ?a78 ?l78 ?c78 ?k78 ?a79 ?l79 ?c79 ?k79 ?a80 ?l80 ?c80 ?k80 ?a81 ?l81 ?c81 ?k81 ?a82 ?l82 ?c82 ?k82 ?a83 ?l83 ?c83 ?k83 ?a84 ?l84 ?c84 ?k84 ?a85 ?l85 ?c85 ?k85 ?a86 ?l86 ?c86 ?k86 ?a87 ?l87 ?c87 ?k87 ?a88 ?l88 ?c88 ?k88 ?a89 ?l89 ?c89 ?k89 ?a90 ?l90 ?c90 ?k90 ?a91 ?l91 ?c91 ?k91 ?a92 ?l92 ?c92 ?k92 ?a93 ?l93 ?c93 ?k93 ?a94 ?l94 ?c94 ?k94 ?a95 ?l95 ?c95 ?k95 ?a96 ?l96 ?c96 ?k96 ?a97 ?l97 ?c97 ?k97
     (case z_all => walk_at "k")
     (case z_bool => walk_at "k")
     (case z_int => walk_at "k")
     (case z_isinstance => walk_at "k")
     (case z_len => walk_at "k")
     (case z_list => walk_at "k")
     (case z_range => walk_at "k")
     (case z_repr => walk_at "k")
     (case z_str => walk_at "k")
     (case z_tuple => walk_at "k")
     (case z_zip => walk_at "k")
     (case g_NOUGHT => walk_at "k")
     (case g_PARTS => walk_at "k")
     (case l_PARTS => walk_at "k")
     (case y_PARTS => walk_at "k")
     (case t4_PARTS => walk_at "k")
     (case t8_PARTS => walk_at "k")
     (case t13_PARTS => walk_at "k")
     (case t18_PARTS => walk_at "k")
     (case t23_PARTS => walk_at "k")
     (case t28_PARTS => walk_at "k")
     (case t33_PARTS => walk_at "k")
     (case t38_PARTS => walk_at "k")
     (case t42_PARTS => walk_at "k")
     (case t47_PARTS => walk_at "k")
     (case t50_PARTS => walk_at "k")
     (case t53_PARTS => walk_at "k")
     (case t57_PARTS => walk_at "k")
     (case g_SPARE => walk_at "k")
     (case g_TOP_CALLS => walk_at "k")
     (case g_TOP_FUNCTIONS => walk_at "k")
     (case g_TOP_HANDED => walk_at "k")
     (case g_TOP_NAME => walk_at "k")
     (case g_TOP_STATEMENTS => walk_at "k")
     (case g_TOP_VALUE => walk_at "k")
     (case g_TOP_WITHIN => walk_at "k")
     (case g_UNCOUNTED => walk_at "k")
     (case t60_UNCOUNTED => walk_at "k")
     (case g_VALUES => walk_at "k")
     (case c_Doing => walk_at "k")
     (case c_NoProgram => walk_at "k")
     (case c_Run => walk_at "k")
     (case pg_Doing => walk_at "k")
     (case hd_Doing => walk_at "k")
     (case po_Doing => walk_at "k")
     (case sa_Doing => walk_at "k")
     (case mk_Doing => walk_at "k")
     (case kc_Doing => walk_at "k")
     (case n_Doing_moves => walk_at "k")
     (case n_Doing_mark => walk_at "k")
     (case n_Doing_names => walk_at "k")
     (case a61 => walk_at "k")
     (case i61 => walk_at "k")
     (case l61 => walk_at "k")
     (case c61 => walk_at "k")
     (case k61 => walk_at "k")
     (case a62 => walk_at "k")
     (case i62 => walk_at "k")
     (case l62 => walk_at "k")
     (case c62 => walk_at "k")
     (case k62 => walk_at "k")
     (case a63 => walk_at "k")
     (case i63 => walk_at "k")
     (case l63 => walk_at "k")
     (case c63 => walk_at "k")
     (case k63 => walk_at "k")
     (case pg_Run => walk_at "k")
     (case hd_Run => walk_at "k")
     (case po_Run => walk_at "k")
     (case sa_Run => walk_at "k")
     (case mk_Run => walk_at "k")
     (case kc_Run => walk_at "k")
     (case n_Run_bodies => walk_at "k")
     (case n_Run_steps_left => walk_at "k")
     (case n_Run_doings => walk_at "k")
     (case n_Run_answer => walk_at "k")
     (case n_Run_mark => walk_at "k")
     (case a64 => walk_at "k")
     (case i64 => walk_at "k")
     (case l64 => walk_at "k")
     (case c64 => walk_at "k")
     (case k64 => walk_at "k")
     (case a65 => walk_at "k")
     (case i65 => walk_at "k")
     (case l65 => walk_at "k")
     (case c65 => walk_at "k")
     (case k65 => walk_at "k")
     (case a66 => walk_at "k")
     (case i66 => walk_at "k")
     (case l66 => walk_at "k")
     (case c66 => walk_at "k")
     (case k66 => walk_at "k")
     (case a67 => walk_at "k")
     (case i67 => walk_at "k")
     (case l67 => walk_at "k")
     (case c67 => walk_at "k")
     (case k67 => walk_at "k")
     (case a68 => walk_at "k")
     (case i68 => walk_at "k")
     (case l68 => walk_at "k")
     (case c68 => walk_at "k")
     (case k68 => walk_at "k")
     (case a69 => walk_at "k")
     (case i69 => walk_at "k")
     (case l69 => walk_at "k")
     (case c69 => walk_at "k")
     (case k69 => walk_at "k")
     (case a70 => walk_at "k")
     (case i70 => walk_at "k")
     (case l70 => walk_at "k")
     (case c70 => walk_at "k")
     (case k70 => walk_at "k")
     (case k_int_int => walk_at "k")
     (case k_int_bool => walk_at "k")
     (case k_tuple_tuple => walk_at "k")
     (case k_str_str => walk_at "k")
     (case k_list_list => walk_at "k")
     (case k_tuple_list => walk_at "k")
     (case a71 => walk_at "k")
     (case l71 => walk_at "k")
     (case c71 => walk_at "k")
     (case k71 => walk_at "k")
     (case a72 => walk_at "k")
     (case l72 => walk_at "k")
     (case c72 => walk_at "k")
     (case k72 => walk_at "k")
     (case a73 => walk_at "k")
     (case l73 => walk_at "k")
     (case c73 => walk_at "k")
     (case k73 => walk_at "k")
     (case a74 => walk_at "k")
     (case l74 => walk_at "k")
     (case c74 => walk_at "k")
     (case k74 => walk_at "k")
     (case a75 => walk_at "k")
     (case l75 => walk_at "k")
     (case c75 => walk_at "k")
     (case k75 => walk_at "k")
     (case a76 => walk_at "k")
     (case l76 => walk_at "k")
     (case c76 => walk_at "k")
     (case k76 => walk_at "k")
     (case a77 => walk_at "k")
     (case l77 => walk_at "k")
     (case c77 => walk_at "k")
     (case k77 => walk_at "k")
     (case a78 => walk_at "k")
     (case l78 => walk_at "k")
     (case c78 => walk_at "k")
     (case k78 => walk_at "k")
     (case a79 => walk_at "k")
     (case l79 => walk_at "k")
     (case c79 => walk_at "k")
     (case k79 => walk_at "k")
     (case a80 => walk_at "k")
     (case l80 => walk_at "k")
     (case c80 => walk_at "k")
     (case k80 => walk_at "k")
     (case a81 => walk_at "k")
     (case l81 => walk_at "k")
     (case c81 => walk_at "k")
     (case k81 => walk_at "k")
     (case a82 => walk_at "k")
     (case l82 => walk_at "k")
     (case c82 => walk_at "k")
     (case k82 => walk_at "k")
     (case a83 => walk_at "k")
     (case l83 => walk_at "k")
     (case c83 => walk_at "k")
     (case k83 => walk_at "k")
     (case a84 => walk_at "k")
     (case l84 => walk_at "k")
     (case c84 => walk_at "k")
     (case k84 => walk_at "k")
     (case a85 => walk_at "k")
     (case l85 => walk_at "k")
     (case c85 => walk_at "k")
     (case k85 => walk_at "k")
     (case a86 => walk_at "k")
     (case l86 => walk_at "k")
     (case c86 => walk_at "k")
     (case k86 => walk_at "k")
     (case a87 => walk_at "k")
     (case l87 => walk_at "k")
     (case c87 => walk_at "k")
     (case k87 => walk_at "k")
     (case a88 => walk_at "k")
     (case l88 => walk_at "k")
     (case c88 => walk_at "k")
     (case k88 => walk_at "k")
     (case a89 => walk_at "k")
     (case l89 => walk_at "k")
     (case c89 => walk_at "k")
     (case k89 => walk_at "k")
     (case a90 => walk_at "k")
     (case l90 => walk_at "k")
     (case c90 => walk_at "k")
     (case k90 => walk_at "k")
     (case a91 => walk_at "k")
     (case l91 => walk_at "k")
     (case c91 => walk_at "k")
     (case k91 => walk_at "k")
     (case a92 => walk_at "k")
     (case l92 => walk_at "k")
     (case c92 => walk_at "k")
     (case k92 => walk_at "k")
     (case a93 => walk_at "k")
     (case l93 => walk_at "k")
     (case c93 => walk_at "k")
     (case k93 => walk_at "k")
     (case a94 => walk_at "k")
     (case l94 => walk_at "k")
     (case c94 => walk_at "k")
     (case k94 => walk_at "k")
     (case a95 => walk_at "k")
     (case l95 => walk_at "k")
     (case c95 => walk_at "k")
     (case k95 => walk_at "k")
     (case a96 => walk_at "k")
     (case l96 => walk_at "k")
     (case c96 => walk_at "k")
     (case k96 => walk_at "k")
     (case a97 => walk_at "k")
     (case l97 => walk_at "k")
     (case c97 => walk_at "k")
     (case k97 => walk_at "k")
   obtain ⟨a, fd, T, FF, B⟩ := T
   exact ⟨fd, B, fun base _ _ => FB.law_fn T FF⟩
