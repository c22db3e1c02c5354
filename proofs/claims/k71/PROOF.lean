import PyProof.Rows.All
import Wide.All
import OpenK.AllK
import Wide.FinOn
import Lean
import PyProof.EqAt
import PyProof.EqKinds
import PyProof.TupleCall
import PySem.Challenge.RW_frameback_k71_programs_as_texts
set_option Elab.async false
set_option linter.all false
set_option maxRecDepth 100000
namespace L2
open PySem PySem.Spec PyProof.Rows
abbrev Key := Sum Int Str
def keyIs : Key → Value → Bool
 | .inl k, v => Value.isInt k v
 | .inr x, v => Value.isStrOf x v
def keyH (w : World) : Key → Int
 | .inl k => hashInt k
 | .inr x => hashStr w x
theorem keyIs_shape : ∀ {k : Key} {v : Value}, keyIs k v = true → (∃ i t, k = Sum.inl i ∧ v = Value.int i t) ∨ (∃ x t, k = Sum.inr x ∧ v = Value.str x t)
 | .inl i, v, h => by
   obtain ⟨t, e⟩ := Value.isInt_shape (k := i) (v := v) h
   exact .inl ⟨i, t, rfl, e⟩
 | .inr x, v, h => by
   obtain ⟨t, e⟩ := Value.isStrOf_shape (x := x) (v := v) h
   exact .inr ⟨x, t, rfl, e⟩
theorem keyIs_int (i : Int) (t : Tok) : keyIs (.inl i) (.int i t) = true := by simp [keyIs, Value.isInt]
theorem keyIs_str (x : Str) (t : Tok) : keyIs (.inr x) (.str x t) = true := by simp [keyIs, Value.isStrOf]
theorem key_ll (a b : Int) : decide ((Sum.inl a : Key) = Sum.inl b) = (a == b) := by
 by_cases e : a = b
 · subst e; simp
 · have h : ¬ (Sum.inl a : Key) = Sum.inl b := fun q => e (Sum.inl.inj q)
   rw [decide_eq_false h]
   exact (beq_eq_false_iff_ne.mpr e).symm
theorem key_rr (a b : Str) : decide ((Sum.inr a : Key) = Sum.inr b) = decide (a = b) := by
 by_cases e : a = b
 · subst e; simp
 · have h : ¬ (Sum.inr a : Key) = Sum.inr b := fun q => e (Sum.inr.inj q)
   rw [decide_eq_false h, decide_eq_false e]
theorem key_lr (a : Int) (b : Str) : decide ((Sum.inl a : Key) = Sum.inr b) = false := decide_eq_false (fun q => nomatch q)
theorem key_rl (a : Str) (b : Int) : decide ((Sum.inr a : Key) = Sum.inl b) = false := decide_eq_false (fun q => nomatch q)
def mixKind (prog : Program) (w : World) : PySem.KeyKind prog w Key where
 is := keyIs
 hash := keyH w
 inj := fun v a b ha hb => by
   rcases keyIs_shape ha with ⟨i, t, rfl, rfl⟩ | ⟨x, t, rfl, rfl⟩
   · rcases keyIs_shape hb with ⟨j, u, rfl, e⟩ | ⟨y, u, rfl, e⟩
     · injection e with e1 _; rw [e1]
     · exact nomatch e
   · rcases keyIs_shape hb with ⟨j, u, rfl, e⟩ | ⟨y, u, rfl, e⟩
     · exact nomatch e
     · injection e with e1 _; rw [e1]
 byValue := fun k v h => by
   rcases keyIs_shape h with ⟨i, t, rfl, rfl⟩ | ⟨x, t, rfl, rfl⟩ <;> rfl
 pyHash := fun hv h => by
   rcases keyIs_shape hv with ⟨i, t, rfl, rfl⟩ | ⟨x, t, rfl, rfl⟩
   · exact wpAny_pyHash_int h
   · exact wpAny_pyHash_str h
 eqBool := fun hu hv h => by
   rcases keyIs_shape hu with ⟨i, t, rfl, rfl⟩ | ⟨x, t, rfl, rfl⟩
   · rcases keyIs_shape hv with ⟨j, u, rfl, rfl⟩ | ⟨y, u, rfl, rfl⟩
     · rw [key_ll] at h; exact wpAny_eqBool_int h
     · rw [key_lr] at h; exact SeqAt.EqAt.int_str i t y u _ _ _ _ h
   · rcases keyIs_shape hv with ⟨j, u, rfl, rfl⟩ | ⟨y, u, rfl, rfl⟩
     · rw [key_rl] at h; exact SeqAt.EqAt.str_int x t j u _ _ _ _ h
     · rw [key_rr] at h; exact wpAny_eqBool_str h
 «strs» := fun k x t v h => by
   rcases keyIs_shape h with ⟨i, u, rfl, e⟩ | ⟨y, u, rfl, e⟩
   · exact nomatch e
   · injection e with e1 _
     subst e1
     cases v <;> rfl
theorem mixKind_int (prog : Program) (w : World) (i : Int) (t : Tok) : (mixKind prog w).is (.inl i) (.int i t) = true := keyIs_int i t
theorem mixKind_str (prog : Program) (w : World) (x : Str) (t : Tok) : (mixKind prog w).is (.inr x) (.str x t) = true := keyIs_str x t
end L2
namespace L2
open PySem PySem.Spec PyProof.Rows
inductive V where
 | non | bl (b : Bool) | int (i : Int) | str (x : Str) | byt (b : Array UInt8) | flt (b : UInt64) | ref (a : Addr) | ty (n : String)
 deriving DecidableEq
def RelV : V → Value → Prop
 | .non, u => u = Value.none
 | .bl b, u => u = Value.bool b
 | .int i, u => ∃ t, u = Value.int i t
 | .str x, u => ∃ t, u = Value.str x t
 | .byt b, u => ∃ t, u = Value.bytes b t
 | .flt b, u => ∃ t, u = Value.float b t
 | .ref a, u => u = Value.ref a
 | .ty n, u => u = Value.type n
abbrev Vals : List V → List Value → Prop := Paired RelV
theorem Vals.length {xs : List V} {us : List Value} (r : Vals xs us) : xs.length = us.length := Paired.length r
theorem Vals.get : ∀ {xs : List V} {us : List Value} {i : Nat} {x : V}, Vals xs us → xs[i]? = some x → ∃ u, us[i]? = some u ∧ RelV x u
 | _, _, _, _, .nil, e => by simp at e
 | _, _, 0, _, .cons r _, e => by simp at e; subst e; exact ⟨_, rfl, r⟩
 | _, _, i + 1, x, .cons _ t, e => by
   obtain ⟨u, h1, h2⟩ := Vals.get (i := i) (x := x) t (by simpa using e)
   exact ⟨u, by simpa using h1, h2⟩
theorem Vals.set {x : V} {u : Value} (r : RelV x u) : ∀ {xs : List V} {us : List Value} (i : Nat), Vals xs us → Vals (xs.set i x) (us.set i u)
 | _, _, _, .nil => .nil
 | _, _, 0, .cons _ t => .cons r t
 | _, _, i + 1, .cons q t => .cons q (Vals.set r i t)
theorem Vals.append : ∀ {xs ys : List V} {us ws : List Value}, Vals xs us → Vals ys ws → Vals (xs ++ ys) (us ++ ws)
 | _, _, _, _, .nil, s => s
 | _, _, _, _, .cons r t, s => .cons r (Vals.append t s)
theorem Vals.take : ∀ {xs : List V} {us : List Value} (n : Nat), Vals xs us → Vals (xs.take n) (us.take n)
 | _, _, 0, _ => .nil
 | _, _, _ + 1, .nil => .nil
 | _, _, n + 1, .cons r t => .cons r (Vals.take n t)
theorem Vals.drop : ∀ {xs : List V} {us : List Value} (n : Nat), Vals xs us → Vals (xs.drop n) (us.drop n)
 | _, _, 0, r => r
 | _, _, _ + 1, .nil => .nil
 | _, _, n + 1, .cons _ t => Vals.drop n t
def RelO : Option V → Option Value → Prop
 | some v, some u => RelV v u
 | none, none => True
 | _, _ => False
def KV {κ : Type} : List (κ × V) → List (κ × Value) → Prop := Paired fun (p : κ × V) (q : κ × Value) => p.1 = q.1 ∧ RelV p.2 q.2
def kV : Key → V
 | .inl i => .int i
 | .inr x => .str x
inductive HO where
 | lst (xs : List V)
 | tup (xs : List V)
 | dK (kvs : List (Key × V)) | dT (kvs : List (List Key × V))
 | set (S : Int → Bool) (n : Nat)
 | ins (C dx : Addr) (fs : List (Str × V))
 | own (x : Addr)
 | xd (fs : List (Str × V))
 | met (f x : Addr)
 | rng (lo hi : Int)
 | frz (o : Obj) (u : HO)
 | tbl (ps : Array Value)
 | ext (φ : Heap → Prop)
abbrev Hp := Addr → Option HO
def upd (H : Hp) (a : Addr) (o : HO) : Hp := fun b => if b = a then some o else H b
theorem upd_same {H : Hp} {a : Addr} {o : HO} : upd H a o a = some o := by unfold upd; rw [if_pos rfl]
theorem upd_ne {H : Hp} {a b : Addr} {o : HO} (h : b ≠ a) : upd H a o b = H b := by unfold upd; rw [if_neg h]
theorem ne_of_none {H : Hp} {a b : Addr} {o : HO} (h : H a = some o) (h' : H b = none) : a ≠ b := by
 intro e; subst e; rw [h] at h'; cases h'
section
variable (P : Program) (w : World)
def ObjOk (H : Hp) (h : Heap) (a : Addr) : HO → Prop
 | .lst xs => xs.length ≤ sizeLine ∧ ∃ (its : List Value) (n : Nat), Vals xs its ∧ h.get? a = some { cls := .type "list", data := .seq its.toArray n }
 | .tup xs => xs.length ≤ sizeLine ∧ ∃ its : List Value, Vals xs its ∧ IsTup h a its.toArray
 | .dK kvs => kvs.length ≤ sizeLine ∧ (a == sysModules) = false ∧ ∃ vs, KV kvs vs ∧ h.DictOf (mixKind P w) a vs
 | .dT kvs => kvs.length ≤ sizeLine ∧ (a == sysModules) = false ∧ ∃ xs : List (List Key × Addr × Value),
     Paired (fun (p : List Key × V) (q : List Key × Addr × Value) => p.1 = q.1 ∧ H q.2.1 = some (.tup (p.1.map kV)) ∧ RelV p.2 q.2.2) kvs xs ∧
     ∃ o es ep, h.get? a = some o ∧ o.ExactDict ∧ o.data = .dict es ep ∧ es.toList = xs.map (entryOfKey (tupleKind (mixKind P w))) ∧ (xs.map (·.1)).Nodup
 | .set S n => h.SetOf (intKind P w) a S n
 | .ins C dx fs => H dx = some (.own a) ∧ fs.length ≤ 1000 ∧ dx ≠ a ∧ h.get? a = some (PySem.W.instObj C dx) ∧
     ∃ mA, h.Ns1 dx mA ∧ (∀ f, RelO (fs.lookup f) (mA f)) ∧ PySem.Within mA (fs.map (·.1))
 | .own _ => ∃ o, h.get? a = some o
 | .xd fs => ∃ mA, h.Ns1 a mA ∧ ∀ f, RelO (fs.lookup f) (mA f)
 | .rng lo hi => ∃ t u v, h.get? a = some { cls := .type "range", data := .fields #[.int lo t, .int hi u, .int 1 v] }
 | .frz o u => h.get? a = some o ∧ ObjOk H h a u
 | .tbl ps => h.get? a = some { cls := .none, data := .fields ps }
 | .met f x => h.get? a = some (PySem.W.methodObj (.ref f) (.ref x))
 | .ext φ => φ h ∧ (∃ o, h.get? a = some o) ∧ ∀ h1 h2 : Heap, φ h1 → (∀ o, h1.get? a = some o → h2.get? a = some o) → φ h2
def HOk (H : Hp) (h : Heap) : Prop := ∀ a o, H a = some o → ObjOk P w H h a o
end
section
variable {P : Program} {w : World} {H H' : Hp} {h h' : Heap} {a : Addr} {o : HO}
theorem ObjOk.lt (x : ObjOk P w H h a o) : a < h.objs.size := by
 cases o with
 | lst xs => obtain ⟨_, _, _, _, e⟩ := x; exact Heap.lt_size e
 | tup xs => obtain ⟨_, _, _, p⟩ := x; exact p.lt
 | dK kvs => obtain ⟨_, _, _, _, o, _, _, e, _⟩ := x; exact Heap.lt_size e
 | dT kvs => obtain ⟨_, _, _, _, o, _, _, e, _⟩ := x; exact Heap.lt_size e
 | set S n => obtain ⟨o, _, _, _, e, _⟩ := x; exact Heap.lt_size e
 | ins C dx fs => obtain ⟨_, _, _, e, _⟩ := x; exact Heap.lt_size e
 | own y => obtain ⟨_, e⟩ := x; exact Heap.lt_size e
 | xd fs => obtain ⟨_, ⟨_, _, _, e, _⟩, _⟩ := x; exact Heap.lt_size e
 | rng lo hi => obtain ⟨_, _, _, e⟩ := x; exact Heap.lt_size e
 | frz ob u => obtain ⟨e, _⟩ := x; exact Heap.lt_size e
 | tbl ps => exact Heap.lt_size (show h.get? a = some _ from x)
 | met f y => exact Heap.lt_size (show h.get? a = some _ from x)
 | ext φ => obtain ⟨_, ⟨_, e⟩, _⟩ := x; exact Heap.lt_size e
theorem Paired.mapP {α β : Type} {F G : α → β → Prop} : ∀ {l₁ : List α} {l₂ : List β}, Paired F l₁ l₂ → (∀ a b, F a b → G a b) → Paired G l₁ l₂
 | _, _, .nil, _ => .nil
 | _, _, .cons r t, f => .cons (f _ _ r) (Paired.mapP t f)
theorem ObjOk.stay (x : ObjOk P w H h a o) (k : ∀ b u, (b = a ∨ H b = some (.own a)) → h.get? b = some u → h'.get? b = some u)
   (ho : ∀ b, H b = some (.own a) → H' b = some (.own a)) (ht : ∀ b xs, H b = some (.tup xs) → H' b = some (.tup xs)) : ObjOk P w H' h' a o := by
 induction o with
 | lst xs => obtain ⟨z, its, n, r, e⟩ := x; exact ⟨z, its, n, r, k _ _ (.inl rfl) e⟩
 | tup xs => obtain ⟨z, its, r, ob, e, c⟩ := x; exact ⟨z, its, r, ob, k _ _ (.inl rfl) e, c⟩
 | dK kvs => obtain ⟨z, y, vs, r, ob, es, ep, e, c⟩ := x; exact ⟨z, y, vs, r, ob, es, ep, k _ _ (.inl rfl) e, c⟩
 | dT kvs =>
   obtain ⟨z, y, xs, r, ob, es, ep, e, c⟩ := x
   exact ⟨z, y, xs, Paired.mapP r fun p q z => ⟨z.1, ht _ _ z.2.1, z.2.2⟩, ob, es, ep, k _ _ (.inl rfl) e, c⟩
 | set S n => obtain ⟨ob, es, ep, t, e, c⟩ := x; exact ⟨ob, es, ep, t, k _ _ (.inl rfl) e, c⟩
 | ins C dx fs =>
   obtain ⟨d, z, ne, e, mA, ⟨od, es, ep, e2, c⟩, r⟩ := x
   exact ⟨ho _ d, z, ne, k _ _ (.inl rfl) e, mA, ⟨od, es, ep, k _ _ (.inr d) e2, c⟩, r⟩
 | own y => obtain ⟨ob, e⟩ := x; exact ⟨ob, k _ _ (.inl rfl) e⟩
 | xd fs => obtain ⟨mA, ⟨od, es, ep, e, c⟩, r⟩ := x; exact ⟨mA, ⟨od, es, ep, k _ _ (.inl rfl) e, c⟩, r⟩
 | rng lo hi => obtain ⟨t, u, v, e⟩ := x; exact ⟨t, u, v, k _ _ (.inl rfl) e⟩
 | frz ob u ih => obtain ⟨e, q⟩ := x; exact ⟨k _ _ (.inl rfl) e, ih q⟩
 | tbl ps =>
   have e : h.get? a = some { cls := .none, data := .fields ps } := x
   show h'.get? a = some { cls := .none, data := .fields ps }
   exact k a _ (.inl rfl) e
 | met f y =>
   have e : h.get? a = some (PySem.W.methodObj (.ref f) (.ref y)) := x
   show h'.get? a = some (PySem.W.methodObj (.ref f) (.ref y))
   exact k a _ (.inl rfl) e
 | ext φ => obtain ⟨p, ⟨o, e⟩, st⟩ := x; exact ⟨st _ _ p fun o q => k _ _ (.inl rfl) q, ⟨o, k _ _ (.inl rfl) e⟩, st⟩
theorem HOk.lt (x : HOk P w H h) (e : H a = some o) : a < h.objs.size := (x a o e).lt
theorem HOk.fresh (x : HOk P w H h) (e : h.objs.size ≤ a) : H a = none := by
 cases q : H a with
 | none => rfl
 | some u => exact absurd (Nat.lt_of_lt_of_le (x.lt q) e) (Nat.lt_irrefl _)
theorem HOk.kept (x : HOk P w H h) (k : ∀ b u, h.get? b = some u → h'.get? b = some u) : HOk P w H h' := fun a o e =>
 (x a o e).stay (fun b u _ q => k b u q) (fun _ q => q) fun _ _ q => q
theorem HOk.laid (x : HOk P w H h) (k : ∀ b u, h.get? b = some u → h'.get? b = some u) (hp : h.objs.size ≤ a) (new : ObjOk P w (upd H a o) h' a o) : HOk P w (upd H a o) h' := fun b u e => by
 have hn := x.fresh hp
 by_cases hb : b = a
 · subst hb; rw [upd_same] at e; cases e; exact new
 · rw [upd_ne hb] at e
   exact (x b u e).stay (fun c v _ q => k c v q) (fun c q => by rw [upd_ne (ne_of_none q hn)]; exact q) fun c xs q => by rw [upd_ne (ne_of_none q hn)]; exact q
end
def Rd (H : Hp) (a : Addr) (u : HO) : Prop := H a = some u ∨ ∃ o, H a = some (.frz o u)
theorem Rd.ok {P : Program} {w : World} {H : Hp} {h : Heap} {a : Addr} {u : HO} (r : Rd H a u) (x : HOk P w H h) : ObjOk P w H h a u := by
 rcases r with r | ⟨o, r⟩
 · exact x a u r
 · obtain ⟨_, q⟩ := x a _ r
   exact q
def Mut : Option HO → Prop
 | some (.lst _) => True
 | some (.dK _) => True
 | some (.dT _) => True
 | some (.set _ _) => True
 | some (.ins _ _ _) => True
 | some (.ext _) => True
 | _ => False
section
variable {P : Program} {w : World} {H : Hp} {h h' : Heap} {x e : Addr} {o' : HO}
theorem HOk.write (ok : HOk P w H h) (mu : Mut (H x)) (he : e = x ∨ H e = some (.own x)) (k : ∀ b u, b ≠ e → h.get? b = some u → h'.get? b = some u) (heo : ∃ u, h'.get? e = some u)
   (new : ObjOk P w (upd H x o') h' x o') : HOk P w (upd H x o') h' := fun b u q => by
 have nown : ∀ c y, H c = some (.own y) → c ≠ x := fun c y r z => by subst z; rw [r] at mu; exact mu
 have ntup : ∀ c xs, H c = some (.tup xs) → c ≠ x := fun c xs r z => by subst z; rw [r] at mu; exact mu
 by_cases hb : b = x
 · subst hb; rw [upd_same] at q; cases q; exact new
 · rw [upd_ne hb] at q
   by_cases hbe : b = e
   · have q' : H b = some (.own x) := by
       rcases he with z | z
       · exact absurd (hbe.trans z) hb
       · rw [hbe]; exact z
     rw [q] at q'; cases q'
     obtain ⟨v, hv⟩ := heo
     exact ⟨v, by rw [hbe]; exact hv⟩
   · refine (ok b u q).stay (fun c v hc r => k c v ?_ r) (fun c r => by rw [upd_ne (nown c b r)]; exact r) fun c xs r => by rw [upd_ne (ntup c xs r)]; exact r
     rcases hc with rfl | hc
     · exact hbe
     · rintro rfl
       rcases he with z | z
       · exact nown c b hc z
       · rw [hc] at z; cases z; exact hb rfl
end
structure Un (fs ex : List Addr) (H H' : Hp) (h h' : Heap) : Prop where
 keep : ∀ b o, h.get? b = some o → H b = none → b ∉ fs → b ∉ ex → h'.get? b = some o
 slot : ∀ b o, h.get? b = some o → H b = none → b ∈ fs → b ∉ ex → ∃ sl, h'.get? b = some { o with slots := sl }
 free : ∀ b o, h.get? b = some o → H b = none → b ∉ ex → H' b = none
 there : ∀ b o, h.get? b = some o → b ∉ ex → ∃ o', h'.get? b = some o'
 tups : ∀ b xs, H b = some (.tup xs) → H' b = some (.tup xs)
 frzs : ∀ b o u, H b = some (.frz o u) → H' b = some (.frz o u)
 tbls : ∀ b ps, H b = some (.tbl ps) → ∃ more, H' b = some (.tbl (ps ++ more))
section
variable {fs fs' ex ex' : List Addr} {H H1 H2 : Hp} {h h1 h2 h' : Heap} {a x e : Addr} {o : HO}
theorem Un.any (u : Un fs ex H H1 h h1) {b : Addr} {ob : Obj} (q : h.get? b = some ob) (n : H b = none) (hx : b ∉ ex) : ∃ sl, h1.get? b = some { ob with slots := sl } := by
 by_cases hb : b ∈ fs
 · exact u.slot b ob q n hb hx
 · exact ⟨ob.slots, u.keep b ob q n hb hx⟩
theorem Un.kept (k : ∀ b u, h.get? b = some u → h'.get? b = some u) : Un fs ex H H h h' :=
 ⟨fun b ob q _ _ _ => k b ob q, fun b ob q _ _ _ => ⟨ob.slots, k b ob q⟩, fun _ _ _ n _ => n, fun b ob q _ => ⟨ob, k b ob q⟩, fun _ _ q => q, fun _ _ _ q => q, fun _ ps q => ⟨#[], by rw [q]; simp⟩⟩
theorem Un.refl : Un fs ex H H h h := Un.kept fun _ _ q => q
theorem Un.laid (k : ∀ b u, h.get? b = some u → h'.get? b = some u) (hp : h.objs.size ≤ a) (hn : H a = none) : Un fs ex H (upd H a o) h h' where
 keep := fun b u q _ _ _ => k b u q
 slot := fun b u q _ _ _ => ⟨u.slots, k b u q⟩
 free := fun b u q n _ => by rw [upd_ne (Nat.ne_of_lt (Nat.lt_of_lt_of_le (Heap.lt_size q) hp))]; exact n
 there := fun b u q _ => ⟨u, k b u q⟩
 tups := fun b xs q => by rw [upd_ne (ne_of_none q hn)]; exact q
 frzs := fun b u xs q => by rw [upd_ne (ne_of_none q hn)]; exact q
 tbls := fun b ps q => ⟨#[], by rw [upd_ne (ne_of_none q hn), q]; simp⟩
theorem Un.write (mu : Mut (H x)) (he : e = x ∨ H e = some (.own x)) (k : ∀ b u, b ≠ e → h.get? b = some u → h'.get? b = some u) (heo : ∃ u, h'.get? e = some u) : Un fs ex H (upd H x o) h h' := by
 have hx : ∀ b, H b = none → b ≠ x := fun b n z => by subst z; rw [n] at mu; exact mu
 have hb : ∀ b, H b = none → b ≠ e := fun b n z => by
   subst z
   rcases he with r | r
   · exact hx b n r
   · rw [n] at r; cases r
 have hm : ∀ b u, H b = some u → ¬ Mut (some u) → b ≠ x := fun b u q nm z => by subst z; rw [q] at mu; exact nm mu
 refine ⟨fun b u q n _ _ => k b u (hb b n) q, fun b u q n _ _ => ⟨u.slots, k b u (hb b n) q⟩, fun b u q n _ => by rw [upd_ne (hx b n)]; exact n, fun b u q _ => ?_,
   fun b xs q => by rw [upd_ne (hm b _ q fun z => z)]; exact q, fun b u xs q => by rw [upd_ne (hm b _ q fun z => z)]; exact q, fun b ps q => ⟨#[], by rw [upd_ne (hm b _ q fun z => z), q]; simp⟩⟩
 by_cases hbe : b = e
 · subst hbe; exact heo
 · exact ⟨u, k b u hbe q⟩
end
def trk (h : Heap) (H : Hp) : List Addr := (List.range h.objs.size).filter fun a => (H a).isSome
def hidT (h : Heap) (H : Hp) : Heap := PySem.W.hideAll h (trk h H)
theorem hidT_size (h : Heap) (H : Hp) : (hidT h H).objs.size = h.objs.size := PySem.W.hideAll_size _ _
theorem hidT_get {h : Heap} {H : Hp} {b : Addr} {o : Obj} (e : h.get? b = some o) (n : H b = none) : (hidT h H).get? b = some o :=
 PySem.W.hideAll_get _ e fun hm => by
   have q : (H b).isSome = true := (List.mem_filter.mp hm).2
   rw [n] at q; simp at q
theorem of_hidT {h : Heap} {H : Hp} {b : Addr} {o : Obj} (e : (hidT h H).get? b = some o) : h.get? b = some o ∧ H b = none := by
 have e' : h.get? b = some o := PySem.W.of_hideAll (trk h H) e
 refine ⟨e', ?_⟩
 cases q : H b with
 | none => rfl
 | some x =>
   have hm : b ∈ trk h H := List.mem_filter.mpr ⟨List.mem_range.mpr (Heap.lt_size e'), by simp [q]⟩
   have z : (hidT h H).get? b = none := PySem.W.hideAll_none (trk h H) hm
   rw [z] at e; cases e
end L2
namespace L2
open PySem PySem.Spec PyProof.Rows
structure Mod (K : PySem.W.Frag) (mg : Str → Option Value) (base : Heap) : Prop where
 kin : K.In base
 glob : base.Ns mainGlobals mg
 blt : ∃ mb, base.Ns builtinsNs mb ∧ ∀ x : Str, x ≠ "__name__" → mb x = bootBuiltins x
 nolimit : base.NoLimit
structure Cx where
 prog : Program
 w : World
 K : PySem.W.Frag
 mg : Str → Option Value
 base : Heap
 A : Around
 N : List Str
 s₀ : Shared
 H₀ : Hp
 env : Env
 outer : List Env
 stack : List Env
 ex : List Addr
 fn : Str → Bool
 calm : Bool
 pn : List (Addr × Obj)
 xe : Value → Shared → Prop
def frs (l : List Env) : List Addr := l.filterMap (·.frame)
abbrev Cx.fs (X : Cx) : List Addr := frs X.outer
def Vis (sc : Scope) (x : Str) : Prop := sc.names.lookup x = some .local ∨ sc.names.lookup x = some .cell ∨ sc.names.lookup x = some .free
def Loc (sc : Scope) (x : Str) : Prop := sc.names.lookup x = some .local ∨ sc.names.lookup x = some .cell
def Look (env : Env) (h : Heap) (m : Str → Option Value) (x : Str) (u : Value) : Prop :=
 (env.kindOf x = some .local ∧ m x = some u) ∨ ((env.kindOf x = some .cell ∨ env.kindOf x = some .free) ∧ ∃ c, env.cells.lookup x = some c ∧ h.IsCell c (some u))
structure Cx.Ok (X : Cx) : Prop where
 mod : Mod X.K X.mg X.base
 kind : X.env.scope.kind = .function
 glob : X.env.globals = mainGlobals
 blt : X.env.builtins = builtinsNs
 above : X.s₀.heap.objs.size ≤ X.env.locals
 inj : ∀ x y c, X.env.cells.lookup x = some c → X.env.cells.lookup y = some c → x = y
 has : ∀ x, (X.env.kindOf x = some .cell ∨ X.env.kindOf x = some .free) → ∃ c, X.env.cells.lookup x = some c
 cab : ∀ x c, X.fn x = true → X.env.cells.lookup x = some c → X.s₀.heap.objs.size ≤ c
 hd : X.calm = true → X.A.handled = none
 frames : X.A.frames = some X.stack
 stk : X.stack = X.outer ∨ (X.stack = X.env :: X.outer ∧ X.env.frame = some X.env.locals)
 exf : ∀ b ∈ X.ex, b ≠ X.env.locals ∧ ∀ x c, X.env.cells.lookup x = some c → c ≠ b
 bs : ∀ b o, X.base.get? b = some o → X.s₀.heap.get? b = some o ∧ X.H₀ b = none
 bsz : X.base.objs.size ≤ X.s₀.heap.objs.size
 noex : ∀ b o, X.base.get? b = some o → b ∉ X.ex
 exfs : ∀ b ∈ X.ex, b ∉ X.fs
 funs : X.s₀.heap.FunFrames X.base X.outer
 frf : ∀ b ∈ X.fs, X.H₀ b = none
structure Inv (X : Cx) (pins : List (Addr × Obj)) (σ : List (Option V)) (H : Hp) (s : Shared) : Prop where
 ok : X.Ok
 os : s.os = X.s₀.os
 bare : AllBare s.gens
 base : Un X.fs X.ex X.H₀ H X.s₀.heap s.heap
 loc : ∃ m, s.heap.Ns X.env.locals m ∧ ∀ (i : Nat) (x : Str) (v : V), X.N[i]? = some x → σ[i]? = some (some v) → Vis X.env.scope x → ∃ u, RelV v u ∧ Look X.env s.heap m x u
 cell : ∀ x c, X.env.cells.lookup x = some c → ∃ v, s.heap.IsCell c v
 free : H X.env.locals = none
 freeC : ∀ x c, X.env.cells.lookup x = some c → H c = none
 pin : ∀ p ∈ X.pn ++ pins, s.heap.get? p.1 = some p.2 ∧ H p.1 = none ∧ p.1 ≠ X.env.locals ∧ p.1 ∉ X.fs ∧ ∀ v, p.2.data ≠ .cell v
 hok : HOk X.prog X.w H s.heap
 len : σ.length = X.N.length
section
variable {X : Cx} {pins : List (Addr × Obj)} {σ : List (Option V)} {H H' : Hp} {s : Shared} {h' : Heap}
theorem Cx.Ok.nofr (ok : X.Ok) {b : Addr} {o : Obj} (e : X.base.get? b = some o) : b ∉ X.fs := fun hb => by
 have := (ok.funs.mem hb).1
 rw [e] at this; cases this
theorem Inv.bs (I : Inv X pins σ H s) : ∀ b o, X.base.get? b = some o → s.heap.get? b = some o ∧ H b = none := fun b o e =>
 ⟨I.base.keep b o (I.ok.bs b o e).1 (I.ok.bs b o e).2 (I.ok.nofr e) (I.ok.noex b o e), I.base.free b o (I.ok.bs b o e).1 (I.ok.bs b o e).2 (I.ok.noex b o e)⟩
theorem Inv.bk (I : Inv X pins σ H s) : ∀ b o, X.base.get? b = some o → s.heap.get? b = some o := fun b o e => (I.bs b o e).1
theorem Inv.mod (I : Inv X pins σ H s) : Mod X.K X.mg X.base := I.ok.mod
theorem Inv.kIn (I : Inv X pins σ H s) : X.K.In s.heap := I.ok.mod.kin.keeps I.bk
theorem Inv.lt (I : Inv X pins σ H s) : X.env.locals < s.heap.objs.size := let ⟨_, hn, _⟩ := I.loc; hn.lt
theorem Inv.sz (I : Inv X pins σ H s) : X.s₀.heap.objs.size ≤ s.heap.objs.size := Nat.le_trans I.ok.above (Nat.le_of_lt I.lt)
theorem Inv.nofs (I : Inv X pins σ H s) {a : Addr} (h : s.heap.objs.size ≤ a) : a ∉ X.fs := fun hb => by
 obtain ⟨_, o, ho, _⟩ := I.ok.funs.mem hb
 exact absurd (Nat.lt_of_lt_of_le (Heap.lt_size ho) (Nat.le_trans I.sz h)) (Nat.lt_irrefl _)
theorem Inv.cne (I : Inv X pins σ H s) : ∀ x c, X.env.cells.lookup x = some c → c ≠ X.env.locals := fun x c e z => by
 obtain ⟨v, o, ho, hd⟩ := I.cell x c e
 obtain ⟨m, ⟨o', es, ep, ho', hd', _⟩, _⟩ := I.loc
 rw [z, ho'] at ho; cases ho; rw [hd'] at hd; cases hd
theorem Inv.funs (I : Inv X pins σ H s) : s.heap.FunFrames X.base X.outer := by
 have all : ∀ (l : List Env), (∀ b ∈ frs l, b ∈ X.fs) → X.s₀.heap.FunFrames X.base l → s.heap.FunFrames X.base l := by
   intro l
   induction l with
   | nil => intro _ _; trivial
   | cons env r ih =>
     intro hs hl
     obtain ⟨hk, ⟨L, o, hf, hn, ho, hd⟩, hr⟩ := hl
     have hL : L ∈ X.fs := hs L (by unfold frs; rw [List.filterMap_cons, hf]; exact List.mem_cons_self)
     obtain ⟨sl, e⟩ := I.base.slot L o ho (I.ok.frf L hL) hL fun z => I.ok.exfs L z hL
     exact ⟨hk, ⟨L, _, hf, hn, e, hd⟩, ih (fun b hb => hs b (by unfold frs; rw [List.filterMap_cons, hf]; exact List.mem_cons_of_mem _ hb)) hr⟩
 exact all X.outer (fun _ hb => hb) I.ok.funs
theorem Inv.stack (I : Inv X pins σ H s) : s.heap.FunFrames X.base X.stack := by
 rcases I.ok.stk with e | ⟨e, hf⟩
 · rw [e]; exact I.funs
 · rw [e]
   obtain ⟨m, hn, _⟩ := I.loc
   refine .cons (by rw [I.ok.kind]; decide) hf hn ?_ I.funs
   exact Heap.get?_none_of_le (Nat.le_trans I.ok.bsz I.ok.above)
theorem Inv.stkSub (I : Inv X pins σ H s) : ∀ b ∈ frs X.stack, b ∈ X.env.locals :: X.fs := fun b hb => by
 rcases I.ok.stk with e | ⟨e, hf⟩
 · rw [e] at hb; exact List.mem_cons_of_mem _ hb
 · rw [e] at hb
   unfold frs at hb
   rw [List.filterMap_cons, hf] at hb
   exact hb
theorem Inv.stkFree (I : Inv X pins σ H s) : ∀ b ∈ frs X.stack, H b = none := fun b hb => by
 rcases List.mem_cons.mp (I.stkSub b hb) with e | hb
 · rw [e]; exact I.free
 · obtain ⟨_, o, ho, _⟩ := I.ok.funs.mem hb
   exact I.base.free b o ho (I.ok.frf b hb) fun z => I.ok.exfs b z hb
theorem Inv.step {g' : Array GenState} {t' : Nat} {d' : Drawn} {ch : List Addr} (I : Inv X pins σ H s)
   (hch : ∀ b ∈ ch, (b ∈ X.ex ∨ X.s₀.heap.objs.size ≤ b) ∧ b ≠ X.env.locals ∧ (∀ x c, X.env.cells.lookup x = some c → c ≠ b) ∧ ∀ p ∈ X.pn ++ pins, p.1 ≠ b)
   (keep : ∀ b o, b ≠ X.env.locals → b ∉ X.fs → b ∉ ch → s.heap.get? b = some o → H b = none → h'.get? b = some o)
   (slot : ∀ b o, b ≠ X.env.locals → b ∈ X.fs → b ∉ ch → s.heap.get? b = some o → H b = none → ∃ sl, h'.get? b = some { o with slots := sl }) (free : ∀ b o, b ∉ ch → s.heap.get? b = some o → H b = none → H' b = none)
   (there : ∀ b o, b ∉ ch → s.heap.get? b = some o → ∃ o', h'.get? b = some o')
   (tups : ∀ b xs, H b = some (.tup xs) → H' b = some (.tup xs)) (frzs : ∀ b o u, H b = some (.frz o u) → H' b = some (.frz o u)) (tbls : ∀ b ps, H b = some (.tbl ps) → ∃ more, H' b = some (.tbl (ps ++ more)))
   (ns : ∀ m, s.heap.Ns X.env.locals m → h'.Ns X.env.locals m) (hok : HOk X.prog X.w H' h') (hg : AllBare g') :
   Inv X pins σ H' { s with heap := h', gens := g', drawn := d', toks := t' } := by
 have neL : ∀ b o, X.s₀.heap.get? b = some o → b ≠ X.env.locals := fun b o e => Nat.ne_of_lt (Nat.lt_of_lt_of_le (Heap.lt_size e) I.ok.above)
 have neC : ∀ b o, X.s₀.heap.get? b = some o → b ∉ X.ex → b ∉ ch := fun b o e hx hb => by
   rcases (hch b hb).1 with z | z
   · exact hx z
   · exact absurd (Nat.lt_of_lt_of_le (Heap.lt_size e) z) (Nat.lt_irrefl _)
 have cellK : ∀ x c, X.env.cells.lookup x = some c → ∀ v, s.heap.IsCell c v → h'.IsCell c v := fun x c e v ⟨o, ho, hd⟩ => by
   have nch : c ∉ ch := fun z => (hch c z).2.2.1 x c e rfl
   by_cases hc : c ∈ X.fs
   · obtain ⟨sl, q⟩ := slot c o (I.cne x c e) hc nch ho (I.freeC x c e)
     exact ⟨_, q, hd⟩
   · exact ⟨o, keep c o (I.cne x c e) hc nch ho (I.freeC x c e), hd⟩
 refine ⟨I.ok, I.os, hg, ⟨fun b o e n hb hx => ?_, fun b o e n hb hx => ?_, fun b o e n hx => ?_, fun b o e hx => ?_, fun b xs e => tups b xs (I.base.tups b xs e), fun b o xs e => frzs b o xs (I.base.frzs b o xs e), fun b ps e => ?_⟩, ?_, fun x c e => ?_, ?_, fun x c e => ?_, fun p hp => ?_, hok, I.len⟩
 · exact keep b o (neL b o e) hb (neC b o e hx) (I.base.keep b o e n hb hx) (I.base.free b o e n hx)
 · obtain ⟨sl, e1⟩ := I.base.slot b o e n hb hx
   obtain ⟨sl', e2⟩ := slot b _ (neL b o e) hb (neC b o e hx) e1 (I.base.free b o e n hx)
   exact ⟨sl', e2⟩
 · obtain ⟨o', e1⟩ := I.base.there b o e hx
   exact free b o' (neC b o e hx) e1 (I.base.free b o e n hx)
 · obtain ⟨o', e1⟩ := I.base.there b o e hx
   exact there b o' (neC b o e hx) e1
 · obtain ⟨m1, e1⟩ := I.base.tbls b ps e
   obtain ⟨m2, e2⟩ := tbls b _ e1
   exact ⟨m1 ++ m2, by rw [e2, Array.append_assoc]⟩
 · obtain ⟨m, hn, hl⟩ := I.loc
   refine ⟨m, ns m hn, fun i x v e1 e2 e3 => ?_⟩
   obtain ⟨u, r, l⟩ := hl i x v e1 e2 e3
   refine ⟨u, r, ?_⟩
   rcases l with l | ⟨k, c, e, z⟩
   · exact .inl l
   · exact .inr ⟨k, c, e, cellK x c e _ z⟩
 · obtain ⟨v, z⟩ := I.cell x c e
   exact ⟨v, cellK x c e v z⟩
 · obtain ⟨m, ⟨o, _, _, ho, _⟩, _⟩ := I.loc
   exact free _ o (fun z => (hch _ z).2.1 rfl) ho I.free
 · obtain ⟨v, o, ho, hd⟩ := I.cell x c e
   exact free c o (fun z => (hch c z).2.2.1 x c e rfl) ho (I.freeC x c e)
 · obtain ⟨e, n, ne, nf, d⟩ := I.pin p hp
   have nch : p.1 ∉ ch := fun z => (hch p.1 z).2.2.2 p hp rfl
   exact ⟨keep p.1 p.2 ne nf nch e n, free p.1 p.2 nch e n, ne, nf, d⟩
theorem Inv.un {t' : Nat} (I : Inv X pins σ H s) (u : Un X.fs [] H H' s.heap h') (hok : HOk X.prog X.w H' h') : Inv X pins σ H' { s with heap := h', toks := t' } := by
 obtain ⟨m, ⟨o, es, ep, ho, r⟩, _⟩ := id I.loc
 obtain ⟨sl, hL⟩ := u.any ho I.free (by simp)
 exact I.step (g' := s.gens) (d' := s.drawn) (ch := []) (fun _ z => nomatch z) (fun b o _ hb _ e n => u.keep b o e n hb (by simp)) (fun b o _ hb _ e n => u.slot b o e n hb (by simp)) (fun b o _ e n => u.free b o e n (by simp)) (fun b o _ e => u.there b o e (by simp)) u.tups u.frzs u.tbls (fun m' hm => by
   obtain ⟨o', es', ep', ho', r'⟩ := hm
   rw [ho] at ho'; cases ho'
   exact ⟨_, es', ep', hL, r'⟩) hok I.bare
theorem Inv.call {g' : Array GenState} {t' : Nat} {d' : Drawn} {ch : List Addr} (I : Inv X pins σ H s) (u : Un (frs X.stack) ch H H' s.heap h') (hok : HOk X.prog X.w H' h') (hg : AllBare g')
   (hch : ∀ b ∈ ch, (b ∈ X.ex ∨ X.s₀.heap.objs.size ≤ b) ∧ b ≠ X.env.locals ∧ (∀ x c, X.env.cells.lookup x = some c → c ≠ b) ∧ ∀ p ∈ X.pn ++ pins, p.1 ≠ b) :
   Inv X pins σ H' { s with heap := h', gens := g', drawn := d', toks := t' } := by
 obtain ⟨m, ⟨o, es, ep, ho, r⟩, _⟩ := id I.loc
 obtain ⟨sl, hL⟩ := u.any ho I.free fun z => (hch _ z).2.1 rfl
 exact I.step (ch := ch) hch (fun b o hL hb hc e n => u.keep b o e n (fun z => (List.mem_cons.mp (I.stkSub b z)).elim hL hb) hc) (fun b o _ _ hc e n => u.any e n hc) (fun b o hc e n => u.free b o e n hc) (fun b o hc e => u.there b o e hc) u.tups u.frzs u.tbls (fun m' hm => by
   obtain ⟨o', es', ep', ho', r'⟩ := hm
   rw [ho] at ho'; cases ho'
   exact ⟨_, es', ep', hL, r'⟩) hok hg
theorem Inv.turned {t' : Nat} {it : Addr} (I : Inv X pins σ H s) (k : ∀ b o, b ≠ it → s.heap.get? b = some o → h'.get? b = some o) (hn : H it = none) (hL : it ≠ X.env.locals)
   (h1 : it ∈ X.ex ∨ X.s₀.heap.objs.size ≤ it) (h2 : ∀ x c, X.env.cells.lookup x = some c → c ≠ it) (h3 : ∀ p ∈ X.pn ++ pins, p.1 ≠ it) : Inv X pins σ H { s with heap := h', toks := t' } := by
 have nit : ∀ b u, H b = some u → b ≠ it := fun b u e z => by rw [z, hn] at e; cases e
 refine I.step (g' := s.gens) (d' := s.drawn) (ch := [it]) (fun b hb => ?_) (fun b o _ _ hc e _ => k b o (fun z => hc (by simp [z])) e) (fun b o _ _ hc e _ => ⟨o.slots, k b o (fun z => hc (by simp [z])) e⟩) (fun _ _ _ _ n => n)
   (fun b o hc e => ⟨o, k b o (fun z => hc (by simp [z])) e⟩) (fun _ _ e => e) (fun _ _ _ e => e) (fun b ps e => ⟨#[], by rw [e]; simp⟩) (fun m hm => ?_) (fun b u e => ?_) I.bare
 · have e : b = it := by simpa using hb
   subst e
   exact ⟨h1, hL, h2, h3⟩
 · obtain ⟨o, es, ep, ho, r⟩ := hm
   exact ⟨o, es, ep, k _ o (Ne.symm hL) ho, r⟩
 · refine (I.hok b u e).stay (fun c v hc q => k c v ?_ q) (fun _ q => q) fun _ _ q => q
   rcases hc with z | z
   · rw [z]; exact nit b u e
   · exact nit c _ z
theorem Inv.tok (I : Inv X pins σ H s) (t : Nat) : Inv X pins σ H { s with toks := t } := I.un (h' := s.heap) (t' := t) Un.refl I.hok
theorem Inv.kept {t' : Nat} (I : Inv X pins σ H s) (k : ∀ b u, s.heap.get? b = some u → h'.get? b = some u) : Inv X pins σ H { s with heap := h', toks := t' } := I.un (Un.kept k) (I.hok.kept k)
theorem Inv.laid {a : Addr} {o : HO} {t' : Nat} (I : Inv X pins σ H s) (k : ∀ b u, s.heap.get? b = some u → h'.get? b = some u) (hp : s.heap.objs.size ≤ a) (new : ObjOk X.prog X.w (upd H a o) h' a o) :
   Inv X pins σ (upd H a o) { s with heap := h', toks := t' } := I.un (Un.laid k hp (I.hok.fresh hp)) (I.hok.laid k hp new)
theorem Inv.write {x e : Addr} {o : HO} {t' : Nat} (I : Inv X pins σ H s) (mu : Mut (H x)) (he : e = x ∨ H e = some (.own x)) (k : ∀ b u, b ≠ e → s.heap.get? b = some u → h'.get? b = some u) (heo : ∃ u, h'.get? e = some u)
   (new : ObjOk X.prog X.w (upd H x o) h' x o) : Inv X pins σ (upd H x o) { s with heap := h', toks := t' } := I.un (Un.write mu he k heo) (I.hok.write mu he k heo new)
theorem Inv.pins_of {pins' : List (Addr × Obj)} (I : Inv X pins σ H s) (h : ∀ p ∈ pins', s.heap.get? p.1 = some p.2 ∧ H p.1 = none ∧ p.1 ≠ X.env.locals ∧ p.1 ∉ X.fs ∧ ∀ v, p.2.data ≠ .cell v) : Inv X pins' σ H s :=
 ⟨I.ok, I.os, I.bare, I.base, I.loc, I.cell, I.free, I.freeC, fun p hp => (List.mem_append.mp hp).elim (fun z => I.pin p (List.mem_append_left _ z)) (h p), I.hok, I.len⟩
theorem nodup_ix {N : List Str} (hN : N.Nodup) {i j : Nat} {x : Str} (a : N[i]? = some x) (b : N[j]? = some x) : i = j := by
 obtain ⟨h1, e1⟩ := List.getElem?_eq_some_iff.mp a
 obtain ⟨h2, e2⟩ := List.getElem?_eq_some_iff.mp b
 exact (List.getElem_inj hN).mp (e1.trans e2.symm)
theorem store_ok2 {M : Model} {A : Around} {E : Value → Shared → Prop} {i : Nat} {x : Str} {v : V} {u : Value} {Q : Unit → Shared → Prop} (I : Inv X pins σ H s) (hN : X.N.Nodup) (hi : X.N[i]? = some x) (hx : Loc X.env.scope x) (r : RelV v u)
   (h : ∀ s', Inv X pins (σ.set i (some v)) H s' → (∃ a, Heap.SameBut a s.heap s'.heap ∧ (a = X.env.locals ∨ X.env.cells.lookup x = some a)) → Q () s') (hf : X.fn x = true ∨ X.env.scope.names.lookup x = some .local := by first | exact .inl rfl | exact .inr rfl | assumption) : wpAny M A (storeName X.env x u) Q E s := by
 obtain ⟨m, hn, hl⟩ := id I.loc
 have hcls : (X.env.scope.kind == .class || (X.env.scope.kind == .module && X.env.locals != X.env.globals)) = false := by rw [I.ok.kind]; rfl
 have hiσ : i < σ.length := by rw [I.len]; exact (List.getElem?_eq_some_iff.mp hi).1
 have cne := I.cne
 have tracked : ∀ {a : Addr} {h' : Heap}, (∃ o, s.heap.get? a = some o ∧ H a = none) → Heap.SameBut a s.heap h' → HOk X.prog X.w H h' := fun {a h'} ha hs b ob e => by
   obtain ⟨_, _, hfree⟩ := ha
   refine (I.hok b ob e).stay (fun c w' hc q => (hs.2 c ?_).trans q) (fun _ q => q) fun _ _ q => q
   rintro rfl
   rcases hc with rfl | hc
   · rw [hfree] at e; cases e
   · rw [hfree] at hc; cases hc
 rcases hx with hk | hk
 · refine wpAny_storeName_local hk hn (fun h' hn' hs => ?_) hcls
   obtain ⟨oL, _, _, hoL, _⟩ := id hn
   refine h _ ⟨I.ok, I.os, I.bare, ⟨fun b o e n hb hx => ?_, fun b o e n hb hx => ?_, I.base.free, fun b o e hx => ?_, I.base.tups, I.base.frzs, I.base.tbls⟩, ⟨_, hn', fun j y v' e1 e2 e3 => ?_⟩, fun y c e => ?_, I.free, I.freeC, fun p hp => ?_, tracked ⟨oL, hoL, I.free⟩ hs, by simpa using I.len⟩ ⟨_, hs, .inl rfl⟩
   · exact (hs.2 b (Nat.ne_of_lt (Nat.lt_of_lt_of_le (Heap.lt_size e) I.ok.above))).trans (I.base.keep b o e n hb hx)
   · obtain ⟨sl, e1⟩ := I.base.slot b o e n hb hx
     exact ⟨sl, (hs.2 b (Nat.ne_of_lt (Nat.lt_of_lt_of_le (Heap.lt_size e) I.ok.above))).trans e1⟩
   · obtain ⟨o', e1⟩ := I.base.there b o e hx
     exact ⟨o', (hs.2 b (Nat.ne_of_lt (Nat.lt_of_lt_of_le (Heap.lt_size e) I.ok.above))).trans e1⟩
   · by_cases hj : j = i
     · subst hj
       rw [hi] at e1; cases e1
       rw [List.getElem?_set_self hiσ] at e2
       cases e2
       exact ⟨u, r, .inl ⟨hk, by simp⟩⟩
     · rw [List.getElem?_set_ne (Ne.symm hj)] at e2
       obtain ⟨u', r', q⟩ := hl j y v' e1 e2 e3
       refine ⟨u', r', ?_⟩
       rcases q with ⟨k, e⟩ | ⟨k, c, e, z⟩
       · refine .inl ⟨k, ?_⟩
         have : y ≠ x := fun e => hj (nodup_ix hN e1 (e ▸ hi))
         simp [this, e]
       · exact .inr ⟨k, c, e, z.sameBut hs (cne y c e)⟩
   · obtain ⟨w', z⟩ := I.cell y c e
     exact ⟨w', z.sameBut hs (cne y c e)⟩
   · obtain ⟨e, n, ne, nf, d⟩ := I.pin p hp
     exact ⟨(hs.2 p.1 ne).trans e, n, ne, nf, d⟩
 · have hfn : X.fn x = true := by
     rcases hf with z | z
     · exact z
     · rw [z] at hk; cases hk
   obtain ⟨c, hc⟩ := I.ok.has x (.inl hk)
   obtain ⟨w', z⟩ := I.cell x c hc
   refine wpAny_storeName_cell I.ok.kind hk hc z (fun h' hc' hs => ?_)
   obtain ⟨oc, hoc, hocd⟩ := id z
   refine h { s with heap := h' } ⟨I.ok, I.os, I.bare, ⟨fun b o e n hb hx => ?_, fun b o e n hb hx => ?_, I.base.free, fun b o e hx => ?_, I.base.tups, I.base.frzs, I.base.tbls⟩, ⟨m, hn.sameBut hs (Ne.symm (cne x c hc)), fun j y v' e1 e2 e3 => ?_⟩, fun y c' e => ?_, I.free, I.freeC, fun p hp => ?_, tracked ⟨oc, hoc, I.freeC x c hc⟩ hs, by simpa using I.len⟩ ⟨c, hs, .inr hc⟩
   · exact (hs.2 b (Nat.ne_of_lt (Nat.lt_of_lt_of_le (Heap.lt_size e) (I.ok.cab x c hfn hc)))).trans (I.base.keep b o e n hb hx)
   · obtain ⟨sl, e1⟩ := I.base.slot b o e n hb hx
     exact ⟨sl, (hs.2 b (Nat.ne_of_lt (Nat.lt_of_lt_of_le (Heap.lt_size e) (I.ok.cab x c hfn hc)))).trans e1⟩
   · obtain ⟨o', e1⟩ := I.base.there b o e hx
     exact ⟨o', (hs.2 b (Nat.ne_of_lt (Nat.lt_of_lt_of_le (Heap.lt_size e) (I.ok.cab x c hfn hc)))).trans e1⟩
   · by_cases hj : j = i
     · subst hj
       rw [hi] at e1; cases e1
       rw [List.getElem?_set_self hiσ] at e2
       cases e2
       exact ⟨u, r, .inr ⟨.inl hk, c, hc, hc'⟩⟩
     · rw [List.getElem?_set_ne (Ne.symm hj)] at e2
       obtain ⟨u', r', q⟩ := hl j y v' e1 e2 e3
       refine ⟨u', r', ?_⟩
       rcases q with q | ⟨k, c', e, z'⟩
       · exact .inl q
       · refine .inr ⟨k, c', e, z'.sameBut hs ?_⟩
         rintro rfl
         exact hj (nodup_ix hN e1 (I.ok.inj _ _ _ e hc ▸ hi))
   · by_cases hcc : c' = c
     · subst hcc; exact ⟨_, hc'⟩
     · obtain ⟨w2, z2⟩ := I.cell y c' e
       exact ⟨w2, z2.sameBut hs hcc⟩
   · obtain ⟨e, n, ne, nf, d⟩ := I.pin p hp
     refine ⟨(hs.2 p.1 ?_).trans e, n, ne, nf, d⟩
     intro q
     rw [q, hoc] at e
     have q' : oc = p.2 := Option.some.inj e
     exact d w' (by rw [← q']; exact hocd)
theorem store_ok {M : Model} {A : Around} {E : Value → Shared → Prop} {i : Nat} {x : Str} {v : V} {u : Value} {Q : Unit → Shared → Prop} (I : Inv X pins σ H s) (hN : X.N.Nodup) (hi : X.N[i]? = some x) (hx : Loc X.env.scope x) (r : RelV v u)
   (h : ∀ s', Inv X pins (σ.set i (some v)) H s' → Q () s') (hf : X.fn x = true ∨ X.env.scope.names.lookup x = some .local := by first | exact .inl rfl | exact .inr rfl | assumption) : wpAny M A (storeName X.env x u) Q E s :=
 store_ok2 I hN hi hx r (fun s' I' _ => h s' I') hf
theorem Inv.call' {s' : Shared} {ch : List Addr} (I : Inv X pins σ H s) (ho : s'.os = s.os) (u : Un (frs X.stack) ch H H' s.heap s'.heap) (hok : HOk X.prog X.w H' s'.heap) (hg : AllBare s'.gens)
   (hch : ∀ b ∈ ch, (b ∈ X.ex ∨ X.s₀.heap.objs.size ≤ b) ∧ b ≠ X.env.locals ∧ (∀ x c, X.env.cells.lookup x = some c → c ≠ b) ∧ ∀ p ∈ X.pn ++ pins, p.1 ≠ b) : Inv X pins σ H' s' := by
 obtain ⟨h', g', d', t', o'⟩ := s'
 have e : o' = s.os := ho
 subst e
 exact I.call (g' := g') (t' := t') (d' := d') u hok hg hch
end
abbrev XK := Value → Option Addr → Hp → Prop
abbrev St := List (Option V)
abbrev VK := V → Hp → Prop
abbrev TE := St → Hp → VK → Prop
abbrev TT := St → Hp → (Bool → Hp → Prop) → Prop
abbrev TA := St → Hp → (List V → Hp → Prop) → Prop
structure Ends where
 nx : St → Hp → Prop
 rt : VK
 bk : St → Hp → Prop := fun _ _ => False
 ct : St → Hp → Prop := fun _ _ => False
abbrev TS := Ends → St → Hp → Prop
def EP (X : Cx) (pins : List (Addr × Obj)) (σ : St) (Q : VK) (u : Value) (s' : Shared) : Prop := ∃ v H', Inv X pins σ H' s' ∧ RelV v u ∧ Q v H'
def TP (X : Cx) (pins : List (Addr × Obj)) (σ : St) (Q : Bool → Hp → Prop) (b : Bool) (s' : Shared) : Prop := ∃ H', Inv X pins σ H' s' ∧ Q b H'
def AP (X : Cx) (pins : List (Addr × Obj)) (σ : St) (Q : List V → Hp → Prop) (us : List Value) (s' : Shared) : Prop := ∃ vs H', Inv X pins σ H' s' ∧ Vals vs us ∧ Q vs H'
def SP (X : Cx) (pins : List (Addr × Obj)) (D : Ends) (f : Flow) (s' : Shared) : Prop :=
 match f with
 | .next => ∃ σ' H', Inv X pins σ' H' s' ∧ D.nx σ' H'
 | .brk => ∃ σ' H', Inv X pins σ' H' s' ∧ D.bk σ' H'
 | .cont => ∃ σ' H', Inv X pins σ' H' s' ∧ D.ct σ' H'
 | .ret u => ∃ v σ' H', Inv X pins σ' H' s' ∧ RelV v u ∧ D.rt v H'
def PE (X : Cx) (e : Expr) (t : TE) : Prop :=
 ∀ (pins : List (Addr × Obj)) (s : Shared) (σ : St) (H : Hp) (Q : VK), Inv X pins σ H s → t σ H Q → wpAny (model X.prog X.w) X.A (eval e X.env) (EP X pins σ Q) X.xe s
def PT (X : Cx) (e : Expr) (t : TT) : Prop :=
 ∀ (pins : List (Addr × Obj)) (s : Shared) (σ : St) (H : Hp) (Q : Bool → Hp → Prop), Inv X pins σ H s → t σ H Q → wpAny (model X.prog X.w) X.A (isTrue e X.env (eval e X.env)) (TP X pins σ Q) X.xe s
def PW (X : Cx) (e : Expr) (t : TT) : Prop :=
 ∀ (whole : Sem Value) (pins : List (Addr × Obj)) (s : Shared) (σ : St) (H : Hp) (Q : Bool → Hp → Prop), Inv X pins σ H s → t σ H Q → wpAny (model X.prog X.w) X.A (isTrue e X.env whole) (TP X pins σ Q) X.xe s
theorem PW.pt {X : Cx} {e : Expr} {t : TT} (h : PW X e t) : PT X e t := h _
def PA (X : Cx) (es : List Expr) (t : TA) : Prop :=
 ∀ (pos : Pos) (pins : List (Addr × Obj)) (s : Shared) (σ : St) (H : Hp) (Q : List V → Hp → Prop), Inv X pins σ H s → t σ H Q → wpAny (model X.prog X.w) X.A (spliced (backTo pos (starEach es X.env))) (AP X pins σ Q) X.xe s
def PS (X : Cx) (st : Stmt) (t : TS) : Prop :=
 ∀ (pins : List (Addr × Obj)) (s : Shared) (σ : St) (H : Hp) (D : Ends), Inv X pins σ H s → t D σ H → wpAny (model X.prog X.w) X.A (exec st X.env) (SP X pins D) X.xe s
def PSs (X : Cx) (st : List Stmt) (t : TS) : Prop :=
 ∀ (pins : List (Addr × Obj)) (s : Shared) (σ : St) (H : Hp) (D : Ends), Inv X pins σ H s → t D σ H → wpAny (model X.prog X.w) X.A (execs st X.env) (SP X pins D) X.xe s
theorem thn {α : Type} {t : Sem α} {Q Q' : α → Shared → Prop} {M : Model} {A : Around} {E : Value → Shared → Prop} {s : Shared} (h : wpAny M A t Q E s) (hQ : ∀ a s, Q a s → Q' a s) : wpAny M A t Q' E s := wpAny_mono h hQ fun _ _ x => x
end L2
namespace L2
open PySem PySem.Spec PyProof.Rows
section
variable {X : Cx}
def tVar (i : Nat) : TE := fun σ H Q => ∃ v, σ[i]? = some (some v) ∧ Q v H
def tC (v : V) : TE := fun _ H Q => Q v H
theorem pe_var {i : Nat} {x : Str} {pos : Pos} (hN : X.N[i]? = some x) (hv : Vis X.env.scope x) (hd : (x == ("__debug__" : Str)) = false := by decide) (hcd : (x == ("__classdict__" : Str)) = false := by decide) : PE X (.Name x pos) (tVar i) := by
 intro pins s σ H Q I h
 obtain ⟨v, e, h⟩ := h
 obtain ⟨m, hn, hl⟩ := I.loc
 obtain ⟨u, r, l⟩ := hl i x v hN e hv
 have fin : EP X pins σ Q u s := ⟨v, H, I, r, h⟩
 rcases l with ⟨hk, hm⟩ | ⟨hk, c, hc, hcell⟩
 · exact wpAny_Name (wpAny_loadName_local I.ok.kind hk hn hm fin) hd
 · rcases hk with hk | hk
   · exact wpAny_Name (wpAny_loadName_cell I.ok.kind hk hc hcell fin) hd
   · exact wpAny_Name (wpAny_loadName_free I.ok.kind hk hc hcell fin hcd) hd
theorem pe_int {i j pos} : PE X (.Constant (.int i) j pos) (tC (.int i)) := fun _ _ _ H _ I h => wpAny_Constant_int ⟨.int i, H, I.tok _, ⟨_, rfl⟩, h⟩
theorem pe_bl {b j pos} : PE X (.Constant (.bool b) j pos) (tC (.bl b)) := fun _ _ _ H _ I h => Constant_bool ⟨.bl b, H, I, rfl, h⟩
theorem pe_non {j pos} : PE X (.Constant .none j pos) (tC .non) := fun _ _ _ H _ I h => Constant_none ⟨.non, H, I, rfl, h⟩
theorem pe_str {x j pos} : PE X (.Constant (.str x) j pos) (tC (.str x)) := fun _ _ _ H _ I h => Calls.Constant_str ⟨.str x, H, I.tok _, ⟨_, rfl⟩, h⟩
def Gl (X : Cx) (x : Str) : Prop := X.env.kindOf x = some .globalImplicit
theorem ld_glob {E : Value → Shared → Prop} {pins : List (Addr × Obj)} {s : Shared} {σ : St} {H : Hp} {x : Str} {u : Value} {pos : Pos} {Q : Value → Shared → Prop} (I : Inv X pins σ H s) (hg : Gl X x) (hm : X.mg x = some u) (h : Q u s)
   (hd : (x == ("__debug__" : Str)) = false := by decide) : wpAny (model X.prog X.w) X.A (eval (.Name x pos) X.env) Q E s :=
 Calls.Name_function_global I.ok.kind hg (Calls.loadGlobal_global (by rw [I.ok.glob]; exact I.mod.glob.keeps I.bk) hm h) hd
theorem ld_blt {E : Value → Shared → Prop} {pins : List (Addr × Obj)} {s : Shared} {σ : St} {H : Hp} {x : Str} {u : Value} {pos : Pos} {Q : Value → Shared → Prop} (I : Inv X pins σ H s) (hg : Gl X x) (hm : X.mg x = none) (hv : bootBuiltins x = some u) (h : Q u s)
   (hn : x ≠ "__name__" := by decide) (hd : (x == ("__debug__" : Str)) = false := by decide) : wpAny (model X.prog X.w) X.A (eval (.Name x pos) X.env) Q E s := by
 obtain ⟨mb, h1, h2⟩ := I.mod.blt
 exact Calls.Name_function_global I.ok.kind hg (Calls.loadGlobal_builtin (by rw [I.ok.glob]; exact I.mod.glob.keeps I.bk) hm (by rw [I.ok.blt]; exact h1.keeps I.bk) ((h2 x hn).trans hv) h) hd
theorem pe_glob {x : Str} {v : V} {u : Value} {pos : Pos} (hg : Gl X x) (hm : X.mg x = some u) (r : RelV v u) (hd : (x == ("__debug__" : Str)) = false := by decide) : PE X (.Name x pos) (tC v) :=
 fun _ _ _ H _ I h => ld_glob I hg hm ⟨v, H, I, r, h⟩ hd
theorem pe_bltn {x : Str} {v : V} {u : Value} {pos : Pos} (hg : Gl X x) (hm : X.mg x = none) (hv : bootBuiltins x = some u) (r : RelV v u) (hn : x ≠ "__name__" := by decide) (hd : (x == ("__debug__" : Str)) = false := by decide) : PE X (.Name x pos) (tC v) :=
 fun _ _ _ H _ I h => ld_blt I hg hm hv ⟨v, H, I, r, h⟩ hn hd
variable {a b : Expr} {ta tb : TE} {pos : Pos}
variable {tA tB' : TT} {rest : List Expr}
def tAnd (t u : TT) : TT := fun σ H Q => t σ H fun c H1 => if c = true then u σ H1 Q else Q false H1
def tOr (t u : TT) : TT := fun σ H Q => t σ H fun c H1 => if c = true then Q true H1 else u σ H1 Q
def tNot (t : TT) : TT := fun σ H Q => t σ H fun c H1 => Q (!c) H1
theorem pw_and1 (ha : PT X a tA) : PW X (.BoolOp .And [a] pos) tA := by
 intro wh pins s σ H Q I h
 refine isTrue_and (thn (ha pins s σ H Q I h) fun c s1 e => ?_)
 cases c with
 | true => exact isTrue_and_nil e
 | false => exact e
theorem pw_or1 (ha : PT X a tA) : PW X (.BoolOp .Or [a] pos) tA := by
 intro wh pins s σ H Q I h
 refine isTrue_or (thn (ha pins s σ H Q I h) fun c s1 e => ?_)
 cases c with
 | false => exact isTrue_or_nil e
 | true => exact e
theorem pw_and (ha : PT X a tA) (hb : PW X (.BoolOp .And (b :: rest) pos) tB') : PW X (.BoolOp .And (a :: b :: rest) pos) (tAnd tA tB') := by
 intro wh pins s σ H Q I h
 refine isTrue_and (thn (ha pins s σ H _ I h) fun c s1 ⟨H1, I1, q1⟩ => ?_)
 cases c with
 | true => exact hb wh pins s1 σ H1 Q I1 q1
 | false => exact ⟨H1, I1, q1⟩
theorem pw_or (ha : PT X a tA) (hb : PW X (.BoolOp .Or (b :: rest) pos) tB') : PW X (.BoolOp .Or (a :: b :: rest) pos) (tOr tA tB') := by
 intro wh pins s σ H Q I h
 refine isTrue_or (thn (ha pins s σ H _ I h) fun c s1 ⟨H1, I1, q1⟩ => ?_)
 cases c with
 | true => exact ⟨H1, I1, q1⟩
 | false => exact hb wh pins s1 σ H1 Q I1 q1
theorem pt_not (ha : PT X a tA) : PT X (.UnaryOp .Not a pos) (tNot tA) := by
 intro pins s σ H Q I h
 exact isTrue_not (ha pins s σ H (fun c H1 => Q (!c) H1) I h)
def tAndV (ta tb : TE) : TE := fun σ H Q => ta σ H fun x H1 => ∃ c, x = .bl c ∧ if c = true then tb σ H1 Q else Q (.bl false) H1
def tNotV (ta : TE) : TE := fun σ H Q => ta σ H fun x H1 => ∃ c, x = .bl c ∧ Q (.bl (!c)) H1
theorem pe_one {op} {t : TE} (h : PE X a t) : PE X (.BoolOp op [a] pos) t := fun pins s σ H Q I hw => BoolOp_one (h pins s σ H Q I hw)
theorem pe_and (ha : PE X a ta) (hb : PE X (.BoolOp .And (b :: rest) pos) tb) : PE X (.BoolOp .And (a :: b :: rest) pos) (tAndV ta tb) := by
 intro pins s σ H Q I h
 refine BoolOp_and (thn (ha pins s σ H _ I h) fun v s1 ⟨x, H1, I1, r1, q1⟩ => ?_)
 obtain ⟨c, rfl, q1⟩ := q1
 cases r1
 refine wpAny_truthy_bool ?_
 cases c with
 | true => exact hb pins s1 σ H1 Q I1 q1
 | false => exact ⟨.bl false, H1, I1, rfl, q1⟩
theorem pe_not (ha : PE X a ta) : PE X (.UnaryOp .Not a pos) (tNotV ta) := by
 intro pins s σ H Q I h
 refine UnaryOp_ (thn (ha pins s σ H _ I h) fun v s1 ⟨x, H1, I1, r1, q1⟩ => ?_)
 obtain ⟨c, rfl, q1⟩ := q1
 cases r1
 exact not_of (wpAny_truthy_bool ⟨.bl (!c), H1, I1, rfl, q1⟩)
def tIf (t : TT) (ta tb : TE) : TE := fun σ H Q => t σ H fun c H1 => if c = true then ta σ H1 Q else tb σ H1 Q
theorem pe_ifExp {c : Expr} (hc : PT X c tA) (ha : PE X a ta) (hb : PE X b tb) : PE X (.IfExp c a b pos) (tIf tA ta tb) := by
 intro pins s σ H Q I h
 refine wpAny_IfExp (thn (hc pins s σ H _ I h) fun d s1 ⟨H1, I1, q1⟩ => ?_)
 cases d with
 | true => exact ha pins s1 σ H1 Q I1 q1
 | false => exact hb pins s1 σ H1 Q I1 q1
end
end L2
namespace L2
open PySem PySem.Spec PyProof.Rows
def SqL (K : PySem.W.Frag) (H : Hp) (a : Addr) (xs : List V) : Prop :=
 Rd H a (.lst xs) ∨
   ∃ (o : Obj) (its : Array Value) (n : Nat), K.lookup a = some o ∧ o.cls = .type "list" ∧ o.dict = none ∧ o.data = .seq its n ∧ its.size ≤ sizeLine ∧ Vals xs its.toList
def SqT (K : PySem.W.Frag) (H : Hp) (a : Addr) (xs : List V) : Prop :=
 Rd H a (.tup xs) ∨
   ∃ (o : Obj) (its : Array Value) (n : Nat), K.lookup a = some o ∧ o.cls = .type "tuple" ∧ o.data = .seq its n ∧ its.size ≤ sizeLine ∧ Vals xs its.toList
def absV : Value → Option V
 | .none => some .non
 | .bool b => some (.bl b)
 | .int i _ => some (.int i)
 | .str x _ => some (.str x)
 | .bytes b _ => some (.byt b)
 | .float b _ => some (.flt b)
 | .ref a => some (.ref a)
 | .type n => some (.ty n)
 | _ => none
theorem RelV.abs {x : V} {u : Value} (r : RelV x u) : absV u = some x := by
 cases x with
 | non => cases r; rfl
 | bl _ => cases r; rfl
 | int _ => obtain ⟨t, rfl⟩ := r; rfl
 | str _ => obtain ⟨t, rfl⟩ := r; rfl
 | byt _ => obtain ⟨t, rfl⟩ := r; rfl
 | flt _ => obtain ⟨t, rfl⟩ := r; rfl
 | ref _ => cases r; rfl
 | ty _ => cases r; rfl
theorem RelV.inj {x y : V} {u : Value} (r : RelV x u) (q : RelV y u) : x = y := Option.some.inj (r.abs.symm.trans q.abs)
theorem Vals.inj : ∀ {xs ys : List V} {us : List Value}, Vals xs us → Vals ys us → xs = ys
 | _, _, _, .nil, .nil => rfl
 | _, _, _, .cons r t, .cons r' t' => by rw [r.inj r', Vals.inj t t']
section
variable {X : Cx} {pins : List (Addr × Obj)} {σ : St} {H : Hp} {s : Shared} {a : Addr} {xs ys : List V}
theorem SqL.of {K : PySem.W.Frag} (h : H a = some (.lst xs)) : SqL K H a xs := .inl (.inl h)
theorem SqT.of {K : PySem.W.Frag} (h : H a = some (.tup xs)) : SqT K H a xs := .inl (.inl h)
theorem Inv.list (I : Inv X pins σ H s) (h : SqL X.K H a xs) : ∃ its : List Value, Vals xs its ∧ PlainL s.heap a its.toArray ∧ xs.length ≤ sizeLine := by
 rcases h with h | ⟨o, its, n, hk, hc, hd, hs, hz, r⟩
 · obtain ⟨z, its, n, r, e⟩ := h.ok I.hok
   exact ⟨its, r, ⟨_, n, e, rfl, rfl, rfl⟩, z⟩
 · refine ⟨its.toList, r, ⟨o, n, I.kIn a o hk, hc, hd, by simpa using hs⟩, ?_⟩
   have e := r.length
   simp only [Array.length_toList] at e
   omega
theorem Inv.tuple (I : Inv X pins σ H s) (h : SqT X.K H a xs) : ∃ its : List Value, Vals xs its ∧ IsTup s.heap a its.toArray ∧ xs.length ≤ sizeLine := by
 rcases h with h | ⟨o, its, n, hk, hc, hs, hz, r⟩
 · obtain ⟨z, its, r, p⟩ := h.ok I.hok
   exact ⟨its, r, p, z⟩
 · refine ⟨its.toList, r, ⟨o, I.kIn a o hk, hc, n, by simpa using hs⟩, ?_⟩
   have e := r.length
   simp only [Array.length_toList] at e
   omega
theorem Inv.list_inj (I : Inv X pins σ H s) (h : SqL X.K H a xs) (h' : SqL X.K H a ys) : xs = ys := by
 obtain ⟨its, r, ⟨o, n, e, _, _, d⟩, _⟩ := I.list h
 obtain ⟨its', r', ⟨o', n', e', _, _, d'⟩, _⟩ := I.list h'
 rw [e] at e'; cases e'
 rw [d] at d'
 injection d' with d1 _
 have : its = its' := by simpa using congrArg Array.toList d1
 subst this
 exact r.inj r'
theorem Inv.tuple_inj (I : Inv X pins σ H s) (h : SqT X.K H a xs) (h' : SqT X.K H a ys) : xs = ys := by
 obtain ⟨its, r, ⟨o, e, _, n, d⟩, _⟩ := I.tuple h
 obtain ⟨its', r', ⟨o', e', _, n', d'⟩, _⟩ := I.tuple h'
 rw [e] at e'; cases e'
 rw [d] at d'
 injection d' with d1 _
 have : its = its' := by simpa using congrArg Array.toList d1
 subst this
 exact r.inj r'
end
abbrev Cx.wish (X : Cx) (E : Value → Shared → Prop) : Cx := { X with xe := E }
abbrev Cx.nox (X : Cx) : Cx := X.wish fun _ _ => False
theorem Cx.Ok.wish {X : Cx} (ok : X.Ok) (E : Value → Shared → Prop) : (X.wish E).Ok :=
 ⟨ok.mod, ok.kind, ok.glob, ok.blt, ok.above, ok.inj, ok.has, ok.cab, ok.hd, ok.frames, ok.stk, ok.exf, ok.bs, ok.bsz, ok.noex, ok.exfs, ok.funs, ok.frf⟩
theorem Cx.Ok.unwish {X : Cx} {E : Value → Shared → Prop} (ok : (X.wish E).Ok) : X.Ok :=
 ⟨ok.mod, ok.kind, ok.glob, ok.blt, ok.above, ok.inj, ok.has, ok.cab, ok.hd, ok.frames, ok.stk, ok.exf, ok.bs, ok.bsz, ok.noex, ok.exfs, ok.funs, ok.frf⟩
section
variable {X : Cx} {pins : List (Addr × Obj)} {σ : St} {H : Hp} {s : Shared} {E : Value → Shared → Prop}
theorem Inv.wish (I : Inv X pins σ H s) (E : Value → Shared → Prop) : Inv (X.wish E) pins σ H s := ⟨I.ok.wish E, I.os, I.bare, I.base, I.loc, I.cell, I.free, I.freeC, I.pin, I.hok, I.len⟩
theorem Inv.unwish (I : Inv (X.wish E) pins σ H s) : Inv X pins σ H s := ⟨I.ok.unwish, I.os, I.bare, I.base, I.loc, I.cell, I.free, I.freeC, I.pin, I.hok, I.len⟩
theorem SP.unwish {D : Ends} {f : Flow} {s' : Shared} (h : SP (X.wish E) pins D f s') : SP X pins D f s' := by
 cases f with
 | next => obtain ⟨σ', H', I, q⟩ := h; exact ⟨σ', H', I.unwish, q⟩
 | brk => obtain ⟨σ', H', I, q⟩ := h; exact ⟨σ', H', I.unwish, q⟩
 | cont => obtain ⟨σ', H', I, q⟩ := h; exact ⟨σ', H', I.unwish, q⟩
 | ret u => obtain ⟨v, σ', H', I, r, q⟩ := h; exact ⟨v, σ', H', I.unwish, r, q⟩
theorem PSs.nox {st : List Stmt} {t : TS} (h : PSs X.nox st t) : PSs X st t := fun pins s σ H D I hw =>
 wpAny_mono (h pins s σ H D (I.wish _) hw) (fun _ _ q => q.unwish) fun _ _ z => False.elim z
end
section
variable {X : Cx} {st : Stmt} {rest : List Stmt} {t u : TS} {e : Expr} {te : TE} {pos : Pos}
def tNext : TS := fun D σ H => D.nx σ H
def tSeq (t u : TS) : TS := fun D σ H => t { D with nx := u D } σ H
theorem pss_nil : PSs X [] tNext := fun _ _ σ H _ I h => wpAny_execs_nil ⟨σ, H, I, h⟩
theorem pss_cons (h1 : PS X st t) (h2 : PSs X rest u) : PSs X (st :: rest) (tSeq t u) := by
 intro pins s σ H D I h
 refine wpAny_execs_cons (thn (h1 pins s σ H { D with nx := u D } I h) fun f s1 q => ?_)
 cases f with
 | next =>
   obtain ⟨σ', H', I', q⟩ := q
   exact h2 pins s1 σ' H' D I' q
 | ret v => exact q
 | brk => exact q
 | cont => exact q
theorem pss_one (h1 : PS X st t) : PSs X [st] t := by
 intro pins s σ H D I h
 refine wpAny_execs_cons (thn (h1 pins s σ H D I h) fun f s1 q => ?_)
 cases f with
 | next => exact wpAny_execs_nil q
 | ret v => exact q
 | brk => exact q
 | cont => exact q
theorem Inv.quiet {pins : List (Addr × Obj)} {σ : St} {H : Hp} {s : Shared} (I : Inv X pins σ H s) : interactive X.env = false := by simp [interactive, I.ok.kind]
def tDrop (te : TE) : TS := fun D σ H => te σ H fun _ H1 => D.nx σ H1
theorem ps_expr (he : PE X e te) (hs : swapsWith e none pos.line X.env = pure false := by rfl) : PS X (.Expr e pos) (tDrop te) := by
 intro pins s σ H D I h
 exact wpAny_Expr_any (thn (he pins s σ H _ I h) fun v s1 ⟨x, H1, I1, r1, q1⟩ => ⟨σ, H1, I1, q1⟩) I.quiet hs
def tRet (te : TE) : TS := fun D σ H => te σ H D.rt
theorem ps_ret (he : PE X e te) : PS X (.Return (some e) pos) (tRet te) := by
 intro pins s σ H D I h
 exact wpAny_Return_some (thn (he pins s σ H _ I h) fun v s1 ⟨x, H1, I1, r1, q1⟩ => ⟨x, σ, H1, I1, r1, q1⟩)
def tIfS (c : TT) (t u : TS) : TS := fun D σ H => c σ H fun b H1 => if b = true then t D σ H1 else u D σ H1
theorem ps_if {c : Expr} {a b : List Stmt} {tc : TT} (hc : PT X c tc) (ha : PSs X a t) (hb : PSs X b u) : PS X (.If c a b pos) (tIfS tc t u) := by
 intro pins s σ H D I h
 refine wpAny_If (thn (hc pins s σ H _ I h) fun d s1 ⟨H1, I1, q1⟩ => ?_)
 cases d with
 | true => exact ha pins s1 σ H1 D I1 q1
 | false => exact hb pins s1 σ H1 D I1 q1
def tNever : TS := fun _ _ _ => False
theorem ps_never : PS X st tNever := fun _ _ _ _ _ _ h => h.elim
end
abbrev TG := V → St → Hp → (St → Hp → Prop) → Prop
abbrev TGs := List V → St → Hp → (St → Hp → Prop) → Prop
def PG (X : Cx) (target : Expr) (t : TG) : Prop :=
 ∀ (pins : List (Addr × Obj)) (s : Shared) (σ : St) (H : Hp) (v : V) (u : Value) (Q : St → Hp → Prop), Inv X pins σ H s → RelV v u → t v σ H Q →
   wpAny (model X.prog X.w) X.A (assign target X.env u) (fun _ s' => ∃ σ' H', Inv X pins σ' H' s' ∧ Q σ' H') X.xe s
def PGs (X : Cx) (ts : List Expr) (t : TGs) : Prop :=
 ∀ (pins : List (Addr × Obj)) (s : Shared) (σ : St) (H : Hp) (vs : List V) (us : List Value) (Q : St → Hp → Prop), Inv X pins σ H s → Vals vs us → t vs σ H Q →
   wpAny (model X.prog X.w) X.A (assignInOrder ((assignEach ts X.env).map (·.2)) us) (fun _ s' => ∃ σ' H', Inv X pins σ' H' s' ∧ Q σ' H') X.xe s
abbrev TSet := V → V → V → Hp → (Hp → Prop) → Prop
def PSet (X : Cx) (t : TSet) : Prop :=
 ∀ (pins : List (Addr × Obj)) (s : Shared) (σ : St) (H : Hp) (o i v : V) (ov iv u : Value) (Q : Hp → Prop), Inv X pins σ H s → RelV o ov → RelV i iv → RelV v u → t o i v H Q →
   wpAny (model X.prog X.w) X.A (setItem ov iv u) (fun _ s' => ∃ H', Inv X pins σ H' s' ∧ Q H') X.xe s
section
variable {X : Cx} {pos : Pos}
def gName (i : Nat) : TG := fun v σ H Q => Q (σ.set i (some v)) H
theorem pg_name {i : Nat} {x : Str} (hN : X.N.Nodup) (hi : X.N[i]? = some x) (hx : Loc X.env.scope x) (hf : X.fn x = true ∨ X.env.scope.names.lookup x = some .local := by first | exact .inl rfl | exact .inr rfl | assumption) : PG X (.Name x pos) (gName i) := by
 intro pins s σ H v u Q I r h
 exact wpAny_assign_Name (store_ok I hN hi hx r (fun s' I' => ⟨_, H, I', h⟩) hf)
def gNil : TGs := fun vs σ H Q => vs = [] ∧ Q σ H
def gCons (t : TG) (u : TGs) : TGs := fun vs σ H Q => ∃ v r, vs = v :: r ∧ t v σ H fun σ' H' => u r σ' H' Q
theorem pgs_nil : PGs X [] gNil := by
 intro pins s σ H vs us Q I r h
 obtain ⟨e, h⟩ := h
 subst e
 cases r
 exact assignInOrder_nil ⟨σ, H, I, h⟩
theorem pgs_cons {e : Expr} {es : List Expr} {t : TG} {u : TGs} (h1 : PG X e t) (h2 : PGs X es u)
   (hs : (assignEach (e :: es) X.env).map (·.2) = assign e X.env :: (assignEach es X.env).map (·.2) := by rfl) : PGs X (e :: es) (gCons t u) := by
 intro pins s σ H vs us Q I r h
 obtain ⟨v, vr, e1, h⟩ := h
 subst e1
 cases r with
 | cons r rr =>
   rw [hs]
   refine assignInOrder_cons (thn (h1 pins s σ H _ _ _ I r h) fun _ s1 ⟨σ1, H1, I1, q1⟩ => ?_)
   exact h2 pins s1 σ1 H1 _ _ Q I1 rr q1
def gTup (K : PySem.W.Frag) (n : Nat) (t : TGs) : TG := fun v σ H Q => ∃ a xs, v = .ref a ∧ SqT K H a xs ∧ xs.length = n ∧ t xs σ H Q
theorem pg_tup {es : List Expr} {k : Nat} {t : TGs} {n : Nat} (hc : X.calm = true) (h : PGs X es t)
   (hn : (assignEach es X.env).length = n := by rfl) (hst : (assignEach es X.env).findIdx? (·.1) = none := by rfl) : PG X (.Tuple es k pos) (gTup X.K n t) := by
 intro pins s σ H v u Q I r hw
 obtain ⟨a, xs, e1, hq, hl, hw⟩ := hw
 subst e1
 cases r
 obtain ⟨its, rv, ht, hz⟩ := I.tuple hq
 refine assign_Tuple_tuple (I.ok.hd hc) ht (by simp [hn, ← hl, rv.length]) hst fun h' hx => ?_
 have I1 : Inv X pins σ H { s with heap := h' } := I.kept (t' := s.toks) fun b o e => hx b o (Nat.ne_of_lt (Heap.lt_size e)) e
 exact h pins _ σ H xs _ Q I1 (by simpa using rv) hw
def gSub (to ti : TE) (t : TSet) : TG := fun v σ H Q => to σ H fun o H1 => ti σ H1 fun i H2 => t o i v H2 fun H3 => Q σ H3
theorem pg_sub {o i : Expr} {to ti : TE} {t : TSet} (ho : PE X o to) (hi : PE X i ti) (hs : PSet X t)
   (ha : ∀ v, assign (.Subscript o i pos) X.env v = (do
     let ov ← holding [v] (eval o X.env)
     let iv ← holding [v, ov] (eval i X.env)
     standAt pos
     holding [v, ov, iv] (setItem ov iv v)
     release [v, ov, iv] []) := by intro _; rfl) : PG X (.Subscript o i pos) (gSub to ti t) := by
 intro pins s σ H v u Q I r h
 rw [ha]
 refine wpAny_bind (wpAny_holding (thn (ho pins s σ H _ I h) fun ov s1 ⟨x, H1, I1, r1, q1⟩ => ?_))
 refine wpAny_bind (wpAny_holding (thn (hi pins s1 σ H1 _ I1 q1) fun iv s2 ⟨y, H2, I2, r2, q2⟩ => ?_))
 refine wpAny_bind (wpAny_standAt (wpAny_bind (wpAny_holding (thn (hs pins s2 σ H2 x y v ov iv u _ I2 r1 r2 r q2) fun _ s3 ⟨H3, I3, q3⟩ => ?_))))
 exact wpAny_release ⟨σ, H3, I3, q3⟩
def tAsg (te : TE) (g : TG) : TS := fun D σ H => te σ H fun x H1 => g x σ H1 D.nx
theorem ps_asg {tg e : Expr} {te : TE} {g : TG} (he : PE X e te) (hg : PG X tg g) (hs : swapsWithSole [tg] e pos.line X.env = pure false := by rfl) (hw : swappedStores [tg] e X.env = pure none := by rfl)
   (h1 : (assignEach [tg] X.env).map (·.2) = [assign tg X.env] := by rfl) : PS X (.Assign [tg] e pos) (tAsg te g) := by
 intro pins s σ H D I h
 refine wpAny_Assign_stores (thn (he pins s σ H _ I h) fun v s1 ⟨x, H1, I1, r1, q1⟩ => ?_) hs hw
 rw [h1]
 exact thn (hg pins s1 σ H1 x v _ I1 r1 q1) fun _ s2 q => q
theorem ps_set {i : Nat} {x : Str} {e : Expr} {te : TE} {pos' : Pos} (hN : X.N.Nodup) (hi : X.N[i]? = some x) (hx : Loc X.env.scope x) (he : PE X e te) (hs : swapsWith e (some (.Name x pos')) pos.line X.env = pure false := by rfl) (hf : X.fn x = true ∨ X.env.scope.names.lookup x = some .local := by first | exact .inl rfl | exact .inr rfl | assumption) :
   PS X (.Assign [.Name x pos'] e pos) (tAsg te (gName i)) := by
 intro pins s σ H D I h
 refine wpAny_Assign_Name (thn (he pins s σ H _ I h) fun v s1 ⟨y, H1, I1, r1, q1⟩ => ?_) hs
 exact store_ok I1 hN hi hx r1 (fun s2 I2 => ⟨_, H1, I2, q1⟩) hf
end
section
variable {X : Cx} {pos : Pos}
def tWhile (c : TT) (tb : TS) : TS := fun D σ H => ∃ W : Nat → St → Hp → Prop, (∃ m, W m σ H) ∧ ∀ m σ H, W m σ H →
 c σ H fun b H1 => if b = true then ∃ N : St → Hp → Prop, (∀ σ' H', N σ' H' → ∃ m', m' < m ∧ W m' σ' H') ∧ tb { D with nx := N, ct := N, bk := D.nx } σ H1 else D.nx σ H1
theorem ps_while {c : Expr} {body : List Stmt} {tc : TT} {tb : TS} (hp : PassesOwn (model X.prog X.w) X.A X.env X.xe) (hc : PT X c tc) (hb : PSs X body tb) : PS X (.While c body [] pos) (tWhile tc tb) := by
 intro pins s σ H D I h
 obtain ⟨W, ⟨m0, w0⟩, turn⟩ := h
 refine wpAny_While (codeAny_whileLoop (fun n s' => ∃ σ' H', Inv X pins σ' H' s' ∧ W n σ' H') ?_ m0 ⟨σ, H, I, w0⟩)
 rintro n s1 ⟨σ1, H1, I1, w1⟩
 refine wpAny_passesOwn hp (thn (hc pins s1 σ1 H1 _ I1 (turn n σ1 H1 w1)) fun b s2 ⟨H2, I2, q2⟩ => ?_)
 cases b with
 | true =>
   obtain ⟨N, hN, q2⟩ := q2
   rw [if_pos rfl]
   refine wpAny_passesOwn hp (thn (hb pins s2 σ1 H2 _ I2 q2) fun f s3 q3 => ?_)
   cases f with
   | next =>
     obtain ⟨σ3, H3, I3, n3⟩ := q3
     obtain ⟨m', hm, w3⟩ := hN σ3 H3 n3
     exact ⟨m', hm, σ3, H3, I3, w3⟩
   | cont =>
     obtain ⟨σ3, H3, I3, n3⟩ := q3
     obtain ⟨m', hm, w3⟩ := hN σ3 H3 n3
     exact ⟨m', hm, σ3, H3, I3, w3⟩
   | brk => exact q3
   | ret v => exact q3
 | false =>
   rw [if_neg Bool.false_ne_true]
   exact wpAny_execs_nil ⟨σ1, H2, I2, q2⟩
end
structure It where
 go : Nat → Hp → Prop
 yld : Nat → Hp → V → Hp → Prop
 stop : Nat → Hp → Prop
def FpOk (X : Cx) (pins : List (Addr × Obj)) (H : Hp) (b : Addr) : Prop :=
 H b = none ∧ b ≠ X.env.locals ∧ b ∉ X.fs ∧ (b ∈ X.ex ∨ X.s₀.heap.objs.size ≤ b) ∧ (∀ x c, X.env.cells.lookup x = some c → c ≠ b) ∧ ∀ p ∈ X.pn ++ pins, p.1 ≠ b
theorem Inv.fpOk {X : Cx} {pins : List (Addr × Obj)} {σ : St} {H H' : Hp} {s : Shared} {b : Addr} (I : Inv X pins σ H s) (hb : s.heap.objs.size ≤ b) (hn : H' b = none) : FpOk X pins H' b := by
 refine ⟨hn, Nat.ne_of_gt (Nat.lt_of_lt_of_le I.lt hb), I.nofs hb, .inr (Nat.le_trans I.sz hb), fun x c e z => ?_, fun p hp z => ?_⟩
 · obtain ⟨v, q⟩ := I.cell x c e
   exact absurd (Nat.lt_of_lt_of_le q.lt (by rw [z]; exact hb)) (Nat.lt_irrefl _)
 · exact absurd (Nat.lt_of_lt_of_le (Heap.lt_size (I.pin p hp).1) (by rw [z]; exact hb)) (Nat.lt_irrefl _)
structure Turn (P : Program) (w : World) (K : PySem.W.Frag) (tg : Expr) (J : It) (fp : List Addr) (it : Addr) (tn : Nat → Heap → Prop) : Prop where
 mem : it ∈ fp
 obj : ∀ i h, tn i h → ∀ b ∈ fp, ∃ o, h.get? b = some o ∧ ∀ v, o.data ≠ .cell v
 keep : ∀ i h h', tn i h → (∀ b ∈ fp, ∀ o, h.get? b = some o → h'.get? b = some o) → tn i h'
 item : ∀ (X : Cx), X.prog = P → X.w = w → X.K = K → X.calm = true → ∀ (i : Nat) (pins : List (Addr × Obj)) (s : Shared) (σ : St) (H : Hp) (E : Value → Shared → Prop), Inv X pins σ H s → (∀ b ∈ fp, FpOk X pins H b) → tn i s.heap → J.go i H →
   wpAny (model P w) X.A (pyNext (.ref it)) (fun r s1 => ∃ u, r = some u ∧
     wpAny (model P w) X.A (letOwnedTupleGo tg (.ref it) u) (fun _ s2 => ∃ x H', Inv X pins σ H' s2 ∧ RelV x u ∧ J.yld i H x H' ∧ tn (i + 1) s2.heap ∧ ∀ b ∈ fp, H' b = none) E s1) E s
 done : ∀ (X : Cx), X.prog = P → X.w = w → X.K = K → X.calm = true → ∀ (i : Nat) (pins : List (Addr × Obj)) (s : Shared) (σ : St) (H : Hp) (E : Value → Shared → Prop), Inv X pins σ H s → (∀ b ∈ fp, FpOk X pins H b) → tn i s.heap → J.stop i H →
   wpAny (model P w) X.A (pyNext (.ref it)) (fun r s1 => r = none ∧ Inv X pins σ H s1) E s
 self : ∀ (A : Around) (i : Nat) (s : Shared) (Q : Value → Shared → Prop) (E : Value → Shared → Prop), tn i s.heap → Q (.ref it) s → wpAny (model P w) A (pyIter (.ref it)) Q E s
abbrev TI := St → Hp → (It → Hp → Prop) → Prop
def PIE (X : Cx) (pins : List (Addr × Obj)) (σ : St) (tg : Expr) (R : It → Hp → Prop) (itv : Value) (s2 : Shared) : Prop :=
 ∃ (it : Addr) (fp : List Addr) (tn : Nat → Heap → Prop) (J : It) (H' : Hp), itv = .ref it ∧ Inv X pins σ H' s2 ∧ Turn X.prog X.w X.K tg J fp it tn ∧ tn 0 s2.heap ∧ (∀ b ∈ fp, FpOk X pins H' b) ∧ R J H'
def PI (X : Cx) (tg iter : Expr) (wi : TI) : Prop :=
 ∀ (pins : List (Addr × Obj)) (s : Shared) (σ : St) (H : Hp) (R : It → Hp → Prop), Inv X pins σ H s → wi σ H R →
   wpAny (model X.prog X.w) X.A (eval iter X.env) (fun v s1 => wpAny (model X.prog X.w) X.A (pyIter v) (PIE X pins σ tg R) X.xe s1) X.xe s
theorem go_of {M : Model} {A : Around} {E : Value → Shared → Prop} {s : Shared} {tg : Expr} {it : Addr} {u : Value} {o : Obj} {n : String} {vs : Array Value} {Q : Unit → Shared → Prop} (ho : s.heap.get? it = some o) (hc : o.cls = .type n) (hd : o.data = .fields vs)
   (hn : ["enumerate", "zip", "dict_itemiterator", "dict_reverseitemiterator", "odict_iterator", "itertools.zip_longest", "itertools.pairwise"].contains n = false) (hQ : Q () s) : wpAny M A (letOwnedTupleGo tg (.ref it) u) Q E s := by
 unfold letOwnedTupleGo
 cases tg <;> first
   | exact wpAny_pure hQ
   | (cases u <;> first
       | exact wpAny_pure hQ
       | (refine wpAny_bind (wpAny_load ho ?_)
          rw [hc, hd]
          show wpAny M A (if (["enumerate", "zip", "dict_itemiterator", "dict_reverseitemiterator", "odict_iterator", "itertools.zip_longest", "itertools.pairwise"].contains n && vs[0]? == some (rawInt _)) = true then _ else _) Q E s
          rw [if_neg (by intro h; rw [hn, Bool.false_and] at h; cases h)]
          exact wpAny_pure hQ))
def Itl (K : PySem.W.Frag) (a : Addr) : It :=
 ⟨fun i H => ∃ xs x, SqL K H a xs ∧ xs[i]? = some x, fun i H x H' => H' = H ∧ ∀ xs, SqL K H a xs → xs[i]? = some x, fun i H => ∃ xs, SqL K H a xs ∧ xs.length ≤ i⟩
def Itt (K : PySem.W.Frag) (a : Addr) : It :=
 ⟨fun i H => ∃ xs x, SqT K H a xs ∧ xs[i]? = some x, fun i H x H' => H' = H ∧ ∀ xs, SqT K H a xs → xs[i]? = some x, fun i H => ∃ xs, SqT K H a xs ∧ xs.length ≤ i⟩
def Itr (lo : Int) (n : Nat) : It := ⟨fun i _ => i < n, fun i H x H' => H' = H ∧ x = .int (lo + i), fun i _ => n ≤ i⟩
theorem turn_list {P : Program} {w : World} {K : PySem.W.Frag} {tg : Expr} (a it : Addr) : Turn P w K tg (Itl K a) [it] it (fun i h => h.IsListIter it a i) where
 mem := by simp
 obj := fun i h st b hb => by
   have e : b = it := by simpa using hb
   subst e
   obtain ⟨o, e, c, d⟩ := st
   exact ⟨o, e, fun v z => by rw [d] at z; cases z⟩
 keep := fun i h h' st k => st.at fun o e => k it (by simp) o e
 item := by
   intro X hP hw hK hc i pins s σ H E I hf st hg
   subst hP hw hK
   obtain ⟨xs, x, hq, hx⟩ := hg
   obtain ⟨its, rv, p, hz⟩ := I.list hq
   obtain ⟨u, hu, ru⟩ := rv.get hx
   obtain ⟨f0, f1, f2, f3, f4, f5⟩ := hf it (by simp)
   refine wpAny_pyNext_list_item st p.isList (x := u) (by simpa using hu) fun h' st' sb => ?_
   have I1 : Inv X pins σ H { s with heap := h' } := I.turned (t' := s.toks) (fun b o hb e => (sb.2 b hb).trans e) f0 f1 f3 f4 f5
   obtain ⟨o, e, c, d⟩ := id st'
   exact ⟨u, rfl, go_of (s := { s with heap := h' }) e c d (by decide) ⟨x, H, I1, ru, ⟨rfl, fun ys hy => by rw [I.list_inj hy hq]; exact hx⟩, st', fun b hb => (hf b hb).1⟩⟩
 done := by
   intro X hP hw hK hc i pins s σ H E I hf st hg
   subst hP hw hK
   obtain ⟨xs, hq, hx⟩ := hg
   obtain ⟨its, rv, p, hz⟩ := I.list hq
   obtain ⟨f0, f1, f2, f3, f4, f5⟩ := hf it (by simp)
   have hl := rv.length
   exact wpAny_pyNext_list_end (I.ok.hd hc) st p.isList (by simp; omega) fun h' eb => ⟨rfl, I.turned (t' := s.toks) (fun b o hb e => eb b o hb e) f0 f1 f3 f4 f5⟩
 self := fun _ _ _ _ _ st h => wpAny_pyIter_listiter st h
theorem turn_tuple {P : Program} {w : World} {K : PySem.W.Frag} {tg : Expr} (a it : Addr) : Turn P w K tg (Itt K a) [it] it (fun i h => h.IsTupleIter it a i) where
 mem := by simp
 obj := fun i h st b hb => by
   have e : b = it := by simpa using hb
   subst e
   obtain ⟨o, e, c, d⟩ := st
   exact ⟨o, e, fun v z => by rw [d] at z; cases z⟩
 keep := fun i h h' st k => st.at fun o e => k it (by simp) o e
 item := by
   intro X hP hw hK hc i pins s σ H E I hf st hg
   subst hP hw hK
   obtain ⟨xs, x, hq, hx⟩ := hg
   obtain ⟨its, rv, p, hz⟩ := I.tuple hq
   obtain ⟨u, hu, ru⟩ := rv.get hx
   obtain ⟨f0, f1, f2, f3, f4, f5⟩ := hf it (by simp)
   refine wpAny_pyNext_tuple_item st (show s.heap.IsTuple a its.toArray from p) (x := u) (by simpa using hu) fun h' st' sb => ?_
   have I1 : Inv X pins σ H { s with heap := h' } := I.turned (t' := s.toks) (fun b o hb e => (sb.2 b hb).trans e) f0 f1 f3 f4 f5
   obtain ⟨o, e, c, d⟩ := id st'
   exact ⟨u, rfl, go_of (s := { s with heap := h' }) e c d (by decide) ⟨x, H, I1, ru, ⟨rfl, fun ys hy => by rw [I.tuple_inj hy hq]; exact hx⟩, st', fun b hb => (hf b hb).1⟩⟩
 done := by
   intro X hP hw hK hc i pins s σ H E I hf st hg
   subst hP hw hK
   obtain ⟨xs, hq, hx⟩ := hg
   obtain ⟨its, rv, p, hz⟩ := I.tuple hq
   obtain ⟨f0, f1, f2, f3, f4, f5⟩ := hf it (by simp)
   have hl := rv.length
   exact wpAny_pyNext_tuple_end (I.ok.hd hc) st (show s.heap.IsTuple a its.toArray from p) (by simp; omega) fun h' eb => ⟨rfl, I.turned (t' := s.toks) (fun b o hb e => eb b o hb e) f0 f1 f3 f4 f5⟩
 self := fun _ _ _ _ _ st h => wpAny_pyIter_tupleiter st h
theorem turn_range {P : Program} {w : World} {K : PySem.W.Frag} {tg : Expr} (it : Addr) (lo : Int) (n : Nat) : Turn P w K tg (Itr lo n) [it] it (fun i h => IsRangeIter h it (lo + (i : Nat) * 1) ((n : Int) - (i : Nat)) 1) where
 mem := by simp
 obj := fun i h st b hb => by
   have e : b = it := by simpa using hb
   subst e
   exact ⟨_, st, fun v z => by
     have z' : Data.fields _ = Data.cell v := z
     cases z'⟩
 keep := fun i h h' st k => k it (by simp) _ st
 item := by
   intro X hP hw hK hc i pins s σ H E I hf st hg
   subst hP hw hK
   obtain ⟨f0, f1, f2, f3, f4, f5⟩ := hf it (by simp)
   have W := Walks.range (prog := X.prog) (w := X.w) (I.ok.hd hc) it lo 1 n
   refine W.item i s _ _ hg st fun v h' tk hv st' kk => ?_
   obtain ⟨t, rfl⟩ := hv
   have I1 : Inv X pins σ H { s with heap := h', toks := tk } := I.turned (fun b o hb e => kk b o (by simpa using hb) e) f0 f1 f3 f4 f5
   refine ⟨_, rfl, go_of (s := { s with heap := h', toks := tk }) (n := "range_iterator") st' rfl rfl (by decide) ⟨.int (lo + i), H, I1, ⟨t, ?_⟩, ⟨rfl, rfl⟩, st', fun b hb => (hf b hb).1⟩⟩
   rw [Int.mul_one]
 done := by
   intro X hP hw hK hc i pins s σ H E I hf st hg
   subst hP hw hK
   obtain ⟨f0, f1, f2, f3, f4, f5⟩ := hf it (by simp)
   exact wpAny_pyNext_range_end (I.ok.hd hc) st (by have : n ≤ i := hg; omega) fun h' eb => ⟨rfl, I.turned (t' := s.toks) (fun b o hb e => eb b o hb e) f0 f1 f3 f4 f5⟩
 self := fun _ _ _ _ _ st h => wpAny_pyIter_rangeiter st h
end L2
namespace L2
open PySem PySem.Spec PyProof.Rows
section
variable {X : Cx} {tg : Expr}
theorem range_it {pins : List (Addr × Obj)} {σ : St} {H : Hp} {s : Shared} {R : It → Hp → Prop} {E : Value → Shared → Prop} {lo hi : Int} {t u v : Tok} {tk : Nat} (I : Inv X pins σ H s) (h1 : -(2 ^ 62) ≤ lo) (h2 : lo < 2 ^ 62) (h3 : -(2 ^ 62) ≤ hi) (h4 : hi < 2 ^ 62)
   (q : R (Itr lo (hi - lo).toNat) H) : wpAny (model X.prog X.w) X.A (pyIter (.ref s.heap.objs.size)) (PIE X pins σ tg R) E { s with heap := s.heap.push { cls := .type "range", data := .fields #[.int lo t, .int hi u, .int 1 v] }, toks := tk } := by
 refine wpAny_pyIter_range (IsRange.new ..) (small_one h1 h2 h3 h4) ?_
 have I1 : Inv X pins σ H { s with heap := s.heap.push { cls := .type "range", data := .fields #[.int lo t, .int hi u, .int 1 v] }, toks := tk } := I.kept fun b o e => Heap.get?_push_of_some _ e
 refine ⟨(s.heap.push { cls := .type "range", data := .fields #[.int lo t, .int hi u, .int 1 v] }).objs.size, [(s.heap.push { cls := .type "range", data := .fields #[.int lo t, .int hi u, .int 1 v] }).objs.size], _, _, H, rfl,
   I1.kept (t' := tk) fun b o e => Heap.get?_push_of_some _ e, turn_range _ lo (hi - lo).toNat, ?_, fun b hb => ?_, q⟩
 · have e1 : lo + ((0 : Nat) : Int) * 1 = lo := by simp
   have e2 : (((hi - lo).toNat : Nat) : Int) - ((0 : Nat) : Int) = Builtin.Range.rangeSize lo hi 1 := by rw [rangeSize_one]; split <;> omega
   show IsRangeIter _ _ (lo + ((0 : Nat) : Int) * 1) ((((hi - lo).toNat : Nat) : Int) - ((0 : Nat) : Int)) 1
   rw [e1, e2]
   exact Heap.get?_push_size _ rfl
 · have e : b = (s.heap.push { cls := .type "range", data := .fields #[.int lo t, .int hi u, .int 1 v] }).objs.size := by simpa using hb
   subst e
   exact I1.fpOk (Nat.le_refl _) (I1.hok.fresh (Nat.le_refl _))
def iRng1 (ta : TA) : TI := fun σ H R => ta σ H fun vs H1 => ∃ j : Int, vs = [.int j] ∧ -(2 ^ 62) ≤ j ∧ j < 2 ^ 62 ∧ R (Itr 0 j.toNat) H1
theorem pi_range1 {a : Expr} {ta : TA} {p pos : Pos} (hg : Gl X "range") (hm : X.mg "range" = none) (ha : PA X [a] ta) (hs : starEach [a] X.env = [(false, eval a X.env)] := by rfl) : PI X tg (.Call (.Name "range" p) [a] [] pos) (iRng1 ta) := by
 intro pins s σ H R I h
 refine Call_ (ld_blt I hg hm boot_range (PyProof.Rows.callWith_type1 (thn (ha pos pins s σ H _ I h) fun us s1 ⟨vs, H1, I1, r1, q1⟩ => ?_) hs rfl))
 obtain ⟨j, e, q1, q2, q⟩ := q1
 subst e
 cases r1 with
 | cons r rr =>
   cases rr
   obtain ⟨t, rfl⟩ := r
   exact call_range_1 (range_it I1 (by omega) (by omega) q1 q2 (by simpa using q))
def tFor (wi : TI) (g : TG) (tb : TS) : TS := fun D σ H => wi σ H fun J H1 => ∃ W : Nat → Nat → St → Hp → Prop, (∃ m, W 0 m σ H1) ∧ ∀ i m σ H, W i m σ H →
 (J.stop i H ∧ D.nx σ H) ∨ (J.go i H ∧ ∃ N : St → Hp → Prop, (∀ σ' H', N σ' H' → ∃ m', m' < m ∧ W (i + 1) m' σ' H') ∧ ∀ x H', J.yld i H x H' → g x σ H' fun σ2 H2 => tb { D with nx := N, ct := N, bk := D.nx } σ2 H2)
def pinsAt (fp : List Addr) (h : Heap) : List (Addr × Obj) := fp.filterMap fun b => (h.get? b).map fun o => (b, o)
theorem mem_pinsAt {fp : List Addr} {h : Heap} {b : Addr} {o : Obj} (hb : b ∈ fp) (e : h.get? b = some o) : (b, o) ∈ pinsAt fp h := List.mem_filterMap.mpr ⟨b, hb, by rw [e]; rfl⟩
theorem of_pinsAt {fp : List Addr} {h : Heap} {p : Addr × Obj} (hp : p ∈ pinsAt fp h) : p.1 ∈ fp ∧ h.get? p.1 = some p.2 := by
 obtain ⟨b, hb, e⟩ := List.mem_filterMap.mp hp
 cases q : h.get? b with
 | none => rw [q] at e; cases e
 | some o =>
   rw [q] at e
   have e' : (b, o) = p := Option.some.inj e
   subst e'
   exact ⟨hb, q⟩
theorem Inv.pinned {pins : List (Addr × Obj)} {σ : St} {H : Hp} {s : Shared} {fp : List Addr} (I : Inv X pins σ H s) (hf : ∀ b ∈ fp, FpOk X pins H b) (ho : ∀ b ∈ fp, ∃ o, s.heap.get? b = some o ∧ ∀ v, o.data ≠ .cell v) : Inv X (pins ++ pinsAt fp s.heap) σ H s :=
 I.pins_of fun p hp => (List.mem_append.mp hp).elim (fun z => I.pin p (List.mem_append_right _ z)) fun z => by
   obtain ⟨hb, e⟩ := of_pinsAt z
   obtain ⟨f0, f1, f2, _⟩ := hf p.1 hb
   obtain ⟨o, e', d⟩ := ho p.1 hb
   rw [e] at e'; cases e'
   exact ⟨e, f0, f1, f2, d⟩
theorem Inv.unpinned {pins pl : List (Addr × Obj)} {σ : St} {H : Hp} {s : Shared} (I : Inv X (pins ++ pl) σ H s) : Inv X pins σ H s := I.pins_of fun p hp => I.pin p (List.mem_append_right _ (List.mem_append_left _ hp))
theorem ps_for {iter : Expr} {body : List Stmt} {wi : TI} {g : TG} {tb : TS} {pos : Pos} (hp : PassesOwn (model X.prog X.w) X.A X.env X.xe) (hc : X.calm = true) (hi : PI X tg iter wi) (hg : PG X tg g) (hb : PSs X body tb)
   (hs : ∀ x, foldedSetIterable iter X.env x = pure x := by intro _; rfl) : PS X (.For tg iter body [] pos) (tFor wi g tb) := by
 intro pins s σ H D I h
 refine wpAny_For (thn (hi pins s σ H _ I h) fun v s1 h1 => thn h1 fun itv s2 h2 => ?_) hs
 obtain ⟨it, fp, tn, J, H2, e, I2, T, st2, f2, W, ⟨m0, w0⟩, turn⟩ := h2
 subst e
 -- what stays true of the iterator's objects through the loop
 have stat : ∀ {H' : Hp}, (∀ b ∈ fp, H' b = none) → ∀ b ∈ fp, FpOk X pins H' b := fun hn b hb => ⟨hn b hb, (f2 b hb).2⟩
 refine codeAny_forLoop_any (fun n s' => ∃ i σ' H', Inv X pins σ' H' s' ∧ tn i s'.heap ∧ (∀ b ∈ fp, H' b = none) ∧ W i n σ' H') ?_ m0 ⟨0, σ, H2, I2, st2, fun b hb => (f2 b hb).1, w0⟩
 rintro n s3 ⟨i, σ3, H3, I3, st3, fr3, w3⟩
 rcases turn i n σ3 H3 w3 with ⟨stop, qn⟩ | ⟨go, N, hN, step⟩
 · refine wpAny_passesOwn hp (thn (T.done X rfl rfl rfl hc i pins s3 σ3 H3 X.xe I3 (stat fr3) st3 stop) fun r s4 ⟨hr, I4⟩ => ?_)
   subst hr
   exact wpAny_execs_nil ⟨σ3, H3, I4, qn⟩
 · refine wpAny_passesOwn hp (thn (T.item X rfl rfl rfl hc i pins s3 σ3 H3 X.xe I3 (stat fr3) st3 go) fun r s4 ⟨u, hr, h4⟩ => ?_)
   subst hr
   refine wpAny_passesOwn hp (thn h4 fun _ s5 ⟨x, H5, I5, r5, y5, st5, fr5⟩ => ?_)
   have I5' := I5.pinned (stat fr5) (T.obj _ _ st5)
   refine wpAny_passesOwn hp (thn (hg _ s5 σ3 H5 x u _ I5' r5 (step x H5 y5)) fun _ s6 ⟨σ6, H6, I6, q6⟩ => ?_)
   refine wpAny_passesOwn hp (thn (hb _ s6 σ6 H6 _ I6 q6) fun f s7 q7 => ?_)
   have again : ∀ {σ7 : St} {H7 : Hp}, Inv X (pins ++ pinsAt fp s5.heap) σ7 H7 s7 → N σ7 H7 → ∃ m, m < n ∧ ∃ i σ' H', Inv X pins σ' H' s7 ∧ tn i s7.heap ∧ (∀ b ∈ fp, H' b = none) ∧ W i m σ' H' := fun {σ7 H7} I7 n7 => by
     obtain ⟨m', hm, w7⟩ := hN σ7 H7 n7
     refine ⟨m', hm, i + 1, σ7, H7, I7.unpinned, T.keep _ _ _ st5 fun b hb o e => (I7.pin (b, o) (List.mem_append_right _ (List.mem_append_right _ (mem_pinsAt hb e)))).1, fun b hb => ?_, w7⟩
     obtain ⟨o, e, d⟩ := T.obj _ _ st5 b hb
     exact (I7.pin (b, o) (List.mem_append_right _ (List.mem_append_right _ (mem_pinsAt hb e)))).2.1
   cases f with
   | next => obtain ⟨σ7, H7, I7, n7⟩ := q7; exact again I7 n7
   | cont => obtain ⟨σ7, H7, I7, n7⟩ := q7; exact again I7 n7
   | brk => obtain ⟨σ7, H7, I7, q7⟩ := q7; exact ⟨σ7, H7, I7.unpinned, q7⟩
   | ret v => obtain ⟨x7, σ7, H7, I7, r7, q7⟩ := q7; exact ⟨x7, σ7, H7, I7.unpinned, r7, q7⟩
end
theorem for_list {K : PySem.W.Frag} {a : Addr} {xs : List V} {g : TG} {tb : TS} {D : Ends} {σ : St} {H : Hp} (Pv : Nat → St → Hp → Prop) (h0 : Pv 0 σ H) (hl : ∀ i σ H, i ≤ xs.length → Pv i σ H → SqL K H a xs)
   (hs : ∀ i x σ H, xs[i]? = some x → Pv i σ H → g x σ H fun σ2 H2 => tb { D with nx := Pv (i + 1), ct := Pv (i + 1), bk := D.nx } σ2 H2) (hd : ∀ σ H, Pv xs.length σ H → D.nx σ H) :
   ∃ W : Nat → Nat → St → Hp → Prop, (∃ m, W 0 m σ H) ∧ ∀ i m σ H, W i m σ H →
     ((Itl K a).stop i H ∧ D.nx σ H) ∨ ((Itl K a).go i H ∧ ∃ N : St → Hp → Prop, (∀ σ' H', N σ' H' → ∃ m', m' < m ∧ W (i + 1) m' σ' H') ∧ ∀ x H', (Itl K a).yld i H x H' → g x σ H' fun σ2 H2 => tb { D with nx := N, ct := N, bk := D.nx } σ2 H2) := by
 refine ⟨fun i m σ H => m = xs.length - i ∧ i ≤ xs.length ∧ Pv i σ H, ⟨xs.length, by simp, Nat.zero_le _, h0⟩, ?_⟩
 rintro i m σ H ⟨rfl, hi, p⟩
 have q := hl i σ H hi p
 by_cases hlt : i < xs.length
 · refine .inr ⟨⟨xs, xs[i], q, by simp [hlt]⟩, Pv (i + 1), fun σ' H' p' => ⟨xs.length - (i + 1), by omega, rfl, hlt, p'⟩, fun x H' y => ?_⟩
   obtain ⟨e, y⟩ := y
   subst e
   exact hs i x σ _ (y xs q) p
 · have e : i = xs.length := by omega
   subst e
   exact .inl ⟨⟨xs, q, Nat.le_refl _⟩, hd σ H p⟩
theorem for_tup {K : PySem.W.Frag} {a : Addr} {xs : List V} {g : TG} {tb : TS} {D : Ends} {σ : St} {H : Hp} (Pv : Nat → St → Hp → Prop) (h0 : Pv 0 σ H) (hl : ∀ i σ H, i ≤ xs.length → Pv i σ H → SqT K H a xs)
   (hs : ∀ i x σ H, xs[i]? = some x → Pv i σ H → g x σ H fun σ2 H2 => tb { D with nx := Pv (i + 1), ct := Pv (i + 1), bk := D.nx } σ2 H2) (hd : ∀ σ H, Pv xs.length σ H → D.nx σ H) :
   ∃ W : Nat → Nat → St → Hp → Prop, (∃ m, W 0 m σ H) ∧ ∀ i m σ H, W i m σ H →
     ((Itt K a).stop i H ∧ D.nx σ H) ∨ ((Itt K a).go i H ∧ ∃ N : St → Hp → Prop, (∀ σ' H', N σ' H' → ∃ m', m' < m ∧ W (i + 1) m' σ' H') ∧ ∀ x H', (Itt K a).yld i H x H' → g x σ H' fun σ2 H2 => tb { D with nx := N, ct := N, bk := D.nx } σ2 H2) := by
 refine ⟨fun i m σ H => m = xs.length - i ∧ i ≤ xs.length ∧ Pv i σ H, ⟨xs.length, by simp, Nat.zero_le _, h0⟩, ?_⟩
 rintro i m σ H ⟨rfl, hi, p⟩
 have q := hl i σ H hi p
 by_cases hlt : i < xs.length
 · refine .inr ⟨⟨xs, xs[i], q, by simp [hlt]⟩, Pv (i + 1), fun σ' H' p' => ⟨xs.length - (i + 1), by omega, rfl, hlt, p'⟩, fun x H' y => ?_⟩
   obtain ⟨e, y⟩ := y
   subst e
   exact hs i x σ _ (y xs q) p
 · have e : i = xs.length := by omega
   subst e
   exact .inl ⟨⟨xs, q, Nat.le_refl _⟩, hd σ H p⟩
theorem for_range {lo : Int} {n : Nat} {g : TG} {tb : TS} {D : Ends} {σ : St} {H : Hp} (Pv : Nat → St → Hp → Prop) (h0 : Pv 0 σ H)
   (hs : ∀ i σ H, i < n → Pv i σ H → g (.int (lo + i)) σ H fun σ2 H2 => tb { D with nx := Pv (i + 1), ct := Pv (i + 1), bk := D.nx } σ2 H2) (hd : ∀ σ H, Pv n σ H → D.nx σ H) :
   ∃ W : Nat → Nat → St → Hp → Prop, (∃ m, W 0 m σ H) ∧ ∀ i m σ H, W i m σ H →
     ((Itr lo n).stop i H ∧ D.nx σ H) ∨ ((Itr lo n).go i H ∧ ∃ N : St → Hp → Prop, (∀ σ' H', N σ' H' → ∃ m', m' < m ∧ W (i + 1) m' σ' H') ∧ ∀ x H', (Itr lo n).yld i H x H' → g x σ H' fun σ2 H2 => tb { D with nx := N, ct := N, bk := D.nx } σ2 H2) := by
 refine ⟨fun i m σ H => m = n - i ∧ i ≤ n ∧ Pv i σ H, ⟨n, by simp, Nat.zero_le _, h0⟩, ?_⟩
 rintro i m σ H ⟨rfl, hi, p⟩
 by_cases hlt : i < n
 · refine .inr ⟨hlt, Pv (i + 1), fun σ' H' p' => ⟨n - (i + 1), by omega, rfl, hlt, p'⟩, fun x H' y => ?_⟩
   obtain ⟨e, y⟩ := y
   subst e y
   exact hs i σ _ hlt p
 · have e : i = n := by omega
   subst e
   exact .inl ⟨Nat.le_refl _, hd σ H p⟩
end L2
namespace L2
open PySem PySem.Spec PyProof.Rows
abbrev R2 := V → V → Hp → VK → Prop
def OpR (X : Cx) (f : Value → Value → Sem Value) (r : R2) : Prop :=
 ∀ (pins : List (Addr × Obj)) (s : Shared) (σ : St) (H : Hp) (x y : V) (v u : Value) (Q : VK), Inv X pins σ H s → RelV x v → RelV y u → r x y H Q →
   wpAny (model X.prog X.w) X.A (f v u) (EP X pins σ Q) X.xe s
def UnR (X : Cx) (f : Value → Sem Value) (r : V → Hp → VK → Prop) : Prop :=
 ∀ (pins : List (Addr × Obj)) (s : Shared) (σ : St) (H : Hp) (x : V) (v : Value) (Q : VK), Inv X pins σ H s → RelV x v → r x H Q →
   wpAny (model X.prog X.w) X.A (f v) (EP X pins σ Q) X.xe s
def CallR (X : Cx) (f : Value) (r : List V → Hp → VK → Prop) : Prop :=
 ∀ (pins : List (Addr × Obj)) (s : Shared) (σ : St) (H : Hp) (xs : List V) (us : List Value) (Q : VK), Inv X pins σ H s → Vals xs us → r xs H Q →
   wpAny (model X.prog X.w) X.A (call f us) (EP X pins σ Q) X.xe s
def TruR (X : Cx) (r : V → Hp → (Bool → Hp → Prop) → Prop) : Prop :=
 ∀ (pins : List (Addr × Obj)) (s : Shared) (σ : St) (H : Hp) (x : V) (v : Value) (Q : Bool → Hp → Prop), Inv X pins σ H s → RelV x v → r x H Q →
   wpAny (model X.prog X.w) X.A (truthy v) (TP X pins σ Q) X.xe s
def tOp (r : R2) (ta tb : TE) : TE := fun σ H Q => ta σ H fun x H1 => tb σ H1 fun y H2 => r x y H2 Q
def tUn (r : V → Hp → VK → Prop) (ta : TE) : TE := fun σ H Q => ta σ H fun x H1 => r x H1 Q
def rI (C : Int → Int → Prop) (g : Int → Int → V) : R2 := fun x y H Q => ∃ i j, x = .int i ∧ y = .int j ∧ C i j ∧ Q (g i j) H
def rI0 (g : Int → Int → V) : R2 := fun x y H Q => ∃ i j, x = .int i ∧ y = .int j ∧ Q (g i j) H
def rU (g : Int → V) : V → Hp → VK → Prop := fun x H Q => ∃ i, x = .int i ∧ Q (g i) H
section
variable {X : Cx} {a b c : Expr} {ta tb tc : TE} {pos : Pos}
theorem binT (ha : PE X a ta) (hb : PE X b tb) {pins : List (Addr × Obj)} {s : Shared} {σ : St} {H : Hp} {R : V → V → Hp → Prop} (I : Inv X pins σ H s)
   (h : ta σ H fun x H1 => tb σ H1 fun y H2 => R x y H2) {Q : Value → Shared → Prop} {f : Value → Value → Sem Value}
   (hf : ∀ v u s2 x y H2, Inv X pins σ H2 s2 → RelV x v → RelV y u → R x y H2 → wpAny (model X.prog X.w) X.A (f v u) Q X.xe s2) :
   wpAny (model X.prog X.w) X.A (eval a X.env) (fun v s₁ => wpAny (model X.prog X.w) X.A (eval b X.env) (fun u s₂ => wpAny (model X.prog X.w) X.A (f v u) Q X.xe s₂) X.xe s₁) X.xe s := by
 refine thn (ha pins s σ H _ I h) fun v s1 ⟨x, H1, I1, r1, q1⟩ => ?_
 refine thn (hb pins s1 σ H1 _ I1 q1) fun u s2 ⟨y, H2, I2, r2, q2⟩ => ?_
 exact hf v u s2 x y H2 I2 r1 r2 q2
theorem pe_op {op : Operator} {r : R2} (ho : OpR X (binaryOp op) r) (ha : PE X a ta) (hb : PE X b tb) : PE X (.BinOp a op b pos) (tOp r ta tb) := by
 intro pins s σ H Q I h
 exact wpAny_BinOp (binT ha hb I h fun v u s2 x y H2 I2 rx ry q => ho pins s2 σ H2 x y v u Q I2 rx ry q)
theorem pe_un {op : UnaryOp} {r : V → Hp → VK → Prop} (ho : UnR X (unaryOp op) r) (ha : PE X a ta) : PE X (.UnaryOp op a pos) (tUn r ta) := by
 intro pins s σ H Q I h
 exact UnaryOp_ (thn (ha pins s σ H _ I h) fun v s1 ⟨x, H1, I1, r1, q1⟩ => ho pins s1 σ H1 x v Q I1 r1 q1)
theorem opI {f : Value → Value → Sem Value} {C : Int → Int → Prop} {g : Int → Int → Int}
   (rule : ∀ (i j : Int) (t u : Tok) (s : Shared) (Q : Value → Shared → Prop) (E : Value → Shared → Prop), C i j → Q (.int (g i j) s.toks) { s with toks := s.toks + 1 } → wpAny (model X.prog X.w) X.A (f (.int i t) (.int j u)) Q E s) :
   OpR X f (rI C fun i j => .int (g i j)) := by
 intro pins s σ H x y v u Q I rx ry h
 obtain ⟨i, j, rfl, rfl, hc, q⟩ := h
 obtain ⟨t, rfl⟩ := rx
 obtain ⟨t', rfl⟩ := ry
 exact rule i j t t' s _ _ hc ⟨.int (g i j), H, I.tok _, ⟨_, rfl⟩, q⟩
theorem opI0 {f : Value → Value → Sem Value} {g : Int → Int → Int}
   (rule : ∀ (i j : Int) (t u : Tok) (s : Shared) (Q : Value → Shared → Prop) (E : Value → Shared → Prop), Q (.int (g i j) s.toks) { s with toks := s.toks + 1 } → wpAny (model X.prog X.w) X.A (f (.int i t) (.int j u)) Q E s) :
   OpR X f (rI0 fun i j => .int (g i j)) := by
 intro pins s σ H x y v u Q I rx ry h
 obtain ⟨i, j, rfl, rfl, q⟩ := h
 obtain ⟨t, rfl⟩ := rx
 obtain ⟨t', rfl⟩ := ry
 exact rule i j t t' s _ _ ⟨.int (g i j), H, I.tok _, ⟨_, rfl⟩, q⟩
theorem opB0 {f : Value → Value → Sem Value} {g : Int → Int → Bool}
   (rule : ∀ (i j : Int) (t u : Tok) (s : Shared) (Q : Value → Shared → Prop) (E : Value → Shared → Prop), Q (.bool (g i j)) s → wpAny (model X.prog X.w) X.A (f (.int i t) (.int j u)) Q E s) :
   OpR X f (rI0 fun i j => .bl (g i j)) := by
 intro pins s σ H x y v u Q I rx ry h
 obtain ⟨i, j, rfl, rfl, q⟩ := h
 obtain ⟨t, rfl⟩ := rx
 obtain ⟨t', rfl⟩ := ry
 exact rule i j t t' s _ _ ⟨.bl (g i j), H, I, rfl, q⟩
def CDiv (i j : Int) : Prop := 0 < j ∧ j < 1073741824
def CMul (i j : Int) : Prop := (-(2 ^ 64) < i ∧ i < 2 ^ 64) ∨ (-(2 ^ 64) < j ∧ j < 2 ^ 64)
theorem CMul.ok {i j : Int} (h : CMul i j) : IntMulOk i j := by
 rcases h with ⟨h1, h2⟩ | ⟨h1, h2⟩
 · exact .of_left (intBits_le_64 h1 h2)
 · exact .of_right (intBits_le_64 h1 h2)
theorem op_add : OpR X (binaryOp .Add) (rI0 fun i j => .int (i + j)) := opI0 fun _ _ _ _ _ _ _ q => add_int q
theorem op_sub : OpR X (binaryOp .Sub) (rI0 fun i j => .int (i - j)) := opI0 fun _ _ _ _ _ _ _ q => sub_int q
theorem op_mul : OpR X (binaryOp .Mult) (rI CMul fun i j => .int (i * j)) := opI fun _ _ _ _ _ _ _ hc q => mul_int q hc.ok
theorem op_fdiv : OpR X (binaryOp .FloorDiv) (rI CDiv fun i j => .int (i / j)) := opI fun i j _ _ _ _ _ hc q => by
 have h1 : (0 : Int) < j := hc.1
 have h2 : j < 1073741824 := hc.2
 exact floordiv_int (by omega) (by rw [Int.fdiv_eq_ediv_of_nonneg i (by omega)]; exact q) (.inl (PyProof.noPylong_small (by omega)))
theorem op_mod : OpR X (binaryOp .Mod) (rI (fun _ j => 0 < j) fun i j => .int (i % j)) := opI fun i j _ _ _ _ _ hc q => by
 have h1 : (0 : Int) < j := hc
 exact mod_int' (by omega) (by rw [Int.fmod_eq_emod_of_nonneg i (by omega)]; exact q)
theorem unI {f : Value → Sem Value} {g : Int → Int}
   (rule : ∀ (i : Int) (t : Tok) (s : Shared) (Q : Value → Shared → Prop) (E : Value → Shared → Prop), Q (.int (g i) s.toks) { s with toks := s.toks + 1 } → wpAny (model X.prog X.w) X.A (f (.int i t)) Q E s) :
   UnR X f (rU fun i => .int (g i)) := by
 intro pins s σ H x v Q I rx h
 obtain ⟨i, rfl, q⟩ := h
 obtain ⟨t, rfl⟩ := rx
 exact rule i t s _ _ ⟨.int (g i), H, I.tok _, ⟨_, rfl⟩, q⟩
theorem un_neg : UnR X (unaryOp .USub) (rU fun i => .int (-i)) := unI fun _ _ _ _ _ q => neg_int q
end
def scal : V → V → Bool
 | .non, .non => true | .non, .int _ => true | .int _, .non => true | .non, .bl _ => true | .bl _, .non => true | .non, .str _ => true | .str _, .non => true
 | .int _, .int _ => true | .bl _, .bl _ => true | .str _, .str _ => true | .byt _, .byt _ => true
 | .int _, .str _ => true | .str _, .int _ => true | .bl _, .str _ => true | .str _, .bl _ => true
 | _, _ => false
def rEq : R2 := fun x y H Q => scal x y = true ∧ Q (.bl (decide (x = y))) H
def rNe : R2 := fun x y H Q => scal x y = true ∧ Q (.bl (!decide (x = y))) H
theorem dec_int {i j : Int} : decide (V.int i = V.int j) = (i == j) := by
 rw [Bool.eq_iff_iff]
 simp
theorem dec_bl {i j : Bool} : decide (V.bl i = V.bl j) = (i == j) := by
 rw [Bool.eq_iff_iff]
 simp
theorem dec_str {i j : Str} : decide (V.str i = V.str j) = (i == j) := by
 rw [Bool.eq_iff_iff]
 simp
theorem dec_byt {i j : Array UInt8} : decide (V.byt i = V.byt j) = (i.toList == j.toList) := by
 rw [Bool.eq_iff_iff]
 cases i
 cases j
 simp
section
variable {X : Cx} {a b c : Expr} {ta tb tc : TE} {pos : Pos}
theorem fin_bl {pins : List (Addr × Obj)} {σ : St} {H : Hp} {s : Shared} {Q : VK} {k k' : Bool} (I : Inv X pins σ H s) (q : Q (.bl k) H) (e : k = k') : EP X pins σ Q (.bool k') s := by
 subst e
 exact ⟨.bl k, H, I, rfl, q⟩
theorem op_eq : OpR X (compareOp .Eq) rEq := by
 intro pins s σ H x y v u Q I rx ry h
 obtain ⟨hs, q⟩ := h
 cases x with
 | non =>
   cases rx
   cases y with
   | non => cases ry; exact PySem.EqNone.eq_none_none (fin_bl I q (by simp))
   | bl j => cases ry; exact PySem.EqNone.eq_none_bool (fin_bl I q (by simp))
   | int j => obtain ⟨t', rfl⟩ := ry; exact PySem.EqNone.eq_none_int (fin_bl I q (by simp))
   | str j => obtain ⟨t', rfl⟩ := ry; exact PySem.EqNone.eq_none_str (fin_bl I q (by simp))
   | _ => exact absurd (show false = true from hs) Bool.false_ne_true
 | bl i =>
   cases rx
   cases y with
   | non => cases ry; exact PySem.EqNone.eq_bool_none (fin_bl I q (by simp))
   | bl j => cases ry; exact eq_bool (fin_bl I q dec_bl)
   | str j => obtain ⟨t', rfl⟩ := ry; exact PySem.EqMixed.eq_bool_str (fin_bl I q (by simp))
   | _ => exact absurd (show false = true from hs) Bool.false_ne_true
 | int i =>
   obtain ⟨t, rfl⟩ := rx
   cases y with
   | non => cases ry; exact PySem.EqNone.eq_int_none (fin_bl I q (by simp))
   | int j => obtain ⟨t', rfl⟩ := ry; exact eq_int (fin_bl I q dec_int)
   | str j => obtain ⟨t', rfl⟩ := ry; exact PySem.EqMixed.eq_int_str (fin_bl I q (by simp))
   | _ => exact absurd (show false = true from hs) Bool.false_ne_true
 | str i =>
   obtain ⟨t, rfl⟩ := rx
   cases y with
   | non => cases ry; exact PySem.EqNone.eq_str_none (fin_bl I q (by simp))
   | bl j => cases ry; exact PySem.EqMixed.eq_str_bool (fin_bl I q (by simp))
   | int j => obtain ⟨t', rfl⟩ := ry; exact PySem.EqMixed.eq_str_int (fin_bl I q (by simp))
   | str j => obtain ⟨t', rfl⟩ := ry; exact eq_str (fin_bl I q dec_str)
   | _ => exact absurd (show false = true from hs) Bool.false_ne_true
 | byt i =>
   obtain ⟨t, rfl⟩ := rx
   cases y with
   | byt j => obtain ⟨t', rfl⟩ := ry; exact PySem.W.eq_bytes (fin_bl I q dec_byt)
   | _ => exact absurd (show false = true from hs) Bool.false_ne_true
 | _ => cases y <;> exact absurd (show false = true from hs) Bool.false_ne_true
theorem op_ne : OpR X (compareOp .NotEq) rNe := by
 intro pins s σ H x y v u Q I rx ry h
 obtain ⟨hs, q⟩ := h
 cases x with
 | non =>
   cases rx
   cases y with
   | non => cases ry; exact PySem.EqNone.ne_none_none (fin_bl I q (by simp))
   | bl j => cases ry; exact PySem.EqNone.ne_none_bool (fin_bl I q (by simp))
   | int j => obtain ⟨t', rfl⟩ := ry; exact PySem.EqNone.ne_none_int (fin_bl I q (by simp))
   | str j => obtain ⟨t', rfl⟩ := ry; exact PySem.EqNone.ne_none_str (fin_bl I q (by simp))
   | _ => exact absurd (show false = true from hs) Bool.false_ne_true
 | bl i =>
   cases rx
   cases y with
   | non => cases ry; exact PySem.EqNone.ne_bool_none (fin_bl I q (by simp))
   | bl j => cases ry; exact ne_bool (fin_bl I q (congrArg not dec_bl))
   | str j => obtain ⟨t', rfl⟩ := ry; exact PySem.EqMixed.ne_bool_str (fin_bl I q (by simp))
   | _ => exact absurd (show false = true from hs) Bool.false_ne_true
 | int i =>
   obtain ⟨t, rfl⟩ := rx
   cases y with
   | non => cases ry; exact PySem.EqNone.ne_int_none (fin_bl I q (by simp))
   | int j => obtain ⟨t', rfl⟩ := ry; exact ne_int (fin_bl I q (congrArg not dec_int))
   | str j => obtain ⟨t', rfl⟩ := ry; exact PySem.EqMixed.ne_int_str (fin_bl I q (by simp))
   | _ => exact absurd (show false = true from hs) Bool.false_ne_true
 | str i =>
   obtain ⟨t, rfl⟩ := rx
   cases y with
   | non => cases ry; exact PySem.EqNone.ne_str_none (fin_bl I q (by simp))
   | bl j => cases ry; exact PySem.EqMixed.ne_str_bool (fin_bl I q (by simp))
   | int j => obtain ⟨t', rfl⟩ := ry; exact PySem.EqMixed.ne_str_int (fin_bl I q (by simp))
   | str j => obtain ⟨t', rfl⟩ := ry; exact ne_str (fin_bl I q (congrArg not dec_str))
   | _ => exact absurd (show false = true from hs) Bool.false_ne_true
 | byt i =>
   obtain ⟨t, rfl⟩ := rx
   cases y with
   | byt j => obtain ⟨t', rfl⟩ := ry; exact PySem.W.ne_bytes (fin_bl I q (congrArg not dec_byt))
   | _ => exact absurd (show false = true from hs) Bool.false_ne_true
 | _ => cases y <;> exact absurd (show false = true from hs) Bool.false_ne_true
theorem op_lt : OpR X (compareOp .Lt) (rI0 fun i j => .bl (decide (i < j))) := opB0 fun _ _ _ _ _ _ _ q => lt_int q
theorem op_le : OpR X (compareOp .LtE) (rI0 fun i j => .bl (decide (i ≤ j))) := opB0 fun _ _ _ _ _ _ _ q => le_int q
theorem op_gt : OpR X (compareOp .Gt) (rI0 fun i j => .bl (decide (j < i))) := opB0 fun _ _ _ _ _ _ _ q => gt_int q
theorem op_ge : OpR X (compareOp .GtE) (rI0 fun i j => .bl (decide (j ≤ i))) := opB0 fun _ _ _ _ _ _ _ q => ge_int q
theorem op_in_str : OpR X (compareOp .In) (fun x y H Q => ∃ i j, x = .str i ∧ y = .str j ∧ Q (.bl (!(Builtin.Str.occurrences j i 0 j.length 1).isEmpty)) H) := by
 intro pins s σ H x y v u Q I rx ry h
 obtain ⟨i, j, rfl, rfl, q⟩ := h
 obtain ⟨t, rfl⟩ := rx
 obtain ⟨t', rfl⟩ := ry
 exact in_str (fin_bl I q rfl)
theorem op_isN : OpR X (compareOp .Is) (fun x y H Q => y = .non ∧ Q (.bl (decide (x = .non))) H) := by
 intro pins s σ H x y v u Q I rx ry h
 obtain ⟨rfl, q⟩ := h
 cases ry
 refine is_none_gen (fin_bl I q ?_)
 cases x <;> first
   | (cases rx; rfl)
   | (obtain ⟨t, rfl⟩ := rx; rfl)
theorem OpR.or {f : Value → Value → Sem Value} {r r' : R2} (h : OpR X f r) (h' : OpR X f r') : OpR X f (fun x y H Q => r x y H Q ∨ r' x y H Q) := by
 intro pins s σ H x y v u Q I rx ry q
 rcases q with q | q
 · exact h pins s σ H x y v u Q I rx ry q
 · exact h' pins s σ H x y v u Q I rx ry q
theorem nomark (b : Expr) {op : CmpOp} (h : op ≠ .In := by decide) (h2 : op ≠ .NotIn := by decide) : behindInMarks op b = false := by
 have e1 : (op == CmpOp.In) = false := by cases op <;> first | rfl | exact absurd rfl h
 have e2 : (op == CmpOp.NotIn) = false := by cases op <;> first | rfl | exact absurd rfl h2
 cases b <;> simp [behindInMarks, e1, e2]
theorem pe_cmpR {op : CmpOp} {r : R2} (ho : OpR X (compareOp op) r) (ha : PE X a ta) (hb : PE X b tb) (hm : behindInMarks op b = false) : PE X (.Compare a [op] [b] pos) (tOp r ta tb) := by
 intro pins s σ H Q I h
 exact wpAny_Compare1 (binT ha hb I h fun v u s2 x y H2 I2 rx ry q => ho pins s2 σ H2 x y v u Q I2 rx ry q) hm
def tTest (t : TE) : TT := fun σ H Q => t σ H fun x H' => ∃ k, x = .bl k ∧ Q k H'
theorem pt_cmpR {op : CmpOp} {r : R2} (ho : OpR X (compareOp op) r) (ha : PE X a ta) (hb : PE X b tb) (hm : behindInMarks op b = false) : PT X (.Compare a [op] [b] pos) (tTest (tOp r ta tb)) := by
 intro pins s σ H Q I h
 refine wpAny_isTrue_Compare1 (thn (ha pins s σ H _ I h) fun v s1 ⟨x, H1, I1, r1, q1⟩ => thn (hb pins s1 σ H1 _ I1 q1) fun u s2 ⟨y, H2, I2, r2, q2⟩ =>
   thn (ho pins s2 σ H2 x y v u _ I2 r1 r2 q2) fun c s3 ⟨z, H3, I3, r3, k, e, q3⟩ => ?_) hm
 subst e
 cases r3
 exact wpAny_truthy_bool ⟨H3, I3, q3⟩
def tChain (r r' : R2) (ta tb tc : TE) : TE := fun σ H Q => ta σ H fun x H1 => tb σ H1 fun y H2 => r x y H2 fun z H3 => ∃ k, z = .bl k ∧
 (if k = true then tc σ H3 fun w' H4 => r' y w' H4 Q else Q (.bl false) H3)
theorem pt_chain {op op' : CmpOp} {r r' : R2} (ho : OpR X (compareOp op) r) (ho' : OpR X (compareOp op') r') (ha : PE X a ta) (hb : PE X b tb) (hc : PE X c tc)
   (hm : lastMarks [op, op'] [b, c] = false := by with_unfolding_all rfl) : PT X (.Compare a [op, op'] [b, c] pos) (tTest (tChain r r' ta tb tc)) := by
 intro pins s σ H Q I h
 refine isTrue_chain (thn (ha pins s σ H _ I h) fun v s1 ⟨x, H1, I1, r1, q1⟩ => test_link (thn (hb pins s1 σ H1 _ I1 q1) fun u s2 ⟨y, H2, I2, r2, q2⟩ =>
   thn (ho pins s2 σ H2 x y v u _ I2 r1 r2 q2) fun d s3 ⟨z, H3, I3, r3, k, e, q3⟩ => ?_)) hm
 subst e
 cases r3
 refine wpAny_truthy_bool ?_
 cases k with
 | false =>
   obtain ⟨k', e', q'⟩ := q3
   cases e'
   exact ite_ff ⟨H3, I3, q'⟩
 | true =>
   refine ite_tt (test_last (thn (hc pins s3 σ H3 _ I3 q3) fun w' s4 ⟨z', H4, I4, r4, q4⟩ => thn (ho' pins s4 σ H4 y z' u w' _ I4 r2 r4 q4) fun d' s5 ⟨z2, H5, I5, r5, k2, e2, q5⟩ => ?_))
   subst e2
   cases r5
   exact wpAny_truthy_bool ⟨H5, I5, q5⟩
def TruV (K : PySem.W.Frag) (x : V) (H : Hp) (k : Bool) : Prop :=
 match x with
 | .non => k = false
 | .bl b => k = b
 | .int i => k = (i != 0)
 | .str y => y.length ≤ sizeLine ∧ k = ((y.length : Int) != 0)
 | .byt y => y.size ≤ sizeLine ∧ k = ((y.size : Int) != 0)
 | .ref p => (∃ xs, SqL K H p xs ∧ k = !xs.isEmpty) ∨ (∃ xs, SqT K H p xs ∧ k = !xs.isEmpty) ∨ ∃ kvs, H p = some (.dK kvs) ∧ k = !kvs.isEmpty
 | _ => False
theorem isEmpty_kv {κ : Type} {kvs : List (κ × V)} {vs : List (κ × Value)} (r : KV kvs vs) : (!vs.isEmpty) = !kvs.isEmpty := by
 cases r <;> rfl
theorem isEmpty_of {xs : List V} {its : List Value} (r : Vals xs its) : (!its.toArray.isEmpty) = !xs.isEmpty := by
 cases r <;> simp
theorem line63 : (sizeLine : Nat) < 2 ^ 63 := by rw [sizeLine_eq]; decide
theorem tru_ok : TruR X (fun x H Q => ∃ k, TruV X.K x H k ∧ Q k H) := by
 intro pins s σ H x v Q I rx h
 obtain ⟨k, e, q⟩ := h
 have hl := line63
 have hs : sizeLine = 16777216 := sizeLine_eq
 cases x with
 | non =>
   cases rx
   have e' : k = false := e
   subst e'
   exact truthy_none ⟨H, I, q⟩
 | bl b =>
   cases rx
   have e' : k = b := e
   subst e'
   exact wpAny_truthy_bool ⟨H, I, q⟩
 | int i =>
   obtain ⟨t, rfl⟩ := rx
   have e' : k = (i != 0) := e
   subst e'
   exact PySem.P.truthy_int ⟨H, I, q⟩
 | str y =>
   obtain ⟨t, rfl⟩ := rx
   obtain ⟨hy, e'⟩ : y.length ≤ sizeLine ∧ k = ((y.length : Int) != 0) := e
   subst e'
   exact PySem.P.truthy_str (by omega) ⟨H, I.tok _, q⟩
 | byt y =>
   obtain ⟨t, rfl⟩ := rx
   obtain ⟨hy, e'⟩ : y.size ≤ sizeLine ∧ k = ((y.size : Int) != 0) := e
   subst e'
   exact PySem.W.truthy_bytes (by omega) ⟨H, I.tok _, q⟩
 | ref p =>
   cases rx
   have e' : (∃ xs, SqL X.K H p xs ∧ k = !xs.isEmpty) ∨ (∃ xs, SqT X.K H p xs ∧ k = !xs.isEmpty) ∨ ∃ kvs, H p = some (.dK kvs) ∧ k = !kvs.isEmpty := e
   rcases e' with ⟨xs, hx, e'⟩ | ⟨xs, hx, e'⟩ | ⟨kvs, hx, e'⟩
   · subst e'
     obtain ⟨its, r, pl, hz⟩ := I.list hx
     have hlen := r.length
     exact wpAny_truthy_list pl.isList (by simp only [List.size_toArray]; omega) ⟨H, I.tok _, by rw [isEmpty_of r]; exact q⟩
   · subst e'
     obtain ⟨its, r, pl, hz⟩ := I.tuple hx
     have hlen := r.length
     exact truthy_tuple pl (by simp only [List.size_toArray]; omega) ⟨H, I.tok _, by rw [isEmpty_of r]; exact q⟩
   · subst e'
     obtain ⟨hz, hS, vs, r, m⟩ : kvs.length ≤ sizeLine ∧ (p == sysModules) = false ∧ ∃ vs, KV kvs vs ∧ s.heap.DictOf (mixKind X.prog X.w) p vs := I.hok p _ hx
     have hlen : kvs.length = vs.length := Paired.length r
     exact wpAny_truthy_dict hS m (by omega) ⟨H, I.tok _, by rw [isEmpty_kv r]; exact q⟩
 | _ => exact (show False from e).elim
theorem pt_truth (ha : PE X a ta) (he : ∀ whole, isTrue a X.env whole = (do let v ← whole; standAt a.pos; holding [v] (truthy v))) :
   PT X a (fun σ H Q => ta σ H fun x H' => ∃ k, TruV X.K x H' k ∧ Q k H') := by
 intro pins s σ H Q I h
 exact isTrue_plain (thn (ha pins s σ H _ I h) fun v s1 ⟨x, H1, I1, r1, q1⟩ => tru_ok pins s1 σ H1 x v Q I1 r1 q1) (he _)
theorem op_add_str : OpR X (binaryOp .Add) (fun x y H Q => ∃ i j, x = .str i ∧ y = .str j ∧ i.length + j.length ≤ sizeLine ∧ Q (.str (i ++ j)) H) := by
 intro pins s σ H x y v u Q I rx ry h
 obtain ⟨i, j, rfl, rfl, hz, q⟩ := h
 obtain ⟨t, rfl⟩ := rx
 obtain ⟨t', rfl⟩ := ry
 exact add_str (fun t' tk => ⟨.str (i ++ j), H, I.tok _, ⟨_, rfl⟩, q⟩) hz
theorem vals1 {x : V} {us : List Value} (r : Vals [x] us) : ∃ u, us = [u] ∧ RelV x u := by
 cases r with
 | cons r1 r2 => cases r2; exact ⟨_, rfl, r1⟩
theorem vals2 {x y : V} {us : List Value} (r : Vals [x, y] us) : ∃ u w', us = [u, w'] ∧ RelV x u ∧ RelV y w' := by
 cases r with
 | cons r1 r2 =>
   cases r2 with
   | cons r3 r4 => cases r4; exact ⟨_, _, rfl, r1, r3⟩
theorem call_str_int : CallR X (.type "str") (fun xs H Q => ∃ i, xs = [.int i] ∧ i.natAbs.log2 < 1920 ∧ Q (.str (toString i)) H) := by
 intro pins s σ H xs us Q I r h
 obtain ⟨i, rfl, hz, q⟩ := h
 obtain ⟨u, rfl, t, rfl⟩ := vals1 r
 exact PySem.P.str_of_int hz ⟨.str _, H, I.tok _, ⟨_, rfl⟩, q⟩
def LenV (K : PySem.W.Frag) (x : V) (H : Hp) (n : Nat) : Prop :=
 match x with
 | .str y => y.length ≤ sizeLine ∧ n = y.length
 | .byt y => y.size ≤ sizeLine ∧ n = y.size
 | .ref p => (∃ xs, SqL K H p xs ∧ n = xs.length) ∨ ∃ xs, SqT K H p xs ∧ n = xs.length
 | _ => False
theorem call_len : CallR X (.builtin "len") (fun xs H Q => ∃ x n, xs = [x] ∧ LenV X.K x H n ∧ Q (.int n) H) := by
 intro pins s σ H xs us Q I r h
 obtain ⟨x, n, rfl, e, q⟩ := h
 obtain ⟨u, rfl, rx⟩ := vals1 r
 have hl := line63
 have hs : sizeLine = 16777216 := sizeLine_eq
 cases x with
 | str y =>
   obtain ⟨t, rfl⟩ := rx
   obtain ⟨hy, e'⟩ : y.length ≤ sizeLine ∧ n = y.length := e
   subst e'
   exact len_str (by omega) ⟨.int _, H, I.tok _, ⟨_, rfl⟩, q⟩
 | byt y =>
   obtain ⟨t, rfl⟩ := rx
   obtain ⟨hy, e'⟩ : y.size ≤ sizeLine ∧ n = y.size := e
   subst e'
   exact PySem.W.len_bytes (by omega) ⟨.int _, H, I.tok _, ⟨_, rfl⟩, q⟩
 | ref p =>
   cases rx
   have e' : (∃ xs, SqL X.K H p xs ∧ n = xs.length) ∨ ∃ xs, SqT X.K H p xs ∧ n = xs.length := e
   rcases e' with ⟨xs, hx, e'⟩ | ⟨xs, hx, e'⟩
   · subst e'
     obtain ⟨its, r', pl, hz⟩ := I.list hx
     have hlen := r'.length
     exact Calls.call_len_list pl.isList (by simp only [List.size_toArray]; omega) ⟨.int xs.length, H, I.tok _, ⟨_, by simp only [List.size_toArray]; rw [hlen]⟩, q⟩
   · subst e'
     obtain ⟨its, r', pl, hz⟩ := I.tuple hx
     have hlen := r'.length
     exact len_tuple pl (by simp only [List.size_toArray]; omega) ⟨.int xs.length, H, I.tok _, ⟨_, by simp only [List.size_toArray]; rw [hlen]⟩, q⟩
 | _ => exact (show False from e).elim
end
end L2
namespace L2
open PySem PySem.Spec PyProof.Rows
structure ObjM (h : Heap) (x dx C : Addr) (mA : Str → Option Value) : Prop where
 obj : h.get? x = some (PySem.W.instObj C dx)
 ns : h.Ns1 dx mA
 ne : dx ≠ x
theorem lookIn_ns {h : Heap} {dx : Addr} {mA : Str → Option Value} (n : h.Ns1 dx mA) : ∃ od, h.get? dx = some od ∧ ∀ name, PySem.W.lookIn name od = some (mA name) := by
 obtain ⟨o, es, ep, ho, hd, hk, _, hm⟩ := n
 refine ⟨o, ho, fun name => ?_⟩
 have e := hm name
 unfold nsFind findBy at e
 rw [← Array.find?_toList] at e
 unfold PySem.W.lookIn
 rw [hd]
 dsimp only
 split
 · rename_i y q
   rw [q] at e
   exact congrArg some e
 · rename_i q
   rw [q] at e
   have a : es.toList.any (·.refKey) = false := by
     rw [List.any_eq_false]
     intro y hy
     obtain ⟨z, t, hkey⟩ := hk y (Array.mem_toList_iff.mp hy)
     simp [DictEntry.refKey, hkey]
   have a' : ¬ es.toList.any (·.refKey) = true := by rw [a]; exact Bool.false_ne_true
   rw [if_neg a']
   exact congrArg some e
theorem ObjM.look {h : Heap} {x dx C : Addr} {mA : Str → Option Value} (I : ObjM h x dx C mA) : ∃ od, PySem.W.InstAt h x (PySem.W.instObj C dx) C (some od) ∧ ∀ name, PySem.W.lookIn name od = some (mA name) :=
 let ⟨od, ho, hl⟩ := lookIn_ns I.ns
 ⟨od, ⟨I.obj, rfl, rfl, ho⟩, hl⟩
section
variable {prog : Program} {w : World} {A : Around} {E : Value → Shared → Prop} {s : Shared} {K : PySem.W.Frag} {x dx C f : Addr} {mA : Str → Option Value} {name : Str} {v : Value}
theorem get_map {expr : Bool} {Q : Value → Shared → Prop} (X : K.In s.heap) (I : ObjM s.heap x dx C mA) (hg : PySem.W.plainGet K C name = true) (hh : PySem.W.hasDictIn K C = true)
   (ha : PySem.W.findIn K (.ref C) name = some none) (hv : mA name = some v) (hv' : PySem.W.handedIn v = true) (h : Q v { s with toks := s.toks + 1 }) :
   wpAny (model prog w) A (getAttr (.ref x) name expr) Q E s := by
 obtain ⟨od, J, hl⟩ := I.look
 exact PySem.W.get_value X J (PySem.W.plainGet_of hg).1 (PySem.W.findObj_own hh ha rfl (by rw [hl, hv])) hv' h
theorem get_meth {pl : Sem Bool} {Q : Value × List Value → Shared → Prop} (X : K.In s.heap) (I : ObjM s.heap x dx C mA) (hg : PySem.W.plainGet K C name = true)
   (hf : PySem.W.findIn K (.ref C) name = some (some (.ref f))) (ht : PySem.W.isFn K (.ref f) = true) (hv : mA name = none) (h : Q (.ref f, [.ref x]) s) :
   wpAny (model prog w) A (getMethod (.ref x) name pl) Q E s := by
 obtain ⟨od, J, hl⟩ := I.look
 exact PySem.W.method_fn X J (PySem.W.plainGet_of hg).1 (PySem.W.plainGet_of hg).2 hf (beq_iff_eq.mp ht) (by show (PySem.W.lookIn name od).map (·.isSome) = some false; rw [hl, hv]; rfl) h
theorem set_map {ns : List Str} {Q : Unit → Shared → Prop} (X : K.In s.heap) (I : ObjM s.heap x dx C mA)
   (hs : PySem.W.findIn K (.ref C) "__setattr__" = some (some (.builtin "object.__setattr__"))) (hp : PySem.W.plainOver K C = true) (ht : PySem.W.takerIn K C name = some none) (hh : PySem.W.hasDictIn K C = true)
   (hw : PySem.Within mA ns) (hsz : ns.length ≤ sizeLine)
   (h : ∀ h', ObjM h' x dx C (fun y => if y = name then some v else mA y) → Heap.SameBut dx s.heap h' → Q () { s with heap := h', toks := s.toks + 2 }) :
   wpAny (model prog w) A (setAttr (.ref x) name v) Q E s := by
 obtain ⟨od, J, hl⟩ := I.look
 refine PySem.W.set_plain X J hs (PySem.W.osa_open (s := { s with toks := s.toks + 1 }) (r := none) X J hp ht fun b => ?_)
 obtain ⟨cd, hc, hd'⟩ := PySem.W.any_some hh
 have hx : s.heap.get? x = some ⟨.ref C, some dx, .plain, #[]⟩ := I.obj
 refine wpAny_bind (wpAny_pure (wpAny_bind (wpAny_bind (wpAny_loadPart hx (wpAny_bind (PySem.W.Looks.here (s := { s with toks := s.toks + 1 }) (PySem.W.looks_clsIn X hc) ?_))))))
 rw [hd']
 refine wpAny_pure (a := some dx) (wpAny_bind (wpAny_pure (wpAny_bind ?_)))
 refine wpAny_nsSet1 (s := { s with toks := s.toks + 1 }) I.ns fun h' hn2 hs2 => ?_
 obtain ⟨oD, esD, epD, hoD, hdD, hcD⟩ := hn2.count (PySem.Within.cons name v hw)
 refine wpAny_bind (wpAny_lookBehind hoD (by rw [hdD]; exact pastItsLine_dict (Nat.le_trans hcD (by rw [List.length_cons]; omega))) ?_)
 exact wpAny_pure (h _ ⟨(hs2.2 _ (Ne.symm I.ne)).trans I.obj, hn2, I.ne⟩ hs2)
theorem make_map {R : Result → Shared → Prop} {vs : List Value} {kw : List (Str × Value)} (X : K.In s.heap) (hm : PySem.W.makesIn K C = true)
   (hi : PySem.W.findIn K (.ref C) "__init__" = some (some (.ref f))) (hf : PySem.W.typeIn K (.ref f) = some (.type "function"))
   (h : codeAny (model prog w) (A.under (.builtin "type.__call__" ⟨.ref C :: vs, kw⟩)) (.call (.ref f) ⟨.ref (s.heap.objs.size + 1) :: vs, kw⟩) (PySem.W.InitBack (s.heap.objs.size + 1) R)
     { s with heap := (s.heap.push PySem.W.emptyDict).push (PySem.W.instObj C s.heap.objs.size) }) :
   codeAny (model prog w) A (.call (.ref C) ⟨vs, kw⟩) R s := by
 obtain ⟨hh, g, d, t, os⟩ := s
 exact PySem.W.make_core (PySem.W.makes_of X hm) (PySem.W.looks_findIn X hi) (fun self => PySem.W.bind_fn X self hf) (.inl rfl) h
end
def putF (f : Str) (v : V) : List (Str × V) → List (Str × V)
 | [] => [(f, v)]
 | (g, x) :: r => if g = f then (g, v) :: r else (g, x) :: putF f v r
theorem lookup_putF (f g : Str) (v : V) : ∀ fs : List (Str × V), (putF f v fs).lookup g = if g = f then some v else fs.lookup g
 | [] => by
   show List.lookup g [(f, v)] = _
   by_cases h : g = f
   · have hb : (g == f) = true := beq_iff_eq.mpr h
     simp only [List.lookup, hb, if_pos h]
   · have hb : (g == f) = false := beq_eq_false_iff_ne.mpr h
     simp only [List.lookup, hb, if_neg h]
 | (k, x) :: r => by
   have ih := lookup_putF f g v r
   rw [show putF f v ((k, x) :: r) = (if k = f then (k, v) :: r else (k, x) :: putF f v r) from rfl]
   by_cases hk : k = f
   · rw [if_pos hk]
     by_cases h : g = k
     · have hb : (g == k) = true := beq_iff_eq.mpr h
       simp only [List.lookup, hb, if_pos (h.trans hk)]
     · have hb : (g == k) = false := beq_eq_false_iff_ne.mpr h
       simp only [List.lookup, hb, if_neg (fun e : g = f => h (e.trans hk.symm))]
   · rw [if_neg hk]
     by_cases h : g = k
     · have hb : (g == k) = true := beq_iff_eq.mpr h
       simp only [List.lookup, hb, if_neg (fun e : g = f => hk (h.symm.trans e))]
     · have hb : (g == k) = false := beq_eq_false_iff_ne.mpr h
       simp only [List.lookup, hb]
       exact ih
theorem keys_putF (f : Str) (v : V) : ∀ fs : List (Str × V), f ∈ (putF f v fs).map (·.1) ∧ ∀ g, g ∈ fs.map (·.1) → g ∈ (putF f v fs).map (·.1)
 | [] => ⟨by simp [putF], fun g h => by simp at h⟩
 | (k, x) :: r => by
   obtain ⟨i1, i2⟩ := keys_putF f v r
   rw [show putF f v ((k, x) :: r) = (if k = f then (k, v) :: r else (k, x) :: putF f v r) from rfl]
   by_cases hk : k = f
   · rw [if_pos hk]
     subst hk
     exact ⟨by simp, fun g h => by simpa using h⟩
   · rw [if_neg hk]
     refine ⟨?_, fun g h => ?_⟩
     · rw [List.map_cons]
       exact List.mem_cons_of_mem _ i1
     · rw [List.map_cons] at h ⊢
       rcases List.mem_cons.mp h with e | e
       · exact List.mem_cons.mpr (.inl e)
       · exact List.mem_cons_of_mem _ (i2 g e)
theorem length_putF (f : Str) (v : V) : ∀ fs : List (Str × V), (putF f v fs).length ≤ fs.length + 1
 | [] => by simp [putF]
 | (k, x) :: r => by
   have ih := length_putF f v r
   rw [show putF f v ((k, x) :: r) = (if k = f then (k, v) :: r else (k, x) :: putF f v r) from rfl]
   by_cases hk : k = f
   · rw [if_pos hk, List.length_cons, List.length_cons]; omega
   · rw [if_neg hk, List.length_cons, List.length_cons]; omega
theorem RelO.some_of {v : V} {o : Option Value} (r : RelO (some v) o) : ∃ u, o = some u ∧ RelV v u := by
 cases o with
 | none => exact (show False from r).elim
 | some u => exact ⟨u, rfl, r⟩
theorem RelO.none_of {o : Option Value} (r : RelO none o) : o = none := by
 cases o with
 | none => rfl
 | some u => exact (show False from r).elim
theorem handed_of {v : V} {u : Value} (r : RelV v u) : PySem.W.handedIn u = true := by
 cases v with
 | non => cases (show u = Value.none from r); rfl
 | bl b => cases (show u = Value.bool b from r); rfl
 | int i => obtain ⟨t, e⟩ := (show ∃ t, u = Value.int i t from r); cases e; rfl
 | str x => obtain ⟨t, e⟩ := (show ∃ t, u = Value.str x t from r); cases e; rfl
 | byt b => obtain ⟨t, e⟩ := (show ∃ t, u = Value.bytes b t from r); cases e; rfl
 | flt b => obtain ⟨t, e⟩ := (show ∃ t, u = Value.float b t from r); cases e; rfl
 | ref a => cases (show u = Value.ref a from r); rfl
 | ty n => cases (show u = Value.type n from r); rfl
section
variable {P : Program} {w : World} {H H' : Hp} {h h' : Heap} {a C dx : Addr} {fs fs' : List (Str × V)}
theorem ins_get (hok : HOk P w H h) (e : H a = some (.ins C dx fs)) : ∃ mA, ObjM h a dx C mA ∧ (∀ f, RelO (fs.lookup f) (mA f)) ∧ PySem.Within mA (fs.map (·.1)) ∧ fs.length ≤ 1000 ∧ H dx = some (.own a) := by
 obtain ⟨d, z, ne, ob, mA, n, r, q⟩ := (show ObjOk P w H h a (.ins C dx fs) from hok a _ e)
 exact ⟨mA, ⟨ob, n, ne⟩, r, q, z, d⟩
end
structure Cls (K : PySem.W.Frag) (C : Addr) : Prop where
 pg : PySem.W.plainGet K C Str.empty = true
 hd : PySem.W.hasDictIn K C = true
 po : PySem.W.plainOver K C = true
 sa : PySem.W.findIn K (.ref C) "__setattr__" = some (some (.builtin "object.__setattr__"))
theorem Cls.get {K : PySem.W.Frag} {C : Addr} (c : Cls K C) (f : Str) : PySem.W.plainGet K C f = true := c.pg
def NoAttr (K : PySem.W.Frag) (C : Addr) (f : Str) : Prop := PySem.W.findIn K (.ref C) f = some none
theorem NoAttr.taker {K : PySem.W.Frag} {C : Addr} {f : Str} (n : NoAttr K C f) : PySem.W.takerIn K C f = some none := by
 unfold PySem.W.takerIn
 rw [show PySem.W.findIn K (.ref C) f = some none from n]
 rfl
structure Meth (K : PySem.W.Frag) (C : Addr) (m : Str) (f : Addr) : Prop where
 at_ : PySem.W.findIn K (.ref C) m = some (some (.ref f))
 fn : PySem.W.isFn K (.ref f) = true
 kp : PySem.W.keepIn K (.ref f) = true
section
variable {X : Cx} {pins : List (Addr × Obj)} {σ : St} {H : Hp} {s : Shared} {a C dx : Addr} {fs : List (Str × V)} {f : Str} {v : V} {A : Around} {E : Value → Shared → Prop}
theorem getattr_ok {b : Bool} {Q : Value → Shared → Prop} (I : Inv X pins σ H s) (e : H a = some (.ins C dx fs)) (c : Cls X.K C) (n : NoAttr X.K C f) (l : fs.lookup f = some v)
   (h : ∀ u s', Inv X pins σ H s' → RelV v u → Q u s') : wpAny (model X.prog X.w) A (getAttr (.ref a) f b) Q E s := by
 obtain ⟨mA, O, r, _, _, _⟩ := ins_get I.hok e
 obtain ⟨u, hu, ru⟩ := RelO.some_of (v := v) (o := mA f) (by rw [← l]; exact r f)
 exact get_map I.kIn O (c.get f) c.hd n hu (handed_of ru) (h u _ (I.tok _) ru)
theorem getmeth_ok {m : Str} {g : Addr} {pl : Sem Bool} {Q : Value × List Value → Shared → Prop} (I : Inv X pins σ H s) (e : H a = some (.ins C dx fs)) (c : Cls X.K C) (k : Meth X.K C m g) (l : fs.lookup m = none)
   (h : Q (.ref g, [.ref a]) s) : wpAny (model X.prog X.w) A (getMethod (.ref a) m pl) Q E s := by
 obtain ⟨mA, O, r, _, _, _⟩ := ins_get I.hok e
 have hn : mA m = none := RelO.none_of (by rw [← l]; exact r m)
 exact get_meth I.kIn O (c.get m) k.at_ k.fn hn h
theorem setattr_ok {y : V} {u : Value} {Q : Unit → Shared → Prop} (I : Inv X pins σ H s) (e : H a = some (.ins C dx fs)) (c : Cls X.K C) (n : NoAttr X.K C f) (hl : fs.length < 1000) (ry : RelV y u)
   (h : ∀ s', Inv X pins σ (upd H a (.ins C dx (putF f y fs))) s' → Q () s') : wpAny (model X.prog X.w) A (setAttr (.ref a) f u) Q E s := by
 obtain ⟨mA, O, r, wi, _, ho⟩ := ins_get I.hok e
 have hz : (fs.map (·.1)).length ≤ sizeLine := by rw [List.length_map, sizeLine_eq]; omega
 refine set_map I.kIn O c.sa c.po n.taker c.hd wi hz fun h' O' sb => h _ ?_
 have hd : ∃ o, h'.get? dx = some o := let ⟨o, _, _, e', _⟩ := O'.ns; ⟨o, e'⟩
 refine I.write (x := a) (e := dx) (by rw [e]; exact True.intro) (.inr ho) (fun b q hb z => (sb.2 b hb).trans z) hd ?_
 refine ⟨by rw [upd_ne O.ne]; exact ho, ?_, O.ne, O'.obj, _, O'.ns, fun g => ?_, fun g hg => ?_⟩
 · have := length_putF f y fs; omega
 · show RelO ((putF f y fs).lookup g) (if g = f then some u else mA g)
   rw [lookup_putF]
   by_cases q : g = f
   · rw [if_pos q, if_pos q]; exact ry
   · rw [if_neg q, if_neg q]; exact r g
 · by_cases q : g = f
   · rw [q]; exact (keys_putF f y fs).1
   · refine (keys_putF f y fs).2 g (wi g fun z => hg ?_)
     show (if g = f then some u else mA g) = none
     rw [if_neg q]; exact z
theorem Inv.made (I : Inv X pins σ H s) : Inv X pins σ (upd (upd H s.heap.objs.size (.own (s.heap.objs.size + 1))) (s.heap.objs.size + 1) (.ins C s.heap.objs.size []))
   { s with heap := (s.heap.push PySem.W.emptyDict).push (PySem.W.instObj C s.heap.objs.size) } := by
 have e1 : (s.heap.push PySem.W.emptyDict).get? s.heap.objs.size = some PySem.W.emptyDict := Heap.get?_push_size s.heap rfl
 have e2 : ((s.heap.push PySem.W.emptyDict).push (PySem.W.instObj C s.heap.objs.size)).get? (s.heap.objs.size + 1) = some (PySem.W.instObj C s.heap.objs.size) := by
   have := Heap.get?_push_size (s.heap.push PySem.W.emptyDict) (o := PySem.W.instObj C s.heap.objs.size) rfl
   rwa [Heap.size_push] at this
 have e3 : (s.heap.push PySem.W.emptyDict).Ns s.heap.objs.size (fun _ => none) := ⟨PySem.W.emptyDict, #[], _, e1, rfl, (fun e he => absurd he (by simp)), fun _ => rfl⟩
 have I1 := I.laid (a := s.heap.objs.size) (o := .own (s.heap.objs.size + 1)) (h' := s.heap.push PySem.W.emptyDict) (t' := s.toks) (fun b u q => Heap.get?_push_of_some _ q) (Nat.le_refl _) ⟨_, e1⟩
 refine I1.laid (a := s.heap.objs.size + 1) (o := .ins C s.heap.objs.size []) (t' := s.toks) (fun b u q => Heap.get?_push_of_some _ q) (Nat.le_of_eq (Heap.size_push _ _)) ?_
 have ne : s.heap.objs.size ≠ s.heap.objs.size + 1 := Nat.ne_of_lt (Nat.lt_succ_self _)
 refine ⟨by rw [upd_ne ne, upd_same], Nat.zero_le _, ne, e2, fun _ => none, (Heap.Ns1.of_empty e3).at fun o q => Heap.get?_push_of_some _ q, fun _ => True.intro, fun y hy => absurd rfl hy⟩
theorem attr_of {prog : Program} {w : World} {env : Env} {e : Expr} {f : Str} {pos : Pos} {s : Shared} {Q : Value → Shared → Prop} (hb : attributeBase e f env (eval e env) = eval e env)
   (h : wpAny (model prog w) A (eval e env) (fun o s₁ => wpAny (model prog w) A (getAttr o f true) Q E s₁) E s) : wpAny (model prog w) A (eval (.Attribute e f pos) env) Q E s :=
 Attribute_any_ h (by rw [arm_eval_Attribute, hb])
end
def tFld (K : PySem.W.Frag) (ta : TE) (f : Str) : TE := fun σ H Q => ta σ H fun x H1 => ∃ a C dx fs v, x = .ref a ∧ H1 a = some (.ins C dx fs) ∧ Cls K C ∧ NoAttr K C f ∧ fs.lookup f = some v ∧ Q v H1
def sFld (K : PySem.W.Frag) (ta tv : TE) (f : Str) : TS := fun D σ H => tv σ H fun y H1 => ta σ H1 fun x H2 => ∃ a C dx fs, x = .ref a ∧ H2 a = some (.ins C dx fs) ∧ Cls K C ∧ NoAttr K C f ∧ fs.length < 1000 ∧
 D.nx σ (upd H2 a (.ins C dx (putF f y fs)))
section
variable {X : Cx} {o e value : Expr} {f : Str} {pos pos' tpos : Pos} {ta tv : TE}
theorem pe_fld (he : PE X e ta) (hb : attributeBase e f X.env (eval e X.env) = eval e X.env) : PE X (.Attribute e f pos) (tFld X.K ta f) := by
 intro pins s σ H Q I h
 refine attr_of hb (thn (he pins s σ H _ I h) fun u s1 ⟨x, H1, I1, rx, a, C, dx, fs, v, ex, ea, c, n, l, q⟩ => ?_)
 subst ex
 obtain rfl : u = Value.ref a := rx
 exact getattr_ok I1 ea c n l fun u' s2 I2 ru => ⟨v, H1, I2, ru, q⟩
theorem ps_fld (ha : PE X o ta) (hv : PE X value tv) (hs : swapsWith value (some (.Attribute o f pos')) pos.line X.env = pure false) : PS X (.Assign [.Attribute o f pos'] value pos) (sFld X.K ta tv f) := by
 intro pins s σ H D I h
 refine plainObj_wpAny_Assign_Attribute (thn (hv pins s σ H _ I h) fun u s1 ⟨y, H1, I1, ry, q⟩ => thn (ha pins s1 σ H1 _ I1 q) fun ov s2 ⟨x, H2, I2, rx, a, C, dx, fs, ex, ea, c, n, l, q2⟩ => ?_) hs
 subst ex
 obtain rfl : ov = Value.ref a := rx
 exact setattr_ok I2 ea c n l ry fun s3 I3 => ⟨σ, _, I3, q2⟩
end
section
variable {X : Cx} {pins : List (Addr × Obj)} {σ : St} {H : Hp} {s : Shared} {A : Around} {E : Value → Shared → Prop} {Q : Value → Shared → Prop} {c : Value} {b : Bool}
inductive TyOf (K : PySem.W.Frag) (H : Hp) : V → Value → Prop where
 | non : TyOf K H .non (.type "NoneType")
 | bl (x : Bool) : TyOf K H (.bl x) (.type "bool")
 | int (i : Int) : TyOf K H (.int i) (.type "int")
 | str (x : Str) : TyOf K H (.str x) (.type "str")
 | flt (x : UInt64) : TyOf K H (.flt x) (.type "float")
 | lst {a : Addr} {xs : List V} (e : H a = some (.lst xs)) : TyOf K H (.ref a) (.type "list")
 | frz {a : Addr} {o : Obj} {xs : List V} (e : H a = some (.frz o (.lst xs))) : TyOf K H (.ref a) (.type "list")
 | tup {a : Addr} {xs : List V} (e : H a = some (.tup xs)) : TyOf K H (.ref a) (.type "tuple")
 | dK {a : Addr} {kvs : List (Key × V)} (e : H a = some (.dK kvs)) : TyOf K H (.ref a) (.type "dict")
 | dT {a : Addr} {kvs : List (List Key × V)} (e : H a = some (.dT kvs)) : TyOf K H (.ref a) (.type "dict")
 | ins {a C dx : Addr} {fs : List (Str × V)} (e : H a = some (.ins C dx fs)) (cl : Cls K C) (ha : PySem.W.findIn K (.ref C) "__class__" = some (some (.builtin "object.__class__")))
     (hn : PySem.W.specialIn K (.builtin "object.__class__") "__get__" = some (some (.builtin "getset_descriptor.__get__"))) (htk : PySem.W.takesIn K (.builtin "object.__class__") = some true)
     (hm : PySem.W.mroIn K C (.type "object") = some true) : TyOf K H (.ref a) (.ref C)
theorem isinst_ok {x : V} {u t : Value} (I : Inv X pins σ H s) (rx : RelV x u) (ty : TyOf X.K H x t) (e : PySem.W.kitOne X.K t c = some b) (h : ∀ tk, Q (.bool b) { s with toks := tk }) :
   wpAny (model X.prog X.w) A (call (.builtin "isinstance") [u, c]) Q E s := by
 cases ty with
 | non => cases (show u = Value.none from rx); exact PySem.W.kia_one PySem.W.kitx_none I.kIn True.intro e (fun z => nomatch z) h
 | bl y => cases (show u = Value.bool y from rx); exact PySem.W.kia_one PySem.W.kitx_bool I.kIn True.intro e (fun z => nomatch z) h
 | int i => obtain ⟨t, q⟩ := (show ∃ t, u = Value.int i t from rx); cases q; exact PySem.W.kia_one PySem.W.kitx_int I.kIn True.intro e (fun z => nomatch z) h
 | str y => obtain ⟨t, q⟩ := (show ∃ t, u = Value.str y t from rx); cases q; exact PySem.W.kia_one PySem.W.kitx_str I.kIn True.intro e (fun z => nomatch z) h
 | flt y => obtain ⟨t, q⟩ := (show ∃ t, u = Value.float y t from rx); cases q; exact PySem.W.kia_one PySem.W.kitx_float I.kIn True.intro e (fun z => nomatch z) h
 | @lst a xs ea =>
   cases (show u = Value.ref a from rx)
   obtain ⟨_, _, n, _, h1⟩ := (show ObjOk X.prog X.w H s.heap a (.lst xs) from I.hok a _ ea)
   exact PySem.W.kia_one PySem.W.kitx_list I.kIn ⟨_, h1, rfl⟩ e (fun z => nomatch z) h
 | @frz a ob xs ea =>
   cases (show u = Value.ref a from rx)
   obtain ⟨_, _, _, n, _, h1⟩ := (show ObjOk X.prog X.w H s.heap a (.frz ob (.lst xs)) from I.hok a _ ea)
   exact PySem.W.kia_one PySem.W.kitx_list I.kIn ⟨_, h1, rfl⟩ e (fun z => nomatch z) h
 | @tup a xs ea =>
   cases (show u = Value.ref a from rx)
   obtain ⟨_, _, _, p⟩ := (show ObjOk X.prog X.w H s.heap a (.tup xs) from I.hok a _ ea)
   obtain ⟨o, h1, h2, _⟩ := p
   exact PySem.W.kia_one PySem.W.kitx_tuple I.kIn ⟨o, h1, h2⟩ e (fun z => nomatch z) h
 | @dK a kvs ea =>
   cases (show u = Value.ref a from rx)
   obtain ⟨_, _, vs, _, p⟩ := (show ObjOk X.prog X.w H s.heap a (.dK kvs) from I.hok a _ ea)
   obtain ⟨o, es, ep, h1, h2, _⟩ := p
   exact PySem.W.kia_one PySem.W.kitx_dict I.kIn ⟨o, h1, h2.1⟩ e (fun z => nomatch z) h
 | @dT a kvs ea =>
   cases (show u = Value.ref a from rx)
   obtain ⟨_, _, xs, _, o, es, ep, h1, h2, _⟩ := (show ObjOk X.prog X.w H s.heap a (.dT kvs) from I.hok a _ ea)
   exact PySem.W.kia_one PySem.W.kitx_dict I.kIn ⟨o, h1, h2.1⟩ e (fun z => nomatch z) h
 | @ins a C dx fs ea cl ha hn htk hm =>
   cases (show u = Value.ref a from rx)
   obtain ⟨mA, O, _⟩ := ins_get I.hok ea
   obtain ⟨od, J, _⟩ := O.look
   exact PySem.W.kia_one (PySem.W.kitx_own (cl.get _) cl.hd ha hn htk hm) I.kIn J e (fun z => nomatch z) h
end
end L2
namespace L2
open PySem PySem.Spec PyProof.Rows
structure Room (k : Nat) (A : Around) : Prop where
 hd : A.handled = none
 dp : A.depth + 1 * k + 5 < recursionLimit
 un : A.units + 16 * k + 200 < cLine
 gd : A.guards = some []
theorem Room.mono {j k : Nat} {A : Around} (r : Room k A) (h : j ≤ k) : Room j A := ⟨r.hd, by have := r.dp; omega, by have := r.un; omega, r.gd⟩
theorem Room.deeper {k : Nat} {A : Around} (r : Room (k + 1) A) (env : Env) : Room k (A.deeper env) :=
 ⟨r.hd, by have := r.dp; show A.depth + 1 + 1 * k + 5 < _; omega, by have := r.un; show A.units + 3 + 16 * k + 200 < _; omega, r.gd⟩
theorem make_depth {A : Around} {C : Addr} {us : List Value} {kw : List (Str × Value)} : (A.under (.builtin "type.__call__" ⟨.ref C :: us, kw⟩)).depth = A.depth + 1 := by
 first | rfl | simp [Around.under, Code.weight, Code.isCreation, Code.isGuard, Code.isCaller, Code.frames, Code.isFrame, guardIds]
theorem make_units {A : Around} {C : Addr} {us : List Value} {kw : List (Str × Value)} : (A.under (.builtin "type.__call__" ⟨.ref C :: us, kw⟩)).units = A.units + 1 := by
 first | rfl | simp [Around.under, Code.cUnits, Code.frames, Code.isFrame]
theorem make_guards {A : Around} {C : Addr} {us : List Value} {kw : List (Str × Value)} : (A.under (.builtin "type.__call__" ⟨.ref C :: us, kw⟩)).guards = A.guards := by
 have e : (Code.builtin "type.__call__" ⟨.ref C :: us, kw⟩).guards = [] := by first | rfl | simp [Code.guards, Code.isGuard, guardIds]
 simp only [Around.under, e, pushGuards]
theorem Room.make {k : Nat} {A : Around} (r : Room (k + 1) A) (C : Addr) (us : List Value) (kw : List (Str × Value)) : Room k (A.under (.builtin "type.__call__" ⟨.ref C :: us, kw⟩)) :=
 ⟨r.hd, by have := r.dp; rw [make_depth]; omega, by have := r.un; rw [make_units]; omega, by rw [make_guards]; exact r.gd⟩
theorem Room.depth {k : Nat} {A : Around} (r : Room k A) : A.depth < recursionLimit := by have := r.dp; omega
theorem Room.units {k : Nat} {A : Around} (r : Room k A) : A.units + 64 < cLine := by have := r.un; omega
def tNil : TA := fun _ H Q => Q [] H
def tCons (ta : TE) (tr : TA) : TA := fun σ H Q => ta σ H fun x H1 => tr σ H1 fun xs H2 => Q (x :: xs) H2
section
variable {X : Cx} {e : Expr} {es : List Expr} {te : TE} {t : TA} {pos : Pos}
theorem pa_nil : PA X [] tNil := fun _ _ _ _ H Q I h => Calls.spliced_nil ⟨[], H, I, .nil, h⟩
theorem pa_cons (ha : PE X e te) (hr : PA X es t) (hs : starEach (e :: es) X.env = (false, eval e X.env) :: starEach es X.env := by rfl) : PA X (e :: es) (tCons te t) := by
 intro pos pins s σ H Q I h
 rw [hs]
 show wpAny _ _ (spliced ((false, eval e X.env) :: backTo pos (starEach es X.env))) _ _ s
 refine Calls.spliced_cons (thn (ha pins s σ H _ I h) fun u s1 ⟨x, H1, I1, r1, q1⟩ => ?_)
 exact thn (hr pos pins s1 σ H1 _ I1 q1) fun us s2 ⟨xs, H2, I2, r2, q2⟩ => ⟨x :: xs, H2, I2, .cons r1 r2, q2⟩
def tTup (t : TA) : TE := fun σ H Q => t σ H fun xs H1 => xs.length ≤ sizeLine ∧ ∀ p, H1 p = none → Q (.ref p) (upd H1 p (.tup xs))
def tLst (t : TA) : TE := fun σ H Q => t σ H fun xs H1 => xs.length ≤ sizeLine ∧ ∀ p, H1 p = none → Q (.ref p) (upd H1 p (.lst xs))
theorem pe_tup {x1} (h : PA X es t) : PE X (.Tuple es x1 pos) (tTup t) := by
 intro pins s σ H Q I hq
 refine wpAny_Tuple_spliced (thn (h pos pins s σ H _ I hq) fun us s1 ⟨xs, H1, I1, r, z, q⟩ => ⟨by rw [← r.length]; exact z, ?_⟩)
 have hf : H1 s1.heap.objs.size = none := I1.hok.fresh (Nat.le_refl _)
 refine ⟨.ref s1.heap.objs.size, upd H1 s1.heap.objs.size (.tup xs), I1.laid (t' := s1.toks) (fun b u e => Heap.get?_push_of_some _ e) (Nat.le_refl _) ?_, rfl, q _ hf⟩
 exact ⟨z, us, r, ⟨_, Heap.get?_push_size _ rfl, rfl, _, rfl⟩⟩
theorem pe_lst (h : PA X es t) : PE X (.List es pos) (tLst t) := by
 intro pins s σ H Q I hq
 refine wpAny_List_spliced (thn (h pos pins s σ H _ I hq) fun us s1 ⟨xs, H1, I1, r, z, q⟩ => ⟨by rw [← r.length]; exact z, ?_⟩)
 have hf : H1 s1.heap.objs.size = none := I1.hok.fresh (Nat.le_refl _)
 refine ⟨.ref s1.heap.objs.size, upd H1 s1.heap.objs.size (.lst xs), I1.laid (t' := s1.toks) (fun b u e => Heap.get?_push_of_some _ e) (Nat.le_refl _) ?_, rfl, q _ hf⟩
 exact ⟨z, us, 0, r, Heap.get?_push_size _ rfl⟩
end
abbrev Sp := List V → Hp → VK → XK → Prop
abbrev CXT := List Env → Hp → Shared → XK → Value → Shared → Prop
structure Env0 (P : Program) (w : World) (K : PySem.W.Frag) (mg : Str → Option Value) (base : Heap) (A : Around) (outer : List Env) (s : Shared) (H : Hp) : Prop where
 frames : A.frames = some outer
 mod : Mod K mg base
 bs : ∀ b o, base.get? b = some o → s.heap.get? b = some o ∧ H b = none
 bsz : base.objs.size ≤ s.heap.objs.size
 funs : s.heap.FunFrames base outer
 frf : ∀ b ∈ frs outer, H b = none
 hok : HOk P w H s.heap
 bare : AllBare s.gens
def CE (outer : List Env) (P : Program) (w : World) (H : Hp) (s : Shared) (Q : VK) (u : Value) (s' : Shared) : Prop :=
 ∃ v H', s'.os = s.os ∧ AllBare s'.gens ∧ Un (frs outer) [] H H' s.heap s'.heap ∧ HOk P w H' s'.heap ∧ RelV v u ∧ Q v H'
def CR (CX : CXT) (outer : List Env) (P : Program) (w : World) (H : Hp) (s : Shared) (Q : VK) (E : XK) (r : Result) (s' : Shared) : Prop :=
 match r with
 | .ok (.ret u) => CE outer P w H s Q u s'
 | .ok _ => False
 | .error e => CX outer H s E e s'
structure FnOk (P : Program) (w : World) (K : PySem.W.Frag) (mg : Str → Option Value) (base : Heap) (CX : CXT) (k : Nat) (f : Addr) (fd : FuncData) (ps : List Str) (sp : Sp) : Prop where
 len : ∀ vs H Q E, sp vs H Q E → vs.length = ps.length
 run : ∀ (A : Around) (outer : List Env) (s : Shared) (H : Hp) (args : Args) (us : List Value) (vs : List V) (Q : VK) (E : XK), Room k A → Env0 P w K mg base A outer s H → BindsTo s fd args (ps.zip us) → Vals vs us → sp vs H Q E →
   codeAny (model P w) A (.call (.ref f) args) (CR CX outer P w H s Q E) s
theorem FnOk.mono {P : Program} {w : World} {K : PySem.W.Frag} {mg : Str → Option Value} {base : Heap} {CX : CXT} {j k : Nat} {f : Addr} {fd : FuncData} {ps : List Str} {sp : Sp} (F : FnOk P w K mg base CX j f fd ps sp) (h : j ≤ k) :
   FnOk P w K mg base CX k f fd ps sp := ⟨F.len, fun A outer s H args us vs Q E hr => F.run A outer s H args us vs Q E (hr.mono h)⟩
theorem Env0.make {P : Program} {w : World} {K : PySem.W.Frag} {mg : Str → Option Value} {base : Heap} {A : Around} {outer : List Env} {s : Shared} {H : Hp} (e : Env0 P w K mg base A outer s H) (C : Addr) (us : List Value) (kw : List (Str × Value)) :
   Env0 P w K mg base (A.under (.builtin "type.__call__" ⟨.ref C :: us, kw⟩)) outer s H := ⟨by first | exact e.frames | (simpa [Around.under, Code.envs, Code.isFrame, pushEnvs] using e.frames), e.mod, e.bs, e.bsz, e.funs, e.frf, e.hok, e.bare⟩
section
variable {X : Cx} {pins : List (Addr × Obj)} {σ : St} {H : Hp} {s s' : Shared}
theorem Inv.env0 (I : Inv X pins σ H s) : Env0 X.prog X.w X.K X.mg X.base X.A X.stack s H :=
 ⟨I.ok.frames, I.ok.mod, I.bs, Nat.le_trans I.ok.bsz I.sz, I.stack, I.stkFree, I.hok, I.bare⟩
theorem Inv.after {Q : VK} {u : Value} (I : Inv X pins σ H s) (h : CE X.stack X.prog X.w H s Q u s') : EP X pins σ Q u s' := by
 obtain ⟨v, H', os, bare, un, hok, r, q⟩ := h
 obtain ⟨hh, g, d, t, os'⟩ := s'
 obtain rfl : os' = s.os := os
 exact ⟨v, H', I.call (h' := hh) (g' := g) (d' := d) (t' := t) (ch := []) un hok bare (fun b z => absurd z (by simp)), r, q⟩
end
def tCall (sp : Sp) (dvs : List V) (E : XK) (t : TA) : TE := fun σ H Q => t σ H fun vs H1 => sp (vs ++ dvs) H1 Q E
def tMake (C : Addr) (sp : Sp) (dvs : List V) (E : XK) (t : TA) : TE := fun σ H Q => t σ H fun vs H1 => ∀ x dx, H1 x = none → H1 dx = none → dx ≠ x →
 sp (.ref x :: (vs ++ dvs)) (upd (upd H1 dx (.own x)) x (.ins C dx [])) (fun v H2 => v = .non ∧ Q (.ref x) H2) E
def Binds (K : PySem.W.Frag) (fd : FuncData) (ps : List Str) (ds : List Value) : Prop :=
 ∀ (s : Shared) (us : List Value), K.In s.heap → (us ++ ds).length = ps.length → BindsTo s fd ⟨us, []⟩ (ps.zip (us ++ ds))
theorem Binds.all {K : PySem.W.Frag} {fd : FuncData} {ps : List Str} (h : ∀ us : List Value, us.length = ps.length → bindArgs fd ⟨us, []⟩ = pure (ps.zip us)) : Binds K fd ps [] := fun s us _ hl => by
 rw [List.append_nil] at hl ⊢
 exact .of_eq (h us hl)
def Passes (CX : CXT) (X : Cx) (E : XK) : Prop := ∀ (pins : List (Addr × Obj)) (σ : St) (H : Hp) (s : Shared) (e : Value) (s' : Shared), Inv X pins σ H s → CX X.stack H s E e s' → X.xe e s'
section
variable {X : Cx} {CX : CXT} {k : Nat} {f C : Addr} {fd : FuncData} {ps : List Str} {sp : Sp} {dvs : List V} {ds : List Value} {E : XK} {x m : Str} {p pos apos : Pos} {e o : Expr} {es : List Expr} {ta : TE} {t : TA}
theorem run_fn {pins : List (Addr × Obj)} {σ : St} {H : Hp} {s : Shared} {Q : VK} {us : List Value} {vs : List V} (F : FnOk X.prog X.w X.K X.mg X.base CX k f fd ps sp) (hr : Room k X.A) (hb : Binds X.K fd ps ds) (hd : Vals dvs ds) (hx : Passes CX X E)
   (I : Inv X pins σ H s) (r : Vals vs us) (h : sp (vs ++ dvs) H Q E) : wpAny (model X.prog X.w) X.A (call (.ref f) us) (EP X pins σ Q) X.xe s := by
 have r2 : Vals (vs ++ dvs) (us ++ ds) := r.append hd
 have hl : (us ++ ds).length = ps.length := by rw [← r2.length]; exact F.len _ _ _ _ h
 refine wpAny_call (codeAny_mono (F.run X.A X.stack s H ⟨us, []⟩ (us ++ ds) (vs ++ dvs) Q E hr I.env0 (hb s us I.kIn hl) r2 h) fun r s' hq => ?_)
 cases r with
 | error e => exact hx pins σ H s e s' I hq
 | ok fl =>
   cases fl with
   | ret u => exact I.after hq
   | next => exact False.elim hq
   | brk => exact False.elim hq
   | cont => exact False.elim hq
theorem pe_call (F : FnOk X.prog X.w X.K X.mg X.base CX k f fd ps sp) (hr : Room k X.A) (hg : Gl X x) (hm : X.mg x = some (.ref f)) (hk : PySem.W.keepIn X.K (.ref f) = true) (hb : Binds X.K fd ps ds) (hd : Vals dvs ds) (hx : Passes CX X E)
   (ha : PA X (e :: es) t) (hdb : (x == ("__debug__" : Str)) = false := by decide) (he : starEach (e :: es) X.env = (false, eval e X.env) :: starEach es X.env := by rfl) (hpl : (backTo pos (starEach es X.env)).any (·.1) = false := by rfl) :
   PE X (.Call (.Name x p) (e :: es) [] pos) (tCall sp dvs E t) := by
 intro pins s σ H Q I h
 refine wpAny_Call_Name_kw (ld_glob I hg hm ?_ hdb)
 refine PySem.W.callWith_K (h₀ := X.base) I.ok.mod.kin hk (thn (ha pos pins s σ H _ I h) fun us s1 ⟨vs, H1, I1, r, q⟩ => ⟨I1.kIn, ?_⟩) he hpl
 exact run_fn F hr hb hd hx I1 r q
structure Mk (K : PySem.W.Frag) (C f : Addr) : Prop where
 makes : PySem.W.makesIn K C = true
 init : PySem.W.findIn K (.ref C) "__init__" = some (some (.ref f))
 fn : PySem.W.isFn K (.ref f) = true
 kp : PySem.W.keepIn K (.ref C) = true
theorem run_make {pins : List (Addr × Obj)} {σ : St} {H : Hp} {s : Shared} {Q : VK} {us : List Value} {vs : List V} (M : Mk X.K C f) (F : FnOk X.prog X.w X.K X.mg X.base CX k f fd ps sp) (hr : Room (k + 1) X.A) (hb : Binds X.K fd ps ds) (hd : Vals dvs ds)
   (hx : Passes CX X E) (I : Inv X pins σ H s) (r : Vals vs us)
   (h : ∀ x dx, H x = none → H dx = none → dx ≠ x → sp (.ref x :: (vs ++ dvs)) (upd (upd H dx (.own x)) x (.ins C dx [])) (fun v H2 => v = .non ∧ Q (.ref x) H2) E) :
   wpAny (model X.prog X.w) X.A (call (.ref C) us) (EP X pins σ Q) X.xe s := by
 have hq := h (s.heap.objs.size + 1) s.heap.objs.size (I.hok.fresh (Nat.le_succ _)) (I.hok.fresh (Nat.le_refl _)) (Nat.ne_of_lt (Nat.lt_succ_self _))
 have I2 := Inv.made (C := C) I
 have r2 : Vals (V.ref (s.heap.objs.size + 1) :: (vs ++ dvs)) (Value.ref (s.heap.objs.size + 1) :: (us ++ ds)) := .cons rfl (r.append hd)
 have hl : (Value.ref (s.heap.objs.size + 1) :: us ++ ds).length = ps.length := by
   have e := r2.length
   rw [F.len _ _ _ _ hq] at e
   exact e.symm
 refine wpAny_call (make_map (f := f) I.kIn M.makes M.init (beq_iff_eq.mp M.fn) (codeAny_mono (F.run _ X.stack _ _ ⟨Value.ref (s.heap.objs.size + 1) :: us, []⟩ (Value.ref (s.heap.objs.size + 1) :: (us ++ ds)) _ _ E (hr.make C us [])
   (I2.env0.make C us []) (hb _ (Value.ref (s.heap.objs.size + 1) :: us) I2.kIn hl) r2 hq) fun r s' hq' => ?_))
 cases r with
 | error e => exact hx pins σ _ _ e s' I2 hq'
 | ok fl =>
   cases fl with
   | ret u =>
     obtain ⟨v, H', I3, rv, ev, q3⟩ := I2.after hq'
     subst ev
     exact ⟨rv, ⟨V.ref (s.heap.objs.size + 1), H', I3, rfl, q3⟩⟩
   | next => exact False.elim hq'
   | brk => exact False.elim hq'
   | cont => exact False.elim hq'
theorem pe_make (M : Mk X.K C f) (F : FnOk X.prog X.w X.K X.mg X.base CX k f fd ps sp) (hr : Room (k + 1) X.A) (hg : Gl X x) (hm : X.mg x = some (.ref C)) (hb : Binds X.K fd ps ds) (hd : Vals dvs ds) (hx : Passes CX X E)
   (ha : PA X (e :: es) t) (hdb : (x == ("__debug__" : Str)) = false := by decide) (he : starEach (e :: es) X.env = (false, eval e X.env) :: starEach es X.env := by rfl) (hpl : (backTo pos (starEach es X.env)).any (·.1) = false := by rfl) :
   PE X (.Call (.Name x p) (e :: es) [] pos) (tMake C sp dvs E t) := by
 intro pins s σ H Q I h
 refine wpAny_Call_Name_kw (ld_glob I hg hm ?_ hdb)
 refine PySem.W.callWith_K (h₀ := X.base) I.ok.mod.kin M.kp (thn (ha pos pins s σ H _ I h) fun us s1 ⟨vs, H1, I1, r, q⟩ => ⟨I1.kIn, ?_⟩) he hpl
 exact run_make M F hr hb hd hx I1 r q
end
section
variable {X : Cx} {CX : CXT} {k : Nat} {f C : Addr} {fd : FuncData} {ps ks : List Str} {sp : Sp} {E : XK} {x m : Str} {p pos apos kpos : Pos} {e o : Expr} {es : List Expr} {kws : List Keyword} {te ta : TE} {t tk : TA} {nm : Option Str}
variable {g : List Value → List Value → List Value} {gV : List V → List V → List V}
end
structure FnScope (N P : List Str) (sc : Scope) : Prop where
 kind : sc.kind = .function
 co : sc.isCoroutine = false
 gen : sc.isGenerator = false
 nd : N.Nodup
 pre : N.take P.length = P
 par : ∀ x ∈ P, sc.names.lookup x = some .local ∨ sc.names.lookup x = some .cell
 nofree : ∀ y ∈ sc.names, y.2 ≠ .free
theorem bindL_out {kindOf : Str → Option NameKind} {x : Str} : ∀ {binds : List (Str × Value)} {m : Str → Option Value}, (∀ v, (x, v) ∉ binds) → bindL kindOf binds m x = m x
 | [], _, _ => rfl
 | (n, v) :: r, m, h => by
   unfold bindL
   rw [bindL_out fun w hw => h w (List.mem_cons_of_mem _ hw)]
   split
   · have : x ≠ n := by rintro rfl; exact h v List.mem_cons_self
     simp [this]
   · rfl
theorem bindC_out {kindOf : Str → Option NameKind} {x : Str} : ∀ {binds : List (Str × Value)} {m : Str → Option Value}, (∀ v, (x, v) ∉ binds) → bindC kindOf binds m x = m x
 | [], _, _ => rfl
 | (n, v) :: r, m, h => by
   unfold bindC
   rw [bindC_out fun w hw => h w (List.mem_cons_of_mem _ hw)]
   split
   · rfl
   · have : x ≠ n := by rintro rfl; exact h v List.mem_cons_self
     simp [this]
theorem bindL_get {kindOf : Str → Option NameKind} {x : Str} {v : Value} : ∀ {P : List Str} {vs : List Value} {i : Nat} {m : Str → Option Value}, P.Nodup → P[i]? = some x → vs[i]? = some v → kindOf x = some .local →
   bindL kindOf (P.zip vs) m x = some v
 | [], _, _, _, _, h, _, _ => by simp at h
 | _ :: _, [], _, _, _, _, h, _ => by simp at h
 | p :: P, w :: vs, 0, m, nd, h1, h2, hk => by
   simp at h1 h2; subst h1; subst h2
   show bindL kindOf ((p, w) :: P.zip vs) m p = _
   unfold bindL
   rw [bindL_out fun v hv => (List.nodup_cons.mp nd).1 (List.of_mem_zip hv).1, if_pos hk]
   simp
 | p :: P, w :: vs, i + 1, m, nd, h1, h2, hk => by
   show bindL kindOf ((p, w) :: P.zip vs) m x = _
   unfold bindL
   exact bindL_get (i := i) (List.nodup_cons.mp nd).2 (by simpa using h1) (by simpa using h2) hk
theorem bindC_get {kindOf : Str → Option NameKind} {x : Str} {v : Value} : ∀ {P : List Str} {vs : List Value} {i : Nat} {m : Str → Option Value}, P.Nodup → P[i]? = some x → vs[i]? = some v → kindOf x ≠ some .local →
   bindC kindOf (P.zip vs) m x = some v
 | [], _, _, _, _, h, _, _ => by simp at h
 | _ :: _, [], _, _, _, _, h, _ => by simp at h
 | p :: P, w :: vs, 0, m, nd, h1, h2, hk => by
   simp at h1 h2; subst h1; subst h2
   show bindC kindOf ((p, w) :: P.zip vs) m p = _
   unfold bindC
   rw [bindC_out fun v hv => (List.nodup_cons.mp nd).1 (List.of_mem_zip hv).1, if_neg hk]
   simp
 | p :: P, w :: vs, i + 1, m, nd, h1, h2, hk => by
   show bindC kindOf ((p, w) :: P.zip vs) m x = _
   unfold bindC
   exact bindC_get (i := i) (List.nodup_cons.mp nd).2 (by simpa using h1) (by simpa using h2) hk
def start (N : List Str) (vs : List V) : St := vs.map some ++ List.replicate (N.length - vs.length) none
def cxOf (CX : CXT) (P : Program) (w : World) (K : PySem.W.Frag) (mg : Str → Option Value) (base : Heap) (N : List Str) (qual : Str) (scope : Scope) (f : Addr) (cd : Value) (A : Around) (outer : List Env) (s : Shared) (H : Hp) (E : XK) : Cx where
 prog := P
 w := w
 K := K
 mg := mg
 base := base
 A := A.deeper (envOfC qual scope s.heap.objs.size f cd)
 N := N
 s₀ := s
 H₀ := H
 env := envOfC qual scope s.heap.objs.size f cd
 outer := outer
 stack := envOfC qual scope s.heap.objs.size f cd :: outer
 ex := []
 calm := true
 fn := fun _ => true
 pn := []
 xe := fun e s' => wpAny (model P w) (A.deeper (envOfC qual scope s.heap.objs.size f cd)) (leaving (envOfC qual scope s.heap.objs.size f cd) e) (fun _ s'' => CX outer H s E e s'') (fun e' s'' => CX outer H s E e' s'') s'
theorem cell_has {sc : Scope} {n : Nat} {x : Str} (h : sc.names.lookup x = some .cell) : ∃ c, (cellsFrom n sc.names []).lookup x = some c := by
 have q := PySem.W.cellsFrom_some sc.names n [] (.inl h)
 exact Option.isSome_iff_exists.mp q
theorem inv_start {CX : CXT} {P : Program} {w : World} {K : PySem.W.Frag} {mg : Str → Option Value} {base : Heap} {N ps : List Str} {qual : Str} {scope : Scope} {f : Addr} {cd : Value} {A : Around} {outer : List Env} {s s1 : Shared} {H : Hp} {E : XK} {us : List Value} {vs : List V}
   (S : FnScope N ps scope) (hd : A.handled = none) (e0 : Env0 P w K mg base A outer s H) (hl : vs.length = ps.length) (r : Vals vs us)
   (x : InCallC s s.heap.objs.size (bindL (envOfC qual scope s.heap.objs.size f cd).kindOf (ps.zip us) fun _ => none) (cellsFrom (s.heap.objs.size + 1) scope.names []) (bindC (envOfC qual scope s.heap.objs.size f cd).kindOf (ps.zip us) fun _ => none) s1) :
   Inv (cxOf CX P w K mg base N qual scope f cd A outer s H E) [] (start N vs) H s1 := by
 have hpl : ps.length ≤ N.length := by have := congrArg List.length S.pre; rw [List.length_take] at this; omega
 obtain ⟨h1, tk, rfl, hk⟩ := x.done
 have noA : ∀ b : Addr, b ∉ (cxOf CX P w K mg base N qual scope f cd A outer s H E).ex := fun b z => absurd (show b ∈ ([] : List Addr) from z) (by simp)
 refine ⟨⟨e0.mod, S.kind, rfl, rfl, Nat.le_refl _, fun y z c h1 h2 => ?_, fun y hy => ?_, fun y c _ h => ?_, fun _ => hd, Around.frames_deeper e0.frames, .inr ⟨rfl, rfl⟩, fun b z => absurd z (noA b), e0.bs, e0.bsz, fun b _ _ => noA b, fun b z => absurd z (noA b), e0.funs, e0.frf⟩,
   rfl, e0.bare, Un.kept hk, ⟨_, x.toInCall.ns, fun i y v h1 h2 h3 => ?_⟩, fun y c h => ⟨_, x.cell y c h⟩, e0.hok.fresh (Nat.le_refl _), fun y c h => ?_, fun p hp => absurd (show p ∈ ([] : List (Addr × Obj)) from hp) (by simp), e0.hok.kept hk, ?_⟩
 · exact name_of_addr x.apart (PySem.mem_of_lookup h1) (PySem.mem_of_lookup h2)
 · have hy : scope.names.lookup y = some .cell ∨ scope.names.lookup y = some .free := hy
   rcases hy with hy | hy
   · exact cell_has hy
   · exact absurd rfl (S.nofree _ (PySem.mem_of_lookup hy))
 · exact Nat.le_of_lt (x.above y c (PySem.mem_of_lookup h))
 · have hi : i < vs.length := by
     unfold start at h2
     by_cases hi : i < vs.length
     · exact hi
     · rw [List.getElem?_append_right (by simpa using hi)] at h2
       rw [List.getElem?_replicate] at h2
       split at h2 <;> cases h2
   have ha : vs[i]? = some v := by
     unfold start at h2
     rw [List.getElem?_append_left (by simpa using hi), List.getElem?_map] at h2
     cases e : vs[i]? with
     | none => rw [e] at h2; cases h2
     | some a => rw [e] at h2; cases h2; rfl
   obtain ⟨u, hu, rv⟩ := r.get ha
   have hp : ps[i]? = some y := by
     rw [← S.pre, List.getElem?_take_of_lt (by omega)]; exact h1
   have ndP : ps.Nodup := by rw [← S.pre]; exact S.nd.sublist (List.take_sublist _ _)
   refine ⟨u, rv, ?_⟩
   rcases S.par y (List.mem_of_getElem? hp) with k | k
   · exact .inl ⟨k, bindL_get ndP hp hu k⟩
   · obtain ⟨c, e⟩ := cell_has (n := s.heap.objs.size + 1) k
     refine .inr ⟨.inl k, c, e, ?_⟩
     have q := x.cell y c e
     rw [bindC_get ndP hp hu (by show scope.names.lookup y ≠ _; rw [k]; decide)] at q
     exact q
 · exact e0.hok.fresh (Nat.le_of_lt (x.above y c (PySem.mem_of_lookup h)))
 · unfold start
   show _ = N.length
   rw [List.length_append, List.length_map, List.length_replicate]
   omega
theorem fn_of {CX : CXT} {P : Program} {w : World} {K : PySem.W.Frag} {mg : Str → Option Value} {base : Heap} {k : Nat} {f : Addr} {name qual : Str} {params : Arguments} {body : List Stmt} {scope : Scope} {dV kV doc pm cdv ct oc : Value} {an od : Option Addr}
   {osl : Array (Option Value)} {N ps : List Str} {sp : Sp} (lk : K.lookup f = some ⟨oc, od, .func (PySem.W.fnOf name qual params body scope dV kV doc pm an cdv ct), osl⟩) (hcd : PySem.W.codeIn K cdv qual = true) (S : FnScope N ps scope)
   (len : ∀ vs H Q E, sp vs H Q E → vs.length = ps.length)
   (hbody : ∀ (A : Around) (outer : List Env) (s : Shared) (H : Hp) (vs : List V) (Q : VK) (E : XK), Room k (A.deeper (envOfC qual scope s.heap.objs.size f cdv)) → sp vs H Q E →
     ∃ t, PSs (cxOf CX P w K mg base N qual scope f cdv A outer s H E) body t ∧ t { nx := fun _ H' => Q .non H', rt := Q } (start N vs) H) :
   FnOk P w K mg base CX (k + 1) f (PySem.W.fnOf name qual params body scope dV kV doc pm an cdv ct) ps sp := by
 refine ⟨len, fun A outer s H args us vs Q E hr e0 hb r hsp => ?_⟩
 have hl := len _ _ _ _ hsp
 have KX : K.In s.heap := e0.mod.kin.keeps fun b o e => (e0.bs b o e).1
 have lim : s.heap.NoLimit := e0.mod.nolimit.keeps fun b o e => (e0.bs b o e).1
 have hkind : ∀ y ∈ ps.zip us, scope.names.lookup y.1 = some .local ∨ (scope.names.lookup y.1 = some .cell ∧ ((cellsFrom (s.heap.objs.size + 1) scope.names []).lookup y.1).isSome = true) := fun ⟨n, v⟩ hy => by
   rcases S.par n (List.of_mem_zip hy).1 with q | q
   · exact .inl q
   · exact .inr ⟨q, PySem.W.cellsFrom_some _ _ _ (.inl q)⟩
 refine codeAny_call_function hr.depth (KX _ _ lk) rfl S.co S.gen rfl (PySem.W.codeRec_of KX hcd) (hb _ _ _ _ ?_)
 refine wpAny_newFunctionEnv_cells S.kind hkind fun env he s1 x => ?_
 subst he
 refine ⟨lim.keeps x.toInCall.keep, codeAny_func ?_⟩
 obtain ⟨t, ht, hq⟩ := hbody A outer s H vs Q E (hr.deeper _) hsp
 have I : Inv (cxOf CX P w K mg base N qual scope f cdv A outer s H E) [] (start N vs) H s1 := inv_start S hr.hd e0 hl r x
 refine wpAny_mono (ht [] s1 (start N vs) H _ I hq) (fun fl s' hs => ?_) fun e s' hs => hs
 have fin : ∀ {σ' : St} {H' : Hp} {v : V} {u : Value}, Inv (cxOf CX P w K mg base N qual scope f cdv A outer s H E) [] σ' H' s' → RelV v u → Q v H' → CE outer P w H s Q u s' :=
   fun {σ' H' v u} J rv q => ⟨v, H', J.os, J.bare, J.base, J.hok, rv, q⟩
 cases fl with
 | ret u =>
   obtain ⟨v, σ', H', J, rv, q⟩ := hs
   exact fin J rv q
 | next =>
   obtain ⟨σ', H', J, q⟩ := hs
   exact fin (v := V.non) (u := Value.none) J rfl q
 | brk =>
   obtain ⟨_, _, _, q⟩ := hs
   exact False.elim q
 | cont =>
   obtain ⟨_, _, _, q⟩ := hs
   exact False.elim q
end L2
namespace L2
open PySem PySem.Spec PyProof.Rows
section
variable {X : Cx} {x : Str} {p pos : Pos} {e : Expr} {es : List Expr} {t : TA} {id T : String} {r : List V → Hp → VK → Prop}
def tCB (r : List V → Hp → VK → Prop) (t : TA) : TE := fun σ H Q => t σ H fun vs H1 => r vs H1 Q
theorem pe_callB (hc : CallR X (.builtin id) r) (hg : Gl X x) (hm : X.mg x = none) (hv : bootBuiltins x = some (.builtin id)) (ha : PA X (e :: es) t) (hn : x ≠ "__name__" := by decide) (hdb : (x == ("__debug__" : Str)) = false := by decide)
   (he : starEach (e :: es) X.env = (false, eval e X.env) :: starEach es X.env := by rfl) (hpl : (backTo pos (starEach es X.env)).any (·.1) = false := by rfl) : PE X (.Call (.Name x p) (e :: es) [] pos) (tCB r t) := by
 intro pins s σ H Q I h
 refine wpAny_Call_Name_kw (ld_blt I hg hm hv ?_ hn hdb)
 exact PyProof.Rows.callWith_builtin1 (thn (ha pos pins s σ H _ I h) fun us s1 ⟨vs, H1, I1, r1, q1⟩ => hc pins s1 σ H1 vs us Q I1 r1 q1) he hpl
theorem pe_callTy (hc : CallR X (.type T) r) (hg : Gl X x) (hm : X.mg x = none) (hv : bootBuiltins x = some (.type T)) (ha : PA X (e :: es) t) (hn : x ≠ "__name__" := by decide) (hdb : (x == ("__debug__" : Str)) = false := by decide)
   (he : starEach (e :: es) X.env = (false, eval e X.env) :: starEach es X.env := by rfl) (hpl : (backTo pos (starEach es X.env)).any (·.1) = false := by rfl) : PE X (.Call (.Name x p) (e :: es) [] pos) (tCB r t) := by
 intro pins s σ H Q I h
 refine wpAny_Call_Name_kw (ld_blt I hg hm hv ?_ hn hdb)
 exact PyProof.Rows.callWith_type1 (thn (ha pos pins s σ H _ I h) fun us s1 ⟨vs, H1, I1, r1, q1⟩ => hc pins s1 σ H1 vs us Q I1 r1 q1) he hpl
end
end L2
namespace HT
open PySem PyProof.Rows
section
open PySem.SeqAt
open PySem.AutoSeq1 (wpAny_loadPart')
open PySem.MeetsSeq PySem.MeetsSeq2 PySem.MeetsSeq3
end
section
variable {prog : Program} {w : World} {A : Around} {E : Value → Shared → Prop} {s : Shared}
theorem cat_tup {t b : Addr} {vs ws : List Value} {Q : Value → Shared → Prop} (ht : IsTup s.heap t vs.toArray) (hb : IsTup s.heap b ws.toArray) (hv : vs ≠ [])
   (h1 : ws = [] → Q (.ref t) s) (h2 : ws ≠ [] → Q (.ref s.heap.objs.size) { s with heap := s.heap.push { cls := .type "tuple", data := .seq (vs ++ ws).toArray } })
   (hsz : vs.length + ws.length ≤ sizeLine) : wpAny (model prog w) A (binaryOp .Add (.ref t) (.ref b)) Q E s := by
 obtain ⟨⟨cls, dd, data, sl⟩, ho, hc, n, hd⟩ := id ht
 obtain ⟨⟨cls2, dd2, data2, sl2⟩, ho2, hc2, n2, hd2⟩ := id hb
 simp only at hc hd hc2 hd2
 subst hc hd hc2 hd2
 have e : vs.toArray ++ ws.toArray = (vs ++ ws).toArray := by simp
 by_cases hw : ws = []
 · exact concat_meets ⟨_, ho, rfl⟩ ⟨_, ho2, rfl⟩ noFill_tuple_add seq_tuple_add PySem.F.slot_tuple_add PySem.F.entry_tuple_add (PySem.F.args_tuple_add_2 _ _)
     (tuple_addW1 t b vs.toArray ws.toArray n n2 dd dd2 sl sl2 (by simpa using hv) (by simp [hw])) ⟨ho, ho2, h1 hw⟩
 · refine concat_meets ⟨_, ho, rfl⟩ ⟨_, ho2, rfl⟩ noFill_tuple_add seq_tuple_add PySem.F.slot_tuple_add PySem.F.entry_tuple_add (PySem.F.args_tuple_add_2 _ _)
     (tuple_addW2 t b vs.toArray ws.toArray n n2 dd dd2 sl sl2 (by simpa using hv) (by simpa using hw) (by rw [List.size_toArray, List.size_toArray]; exact hsz)) ⟨ho, ho2, ?_⟩
   rw [e]
   exact h2 hw
def sIx (n d : Nat) : Option Int → Nat
 | none => d
 | some v => if v < 0 then (v + (n : Int)).toNat else min v.toNat n
theorem sIx_nat (n d k : Nat) : sIx n d (some (k : Int)) = min k n := by
 show (if (k : Int) < 0 then ((k : Int) + (n : Int)).toNat else min (k : Int).toNat n) = min k n
 rw [if_neg (by omega), Int.toNat_natCast]
theorem sIx_le (n d : Nat) (hd : d ≤ n) (o : Option Int) : sIx n d o ≤ n := by
 cases o with
 | none => exact hd
 | some v =>
   show (if v < 0 then (v + (n : Int)).toNat else min v.toNat n) ≤ n
   by_cases hv : v < 0
   · rw [if_pos hv]; omega
   · rw [if_neg hv]; exact Nat.min_le_right _ _
theorem clip_eq (v : Int) (n d : Nat) : (if v < 0 then max (v + (n : Int)) 0 else min v (n : Int)) = ((sIx n d (some v) : Nat) : Int) := by
 show (if v < 0 then max (v + (n : Int)) 0 else min v (n : Int)) = (((if v < 0 then (v + (n : Int)).toNat else min v.toNat n) : Nat) : Int)
 by_cases hv : v < 0
 · simp only [if_pos hv]; omega
 · simp only [if_neg hv]; omega
theorem adjust_gen (lo hi : Option Int) (n : Nat) : Builtin.Slice.sliceAdjust lo hi 1 (n : Int) = (((sIx n 0 lo : Nat) : Int), ((sIx n n hi : Nat) : Int)) := by
 have h1 : ¬ ((1 : Int) < 0) := by omega
 unfold Builtin.Slice.sliceAdjust
 simp only [h1, if_false]
 refine Prod.ext ?_ ?_
 · cases lo with
   | none => rfl
   | some v => exact clip_eq v n 0
 · cases hi with
   | none => rfl
   | some v => exact clip_eq v n n
theorem places_gen (i j : Nat) : Builtin.Slice.slicePlaces (i : Int) (j : Int) 1 = j - i := by
 unfold Builtin.Slice.slicePlaces
 have h1 : (1 : Int) > 0 := by omega
 simp only [h1, if_true, Int.ediv_one]
 split <;> omega
theorem slicePart_ {v : Value} {o : Option Int} {Q : Option Int → Shared → Prop} (p : IsPart v o) (h : Q o s) : wpAny (model prog w) A (Builtin.Slice.slicePartIndex v) Q E s := by
 cases p with
 | none => exact slicePart_none h
 | int i t => exact slicePart_int h
theorem sliceApplied_gen {sl : Addr} {vl vu : Value} {lo hi : Option Int} {n : Nat} {Q : Int × Int × Nat → Shared → Prop} (hs : s.heap.IsSliceOf sl vl vu .none) (pl : IsPart vl lo) (pu : IsPart vu hi)
   (h : Q (((sIx n 0 lo : Nat) : Int), 1, sIx n n hi - sIx n 0 lo) s) : wpAny (model prog w) A (Builtin.Slice.sliceApplied (.ref sl) (pure (n : Int))) Q E s := by
 obtain ⟨os, hos, hcs, hds⟩ := id hs
 unfold Builtin.Slice.sliceApplied Builtin.Slice.sliceFields
 refine wpAny_bind (wpAny_bind (wpAny_field hos hds (x := vl) rfl (wpAny_bind (wpAny_field hos hds (x := vu) rfl (wpAny_bind (wpAny_field hos hds (x := .none) rfl (wpAny_pure ?_)))))))
 refine wpAny_bind (slicePart_none ?_)
 show wpAny _ _ (if ((1 : Int) == 0) = true then _ else _) _ _ s
 rw [if_neg (by decide)]
 refine wpAny_bind (slicePart_ pl (wpAny_bind (slicePart_ pu (wpAny_bind (wpAny_pure ?_)))))
 show wpAny _ _ (match Builtin.Slice.sliceAdjust lo hi 1 (n : Int) with | (lo, hi) => pure (lo, (1 : Int), Builtin.Slice.slicePlaces lo hi 1)) _ _ s
 rw [adjust_gen lo hi n]
 show wpAny _ _ (pure (((sIx n 0 lo : Nat) : Int), (1 : Int), Builtin.Slice.slicePlaces ((sIx n 0 lo : Nat) : Int) ((sIx n n hi : Nat) : Int) 1)) _ _ s
 rw [places_gen]
 exact wpAny_pure h
theorem pick_gen (xs : Array Value) (i k : Nat) : ((List.range k).filterMap fun (m : Nat) => xs[((i : Int) + (m : Int) * 1).toNat]?).toArray = ((xs.toList.drop i).take k).toArray := by
 have e : (fun (m : Nat) => xs[((i : Int) + (m : Int) * 1).toNat]?) = fun m => xs[i + m]? := by
   funext m
   have : ((i : Int) + (m : Int) * 1).toNat = i + m := by omega
   rw [this]
 rw [e]
 have := pick_run xs i k
 rw [List.filterMap_map] at this
 have e2 : ((fun x => xs[x]?) ∘ fun x => i + x) = fun m => xs[i + m]? := rfl
 rw [e2] at this
 rw [this]
theorem getItem_tuple_cut {t sl : Addr} {items : Array Value} {vl vu : Value} {lo hi : Option Int} {Q : Value → Shared → Prop} (ht : IsTup s.heap t items) (hs : s.heap.IsSliceOf sl vl vu .none) (pl : IsPart vl lo) (pu : IsPart vu hi)
   (hw : ¬ (sIx items.size 0 lo = 0 ∧ sIx items.size items.size hi = items.size))
   (h : Q (.ref s.heap.objs.size) { s with heap := s.heap.push { cls := .type "tuple", data := .seq ((items.toList.drop (sIx items.size 0 lo)).take (sIx items.size items.size hi - sIx items.size 0 lo)).toArray } })
   (hsz : items.size ≤ sizeLine) : wpAny (model prog w) A (getItem (.ref t) (.ref sl)) Q E s := by
 have htake : sizeOk (.seq ((items.toList.drop (sIx items.size 0 lo)).take (sIx items.size items.size hi - sIx items.size 0 lo)).toArray) := by
   show ((items.toList.drop (sIx items.size 0 lo)).take (sIx items.size items.size hi - sIx items.size 0 lo)).toArray.size ≤ sizeLine
   rw [List.size_toArray, List.length_take, List.length_drop, Array.length_toList]
   omega
 have hj : sIx items.size items.size hi ≤ items.size := sIx_le _ _ (Nat.le_refl _) hi
 obtain ⟨os, hos, hcs, hds⟩ := id hs
 have hTs : s.TypeIs (.ref sl) "slice" := ⟨os, hos, hcs⟩
 unfold getItem
 try with_reducible refine wpAny_holding ?_
 first | refine wpAny_bind (wpAny_pure ?_) | skip
 refine wpAny_bind (wpAny_sequenceKey ht.typeIs (by decide) ?_)
 refine wpAny_bind (wpAny_callSpecial?_slot (name := Str.ofString "__getitem__") ht.typeIs PyProof.Rows.slot_tuple_getitem
   (wpAny_call_entry PyProof.Rows.slot_tuple_getitem ht.typeIs entry_tuple_getitem ?_ (args_tuple_getitem _ _)))
 show wpAny _ _ (Builtin.Tuple.tupleItemsOf (.ref t) >>= _) _ _ s
 refine wpAny_bind (tupleItemsOf_ ht ?_)
 refine wpAny_bind (wpAny_typeOf hTs ?_)
 rw [if_pos (by decide)]
 refine wpAny_bind (sliceApplied_gen hs pl pu ?_)
 have hno : ¬ ((((sIx items.size 0 lo : Nat) : Int) == 0 && (1 : Int) == 1 && (sIx items.size items.size hi - sIx items.size 0 lo) == items.size) = true) := by
   intro q
   rw [Bool.and_eq_true, Bool.and_eq_true] at q
   have q1 : ((sIx items.size 0 lo : Nat) : Int) = 0 := eq_of_beq q.1.1
   have q2 : sIx items.size items.size hi - sIx items.size 0 lo = items.size := eq_of_beq q.2
   exact hw ⟨by omega, by omega⟩
 show wpAny _ _ (if (((sIx items.size 0 lo : Nat) : Int) == 0 && (1 : Int) == 1 && (sIx items.size items.size hi - sIx items.size 0 lo) == items.size) = true then _ else _) _ _ s
 rw [if_neg hno, pick_gen]
 first
   | exact wpAny_bind (m := Builtin.Tuple.tupleExact _) (wpAny_newObj_type (wpAny_pure ⟨_, rfl, wpAny_pure h⟩) htake)
   | exact wpAny_bind (m := Builtin.Tuple.tupleExact _) (wpAny_newObj_type (wpAny_bind (wpAny_pure (wpAny_pure ⟨_, rfl, wpAny_pure h⟩))) htake)
   | exact wpAny_bind (wpAny_bind (m := Builtin.Tuple.tupleExact _) (wpAny_newObj_type (wpAny_pure (wpAny_pure ⟨_, rfl, wpAny_pure h⟩)) htake))
   | exact wpAny_bind (wpAny_bind (m := Builtin.Tuple.tupleExact _) (wpAny_newObj_type (wpAny_pure ⟨_, rfl, wpAny_pure h⟩) htake))
end
end HT
namespace L2
open PySem PySem.Spec PyProof.Rows
abbrev TO := St → Hp → (Option Int → Hp → Prop) → Prop
def PO (X : Cx) (e : Option Expr) (t : TO) : Prop :=
 ∀ (pins : List (Addr × Obj)) (s : Shared) (σ : St) (H : Hp) (Q : Option Int → Hp → Prop), Inv X pins σ H s → t σ H Q →
   wpAny (model X.prog X.w) X.A (evalPart e X.env) (fun u s' => ∃ o H', Inv X pins σ H' s' ∧ IsPart u o ∧ Q o H') X.xe s
def tNoPart : TO := fun _ H Q => Q none H
def tPart (t : TE) : TO := fun σ H Q => t σ H fun x H1 => ∃ i, x = .int i ∧ Q (some i) H1
section
variable {X : Cx} {e : Expr} {te : TE} {lo hi : Option Expr} {tl th : TO} {pos p2 : Pos}
theorem po_none : PO X none tNoPart := by
 intro pins s σ H Q I h
 rw [evalPart_none]
 exact wpAny_pure ⟨none, H, I, .none, h⟩
theorem po_some (h : PE X e te) : PO X (some e) (tPart te) := by
 intro pins s σ H Q I hw
 rw [evalPart_some]
 refine thn (h pins s σ H _ I hw) fun u s1 ⟨x, H1, I1, r1, q1⟩ => ?_
 obtain ⟨i, rfl, q⟩ := q1
 obtain ⟨t, rfl⟩ := r1
 exact ⟨some i, H1, I1, .int i t, q⟩
def SlR (X : Cx) (r : V → Option Int → Option Int → Hp → VK → Prop) : Prop :=
 ∀ (pins : List (Addr × Obj)) (s : Shared) (σ : St) (H : Hp) (x : V) (v vl vu : Value) (lo hi : Option Int) (sl : Addr) (Q : VK), Inv X pins σ H s → RelV x v → s.heap.IsSliceOf sl vl vu .none → IsPart vl lo → IsPart vu hi → r x lo hi H Q →
   ∃ T id, typeLookup (.type T) "__getitem__" = pure (some (.builtin id)) ∧ s.TypeIs v T ∧ wpAny (model X.prog X.w) X.A (getItem v (.ref sl)) (EP X pins σ Q) X.xe s
theorem SlR.or {r r' : V → Option Int → Option Int → Hp → VK → Prop} (h : SlR X r) (h' : SlR X r') : SlR X (fun x lo hi H Q => r x lo hi H Q ∨ r' x lo hi H Q) := by
 intro pins s σ H x v vl vu lo hi sl Q I rx hs pl pu q
 rcases q with q | q
 · exact h pins s σ H x v vl vu lo hi sl Q I rx hs pl pu q
 · exact h' pins s σ H x v vl vu lo hi sl Q I rx hs pl pu q
def tSl (r : V → Option Int → Option Int → Hp → VK → Prop) (te : TE) (tl th : TO) : TE := fun σ H Q => te σ H fun x H1 => tl σ H1 fun l H2 => th σ H2 fun u H3 => r x l u H3 Q
theorem pe_slice {r : V → Option Int → Option Int → Hp → VK → Prop} (hr : SlR X r) (he : PE X e te) (hl : PO X lo tl) (hu : PO X hi th) : PE X (.Subscript e (.Slice lo hi none p2) pos) (tSl r te tl th) := by
 intro pins s σ H Q I h
 refine Subscript_ (thn (he pins s σ H _ I h) fun v s1 ⟨x, H1, I1, r1, q1⟩ => ?_)
 refine wpAny_Slice (thn (hl pins s1 σ H1 _ I1 q1) fun vl s2 ⟨l, H2, I2, pl, q2⟩ => thn (hu pins s2 σ H2 _ I2 q2) fun vu s3 ⟨u, H3, I3, pu, q3⟩ => ?_)
 rw [evalPart_none]
 refine wpAny_pure ?_
 have I4 : Inv X pins σ H3 { s3 with heap := s3.heap.push { cls := .type "slice", data := .fields #[vl, vu, .none] } } := I3.kept (t' := s3.toks) fun b ob q => Heap.get?_push_of_some _ q
 obtain ⟨T, id, hT, ht, hg⟩ := hr pins { s3 with heap := s3.heap.push { cls := .type "slice", data := .fields #[vl, vu, .none] } } σ H3 x v vl vu l u s3.heap.objs.size Q I4 r1 (Heap.IsSliceOf.new ..) pl pu q3
 show wpAny (model X.prog X.w) X.A (subscriptTail e (.Slice lo hi none p2) v (.ref s3.heap.objs.size)) (EP X pins σ Q) X.xe { s3 with heap := s3.heap.push { cls := .type "slice", data := .fields #[vl, vu, .none] } }
 exact tail_any (ops := [.ref s3.heap.objs.size, v]) ht hT hg (by with_unfolding_all rfl)
def cutV (xs : List V) (lo hi : Option Int) : List V := (xs.drop (HT.sIx xs.length 0 lo)).take (HT.sIx xs.length xs.length hi - HT.sIx xs.length 0 lo)
theorem cutV_length (xs : List V) (lo hi : Option Int) : (cutV xs lo hi).length ≤ xs.length := by
 unfold cutV
 rw [List.length_take, List.length_drop]
 omega
def rSlT (K : PySem.W.Frag) : V → Option Int → Option Int → Hp → VK → Prop := fun x lo hi H Q => ∃ a xs, x = .ref a ∧ SqT K H a xs ∧
 ¬ (HT.sIx xs.length 0 lo = 0 ∧ HT.sIx xs.length xs.length hi = xs.length) ∧ ∀ p, H p = none → Q (.ref p) (upd H p (.tup (cutV xs lo hi)))
theorem sl_tup : SlR X (rSlT X.K) := by
 intro pins s σ H x v vl vu lo hi sl Q I rx hs pl pu h
 obtain ⟨a, xs, rfl, hx, hw, q⟩ := h
 cases rx
 obtain ⟨its, r, ht, hz⟩ := I.tuple hx
 have hlen : its.toArray.size = xs.length := by rw [List.size_toArray]; exact r.length.symm
 refine ⟨"tuple", _, PyProof.Rows.slot_tuple_getitem.lookup, ht.typeIs, ?_⟩
 refine HT.getItem_tuple_cut ht hs pl pu (by rw [hlen]; exact hw) ?_ (by rw [hlen]; exact hz)
 rw [hlen]
 refine ⟨.ref s.heap.objs.size, _, I.laid (t' := s.toks) (o := .tup (cutV xs lo hi)) (fun b ob q => Heap.get?_push_of_some _ q) (Nat.le_refl _) ?_, rfl, q _ (I.hok.fresh (Nat.le_refl _))⟩
 exact ⟨Nat.le_trans (cutV_length xs lo hi) hz, _, (r.drop (HT.sIx xs.length 0 lo)).take (HT.sIx xs.length xs.length hi - HT.sIx xs.length 0 lo), IsTup.new _ _⟩
def rCatT (K : PySem.W.Frag) : R2 := fun x y H Q => ∃ a b xs ys, x = .ref a ∧ y = .ref b ∧ SqT K H a xs ∧ SqT K H b ys ∧ xs ≠ [] ∧ xs.length + ys.length ≤ sizeLine ∧
 (ys = [] → Q (.ref a) H) ∧ (ys ≠ [] → ∀ p, H p = none → Q (.ref p) (upd H p (.tup (xs ++ ys))))
theorem Vals.nil_iff {xs : List V} {us : List Value} (r : Vals xs us) : us = [] ↔ xs = [] := by
 cases r with
 | nil => simp
 | cons _ _ => simp
theorem op_catT : OpR X (binaryOp .Add) (rCatT X.K) := by
 intro pins s σ H x y v u Q I rx ry h
 obtain ⟨a, b, xs, ys, rfl, rfl, ha, hb, hx, hz, q1, q2⟩ := h
 cases rx
 cases ry
 obtain ⟨its, r1, p1, _⟩ := I.tuple ha
 obtain ⟨its2, r2, p2, _⟩ := I.tuple hb
 refine HT.cat_tup p1 p2 (fun z => hx (r1.nil_iff.mp z)) (fun z => ⟨.ref a, H, I, rfl, q1 (r2.nil_iff.mp z)⟩) (fun z => ?_) (by rw [← r1.length, ← r2.length]; exact hz)
 refine ⟨.ref s.heap.objs.size, _, I.laid (t' := s.toks) (o := .tup (xs ++ ys)) (fun b ob q => Heap.get?_push_of_some _ q) (Nat.le_refl _) ?_, rfl, q2 (fun w => z (r2.nil_iff.mpr w)) _ (I.hok.fresh (Nat.le_refl _))⟩
 exact ⟨by rw [List.length_append]; exact hz, _, r1.append r2, IsTup.new _ _⟩
end
end L2
namespace L2
open PySem PySem.Spec PyProof.Rows
def ixN (n : Nat) (i : Int) : Option Nat := if 0 ≤ i then (if i < n then some i.toNat else none) else if -(n : Int) ≤ i then some (i + n).toNat else none
def atI {α : Type} (xs : List α) (i : Int) : Option α := (ixN xs.length i).bind fun j => xs[j]?
theorem ixN_seq {n : Nat} {i : Int} {j : Nat} (h : ixN n i = some j) : seqIndex? i n = some j ∧ j < n ∧ -(n : Int) ≤ i ∧ i < n := by
 unfold ixN at h
 by_cases h0 : 0 ≤ i
 · rw [if_pos h0] at h
   by_cases h1 : i < n
   · rw [if_pos h1] at h
     have e : i.toNat = j := Option.some.inj h
     exact ⟨by rw [seqIndex_of h0 h1, e], by omega, by omega, h1⟩
   · rw [if_neg h1] at h; cases h
 · rw [if_neg h0] at h
   by_cases h1 : -(n : Int) ≤ i
   · rw [if_pos h1] at h
     have e : (i + n).toNat = j := Option.some.inj h
     exact ⟨by rw [seqIndex_neg (by omega) h1, e], by omega, h1, by omega⟩
   · rw [if_neg h1] at h; cases h
theorem atI_get {α : Type} {xs : List α} {i : Int} {v : α} (h : atI xs i = some v) : ∃ j, seqIndex? i xs.length = some j ∧ xs[j]? = some v ∧ j < xs.length ∧ -(xs.length : Int) ≤ i ∧ i < xs.length := by
 unfold atI at h
 cases e : ixN xs.length i with
 | none => rw [e] at h; cases h
 | some j =>
   rw [e] at h
   obtain ⟨h1, h2, h3, h4⟩ := ixN_seq e
   exact ⟨j, h1, h, h2, h3, h4⟩
theorem atI_nat {α : Type} {xs : List α} {j : Nat} {v : α} (h : xs[j]? = some v) : atI xs (j : Int) = some v := by
 have hj : j < xs.length := (List.getElem?_eq_some_iff.mp h).1
 have e : ixN xs.length (j : Int) = some j := by
   unfold ixN
   rw [if_pos (by omega), if_pos (by omega)]; simp
 unfold atI; rw [e]; exact h
def PlainIx (b : Expr) : Prop := ∀ o i, subscripted b false o i = operate [o, i] (getItem o i)
def IxR (X : Cx) (r : R2) : Prop :=
 ∀ (value slice : Expr) (pins : List (Addr × Obj)) (s : Shared) (σ : St) (H : Hp) (x y : V) (v u : Value) (Q : VK), Inv X pins σ H s → RelV x v → RelV y u → r x y H Q →
   subscripted slice false v u = operate [v, u] (getItem v u) → wpAny (model X.prog X.w) X.A (subscriptTail value slice v u) (EP X pins σ Q) X.xe s
def MtR (X : Cx) (id : String) (r : V → List V → Hp → VK → Prop) : Prop :=
 ∀ (pins : List (Addr × Obj)) (s : Shared) (σ : St) (H : Hp) (x : V) (xs : List V) (v : Value) (us : List Value) (Q : VK), Inv X pins σ H s → RelV x v → Vals xs us → r x xs H Q →
   wpAny (model X.prog X.w) X.A (call (.builtin id) (v :: us)) (EP X pins σ Q) X.xe s
section
variable {X : Cx} {a b : Expr} {ta tb : TE} {pos : Pos}
theorem IxR.or {r r' : R2} (h : IxR X r) (h' : IxR X r') : IxR X (fun x y H Q => r x y H Q ∨ r' x y H Q) := by
 intro value slice pins s σ H x y v u Q I rx ry q hs
 rcases q with q | q
 · exact h value slice pins s σ H x y v u Q I rx ry q hs
 · exact h' value slice pins s σ H x y v u Q I rx ry q hs
theorem pe_ix {r : R2} (hr : IxR X r) (ha : PE X a ta) (hb : PE X b tb) (hs : PlainIx b) : PE X (.Subscript a b pos) (tOp r ta tb) := by
 intro pins s σ H Q I h
 exact Subscript_ (binT ha hb I h fun v u s2 x y H2 I2 rx ry q => hr a b pins s2 σ H2 x y v u Q I2 rx ry q (hs _ _))
def rIxL (K : PySem.W.Frag) : R2 := fun x y H Q => ∃ p xs i v, x = .ref p ∧ y = .int i ∧ SqL K H p xs ∧ atI xs i = some v ∧ Q v H
def rIxT (K : PySem.W.Frag) : R2 := fun x y H Q => ∃ p xs i v, x = .ref p ∧ y = .int i ∧ SqT K H p xs ∧ atI xs i = some v ∧ Q v H
def rIxS : R2 := fun x y H Q => ∃ z i c, x = .str z ∧ y = .int i ∧ z.length ≤ sizeLine ∧ atI z.cps.toList i = some c ∧ Q (.str ⟨#[c]⟩) H
theorem ix_list : IxR X (rIxL X.K) := by
 intro value slice pins s σ H x y v u Q I rx ry h hs
 obtain ⟨p, xs, i, z, rfl, rfl, hq, he, q⟩ := h
 cases rx
 obtain ⟨t, rfl⟩ := ry
 obtain ⟨its, r, pl, hz⟩ := I.list hq
 obtain ⟨j, h1, h2, h3, h4, h5⟩ := atI_get he
 obtain ⟨w, ew, rw'⟩ := r.get h2
 have hl := r.length
 have hn := line63
 have fin : EP X pins σ Q w s := ⟨z, H, I, rw', q⟩
 by_cases h0 : 0 ≤ i
 · have hj : i.toNat = j := by
     rw [seqIndex_of h0 h5] at h1
     exact Option.some.inj h1
   exact item_listR pl.isList h0 (by omega) (by rw [hj]; simpa using ew) fin hs
 · have hj : (i + (its.toArray.size : Int)).toNat = j := by
     rw [seqIndex_neg (by omega) h4] at h1
     rw [List.size_toArray, ← hl]
     exact Option.some.inj h1
   exact subscriptTail_builtinR (x := w) pl.isList.typeIs slot_list_getitem.lookup
     (wpAny_getItem_list_neg (Q := fun r s' => r = w ∧ EP X pins σ Q r s') pl.isList (by omega) (by rw [List.size_toArray] <;> omega) (by omega) (by rw [hj]; simpa using ew) ⟨rfl, fin⟩) hs
theorem ix_tup : IxR X (rIxT X.K) := by
 intro value slice pins s σ H x y v u Q I rx ry h hs
 obtain ⟨p, xs, i, z, rfl, rfl, hq, he, q⟩ := h
 cases rx
 obtain ⟨t, rfl⟩ := ry
 obtain ⟨its, r, pl, hz⟩ := I.tuple hq
 obtain ⟨j, h1, h2, h3, h4, h5⟩ := atI_get he
 obtain ⟨w, ew, rw'⟩ := r.get h2
 have hl := r.length
 have hn := line63
 have fin : EP X pins σ Q w s := ⟨z, H, I, rw', q⟩
 exact subscriptTail_builtinR (x := w) pl.typeIs slot_tuple_getitem.lookup
   (getItem_tuple (j := j) (Q := fun r s' => r = w ∧ EP X pins σ Q r s') pl (by omega) (by omega) (by rw [List.size_toArray, ← hl]; exact h1) (by simpa using ew) ⟨rfl, fin⟩) hs
theorem ix_str : IxR X rIxS := by
 intro value slice pins s σ H x y v u Q I rx ry h hs
 obtain ⟨z, i, c, rfl, rfl, hz, he, q⟩ := h
 obtain ⟨t, rfl⟩ := rx
 obtain ⟨t', rfl⟩ := ry
 obtain ⟨j, h1, h2, h3, h4, h5⟩ := atI_get he
 have hl : z.cps.toList.length = z.length := by simp [Str.length]
 rw [hl] at h1 h4 h5
 have hn := line63
 exact tail_any (typeIs_str s z t) slot_str_getitem.lookup (getItem_str (c := c) (by
   have e1 : decide (i < -(2 ^ 63 : Int)) = false := decide_eq_false (by omega)
   have e2 : decide (i ≥ 2 ^ 63) = false := decide_eq_false (by omega)
   rw [e1, e2, Bool.or_false]) (by rw [h1]; simpa using h2) ⟨.str ⟨#[c]⟩, H, I.tok _, ⟨_, rfl⟩, q⟩) hs
def rIx (K : PySem.W.Frag) : R2 := fun x y H Q => rIxL K x y H Q ∨ rIxT K x y H Q ∨ rIxS x y H Q
theorem ix_seq : IxR X (rIx X.K) := ix_list.or (ix_tup.or ix_str)
theorem mapSeq_set (its : List Value) (n j : Nat) (u : Value) : Obj.mapSeq (·.setIfInBounds j u) { cls := .type "list", data := .seq its.toArray n } = { cls := .type "list", data := .seq (its.set j u).toArray n } := by
 simp [Obj.mapSeq]
theorem Inv.lst {pins : List (Addr × Obj)} {σ : St} {H : Hp} {s : Shared} {p : Addr} {xs : List V} (I : Inv X pins σ H s) (h : H p = some (.lst xs)) :
   ∃ (its : List Value) (n : Nat), Vals xs its ∧ s.heap.get? p = some { cls := .type "list", data := .seq its.toArray n } ∧ xs.length ≤ sizeLine := by
 obtain ⟨z, its, n, r, e⟩ := I.hok p _ h
 exact ⟨its, n, r, e, z⟩
theorem Inv.lstUpd {pins : List (Addr × Obj)} {σ : St} {H : Hp} {s : Shared} {p : Addr} {xs ys : List V} {its its' : List Value} {n n' : Nat} {f : Obj → Obj} (I : Inv X pins σ H s) (h : H p = some (.lst xs))
   (ho : s.heap.get? p = some { cls := .type "list", data := .seq its.toArray n }) (hf : f { cls := .type "list", data := .seq its.toArray n } = { cls := .type "list", data := .seq its'.toArray n' }) (r : Vals ys its') (hz : ys.length ≤ sizeLine) (t : Nat) :
   Inv X pins σ (upd H p (.lst ys)) { s with heap := s.heap.update p f, toks := t } := by
 have e : (s.heap.update p f).get? p = some { cls := .type "list", data := .seq its'.toArray n' } := by
   rw [Heap.get?_update_self f ho (by rw [hf] <;> rfl), hf]
 refine I.write (x := p) (e := p) (by rw [h]; trivial) (.inl rfl) (fun b u hb q => (Heap.get?_update_other _ _ (Ne.symm hb)).trans q) ⟨_, e⟩ ?_
 exact ⟨hz, its', n', r, e⟩
def rSetL : V → V → V → Hp → (Hp → Prop) → Prop := fun o i v H Q => ∃ p xs k j, o = .ref p ∧ i = .int k ∧ H p = some (.lst xs) ∧ ixN xs.length k = some j ∧ Q (upd H p (.lst (xs.set j v)))
theorem set_list : PSet X rSetL := by
 intro pins s σ H o i v ov iv u Q I ro ri rv h
 obtain ⟨p, xs, k, j, rfl, rfl, hp, hj, q⟩ := h
 cases ro
 obtain ⟨t, rfl⟩ := ri
 obtain ⟨its, n, r, ho, hz⟩ := I.lst hp
 obtain ⟨h1, h2, h3, h4⟩ := ixN_seq hj
 have hl := r.length
 have hn := line63
 have I' : Inv X pins σ (upd H p (.lst (xs.set j v))) { s with heap := s.heap.update p (Obj.mapSeq (·.setIfInBounds j u)) } :=
   I.lstUpd hp ho (mapSeq_set its n j u) (r.set rv j) (by rw [List.length_set]; exact hz) s.toks
 by_cases h0 : 0 ≤ k
 · have hk : k.toNat = j := by
     rw [seqIndex_of h0 h4] at h1
     exact Option.some.inj h1
   exact PySem.W.ki_setAt ho h0 (by omega) (by rw [List.size_toArray, ← hl]; exact h4) (by rw [hk]; exact ⟨_, I', q⟩)
 · have hk : (k + (its.toArray.size : Int)).toNat = j := by
     rw [seqIndex_neg (by omega) h3] at h1
     rw [List.size_toArray, ← hl]
     exact Option.some.inj h1
   exact PySem.W.ki_setBack ho (by omega) (by rw [List.size_toArray, ← hl]; exact h3) (by omega) (by rw [hk]; exact ⟨_, I', q⟩)
theorem slice_bounds (lo hi : Option Int) (n : Nat) : (sliceBounds lo hi none n).1 = ((HT.sIx n 0 lo : Nat) : Int) ∧ (sliceBounds lo hi none n).2.1 = ((HT.sIx n n hi : Nat) : Int) ∧ (sliceBounds lo hi none n).2.2 = 1 := by
 refine ⟨?_, ?_, rfl⟩
 · cases lo with
   | none => simp [sliceBounds, HT.sIx]
   | some i =>
     simp only [sliceBounds, HT.sIx, Option.getD_none, show (1 : Int) > 0 by decide, if_true]
     by_cases h : i < 0
     · simp only [h, if_true] <;> omega
     · simp only [h, if_false] <;> omega
 · cases hi with
   | none => simp [sliceBounds, HT.sIx]
   | some i =>
     simp only [sliceBounds, HT.sIx, Option.getD_none, show (1 : Int) > 0 by decide, if_true]
     by_cases h : i < 0
     · simp only [h, if_true] <;> omega
     · simp only [h, if_false] <;> omega
theorem slicePick_cut (its : List Value) (lo hi : Option Int) : slicePick its.toArray lo hi none = ((its.drop (HT.sIx its.length 0 lo)).take (HT.sIx its.length its.length hi - HT.sIx its.length 0 lo)).toArray := by
 obtain ⟨h1, h2, h3⟩ := slice_bounds lo hi its.toArray.size
 unfold slicePick
 rw [h1, h2, h3]
 simp only [sliceRange_one, pick_run, List.size_toArray] <;> rfl
def rSlL (K : PySem.W.Frag) : V → Option Int → Option Int → Hp → VK → Prop := fun x lo hi H Q => ∃ a xs, x = .ref a ∧ SqL K H a xs ∧ ∀ p, H p = none → Q (.ref p) (upd H p (.lst (cutV xs lo hi)))
theorem sl_list : SlR X (rSlL X.K) := by
 intro pins s σ H x v vl vu lo hi sl Q I rx hs pl pu h
 obtain ⟨a, xs, rfl, hx, q⟩ := h
 cases rx
 obtain ⟨its, r, ht, hz⟩ := I.list hx
 have hlen := r.length
 refine ⟨"list", _, slot_list_getitem.lookup, ht.isList.typeIs, ?_⟩
 refine wpAny_getItem_list_slice ht.isList hs pl pu .none (by simp) ?_ (by rw [List.size_toArray] <;> omega)
 rw [slicePick_cut, ← hlen]
 refine ⟨.ref s.heap.objs.size, _, I.laid (t' := s.toks) (o := .lst (cutV xs lo hi)) (fun b ob q => Heap.get?_push_of_some _ q) (Nat.le_refl _) ?_, rfl, q _ (I.hok.fresh (Nat.le_refl _))⟩
 exact ⟨Nat.le_trans (cutV_length xs lo hi) hz, _, 0, (r.drop (HT.sIx xs.length 0 lo)).take (HT.sIx xs.length xs.length hi - HT.sIx xs.length 0 lo), Heap.get?_push_size _ rfl⟩
def flatV : V → Bool
 | .non => true
 | .bl _ => true
 | .int _ => true
 | .str _ => true
 | _ => false
def eqV : V → V → Bool
 | .non, .non => true
 | .bl a, .bl b => a == b
 | .bl a, .int b => (if a then 1 else 0) == b
 | .int a, .bl b => a == (if b then 1 else 0)
 | .int a, .int b => a == b
 | .str a, .str b => a == b
 | _, _ => false
theorem eqAt_V {A : Around} {s : Shared} {y x : V} {u v : Value} (ry : RelV y u) (rx : RelV x v) (fy : flatV y = true) (fx : flatV x = true) : SeqAt.EqAt A s u v (eqV y x) := by
 cases y with
 | non =>
   cases ry
   cases x with
   | non => cases rx; exact SeqAt.EqAt.same _
   | bl b => cases rx; exact SeqAt.EqAt.none_bool b
   | int b => obtain ⟨t, rfl⟩ := rx; exact SeqAt.EqAt.none_int b t
   | str b => obtain ⟨t, rfl⟩ := rx; exact SeqAt.EqAt.none_str b t
   | _ => exact absurd (show false = true from fx) Bool.false_ne_true
 | bl a =>
   cases ry
   cases x with
   | non => cases rx; exact SeqAt.EqAt.bool_none a
   | bl b => cases rx; exact SeqAt.EqAt.bool_bool a b
   | int b => obtain ⟨t, rfl⟩ := rx; exact SeqAt.EqAt.bool_int a b t
   | str b => obtain ⟨t, rfl⟩ := rx; exact SeqAt.EqAt.bool_str a b t
   | _ => exact absurd (show false = true from fx) Bool.false_ne_true
 | int a =>
   obtain ⟨t', rfl⟩ := ry
   cases x with
   | non => cases rx; exact SeqAt.EqAt.int_none a t'
   | bl b => cases rx; exact SeqAt.EqAt.int_bool a t' b
   | int b => obtain ⟨t, rfl⟩ := rx; exact SeqAt.EqAt.int_int a t' b t
   | str b => obtain ⟨t, rfl⟩ := rx; exact SeqAt.EqAt.int_str a t' b t
   | _ => exact absurd (show false = true from fx) Bool.false_ne_true
 | str a =>
   obtain ⟨t', rfl⟩ := ry
   cases x with
   | non => cases rx; exact SeqAt.EqAt.str_none a t'
   | bl b => cases rx; exact SeqAt.EqAt.str_bool a t' b
   | int b => obtain ⟨t, rfl⟩ := rx; exact SeqAt.EqAt.str_int a t' b t
   | str b => obtain ⟨t, rfl⟩ := rx; exact SeqAt.EqAt.str_str a t' b t
   | _ => exact absurd (show false = true from fx) Bool.false_ne_true
 | _ => exact absurd (show false = true from fy) Bool.false_ne_true
def eqU (x : V) (u : Value) : Bool := match u with
 | .none => eqV .non x
 | .bool b => eqV (.bl b) x
 | .int i _ => eqV (.int i) x
 | .str z _ => eqV (.str z) x
 | _ => false
theorem eqU_of {x y : V} {u : Value} (r : RelV y u) (f : flatV y = true) : eqU x u = eqV y x := by
 cases y with
 | non => cases r; rfl
 | bl b => cases r; rfl
 | int i => obtain ⟨t, rfl⟩ := r; rfl
 | str z => obtain ⟨t, rfl⟩ := r; rfl
 | _ => exact absurd (show false = true from f) Bool.false_ne_true
theorem any_eqU {x : V} : ∀ {xs : List V} {us : List Value}, Vals xs us → xs.all flatV = true → us.any (eqU x) = xs.any fun y => eqV y x
 | _, _, .nil, _ => rfl
 | y :: xs, u :: us, .cons r t, f => by
   rw [List.all_cons, Bool.and_eq_true] at f
   rw [List.any_cons, List.any_cons, eqU_of r f.1, any_eqU t f.2]
theorem mem_eqAt {A : Around} {s : Shared} {x : V} {v : Value} (rx : RelV x v) (fx : flatV x = true) : ∀ {xs : List V} {us : List Value}, Vals xs us → xs.all flatV = true → ∀ u ∈ us, SeqAt.EqAt A s u v (eqU x u)
 | _, _, .nil, _ => fun u hu => by cases hu
 | y :: xs, u :: us, .cons r t, f => fun u' hu => by
   rw [List.all_cons, Bool.and_eq_true] at f
   rcases List.mem_cons.mp hu with rfl | hu
   · rw [eqU_of r f.1]; exact eqAt_V r rx f.1 fx
   · exact mem_eqAt rx fx t f.2 u' hu
def inV (x : V) (xs : List V) : Bool := xs.any fun y => eqV y x
def rIn (K : PySem.W.Frag) (neg : Bool) : R2 := fun x y H Q => ∃ p xs, y = .ref p ∧ (SqL K H p xs ∨ SqT K H p xs) ∧ flatV x = true ∧ xs.all flatV = true ∧ Q (.bl (if neg then !inV x xs else inV x xs)) H
theorem op_in_seq : OpR X (compareOp .In) (rIn X.K false) := by
 intro pins s σ H x y v u Q I rx ry h
 obtain ⟨p, xs, rfl, hq, fx, fs, q⟩ := h
 cases ry
 rcases hq with hq | hq
 · obtain ⟨its, r, pl, hz⟩ := I.list hq
   refine SeqAt.in_listAt (eqU x) pl.isList (fun w hw => mem_eqAt rx fx r fs w (by simpa using hw)) ⟨.bl _, H, I, rfl, ?_⟩
   rw [show its.toArray.any (eqU x) = its.any (eqU x) by simp, any_eqU r fs]
   exact q
 · obtain ⟨its, r, pl, hz⟩ := I.tuple hq
   refine SeqAt.in_tupleAt (eqU x) pl (fun w hw => mem_eqAt rx fx r fs w (by simpa using hw)) ⟨.bl _, H, I, rfl, ?_⟩
   rw [show its.toArray.any (eqU x) = its.any (eqU x) by simp, any_eqU r fs]
   exact q
theorem op_notIn_seq : OpR X (compareOp .NotIn) (rIn X.K true) := by
 intro pins s σ H x y v u Q I rx ry h
 obtain ⟨p, xs, rfl, hq, fx, fs, q⟩ := h
 cases ry
 rcases hq with hq | hq
 · obtain ⟨its, r, pl, hz⟩ := I.list hq
   refine SeqAt.notIn_listAt (eqU x) pl.isList (fun w hw => mem_eqAt rx fx r fs w (by simpa using hw)) ⟨.bl _, H, I, rfl, ?_⟩
   rw [show its.toArray.any (eqU x) = its.any (eqU x) by simp, any_eqU r fs]
   exact q
 · obtain ⟨its, r, pl, hz⟩ := I.tuple hq
   refine SeqAt.notIn_tupleAt (eqU x) pl (fun w hw => mem_eqAt rx fx r fs w (by simpa using hw)) ⟨.bl _, H, I, rfl, ?_⟩
   rw [show its.toArray.any (eqU x) = its.any (eqU x) by simp, any_eqU r fs]
   exact q
theorem call_list_of : CallR X (.type "list") (fun xs H Q => ∃ p ys, xs = [.ref p] ∧ (SqL X.K H p ys ∨ SqT X.K H p ys) ∧ ∀ l, H l = none → Q (.ref l) (upd H l (.lst ys))) := by
 intro pins s σ H xs us Q I r h
 obtain ⟨p, ys, rfl, hq, q⟩ := h
 obtain ⟨u, rfl, rx⟩ := vals1 r
 cases rx
 have fin : ∀ (its : List Value), Vals ys its → ys.length ≤ sizeLine → ∀ (h' : Heap) (c' : Nat), (∀ b o', s.heap.get? b = some o' → h'.get? b = some o') →
     h'.get? s.heap.objs.size = some { cls := .type "list", dict := none, data := .seq its.toArray c', slots := #[] } → EP X pins σ Q (.ref s.heap.objs.size) { s with heap := h' } := fun its r' hz h' c' kp e =>
   ⟨.ref s.heap.objs.size, _, I.laid (t' := s.toks) kp (Nat.le_refl _) (show ObjOk X.prog X.w _ h' _ (.lst ys) from ⟨hz, its, c', r', e⟩), rfl, q _ (I.hok.fresh (Nat.le_refl _))⟩
 rcases hq with hq | hq
 · obtain ⟨its, r', pl, hz⟩ := I.list hq
   have hlen := r'.length
   obtain ⟨o, ho, hc, n, hd⟩ := pl.isList
   exact call_list_seq p (.inl rfl) ho hc hd (fun h' c' kp e => fin its r' hz h' c' kp e) (by simp only [List.size_toArray] <;> omega)
 · obtain ⟨its, r', pl, hz⟩ := I.tuple hq
   have hlen := r'.length
   obtain ⟨o, ho, hc, n, hd⟩ := pl
   exact call_list_seq p (.inr rfl) ho hc hd (fun h' c' kp e => fin its r' hz h' c' kp e) (by simp only [List.size_toArray] <;> omega)
theorem call_tuple_of : CallR X (.type "tuple") (fun xs H Q => ∃ p ys, xs = [.ref p] ∧ ((SqL X.K H p ys ∧ ∀ l, H l = none → Q (.ref l) (upd H l (.tup ys))) ∨ (SqT X.K H p ys ∧ Q (.ref p) H))) := by
 intro pins s σ H xs us Q I r h
 obtain ⟨p, ys, rfl, h⟩ := h
 obtain ⟨u, rfl, rx⟩ := vals1 r
 cases rx
 rcases h with ⟨hq, q⟩ | ⟨hq, q⟩
 · obtain ⟨its, r', pl, hz⟩ := I.list hq
   have hlen := r'.length
   refine call_tuple_list pl.isList (fun h' kp => ?_) (by simp only [List.size_toArray] <;> omega)
   have I1 : Inv X pins σ H { s with heap := h' } := I.kept (t' := s.toks) kp
   have I2 : Inv X pins σ (upd H h'.objs.size (.tup ys)) { s with heap := h'.push { cls := .type "tuple", data := .seq its.toArray } } :=
     I1.laid (t' := s.toks) (fun b o e => Heap.get?_push_of_some _ e) (Nat.le_refl _) (show ObjOk X.prog X.w _ _ _ (.tup ys) from ⟨hz, its, r', IsTup.new _ _⟩)
   exact ⟨.ref h'.objs.size, _, I2, rfl, q _ (I1.hok.fresh (Nat.le_refl _))⟩
 · obtain ⟨its, r', pl, hz⟩ := I.tuple hq
   exact call_tuple_same pl ⟨.ref p, H, I, rfl, q⟩
def tyV (K : PySem.W.Frag) (T : String) (x : V) (H : Hp) : Prop := match x with
 | .str _ => T = "str"
 | .int _ => T = "int"
 | .ref p => (T = "list" ∧ ∃ xs, SqL K H p xs) ∨ (T = "tuple" ∧ ∃ o, K.lookup p = some o ∧ o.cls = .type "tuple" ∧ o.dict = none) ∨
     (T = "dict" ∧ ((∃ kvs, H p = some (.dK kvs)) ∨ ∃ kvs, H p = some (.dT kvs))) ∨ (T = "set" ∧ ∃ S n, H p = some (.set S n))
 | _ => False
theorem tyV_is {pins : List (Addr × Obj)} {σ : St} {H : Hp} {s : Shared} {T : String} {x : V} {v : Value} (I : Inv X pins σ H s) (r : RelV x v) (ty : tyV X.K T x H) :
   s.TypeIs v T ∧ ∀ a, v = .ref a → ∃ ob, s.heap.get? a = some ob ∧ ob.dict = none := by
 cases x with
 | str z =>
   obtain ⟨t, rfl⟩ := r
   cases (show T = "str" from ty)
   exact ⟨typeIs_str s z t, fun _ e => nomatch e⟩
 | int i =>
   obtain ⟨t, rfl⟩ := r
   cases (show T = "int" from ty)
   exact ⟨typeIs_int s i t, fun _ e => nomatch e⟩
 | ref p =>
   cases r
   rcases ty with ⟨rfl, xs, hq⟩ | ⟨rfl, o, hk, hc, hd⟩ | ⟨rfl, hk⟩ | ⟨rfl, S, n, hk⟩
   · obtain ⟨its, _, pl, _⟩ := I.list hq
     refine ⟨pl.isList.typeIs, fun a e => ?_⟩
     cases e
     obtain ⟨o, n, e, c, hd, _⟩ := pl
     exact ⟨o, e, hd⟩
   · refine ⟨⟨o, I.kIn p o hk, hc⟩, fun a e => ?_⟩
     cases e
     exact ⟨o, I.kIn _ o hk, hd⟩
   · have z : ∃ o, s.heap.get? p = some o ∧ o.ExactDict := by
       rcases hk with ⟨kvs, hk⟩ | ⟨kvs, hk⟩
       · obtain ⟨_, _, _, _, o, _, _, e, ex, _⟩ := I.hok p _ hk
         exact ⟨o, e, ex⟩
       · obtain ⟨_, _, _, _, o, _, _, e, ex, _⟩ := I.hok p _ hk
         exact ⟨o, e, ex⟩
     obtain ⟨o, e, ex⟩ := z
     refine ⟨⟨o, e, ex.1⟩, fun a e2 => ?_⟩
     cases e2
     exact ⟨o, e, ex.2.1⟩
   · obtain ⟨o, _, _, _, e, ex, _⟩ := I.hok p _ hk
     refine ⟨⟨o, e, ex.1⟩, fun a e2 => ?_⟩
     cases e2
     exact ⟨o, e, ex.2.1⟩
 | _ => exact False.elim ty
def tBM0 (K : PySem.W.Frag) (T : String) (r : V → List V → Hp → VK → Prop) (to : TE) : TE := fun σ H Q => to σ H fun x H1 => tyV K T x H1 ∧ r x [] H1 Q
def tBM (K : PySem.W.Frag) (T : String) (r : V → List V → Hp → VK → Prop) (to : TE) (t : TA) : TE := fun σ H Q => to σ H fun x H1 => tyV K T x H1 ∧ t σ H1 fun xs H2 => r x xs H2 Q
variable {o e : Expr} {es : List Expr} {to : TE} {t : TA} {name : Str} {apos cpos : Pos} {T id : String} {r : V → List V → Hp → VK → Prop}
theorem pe_bm0 (pa : PlainAttrs T) (slot : Slot T name id) (hty : typeOf (.builtin id) = pure (.type "method_descriptor")) (hm : MtR X id r) (ho : PE X o to)
   (hbase : attributeBase o name X.env (eval o X.env) = eval o X.env := by rfl) (hline : (apos.endLine == cpos.line) = true := by rfl) : PE X (.Call (.Attribute o name apos) [] [] cpos) (tBM0 X.K T r to) := by
 intro pins s σ H Q I h
 refine wpAny_Call_method0_late hbase hline (thn (ho pins s σ H _ I h) fun v s1 ⟨x, H1, I1, r1, ty, q1⟩ => ?_)
 obtain ⟨h1, h2⟩ := tyV_is I1 r1 ty
 exact ⟨T, id, pa, slot, hty, h1, h2, Calls.callWith_builtin rfl (PySem.evalArgs_none (hm pins s1 σ H1 x [] v [] Q I1 r1 .nil q1))⟩
theorem pe_bm (pa : PlainAttrs T) (slot : Slot T name id) (hty : typeOf (.builtin id) = pure (.type "method_descriptor")) (hm : MtR X id r) (ho : PE X o to) (ha : PA X (e :: es) t)
   (hbase : attributeBase o name X.env (eval o X.env) = eval o X.env := by rfl)
   (hfew : ((backTo cpos (starEach (e :: es) X.env)).all (fun x => !x.1) && (backToKw cpos (keywordEach [] X.env)).all (fun x => x.1.isSome)
     && decide ((e :: es).length + ([] : List Keyword).length + (if ([] : List Keyword).isEmpty then 0 else 1) < 30)) = true := by rfl)
   (hline : (apos.endLine == cpos.line) = true := by rfl) (hs : starEach (e :: es) X.env = (false, eval e X.env) :: starEach es X.env := by rfl) (hplain : (backTo cpos (starEach es X.env)).any (·.1) = false := by rfl) :
   PE X (.Call (.Attribute o name apos) (e :: es) [] cpos) (tBM X.K T r to t) := by
 intro pins s σ H Q I h
 refine wpAny_Call_method_late hbase hfew hline rfl (thn (ho pins s σ H _ I h) fun v s1 ⟨x, H1, I1, r1, ty, q1⟩ => ?_)
 obtain ⟨h1, h2⟩ := tyV_is I1 r1 ty
 refine ⟨T, id, pa, slot, hty, h1, h2, ?_⟩
 have hA := ha cpos pins s1 σ H1 _ I1 q1
 rw [hs] at hA ⊢
 refine Calls.callWith_builtin (by show (false || (backTo cpos (starEach es X.env)).any (·.1)) = false; rw [hplain] <;> rfl) (Calls.evalArgs_plain ?_)
 exact thn hA fun us s2 ⟨vs, H2, I2, r2, q2⟩ => hm pins s2 σ H2 x vs v us Q I2 r1 r2 q2
end
end L2
namespace L2
open PySem PySem.Spec PyProof.Rows
def MtM (X : Cx) (id : String) (r : V → List V → Hp → VK → Prop) : Prop :=
 ∀ (pins : List (Addr × Obj)) (s : Shared) (σ : St) (H : Hp) (x : V) (xs : List V) (v : Value) (us : List Value) (Q : VK), Inv X pins σ H s → RelV x v → Vals xs us → r x xs H Q →
   wpAny (model X.prog X.w) X.A (call (.builtin id) (v :: us)) (EP X pins σ Q) X.xe s
theorem Vals.one : ∀ {x : V} {us : List Value}, Vals [x] us → ∃ u, us = [u] ∧ RelV x u
 | _, _, .cons r .nil => ⟨_, rfl, r⟩
theorem Vals.zero : ∀ {us : List Value}, Vals [] us → us = []
 | _, .nil => rfl
theorem Vals.dropLast {xs : List V} {us : List Value} (h : Vals xs us) : Vals xs.dropLast us.dropLast := by
 induction h with
 | nil => exact .nil
 | cons r t ih =>
   cases t with
   | nil => exact .nil
   | cons q t' => exact .cons r ih
theorem Vals.rep {xs : List V} {us : List Value} (h : Vals xs us) : ∀ k : Nat, Vals (List.replicate k xs).flatten (List.replicate k us).flatten
 | 0 => .nil
 | k + 1 => by
   rw [List.replicate_succ, List.replicate_succ, List.flatten_cons, List.flatten_cons]
   exact Vals.append h (Vals.rep h k)
theorem erase_last {α : Type} (l : List α) : l.eraseIdx (l.length - 1) = l.dropLast := by
 induction l with
 | nil => rfl
 | cons a r ih =>
   cases r with
   | nil => rfl
   | cons b r =>
     have e : (a :: b :: r).length - 1 = ((b :: r).length - 1) + 1 := by
       have h1 : (a :: b :: r).length = r.length + 2 := rfl
       have h2 : (b :: r).length = r.length + 1 := rfl
       omega
     rw [e, List.eraseIdx_cons_succ, ih]
     all_goals rfl
theorem foldl_rep (its : List Value) : ∀ (k : Nat) (acc : List Value),
   List.foldl (fun x1 x2 => x1 ++ x2) acc.toArray (List.replicate k its.toArray) = (acc ++ (List.replicate k its).flatten).toArray
 | 0, acc => by simp
 | k + 1, acc => by
   have e : acc.toArray ++ its.toArray = (acc ++ its).toArray := by simp
   have e2 : (acc ++ its) ++ (List.replicate k its).flatten = acc ++ (List.replicate (k + 1) its).flatten := by
     rw [List.replicate_succ, List.flatten_cons, List.append_assoc]
   rw [← e2, ← foldl_rep its k (acc ++ its), ← e, List.replicate_succ, List.foldl_cons]
section
variable {X : Cx} {pins : List (Addr × Obj)} {σ : St} {H : Hp} {s : Shared} {l b : Addr} {xs ys zs : List V}
theorem Inv.lset {its its' : List Value} {n : Nat} {f : Array Value → Array Value} {t' : Nat} (I : Inv X pins σ H s) (hH : H l = some (.lst xs))
   (e : s.heap.get? l = some { cls := .type "list", data := .seq its.toArray n }) (hf : f its.toArray = its'.toArray) (hv : Vals ys its') (hz : ys.length ≤ sizeLine) :
   Inv X pins σ (upd H l (.lst ys)) { s with heap := s.heap.update l (Obj.mapSeq f), toks := t' } := by
 have q := PySem.IsL.update e f
 rw [hf] at q
 refine I.write (x := l) (e := l) (by rw [hH]; exact trivial) (.inl rfl) (fun b' u hb hu => (Heap.get?_update_other s.heap (Obj.mapSeq f) (Ne.symm hb)).trans hu) ⟨_, q⟩ ?_
 exact ⟨hz, its', _, hv, q⟩
theorem Inv.lnew {its : List Value} {t' : Nat} (I : Inv X pins σ H s) (hv : Vals ys its) (hz : ys.length ≤ sizeLine) :
   Inv X pins σ (upd H s.heap.objs.size (.lst ys)) { s with heap := s.heap.push { cls := .type "list", data := .seq its.toArray }, toks := t' } :=
 I.laid (fun _ _ q => Heap.get?_push_of_some _ q) (Nat.le_refl _) ⟨hz, its, 0, hv, Heap.get?_push_size _ rfl⟩
theorem Inv.fresh (I : Inv X pins σ H s) : H s.heap.objs.size = none := I.hok.fresh (Nat.le_refl _)
theorem Inv.lstM (I : Inv X pins σ H s) (hH : H l = some (.lst xs)) : xs.length ≤ sizeLine ∧ ∃ (its : List Value) (n : Nat), Vals xs its ∧ xs.length = its.length ∧ s.heap.get? l = some { cls := .type "list", data := .seq its.toArray n } := by
 obtain ⟨z, its, n, r, e⟩ := I.hok l _ hH
 exact ⟨z, its, n, r, r.length, e⟩
theorem notLongL {n : Nat} (h : n ≤ sizeLine) : Builtin.List.listTooLong n = false := by
 unfold Builtin.List.listTooLong
 exact decide_eq_false (by omega)
end
section
variable {X : Cx}
def rAppend : V → List V → Hp → VK → Prop := fun x vs H Q => ∃ l xs y, x = .ref l ∧ vs = [y] ∧ H l = some (.lst xs) ∧ xs.length < sizeLine ∧ Q .non (upd H l (.lst (xs ++ [y])))
theorem mt_append : MtM X "list.append" rAppend := by
 intro pins s σ H x vs v us Q I rx rv h
 obtain ⟨l, xs, y, rfl, rfl, hH, hz, q⟩ := h
 cases rx
 obtain ⟨u, rfl, ru⟩ := rv.one
 obtain ⟨z, its, n, r, hl, e⟩ := I.lstM hH
 refine call_meets F.slot_list_append ⟨_, e, rfl⟩ F.entry_list_append (F.args_list_append_2 _ _) (PySem.list_append l its.toArray n u (by rw [List.size_toArray]; omega)) ⟨e, ?_⟩
 refine ⟨.non, _, I.lset (its' := its ++ [u]) hH e (by simp) (r.append (.cons ru .nil)) ?_, rfl, q⟩
 rw [List.length_append, List.length_singleton]
 omega
def rExtend : V → List V → Hp → VK → Prop := fun x vs H Q => ∃ l b xs zs, x = .ref l ∧ vs = [.ref b] ∧ H l = some (.lst xs) ∧ H b = some (.lst zs) ∧ xs.length + zs.length ≤ sizeLine ∧ Q .non (upd H l (.lst (xs ++ zs)))
theorem mt_extend : MtM X "list.extend" rExtend := by
 intro pins s σ H x vs v us Q I rx rv h
 obtain ⟨l, b, xs, zs, rfl, rfl, hH, hB, hz, q⟩ := h
 cases rx
 obtain ⟨u, rfl, ru⟩ := rv.one
 cases ru
 obtain ⟨z, its, n, r, hl, e⟩ := I.lstM hH
 obtain ⟨z2, its2, n2, r2, hl2, e2⟩ := I.lstM hB
 have hsz : its.toArray.size + its2.toArray.size ≤ sizeLine := by rw [List.size_toArray, List.size_toArray]; omega
 have hlong : ¬ (!its.toArray.isEmpty && Builtin.List.listTooLong (its.toArray.size + its2.toArray.size)) = true := by
   rw [notLongL hsz, Bool.and_false]
   exact Bool.false_ne_true
 refine call_meets F.slot_list_extend ⟨_, e, rfl⟩ F.entry_list_extend (F.args_list_extend_2 _ _)
   (AutoSeq1.list_extend_list_list_0 l its.toArray n b its2.toArray n2 hlong (by rw [List.size_toArray]; omega) (by omega)) ⟨e, e2, ?_⟩
 refine ⟨.non, _, I.lset (its' := its ++ its2) hH e (by simp) (r.append r2) ?_, rfl, q⟩
 rw [List.length_append]
 omega
def rPop : V → List V → Hp → VK → Prop := fun x vs H Q => ∃ l xs y, x = .ref l ∧ vs = [] ∧ H l = some (.lst xs) ∧ xs[xs.length - 1]? = some y ∧ Q y (upd H l (.lst xs.dropLast))
theorem mt_pop : MtM X "list.pop" rPop := by
 intro pins s σ H x vs v us Q I rx rv h
 obtain ⟨l, xs, y, rfl, rfl, hH, hy, q⟩ := h
 cases rx
 have hus := rv.zero
 subst hus
 obtain ⟨z, its, n, r, hl, e⟩ := I.lstM hH
 obtain ⟨u, hu, ru⟩ := r.get hy
 have hy' : its.toArray[its.toArray.size - 1]? = some u := by
   show its.toArray[its.length - 1]? = some u
   rw [← Array.getElem?_toList, ← hl]
   exact hu
 refine call_meets F.slot_list_pop ⟨_, e, rfl⟩ F.entry_list_pop (F.args_list_pop_1 _) (MeetsSeq.list_pop_last l its.toArray n u hy' (by rw [List.size_toArray]; omega)) ⟨e, ?_⟩
 refine ⟨y, _, I.lset (its' := its.dropLast) hH e ?_ r.dropLast ?_, ru, q⟩
 · show its.toArray.eraseIdxIfInBounds (its.toArray.size - 1) = its.dropLast.toArray
   rw [List.size_toArray, List.eraseIdxIfInBounds_toArray, erase_last]
 · rw [List.length_dropLast]
   omega
def rClear : V → List V → Hp → VK → Prop := fun x vs H Q => ∃ l xs, x = .ref l ∧ vs = [] ∧ H l = some (.lst xs) ∧ Q .non (upd H l (.lst []))
theorem mt_clear : MtM X "list.clear" rClear := by
 intro pins s σ H x vs v us Q I rx rv h
 obtain ⟨l, xs, rfl, rfl, hH, q⟩ := h
 cases rx
 have hus := rv.zero
 subst hus
 obtain ⟨z, its, n, r, hl, e⟩ := I.lstM hH
 refine call_meets F.slot_list_clear ⟨_, e, rfl⟩ F.entry_list_clear (F.args_list_clear_1 _) (AutoSeq1.list_clear_list_0 l its.toArray n (by rw [List.size_toArray]; omega)) ⟨e, ?_⟩
 exact ⟨.non, _, I.lset (its' := []) (ys := []) hH e rfl .nil (Nat.zero_le _), rfl, q⟩
def rCat : R2 := fun x y H Q => ∃ l b xs zs, x = .ref l ∧ y = .ref b ∧ H l = some (.lst xs) ∧ H b = some (.lst zs) ∧ xs.length + zs.length ≤ sizeLine ∧ ∀ p, H p = none → Q (.ref p) (upd H p (.lst (xs ++ zs)))
theorem op_cat : OpR X (binaryOp .Add) rCat := by
 intro pins s σ H x y v u Q I rx ry h
 obtain ⟨l, b, xs, zs, rfl, rfl, hH, hB, hz, q⟩ := h
 cases rx
 cases ry
 obtain ⟨z, its, n, r, hl, e⟩ := I.lstM hH
 obtain ⟨z2, its2, n2, r2, hl2, e2⟩ := I.lstM hB
 refine PySem.P.add_list e e2 ?_ (by rw [List.size_toArray, List.size_toArray]; omega)
 have ea : its.toArray ++ its2.toArray = (its ++ its2).toArray := by simp
 rw [ea]
 exact ⟨.ref _, _, I.lnew (t' := s.toks) (r.append r2) (by rw [List.length_append]; omega), rfl, q _ I.fresh⟩
def rRep : R2 := fun x y H Q => ∃ l k xs, x = .ref l ∧ y = .int k ∧ H l = some (.lst xs) ∧ -(2 ^ 63) ≤ k ∧ k < 2 ^ 63 ∧ xs.length * k.toNat ≤ sizeLine ∧
 ∀ p, H p = none → Q (.ref p) (upd H p (.lst (List.replicate k.toNat xs).flatten))
theorem len_rep {α : Type} (xs : List α) (k : Nat) : (List.replicate k xs).flatten.length = k * xs.length := by
 induction k with
 | zero => simp
 | succ k ih => rw [List.replicate_succ, List.flatten_cons, List.length_append, ih, Nat.succ_mul, Nat.add_comm]
theorem op_rep : OpR X (binaryOp .Mult) rRep := by
 intro pins s σ H x y v u Q I rx ry h
 obtain ⟨l, k, xs, rfl, rfl, hH, h1, h2, hz, q⟩ := h
 cases rx
 obtain ⟨t, rfl⟩ := ry
 obtain ⟨z, its, n, r, hl, e⟩ := I.lstM hH
 have hlen : its.toArray.size * k.toNat ≤ sizeLine := by rw [List.size_toArray, ← hl]; exact hz
 have hcap : ¬ its.toArray.size * k.toNat > (2 ^ 63 - 1) / 8 := by
   have : (sizeLine : Nat) ≤ (2 ^ 63 - 1) / 8 := by decide
   omega
 have hfit : ¬ (!Builtin.List.listFitsIndex k) = true := by
   rw [fitsIndex_both h1 h2]
   exact Bool.false_ne_true
 have hlong : ¬ Builtin.List.listTooLong (its.toArray.size * k.toNat) = true := by
   rw [notLongL hlen]
   exact Bool.false_ne_true
 have hnew : List.foldl (fun x1 x2 => x1 ++ x2) #[] (List.replicate (if its.toArray.isEmpty = true then 0 else k.toNat) its.toArray) = (List.replicate k.toNat its).flatten.toArray := by
   have f0 : ∀ m : Nat, List.foldl (fun x1 x2 => x1 ++ x2) #[] (List.replicate m its.toArray) = (List.replicate m its).flatten.toArray := fun m => by
     have := foldl_rep its m []
     rw [List.nil_append] at this
     exact this
   rw [f0]
   cases its with
   | nil => simp
   | cons a r' => rw [if_neg (by simp)]
 refine wpAny_binaryOp_repeat_ref (T := "list") (U := "int") (by decide) ⟨_, e, rfl⟩ (fun s' => typeIs_int s' k t) noFill_list_mul F.fills_int_mul F.slot_int_rmul repeat_list F.slot_int_index.lookup
   (call_meets F.slot_int_rmul (typeIs_int s k t) F.entry_int_rmul (F.args_int_rmul_2 _ _) (int___rmul___int_list k t l its.toArray n)
     ⟨e, rfl, ⟨_, e, rfl⟩, call_meets F.slot_list_mul ⟨_, e, rfl⟩ F.entry_list_mul (F.args_list_mul_2 _ _) (AutoListH.list___mul___list_int_3 l its.toArray n k t hfit hcap hlong) ⟨e, ?_⟩⟩)
 rw [hnew]
 exact ⟨.ref _, _, I.lnew (t' := s.toks) (r.rep k.toNat) (by rw [len_rep, Nat.mul_comm]; exact hz), rfl, q _ I.fresh⟩
end
section
variable {prog : Program} {w : World} {A : Around} {E : Value → Shared → Prop} {s : Shared}
end
section
variable {X : Cx}
end
end L2
namespace L2
open PySem PySem.Spec PyProof.Rows
section
variable {κ : Type} [DecidableEq κ]
def valV (kvs : List (κ × V)) (k : κ) : Option V := (kvs.find? fun kv => decide (kv.1 = k)).map (·.2)
theorem valV_pos {p : κ × V} {r : List (κ × V)} {k : κ} (e : p.1 = k) : valV (p :: r) k = some p.2 := by simp [valV, List.find?_cons, e]
theorem valV_neg {p : κ × V} {r : List (κ × V)} {k : κ} (e : ¬ p.1 = k) : valV (p :: r) k = valV r k := by simp [valV, List.find?_cons, e]
theorem RelO.isSome_eq {o : Option V} {u : Option Value} (r : RelO o u) : o.isSome = u.isSome := by
 cases o with
 | none => cases u with
   | none => rfl
   | some _ => exact (show False from r).elim
 | some _ => cases u with
   | none => exact (show False from r).elim
   | some _ => rfl
theorem RelO.getD {o : Option V} {u : Option Value} {d : V} {d' : Value} (r : RelO o u) (rd : RelV d d') : RelV (o.getD d) (u.getD d') := by
 cases o with
 | none => cases u with
   | none => exact rd
   | some _ => exact (show False from r).elim
 | some _ => cases u with
   | none => exact (show False from r).elim
   | some _ => exact r
theorem KV.val {kvs : List (κ × V)} {vs : List (κ × Value)} (r : KV kvs vs) (k : κ) : RelO (valV kvs k) (valueAt vs k) := by
 unfold KV at r
 induction r with
 | nil => exact True.intro
 | @cons p q ps qs h t ih =>
   obtain ⟨h1, h2⟩ := h
   by_cases e : p.1 = k
   · have e' : q.1 = k := h1.symm.trans e
     have b : valueAt (q :: qs) k = some q.2 := by simp [valueAt, List.find?_cons, e']
     rw [valV_pos e, b]; exact h2
   · have e' : ¬ q.1 = k := fun z => e (h1.trans z)
     have b : valueAt (q :: qs) k = valueAt qs k := by simp [valueAt, List.find?_cons, e']
     rw [valV_neg e, b]; exact ih
theorem KV.keys {kvs : List (κ × V)} {vs : List (κ × Value)} (r : KV kvs vs) : kvs.map (·.1) = vs.map (·.1) := by
 unfold KV at r
 induction r with
 | nil => rfl
 | cons h t ih => rw [List.map_cons, List.map_cons, ih, h.1]
end
theorem kV_is {P : Program} {w : World} {k : Key} {u : Value} (r : RelV (kV k) u) : (mixKind P w).is k u = true := by
 cases k with
 | inl i => obtain ⟨t, e⟩ := (show ∃ t, u = Value.int i t from r); subst e; exact mixKind_int P w i t
 | inr x => obtain ⟨t, e⟩ := (show ∃ t, u = Value.str x t from r); subst e; exact mixKind_str P w x t
section
variable {P : Program} {w : World} {H : Hp} {h : Heap} {a : Addr}
end
section
variable {X : Cx} {pins : List (Addr × Obj)} {σ : St} {H : Hp} {s : Shared} {a : Addr} {y v : V} {u r : Value} {o : Option V} {A : Around} {E : Value → Shared → Prop}
end
section
variable {X : Cx} {pins : List (Addr × Obj)} {σ : St} {H : Hp} {s : Shared} {a : Addr} {kvs : List (Key × V)} {k : Key} {u : Value} {A : Around} {E : Value → Shared → Prop}
end
def NoSl (i : Expr) : Prop := ∀ ov iv, subscripted i false ov iv = operate [ov, iv] (getItem ov iv)
theorem subD_of {prog : Program} {w : World} {A : Around} {E : Value → Shared → Prop} {s : Shared} {env : Env} {value slice : Expr} {pos : Pos} {T id : String} {Q : Value → Shared → Prop}
   (hl : typeLookup (.type T) "__getitem__" = pure (some (.builtin id))) (hs : NoSl slice)
   (h : wpAny (model prog w) A (eval value env) (fun o s₁ => wpAny (model prog w) A (eval slice env) (fun i s₂ => s₂.TypeIs o T ∧ wpAny (model prog w) A (getItem o i) Q E s₂) E s₁) E s) :
   wpAny (model prog w) A (eval (.Subscript value slice pos) env) Q E s := by
 refine Subscript_ (wpAny_mono h (fun o s₁ h₁ => wpAny_mono h₁ (fun i s₂ h₂ => ?_) fun _ _ x => x) fun _ _ x => x)
 obtain ⟨hT, h₂⟩ := h₂
 unfold subscriptTail
 refine wpAny_bind ?_
 rw [getitemInPython_of_ne hT.not_modules]
 refine wpAny_bind (wpAny_specialOf hT hl ?_)
 have fin : wpAny (model prog w) A (subscripted slice false o i) (fun r s₃ => wpAny (model prog w) A (letTemporaryGo value o r >>= fun _ => pure r) Q E s₃) E s₂ := by
   rw [hs o i]
   exact wpAny_operating (wpAny_mono h₂ (fun r s₃ h₃ => wpAny_bind (wpAny_letTemporaryGo (wpAny_pure h₃))) fun _ _ x => x)
 first
   | exact wpAny_pure (wpAny_bind fin)
   | exact wpAny_bind (wpAny_pure (wpAny_bind fin))
   | exact wpAny_bind fin
section
variable {X : Cx} {o i e value : Expr} {pos pos' tpos : Pos} {td ty tv : TE}
end
section
variable {X : Cx} {pos : Pos}
end
structure M1 (X : Cx) (o : Expr) (m : Str) (apos : Pos) (e : Expr) (cpos : Pos) : Prop where
 base : attributeBase o m X.env (eval o X.env) = eval o X.env
 few : ((backTo cpos (starEach [e] X.env)).all (fun x => !x.1) && (backToKw cpos (keywordEach [] X.env)).all (fun x => x.1.isSome)
   && decide (([e] : List Expr).length + ([] : List Keyword).length + (if ([] : List Keyword).isEmpty then 0 else 1) < 30)) = true
 line : (apos.endLine == cpos.line) = true
 trees : backTo cpos (starEach [e] X.env) = [(false, eval e X.env)]
section
variable {X : Cx} {pins : List (Addr × Obj)} {σ : St} {H : Hp} {s : Shared} {a : Addr} {y d : V} {u r : Value} {o : Option V} {A : Around} {E : Value → Shared → Prop}
end
section
variable {X : Cx} {o e f : Expr} {apos cpos : Pos} {td ty tx : TE}
end
section
variable {X : Cx} {pins : List (Addr × Obj)} {σ : St} {H : Hp} {s : Shared} {a : Addr} {kvs : List (Key × V)} {A : Around} {E : Value → Shared → Prop}
end
section
variable {X : Cx} {pins : List (Addr × Obj)} {σ : St} {H : Hp} {s : Shared} {a : Addr} {y : V} {u : Value} {A : Around} {E : Value → Shared → Prop}
end
end L2
namespace Att
open PySem PySem.W PySem.Calls PyProof.Rows
theorem ints_of_wellAll {P : Params} {h : Heap} : ∀ (ns : List Int) (vs : List Value), WellAll P h vs (ns.map WData.int) → IntsAre vs ns := by
 intro ns
 induction ns with
 | nil =>
   intro vs w
   rw [List.map_nil] at w
   cases w
   exact .nil
 | cons n ns ih =>
   intro vs w
   rw [List.map_cons] at w
   cases w with
   | cons a b =>
     cases a
     exact .cons _ _ (ih _ b)
theorem script_of {l : OpenLaw} {n : Nat} (hn : l.most = some n) {P : Params} {h : Heap} {args : List WData} {vals : List Value}
   (hpre : l.row.toRowW.claim.pre args = true) (hwl : WellAll P h vals args) :
   ∃ a vs ns, vals = [Value.ref a] ∧ args = [WData.list (ns.map WData.int)] ∧ h.get? a = some { cls := .type "list", data := .seq vs.toArray } ∧ IntsAre vs ns ∧ ns.length ≤ n := by
 have hsh : WShape.hasAll [] args [.list .int] = true := (pre_splitW hpre).1
 have hc : l.pre.holds [] { args := args } = true := (pre_splitW hpre).2
 obtain ⟨d, r, rfl, h1, h2⟩ := hasAllW_cons hsh
 obtain rfl := hasAllW_nil h2
 obtain ⟨xs, rfl, h3⟩ := hasW_list h1
 obtain ⟨ns, rfl⟩ := items_int h3
 have hlen : ns.length ≤ n := by
   unfold OpenLaw.pre at hc
   have h4 : (WTm.not (.lt (.lit (.int (n : Int))) (.len (.arg 0)))).holds [] { args := [.list (ns.map .int)] } = true := by
     have h4 := (holds_andW hc).1
     rw [hn] at h4
     exact h4
   have h5 := condW_of h4 (w_not (w_lt w_lit (w_len_list (w_arg rfl))))
   rw [List.length_map] at h5
   refine Nat.le_of_not_lt fun q => ?_
   have q' : (n : Int) < ((ns.length : Nat) : Int) := by omega
   first
     | (rw [decide_eq_true q'] at h5; exact absurd h5 (by decide))
     | (simp at h5; omega)
 cases hwl with
 | cons w1 w2 =>
   cases w2
   cases w1 with
   | list ho hall => exact ⟨_, _, ns, rfl, rfl, ho, ints_of_wellAll ns _ hall, hlen⟩
theorem post_true (l : OpenLaw) (args : List WData) : l.row.toRowW.claim.post args (.bool true) args = true :=
 postW_of (r := l.row.toRowW) (X := (true == true))
   (show WShape.has [] (.bool true) .bool = true by first | rfl | decide | simp [WShape.has, WShape.arms, WShape.armsAll])
   (show (WTm.eq .res (.lit (.bool true))).value [] { args := args, res := some (.bool true), after := args } = some (.bool (true == true)) from w_eq_bool (w_res rfl) w_lit) rfl
theorem attach_call {l : OpenLaw} {n : Nat} {q : Program} {loose : List Str} {XP : (Str → Option Value) → Heap → Prop} {YP : World → Heap → Prop} {d : DefRec}
   (hn : l.most = some n) (hdf : d.params.defaults = [])
   (call : ∀ (w : World) (s₀ s₁ : Shared) (mg mb : Str → Option Value) (fa : Addr) (o : Obj) (pm cd doc : Value) (a : Addr) (vs : List Value) (ns : List Int),
     Ground q loose [] XP w s₀ mg mb s₁.heap → YP w s₁.heap →
     s₁.heap.get? fa = some o → o.data = .func (docDef d.name d.params d.body d.scope pm cd doc) → s₁.heap.CodeRec cd d.name → mg d.name = some (.ref fa) →
     s₁.heap.get? a = some { cls := .type "list", data := .seq vs.toArray } → IntsAre vs ns → ns.length ≤ n → s₁.gens = #[] →
     codeAny (model l.prog w) callerA (.call (.ref fa) ⟨[.ref a], []⟩) (fun r s' => r = .ok (.ret (.bool true)) ∧ OldK s₁.heap s'.heap ∧ s'.os = s₁.os ∧ AllBare s'.gens) s₁) :
   WalkO q loose XP YP l.row.toRowW d [] (fun f vs => PySem.call f vs) := by
 intro w s₀ s₁ mg mb G Y fa o pm cd doc dV kV ho hd hcd hD hmg hg args vals as hpre hlay hrd hwl hlo
 obtain rfl : dV = .none := Dflts.none hD hdf
 obtain rfl : kV = .none := Dflts.noKw hD
 obtain ⟨a, vs, ns, rfl, rfl, hobj, hints, hlen⟩ := script_of hn hpre hwl
 refine enter_call (codeAny_mono (call w s₀ s₁ mg mb fa o pm cd doc a vs ns G Y ho (fd_plain hd) hcd hmg hobj hints hlen hg) fun r s' hq => ?_)
 obtain ⟨rfl, h2, h3, h4⟩ := hq
 exact ⟨.inl ⟨.bool true, .bool true, [], rfl, fun _ => rfl, .bool true, post_true l _, fun _ => ⟨List.Pairwise.nil, fun _ hm => (nomatch hm)⟩⟩, h2, h3, h4⟩
section
variable {prog : Program} {w : World} {A : Around} {E : Value → Shared → Prop} {s : Shared} {K : Frag}
end
end Att
namespace L2
open PySem PySem.Spec PyProof.Rows
theorem vals_ints : ∀ {vs : List Value} {ns : List Int}, IntsAre vs ns → Vals (ns.map V.int) vs
 | _, _, .nil => .nil
 | _, _, .cons n t h => .cons ⟨t, rfl⟩ (vals_ints h)
def Only (H : Hp) : Prop := ∀ b, H b = none ∨ ∃ o xs, H b = some (.frz o (.lst xs))
theorem law_call {P : Program} {w : World} {K : PySem.W.Frag} {mg mb : Str → Option Value} {CX : CXT} {k : Nat} {fa a : Addr} {fd : FuncData} {x : Str} {sp : Sp} {s₁ : Shared} {vs : List Value} {ns : List Int}
   (KX : K.In s₁.heap) (hns : s₁.heap.Ns mainGlobals mg) (hb : s₁.heap.Ns builtinsNs mb) (hbb : ∀ x : Str, x ≠ "__name__" → mb x = bootBuiltins x) (hlim : s₁.heap.NoLimit) (hg : s₁.gens = #[])
   (ha : s₁.heap.get? a = some { cls := .type "list", data := .seq vs.toArray }) (hi : IntsAre vs ns) (hl : ns.length ≤ sizeLine) (hr : Room k callerA)
   (F : ∀ base : Heap, K.In base → base.Ns mainGlobals mg → FnOk P w K mg base CX k fa fd [x] sp) (hbind : ∀ (s : Shared) (u : Value), BindsTo s fd ⟨[u], []⟩ [(x, u)])
   (hsp : ∀ H : Hp, Only H → SqL K H a (ns.map V.int) → sp [.ref a] H (fun v _ => v = .bl true) fun _ _ _ => False)
   (hCX : ∀ H e s', CX [] H s₁ (fun _ _ _ => False) e s' → False) :
   codeAny (model P w) callerA (.call (.ref fa) ⟨[.ref a], []⟩) (fun r s' => r = .ok (.ret (.bool true)) ∧ OldK s₁.heap s'.heap ∧ s'.os = s₁.os ∧ AllBare s'.gens) s₁ := by
 have rv := vals_ints hi
 have lenV := hi.length
 -- from an abstract heap in which nothing but the script may be tracked
 have core : ∀ H : Hp, Only H → SqL K H a (ns.map V.int) → HOk P w H s₁.heap → (∀ b, H b ≠ none → b = a) → (H a ≠ none → K.lookup a = none) →
     codeAny (model P w) callerA (.call (.ref fa) ⟨[.ref a], []⟩) (fun r s' => r = .ok (.ret (.bool true)) ∧ OldK s₁.heap s'.heap ∧ s'.os = s₁.os ∧ AllBare s'.gens) s₁ := by
   intro H hO hS hok hA hK
   have base_of : ∀ {b : Addr} {o : Obj}, s₁.heap.get? b = some o → H b = none → (hidT s₁.heap H).get? b = some o := fun e n => hidT_get e n
   have noA : ∀ {b : Addr} {o : Obj} {es : Array DictEntry} {ep : Nat}, s₁.heap.get? b = some o → o.data = .dict es ep → H b = none := fun {b o es ep} e d => by
     cases q : H b with
     | none => rfl
     | some u =>
       have e' : b = a := hA b (by rw [q]; simp)
       subst e'
       rw [ha] at e; cases e
       have d' : Data.seq vs.toArray _ = Data.dict es ep := d
       cases d'
   have nsK : ∀ {b : Addr} {m : Str → Option Value}, s₁.heap.Ns b m → (hidT s₁.heap H).Ns b m := fun {b m} ⟨o, es, ep, e, d, r⟩ => ⟨o, es, ep, base_of e (noA e d), d, r⟩
   have hKb : K.In (hidT s₁.heap H) := fun b o e => base_of (KX b o e) (by
     cases q : H b with
     | none => rfl
     | some u =>
       have e' : b = a := hA b (by rw [q]; simp)
       subst e'
       rw [hK (by rw [q]; simp)] at e; cases e)
   have hM : Mod K mg (hidT s₁.heap H) := ⟨hKb, nsK hns, ⟨mb, nsK hb, hbb⟩, let ⟨mc, h1, h2⟩ := hlim; ⟨mc, nsK h1, h2⟩⟩
   have e0 : Env0 P w K mg (hidT s₁.heap H) callerA [] s₁ H := ⟨rfl, hM, fun b o e => of_hidT e, Nat.le_of_eq (hidT_size _ _), trivial, fun b hb => absurd (show b ∈ ([] : List Addr) from hb) (by simp), hok, .of_eq hg⟩
   refine codeAny_mono ((F _ hKb (nsK hns)).run callerA [] s₁ H ⟨[.ref a], []⟩ [.ref a] [.ref a] _ _ hr e0 (hbind s₁ (.ref a)) (.cons rfl .nil) (hsp H hO hS)) fun r s' h => ?_
   cases r with
   | error e => exact (hCX H e s' h).elim
   | ok fl =>
     cases fl with
     | next => exact False.elim h
     | brk => exact False.elim h
     | cont => exact False.elim h
     | ret u =>
       obtain ⟨v, H', os, bare, un, hok', r', q⟩ := h
       have q' : v = .bl true := q
       subst q'
       obtain rfl : u = Value.bool true := r'
       refine ⟨rfl, OldK.of_keep fun b o e => ?_, os, bare⟩
       cases q : H b with
       | none => exact un.keep b o e q (by intro z; exact absurd (show b ∈ ([] : List Addr) from z) (by simp)) (by simp)
       | some u =>
         rcases hO b with z | ⟨ob, xs, z⟩
         · rw [q] at z; cases z
         · have z2 := un.frzs b ob _ z
           obtain ⟨e1, _⟩ := hok b _ z
           obtain ⟨e2, _⟩ := hok' b _ z2
           rw [e] at e1; cases e1
           exact e2
 cases hk : K.lookup a with
 | some o =>
   -- the script is one of the module's own objects
   have e := KX a o hk
   rw [ha] at e
   cases e
   refine core (fun _ => none) (fun _ => .inl rfl) (.inr ⟨_, vs.toArray, _, hk, rfl, rfl, rfl, by rw [List.size_toArray, lenV]; exact hl, by simpa using rv⟩) (fun b u z => by have z' : (none : Option HO) = some u := z; cases z') (fun b z => absurd rfl z) fun z => absurd rfl z
 | none =>
   refine core (fun b => if b = a then some (.frz { cls := .type "list", data := .seq vs.toArray } (.lst (ns.map V.int))) else none) (fun b => ?_) (.inl (.inr ⟨{ cls := .type "list", data := .seq vs.toArray }, if_pos rfl⟩)) (fun b u z => ?_) (fun b z => ?_) fun _ => hk
   · by_cases hb : b = a
     · exact .inr ⟨_, _, if_pos hb⟩
     · exact .inl (if_neg hb)
   · by_cases hb : b = a
     · have z' := (if_pos hb).symm.trans z
       cases z'
       subst hb
       exact ⟨ha, by rw [List.length_map]; exact hl, vs, _, rv, ha⟩
     · have z' := (if_neg hb).symm.trans z
       cases z'
   · by_cases hb : b = a
     · exact hb
     · exact absurd (if_neg hb) z
end L2
namespace L2
open PySem PySem.Spec PyProof.Rows
abbrev KOf {K : PySem.W.Frag} {h : Heap} (_ : K.In h) : PySem.W.Frag := K
theorem walk_of {l : PySem.W.OpenLaw} {n k : Nat} {q : Program} {loose : List Str} {XP : (Str → Option Value) → Heap → Prop} {YP : World → Heap → Prop} {d : DefRec} {K : Params → PySem.W.Frag} {CX : World → CXT} {sp : World → Sp} {x : Str}
   (hn : l.most = some n) (hn2 : n ≤ sizeLine) (hdf : d.params.defaults = []) (hr : Room k callerA)
   (hY : ∀ (w : World) (h : Heap), YP w h → (K w.params).In h)
   (F : ∀ (w : World) (mg : Str → Option Value) (fa : Addr) (h : Heap), (K w.params).In h → h.Ns mainGlobals mg → mg d.name = some (.ref fa) →
     ∃ fd : FuncData, (∀ (s : Shared) (u : Value), BindsTo s fd ⟨[u], []⟩ [(x, u)]) ∧
       ∀ base : Heap, (K w.params).In base → base.Ns mainGlobals mg → FnOk l.prog w (K w.params) mg base (CX w) k fa fd [x] (sp w))
   (hsp : ∀ (w : World) (H : Hp) (a : Addr) (ns : List Int), ns.length ≤ n → Only H → SqL (K w.params) H a (ns.map V.int) → sp w [.ref a] H (fun v _ => v = .bl true) fun _ _ _ => False)
   (hCX : ∀ (w : World) (H : Hp) (s : Shared) (e : Value) (s' : Shared), CX w [] H s (fun _ _ _ => False) e s' → False) :
   PySem.W.WalkO q loose XP YP l.row.toRowW d [] (fun f vs => PySem.call f vs) := by
 refine Att.attach_call hn hdf fun w s₀ s₁ mg mb fa o pm cd doc a vs ns G Y ho hd hcd hmg hobj hints hlen hg => ?_
 have KX := hY w _ Y
 obtain ⟨fd, hb, hF⟩ := F w mg fa _ KX G.T.g hmg
 exact law_call KX G.T.g G.T.b G.T.builtins G.T.nolimit hg hobj hints (Nat.le_trans hlen hn2) hr hF hb (fun H hO hS => hsp w H a ns hlen hO hS) fun H e s' => hCX w H s₁ e s'
end L2
namespace L2
open PySem PySem.Spec PyProof.Rows
def inClass (s : Stmt) (j : Nat) : Stmt := match s with
 | .ClassDef _ _ _ body _ _ _ _ _ _ _ => body.getD j (.Pass ⟨0, 0, 0, 0⟩)
 | _ => .Pass ⟨0, 0, 0, 0⟩
def defArgs (s : Stmt) : Arguments := match s with
 | .FunctionDef _ a _ _ _ _ _ _ _ _ => a
 | _ => { posonlyargs := [], args := [], vararg := none, kwonlyargs := [], kw_defaults := [], kwarg := none, defaults := [] }
def defBody (s : Stmt) : List Stmt := match s with
 | .FunctionDef _ _ b _ _ _ _ _ _ _ => b
 | _ => []
def defScope (s : Stmt) : Scope := match s with
 | .FunctionDef _ _ _ _ _ _ sc _ _ _ => sc
 | _ => { kind := .function, names := [], isGenerator := false, isCoroutine := false }
abbrev CX0 : CXT := fun _ _ _ _ _ _ => False
abbrev E0 : XK := fun _ _ _ => False
theorem pass0 {X : Cx} : Passes CX0 X E0 := fun _ _ _ _ _ _ _ h => h.elim
structure Fun (K : PySem.W.Frag) (x qual : Str) (st : Stmt) (f : Addr) (fd : FuncData) : Prop where
 ex : ∃ (oc : Value) (od : Option Addr) (kV doc pm : Value) (an : Option Addr) (cdv ct : Value) (osl : Array (Option Value)),
   fd = PySem.W.fnOf x qual (defArgs st) (defBody st) (defScope st) .none kV doc pm an cdv ct ∧ K.lookup f = some ⟨oc, od, .func fd, osl⟩ ∧ PySem.W.codeIn K cdv qual = true
 kp : PySem.W.keepIn K (.ref f) = true
section
variable {P : Program} {w : World} {K : PySem.W.Frag} {mg : Str → Option Value} {base : Heap}
theorem Fun.ok {x qual : Str} {st : Stmt} {f : Addr} {fd : FuncData} {N ps : List Str} {k : Nat} {sp : Sp} (F : Fun K x qual st f fd) (S : FnScope N ps (defScope st)) (len : ∀ vs H Q E, sp vs H Q E → vs.length = ps.length)
   (hbody : ∀ (cdv : Value) (A : Around) (outer : List Env) (s : Shared) (H : Hp) (vs : List V) (Q : VK) (E : XK), Room k (A.deeper (envOfC qual (defScope st) s.heap.objs.size f cdv)) → sp vs H Q E →
     ∃ t, PSs (cxOf CX0 P w K mg base N qual (defScope st) f cdv A outer s H E).nox (defBody st) t ∧ t { nx := fun _ H' => Q .non H', rt := Q } (start N vs) H) : FnOk P w K mg base CX0 (k + 1) f fd ps sp := by
 obtain ⟨oc, od, kV, doc, pm, an, cdv, ct, osl, rfl, lk, hcd⟩ := F.ex
 refine fn_of lk hcd S len fun A outer s H vs Q E hr hsp => ?_
 obtain ⟨t, h, q⟩ := hbody cdv A outer s H vs Q E hr hsp
 exact ⟨t, h.nox, q⟩
theorem Fun.binds {x qual : Str} {st : Stmt} {f : Addr} {fd : FuncData} {ps : List Str} (F : Fun K x qual st f fd)
   (h : ∀ (kV doc pm : Value) (an : Option Addr) (cdv ct : Value) (us : List Value), us.length = ps.length → bindArgs (PySem.W.fnOf x qual (defArgs st) (defBody st) (defScope st) .none kV doc pm an cdv ct) ⟨us, []⟩ = pure (ps.zip us)) : Binds K fd ps [] := by
 obtain ⟨oc, od, kV, doc, pm, an, cdv, ct, osl, rfl, lk, hcd⟩ := F.ex
 exact .all (h kV doc pm an cdv ct)
theorem fun_mk {x qual : Str} {st : Stmt} {f : Addr} {oc : Value} {od an : Option Addr} {osl : Array (Option Value)} {kV doc pm cdv ct : Value} (l : K.lookup f = some ⟨oc, od, .func (PySem.W.fnOf x qual (defArgs st) (defBody st) (defScope st) .none kV doc pm an cdv ct), osl⟩)
   (c : PySem.W.codeIn K cdv qual = true) (k : PySem.W.keepIn K (.ref f) = true) : Fun K x qual st f (PySem.W.fnOf x qual (defArgs st) (defBody st) (defScope st) .none kV doc pm an cdv ct) := ⟨⟨oc, od, kV, doc, pm, an, cdv, ct, osl, rfl, l, c⟩, k⟩
end
section
variable {X : Cx}
theorem pv (i : Nat) {x : Str} {pos : Pos} (hN : X.N[i]? = some x := by rfl) (hv : Vis X.env.scope x := by first | exact Or.inl rfl | exact Or.inr (Or.inl rfl) | exact Or.inr (Or.inr rfl)) (hd : (x == ("__debug__" : Str)) = false := by decide)
   (hcd : (x == ("__classdict__" : Str)) = false := by decide) : PE X (.Name x pos) (tVar i) := pe_var hN hv hd hcd
end
theorem iteF {A B : Prop} (h : B) : if false = true then A else B := by
 rw [if_neg Bool.false_ne_true]
 exact h
theorem iteT {A B : Prop} (h : A) : if true = true then A else B := by
 rw [if_pos rfl]
 exact h
def Same (H H' : Hp) : Prop := ∀ b o, H b = some o → H' b = some o
theorem Same.refl (H : Hp) : Same H H := fun _ _ h => h
theorem Same.trans {H H1 H2 : Hp} (a : Same H H1) (b : Same H1 H2) : Same H H2 := fun c o h => b c o (a c o h)
theorem Same.seq {K : PySem.W.Frag} {H H' : Hp} {a : Addr} {xs : List V} (e : Same H H') (h : SqL K H a xs) : SqL K H' a xs := by
 rcases h with (h | ⟨o, h⟩) | h
 · exact .inl (.inl (e _ _ h))
 · exact .inl (.inr ⟨o, e _ _ h⟩)
 · exact .inr h
section
variable {κ : Type} [DecidableEq κ]
end
end L2
namespace Bt
end Bt
namespace L3
open PySem PySem.Spec PyProof.Rows L2
abbrev St := L2.St
def lstO (its : List Value) : Obj := { cls := .type "list", data := .seq its.toArray its.length }
theorem lstO_snoc (its : List Value) (y : Value) : ({ cls := .type "list", data := .seq (its.toArray.push y) (its.length + 1) } : Obj) = lstO (its ++ [y]) := by
 show ({ cls := .type "list", data := .seq (its.toArray.push y) (its.length + 1) } : Obj) = { cls := .type "list", data := .seq (its ++ [y]).toArray (its ++ [y]).length }
 rw [List.length_append, List.length_singleton, List.push_toArray]
section
variable {prog : Program} {w : World} {A : Around} {R : Result → Shared → Prop} {s : Shared}
theorem compLoop_go {elt target iter : Expr} {ifs : List Expr} {scope : Scope} {pos : Pos} {it acc : Value} {env : Env} (I : Nat → Shared → Prop)
   (turn : ∀ n s, I n s → wpAny (model prog w) A (pyNext it) (fun r s1 => match r with
     | none => R (.ok .next) s1
     | some v => wpAny (model prog w) A (letOwnedTupleGo target it v) (fun _ s2 => wpAny (model prog w) A (assign target env v) (fun _ s3 =>
         wpAny (model prog w) A (forIn ifs true fun c r => if r = true then do let ok ← isTrue c env (eval c env); pure (ForInStep.yield ok) else pure (ForInStep.yield r)) (fun ok s4 =>
           if ok = true then wpAny (model prog w) A (eval elt env) (fun x s5 =>
             wpAny (model prog w) A (call (.builtin "list.append") [acc, x]) (fun _ s6 => ∃ m, m < n ∧ I m s6) (notedBy (model prog w) A env fun e s' => R (.error e) s') s5) (notedBy (model prog w) A env fun e s' => R (.error e) s') s4
           else ∃ m, m < n ∧ I m s4) (notedBy (model prog w) A env fun e s' => R (.error e) s') s3) (notedBy (model prog w) A env fun e s' => R (.error e) s') s2)
         (notedBy (model prog w) A env fun e s' => R (.error e) s') s1) (notedBy (model prog w) A env fun e s' => R (.error e) s') s)
   (n : Nat) (h : I n s) :
   codeAny (model prog w) A (.compLoop (.ListComp elt [⟨target, iter, ifs, 0⟩] scope pos) 0 it acc env) R s := by
 refine codeAny_loop rfl I (fun n s hI => ?_) n h
 show wpAny _ A ((compTurn (.ListComp elt [⟨target, iter, ifs, 0⟩] scope pos) 0 it acc env).onRaise (fun x => do noteFrame x env; theTreesLotGoes x)) _ _ s
 refine wpAny_noted ?_
 rw [compTurn_list]
 refine wpAny_bind (wpAny_standAt (wpAny_bind (wpAny_mono (turn n s hI) (fun r s1 h1 => ?_) fun _ _ h' => h')))
 cases r with
 | none => exact wpAny_pure h1
 | some v =>
   refine wpAny_bind (wpAny_mono h1 (fun _ s2 h2 => ?_) fun _ _ h' => h')
   refine wpAny_bind (wpAny_mono h2 (fun _ s3 h3 => wpAny_bind (wpAny_mono h3 (fun ok s4 h4 => ?_) fun _ _ h' => h')) fun _ _ h' => h')
   cases ok with
   | false => exact wpAny_pure ⟨rfl, h4⟩
   | true =>
     exact wpAny_bind (wpAny_bind (wpAny_mono h4 (fun x s5 h5 => wpAny_bind (wpAny_mono h5 (fun _ s6 h6 => wpAny_pure (wpAny_pure ⟨rfl, h6⟩)) fun _ _ h' => h')) fun _ _ h' => h'))
end
def cxComp (X : Cx) (scope : Scope) (cl : List (Str × Addr)) (own : List Str) (fr : List (Str × Nat)) (C : Addr) (s2 : Shared) (H2 : Hp) (fp : List Addr) : Cx :=
 { prog := X.prog, w := X.w, K := X.K, mg := X.mg, base := X.base, A := X.A, N := own ++ fr.map (·.1), s₀ := s2, H₀ := H2, env := compEnvC scope cl C X.env, outer := X.stack, stack := X.stack,
   ex := fp, fn := fun _ => false, calm := X.calm, pn := [], xe := fun _ _ => False }
def innerS (own : List Str) (fr : List (Str × Nat)) (σ : St) : St := own.map (fun _ => none) ++ fr.map fun p => (σ[p.2]?).join
def ClOk (env : Env) : List (Str × Addr) → Prop
 | [] => True
 | (n, c) :: r => env.cells.lookup n = some c ∧ ClOk env r
theorem ClOk.get {env : Env} : ∀ {cl : List (Str × Addr)} {x : Str} {c : Addr}, ClOk env cl → cl.lookup x = some c → env.cells.lookup x = some c
 | [], _, _, _, h => by simp at h
 | (n, d) :: r, x, c, ok, h => by
   rw [List.lookup_cons] at h
   cases e : x == n with
   | true =>
     rw [e] at h
     have e' : x = n := by simpa using e
     cases h
     rw [e']
     exact ok.1
   | false =>
     rw [e] at h
     exact ClOk.get ok.2 h
def CellK (sc : Scope) (x : Str) : Prop := sc.names.lookup x = some .cell ∨ sc.names.lookup x = some .free
def FrOk (X : Cx) (scope : Scope) (cl : List (Str × Addr)) : List (Str × Nat) → Prop
 | [] => True
 | (x, j) :: r => (X.N[j]? = some x ∧ CellK X.env.scope x ∧ CellK (relabel scope X.env) x ∧ (cl.lookup x).isSome = true) ∧ FrOk X scope cl r
theorem FrOk.get {X : Cx} {scope : Scope} {cl : List (Str × Addr)} : ∀ {fr : List (Str × Nat)} {i : Nat} {p : Str × Nat}, FrOk X scope cl fr → fr[i]? = some p →
   X.N[p.2]? = some p.1 ∧ CellK X.env.scope p.1 ∧ CellK (relabel scope X.env) p.1 ∧ (cl.lookup p.1).isSome = true
 | [], _, _, _, h => by simp at h
 | (x, j) :: r, 0, p, ok, h => by
   simp at h
   subst h
   exact ok.1
 | (x, j) :: r, i + 1, p, ok, h => FrOk.get (i := i) ok.2 (by simpa using h)
structure CompSc (X : Cx) (scope : Scope) (cl : List (Str × Addr)) (own : List Str) (fr : List (Str × Nat)) : Prop where
 clos : closureFor scope X.env = pure cl
 cells : ClOk X.env cl
 frs : FrOk X scope cl fr
 kind : scope.kind = .function
 nocell : ∀ y ∈ scope.names, y.2 ≠ .cell
 names : ∀ y ∈ scope.names, y.2 = .local → scope.names.lookup y.1 = some .local
 has : (scope.names.all fun y => y.2 != .free || (cl.lookup y.1).isSome) = true
theorem lookup_relabel_has {env : Env} {cl : List (Str × Addr)} : ∀ {names : List (Str × NameKind)} {x : Str}, (∀ y ∈ names, y.2 ≠ .cell) → (names.all fun y => y.2 != .free || (cl.lookup y.1).isSome) = true →
   ((names.map fun (n, k) => if (k == NameKind.free && env.scope.kind == .function && env.kindOf n == some .cell) then (n, NameKind.cell) else (n, k)).lookup x = some .cell ∨
    (names.map fun (n, k) => if (k == NameKind.free && env.scope.kind == .function && env.kindOf n == some .cell) then (n, NameKind.cell) else (n, k)).lookup x = some .free) → ∃ c, cl.lookup x = some c
 | [], _, _, _, h => by rcases h with h | h <;> simp at h
 | (n, k) :: r, x, nc, ha, h => by
   rw [List.all_cons, Bool.and_eq_true] at ha
   have ih := @lookup_relabel_has env cl r x (fun y hy => nc y (List.mem_cons_of_mem _ hy)) ha.2
   have nk : k ≠ .cell := nc (n, k) List.mem_cons_self
   have hk := ha.1
   cases hx : x == n with
   | true =>
     have ex : x = n := by simpa using hx
     subst ex
     by_cases hf : k = .free
     · subst hf
       have z : (cl.lookup x).isSome = true := by simpa using hk
       exact Option.isSome_iff_exists.mp z
     · exfalso
       have hb : (k == NameKind.free) = false := by simpa using hf
       rcases h with h | h
       · rw [List.map_cons] at h
         simp only [hb, Bool.false_and, Bool.false_eq_true, if_false, List.lookup_cons, beq_self_eq_true] at h
         exact nk (Option.some.inj h)
       · rw [List.map_cons] at h
         simp only [hb, Bool.false_and, Bool.false_eq_true, if_false, List.lookup_cons, beq_self_eq_true] at h
         exact hf (Option.some.inj h)
   | false =>
     refine ih ?_
     rcases h with h | h
     · left
       rw [List.map_cons] at h
       by_cases hc : (k == NameKind.free && env.scope.kind == .function && env.kindOf n == some .cell) = true
       · simp only [hc, if_true, List.lookup_cons, hx] at h; exact h
       · simp only [hc, Bool.false_eq_true, if_false, List.lookup_cons, hx] at h; exact h
     · right
       rw [List.map_cons] at h
       by_cases hc : (k == NameKind.free && env.scope.kind == .function && env.kindOf n == some .cell) = true
       · simp only [hc, if_true, List.lookup_cons, hx] at h; exact h
       · simp only [hc, Bool.false_eq_true, if_false, List.lookup_cons, hx] at h; exact h
def PTs (Y : Cx) (ifs : List Expr) (t : TT) : Prop :=
 ∀ (pins : List (Addr × Obj)) (s : Shared) (σ : St) (H : Hp) (Q : Bool → Hp → Prop), Inv Y pins σ H s → t σ H Q →
   wpAny (model Y.prog Y.w) Y.A (forIn ifs true fun c r => if r = true then do let ok ← isTrue c Y.env (eval c Y.env); pure (ForInStep.yield ok) else pure (ForInStep.yield r)) (TP Y pins σ Q) Y.xe s
def tTrue : TT := fun _ H Q => Q true H
theorem pts_nil {Y : Cx} : PTs Y [] tTrue := fun _ _ _ H _ I h => wpAny_tests_nil ⟨H, I, h⟩
theorem pts_one {Y : Cx} {c : Expr} {t : TT} (h : PT Y c t) : PTs Y [c] t := fun pins s σ H Q I hw => wpAny_tests_one (h pins s σ H Q I hw)
def tComp (own : List Str) (fr : List (Str × Nat)) (wi : TI) (g : TG) (tc : TT) (te : TE) (fin : List V → Hp → Prop) : St → Hp → Prop := fun σ H => wi σ H fun J H1 =>
 ∃ W : Nat → Nat → List V → St → Hp → Prop, (∃ m, W 0 m [] (innerS own fr σ) H1) ∧ ∀ i m ys σ' H', W i m ys σ' H' →
   (J.stop i H' ∧ ys.length ≤ sizeLine ∧ fin ys H') ∨
   (J.go i H' ∧ ∃ N : List V → St → Hp → Prop, (∀ ys2 σ2 H2, N ys2 σ2 H2 → ys2.length ≤ sizeLine ∧ ∃ m', m' < m ∧ W (i + 1) m' ys2 σ2 H2) ∧
     ∀ x H2, J.yld i H' x H2 → g x σ' H2 fun σ3 H3 => tc σ3 H3 fun b H4 => if b = true then te σ3 H4 fun y H5 => N (ys ++ [y]) σ3 H5 else N ys σ3 H4)
structure Off (X : Cx) (pins : List (Addr × Obj)) (H : Hp) (C : Addr) : Prop where
 none : H C = none
 loc : C ≠ X.env.locals
 above : X.s₀.heap.objs.size ≤ C
 cell : ∀ x c, X.env.cells.lookup x = some c → c ≠ C
 pin : ∀ p ∈ X.pn ++ pins, p.1 ≠ C
section
variable {X : Cx} {tg elt iter : Expr} {ifs : List Expr} {scope : Scope} {cl : List (Str × Addr)} {own : List Str} {fr : List (Str × Nat)} {wi : TI} {g : TG} {tc : TT} {te : TE} {pos : Pos}
theorem comp_core (hc : X.calm = true) (S : CompSc X scope cl own fr) (hi : PI X tg iter wi) (hg : ∀ C s2 H2 fp, PG (cxComp X scope cl own fr C s2 H2 fp) tg g)
   (ht : ∀ C s2 H2 fp, PTs (cxComp X scope cl own fr C s2 H2 fp) ifs tc) (he : ∀ C s2 H2 fp, PE (cxComp X scope cl own fr C s2 H2 fp) elt te)
   {pins : List (Addr × Obj)} {s : Shared} {σ : St} {H : Hp} {fin : List V → Hp → Prop} (I : Inv X pins σ H s) (h : tComp own fr wi g tc te fin σ H)
   {RR : Value → Addr → Result → Shared → Prop}
   (hR : ∀ (D C : Addr) (s4 : Shared) (H3 : Hp) (ys : List V) (m : Str → Option Value), H3 D = none → Inv X pins σ (upd H3 D (.lst ys)) s4 → s4.heap.Ns C m → Off X pins (upd H3 D (.lst ys)) C → fin ys H3 → RR (.ref D) C (.ok .next) s4) :
   wpAny (model X.prog X.w) X.A (eval iter X.env) (fun x s1 => wpAny (model X.prog X.w) X.A (pyIter x) (fun itv s2 => wpAny (model X.prog X.w) X.A (newList []) (fun acc s3 =>
     wpAny (model X.prog X.w) X.A (newFunctionEnv scope X.env.globals cl [] X.env.qual none .none (some X.env)) (fun cenv s4 =>
       codeAny (model X.prog X.w) X.A (.compStart (.ListComp elt [⟨tg, iter, ifs, 0⟩] scope pos) 0 itv acc { cenv with scope := relabel scope X.env }) (RR acc cenv.locals) s4) X.xe s3) X.xe s2) X.xe s1) X.xe s := by
 refine thn (hi pins s σ H _ I h) fun v s1 h1 => thn h1 fun itv s2 h2 => ?_
 obtain ⟨it, fp, tn, J, H2, rfl, I2, T, st2, f2, W, ⟨m0, w0⟩, turn⟩ := h2
 refine wpAny_newObj_type (wpAny_newFunctionEnv S.nocell (by intro y hy; simp at hy) (fun h1 hns1 hsb1 => ?_) S.kind)
 dsimp only at hns1 hsb1 ⊢
 generalize hHP : s2.heap.push { cls := .type "list", dict := none, data := .seq ([] : List Value).toArray } = HP at hns1 hsb1 ⊢
 have hC : HP.objs.size = s2.heap.objs.size + 1 := by rw [← hHP, Heap.size_push]
 have hDC : s2.heap.objs.size ≠ HP.objs.size := by rw [hC]; exact Nat.ne_of_lt (Nat.lt_succ_self _)
 have below : ∀ b, b < s2.heap.objs.size → b ≠ HP.objs.size ∧ b ≠ s2.heap.objs.size := fun b hb => ⟨by rw [hC]; exact Nat.ne_of_lt (Nat.lt_succ_of_lt hb), Nat.ne_of_lt hb⟩
 have old : ∀ b o, s2.heap.get? b = some o → h1.get? b = some o := fun b o e => hsb1.extBut b o (below b (Heap.lt_size e)).1 (Heap.get?_push_of_some _ (hHP ▸ Heap.get?_push_of_some _ e))
 have hacc : h1.get? s2.heap.objs.size = some (lstO []) := hsb1.extBut _ _ hDC (Heap.get?_push_of_some _ (hHP ▸ Heap.get?_push_size _ rfl))
 have hfpo : ∀ b ∈ fp, b < s2.heap.objs.size := fun b hb => by obtain ⟨o, e, _⟩ := T.obj 0 _ st2 b hb; exact Heap.lt_size e
 have hcells : ∀ x c, cl.lookup x = some c → X.env.cells.lookup x = some c := fun x c e => S.cells.get e
 have hcD : ∀ x c, X.env.cells.lookup x = some c → c < s2.heap.objs.size := fun x c e => by obtain ⟨v, q⟩ := I2.cell x c e; exact q.lt
 have st1 : tn 0 h1 := T.keep _ _ _ st2 fun b _ o e => old b o e
 have hDfree : H2 s2.heap.objs.size = none := I2.hok.fresh (Nat.le_refl _)
 have hCfree : H2 HP.objs.size = none := I2.hok.fresh (by rw [hC]; exact Nat.le_succ _)
 have nostk : ∀ b, s2.heap.objs.size ≤ b → b ∉ L2.frs X.stack := fun b hb hm => by
   rcases List.mem_cons.mp (I2.stkSub b hm) with e | e
   · exact absurd I2.lt (by rw [← e]; exact Nat.not_lt.mpr hb)
   · exact I2.nofs hb e
 have hDlt : s2.heap.objs.size < h1.objs.size := Heap.lt_size hacc
 -- the block's context
 have YOk : (cxComp X scope cl own fr HP.objs.size s2 H2 fp).Ok := by
   refine ⟨I2.ok.mod, S.kind, I2.ok.glob, I2.ok.blt, ?_, fun x y c e1 e2 => I2.ok.inj x y c (hcells _ _ e1) (hcells _ _ e2), fun x hx => ?_, fun x c hf => ?_, I2.ok.hd, I2.ok.frames, .inl rfl, fun b hb => ⟨?_, fun x c e => ?_⟩,
     I2.bs, Nat.le_trans I2.ok.bsz I2.sz, fun b o e hb => ?_, fun b hb hm => ?_, I2.stack, I2.stkFree⟩
   · show s2.heap.objs.size ≤ HP.objs.size
     rw [hC]; exact Nat.le_succ _
   · exact lookup_relabel_has (env := X.env) S.nocell S.has hx
   · cases hf
   · exact (below b (hfpo b hb)).1
   · exact (f2 b hb).2.2.2.2.1 x c (hcells _ _ e)
   · rcases (f2 b hb).2.2.2.1 with z | z
     · exact I2.ok.noex b o e z
     · exact absurd (Heap.lt_size (I2.ok.bs b o e).1) (Nat.not_lt.mpr z)
   · rcases List.mem_cons.mp (I2.stkSub b hm) with e | e
     · exact (f2 b hb).2.1 e
     · exact (f2 b hb).2.2.1 e
 have hpinD : ∀ {h' : Heap} {its : List Value} {H' : Hp}, h'.get? s2.heap.objs.size = some (lstO its) → H' s2.heap.objs.size = none → ∀ p ∈ ([(s2.heap.objs.size, lstO its)] : List (Addr × Obj)),
     h'.get? p.1 = some p.2 ∧ H' p.1 = none ∧ p.1 ≠ HP.objs.size ∧ p.1 ∉ L2.frs X.stack ∧ ∀ v, p.2.data ≠ .cell v := fun {h' its H'} e n p hp => by
   have e1 : p = (s2.heap.objs.size, lstO its) := by simpa using hp
   subst e1
   exact ⟨e, n, hDC, nostk _ (Nat.le_refl _), fun v z => by cases z⟩
 have IY : Inv (cxComp X scope cl own fr HP.objs.size s2 H2 fp) [(s2.heap.objs.size, lstO [])] (innerS own fr σ) H2 { s2 with heap := h1, toks := s2.toks + ([] : List (Str × Value)).length } := by
   refine ⟨YOk, rfl, I2.bare, Un.kept old, ⟨_, hns1, fun i x v e1 e2 e3 => ?_⟩, fun x c e => ?_, hCfree, fun x c e => I2.freeC x c (hcells _ _ e), hpinD hacc hDfree, I2.hok.kept old, ?_⟩
   · have e1' : (own ++ fr.map (·.1))[i]? = some x := e1
     have e2' : (own.map (fun _ => (none : Option V)) ++ fr.map fun p => (σ[p.2]?).join)[i]? = some (some v) := e2
     by_cases hi' : i < own.length
     · rw [List.getElem?_append_left (by simpa using hi'), List.getElem?_map] at e2'
       rw [List.getElem?_eq_getElem hi'] at e2'
       cases e2'
     · rw [List.getElem?_append_right (by simpa using hi'), List.getElem?_map] at e2'
       rw [List.getElem?_append_right (Nat.not_lt.mp hi'), List.getElem?_map] at e1'
       rw [List.length_map] at e2'
       cases ef : fr[i - own.length]? with
       | none => rw [ef] at e1'; cases e1'
       | some p =>
         rw [ef] at e1' e2'
         have ex : p.1 = x := Option.some.inj e1'
         have ev : (σ[p.2]?).join = some v := Option.some.inj e2'
         obtain ⟨hN, hk, hk2, hs⟩ := S.frs.get ef
         have eσ : σ[p.2]? = some (some v) := by
           cases q : σ[p.2]? with
           | none => rw [q] at ev; cases ev
           | some o => rw [q] at ev; exact congrArg some ev
         obtain ⟨m, hn, hl⟩ := I2.loc
         obtain ⟨u, r, l⟩ := hl p.2 p.1 v hN eσ (by rcases hk with k | k; exact .inr (.inl k); exact .inr (.inr k))
         subst ex
         obtain ⟨c, ec⟩ := Option.isSome_iff_exists.mp hs
         refine ⟨u, r, .inr ⟨hk2, c, ec, ?_⟩⟩
         rcases l with ⟨hl1, _⟩ | ⟨_, c', ec', z⟩
         · have hl1' : X.env.scope.names.lookup p.1 = some .local := hl1
           rcases hk with z | z
           · rw [z] at hl1'; cases hl1'
           · rw [z] at hl1'; cases hl1'
         · have := hcells _ _ ec
           rw [ec'] at this
           cases this
           exact z.keeps old
   · obtain ⟨v, z⟩ := I2.cell x c (hcells _ _ e)
     exact ⟨v, z.keeps old⟩
   · show (own.map (fun _ => (none : Option V)) ++ fr.map fun p => (σ[p.2]?).join).length = (own ++ fr.map (·.1)).length
     simp
 have stat : ∀ {its : List Value} {H' : Hp}, (∀ b ∈ fp, H' b = none) → ∀ b ∈ fp, FpOk (cxComp X scope cl own fr HP.objs.size s2 H2 fp) [(s2.heap.objs.size, lstO its)] H' b := fun {its H'} hn b hb =>
   ⟨hn b hb, (below b (hfpo b hb)).1, fun hm => by
       rcases List.mem_cons.mp (I2.stkSub b hm) with e | e
       · exact (f2 b hb).2.1 e
       · exact (f2 b hb).2.2.1 e, .inl hb, fun x c e => (f2 b hb).2.2.2.2.1 x c (hcells _ _ e), fun p hp => by
       have e1 : p = (s2.heap.objs.size, lstO its) := by
         have hp' : p ∈ ([] : List (Addr × Obj)) ++ [(s2.heap.objs.size, lstO its)] := hp
         simpa using hp'
       subst e1
       exact (below b (hfpo b hb)).2.symm⟩
 have loop : ∀ s3 : Shared, s3 = { s2 with heap := h1, toks := s2.toks + ([] : List (Str × Value)).length } →
     codeAny (model X.prog X.w) X.A (.compLoop (.ListComp elt [⟨tg, iter, ifs, 0⟩] scope pos) 0 (.ref it) (.ref s2.heap.objs.size) (compEnvC scope cl HP.objs.size X.env)) (RR (.ref s2.heap.objs.size) HP.objs.size) s3 := by
   rintro s3 rfl
   refine compLoop_go (fun n s' => ∃ i ys its σ' H', Inv (cxComp X scope cl own fr HP.objs.size s2 H2 fp) [(s2.heap.objs.size, lstO its)] σ' H' s' ∧ Vals ys its ∧ tn i s'.heap ∧ (∀ b ∈ fp, H' b = none) ∧ W i n ys σ' H') ?_ m0
     ⟨0, [], [], innerS own fr σ, H2, IY, .nil, st1, fun b hb => (f2 b hb).1, w0⟩
   rintro n s3 ⟨i, ys, its, σ3, H3, I3, rv, st3, fr3, w3⟩
   rcases turn i n ys σ3 H3 w3 with ⟨stop, hz, qn⟩ | ⟨go, N, hN, step⟩
   · refine wpAny_mono (T.done (cxComp X scope cl own fr HP.objs.size s2 H2 fp) rfl rfl rfl hc i _ s3 σ3 H3 (fun _ _ => False) I3 (stat fr3) st3 stop) (fun r s4 h4 => ?_) fun _ _ f => f.elim
     obtain ⟨hr, I4⟩ := h4
     subst hr
     obtain ⟨eD, nD, _⟩ := I4.pin (s2.heap.objs.size, lstO its) (by simp [cxComp])
     obtain ⟨m, hn, _⟩ := id I4.loc
     have nC : H3 HP.objs.size = none := I4.free
     have bu := I4.base
     have J4 : Inv X pins σ (upd H3 s2.heap.objs.size (.lst ys)) s4 := by
       refine I2.call' (ch := fp) I4.os ⟨fun b o e n hb hx => bu.keep b o e n hb hx, fun b o e n hb hx => bu.slot b o e n hb hx, fun b o e n hx => ?_, fun b o e hx => bu.there b o e hx, fun b xs e => ?_, fun b o u e => ?_, fun b ps e => ?_⟩ ?_ I4.bare ?_
       · rw [upd_ne (below b (Heap.lt_size e)).2]; exact bu.free b o e n hx
       · have z := bu.tups b xs e
         rw [upd_ne (ne_of_none z nD)]; exact z
       · have z := bu.frzs b o u e
         rw [upd_ne (ne_of_none z nD)]; exact z
       · obtain ⟨more, z⟩ := bu.tbls b ps e
         exact ⟨more, by rw [upd_ne (ne_of_none z nD)]; exact z⟩
       · intro b o e
         by_cases hb : b = s2.heap.objs.size
         · subst hb
           rw [upd_same] at e
           cases e
           exact ⟨hz, its, its.length, rv, eD⟩
         · rw [upd_ne hb] at e
           exact (I4.hok b o e).stay (fun c u _ q => q) (fun c q => by rw [upd_ne (ne_of_none q nD)]; exact q) fun c xs q => by rw [upd_ne (ne_of_none q nD)]; exact q
       · intro b hb
         exact ⟨(f2 b hb).2.2.2.1, (f2 b hb).2.1, (f2 b hb).2.2.2.2.1, (f2 b hb).2.2.2.2.2⟩
     refine hR _ _ s4 H3 ys m nD J4 hn ⟨?_, ?_, ?_, ?_, ?_⟩ qn
     · rw [upd_ne hDC.symm]; exact nC
     · exact Nat.ne_of_gt (Nat.lt_of_lt_of_le I2.lt (by rw [hC]; exact Nat.le_succ _))
     · exact Nat.le_trans I2.sz (by rw [hC]; exact Nat.le_succ _)
     · exact fun x c e => (below c (hcD x c e)).1
     · exact fun p hp => (below p.1 (Heap.lt_size (I2.pin p hp).1)).1
   · refine wpAny_mono (T.item (cxComp X scope cl own fr HP.objs.size s2 H2 fp) rfl rfl rfl hc i _ s3 σ3 H3 (fun _ _ => False) I3 (stat fr3) st3 go) (fun r s4 h4 => ?_) fun _ _ f => f.elim
     obtain ⟨u, hr, h4⟩ := h4
     subst hr
     refine wpAny_mono h4 (fun _ s5 h5 => ?_) fun _ _ f => f.elim
     obtain ⟨x, H5, I5, r5, y5, st5, fr5⟩ := h5
     have I5' := I5.pinned (stat fr5) (T.obj _ _ st5)
     refine wpAny_mono (hg _ _ _ _ _ s5 σ3 H5 x u _ I5' r5 (step x H5 y5)) (fun _ s6 h6 => ?_) fun _ _ f => f.elim
     obtain ⟨σ6, H6, I6, q6⟩ := h6
     refine wpAny_mono (ht _ _ _ _ _ s6 σ6 H6 _ I6 q6) (fun ok s7 h7 => ?_) fun _ _ f => f.elim
     obtain ⟨H7, I7, q7⟩ := h7
     have keepT : ∀ {σ8 : St} {H8 : Hp} {s8 : Shared} {l : List (Addr × Obj)}, Inv (cxComp X scope cl own fr HP.objs.size s2 H2 fp) (l ++ pinsAt fp s5.heap) σ8 H8 s8 → tn (i + 1) s8.heap ∧ ∀ b ∈ fp, H8 b = none := fun {σ8 H8 s8 l} I8 => by
       refine ⟨T.keep _ _ _ st5 fun b hb o e => (I8.pin (b, o) (List.mem_append_right _ (List.mem_append_right _ (mem_pinsAt hb e)))).1, fun b hb => ?_⟩
       obtain ⟨o, e, _⟩ := T.obj _ _ st5 b hb
       exact (I8.pin (b, o) (List.mem_append_right _ (List.mem_append_right _ (mem_pinsAt hb e)))).2.1
     cases ok with
     | false =>
       rw [if_neg Bool.false_ne_true] at q7 ⊢
       obtain ⟨_, m', hm, w7⟩ := hN _ _ _ q7
       exact ⟨m', hm, i + 1, ys, its, σ6, H7, I7.unpinned, rv, (keepT I7).1, (keepT I7).2, w7⟩
     | true =>
       rw [if_pos rfl] at q7 ⊢
       refine wpAny_mono (he _ _ _ _ _ s7 σ6 H7 _ I7 q7) (fun y s8 h8 => ?_) fun _ _ f => f.elim
       obtain ⟨yv, H8, I8, r8, n8⟩ := h8
       obtain ⟨hlt', m', hm, w8⟩ := hN _ _ _ n8
       have hlt : ys.length < sizeLine := by rw [List.length_append] at hlt'; exact hlt'
       obtain ⟨eD, nD, nL, _, _⟩ := I8.pin (s2.heap.objs.size, lstO its) (by simp [cxComp])
       refine append_at (its := its.toArray) (n := its.length) (hsz := by rw [List.size_toArray, ← rv.length]; exact Nat.le_of_lt hlt) eD fun h9 sb9 eD9 => ?_
       have I8p : Inv (cxComp X scope cl own fr HP.objs.size s2 H2 fp) (pinsAt fp s5.heap) σ6 H8 s8 := I8.pins_of fun p hp => I8.pin p (List.mem_append_right _ (List.mem_append_right _ hp))
       have I9p : Inv (cxComp X scope cl own fr HP.objs.size s2 H2 fp) (pinsAt fp s5.heap) σ6 H8 { s8 with heap := h9 } :=
         I8p.turned (t' := s8.toks) (fun b o hb e => (sb9.2 b hb).trans e) nD nL (.inr (Nat.le_refl _)) (fun x c e => (below c (hcD x c (hcells _ _ e))).2) fun p hp => by
           have hp' : p ∈ pinsAt fp s5.heap := by simpa [cxComp] using hp
           exact (below p.1 (hfpo _ (of_pinsAt hp').1)).2
       have eD9' : h9.get? s2.heap.objs.size = some (lstO (its ++ [y])) := eD9.trans (congrArg some (lstO_snoc its y))
       have I9 : Inv (cxComp X scope cl own fr HP.objs.size s2 H2 fp) [(s2.heap.objs.size, lstO (its ++ [y]))] σ6 H8 { s8 with heap := h9 } := I9p.pins_of (hpinD eD9' nD)
       have K9 := keepT (l := []) (by simpa using I9p)
       exact ⟨m', hm, i + 1, ys ++ [yv], its ++ [y], σ6, H8, I9, rv.append (.cons r8 .nil), K9.1, K9.2, w8⟩
 exact codeAny_compStart_list (loop _ rfl) (T.self _ 0 _ _ _ st1 (loop _ rfl))
def tCompE (own : List Str) (fr : List (Str × Nat)) (wi : TI) (g : TG) (tc : TT) (te : TE) : TE := fun σ H Q => tComp own fr wi g tc te (fun ys H3 => ∀ p, H3 p = none → Q (.ref p) (upd H3 p (.lst ys))) σ H
theorem pe_comp (hc : X.calm = true) (S : CompSc X scope cl own fr) (hi : PI X tg iter wi) (hg : ∀ C s2 H2 fp, PG (cxComp X scope cl own fr C s2 H2 fp) tg g)
   (ht : ∀ C s2 H2 fp, PTs (cxComp X scope cl own fr C s2 H2 fp) ifs tc) (he : ∀ C s2 H2 fp, PE (cxComp X scope cl own fr C s2 H2 fp) elt te)
   (hs : ∀ x, foldedSetIterable iter X.env x = pure x := by intro _; rfl) : PE X (.ListComp elt [⟨tg, iter, ifs, 0⟩] scope pos) (tCompE own fr wi g tc te) := by
 intro pins s σ H Q I h
 rw [eval_ListComp]
 refine wpAny_comprehension_free (use := none) rfl hs S.clos S.kind S.names ?_
 refine comp_core hc S hi hg ht he I h fun D C s4 H3 ys m nD J hn off q => ?_
 refine ⟨m, hn, fun h' sb => ⟨.ref D, _, J.turned (t' := s4.toks) (fun b o hb e => (sb.2 b hb).trans e) off.none off.loc (.inr off.above) off.cell off.pin, rfl, q D nD⟩⟩
def tCompS (i : Nat) (own : List Str) (fr : List (Str × Nat)) (wi : TI) (g : TG) (tc : TT) (te : TE) : TS := fun D σ H => tComp own fr wi g tc te (fun ys H3 => ∀ p, H3 p = none → D.nx (σ.set i (some (.ref p))) (upd H3 p (.lst ys))) σ H
theorem ps_setC {i : Nat} {y : Str} {py spos : Pos} (hN : X.N.Nodup) (hi' : X.N[i]? = some y) (hx : X.env.scope.names.lookup y = some .local) (hc : X.calm = true) (S : CompSc X scope cl own fr) (hi : PI X tg iter wi) (hg : ∀ C s2 H2 fp, PG (cxComp X scope cl own fr C s2 H2 fp) tg g)
   (ht : ∀ C s2 H2 fp, PTs (cxComp X scope cl own fr C s2 H2 fp) ifs tc) (he : ∀ C s2 H2 fp, PE (cxComp X scope cl own fr C s2 H2 fp) elt te)
   (hsw : swapsWith (.ListComp elt [⟨tg, iter, ifs, 0⟩] scope pos) (some (.Name y py)) spos.line X.env = pure true := by rfl)
   (hs : ∀ x, foldedSetIterable iter X.env x = pure x := by intro _; rfl) : PS X (.Assign [.Name y py] (.ListComp elt [⟨tg, iter, ifs, 0⟩] scope pos) spos) (tCompS i own fr wi g tc te) := by
 intro pins s σ H D I h
 rw [exec_Assign_Name_used _ _ _ _ hsw]
 refine wpAny_bind (wpAny_standAt (wpAny_bind ?_))
 show wpAny _ X.A (do let _ ← comprehension (.ListComp elt [⟨tg, iter, ifs, 0⟩] scope pos) scope X.env _ (newList []) false (eval iter X.env) (some (assign (.Name y py) X.env))) _ _ s
 refine wpAny_bind (wpAny_mono (wpAny_comprehension_free (use := some (assign (.Name y py) X.env)) (Q := fun _ s' => SP X pins D .next s') rfl hs S.clos S.kind S.names ?_) (fun _ s' hq => wpAny_pure (wpAny_pure hq)) fun _ _ e => e)
 refine comp_core hc S hi hg ht he I h fun Da C s4 H3 ys m nD J hn off q => ?_
 show wpAny _ X.A (assign (.Name y py) X.env (.ref Da)) _ _ _
 refine wpAny_assign_Name (store_ok2 J hN hi' (.inl hx) (v := .ref Da) rfl (fun s5 I5 hsb => ?_) (.inr hx))
 obtain ⟨a, sb, ha⟩ := hsb
 have nCa : C ≠ a := by
   rcases ha with z | z
   · rw [z]; exact off.loc
   · exact (off.cell _ _ z).symm
 refine ⟨m, hn.sameBut sb nCa, fun h' sb' => ⟨_, _, I5.turned (t' := s5.toks) (fun b o hb e => (sb'.2 b hb).trans e) off.none off.loc (.inr off.above) off.cell off.pin, q Da nD⟩⟩
end
section
variable {K : PySem.W.Frag} {a : Addr} {xs : List V} {own : List Str} {fr : List (Str × Nat)} {g : TG} {tc : TT} {te : TE} {fin : List V → Hp → Prop} {σ : St} {H : Hp}
def CompW (J : It) (g : TG) (tc : TT) (te : TE) (fin : List V → Hp → Prop) (σ0 : St) (H1 : Hp) : Prop :=
 ∃ W : Nat → Nat → List V → St → Hp → Prop, (∃ m, W 0 m [] σ0 H1) ∧ ∀ i m ys σ' H', W i m ys σ' H' →
   (J.stop i H' ∧ ys.length ≤ sizeLine ∧ fin ys H') ∨
   (J.go i H' ∧ ∃ N : List V → St → Hp → Prop, (∀ ys2 σ2 H2, N ys2 σ2 H2 → ys2.length ≤ sizeLine ∧ ∃ m', m' < m ∧ W (i + 1) m' ys2 σ2 H2) ∧
     ∀ x H2, J.yld i H' x H2 → g x σ' H2 fun σ3 H3 => tc σ3 H3 fun b H4 => if b = true then te σ3 H4 fun y H5 => N (ys ++ [y]) σ3 H5 else N ys σ3 H4)
theorem comp_list {σ0 : St} (Pv : Nat → List V → St → Hp → Prop) (h0 : Pv 0 [] σ0 H) (hl : ∀ i ys σ H, i ≤ xs.length → Pv i ys σ H → SqL K H a xs ∧ ys.length ≤ sizeLine)
   (hs : ∀ i x ys σ H, xs[i]? = some x → Pv i ys σ H → g x σ H fun σ3 H3 => tc σ3 H3 fun b H4 => if b = true then te σ3 H4 fun y H5 => Pv (i + 1) (ys ++ [y]) σ3 H5 else Pv (i + 1) ys σ3 H4)
   (hd : ∀ ys σ H, Pv xs.length ys σ H → fin ys H) : CompW (Itl K a) g tc te fin σ0 H := by
 refine ⟨fun i m ys σ H => m = xs.length - i ∧ i ≤ xs.length ∧ Pv i ys σ H, ⟨xs.length, by simp, Nat.zero_le _, h0⟩, ?_⟩
 rintro i m ys σ H ⟨rfl, hi, p⟩
 obtain ⟨q, hz⟩ := hl i ys σ H hi p
 by_cases hlt : i < xs.length
 · refine .inr ⟨⟨xs, xs[i], q, by simp [hlt]⟩, Pv (i + 1), fun ys2 σ2 H2 p' => ⟨(hl (i + 1) ys2 σ2 H2 hlt p').2, xs.length - (i + 1), by omega, rfl, hlt, p'⟩, fun x H2 y => ?_⟩
   obtain ⟨e, y⟩ := y
   subst e
   exact hs i x ys σ _ (y xs q) p
 · have e : i = xs.length := by omega
   subst e
   exact .inl ⟨⟨xs, q, Nat.le_refl _⟩, hz, hd ys σ H p⟩
theorem comp_range {σ0 : St} {lo : Int} {n : Nat} (Pv : Nat → List V → St → Hp → Prop) (h0 : Pv 0 [] σ0 H) (hl : ∀ i ys σ H, i ≤ n → Pv i ys σ H → ys.length ≤ sizeLine)
   (hs : ∀ i ys σ H, i < n → Pv i ys σ H → g (.int (lo + i)) σ H fun σ3 H3 => tc σ3 H3 fun b H4 => if b = true then te σ3 H4 fun y H5 => Pv (i + 1) (ys ++ [y]) σ3 H5 else Pv (i + 1) ys σ3 H4)
   (hd : ∀ ys σ H, Pv n ys σ H → fin ys H) : CompW (Itr lo n) g tc te fin σ0 H := by
 refine ⟨fun i m ys σ H => m = n - i ∧ i ≤ n ∧ Pv i ys σ H, ⟨n, by simp, Nat.zero_le _, h0⟩, ?_⟩
 rintro i m ys σ H ⟨rfl, hi, p⟩
 by_cases hlt : i < n
 · refine .inr ⟨hlt, Pv (i + 1), fun ys2 σ2 H2 p' => ⟨hl (i + 1) ys2 σ2 H2 hlt p', n - (i + 1), by omega, rfl, hlt, p'⟩, fun x H2 y => ?_⟩
   obtain ⟨e, y⟩ := y
   subst e y
   exact hs i ys σ _ hlt p
 · have e : i = n := by omega
   subst e
   exact .inl ⟨Nat.le_refl _, hl _ ys σ H hi p, hd ys σ H p⟩
end
end L3
namespace L3
open PySem PySem.Spec PyProof.Rows L2 PySem.SeqAt
theorem look_new {H : Hp} {p q : Addr} {o u : HO} (hq : H q = some u) (hp : H p = none) : upd H p o q = some u := by
 rw [upd_ne (ne_of_none hq hp)]; exact hq
theorem look_ne {H : Hp} {p q : Addr} {o : HO} {u : Option HO} (hne : q ≠ p) (hq : H q = u) : upd H p o q = u := by
 rw [upd_ne hne]; exact hq
theorem same_new {H : Hp} {p : Addr} {o : HO} (h : H p = none) : Same H (upd H p o) := fun b u q => look_new q h
theorem SqT_same {K : PySem.W.Frag} {H H' : Hp} {a : Addr} {xs : List V} (e : Same H H') (h : SqT K H a xs) : SqT K H' a xs := by
 rcases h with (h | ⟨o, h⟩) | h
 · exact .inl (.inl (e _ _ h))
 · exact .inl (.inr ⟨o, e _ _ h⟩)
 · exact .inr h
mutual
def Dp (K : PySem.W.Frag) (H : Hp) : PyData → V → Prop
 | .none, v => v = .non
 | .bool b, v => v = .bl b
 | .int i, v => v = .int i
 | .str x, v => v = .str x
 | .list ds, v => ∃ a xs, v = .ref a ∧ SqL K H a xs ∧ DpAll K H ds xs
 | .tuple ds, v => ∃ a xs, v = .ref a ∧ SqT K H a xs ∧ DpAll K H ds xs
 | .dict _, _ => False
def DpAll (K : PySem.W.Frag) (H : Hp) : List PyData → List V → Prop
 | [], vs => vs = []
 | d :: ds, vs => ∃ v r, vs = v :: r ∧ Dp K H d v ∧ DpAll K H ds r
end
theorem dp_int {K : PySem.W.Frag} {H : Hp} (i : Int) : Dp K H (.int i) (.int i) := by rw [Dp]
theorem dp_str {K : PySem.W.Frag} {H : Hp} (x : Str) : Dp K H (.str x) (.str x) := by rw [Dp]
theorem dp_lst {K : PySem.W.Frag} {H : Hp} {a : Addr} {xs : List V} {ds : List PyData} (h : SqL K H a xs) (q : DpAll K H ds xs) : Dp K H (.list ds) (.ref a) := by
 rw [Dp]; exact ⟨a, _, rfl, h, q⟩
theorem dp_tup {K : PySem.W.Frag} {H : Hp} {a : Addr} {xs : List V} {ds : List PyData} (h : SqT K H a xs) (q : DpAll K H ds xs) : Dp K H (.tuple ds) (.ref a) := by
 rw [Dp]; exact ⟨a, _, rfl, h, q⟩
theorem dpAll_nil {K : PySem.W.Frag} {H : Hp} : DpAll K H [] [] := by rw [DpAll]
theorem dpAll_cons {K : PySem.W.Frag} {H : Hp} {d : PyData} {ds : List PyData} {v : V} {r : List V} (h : Dp K H d v) (q : DpAll K H ds r) : DpAll K H (d :: ds) (v :: r) := by
 rw [DpAll]; exact ⟨_, _, rfl, h, q⟩
section
variable {X : Cx} {pins : List (Addr × Obj)} {σ : St} {H : Hp} {s : Shared}
mutual
theorem dp_reads (I : Inv X pins σ H s) : ∀ (d : PyData) (v : V) (u : Value), Dp X.K H d v → RelV v u → ∃ as, Reads s.heap u d as
 | .none, v, u, h, r => by
   rw [Dp] at h; subst h; cases (show u = Value.none from r); exact ⟨_, .none⟩
 | .bool b, v, u, h, r => by
   rw [Dp] at h; subst h; cases (show u = Value.bool b from r); exact ⟨_, .bool b⟩
 | .int i, v, u, h, r => by
   rw [Dp] at h; subst h; obtain ⟨t, e⟩ := (show ∃ t, u = Value.int i t from r); subst e; exact ⟨_, .int i t⟩
 | .str x, v, u, h, r => by
   rw [Dp] at h; subst h; obtain ⟨t, e⟩ := (show ∃ t, u = Value.str x t from r); subst e; exact ⟨_, .str x t⟩
 | .list ds, v, u, h, r => by
   rw [Dp] at h
   obtain ⟨a, xs, e, hq, ha⟩ := h
   subst e
   cases (show u = Value.ref a from r)
   obtain ⟨its, rv, pl, hz⟩ := I.list hq
   obtain ⟨o, ho, hc, n, hd⟩ := pl.isList
   obtain ⟨as, z⟩ := dpAll_reads I ds xs its ha rv
   exact ⟨_, .list ho hc hd (by simpa using z)⟩
 | .tuple ds, v, u, h, r => by
   rw [Dp] at h
   obtain ⟨a, xs, e, hq, ha⟩ := h
   subst e
   cases (show u = Value.ref a from r)
   obtain ⟨its, rv, pl, hz⟩ := I.tuple hq
   obtain ⟨o, ho, hc, n, hd⟩ := pl
   obtain ⟨as, z⟩ := dpAll_reads I ds xs its ha rv
   exact ⟨_, .tuple ho hc hd (by simpa using z)⟩
 | .dict _, v, u, h, r => by rw [Dp] at h; exact h.elim
theorem dpAll_reads (I : Inv X pins σ H s) : ∀ (ds : List PyData) (vs : List V) (us : List Value), DpAll X.K H ds vs → Vals vs us → ∃ as, ReadsAll s.heap us ds as
 | [], vs, us, h, r => by
   rw [DpAll] at h; subst h; cases r; exact ⟨_, .nil⟩
 | d :: ds, vs, us, h, r => by
   rw [DpAll] at h
   obtain ⟨v, rr, e, h1, h2⟩ := h
   subst e
   cases r with
   | cons r1 r2 =>
     obtain ⟨as, z1⟩ := dp_reads I d _ _ h1 r1
     obtain ⟨bs, z2⟩ := dpAll_reads I ds _ _ h2 r2
     exact ⟨_, .cons z1 z2⟩
end
end
def rEqD (K : PySem.W.Frag) : R2 := fun x y H Q => ∃ dx dy, Dp K H dx x ∧ Dp K H dy y ∧ shaped dx = true ∧ shaped dy = true ∧ Q (.bl (PyData.eqv dx dy)) H
def rNeD (K : PySem.W.Frag) : R2 := fun x y H Q => ∃ dx dy, Dp K H dx x ∧ Dp K H dy y ∧ shaped dx = true ∧ shaped dy = true ∧ Q (.bl (!PyData.eqv dx dy)) H
def rEqA (K : PySem.W.Frag) : R2 := fun x y H Q => rEq x y H Q ∨ rEqD K x y H Q
def rNeA (K : PySem.W.Frag) : R2 := fun x y H Q => rNe x y H Q ∨ rNeD K x y H Q
section
variable {X : Cx}
theorem op_eqD (hu : X.A.units + 64 < cLine) : OpR X (compareOp .Eq) (rEqD X.K) := by
 intro pins s σ H x y v u Q I rx ry h
 obtain ⟨dx, dy, hx, hy, sx, sy, q⟩ := h
 obtain ⟨as, ra⟩ := dp_reads I dx x v hx rx
 obtain ⟨bs, rb⟩ := dp_reads I dy y u hy ry
 exact eq_dataH ra rb sx sy hu ⟨.bl _, H, I, rfl, q⟩
theorem op_neD (hu : X.A.units + 64 < cLine) : OpR X (compareOp .NotEq) (rNeD X.K) := by
 intro pins s σ H x y v u Q I rx ry h
 obtain ⟨dx, dy, hx, hy, sx, sy, q⟩ := h
 obtain ⟨as, ra⟩ := dp_reads I dx x v hx rx
 obtain ⟨bs, rb⟩ := dp_reads I dy y u hy ry
 exact ne_dataH ra rb sx sy hu ⟨.bl _, H, I, rfl, q⟩
theorem op_eqA (hu : X.A.units + 64 < cLine) : OpR X (compareOp .Eq) (rEqA X.K) := op_eq.or (op_eqD hu)
theorem op_neA (hu : X.A.units + 64 < cLine) : OpR X (compareOp .NotEq) (rNeA X.K) := op_ne.or (op_neD hu)
end
theorem r_eqS {K : PySem.W.Frag} {x y : V} {H : Hp} {Q : VK} (h : scal x y = true) (q : Q (.bl (decide (x = y))) H) : rEqA K x y H Q := .inl ⟨h, q⟩
theorem r_neS {K : PySem.W.Frag} {x y : V} {H : Hp} {Q : VK} (h : scal x y = true) (q : Q (.bl (!decide (x = y))) H) : rNeA K x y H Q := .inl ⟨h, q⟩
def clsOf : V → Value
 | .ty n => .type n
 | .ref a => .ref a
 | _ => .none
theorem clsOf_eq {c : V} {u : Value} (r : RelV c u) (h : clsOf c ≠ .none) : u = clsOf c := by
 cases c <;> first | exact r | exact (h rfl).elim
def rIsi (K : PySem.W.Frag) : List V → Hp → VK → Prop := fun xs H Q => ∃ x c t b, xs = [x, c] ∧ clsOf c ≠ .none ∧ TyOf K H x t ∧ PySem.W.kitOne K t (clsOf c) = some b ∧ Q (.bl b) H
theorem call_isi {X : Cx} : CallR X (.builtin "isinstance") (rIsi X.K) := by
 intro pins s σ H xs us Q I r h
 obtain ⟨x, c, t, b, rfl, hc, ty, e, q⟩ := h
 obtain ⟨u, w', rfl, rx, rc⟩ := vals2 r
 cases clsOf_eq rc hc
 exact isinst_ok I rx ty e fun tk => ⟨.bl b, H, I.tok _, rfl, q⟩
theorem r_isi {K : PySem.W.Frag} {x c : V} {H : Hp} {Q : VK} {t : Value} {b : Bool} (hc : clsOf c ≠ .none) (ty : TyOf K H x t) (e : PySem.W.kitOne K t (clsOf c) = some b) (q : Q (.bl b) H) : rIsi K [x, c] H Q := ⟨x, c, t, b, rfl, hc, ty, e, q⟩
def rAll (K : PySem.W.Frag) : List V → Hp → VK → Prop := fun xs H Q => ∃ (p : Addr) (bs : List Bool), xs = [.ref p] ∧ SqL K H p (bs.map V.bl) ∧ Q (.bl (bs.all id)) H
theorem all_range (bs : List Bool) : (List.range bs.length).all (fun i => bs.getD i false) = bs.all id := by
 induction bs with
 | nil => rfl
 | cons b r ih =>
   rw [List.length_cons, List.range_succ_eq_map, List.all_cons, List.all_cons, List.all_map]
   rw [← ih]
   rfl
theorem call_all {X : Cx} (hc : X.calm = true) : CallR X (.builtin "all") (rAll X.K) := by
 intro pins s σ H xs us Q I r h
 obtain ⟨p, bs, rfl, hq, q⟩ := h
 obtain ⟨u, rfl, rx⟩ := vals1 r
 cases rx
 obtain ⟨its, rv, pl, hz⟩ := I.list hq
 have hlen := rv.length
 rw [List.length_map] at hlen
 have hlt : p < s.heap.objs.size := by obtain ⟨o, e, _⟩ := pl.isList; exact Heap.lt_size e
 refine call_all_walk (wpAny_pyIter_list pl.isList ?_)
 refine ⟨s.heap.objs.size, _, _, _, _, _, fun i => bs.getD i false, rfl, Walks.list (by exact I.ok.hd hc) s.heap.objs.size p (Nat.ne_of_lt hlt) its.toArray, ⟨⟨_, Heap.get?_push_size _ rfl, rfl, rfl⟩, pl.isList.push _⟩, ?_, ?_⟩
 · intro i v s' Q' E' hP hQ'
   have hP' : its[i]? = some v := by simpa using hP
   have hi : i < its.length := (List.getElem?_eq_some_iff.mp hP').1
   have hb : (bs.map V.bl)[i]? = some (V.bl (bs.getD i false)) := by
     rw [List.getElem?_map, List.getElem?_eq_getElem (by omega)]
     simp [List.getD, List.getElem?_eq_getElem (show i < bs.length by omega)]
   obtain ⟨u', hu', ru'⟩ := rv.get hb
   rw [hP'] at hu'
   cases hu'
   cases (show v = Value.bool _ from ru')
   exact wpAny_truthy_bool hQ'
 · intro h' tk kk
   have e : (List.range its.toArray.size).all (fun i => bs.getD i false) = bs.all id := by
     rw [List.size_toArray, ← hlen]; exact all_range bs
   rw [e]
   refine ⟨.bl _, H, ?_, rfl, q⟩
   have I1 : Inv X pins σ H { s with heap := s.heap.push { cls := .type "list_iterator", data := .fields #[.ref p, .int 0 0] } } := I.kept (t' := s.toks) fun b o e => Heap.get?_push_of_some _ e
   have f := I.fpOk (H' := H) (Nat.le_refl _) I.fresh
   exact I1.turned (it := s.heap.objs.size) (h' := h') (t' := tk) (fun b o hb e => kk b o (by simpa using hb) e) f.1 f.2.1 f.2.2.2.1 f.2.2.2.2.1 f.2.2.2.2.2
theorem bool_index : typeLookup (.type "bool") "__index__" = pure (some (.builtin "int.__index__")) := by rw [typeLookup_type, builtinLookup_eq_fast]; kernel_rfl
theorem listSubscript_bool {M : Model} {A : Around} {E : Value → Shared → Prop} {s : Shared} {b : Bool} {Q : Option Int → Shared → Prop} (h : Q (some (if b then 1 else 0)) s) :
   wpAny M A (Builtin.List.listSubscript? (.bool b)) Q E s := by
 unfold Builtin.List.listSubscript?
 refine wpAny_bind (wpAny_specialOf (T := "bool") (show s.TypeIs (.bool b) "bool" from rfl) bool_index ?_)
 show wpAny M A (asIndex (.bool b) >>= _) Q E s
 refine wpAny_bind (wpAny_of_eq (a := if b then 1 else 0) rfl ?_)
 show wpAny M A (if (!Builtin.List.listFitsIndex (if b then 1 else 0)) = true then _ else _) Q E s
 rw [if_neg (by cases b <;> decide)]
 exact wpAny_pure h
theorem getItem_list_bool {prog : Program} {w : World} {A : Around} {E : Value → Shared → Prop} {s : Shared} {l : Addr} {items : Array Value} {b : Bool} {x : Value} {Q : Value → Shared → Prop} (hl : s.heap.IsList l items)
   (hx : items[if b then 1 else 0]? = some x) (h : Q x s) : wpAny (model prog w) A (getItem (.ref l) (.bool b)) Q E s := by
 obtain ⟨o, ho, hc, ne, hd⟩ := id hl
 unfold getItem
 try with_reducible refine wpAny_holding ?_
 first | refine wpAny_bind (wpAny_pure ?_) | skip
 refine wpAny_bind (wpAny_sequenceKey hl.typeIs (by decide) ?_)
 refine wpAny_bind (wpAny_callSpecial?_slot (name := Str.ofString "__getitem__") hl.typeIs slot_list_getitem
   (wpAny_call_entry slot_list_getitem hl.typeIs entry_list_getitem ?_ (args_list_getitem _ _)))
 show wpAny _ _ (Builtin.List.listSubscript? (.bool b) >>= _) _ _ s
 refine wpAny_bind (listSubscript_bool ?_)
 cases b with
 | true =>
   have hx' : items[1]? = some x := hx
   show wpAny _ _ ((seqItemAt l 1 >>= fun r => pure (r.map (1, ·))) >>= _) _ _ s
   refine wpAny_bind (wpAny_bind (wpAny_seqItemAt ho hd (wpAny_pure ?_)))
   rw [hx']
   first
     | exact wpAny_bind (wpAny_pure (wpAny_pure ⟨x, rfl, wpAny_pure h⟩))
     | exact wpAny_pure ⟨x, rfl, wpAny_pure h⟩
 | false =>
   have hx' : items[0]? = some x := hx
   show wpAny _ _ ((seqItemAt l 0 >>= fun r => pure (r.map (0, ·))) >>= _) _ _ s
   refine wpAny_bind (wpAny_bind (wpAny_seqItemAt ho hd (wpAny_pure ?_)))
   rw [hx']
   first
     | exact wpAny_bind (wpAny_pure (wpAny_pure ⟨x, rfl, wpAny_pure h⟩))
     | exact wpAny_pure ⟨x, rfl, wpAny_pure h⟩
def rIxB (K : PySem.W.Frag) : R2 := fun x y H Q => ∃ p xs b v, x = .ref p ∧ y = .bl b ∧ SqL K H p xs ∧ xs[if b then 1 else 0]? = some v ∧ Q v H
theorem ix_bool {X : Cx} : IxR X (rIxB X.K) := by
 intro value slice pins s σ H x y v u Q I rx ry h hs
 obtain ⟨p, xs, b, z, rfl, rfl, hq, he, q⟩ := h
 cases rx
 cases ry
 obtain ⟨its, r, pl, hz⟩ := I.list hq
 obtain ⟨w, ew, rw'⟩ := r.get he
 exact subscriptTail_builtinR (x := w) pl.isList.typeIs slot_list_getitem.lookup
   (getItem_list_bool (Q := fun r s' => r = w ∧ EP X pins σ Q r s') pl.isList (by simpa using ew) ⟨rfl, z, H, I, rw', q⟩) hs
def rIxA (K : PySem.W.Frag) : R2 := fun x y H Q => rIx K x y H Q ∨ rIxB K x y H Q
theorem ix_any {X : Cx} : IxR X (rIxA X.K) := ix_seq.or ix_bool
theorem r_ixL {K : PySem.W.Frag} {p : Addr} {xs : List V} {i : Int} {v : V} {H : Hp} {Q : VK} (h : SqL K H p xs) (e : atI xs i = some v) (q : Q v H) : rIxA K (.ref p) (.int i) H Q := .inl (.inl ⟨p, xs, i, v, rfl, rfl, h, e, q⟩)
theorem r_ixT {K : PySem.W.Frag} {p : Addr} {xs : List V} {i : Int} {v : V} {H : Hp} {Q : VK} (h : SqT K H p xs) (e : atI xs i = some v) (q : Q v H) : rIxA K (.ref p) (.int i) H Q := .inl (.inr (.inl ⟨p, xs, i, v, rfl, rfl, h, e, q⟩))
def rStr : R2 := fun x y H Q => ∃ i j, x = .str i ∧ y = .str j ∧ i.length + j.length ≤ sizeLine ∧ Q (.str (i ++ j)) H
def rPlus (K : PySem.W.Frag) : R2 := fun x y H Q => rI0 (fun i j => .int (i + j)) x y H Q ∨ rCat x y H Q ∨ rCatT K x y H Q ∨ rStr x y H Q
theorem op_plus {X : Cx} : OpR X (binaryOp .Add) (rPlus X.K) := op_add.or (op_cat.or (op_catT.or op_add_str))
theorem r_plusI {K : PySem.W.Frag} {i j : Int} {H : Hp} {Q : VK} (q : Q (.int (i + j)) H) : rPlus K (.int i) (.int j) H Q := .inl ⟨i, j, rfl, rfl, q⟩
theorem r_plusL {K : PySem.W.Frag} {a b : Addr} {xs ys : List V} {H : Hp} {Q : VK} (ha : H a = some (.lst xs)) (hb : H b = some (.lst ys)) (hz : xs.length + ys.length ≤ sizeLine) (q : ∀ p, H p = none → Q (.ref p) (upd H p (.lst (xs ++ ys)))) :
   rPlus K (.ref a) (.ref b) H Q := .inr (.inl ⟨a, b, xs, ys, rfl, rfl, ha, hb, hz, q⟩)
def rTimes : R2 := fun x y H Q => rI CMul (fun i j => .int (i * j)) x y H Q ∨ rRep x y H Q
theorem op_times {X : Cx} : OpR X (binaryOp .Mult) rTimes := op_mul.or op_rep
theorem r_timesI {i j : Int} {H : Hp} {Q : VK} (h : CMul i j) (q : Q (.int (i * j)) H) : rTimes (.int i) (.int j) H Q := .inl ⟨i, j, rfl, rfl, h, q⟩
def rSlA (K : PySem.W.Frag) : V → Option Int → Option Int → Hp → VK → Prop := fun x lo hi H Q => rSlL K x lo hi H Q ∨ rSlT K x lo hi H Q
theorem sl_any {X : Cx} : SlR X (rSlA X.K) := sl_list.or sl_tup
structure FnE (P : Program) (w : World) (K : PySem.W.Frag) (mg : Str → Option Value) (base : Heap) (CX : CXT) (k : Nat) (x : Str) (sp : Sp) : Prop where
 ex : ∃ (f : Addr) (fd : FuncData) (ps : List Str), FnOk P w K mg base CX k f fd ps sp ∧ mg x = some (.ref f) ∧ PySem.W.keepIn K (.ref f) = true ∧ Binds K fd ps []
structure MethE (P : Program) (w : World) (K : PySem.W.Frag) (mg : Str → Option Value) (base : Heap) (CX : CXT) (k : Nat) (C : Addr) (m : Str) (sp : Sp) : Prop where
 cl : Cls K C
 ex : ∃ (f : Addr) (fd : FuncData) (ps : List Str), Meth K C m f ∧ FnOk P w K mg base CX k f fd ps sp ∧ Binds K fd ps []
structure MkE (P : Program) (w : World) (K : PySem.W.Frag) (mg : Str → Option Value) (base : Heap) (CX : CXT) (k : Nat) (x : Str) (C : Addr) (sp : Sp) : Prop where
 ex : ∃ (f : Addr) (fd : FuncData) (ps : List Str), Mk K C f ∧ FnOk P w K mg base CX k f fd ps sp ∧ mg x = some (.ref C) ∧ Binds K fd ps []
theorem MethE.mono {P : Program} {w : World} {K : PySem.W.Frag} {mg : Str → Option Value} {base : Heap} {CX : CXT} {j k : Nat} {C : Addr} {m : Str} {sp : Sp} (M : MethE P w K mg base CX j C m sp) (h : j ≤ k) : MethE P w K mg base CX k C m sp := by
 obtain ⟨f, fd, ps, a, b, c⟩ := M.ex
 exact ⟨M.cl, f, fd, ps, a, b.mono h, c⟩
def tCallE (sp : Sp) (E : XK) (t : TA) : TE := fun σ H Q => t σ H fun vs H1 => sp vs H1 Q E
def tMakeE (C : Addr) (sp : Sp) (E : XK) (t : TA) : TE := fun σ H Q => t σ H fun vs H1 => ∀ x dx, H1 x = none → H1 dx = none → dx ≠ x →
 sp (.ref x :: vs) (upd (upd H1 dx (.own x)) x (.ins C dx [])) (fun v H2 => v = .non ∧ Q (.ref x) H2) E
def tMethE (P : Program) (w : World) (K : PySem.W.Frag) (mg : Str → Option Value) (base : Heap) (CX : CXT) (k : Nat) (m : Str) (E : XK) (ta : TE) (t : TA) : TE := fun σ H Q => ta σ H fun x H1 =>
 ∃ a C dx fs sp, x = .ref a ∧ H1 a = some (.ins C dx fs) ∧ fs.lookup m = none ∧ MethE P w K mg base CX k C m sp ∧ t σ H1 fun vs H2 => sp (.ref a :: vs) H2 Q E
section
variable {X : Cx} {CX : CXT} {k : Nat} {C : Addr} {sp : Sp} {E : XK} {x m : Str} {p pos apos : Pos} {e o : Expr} {es : List Expr} {ta : TE} {t : TA}
theorem pe_callE (G : FnE X.prog X.w X.K X.mg X.base CX k x sp) (hr : Room k X.A) (hx : Passes CX X E) (hg : Gl X x) (ha : PA X (e :: es) t) (hdb : (x == ("__debug__" : Str)) = false := by decide)
   (he : starEach (e :: es) X.env = (false, eval e X.env) :: starEach es X.env := by rfl) (hpl : (backTo pos (starEach es X.env)).any (·.1) = false := by rfl) : PE X (.Call (.Name x p) (e :: es) [] pos) (tCallE sp E t) := by
 obtain ⟨f, fd, ps, F, hm, hk, hb⟩ := G.ex
 have z := pe_call (p := p) (pos := pos) F hr hg hm hk hb .nil hx ha hdb he hpl
 intro pins s σ H Q I h
 refine z pins s σ H Q I ?_
 have e1 : tCall sp [] E t = tCallE sp E t := by
   funext σ H Q
   show t σ H (fun vs H1 => sp (vs ++ []) H1 Q E) = t σ H (fun vs H1 => sp vs H1 Q E)
   simp only [List.append_nil]
 rw [e1]; exact h
theorem pe_makeE (G : MkE X.prog X.w X.K X.mg X.base CX k x C sp) (hr : Room (k + 1) X.A) (hx : Passes CX X E) (hg : Gl X x) (ha : PA X (e :: es) t) (hdb : (x == ("__debug__" : Str)) = false := by decide)
   (he : starEach (e :: es) X.env = (false, eval e X.env) :: starEach es X.env := by rfl) (hpl : (backTo pos (starEach es X.env)).any (·.1) = false := by rfl) : PE X (.Call (.Name x p) (e :: es) [] pos) (tMakeE C sp E t) := by
 obtain ⟨f, fd, ps, M, F, hm, hb⟩ := G.ex
 have z := pe_make (p := p) (pos := pos) M F hr hg hm hb .nil hx ha hdb he hpl
 intro pins s σ H Q I h
 refine z pins s σ H Q I ?_
 have e1 : tMake C sp [] E t = tMakeE C sp E t := by
   funext σ H Q
   show t σ H (fun vs H1 => ∀ x dx, H1 x = none → H1 dx = none → dx ≠ x → sp (.ref x :: (vs ++ [])) _ _ E) = t σ H (fun vs H1 => ∀ x dx, H1 x = none → H1 dx = none → dx ≠ x → sp (.ref x :: vs) _ _ E)
   simp only [List.append_nil]
 rw [e1]; exact h
theorem pe_methE {pl : Sem Bool} (he : PE X o ta) (hr : Room k X.A) (hx : Passes CX X E) (ha : PA X (e :: es) t)
   (hst : starEach (e :: es) X.env = (false, eval e X.env) :: starEach es X.env := by rfl) (hpl : (backTo pos (starEach es X.env)).any (·.1) = false := by rfl)
   (ht : eval (.Call (.Attribute o m apos) (e :: es) [] pos) X.env = (do
     let ov ← eval o X.env
     standAt apos.atName
     let (f, first) ← holding [ov] (getMethod ov m pl)
     callWith pos f first (backTo pos (starEach (e :: es) X.env)) (backToKw pos (keywordEach [] X.env))) := by rfl) :
   PE X (.Call (.Attribute o m apos) (e :: es) [] pos) (tMethE X.prog X.w X.K X.mg X.base CX k m E ta t) := by
 intro pins s σ H Q I h
 refine PySem.W.methodCall_KW (pl := pl) (thn (he pins s σ H _ I h) fun u s1 ⟨x, H1, I1, rx, a, C, dx, fs, sp, ex, ea, l, M, q⟩ => ?_) ht
 subst ex
 obtain rfl : u = Value.ref a := rx
 obtain ⟨f, fd, ps, hm, F, hb⟩ := M.ex
 refine getmeth_ok I1 ea M.cl hm l ?_
 refine PySem.W.callWith_K (first := [.ref a]) (h₀ := X.base) I.ok.mod.kin hm.kp (thn (ha pos pins s1 σ H1 _ I1 q) fun us s2 ⟨vs, H2, I2, r, q2⟩ => ⟨I2.kIn, ?_⟩) hst hpl
 exact run_fn (us := .ref a :: us) (vs := .ref a :: vs) F hr hb .nil hx I2 (.cons rfl r) (by rw [List.append_nil]; exact q2)
theorem pe_methE0 {pl : Sem Bool} (he : PE X o ta) (hr : Room k X.A) (hx : Passes CX X E)
   (ht : eval (.Call (.Attribute o m apos) [] [] pos) X.env = (do
     let ov ← eval o X.env
     standAt apos.atName
     let (f, first) ← holding [ov] (getMethod ov m pl)
     callWith pos f first (backTo pos (starEach [] X.env)) (backToKw pos (keywordEach [] X.env))) := by rfl) :
   PE X (.Call (.Attribute o m apos) [] [] pos) (tMethE X.prog X.w X.K X.mg X.base CX k m E ta tNil) := by
 intro pins s σ H Q I h
 refine PySem.W.methodCall_KW (pl := pl) (thn (he pins s σ H _ I h) fun u s1 ⟨x, H1, I1, rx, a, C, dx, fs, sp, ex, ea, l, M, q⟩ => ?_) ht
 subst ex
 obtain rfl : u = Value.ref a := rx
 obtain ⟨f, fd, ps, hm, F, hb⟩ := M.ex
 refine getmeth_ok I1 ea M.cl hm l ?_
 exact PySem.W.callWith_K0 (first := [.ref a]) I1.kIn hm.kp (run_fn (us := [.ref a]) (vs := [.ref a]) F hr hb .nil hx I1 (.cons rfl .nil) q)
end
theorem b_len : bootBuiltins "len" = some (.builtin "len") := by decide +kernel
theorem b_all : bootBuiltins "all" = some (.builtin "all") := by decide +kernel
theorem b_isinstance : bootBuiltins "isinstance" = some (.builtin "isinstance") := by decide +kernel
theorem b_int : bootBuiltins "int" = some (.type "int") := by decide +kernel
theorem b_bool : bootBuiltins "bool" = some (.type "bool") := by decide +kernel
theorem b_list : bootBuiltins "list" = some (.type "list") := by decide +kernel
theorem b_tuple : bootBuiltins "tuple" = some (.type "tuple") := by decide +kernel
theorem b_str : bootBuiltins "str" = some (.type "str") := by decide +kernel
def rFld (K : PySem.W.Frag) (f : Str) : V → Hp → VK → Prop := fun x H1 Q => ∃ a C dx fs v, x = .ref a ∧ H1 a = some (.ins C dx fs) ∧ Cls K C ∧ NoAttr K C f ∧ fs.lookup f = some v ∧ Q v H1
def rMeth (P : Program) (w : World) (K : PySem.W.Frag) (mg : Str → Option Value) (base : Heap) (CX : CXT) (k : Nat) (m : Str) (E : XK) (σ : St) (t : TA) : V → Hp → VK → Prop := fun x H1 Q =>
 ∃ a C dx fs sp, x = .ref a ∧ H1 a = some (.ins C dx fs) ∧ fs.lookup m = none ∧ MethE P w K mg base CX k C m sp ∧ t σ H1 fun vs H2 => sp (.ref a :: vs) H2 Q E
def sFldV (K : PySem.W.Frag) (f : Str) (y : V) (D : Ends) (σ : St) : V → Hp → Prop := fun x H2 => ∃ a C dx fs, x = .ref a ∧ H2 a = some (.ins C dx fs) ∧ Cls K C ∧ NoAttr K C f ∧ fs.length < 1000 ∧ D.nx σ (upd H2 a (.ins C dx (putF f y fs)))
def rLen (K : PySem.W.Frag) : List V → Hp → VK → Prop := fun xs H Q => ∃ x n, xs = [x] ∧ LenV K x H n ∧ Q (.int n) H
theorem call_lenA {X : Cx} : CallR X (.builtin "len") (rLen X.K) := call_len
theorem r_lenL {K : PySem.W.Frag} {p : Addr} {xs : List V} {H : Hp} {Q : VK} (h : SqL K H p xs) (q : Q (.int xs.length) H) : rLen K [.ref p] H Q := ⟨.ref p, xs.length, rfl, .inl ⟨xs, h, rfl⟩, q⟩
theorem r_lenT {K : PySem.W.Frag} {p : Addr} {xs : List V} {H : Hp} {Q : VK} (h : SqT K H p xs) (q : Q (.int xs.length) H) : rLen K [.ref p] H Q := ⟨.ref p, xs.length, rfl, .inr ⟨xs, h, rfl⟩, q⟩
def rLst (K : PySem.W.Frag) : List V → Hp → VK → Prop := fun xs H Q => ∃ p ys, xs = [.ref p] ∧ (SqL K H p ys ∨ SqT K H p ys) ∧ ∀ l, H l = none → Q (.ref l) (upd H l (.lst ys))
theorem call_listA {X : Cx} : CallR X (.type "list") (rLst X.K) := call_list_of
theorem r_listL {K : PySem.W.Frag} {p : Addr} {xs : List V} {H : Hp} {Q : VK} (h : SqL K H p xs) (q : ∀ l, H l = none → Q (.ref l) (upd H l (.lst xs))) : rLst K [.ref p] H Q := ⟨p, xs, rfl, .inl h, q⟩
theorem r_listT {K : PySem.W.Frag} {p : Addr} {xs : List V} {H : Hp} {Q : VK} (h : SqT K H p xs) (q : ∀ l, H l = none → Q (.ref l) (upd H l (.lst xs))) : rLst K [.ref p] H Q := ⟨p, xs, rfl, .inr h, q⟩
theorem r_all {K : PySem.W.Frag} {p : Addr} {bs : List Bool} {H : Hp} {Q : VK} (h : SqL K H p (bs.map V.bl)) (q : Q (.bl (bs.all id)) H) : rAll K [.ref p] H Q := ⟨p, bs, rfl, h, q⟩
theorem r_slL {K : PySem.W.Frag} {p : Addr} {xs : List V} {lo hi : Option Int} {H : Hp} {Q : VK} (h : SqL K H p xs) (q : ∀ l, H l = none → Q (.ref l) (upd H l (.lst (cutV xs lo hi)))) : rSlA K (.ref p) lo hi H Q := .inl ⟨p, xs, rfl, h, q⟩
theorem r_slT {K : PySem.W.Frag} {p : Addr} {xs : List V} {lo hi : Option Int} {H : Hp} {Q : VK} (h : SqT K H p xs) (hn : ¬ (HT.sIx xs.length 0 lo = 0 ∧ HT.sIx xs.length xs.length hi = xs.length)) (q : ∀ l, H l = none → Q (.ref l) (upd H l (.tup (cutV xs lo hi)))) :
   rSlA K (.ref p) lo hi H Q := .inr ⟨p, xs, rfl, h, hn, q⟩
def rTru (K : PySem.W.Frag) (x : V) (H : Hp) (Q : Bool → Hp → Prop) : Prop := ∃ k, TruV K x H k ∧ Q k H
theorem r_truB {K : PySem.W.Frag} {b : Bool} {H : Hp} {Q : Bool → Hp → Prop} (q : Q b H) : rTru K (.bl b) H Q := ⟨b, rfl, q⟩
theorem iteNT {A B : Prop} (h : B) : if (!true) = true then A else B := h
theorem iteNF {A B : Prop} (h : A) : if (!false) = true then A else B := h
theorem sql_new {K : PySem.W.Frag} {H : Hp} {a p : Addr} {xs : List V} {o : HO} (h : SqL K H a xs) (hp : H p = none) : SqL K (upd H p o) a xs := Same.seq (same_new hp) h
theorem sqt_new {K : PySem.W.Frag} {H : Hp} {a p : Addr} {xs : List V} {o : HO} (h : SqT K H a xs) (hp : H p = none) : SqT K (upd H p o) a xs := SqT_same (same_new hp) h
theorem same_at {H H' : Hp} {q : Addr} {u : HO} (s : Same H H') (h : H q = some u) : H' q = some u := s _ _ h
theorem r_gSub {to ti : TE} {t : TSet} {v : V} {σ : St} {H : Hp} {Q : St → Hp → Prop} (q : to σ H fun o H1 => ti σ H1 fun i H2 => t o i v H2 fun H3 => Q σ H3) : gSub to ti t v σ H Q := q
theorem r_setL {p : Addr} {xs : List V} {k : Int} {j : Nat} {v : V} {H : Hp} {Q : Hp → Prop} (h : H p = some (.lst xs)) (e : ixN xs.length k = some j) (q : Q (upd H p (.lst (xs.set j v)))) : rSetL (.ref p) (.int k) v H Q := ⟨p, xs, k, j, rfl, rfl, h, e, q⟩
theorem r_append {l : Addr} {xs : List V} {y : V} {H : Hp} {Q : VK} (h : H l = some (.lst xs)) (z : xs.length < sizeLine) (q : Q .non (upd H l (.lst (xs ++ [y])))) : rAppend (.ref l) [y] H Q := ⟨l, xs, y, rfl, rfl, h, z, q⟩
theorem r_clear {l : Addr} {xs : List V} {H : Hp} {Q : VK} (h : H l = some (.lst xs)) (q : Q .non (upd H l (.lst []))) : rClear (.ref l) [] H Q := ⟨l, xs, rfl, rfl, h, q⟩
theorem ty_list {K : PySem.W.Frag} {H : Hp} {p : Addr} {xs : List V} (h : H p = some (.lst xs)) : tyV K "list" (.ref p) H := .inl ⟨rfl, xs, SqL.of h⟩
def ForW (J : It) (g : TG) (tb : TS) (D : Ends) (σ : St) (H1 : Hp) : Prop := ∃ W : Nat → Nat → St → Hp → Prop, (∃ m, W 0 m σ H1) ∧ ∀ i m σ H, W i m σ H →
 (J.stop i H ∧ D.nx σ H) ∨ (J.go i H ∧ ∃ N : St → Hp → Prop, (∀ σ' H', N σ' H' → ∃ m', m' < m ∧ W (i + 1) m' σ' H') ∧ ∀ x H', J.yld i H x H' → g x σ H' fun σ2 H2 => tb { D with nx := N, ct := N, bk := D.nx } σ2 H2)
theorem r_for {wi : TI} {g : TG} {tb : TS} {D : Ends} {σ : St} {H : Hp} (q : wi σ H fun J H1 => ForW J g tb D σ H1) : tFor wi g tb D σ H := q
def iSeq (K : PySem.W.Frag) (tl : TE) : TI := fun σ H R => tl σ H fun x H1 => ∃ a, x = .ref a ∧ (((∃ xs, SqL K H1 a xs) ∧ R (Itl K a) H1) ∨ ((∃ xs, SqT K H1 a xs) ∧ R (Itt K a) H1))
theorem r_iSeq {K : PySem.W.Frag} {tl : TE} {σ : St} {H : Hp} {R : It → Hp → Prop} (q : tl σ H fun x H1 => ∃ a, x = .ref a ∧ (((∃ xs, SqL K H1 a xs) ∧ R (Itl K a) H1) ∨ ((∃ xs, SqT K H1 a xs) ∧ R (Itt K a) H1))) : iSeq K tl σ H R := q
theorem r_rng1 {ta : TA} {σ : St} {H : Hp} {R : It → Hp → Prop} (q : ta σ H fun vs H1 => ∃ j : Int, vs = [.int j] ∧ -(2 ^ 62) ≤ j ∧ j < 2 ^ 62 ∧ R (Itr 0 j.toNat) H1) : iRng1 ta σ H R := q
theorem pi_seq {X : Cx} {tg l : Expr} {tl : TE} (hl : PE X l tl) : PI X tg l (iSeq X.K tl) := by
 intro pins s σ H R I h
 refine thn (hl pins s σ H _ I h) fun v s1 ⟨x, H1, I1, r1, q1⟩ => ?_
 obtain ⟨a, e, hq⟩ := q1
 subst e
 cases r1
 rcases hq with ⟨⟨xs, hq⟩, q⟩ | ⟨⟨xs, hq⟩, q⟩
 · obtain ⟨its, rv, p, hz⟩ := I1.list hq
   refine wpAny_pyIter_list p.isList ?_
   refine ⟨s1.heap.objs.size, [s1.heap.objs.size], _, _, H1, rfl, I1.kept (t' := s1.toks) fun b o e => Heap.get?_push_of_some _ e, turn_list a _, ⟨_, Heap.get?_push_size _ rfl, rfl, rfl⟩, fun b hb => ?_, q⟩
   have e : b = s1.heap.objs.size := by simpa using hb
   subst e
   exact I1.fpOk (Nat.le_refl _) (I1.hok.fresh (Nat.le_refl _))
 · obtain ⟨its, rv, p, hz⟩ := I1.tuple hq
   refine wpAny_pyIter_tuple (show s1.heap.IsTuple a its.toArray from p) ?_
   refine ⟨s1.heap.objs.size, [s1.heap.objs.size], _, _, H1, rfl, I1.kept (t' := s1.toks) fun b o e => Heap.get?_push_of_some _ e, turn_tuple a _, ⟨_, Heap.get?_push_size _ rfl, rfl, rfl⟩, fun b hb => ?_, q⟩
   have e : b = s1.heap.objs.size := by simpa using hb
   subst e
   exact I1.fpOk (Nat.le_refl _) (I1.hok.fresh (Nat.le_refl _))
section
variable {σ : St} {H : Hp} {Q : VK}
theorem r_var {i : Nat} {v : V} (h : σ[i]? = some (some v)) (q : Q v H) : tVar i σ H Q := ⟨v, h, q⟩
theorem r_c {v : V} (q : Q v H) : tC v σ H Q := q
theorem r_op {r : R2} {ta tb : TE} (q : ta σ H fun x H1 => tb σ H1 fun y H2 => r x y H2 Q) : tOp r ta tb σ H Q := q
theorem r_un {r : V → Hp → VK → Prop} {ta : TE} (q : ta σ H fun x H1 => r x H1 Q) : tUn r ta σ H Q := q
theorem r_U {g : Int → V} {i : Int} (q : Q (g i) H) : rU g (.int i) H Q := ⟨i, rfl, q⟩
theorem r_I0 {g : Int → Int → V} {i j : Int} (q : Q (g i j) H) : rI0 g (.int i) (.int j) H Q := ⟨i, j, rfl, rfl, q⟩
theorem r_I {C : Int → Int → Prop} {g : Int → Int → V} {i j : Int} (h : C i j) (q : Q (g i j) H) : rI C g (.int i) (.int j) H Q := ⟨i, j, rfl, rfl, h, q⟩
theorem r_cb {r : List V → Hp → VK → Prop} {t : TA} (q : t σ H fun vs H1 => r vs H1 Q) : tCB r t σ H Q := q
theorem r_callE {sp : Sp} {E : XK} {t : TA} (q : t σ H fun vs H1 => sp vs H1 Q E) : tCallE sp E t σ H Q := q
theorem r_makeE {C : Addr} {sp : Sp} {E : XK} {t : TA} (q : t σ H fun vs H1 => ∀ x dx, H1 x = none → H1 dx = none → dx ≠ x → sp (.ref x :: vs) (upd (upd H1 dx (.own x)) x (.ins C dx [])) (fun v H2 => v = .non ∧ Q (.ref x) H2) E) : tMakeE C sp E t σ H Q := q
theorem r_methE {P : Program} {w : World} {K : PySem.W.Frag} {mg : Str → Option Value} {base : Heap} {CX : CXT} {k : Nat} {m : Str} {E : XK} {ta : TE} {t : TA} (q : ta σ H fun x H1 => rMeth P w K mg base CX k m E σ t x H1 Q) : tMethE P w K mg base CX k m E ta t σ H Q := q
theorem r_methV {P : Program} {w : World} {K : PySem.W.Frag} {mg : Str → Option Value} {base : Heap} {CX : CXT} {k : Nat} {m : Str} {E : XK} {t : TA} {p C dx : Addr} {fs : List (Str × V)} {sp : Sp} (h : H p = some (.ins C dx fs)) (l : fs.lookup m = none) (M : MethE P w K mg base CX k C m sp)
   (q : t σ H fun vs H2 => sp (.ref p :: vs) H2 Q E) : rMeth P w K mg base CX k m E σ t (.ref p) H Q := ⟨p, C, dx, fs, sp, rfl, h, l, M, q⟩
theorem r_fld {K : PySem.W.Frag} {ta : TE} {f : Str} (q : ta σ H fun x H1 => rFld K f x H1 Q) : tFld K ta f σ H Q := q
theorem r_fldV {K : PySem.W.Frag} {f : Str} {p C dx : Addr} {fs : List (Str × V)} {v : V} (h : H p = some (.ins C dx fs)) (c : Cls K C) (n : NoAttr K C f) (l : fs.lookup f = some v) (q : Q v H) : rFld K f (.ref p) H Q := ⟨p, C, dx, fs, v, rfl, h, c, n, l, q⟩
theorem r_tup {t : TA} (q : t σ H fun xs H1 => xs.length ≤ sizeLine ∧ ∀ p, H1 p = none → Q (.ref p) (upd H1 p (.tup xs))) : tTup t σ H Q := q
theorem r_lst {t : TA} (q : t σ H fun xs H1 => xs.length ≤ sizeLine ∧ ∀ p, H1 p = none → Q (.ref p) (upd H1 p (.lst xs))) : tLst t σ H Q := q
theorem r_andV {ta tb : TE} (q : ta σ H fun x H1 => ∃ c, x = .bl c ∧ if c = true then tb σ H1 Q else Q (.bl false) H1) : tAndV ta tb σ H Q := q
theorem r_notV {ta : TE} (q : ta σ H fun x H1 => ∃ c, x = .bl c ∧ Q (.bl (!c)) H1) : tNotV ta σ H Q := q
theorem r_if {t : TT} {ta tb : TE} (q : t σ H fun c H1 => if c = true then ta σ H1 Q else tb σ H1 Q) : tIf t ta tb σ H Q := q
theorem r_sl {r : V → Option Int → Option Int → Hp → VK → Prop} {te : TE} {tl th : TO} (q : te σ H fun x H1 => tl σ H1 fun l H2 => th σ H2 fun u H3 => r x l u H3 Q) : tSl r te tl th σ H Q := q
theorem r_bm {K : PySem.W.Frag} {T : String} {r : V → List V → Hp → VK → Prop} {to : TE} {t : TA} (q : to σ H fun x H1 => tyV K T x H1 ∧ t σ H1 fun xs H2 => r x xs H2 Q) : tBM K T r to t σ H Q := q
theorem r_bm0 {K : PySem.W.Frag} {T : String} {r : V → List V → Hp → VK → Prop} {to : TE} (q : to σ H fun x H1 => tyV K T x H1 ∧ r x [] H1 Q) : tBM0 K T r to σ H Q := q
end
section
variable {σ : St} {H : Hp} {Q : List V → Hp → Prop}
theorem r_nil (q : Q [] H) : tNil σ H Q := q
theorem r_cons {ta : TE} {tr : TA} (q : ta σ H fun x H1 => tr σ H1 fun xs H2 => Q (x :: xs) H2) : tCons ta tr σ H Q := q
end
section
variable {σ : St} {H : Hp} {Q : Option Int → Hp → Prop}
theorem r_noPart (q : Q none H) : tNoPart σ H Q := q
theorem r_part {t : TE} (q : t σ H fun x H1 => ∃ i, x = .int i ∧ Q (some i) H1) : tPart t σ H Q := q
end
section
variable {σ : St} {H : Hp} {Q : Bool → Hp → Prop}
theorem r_test {t : TE} (q : t σ H fun x H' => ∃ k, x = .bl k ∧ Q k H') : tTest t σ H Q := q
theorem r_and {t u : TT} (q : t σ H fun c H1 => if c = true then u σ H1 Q else Q false H1) : tAnd t u σ H Q := q
theorem r_or {t u : TT} (q : t σ H fun c H1 => if c = true then Q true H1 else u σ H1 Q) : tOr t u σ H Q := q
theorem r_not {t : TT} (q : t σ H fun c H1 => Q (!c) H1) : tNot t σ H Q := q
theorem r_true (q : Q true H) : tTrue σ H Q := q
def tTru (K : PySem.W.Frag) (ta : TE) : TT := fun σ H Q => ta σ H fun x H' => rTru K x H' Q
theorem pt_tru {X : Cx} {a : Expr} {ta : TE} (ha : PE X a ta) (he : ∀ whole, isTrue a X.env whole = (do let v ← whole; standAt a.pos; holding [v] (truthy v)) := by intro _; rfl) : PT X a (tTru X.K ta) := pt_truth ha he
theorem r_tru {K : PySem.W.Frag} {ta : TE} (q : ta σ H fun x H' => rTru K x H' Q) : tTru K ta σ H Q := q
end
section
variable {D : Ends} {σ : St} {H : Hp}
theorem r_next (q : D.nx σ H) : tNext D σ H := q
theorem r_seq {t u : TS} (q : t { D with nx := u D } σ H) : tSeq t u D σ H := q
theorem r_ret {te : TE} (q : te σ H D.rt) : tRet te D σ H := q
theorem r_ifS {c : TT} {t u : TS} (q : c σ H fun b H1 => if b = true then t D σ H1 else u D σ H1) : tIfS c t u D σ H := q
theorem r_asg {te : TE} {g : TG} (q : te σ H fun x H1 => g x σ H1 D.nx) : tAsg te g D σ H := q
theorem r_drop {te : TE} (q : te σ H fun _ H1 => D.nx σ H1) : tDrop te D σ H := q
theorem r_sFld {K : PySem.W.Frag} {ta tv : TE} {f : Str} (q : tv σ H fun y H1 => ta σ H1 fun x H2 => sFldV K f y D σ x H2) : sFld K ta tv f D σ H := q
theorem r_sFldV {K : PySem.W.Frag} {f : Str} {y : V} {p C dx : Addr} {fs : List (Str × V)} (h : H p = some (.ins C dx fs)) (c : Cls K C) (n : NoAttr K C f) (l : fs.length < 1000) (q : D.nx σ (upd H p (.ins C dx (putF f y fs)))) : sFldV K f y D σ (.ref p) H := ⟨p, C, dx, fs, rfl, h, c, n, l, q⟩
end
theorem ifDec {c A B : Prop} [Decidable c] (h1 : c → A) (h2 : ¬ c → B) : if decide c = true then A else B := by
 by_cases h : c
 · rw [if_pos (decide_eq_true h)]; exact h1 h
 · rw [if_neg (by rw [decide_eq_false h]; exact Bool.false_ne_true)]; exact h2 h
theorem ifDecN {c A B : Prop} [Decidable c] (h1 : ¬ c → A) (h2 : c → B) : if (!decide c) = true then A else B := by
 by_cases h : c
 · rw [if_neg (by rw [decide_eq_true h]; decide)]; exact h2 h
 · rw [if_pos (by rw [decide_eq_false h]; rfl)]; exact h1 h
theorem ifInt {a b : Int} {A B : Prop} (h1 : a = b → A) (h2 : a ≠ b → B) : if decide (V.int a = V.int b) = true then A else B :=
 ifDec (fun e => h1 (by cases e; rfl)) fun e => h2 fun z => e (by rw [z])
theorem ifIntN {a b : Int} {A B : Prop} (h1 : a ≠ b → A) (h2 : a = b → B) : if (!decide (V.int a = V.int b)) = true then A else B :=
 ifDecN (fun e => h1 fun z => e (by rw [z])) fun e => h2 (by cases e; rfl)
end L3
namespace L3
open PySem PySem.Spec PyProof.Rows L2
section
variable {P : Program} {w : World} {K : PySem.W.Frag} {mg : Str → Option Value} {base : Heap} {x qual : Str} {st : Stmt} {N ps : List Str} {sp : Sp} {C : Addr}
def BodyOk (P : Program) (w : World) (K : PySem.W.Frag) (mg : Str → Option Value) (base : Heap) (k : Nat) (qual : Str) (st : Stmt) (N : List Str) (sp : Sp) : Prop :=
 ∀ (f : Addr) (cdv : Value) (A : Around) (outer : List Env) (s : Shared) (H : Hp) (vs : List V) (Q : VK) (E : XK), Room k (A.deeper (envOfC qual (defScope st) s.heap.objs.size f cdv)) → sp vs H Q E →
   ∃ t, PSs (cxOf CX0 P w K mg base N qual (defScope st) f cdv A outer s H E).nox (defBody st) t ∧ t { nx := fun _ H' => Q .non H', rt := Q } (start N vs) H
theorem fnE_of (k : Nat) (h : ∃ f fd, Fun K x qual st f fd ∧ mg x = some (.ref f) ∧ Binds K fd ps []) (S : FnScope N ps (defScope st)) (len : ∀ vs H Q E, sp vs H Q E → vs.length = ps.length)
   (hbody : BodyOk P w K mg base k qual st N sp) : FnE P w K mg base CX0 (k + 1) x sp := by
 obtain ⟨f, fd, F, hm, hb⟩ := h
 exact ⟨f, fd, ps, F.ok S len (hbody f), hm, F.kp, hb⟩
theorem methE_of (k : Nat) (c : Cls K C) (h : ∃ f fd, Fun K x qual st f fd ∧ Meth K C x f ∧ Binds K fd ps []) (S : FnScope N ps (defScope st)) (len : ∀ vs H Q E, sp vs H Q E → vs.length = ps.length)
   (hbody : BodyOk P w K mg base k qual st N sp) : MethE P w K mg base CX0 (k + 1) C x sp := by
 obtain ⟨f, fd, F, hm, hb⟩ := h
 exact ⟨c, f, fd, ps, hm, F.ok S len (hbody f), hb⟩
theorem mkE_of {y : Str} (k : Nat) (hy : mg y = some (.ref C)) (h : ∃ f fd, Fun K "__init__" qual st f fd ∧ Mk K C f ∧ Binds K fd ps []) (S : FnScope N ps (defScope st)) (len : ∀ vs H Q E, sp vs H Q E → vs.length = ps.length)
   (hbody : BodyOk P w K mg base k qual st N sp) : MkE P w K mg base CX0 (k + 1) y C sp := by
 obtain ⟨f, fd, F, hm, hb⟩ := h
 exact ⟨f, fd, ps, hm, F.ok S len (hbody f), hy, hb⟩
end
end L3
namespace L3
open PySem PySem.Spec PyProof.Rows L2 PySem.SeqAt
section
variable {X : Cx} {K : PySem.W.Frag}
theorem op_plusK (h : X.K = K) : OpR X (binaryOp .Add) (rPlus K) := by subst h; exact op_plus
theorem op_eqK (h : X.K = K) (hu : X.A.units + 64 < cLine) : OpR X (compareOp .Eq) (rEqA K) := by subst h; exact op_eqA hu
theorem op_neK (h : X.K = K) (hu : X.A.units + 64 < cLine) : OpR X (compareOp .NotEq) (rNeA K) := by subst h; exact op_neA hu
theorem op_inK (h : X.K = K) : OpR X (compareOp .In) (rIn K false) := by subst h; exact op_in_seq
theorem op_notInK (h : X.K = K) : OpR X (compareOp .NotIn) (rIn K true) := by subst h; exact op_notIn_seq
theorem ix_K (h : X.K = K) : IxR X (rIxA K) := by subst h; exact ix_any
theorem sl_K (h : X.K = K) : SlR X (rSlA K) := by subst h; exact sl_any
theorem pi_seqK {tg l : Expr} {tl : TE} (h : X.K = K) (hl : PE X l tl) : PI X tg l (iSeq K tl) := by subst h; exact pi_seq hl
theorem call_lenK (h : X.K = K) : CallR X (.builtin "len") (rLen K) := by subst h; exact call_lenA
theorem call_listK (h : X.K = K) : CallR X (.type "list") (rLst K) := by subst h; exact call_listA
theorem call_isiK (h : X.K = K) : CallR X (.builtin "isinstance") (rIsi K) := by subst h; exact call_isi
theorem call_allK (h : X.K = K) (hc : X.calm = true) : CallR X (.builtin "all") (rAll K) := by subst h; exact call_all hc
def rTup (K : PySem.W.Frag) : List V → Hp → VK → Prop := fun xs H Q => ∃ p ys, xs = [.ref p] ∧ ((SqL K H p ys ∧ ∀ l, H l = none → Q (.ref l) (upd H l (.tup ys))) ∨ (SqT K H p ys ∧ Q (.ref p) H))
theorem call_tupK (h : X.K = K) : CallR X (.type "tuple") (rTup K) := by subst h; exact call_tuple_of
theorem pe_fldK {e : Expr} {f : Str} {pos : Pos} {ta : TE} (h : X.K = K) (he : PE X e ta) (hb : attributeBase e f X.env (eval e X.env) = eval e X.env := by rfl) : PE X (.Attribute e f pos) (tFld K ta f) := by subst h; exact pe_fld he hb
theorem ps_fldK {o value : Expr} {f : Str} {pos pos' : Pos} {ta tv : TE} (h : X.K = K) (ha : PE X o ta) (hv : PE X value tv) (hs : swapsWith value (some (.Attribute o f pos')) pos.line X.env = pure false := by rfl) :
   PS X (.Assign [.Attribute o f pos'] value pos) (sFld K ta tv f) := by subst h; exact ps_fld ha hv hs
theorem pt_truK {a : Expr} {ta : TE} (h : X.K = K) (ha : PE X a ta) (he : ∀ whole, isTrue a X.env whole = (do let v ← whole; standAt a.pos; holding [v] (truthy v)) := by intro _; rfl) : PT X a (tTru K ta) := by subst h; exact pt_tru ha he
theorem pg_tupK {es : List Expr} {k : Nat} {t : TGs} {n : Nat} {pos : Pos} (hK : X.K = K) (hc : X.calm = true) (h : PGs X es t)
   (hn : (assignEach es X.env).length = n := by rfl) (hst : (assignEach es X.env).findIdx? (·.1) = none := by rfl) : PG X (.Tuple es k pos) (gTup K n t) := by subst hK; exact pg_tup hc h hn hst
theorem pe_bm0K {o : Expr} {to : TE} {name : Str} {apos cpos : Pos} {T id : String} {r : V → List V → Hp → VK → Prop} (h : X.K = K) (pa : PlainAttrs T) (slot : Slot T name id) (hty : typeOf (.builtin id) = pure (.type "method_descriptor")) (hm : MtR X id r) (ho : PE X o to)
   (hbase : attributeBase o name X.env (eval o X.env) = eval o X.env := by rfl) (hline : (apos.endLine == cpos.line) = true := by rfl) : PE X (.Call (.Attribute o name apos) [] [] cpos) (tBM0 K T r to) := by subst h; exact pe_bm0 pa slot hty hm ho hbase hline
theorem pe_bmK {o e : Expr} {es : List Expr} {to : TE} {t : TA} {name : Str} {apos cpos : Pos} {T id : String} {r : V → List V → Hp → VK → Prop} (h : X.K = K) (pa : PlainAttrs T) (slot : Slot T name id) (hty : typeOf (.builtin id) = pure (.type "method_descriptor")) (hm : MtR X id r) (ho : PE X o to) (ha : PA X (e :: es) t)
   (hbase : attributeBase o name X.env (eval o X.env) = eval o X.env := by rfl)
   (hfew : ((backTo cpos (starEach (e :: es) X.env)).all (fun x => !x.1) && (backToKw cpos (keywordEach [] X.env)).all (fun x => x.1.isSome)
     && decide ((e :: es).length + ([] : List Keyword).length + (if ([] : List Keyword).isEmpty then 0 else 1) < 30)) = true := by rfl)
   (hline : (apos.endLine == cpos.line) = true := by rfl) (hs : starEach (e :: es) X.env = (false, eval e X.env) :: starEach es X.env := by rfl) (hplain : (backTo cpos (starEach es X.env)).any (·.1) = false := by rfl) :
   PE X (.Call (.Attribute o name apos) (e :: es) [] cpos) (tBM K T r to t) := by subst h; exact pe_bm pa slot hty hm ho ha hbase hfew hline hs hplain
end
section
variable {X : Cx} {P : Program} {w : World} {K : PySem.W.Frag} {mg : Str → Option Value} {base : Heap} {CX : CXT} {k : Nat} {E : XK} {m : Str} {pos apos : Pos} {e o : Expr} {es : List Expr} {ta : TE} {t : TA}
theorem pe_methK {pl : Sem Bool} (hP : X.prog = P ∧ X.w = w ∧ X.K = K ∧ X.mg = mg ∧ X.base = base) (he : PE X o ta) (hr : Room k X.A) (hx : Passes CX X E) (ha : PA X (e :: es) t)
   (hst : starEach (e :: es) X.env = (false, eval e X.env) :: starEach es X.env := by rfl) (hpl : (backTo pos (starEach es X.env)).any (·.1) = false := by rfl)
   (ht : eval (.Call (.Attribute o m apos) (e :: es) [] pos) X.env = (do
     let ov ← eval o X.env
     standAt apos.atName
     let (f, first) ← holding [ov] (getMethod ov m pl)
     callWith pos f first (backTo pos (starEach (e :: es) X.env)) (backToKw pos (keywordEach [] X.env))) := by rfl) :
   PE X (.Call (.Attribute o m apos) (e :: es) [] pos) (tMethE P w K mg base CX k m E ta t) := by
 obtain ⟨rfl, rfl, rfl, rfl, rfl⟩ := hP
 exact pe_methE (pl := pl) he hr hx ha hst hpl ht
theorem pe_methK0 {pl : Sem Bool} (hP : X.prog = P ∧ X.w = w ∧ X.K = K ∧ X.mg = mg ∧ X.base = base) (he : PE X o ta) (hr : Room k X.A) (hx : Passes CX X E)
   (ht : eval (.Call (.Attribute o m apos) [] [] pos) X.env = (do
     let ov ← eval o X.env
     standAt apos.atName
     let (f, first) ← holding [ov] (getMethod ov m pl)
     callWith pos f first (backTo pos (starEach [] X.env)) (backToKw pos (keywordEach [] X.env))) := by rfl) :
   PE X (.Call (.Attribute o m apos) [] [] pos) (tMethE P w K mg base CX k m E ta tNil) := by
 obtain ⟨rfl, rfl, rfl, rfl, rfl⟩ := hP
 exact pe_methE0 (pl := pl) he hr hx ht
end
end L3
namespace L3
open PySem PySem.Spec PyProof.Rows L2 PySem.SeqAt
theorem r_alloc {H : Hp} {R : Addr → Prop} (q : ∀ p, H p = none → R p) : ∀ p, H p = none → R p := q
theorem r_small {n : Nat} {R : Prop} (h : n ≤ sizeLine) (q : R) : n ≤ sizeLine ∧ R := ⟨h, q⟩
theorem none_same {H H' : Hp} {q : Addr} (s : Same H H') (h : H' q = none) : H q = none := by
 cases e : H q with
 | none => rfl
 | some u => rw [s _ _ e] at h; cases h
theorem same_none {H H1 : Hp} {p : Addr} {o : HO} (s : Same H H1) (h : H1 p = none) : Same H (upd H1 p o) := s.trans (same_new h)
def CInv {α : Type} (xs : List α) (f : α → V) (Sg : St → Prop) (H : Hp) (i : Nat) (ys : List V) (σ : St) (H1 : Hp) : Prop := Same H H1 ∧ Sg σ ∧ ys = (xs.take i).map f
theorem CInv.next {α : Type} {xs : List α} {f : α → V} {Sg : St → Prop} {H H1 H5 : Hp} {i : Nat} {ys : List V} {σ σ3 : St} {x : α} {y : V} (c : CInv xs f Sg H i ys σ H1) (hx : xs[i]? = some x) (e : y = f x) (s : Same H H5) (sg : Sg σ3) : CInv xs f Sg H (i + 1) (ys ++ [y]) σ3 H5 := by
 obtain ⟨_, _, rfl⟩ := c
 refine ⟨s, sg, ?_⟩
 subst e
 rw [List.take_add_one, hx, Option.toList_some, List.map_append]; rfl
theorem comp_mapL {K : PySem.W.Frag} {a : Addr} {α : Type} {xs : List α} {emb : α → V} {g : TG} {tc : TT} {te : TE} {fin : List V → Hp → Prop} {σ0 : St} {H : Hp} (f : α → V) (Sg : St → Prop) (hl : SqL K H a (xs.map emb)) (hz : xs.length ≤ sizeLine) (h0 : Sg σ0)
   (hs : ∀ (i : Nat) (x : α) (ys : List V) (σ : St) (H1 : Hp), xs[i]? = some x → CInv xs f Sg H i ys σ H1 → Same H H1 → Sg σ →
     g (emb x) σ H1 fun σ3 H3 => tc σ3 H3 fun b H4 => if b = true then te σ3 H4 fun y H5 => CInv xs f Sg H (i + 1) (ys ++ [y]) σ3 H5 else CInv xs f Sg H (i + 1) ys σ3 H4)
   (hd : ∀ H1, Same H H1 → fin (xs.map f) H1) : CompW (Itl K a) g tc te fin σ0 H := by
 refine comp_list (xs := xs.map emb) (CInv xs f Sg H) ⟨Same.refl _, h0, rfl⟩ ?_ ?_ ?_
 · rintro i ys σ H1 hi ⟨s, _, rfl⟩
   refine ⟨s.seq hl, ?_⟩
   rw [List.length_map, List.length_take]; omega
 · intro i x ys σ H1 hx c
   rw [List.getElem?_map] at hx
   obtain ⟨z, hz, rfl⟩ := Option.map_eq_some_iff.mp hx
   exact hs i z ys σ H1 hz c c.1 c.2.1
 · rintro ys σ H1 ⟨s, _, rfl⟩
   rw [List.length_map, List.take_length]
   exact hd H1 s
theorem r_ifB {b : Bool} {A B : Prop} (h1 : b = true → A) (h2 : b = false → B) : if b = true then A else B := by
 cases b with
 | true => exact h1 rfl
 | false => exact h2 rfl
theorem r_62 {j : Int} {R : Prop} (h1 : -(2 ^ 62) ≤ j) (h2 : j < 2 ^ 62) (q : R) : -(2 ^ 62) ≤ j ∧ j < 2 ^ 62 ∧ R := ⟨h1, h2, q⟩
theorem r_itL {K : PySem.W.Frag} {H : Hp} {a : Addr} {xs : List V} {A B : Prop} (h : SqL K H a xs) (q : A) : ((∃ xs, SqL K H a xs) ∧ A) ∨ ((∃ xs, SqT K H a xs) ∧ B) := .inl ⟨⟨xs, h⟩, q⟩
theorem r_itT {K : PySem.W.Frag} {H : Hp} {a : Addr} {xs : List V} {A B : Prop} (h : SqT K H a xs) (q : B) : ((∃ xs, SqL K H a xs) ∧ A) ∨ ((∃ xs, SqT K H a xs) ∧ B) := .inr ⟨⟨xs, h⟩, q⟩
theorem r_tyL {K : PySem.W.Frag} {H : Hp} {p : Addr} {xs : List V} {R : Prop} (h : H p = some (.lst xs)) (q : R) : tyV K "list" (.ref p) H ∧ R := ⟨ty_list h, q⟩
theorem r_gN {i : Nat} {v : V} {σ σ' : St} {H : Hp} {Q : St → Hp → Prop} (h : σ.set i (some v) = σ') (q : Q σ' H) : gName i v σ H Q := by subst h; exact q
theorem r_st {N : List Str} {vs : List V} {σ' : St} {t : TS} {D : Ends} {H : Hp} (h : start N vs = σ') (q : t D σ' H) : t D (start N vs) H := by subst h; exact q
theorem r_compS' {i : Nat} {own : List Str} {fr : List (Str × Nat)} {wi : TI} {g : TG} {tc : TT} {te : TE} {D : Ends} {σ σi : St} {H : Hp} (h : innerS own fr σ = σi) (q : wi σ H fun J H1 => CompW J g tc te (fun ys H3 => ∀ p, H3 p = none → gName i (.ref p) σ (upd H3 p (.lst ys)) D.nx) σi H1) : tCompS i own fr wi g tc te D σ H := by subst h; exact q
theorem r_compE' {own : List Str} {fr : List (Str × Nat)} {wi : TI} {g : TG} {tc : TT} {te : TE} {σ σi : St} {H : Hp} {Q : VK} (h : innerS own fr σ = σi) (q : wi σ H fun J H1 => CompW J g tc te (fun ys H3 => ∀ p, H3 p = none → Q (.ref p) (upd H3 p (.lst ys))) σi H1) : tCompE own fr wi g tc te σ H Q := by subst h; exact q
def rIsN : R2 := fun x y H Q => y = .non ∧ Q (.bl (decide (x = .non))) H
theorem op_isNA {X : Cx} : OpR X (compareOp .Is) rIsN := op_isN
theorem r_isNr {p : Addr} {H : Hp} {Q : VK} (q : Q (.bl false) H) : rIsN (.ref p) .non H Q := ⟨rfl, q⟩
def FInv {α : Type} (xs : List α) (f : α → V) (pr : α → Bool) (Sg : St → Prop) (H : Hp) (i : Nat) (ys : List V) (σ : St) (H1 : Hp) : Prop := Same H H1 ∧ Sg σ ∧ ys = ((xs.take i).filter pr).map f
theorem FInv.yes {α : Type} {xs : List α} {f : α → V} {pr : α → Bool} {Sg : St → Prop} {H H1 H5 : Hp} {i : Nat} {ys : List V} {σ σ3 : St} {x : α} {y : V} (c : FInv xs f pr Sg H i ys σ H1) (hx : xs[i]? = some x) (hp : pr x = true) (e : y = f x) (s : Same H H5) (sg : Sg σ3) : FInv xs f pr Sg H (i + 1) (ys ++ [y]) σ3 H5 := by
 obtain ⟨_, _, rfl⟩ := c
 refine ⟨s, sg, ?_⟩
 subst e
 rw [List.take_add_one, hx, Option.toList_some, List.filter_append, List.map_append, List.filter_cons, if_pos hp]; rfl
theorem FInv.no {α : Type} {xs : List α} {f : α → V} {pr : α → Bool} {Sg : St → Prop} {H H1 H5 : Hp} {i : Nat} {ys : List V} {σ σ3 : St} {x : α} (c : FInv xs f pr Sg H i ys σ H1) (hx : xs[i]? = some x) (hp : pr x = false) (s : Same H H5) (sg : Sg σ3) : FInv xs f pr Sg H (i + 1) ys σ3 H5 := by
 obtain ⟨_, _, rfl⟩ := c
 refine ⟨s, sg, ?_⟩
 rw [List.take_add_one, hx, Option.toList_some, List.filter_append, List.map_append, List.filter_cons, if_neg (by rw [hp]; decide)]
 simp
theorem r_inT {K : PySem.W.Frag} {p : Addr} {xs : List V} {x : V} {H : Hp} {Q : VK} (h : SqT K H p xs) (f1 : flatV x = true) (f2 : xs.all flatV = true) (q : Q (.bl (inV x xs)) H) : rIn K false x (.ref p) H Q := ⟨p, xs, rfl, .inr h, f1, f2, q⟩
end L3
namespace L3
open PySem PySem.Spec PyProof.Rows L2 PySem.SeqAt
section
variable {P : Program} {w : World} {K : PySem.W.Frag} {mg : Str → Option Value} {base : Heap}
end
section
variable {X : Cx} {CX : CXT} {k : Nat} {C : Addr} {sp : Sp} {E : XK} {x m : Str} {p pos apos : Pos} {e o : Expr} {es : List Expr} {ta : TE} {t : TA}
end
section
variable {P : Program} {w : World} {K : PySem.W.Frag} {mg : Str → Option Value} {base : Heap} {x qual : Str} {st : Stmt} {N ps : List Str} {sp : Sp} {C : Addr}
end
theorem r_plusT {K : PySem.W.Frag} {a b : Addr} {xs ys : List V} {H : Hp} {Q : VK} (ha : SqT K H a xs) (hb : SqT K H b ys) (h1 : xs ≠ []) (h2 : ys ≠ []) (hz : xs.length + ys.length ≤ sizeLine) (q : ∀ p, H p = none → Q (.ref p) (upd H p (.tup (xs ++ ys)))) :
   rPlus K (.ref a) (.ref b) H Q := .inr (.inr (.inl ⟨a, b, xs, ys, rfl, rfl, ha, hb, h1, hz, fun e => absurd e h2, fun _ => q⟩))
section
variable {K : PySem.W.Frag} {a : Addr} {xs : List V} {g : TG} {tc : TT} {te : TE} {fin : List V → Hp → Prop} {H : Hp}
theorem comp_tup {σ0 : St} (Pv : Nat → List V → St → Hp → Prop) (h0 : Pv 0 [] σ0 H) (hl : ∀ i ys σ H, i ≤ xs.length → Pv i ys σ H → SqT K H a xs ∧ ys.length ≤ sizeLine)
   (hs : ∀ i x ys σ H, xs[i]? = some x → Pv i ys σ H → g x σ H fun σ3 H3 => tc σ3 H3 fun b H4 => if b = true then te σ3 H4 fun y H5 => Pv (i + 1) (ys ++ [y]) σ3 H5 else Pv (i + 1) ys σ3 H4)
   (hd : ∀ ys σ H, Pv xs.length ys σ H → fin ys H) : CompW (Itt K a) g tc te fin σ0 H := by
 refine ⟨fun i m ys σ H => m = xs.length - i ∧ i ≤ xs.length ∧ Pv i ys σ H, ⟨xs.length, by simp, Nat.zero_le _, h0⟩, ?_⟩
 rintro i m ys σ H ⟨rfl, hi, p⟩
 obtain ⟨q, hz⟩ := hl i ys σ H hi p
 by_cases hlt : i < xs.length
 · refine .inr ⟨⟨xs, xs[i], q, by simp [hlt]⟩, Pv (i + 1), fun ys2 σ2 H2 p' => ⟨(hl (i + 1) ys2 σ2 H2 hlt p').2, xs.length - (i + 1), by omega, rfl, hlt, p'⟩, fun x H2 y => ?_⟩
   obtain ⟨e, y⟩ := y
   subst e
   exact hs i x ys σ _ (y xs q) p
 · have e : i = xs.length := by omega
   subst e
   exact .inl ⟨⟨xs, q, Nat.le_refl _⟩, hz, hd ys σ H p⟩
theorem comp_mapT {α : Type} {xs : List α} {emb : α → V} {σ0 : St} (f : α → V) (Sg : St → Prop) (hl : SqT K H a (xs.map emb)) (hz : xs.length ≤ sizeLine) (h0 : Sg σ0)
   (hs : ∀ (i : Nat) (x : α) (ys : List V) (σ : St) (H1 : Hp), xs[i]? = some x → CInv xs f Sg H i ys σ H1 → Same H H1 → Sg σ →
     g (emb x) σ H1 fun σ3 H3 => tc σ3 H3 fun b H4 => if b = true then te σ3 H4 fun y H5 => CInv xs f Sg H (i + 1) (ys ++ [y]) σ3 H5 else CInv xs f Sg H (i + 1) ys σ3 H4)
   (hd : ∀ H1, Same H H1 → fin (xs.map f) H1) : CompW (Itt K a) g tc te fin σ0 H := by
 refine comp_tup (xs := xs.map emb) (CInv xs f Sg H) ⟨Same.refl _, h0, rfl⟩ ?_ ?_ ?_
 · rintro i ys σ H1 hi ⟨s, _, rfl⟩
   refine ⟨SqT_same s hl, ?_⟩
   rw [List.length_map, List.length_take]; omega
 · intro i x ys σ H1 hx c
   rw [List.getElem?_map] at hx
   obtain ⟨z, hz, rfl⟩ := Option.map_eq_some_iff.mp hx
   exact hs i z ys σ H1 hz c c.1 c.2.1
 · rintro ys σ H1 ⟨s, _, rfl⟩
   rw [List.length_map, List.take_length]
   exact hd H1 s
end
end L3
namespace L3
open PySem PySem.Spec PyProof.Rows
section
variable {prog : Program} {w : World} {A : Around} {E : Value → Shared → Prop} {s : Shared}
theorem drawT0 {it t : Addr} {i : Nat} {its : Array Value} {Q : Value → Shared → Prop} (hi : s.heap.IsTupleIter it t i) (ht : s.heap.IsTuple t its)
   (q1 : ∀ x, its[i]? = some x → ∀ h', h'.IsTupleIter it t (i + 1) → Heap.SameBut it s.heap h' → Q x { s with heap := h' })
   (q2 : its[i]? = none → A.handled = none ∧ ∀ h' e, Heap.ExtBut it s.heap h' → (∃ o, h'.get? e = some o ∧ o.cls = .type "StopIteration") → E (.ref e) { s with heap := h' }) :
   wpAny (model prog w) A (Builtin.SmallTypes.nextOf (.ref it)) Q E s := by
 obtain ⟨o, ho, hc, hd⟩ := id hi
 obtain ⟨ot, hot, _, nt, hdt⟩ := ht
 unfold Builtin.SmallTypes.nextOf
 refine wpAny_bind (wpAny_callSpecial?_slot (name := Str.ofString "__next__") hi.typeIs F.slot_tuple_iterator_next (wpAny_call_entry F.slot_tuple_iterator_next hi.typeIs F.entry_tuple_iterator_next ?_ (F.args_tuple_iterator_next_1 _)))
 show wpAny _ _ (field (.ref it) 0 >>= _) _ _ _; refine wpAny_bind (wpAny_field ho hd (x := .ref t) rfl ?_)
 show wpAny _ _ (if (Value.ref t == Value.none) = true then _ else _) _ _ _; rw [if_neg (show ¬ (Value.ref t == Value.none) = true from fun z => Bool.false_ne_true z)]
 show wpAny _ _ (field (.ref it) 1 >>= _) _ _ _; refine wpAny_bind (wpAny_field ho hd (x := .int i 0) rfl ?_)
 show wpAny _ _ (seqItems? (.ref t) >>= _) _ _ _; refine wpAny_bind (wpAny_seqItems hot hdt ?_)
 cases hx : its[i]? with
 | some x =>
   simp only [Int.toNat_natCast, hx]; refine wpAny_bind (wpAny_setField ho hd (by simp) (wpAny_pure ⟨x, rfl, wpAny_pure (q1 x hx _ ?_ (Heap.SameBut.update ..))⟩))
   refine ⟨_, Heap.get?_update_self _ ho (Obj.isFreed_of_fields (Obj.data_mapFields hd _)), (Obj.cls_mapFields ..).trans hc, ?_⟩
   rw [Obj.data_mapFields hd]; simp [rawInt]
 | none =>
   obtain ⟨hh, q2⟩ := q2 hx
   simp only [Int.toNat_natCast, hx]; refine wpAny_bind (wpAny_rule (wpAny_bind (wpAny_setField ho hd (by simp) ?_)))
   show wpAny _ _ (newExc (.type "StopIteration") [] >>= _) _ _ _; refine wpAny_bind ?_
   simp only [newExc, newTuple]; refine wpAny_bind (wpAny_newObj_type ?_ (by size_fits))
   refine wpAny_bind (m := firstArgMember _ _) (wpAny_of_eq (a := Value.none) (by first | rfl | (simp only [firstArgMember]; rfl)) (wpAny_newObj_type ?_ (by size_fits)))
   simp only [raiseNew]; refine wpAny_bind (wpAny_handled ?_)
   rw [show A.in1.handled = none from hh]; refine wpAny_bind (wpAny_pure (wpAny_throw ?_))
   exact q2 _ _ (((Heap.SameBut.update ..).extBut.push _).push _) ⟨_, Heap.get?_push_size _ rfl, rfl⟩
theorem zipT {z TI TO i1 i2 t1 t2 : Addr} {k : Nat} {xs ys : Array Value} {a b : Value} {Q : Fin → Shared → Prop} (D : ZipApart z TI TO i1 i2 t1 t2) (hz : IsZip s.heap z TI TO .none) (hTI : IsPair s.heap TI (.ref i1) (.ref i2)) (hTO : IsPair s.heap TO a b)
   (h1 : s.heap.IsTupleIter i1 t1 k) (h2 : s.heap.IsTupleIter i2 t2 k) (ht1 : s.heap.IsTuple t1 xs) (ht2 : s.heap.IsTuple t2 ys)
   (q1 : ∀ x y, xs[k]? = some x → ys[k]? = some y → ∀ h', IsZip h' z TI TO (rawInt s.heap.objs.size) → IsPair h' TO x y → h'.IsTupleIter i1 t1 (k + 1) → h'.IsTupleIter i2 t2 (k + 1) → IsPair h' s.heap.objs.size x y →
     (∀ c o, c ≠ z → c ≠ TO → c ≠ i1 → c ≠ i2 → s.heap.get? c = some o → h'.get? c = some o) → Q (.done (.ret (.ref s.heap.objs.size))) { s with heap := h' })
   (q2 : (xs[k]? = none ∨ ys[k]? = none) → A.handled = none ∧ ∀ h' e, (∀ c o, c ≠ z → c ≠ TO → c ≠ i1 → c ≠ i2 → s.heap.get? c = some o → h'.get? c = some o) → (∃ o, h'.get? e = some o ∧ o.cls = .type "StopIteration") → E (.ref e) { s with heap := h' }) :
   wpAny (model prog w) A (Builtin.«zip.__next__» ⟨[.ref z], []⟩) Q E s := by
 show wpAny _ _ (field (.ref z) 2 >>= _) _ _ _; refine wpAny_bind (wpAny_field hz rfl (x := .bool false) rfl ?_)
 show wpAny _ _ (field (.ref z) 3 >>= _) _ _ _; refine wpAny_bind (wpAny_field hz rfl (x := .ref TI) rfl (wpAny_bind (wpAny_seqItems hTI rfl ?_)))
 show wpAny _ _ (Builtin.SmallTypes.ownedTupleIsFree (.ref z) >>= _) _ _ _; refine wpAny_bind ?_
 unfold Builtin.SmallTypes.ownedTupleIsFree; refine wpAny_bind (wpAny_field hz rfl (x := .none) rfl (wpAny_pure ?_))
 simp only [if_true]; refine wpAny_bind (wpAny_rule (wpAny_bind (wpAny_field hz rfl (x := .ref TO) rfl ?_)))
 refine wpAny_bind (wpAny_setField_rec hz (by simp) fun g1 hz1 s1 => ?_); replace hz1 : IsZip g1 z TI TO .ellipsis := hz1
 refine wpAny_bind ?_; simp only [List.zipIdx_cons, List.zipIdx_nil, List.forIn_cons, List.forIn_nil]
 refine wpAny_bind (wpAny_bind (wpAny_onRaise ?_)); show wpAny _ _ (Builtin.SmallTypes.nextOf (.ref i1) >>= _) _ _ _
 refine wpAny_bind (drawT0 (h1.at fun o e => s1.extBut _ o D.i1z e) (ht1.extBut s1.extBut D.l1z) (fun x hx g2 h12 s2 => wpAny_pure ?_) fun hx => ?_)
 · have hO2 : IsPair g2 TO a b := s2.extBut _ _ D.TOi1 (s1.extBut _ _ D.TOz hTO)
   refine wpAny_bind (wpAny_seqItems hO2 rfl (wpAny_bind (wpAny_updateSeq_pair hO2 fun g3 hO3 s3 => ?_))); replace hO3 : IsPair g3 TO x b := hO3
   refine wpAny_bind (wpAny_letGo (wpAny_pure ?_)); refine wpAny_bind (wpAny_bind (wpAny_onRaise ?_))
   show wpAny _ _ (Builtin.SmallTypes.nextOf (.ref i2) >>= _) _ _ _
   have k3 : ∀ c o, c ≠ z → c ≠ TO → c ≠ i1 → s.heap.get? c = some o → g3.get? c = some o := fun c o c1 c2 c3 e => s3.extBut _ _ c2 (s2.extBut _ _ c3 (s1.extBut _ _ c1 e))
   have hz3 : IsZip g3 z TI TO .ellipsis := s3.extBut _ _ D.TOz.symm (s2.extBut _ _ D.i1z.symm hz1)
   refine wpAny_bind (drawT0 (h2.at fun o e => k3 _ o D.i2z D.TOi2.symm D.i12.symm e) (ht2.at fun o e => k3 _ o D.l2z D.l2TO D.l2i1 e) (fun y hy g4 h24 s4 => wpAny_pure ?_) fun hy => ?_)
   · have hO4 : IsPair g4 TO x b := s4.extBut _ _ D.TOi2 hO3
     refine wpAny_bind (wpAny_seqItems hO4 rfl (wpAny_bind (wpAny_updateSeq_pair hO4 fun g5 hO5 s5 => ?_))); replace hO5 : IsPair g5 TO x y := hO5
     refine wpAny_bind (wpAny_letGo (wpAny_pure (wpAny_pure ?_))); refine wpAny_bind (wpAny_seqItems hO5 rfl (wpAny_bind (wpAny_newTuple ?_)))
     have z5 : g5.objs.size = s.heap.objs.size := by rw [s5.1, s4.1, s3.1, s2.1, s1.1]
     have hz5 : IsZip g5 z TI TO .ellipsis := s5.extBut _ _ D.TOz.symm (s4.extBut _ _ D.i2z.symm hz3)
     have k5 : ∀ c o, c ≠ z → c ≠ TO → c ≠ i1 → c ≠ i2 → s.heap.get? c = some o → g5.get? c = some o := fun c o c1 c2 c3 c4 e => s5.extBut _ _ c2 (s4.extBut _ _ c4 (k3 c o c1 c2 c3 e))
     have h15 : g5.IsTupleIter i1 t1 (k + 1) := h12.at fun o e => s5.extBut _ _ D.TOi1.symm (s4.extBut _ _ D.i12 (s3.extBut _ _ D.TOi1.symm e))
     have h25 : g5.IsTupleIter i2 t2 (k + 1) := h24.at fun o e => s5.extBut _ _ D.TOi2.symm e
     have zlt : z < g5.objs.size := Heap.lt_size hz5
     show wpAny _ _ (Builtin.SmallTypes.ownedTupleHandOut (.ref z) (.ref g5.objs.size) >>= _) _ _ _; refine wpAny_bind ?_
     unfold Builtin.SmallTypes.ownedTupleHandOut
     have hz6 : IsZip (g5.push { cls := .type "tuple", data := .seq #[x, y] }) z TI TO .ellipsis := Heap.get?_push_of_some _ hz5
     refine wpAny_bind (wpAny_setField_rec hz6 (by simp) fun g7 hz7 s7 => ?_); replace hz7 : IsZip g7 z TI TO (rawInt g5.objs.size) := hz7
     refine wpAny_setField_rec hz7 (by simp) fun g8 hz8 s8 => ?_; replace hz8 : IsZip g8 z TI TO (rawInt g5.objs.size) := hz8
     have up : ∀ c o, c ≠ z → g5.get? c = some o → g8.get? c = some o := fun c o c1 e => s8.extBut _ _ c1 (s7.extBut _ _ c1 (Heap.get?_push_of_some _ e))
     have hT8 : IsPair g8 g5.objs.size x y := s8.extBut _ _ (Nat.ne_of_gt zlt) (s7.extBut _ _ (Nat.ne_of_gt zlt) (Heap.get?_push_size _ rfl))
     rw [z5] at hz8 hT8; refine wpAny_pure ?_
     show Q (.done (.ret (.ref g5.objs.size))) _; rw [z5]
     exact q1 x y hx hy g8 hz8 (up _ _ D.TOz hO5) (h15.at fun o e => up _ o D.i1z e) (h25.at fun o e => up _ o D.i2z e) hT8 fun c o c1 c2 c3 c4 e => up c o c1 (k5 c o c1 c2 c3 c4 e)
   · obtain ⟨hh, q2⟩ := q2 (.inr hy)
     refine ⟨hh, fun g4 e s4 he => ?_⟩
     obtain ⟨oe, hoe, hce⟩ := he
     have hz4 : IsZip g4 z TI TO .ellipsis := s4 _ _ D.i2z.symm hz3
     have hez : e ≠ z := fun v => by subst v; rw [hz4] at hoe; cases hoe; simp at hce
     exact wpAny_setField_rec hz4 (by simp) fun g5 _ s5 => q2 g5 e (fun c o c1 c2 c3 c4 v => s5.extBut _ _ c1 (s4 _ _ c4 (k3 c o c1 c2 c3 v))) ⟨oe, s5.extBut _ _ hez hoe, hce⟩
 · obtain ⟨hh, q2⟩ := q2 (.inl hx)
   refine ⟨hh, fun g2 e s2 he => ?_⟩
   obtain ⟨oe, hoe, hce⟩ := he
   have hz2 : IsZip g2 z TI TO .ellipsis := s2 _ _ D.i1z.symm hz1
   have hez : e ≠ z := fun v => by subst v; rw [hz2] at hoe; cases hoe; simp at hce
   exact wpAny_setField_rec hz2 (by simp) fun g3 _ s3 => q2 g3 e (fun c o c1 _ c3 _ v => s3.extBut _ _ c1 (s2 _ _ c3 (s1.extBut _ _ c1 v))) ⟨oe, s3.extBut _ _ hez hoe, hce⟩
end
abbrev itO (t : Addr) : Obj := { cls := .type "tuple_iterator", data := .fields #[.ref t, .int 0 0] }
abbrev prO (a b : Value) : Obj := { cls := .type "tuple", data := .seq #[a, b] }
abbrev zG1 (h : Heap) (t : Addr) : Heap := h.push (itO t)
abbrev zG2 (h : Heap) (t u : Addr) : Heap := (zG1 h t).push (itO u)
abbrev zG3 (h : Heap) (t u : Addr) : Heap := (zG2 h t u).push (prO (.ref h.objs.size) (.ref (zG1 h t).objs.size))
abbrev zG4 (h : Heap) (t u : Addr) : Heap := (zG3 h t u).push (prO .none .none)
abbrev zG5 (h : Heap) (t u : Addr) : Heap := (zG4 h t u).push { cls := .type "zip", data := .fields #[.none, .bool false, .bool false, .ref (zG2 h t u).objs.size, .ref (zG3 h t u).objs.size] }
theorem zipT_new (t u : Addr) (xs ys : Array Value) : Meets (Builtin.«zip.__new__» ⟨[.type "zip", .ref t, .ref u], []⟩) (fun _ R s => s.heap.IsTuple t xs ∧ s.heap.IsTuple u ys ∧ R (.ok (.ret (.ref (zG4 s.heap t u).objs.size))) { s with heap := zG5 s.heap t u }) :=
 .of_wp fun prog w A R s h => by
   obtain ⟨hp, g, d, tk, os⟩ := s; obtain ⟨hl1, hl2, h⟩ := h
   have hsub := sub_zip; have hL1 : Heap.IsTuple (Shared.heap ⟨hp, g, d, tk, os⟩) t xs := hl1
   have hL2 : Heap.IsTuple (Shared.heap ⟨hp.push (itO t), g, d, tk, os⟩) u ys := hl2.at fun o e => Heap.get?_push_of_some _ e
   wp_walk using wpAny_pyIter_tuple hL1, wpAny_pyIter_tuple hL2
   exact ⟨_, rfl, h⟩
section
variable {prog : Program} {w : World} {A : Around} {E : Value → Shared → Prop} {s : Shared}
theorem callZip {t u : Addr} {xs ys : Array Value} {Q : Value → Shared → Prop} (h1 : s.heap.IsTuple t xs) (h2 : s.heap.IsTuple u ys)
   (q : ∀ h' n, n = s.heap.objs.size → IsZip h' (n + 4) (n + 2) (n + 3) .none → IsPair h' (n + 2) (.ref n) (.ref (n + 1)) → IsPair h' (n + 3) .none .none → h'.IsTupleIter n t 0 → h'.IsTupleIter (n + 1) u 0 →
     (∀ c o, s.heap.get? c = some o → h'.get? c = some o) → Q (.ref (n + 4)) { s with heap := h' }) : wpAny (model prog w) A (call (.type "zip") [.ref t, .ref u]) Q E s := by
 refine callType_new F.called_zip (by decide) (F.typeCall_zip_2 _ _) (F.newCall_zip_2 _ _) (fun obj => F.args_object_init_3 obj _ _) F.entry_zip_new (zipT_new t u xs ys) ⟨h1, h2, ?_⟩
 have z1 : (zG1 s.heap t).objs.size = s.heap.objs.size + 1 := Heap.size_push ..
 have z2 : (zG2 s.heap t u).objs.size = s.heap.objs.size + 2 := by rw [Heap.size_push, z1]
 have z3 : (zG3 s.heap t u).objs.size = s.heap.objs.size + 3 := by rw [Heap.size_push, z2]
 have z4 : (zG4 s.heap t u).objs.size = s.heap.objs.size + 4 := by rw [Heap.size_push, z3]
 have p5 : ∀ c o, (zG4 s.heap t u).get? c = some o → (zG5 s.heap t u).get? c = some o := fun c o e => Heap.get?_push_of_some _ e
 have p4 : ∀ c o, (zG3 s.heap t u).get? c = some o → (zG5 s.heap t u).get? c = some o := fun c o e => p5 c o (Heap.get?_push_of_some _ e)
 have p3 : ∀ c o, (zG2 s.heap t u).get? c = some o → (zG5 s.heap t u).get? c = some o := fun c o e => p4 c o (Heap.get?_push_of_some _ e)
 have p2 : ∀ c o, (zG1 s.heap t).get? c = some o → (zG5 s.heap t u).get? c = some o := fun c o e => p3 c o (Heap.get?_push_of_some _ e)
 have e5 : (zG5 s.heap t u).get? (zG4 s.heap t u).objs.size = some _ := Heap.get?_push_size _ rfl
 have e4 := p5 _ _ (show (zG4 s.heap t u).get? (zG3 s.heap t u).objs.size = some _ from Heap.get?_push_size _ rfl)
 have e3 := p4 _ _ (show (zG3 s.heap t u).get? (zG2 s.heap t u).objs.size = some _ from Heap.get?_push_size _ rfl)
 have e2 := p3 _ _ (show (zG2 s.heap t u).get? (zG1 s.heap t).objs.size = some _ from Heap.get?_push_size _ rfl)
 have e1 := p2 _ _ (show (zG1 s.heap t).get? s.heap.objs.size = some _ from Heap.get?_push_size _ rfl)
 rw [z2, z3, z4] at e5
 rw [z2, z1] at e3
 rw [z3] at e4
 rw [z1] at e2
 show _ ∧ _
 rw [z4]
 exact ⟨⟨_, e5, rfl⟩, q _ _ rfl e5 e3 e4 ⟨_, e1, rfl, rfl⟩ ⟨_, e2, rfl, rfl⟩ fun c o x => p2 c o (Heap.get?_push_of_some _ x)⟩
theorem nextZip {z TI TO i1 i2 t1 t2 : Addr} {k : Nat} {xs ys : Array Value} {a b : Value} {Q : Option Value → Shared → Prop} (D : ZipApart z TI TO i1 i2 t1 t2) (hz : IsZip s.heap z TI TO .none) (hTI : IsPair s.heap TI (.ref i1) (.ref i2)) (hTO : IsPair s.heap TO a b)
   (h1 : s.heap.IsTupleIter i1 t1 k) (h2 : s.heap.IsTupleIter i2 t2 k) (ht1 : s.heap.IsTuple t1 xs) (ht2 : s.heap.IsTuple t2 ys)
   (q1 : ∀ x y, xs[k]? = some x → ys[k]? = some y → ∀ h', IsZip h' z TI TO (rawInt s.heap.objs.size) → IsPair h' TO x y → h'.IsTupleIter i1 t1 (k + 1) → h'.IsTupleIter i2 t2 (k + 1) → IsPair h' s.heap.objs.size x y →
     (∀ c o, c ≠ z → c ≠ TO → c ≠ i1 → c ≠ i2 → s.heap.get? c = some o → h'.get? c = some o) → Q (some (.ref s.heap.objs.size)) { s with heap := h' })
   (q2 : (xs[k]? = none ∨ ys[k]? = none) → A.handled = none ∧ ∀ h', (∀ c o, c ≠ z → c ≠ TO → c ≠ i1 → c ≠ i2 → s.heap.get? c = some o → h'.get? c = some o) → Q none { s with heap := h' }) :
   wpAny (model prog w) A (pyNext (.ref z)) Q E s := by
 have hT : s.TypeIs (.ref z) "zip" := ⟨_, hz, rfl⟩; unfold pyNext
 refine wpAny_bind (wpAny_attempt (wpAny_callSpecial?_slot (name := Str.ofString "__next__") hT F.slot_zip_next (wpAny_call_entry F.slot_zip_next hT F.entry_zip_next ?_ (F.args_zip_next_1 _))))
 refine zipT D hz hTI hTO h1 h2 ht1 ht2 (fun x y hx hy h' a1 a2 a3 a4 a5 a6 => ⟨_, rfl, wpAny_pure (q1 x y hx hy h' a1 a2 a3 a4 a5 a6)⟩) fun he => ⟨(q2 he).1, fun h' e kk ho => ?_⟩
 obtain ⟨o, ho, hc⟩ := ho
 exact wpAny_bind (wpAny_isInstance (T := "StopIteration") (b := true) ⟨o, ho, hc⟩ isSubtype_stop (wpAny_pure ((q2 he).2 _ kk)))
end
end L3
namespace L3
open PySem PySem.Spec PyProof.Rows L2
def Itz (K : PySem.W.Frag) (a b : Addr) : It :=
 ⟨fun i H => ∃ xs ys x y, SqT K H a xs ∧ SqT K H b ys ∧ xs[i]? = some x ∧ ys[i]? = some y,
  fun i H v H' => ∃ T x y, v = .ref T ∧ H T = none ∧ H' = upd H T (.tup [x, y]) ∧ ∀ xs ys, SqT K H a xs → SqT K H b ys → xs[i]? = some x ∧ ys[i]? = some y,
  fun i H => ∃ xs ys, SqT K H a xs ∧ SqT K H b ys ∧ (xs.length ≤ i ∨ ys.length ≤ i)⟩
theorem inv_turns {X : Cx} {pins : List (Addr × Obj)} {σ : St} {H : Hp} {s : Shared} {h' : Heap} {ch : List Addr} {T : Addr} {xs : List V} (I : Inv X pins σ H s) (hf : ∀ b ∈ ch, FpOk X pins H b) (hT : s.heap.objs.size ≤ T)
   (k : ∀ b o, b ∉ ch → s.heap.get? b = some o → h'.get? b = some o) (kc : ∀ b ∈ ch, ∃ o, h'.get? b = some o) (new : ObjOk X.prog X.w (upd H T (.tup xs)) h' T (.tup xs)) : Inv X pins σ (upd H T (.tup xs)) { s with heap := h' } := by
 have hn : H T = none := I.hok.fresh hT
 have nc : ∀ b u, H b = some u → b ∉ ch := fun b u e hb => by rw [(hf b hb).1] at e; cases e
 have nT : ∀ b o, s.heap.get? b = some o → b ≠ T := fun b o e z => absurd (Heap.lt_size e) (by rw [z]; exact Nat.not_lt.mpr hT)
 refine I.call' (ch := ch) rfl ⟨fun b o e _ _ hc => k b o hc e, fun b o e _ _ hc => ⟨o.slots, k b o hc e⟩, fun b o e n _ => by rw [upd_ne (nT b o e)]; exact n, fun b o e hc => ⟨o, k b o hc e⟩, fun b xs e => ?_, fun b o u e => ?_, fun b ps e => ⟨#[], ?_⟩⟩ ?_ I.bare ?_
 · rw [upd_ne (ne_of_none e hn)]; exact e
 · rw [upd_ne (ne_of_none e hn)]; exact e
 · rw [upd_ne (ne_of_none e hn), e]; simp
 · intro b u e
   by_cases hb : b = T
   · subst hb
     rw [upd_same] at e
     cases e
     exact new
   · rw [upd_ne hb] at e
     refine (I.hok b u e).stay (fun c v hc q => k c v ?_ q) (fun c q => by rw [upd_ne (ne_of_none q hn)]; exact q) fun c ys q => by rw [upd_ne (ne_of_none q hn)]; exact q
     rcases hc with z | z
     · rw [z]; exact nc b u e
     · exact nc c _ z
 · intro b hb
   obtain ⟨f0, f1, f2, f3, f4, f5⟩ := hf b hb
   exact ⟨f3, f1, f4, f5⟩
theorem turn_zip {P : Program} {w : World} {K : PySem.W.Frag} {es : List Expr} {n : Nat} {pos : Pos} {a b z TI TO i1 i2 : Addr} (D : ZipApart z TI TO i1 i2 a b) :
   Turn P w K (.Tuple es n pos) (Itz K a b) [z, TI, TO, i1, i2] z (fun i h => IsZip h z TI TO .none ∧ IsPair h TI (.ref i1) (.ref i2) ∧ (∃ x y, IsPair h TO x y) ∧ h.IsTupleIter i1 a i ∧ h.IsTupleIter i2 b i) where
 mem := by simp
 obj := fun i h st c hc => by
   obtain ⟨hz, hI, ⟨x, y, hO⟩, ⟨o1, e1, _, d1⟩, ⟨o2, e2, _, d2⟩⟩ := st
   have hc : c = z ∨ c = TI ∨ c = TO ∨ c = i1 ∨ c = i2 := by simpa using hc
   rcases hc with rfl | rfl | rfl | rfl | rfl
   · exact ⟨_, hz, fun v e => by cases e⟩
   · exact ⟨_, hI, fun v e => by cases e⟩
   · exact ⟨_, hO, fun v e => by cases e⟩
   · exact ⟨_, e1, fun v e => by rw [d1] at e; cases e⟩
   · exact ⟨_, e2, fun v e => by rw [d2] at e; cases e⟩
 keep := fun i h h' st k => by
   obtain ⟨hz, hI, ⟨x, y, hO⟩, h1, h2⟩ := st
   exact ⟨k z (by simp) _ hz, k TI (by simp) _ hI, ⟨x, y, k TO (by simp) _ hO⟩, h1.at fun o e => k i1 (by simp) o e, h2.at fun o e => k i2 (by simp) o e⟩
 item := by
   intro X hP hw hK hc i pins s σ H E I hf st hg
   subst hP hw hK
   obtain ⟨hz, hI, ⟨x0, y0, hO⟩, h1, h2⟩ := st
   obtain ⟨xs, ys, x, y, hq1, hq2, hx, hy⟩ := hg
   obtain ⟨its1, rv1, p1, _⟩ := I.tuple hq1
   obtain ⟨its2, rv2, p2, _⟩ := I.tuple hq2
   obtain ⟨u, hu, ru⟩ := rv1.get hx
   obtain ⟨v, hv, rv⟩ := rv2.get hy
   refine nextZip D hz hI hO h1 h2 (show s.heap.IsTuple a its1.toArray from p1) (show s.heap.IsTuple b its2.toArray from p2) (fun u' v' hu' hv' h' z1 z2 z3 z4 z5 kk => ?_) fun he => ?_
   · have e1 : u' = u := by simpa [hu] using hu'.symm
     have e2 : v' = v := by simpa [hv] using hv'.symm
     subst e1 e2
     refine ⟨_, rfl, wpAny_letOwnedTupleGo_zip z1 fun h2' hz2 s2 => ?_⟩
     have T0 : H s.heap.objs.size = none := I.hok.fresh (Nat.le_refl _)
     have tz : s.heap.objs.size ≠ z := Nat.ne_of_gt (Heap.lt_size hz)
     have J : Inv X pins σ (upd H s.heap.objs.size (.tup [x, y])) { s with heap := h2' } := by
       refine inv_turns (ch := [z, TI, TO, i1, i2]) I hf (Nat.le_refl _) (fun c o hc e => ?_) (fun c hc => ?_) ?_
       · have c1 : c ≠ z := fun q => hc (by simp [q])
         exact s2.extBut _ _ c1 (kk c o c1 (fun q => hc (by simp [q])) (fun q => hc (by simp [q])) (fun q => hc (by simp [q])) e)
       · have hc : c = z ∨ c = TI ∨ c = TO ∨ c = i1 ∨ c = i2 := by simpa using hc
         rcases hc with rfl | rfl | rfl | rfl | rfl
         · exact ⟨_, hz2⟩
         · exact ⟨_, s2.extBut _ _ D.TIz (kk _ _ D.TIz D.TITO D.TIi1 D.TIi2 hI)⟩
         · exact ⟨_, s2.extBut _ _ D.TOz z2⟩
         · obtain ⟨o, e, _⟩ := z3; exact ⟨o, s2.extBut _ _ D.i1z e⟩
         · obtain ⟨o, e, _⟩ := z4; exact ⟨o, s2.extBut _ _ D.i2z e⟩
       · exact ⟨by show 2 ≤ sizeLine; decide, [u', v'], .cons ru (.cons rv .nil), ⟨_, s2.extBut _ _ tz z5, rfl, _, rfl⟩⟩
     refine ⟨.ref s.heap.objs.size, _, J, rfl, ⟨_, x, y, rfl, T0, rfl, fun xs' ys' q1 q2 => ?_⟩, ⟨hz2, s2.extBut _ _ D.TIz (kk _ _ D.TIz D.TITO D.TIi1 D.TIi2 hI), ⟨_, _, s2.extBut _ _ D.TOz z2⟩, z3.at fun o e => s2.extBut _ _ D.i1z e, z4.at fun o e => s2.extBut _ _ D.i2z e⟩, fun c hc => ?_⟩
     · rw [I.tuple_inj q1 hq1, I.tuple_inj q2 hq2]; exact ⟨hx, hy⟩
     · have hlt : c < s.heap.objs.size := by
         have hc : c = z ∨ c = TI ∨ c = TO ∨ c = i1 ∨ c = i2 := by simpa using hc
         rcases hc with e | e | e | e | e <;> rw [e]
         · exact Heap.lt_size hz
         · exact Heap.lt_size hI
         · exact Heap.lt_size hO
         · obtain ⟨o, e, _⟩ := h1; exact Heap.lt_size e
         · obtain ⟨o, e, _⟩ := h2; exact Heap.lt_size e
       rw [upd_ne (Nat.ne_of_lt hlt)]; exact (hf c hc).1
   · exfalso
     rcases he with he | he
     · simp [hu] at he
     · simp [hv] at he
 done := by
   intro X hP hw hK hc i pins s σ H E I hf st hg
   subst hP hw hK
   obtain ⟨hz, hI, ⟨x0, y0, hO⟩, h1, h2⟩ := st
   obtain ⟨xs, ys, hq1, hq2, hl⟩ := hg
   obtain ⟨its1, rv1, p1, _⟩ := I.tuple hq1
   obtain ⟨its2, rv2, p2, _⟩ := I.tuple hq2
   have l1 := rv1.length
   have l2 := rv2.length
   refine nextZip D hz hI hO h1 h2 (show s.heap.IsTuple a its1.toArray from p1) (show s.heap.IsTuple b its2.toArray from p2) (fun u' v' hu' hv' h' z1 z2 z3 z4 z5 kk => ?_) fun he => ⟨I.ok.hd hc, fun h' kk => ⟨rfl, ?_⟩⟩
   · exfalso
     have g1 : i < its1.length := by simpa using (Array.getElem?_eq_some_iff.mp hu').1
     have g2 : i < its2.length := by simpa using (Array.getElem?_eq_some_iff.mp hv').1
     omega
   · have hnc : ∀ c o, c ∉ [z, TI, TO, i1, i2] → s.heap.get? c = some o → h'.get? c = some o := fun c o hc e => kk c o (fun q => hc (by simp [q])) (fun q => hc (by simp [q])) (fun q => hc (by simp [q])) (fun q => hc (by simp [q])) e
     refine I.call' (s' := { s with heap := h' }) (ch := [z, TI, TO, i1, i2]) rfl ⟨fun b o e _ _ hc => hnc b o hc e, fun b o e _ _ hc => ⟨o.slots, hnc b o hc e⟩, fun b o e n _ => n, fun b o e hc => ⟨o, hnc b o hc e⟩, fun _ _ e => e, fun _ _ _ e => e, fun b ps e => ⟨#[], by rw [e]; simp⟩⟩ (fun b u e => ?_) I.bare ?_
     · have nc : ∀ b u, H b = some u → b ∉ [z, TI, TO, i1, i2] := fun b u e hb => by rw [(hf b hb).1] at e; cases e
       refine (I.hok b u e).stay (fun c v hc q => hnc c v ?_ q) (fun _ q => q) fun _ _ q => q
       rcases hc with q | q
       · rw [q]; exact nc b u e
       · exact nc c _ q
     · intro b hb
       obtain ⟨f0, f1, f2, f3, f4, f5⟩ := hf b hb
       exact ⟨f3, f1, f4, f5⟩
 self := fun _ _ _ _ _ st h => wpAny_pyIter_zip st.1 h
theorem b_zip : bootBuiltins "zip" = some (.type "zip") := by decide +kernel
def iZip (K : PySem.W.Frag) (ta : TA) : TI := fun σ H R => ta σ H fun vs H1 => ∃ a b xs ys, vs = [.ref a, .ref b] ∧ SqT K H1 a xs ∧ SqT K H1 b ys ∧ R (Itz K a b) H1
theorem pi_zip2 {X : Cx} {K : PySem.W.Frag} {es : List Expr} {n : Nat} {tpos : Pos} {a b : Expr} {ta : TA} {p pos : Pos} (hK : X.K = K) (hg : Gl X "zip") (hm : X.mg "zip" = none) (ha : PA X [a, b] ta) (hs : starEach [a, b] X.env = [(false, eval a X.env), (false, eval b X.env)] := by rfl) (hs2 : starEach [b] X.env = [(false, eval b X.env)] := by rfl) :
   PI X (.Tuple es n tpos) (.Call (.Name "zip" p) [a, b] [] pos) (iZip K ta) := by
 subst hK
 intro pins s σ H R I h
 refine Call_ (ld_blt I hg hm b_zip (PyProof.Rows.callWith_type1 (thn (ha pos pins s σ H _ I h) fun us s1 ⟨vs, H1, I1, r1, q1⟩ => ?_) (by rw [hs, hs2]) (by rw [hs2]; rfl)))
 obtain ⟨x, y, xs, ys, e, hx, hy, q⟩ := q1
 subst e
 cases r1 with
 | cons r rr =>
   cases rr with
   | cons r' rr =>
     cases rr
     cases r
     cases r'
     obtain ⟨its1, rv1, p1, _⟩ := I1.tuple hx
     obtain ⟨its2, rv2, p2, _⟩ := I1.tuple hy
     have lx : x < s1.heap.objs.size := p1.lt
     have ly : y < s1.heap.objs.size := p2.lt
     refine callZip (show s1.heap.IsTuple x its1.toArray from p1) (show s1.heap.IsTuple y its2.toArray from p2) fun h' m hm' z1 z2 z3 z4 z5 kk => ?_
     subst hm'
     refine wpAny_pyIter_zip z1 ⟨_, [s1.heap.objs.size + 4, s1.heap.objs.size + 2, s1.heap.objs.size + 3, s1.heap.objs.size, s1.heap.objs.size + 1], _, _, H1, rfl, I1.kept (t' := s1.toks) kk, turn_zip ⟨?_, ?_, ?_, ?_, ?_, ?_, ?_, ?_, ?_, ?_, ?_, ?_, ?_, ?_, ?_, ?_, ?_, ?_⟩, ⟨z1, z2, ⟨_, _, z3⟩, z4, z5⟩, fun c hc => ?last, q⟩
     case last =>
       have hc : c = s1.heap.objs.size + 4 ∨ c = s1.heap.objs.size + 2 ∨ c = s1.heap.objs.size + 3 ∨ c = s1.heap.objs.size ∨ c = s1.heap.objs.size + 1 := by simpa using hc
       have hge : s1.heap.objs.size ≤ c := by rcases hc with e | e | e | e | e <;> rw [e] <;> first | exact Nat.le_add_right _ _ | exact Nat.le_refl _
       exact I1.fpOk hge (I1.hok.fresh hge)
     all_goals (intro e; have e' : @Eq Nat _ _ := e; have lx' : @LT.lt Nat _ _ _ := lx; have ly' : @LT.lt Nat _ _ _ := ly; omega)
theorem r_zip {K : PySem.W.Frag} {ta : TA} {σ : St} {H : Hp} {R : It → Hp → Prop} (q : ta σ H fun vs H1 => ∃ a b xs ys, vs = [.ref a, .ref b] ∧ SqT K H1 a xs ∧ SqT K H1 b ys ∧ R (Itz K a b) H1) : iZip K ta σ H R := q
theorem comp_mapZ {K : PySem.W.Frag} {a b : Addr} {α : Type} {xs : List α} {e1 e2 : α → V} {g : TG} {tc : TT} {te : TE} {fin : List V → Hp → Prop} {σ0 : St} {H : Hp} (f : α → V) (Sg : St → Prop) (ha : SqT K H a (xs.map e1)) (hb : SqT K H b (xs.map e2)) (hz : xs.length ≤ sizeLine) (h0 : Sg σ0)
   (hs : ∀ (i : Nat) (x : α) (ys : List V) (σ : St) (H1 : Hp) (T : Addr), xs[i]? = some x → CInv xs f Sg H i ys σ H1 → Same H H1 → Sg σ → H1 T = none →
     g (.ref T) σ (upd H1 T (.tup [e1 x, e2 x])) fun σ3 H3 => tc σ3 H3 fun b H4 => if b = true then te σ3 H4 fun y H5 => CInv xs f Sg H (i + 1) (ys ++ [y]) σ3 H5 else CInv xs f Sg H (i + 1) ys σ3 H4)
   (hd : ∀ H1, Same H H1 → fin (xs.map f) H1) : CompW (Itz K a b) g tc te fin σ0 H := by
 refine ⟨fun i m ys σ H1 => m = xs.length - i ∧ i ≤ xs.length ∧ CInv xs f Sg H i ys σ H1, ⟨xs.length, by simp, Nat.zero_le _, Same.refl _, h0, rfl⟩, ?_⟩
 rintro i m ys σ H1 ⟨rfl, hi, c⟩
 obtain ⟨s, sg, rfl⟩ := id c
 by_cases hlt : i < xs.length
 · refine .inr ⟨⟨_, _, e1 xs[i], e2 xs[i], SqT_same s ha, SqT_same s hb, by simp [hlt], by simp [hlt]⟩, CInv xs f Sg H (i + 1), fun ys2 σ2 H2 p' => ⟨?_, xs.length - (i + 1), by omega, rfl, hlt, p'⟩, fun v H2 y => ?_⟩
   · obtain ⟨_, _, rfl⟩ := p'
     rw [List.length_map, List.length_take]; omega
   · obtain ⟨T, x, y', rfl, hT, rfl, hxy⟩ := y
     obtain ⟨q1, q2⟩ := hxy _ _ (SqT_same s ha) (SqT_same s hb)
     have e1' : e1 xs[i] = x := by simpa [hlt] using q1
     have e2' : e2 xs[i] = y' := by simpa [hlt] using q2
     rw [← e1', ← e2']
     exact hs i xs[i] _ σ H1 T (by simp [hlt]) c s sg hT
 · have e : i = xs.length := by omega
   subst e
   refine .inl ⟨⟨_, _, SqT_same s ha, SqT_same s hb, .inl (by simp)⟩, ?_, ?_⟩
   · rw [List.length_map, List.length_take]; omega
   · rw [List.take_length]; exact hd H1 s
end L3
namespace L3
open PySem PySem.Spec PyProof.Rows L2
def conE (w : World) (l : List (Str × Int × Tok × Tok)) : List DictEntry := l.map fun p => { hash := PyData.keyHash w.params p.1, key := .str p.1 p.2.2.1, val := .int p.2.1 p.2.2.2 }
def conV (kvs : List (Str × Int)) : List (Key × V) := kvs.map fun p => ((Sum.inr p.1 : Key), V.int p.2)
structure ConD (w : World) (K : PySem.W.Frag) (a : Addr) (kvs : List (Str × Int)) : Prop where
 sys : (a == sysModules) = false
 nd : ((conV kvs).map (·.1)).Nodup
 ex : ∃ (l : List (Str × Int × Tok × Tok)) (ep : Nat), l.map (fun p => (p.1, p.2.1)) = kvs ∧ K.lookup a = some { cls := .type "dict", dict := none, data := .dict (conE w l).toArray ep, slots := #[] }
theorem con_kv : ∀ l : List (Str × Int × Tok × Tok), KV (conV (l.map fun p => (p.1, p.2.1))) (l.map fun p => ((Sum.inr p.1 : Key), Value.int p.2.1 p.2.2.2))
 | [] => .nil
 | p :: l => .cons ⟨rfl, ⟨_, rfl⟩⟩ (con_kv l)
theorem con_pairs {P : Program} {w : World} : ∀ l : List (Str × Int × Tok × Tok), Pairs (mixKind P w) (conE w l) (l.map fun p => ((Sum.inr p.1 : Key), Value.int p.2.1 p.2.2.2))
 | [] => .nil
 | p :: l => .cons (kV_is (k := .inr p.1) ⟨_, rfl⟩) rfl (con_pairs l)
theorem ConD.dict {P : Program} {w : World} {K : PySem.W.Frag} {a : Addr} {kvs : List (Str × Int)} {h : Heap} (c : ConD w K a kvs) (x : K.In h) : ∃ vs, KV (conV kvs) vs ∧ h.DictOf (mixKind P w) a vs := by
 obtain ⟨l, ep, rfl, lk⟩ := c.ex
 refine ⟨_, con_kv l, _, (conE w l).toArray, ep, x _ _ lk, ⟨rfl, rfl, rfl⟩, rfl, fun e he => ?_, by rw [List.toList_toArray]; exact con_pairs l, ?_⟩
 · have he : e ∈ conE w l := by simpa using he
   obtain ⟨p, _, rfl⟩ := List.mem_map.mp he
   exact ⟨.inr p.1, kV_is (k := .inr p.1) ⟨_, rfl⟩, rfl⟩
 · rw [← (con_kv l).keys]; exact c.nd
def rInC (w : World) (K : PySem.W.Frag) (neg : Bool) : R2 := fun y x H Q => ∃ a kvs t, y = .str t ∧ x = .ref a ∧ ConD w K a kvs ∧ Q (.bl (if neg then !(valV (conV kvs) (.inr t)).isSome else (valV (conV kvs) (.inr t)).isSome)) H
theorem op_inC {X : Cx} {w : World} {K : PySem.W.Frag} (hw : X.w = w) (hK : X.K = K) : OpR X (compareOp .In) (rInC w K false) := by
 subst hw hK
 intro pins s σ H y x v u Q I ry rx h
 obtain ⟨a, kvs, t, rfl, rfl, c, q⟩ := h
 cases rx
 obtain ⟨vs, rel, dd⟩ := c.dict (P := X.prog) I.kIn
 refine wpAny_in_of (kV_is (k := .inr t) ry) c.sys dd.mapOf ?_
 rw [← (rel.val (.inr t)).isSome_eq]
 exact ⟨.bl _, H, I.tok _, rfl, q⟩
theorem op_notInC {X : Cx} {w : World} {K : PySem.W.Frag} (hw : X.w = w) (hK : X.K = K) : OpR X (compareOp .NotIn) (rInC w K true) := by
 subst hw hK
 intro pins s σ H y x v u Q I ry rx h
 obtain ⟨a, kvs, t, rfl, rfl, c, q⟩ := h
 cases rx
 obtain ⟨vs, rel, dd⟩ := c.dict (P := X.prog) I.kIn
 refine wpAny_notIn_of (kV_is (k := .inr t) ry) c.sys dd.mapOf ?_
 rw [← (rel.val (.inr t)).isSome_eq]
 exact ⟨.bl _, H, I.tok _, rfl, q⟩
def tCGet (w : World) (K : PySem.W.Frag) (td ty : TE) : TE := fun σ H Q => td σ H fun x H1 => ty σ H1 fun y H2 => ∃ a kvs t v, x = .ref a ∧ y = .str t ∧ ConD w K a kvs ∧ valV (conV kvs) (.inr t) = some v ∧ Q v H2
theorem pe_cget {X : Cx} {w : World} {K : PySem.W.Frag} {o i : Expr} {td ty : TE} {pos : Pos} (hw : X.w = w) (hK : X.K = K) (ho : PE X o td) (hi : PE X i ty) (hs : NoSl i) : PE X (.Subscript o i pos) (tCGet w K td ty) := by
 subst hw hK
 intro pins s σ H Q I h
 refine subD_of PySem.F.slot_dict_getitem.lookup hs (thn (ho pins s σ H _ I h) fun u s1 ⟨x, H1, I1, rx, q1⟩ => thn (hi pins s1 σ H1 _ I1 q1) fun iv s2 ⟨y, H2, I2, ry, a, kvs, t, v, ex, ey, c, e, q2⟩ => ?_)
 subst ex ey
 obtain rfl : u = Value.ref a := rx
 obtain ⟨vs, rel, dd⟩ := c.dict (P := X.prog) I2.kIn
 obtain ⟨w', hw, rw'⟩ := RelO.some_of (v := v) (o := valueAt vs (.inr t)) (by rw [← e]; exact rel.val (.inr t))
 exact ⟨dd.typeIs, wpAny_getItem_of (kV_is (k := .inr t) ry) dd.mapOf hw ⟨v, H2, I2.tok _, rw', q2⟩⟩
theorem r_inC {w : World} {K : PySem.W.Frag} {neg : Bool} {a : Addr} {kvs : List (Str × Int)} {t : Str} {H : Hp} {Q : VK} (c : ConD w K a kvs) (q : Q (.bl (if neg then !(valV (conV kvs) (.inr t)).isSome else (valV (conV kvs) (.inr t)).isSome)) H) : rInC w K neg (.str t) (.ref a) H Q := ⟨a, kvs, t, rfl, rfl, c, q⟩
theorem r_cGet {w : World} {K : PySem.W.Frag} {td ty : TE} {σ : L2.St} {H : Hp} {Q : VK} (q : td σ H fun x H1 => ty σ H1 fun y H2 => ∃ a kvs t v, x = .ref a ∧ y = .str t ∧ ConD w K a kvs ∧ valV (conV kvs) (.inr t) = some v ∧ Q v H2) : tCGet w K td ty σ H Q := q
theorem r_cgetV {w : World} {K : PySem.W.Frag} {a : Addr} {kvs : List (Str × Int)} {t : Str} {v : V} {R : V → Prop} (c : ConD w K a kvs) (e : valV (conV kvs) (.inr t) = some v) (q : R v) : ∃ a' kvs t' v, V.ref a = .ref a' ∧ V.str t = .str t' ∧ ConD w K a' kvs ∧ valV (conV kvs) (.inr t') = some v ∧ R v := ⟨a, kvs, t, v, rfl, rfl, c, e, q⟩
theorem sqtK {K : PySem.W.Frag} {a : Addr} {xs : List V} {its : Array Value} {n : Nat} {od : Option Addr} {sl : Array (Option Value)} (l : K.lookup a = some ⟨.type "tuple", od, .seq its n, sl⟩) (hz : its.size ≤ sizeLine) (v : Vals xs its.toList) : ∀ H, SqT K H a xs := fun H => .inr ⟨_, its, n, l, rfl, rfl, hz, v⟩
theorem r_pop {l : Addr} {xs : List V} {y : V} {H : Hp} {Q : VK} (h : H l = some (.lst (xs ++ [y]))) (q : Q y (upd H l (.lst xs))) : rPop (.ref l) [] H Q := by
 refine ⟨l, xs ++ [y], y, rfl, rfl, h, ?_, ?_⟩
 · simp
 · simpa using q
theorem r_extend {l b : Addr} {xs zs : List V} {H : Hp} {Q : VK} (h : H l = some (.lst xs)) (hb : H b = some (.lst zs)) (hz : xs.length + zs.length ≤ sizeLine) (q : Q .non (upd H l (.lst (xs ++ zs)))) : rExtend (.ref l) [.ref b] H Q := ⟨l, b, xs, zs, rfl, rfl, h, hb, hz, q⟩
end L3
namespace L3
open PySem PySem.Spec PyProof.Rows L2 PySem.SeqAt
end L3
namespace L3
open PySem PySem.Spec PyProof.Rows L2 PySem.SeqAt
end L3
namespace L3
open PySem PySem.Spec PyProof.Rows L2 PySem.SeqAt
section
variable {P : Program} {w : World} {K : PySem.W.Frag} {mg : Str → Option Value} {base : Heap} {x qual : Str} {st : Stmt} {N ps : List Str} {sp : Sp} {C : Addr} {k : Nat}
end
section
variable {X : Cx} {pins : List (Addr × Obj)} {σ : St} {H : Hp} {s : Shared}
end
end L3
namespace L3
open PySem PySem.Spec PyProof.Rows L2 PySem.SeqAt
section
variable {X : Cx} {pins : List (Addr × Obj)} {σ : St} {H : Hp} {s : Shared} {k : Nat} {g x n : Str} {sp : Sp} {e : Expr} {es : List Expr} {t : TA} {gp cpos pos py : Pos}
end
end L3
namespace L3
open PySem PySem.Spec PyProof.Rows L2 PySem.SeqAt
section
variable {X : Cx} {pins : List (Addr × Obj)} {σ : St} {H H1 H' : Hp} {s s1 s' : Shared} {ea C : Addr}
end
end L3
namespace L3
open PySem PySem.Spec PyProof.Rows L2 PySem.SeqAt PySem.W Builtin Builtin.ObjectAttr Builtin.Getset_descriptor
section
variable {prog : Program} {w : World} {A : Around} {E : Value → Shared → Prop} {s : Shared} {K : PySem.W.Frag} {x C : Addr} {ox : Obj}
end
end L3
namespace L3
open PySem PySem.Spec PyProof.Rows L2 PySem.SeqAt PySem.W Builtin Builtin.ObjectAttr Builtin.Getset_descriptor
section
variable {prog : Program} {w : World} {A : Around} {E : Value → Shared → Prop} {s : Shared} {K : PySem.W.Frag} {x C : Addr} {ox : Obj}
end
end L3
namespace L3
open PySem PySem.Spec PyProof.Rows L2 PySem.SeqAt
section
variable {X : Cx} {k : Nat} {g : Str} {sp : Sp} {e c : Expr} {es : List Expr} {t : TA} {gp cpos pos : Pos} {b1 b2 : List Stmt} {tc : TT} {t1 t2 : TB}
end
section
variable {X : Cx} {v : Expr} {tv : TE} {x y : Str} {j1 j2 : Nat} {p0 p1 p2 p3 : Pos}
end
end L3
namespace L3
open PySem PySem.Spec PyProof.Rows
section
variable {prog : Program} {w : World} {A : Around} {E : Value → Shared → Prop} {s : Shared}
end
section
variable {prog : Program} {w : World} {A : Around} {E : Value → Shared → Prop} {s : Shared}
end
end L3
namespace L3
open PySem PySem.Spec PyProof.Rows L2
end L3
namespace L3
open PySem PySem.Spec PyProof.Rows L2 PySem.SeqAt
end L3
namespace L3
open PySem PySem.Spec PyProof.Rows L2 PySem.SeqAt
section
variable {P : Program} {w : World} {K : PySem.W.Frag} {mg : Str → Option Value} {base : Heap} {dv : Value}
end
section
variable {X : Cx} {CX : CXT} {k : Nat} {C : Addr} {dV : V} {sp : Sp} {E : XK} {x m : Str} {p pos apos : Pos} {e o : Expr} {es : List Expr} {ta : TE} {t : TA}
end
section
variable {P : Program} {w : World} {K : PySem.W.Frag} {mg : Str → Option Value} {base : Heap} {x qual : Str} {st : Stmt} {N ps : List Str} {sp : Sp} {C : Addr}
end
def tDead : TS := fun _ _ _ => False
theorem ps_dead {X : Cx} {st : Stmt} : PS X st tDead := fun _ _ _ _ _ _ h => h.elim
end L3
namespace FB
open PySem PySem.Spec PyProof.Rows L2 L3 PySem.SeqAt
def isVal (n : Int) : Prop := 0 ≤ n ∧ n ≤ 4294967295
def gI (xs : List Int) (i : Int) : Int := xs.getD i.toNat 0
def sI (xs : List Int) (i v : Int) : List Int := xs.set i.toNat v
theorem sI_len (xs : List Int) (i v : Int) : (sI xs i v).length = xs.length := by unfold sI; exact List.length_set ..
theorem gI_at {xs : List Int} {i : Int} (h0 : 0 ≤ i) (h1 : i < xs.length) : atI (xs.map V.int) i = some (.int (gI xs i)) := by
 have e : i = ((i.toNat : Nat) : Int) := by omega
 have hl : i.toNat < xs.length := by omega
 have z : atI (xs.map V.int) ((i.toNat : Nat) : Int) = some (.int (gI xs i)) := atI_nat (by
   rw [List.getElem?_map, List.getElem?_eq_getElem hl]
   simp [gI, List.getD, List.getElem?_eq_getElem hl])
 rw [← e] at z; exact z
theorem r_lenI {K : PySem.W.Frag} {p : Addr} {xs : List Int} {H : Hp} {Q : VK} (h : SqL K H p (xs.map V.int)) (q : Q (.int xs.length) H) : rLen K [.ref p] H Q := r_lenL h (by rw [List.length_map]; exact q)
structure Adr where
 C_Row : Addr
 C_Set : Addr
 C_Copy : Addr
 C_Add : Addr
 C_Sub : Addr
 C_Mul : Addr
 C_Less : Addr
 C_Grow : Addr
 C_Shrink : Addr
 C_Put : Addr
 C_Get : Addr
 C_Jump : Addr
 C_Branch : Addr
 C_Call : Addr
 C_Back : Addr
 C_Drop : Addr
 C_Reckoning : Addr
 C_Reaching : Addr
 C_FrameError : Addr
 C_NoRow : Addr
 C_NoTable : Addr
 C_NoText : Addr
 C_Table : Addr
 C_Reading : Addr
 C_Machine : Addr
 C_Astray : Addr
 C_NoProgram : Addr
 C_NoLine : Addr
 C_NoName : Addr
 G_START : Addr
 G_WHICH : Addr
 G_COUNTS : Addr
 G_KEPT_BOXES : Addr
 G_SET_NAMES : Addr
 G_PARTS : Addr
 G_UNCOUNTED : Addr
def cellAt (ns : List Int) (k : Int) : Int := ns.getD k.toNat 0
def spCellAt (K : PySem.W.Frag) : Sp := fun vs H Q _ => ∃ (p : Addr) (ns : List Int) (k : Int), vs = [.ref p, .int k] ∧ SqL K H p (ns.map V.int) ∧ 0 ≤ k ∧ Q (.int (cellAt ns k)) H
theorem r_cellAt {K : PySem.W.Frag} {p : Addr} {ns : List Int} {k : Int} {H : Hp} {Q : VK} {E : XK} (h : SqL K H p (ns.map V.int)) (h0 : 0 ≤ k) (q : Q (.int (cellAt ns k)) H) : spCellAt K [.ref p, .int k] H Q E := ⟨p, ns, k, rfl, h, h0, q⟩
theorem cellAt_out {ns : List Int} {k : Int} (h0 : 0 ≤ k) (h : ¬ k < ns.length) : cellAt ns k = 0 := by
 unfold cellAt
 rw [List.getD_eq_getElem?_getD, List.getElem?_eq_none (by omega)]
 rfl
def spLaw (K : PySem.W.Frag) : Sp := fun vs H Q _ => ∃ (a : Addr) (ns : List Int), vs = [.ref a] ∧ SqL K H a (ns.map V.int) ∧ ns.length ≤ 63 ∧ ∀ H', Q (.bl true) H'
theorem look_of {fs : List (Str × V)} {f g : Str} {v w : V} (h : f ≠ g) (e : fs.lookup f = some w) : (putF g v fs).lookup f = some w := by rw [lookup_putF, if_neg h]; exact e
theorem look_hit {fs : List (Str × V)} {f : Str} {v : V} : (putF f v fs).lookup f = some v := by rw [lookup_putF, if_pos rfl]
theorem look_no {fs : List (Str × V)} {f g : Str} {v : V} (h : f ≠ g) (e : fs.lookup f = none) : (putF g v fs).lookup f = none := by rw [lookup_putF, if_neg h]; exact e
theorem len_of {fs : List (Str × V)} {f : Str} {v : V} {n : Nat} (e : fs.length ≤ n) : (putF f v fs).length ≤ n + 1 := Nat.le_trans (length_putF _ _ _) (Nat.succ_le_succ e)
end FB
namespace L3
open PySem PySem.Spec PyProof.Rows L2 PySem.SeqAt
section
variable {prog : Program} {w : World} {A : Around} {E : Value → Shared → Prop} {h : Heap} {g : Array GenState} {d : Drawn} {t : Nat} {os : OsState}
variable {nm q : Str} {C N : Addr} {bs bm bmB : List Value} {hdct : Bool} {sn : List Str} {sub : List Value} {ab : Bool} {col : Option Bool} {dd : Option Addr} {k0 k1 k2 k3 k5 : Option Value} {B Bn newId nid initId inN : String} {bmN : List Value}
end
end L3
namespace L3
open PySem PySem.Spec PyProof.Rows L2 PySem.SeqAt
end L3
namespace L3
open PySem PySem.Spec PyProof.Rows L2 PySem.SeqAt PySem.W Builtin Builtin.ObjectAttr
section
variable {prog : Program} {w : World} {A : Around} {E : Value → Shared → Prop} {s : Shared} {K : PySem.W.Frag} {x C t : Addr} {name : Str} {v : Value}
end
end L3
namespace L3
open PySem PySem.Spec PyProof.Rows L2 PySem.SeqAt
section
variable {X : Cx} {pins : List (Addr × Obj)} {σ : L2.St} {H : Hp} {s : Shared} {a C : Addr} {f : Str} {A : Around} {E : Value → Shared → Prop}
end
end L3
namespace L3
open PySem PySem.Spec PyProof.Rows L2 PySem.SeqAt
section
variable {M : Model} {A : Around} {E : Value → Shared → Prop} {s : Shared}
end
end L3
namespace L3
open PySem PySem.Spec PyProof.Rows L2 PySem.SeqAt
section
variable {M : Model} {A : Around} {E : Value → Shared → Prop} {env : Env}
variable {nm q : Str} {C N : Addr} {bs bm : List Value} {hdct : Bool} {sn : List Str} {sub : List Value} {ab : Bool} {col : Option Bool} {dd : Option Addr} {k0 k1 k2 k3 k5 : Option Value} {newId : String}
end
section
variable {prog : Program} {w : World} {A : Around} {E : Value → Shared → Prop} {s : Shared} {env : Env}
variable {nm q : Str} {C N : Addr} {bs bm bmB : List Value} {hdct : Bool} {sn : List Str} {sub : List Value} {ab : Bool} {col : Option Bool} {dd : Option Addr} {k0 k1 k2 k3 k5 : Option Value} {B Bn newId nid initId inN : String} {bmN : List Value}
end
end L3
namespace L3
open PySem PySem.Spec PyProof.Rows L2 PySem.SeqAt
section
variable {P : Program} {w : World} {K : PySem.W.Frag} {mg : Str → Option Value} {base : Heap} {x qual : Str} {st : Stmt} {N ps : List Str} {sp : Sp} {C : Addr} {k : Nat}
end
section
variable {X : Cx} {pins : List (Addr × Obj)} {σ : L2.St} {H : Hp} {s : Shared} {k : Nat} {g x n : Str} {sp : Sp} {e : Expr} {es : List Expr} {t : TA} {tx : TEX} {ta : TAX} {te : TE} {gp cpos pos py : Pos}
end
end L3
namespace L3
open PySem PySem.Spec PyProof.Rows L2 PySem.SeqAt PySem.W Builtin Builtin.ObjectAttr
section
variable {prog : Program} {w : World} {A : Around} {E : Value → Shared → Prop} {s : Shared} {K : PySem.W.Frag} {x C dx : Addr} {ox od : Obj} {name : Str} {v : Value}
end
section
variable {X : Cx} {pins : List (Addr × Obj)} {σ : L2.St} {C fI : Addr}
end
end L3
namespace L3
open PySem PySem.Spec PyProof.Rows L2 PySem.SeqAt
end L3
namespace L3
open PySem PySem.Spec PyProof.Rows L2 PySem.SeqAt
end L3
namespace L3
open PySem PySem.Spec PyProof.Rows L2 PySem.SeqAt
section
variable {prog : Program} {w : World} {A : Around} {E : Value → Shared → Prop} {s : Shared}
end
end L3
namespace L3
open PySem PySem.Spec PyProof.Rows L2 PySem.SeqAt
section
variable {M : Model} {A : Around} {E : Value → Shared → Prop}
variable {nm q : Str} {D N : Addr} {bs bm : List Value} {hdct : Bool} {sn : List Str} {sub : List Value} {ab : Bool} {col : Option Bool} {dd : Option Addr} {k0 k1 k2 k3 k5 : Option Value} {newId : String}
end
section
variable {X : Cx} {pins : List (Addr × Obj)} {σ : St} {H H1 H' : Hp} {s s1 s' : Shared} {ea C : Addr}
end
end L3
namespace L3
open PySem PySem.Spec PyProof.Rows L2
section
variable {prog : Program} {w : World} {A : Around} {E : Value → Shared → Prop} {s : Shared}
end
end L3
namespace L3
open PySem PySem.Spec PyProof.Rows L2
theorem r_chain {r r' : R2} {ta tb tc : TE} {σ : L2.St} {H : Hp} {Q : VK} (h : ta σ H fun x H1 => tb σ H1 fun y H2 => r x y H2 fun z H3 => ∃ k, z = .bl k ∧ (if k then tc σ H3 fun u H4 => r' y u H4 Q else Q (.bl false) H3)) : tChain r r' ta tb tc σ H Q := h
theorem r_tupLst {K : PySem.W.Frag} {p : Addr} {xs : List V} {H : Hp} {Q : VK} (h : SqL K H p xs) (q : ∀ l, H l = none → Q (.ref l) (upd H l (.tup xs))) : rTup K [.ref p] H Q := ⟨p, xs, rfl, .inl ⟨h, q⟩⟩
end L3
namespace L3
open PySem PySem.Spec PyProof.Rows L2 PySem.SeqAt
section
variable {X : Cx} {k : Nat} {x m : Str} {e o : Expr} {es : List Expr} {ta : TE} {t : TA} {apos cpos pos py : Pos}
end
end L3
namespace L3
open PySem PySem.Spec PyProof.Rows L2 PySem.SeqAt
section
variable {X : Cx} {pins : List (Addr × Obj)} {σ : L2.St} {C fI : Addr}
end
end L3
namespace L3
open PySem PySem.Spec PyProof.Rows L2 PySem.SeqAt
section
variable {prog : Program} {w : World} {A : Around} {E : Value → Shared → Prop} {s : Shared}
end
section
variable {M : Model} {A : Around} {E : Value → Shared → Prop} {s : Shared}
end
end L3
namespace L3
open PySem PySem.Spec PyProof.Rows L2 PySem.SeqAt
section
variable {X : Cx} {pins : List (Addr × Obj)} {σ : L2.St} {H : Hp} {s : Shared}
end
end L3
namespace L3
open PySem PySem.Spec PyProof.Rows L2 PySem.SeqAt
end L3
namespace L3
open PySem PySem.Spec PyProof.Rows L2 PySem.SeqAt
end L3
namespace L3
open PySem PySem.Spec PyProof.Rows L2 PySem.SeqAt
end L3
namespace L3
open PySem PySem.Spec PyProof.Rows L2 PySem.SeqAt
end L3
namespace L3
open PySem PySem.Spec PyProof.Rows L2 PySem.SeqAt
end L3
namespace L3
open PySem PySem.Spec PyProof.Rows L2 PySem.SeqAt
def conRE (w : World) (l : List (Str × Tok × Value)) : List DictEntry := l.map fun p => { hash := PyData.keyHash w.params p.1, key := .str p.1 p.2.1, val := p.2.2 }
def conRV (kvs : List (Str × V)) : List (Key × V) := kvs.map fun p => ((Sum.inr p.1 : Key), p.2)
inductive ConL : List (Str × V) → List (Str × Tok × Value) → Prop
 | nil : ConL [] []
 | cons {t : Str} {v : V} {u : Value} {tk : Tok} {kvs : List (Str × V)} {l : List (Str × Tok × Value)} (r : RelV v u) (h : ConL kvs l) : ConL ((t, v) :: kvs) ((t, tk, u) :: l)
structure ConR (w : World) (K : PySem.W.Frag) (a : Addr) (kvs : List (Str × V)) : Prop where
 sys : (a == sysModules) = false
 nd : ((conRV kvs).map (·.1)).Nodup
 ex : ∃ (l : List (Str × Tok × Value)) (ep : Nat), ConL kvs l ∧ K.lookup a = some { cls := .type "dict", dict := none, data := .dict (conRE w l).toArray ep, slots := #[] }
theorem conR_kv {kvs : List (Str × V)} {l : List (Str × Tok × Value)} (h : ConL kvs l) : KV (conRV kvs) (l.map fun p => ((Sum.inr p.1 : Key), p.2.2)) := by
 induction h with
 | nil => exact .nil
 | cons r _ ih => exact .cons ⟨rfl, r⟩ ih
theorem conR_pairs {P : Program} {w : World} : ∀ l : List (Str × Tok × Value), Pairs (mixKind P w) (conRE w l) (l.map fun p => ((Sum.inr p.1 : Key), p.2.2))
 | [] => .nil
 | p :: l => .cons (kV_is (k := .inr p.1) ⟨_, rfl⟩) rfl (conR_pairs l)
theorem ConR.dict {P : Program} {w : World} {K : PySem.W.Frag} {a : Addr} {kvs : List (Str × V)} {h : Heap} (c : ConR w K a kvs) (x : K.In h) : ∃ vs, KV (conRV kvs) vs ∧ h.DictOf (mixKind P w) a vs := by
 obtain ⟨l, ep, hl, lk⟩ := c.ex
 refine ⟨_, conR_kv hl, _, (conRE w l).toArray, ep, x _ _ lk, ⟨rfl, rfl, rfl⟩, rfl, fun e he => ?_, by rw [List.toList_toArray]; exact conR_pairs l, ?_⟩
 · have he : e ∈ conRE w l := by simpa using he
   obtain ⟨p, _, rfl⟩ := List.mem_map.mp he
   exact ⟨.inr p.1, kV_is (k := .inr p.1) ⟨_, rfl⟩, rfl⟩
 · rw [← (conR_kv hl).keys]; exact c.nd
def tRGet (w : World) (K : PySem.W.Frag) (td ty : TE) : TE := fun σ H Q => td σ H fun x H1 => ∃ a kvs, x = .ref a ∧ ConR w K a kvs ∧ ty σ H1 fun y H2 => ∃ t v, y = .str t ∧ valV (conRV kvs) (.inr t) = some v ∧ Q v H2
theorem pe_rget {X : Cx} {w : World} {K : PySem.W.Frag} {o i : Expr} {td ty : TE} {pos : Pos} (hw : X.w = w) (hK : X.K = K) (ho : PE X o td) (hi : PE X i ty) (hs : NoSl i) : PE X (.Subscript o i pos) (tRGet w K td ty) := by
 subst hw hK
 intro pins s σ H Q I h
 refine subD_of PySem.F.slot_dict_getitem.lookup hs (thn (ho pins s σ H _ I h) fun u s1 ⟨x, H1, I1, rx, a, kvs, ex, c, q1⟩ => thn (hi pins s1 σ H1 _ I1 q1) fun iv s2 ⟨y, H2, I2, ry, t, v, ey, e, q2⟩ => ?_)
 subst ex ey
 obtain rfl : u = Value.ref a := rx
 obtain ⟨vs, rel, dd⟩ := c.dict (P := X.prog) I2.kIn
 obtain ⟨w', hw, rw'⟩ := RelO.some_of (v := v) (o := valueAt vs (.inr t)) (by rw [← e]; exact rel.val (.inr t))
 exact ⟨dd.typeIs, wpAny_getItem_of (kV_is (k := .inr t) ry) dd.mapOf hw ⟨v, H2, I2.tok _, rw', q2⟩⟩
theorem pe_rget1 {X : Cx} {w : World} {K : PySem.W.Frag} {o e : Expr} {td ty : TE} {apos cpos : Pos} (hw : X.w = w) (hK : X.K = K) (ho : PE X o td) (he : PE X e ty) (m : M1 X o "get" apos e cpos) : PE X (.Call (.Attribute o "get" apos) [e] [] cpos) (tRGet w K td ty) := by
 subst hw hK
 intro pins s σ H Q I h
 refine wpAny_Call_method m.base m.few m.line PySem.F.plainAttrs_dict PySem.F.slot_dict_get PySem.F.type_dict_get (thn (ho pins s σ H _ I h) fun u s1 ⟨x, H1, I1, rx, a, kvs, ex, c, q1⟩ => ?_)
 subst ex
 obtain rfl : u = Value.ref a := rx
 obtain ⟨vs0, _, dd0⟩ := c.dict (P := X.prog) I1.kIn
 refine ⟨dd0.typeIs, fun b q => ?_, ?_⟩
 · cases q
   obtain ⟨ob, _, _, h1, h2, _⟩ := dd0
   exact ⟨ob, h1, h2.2.1⟩
 rw [m.trees]
 refine Calls.callWith_builtin rfl (Calls.evalArgs_plain (Calls.spliced_cons (thn (he pins s1 σ H1 _ I1 q1) fun iv s2 ⟨y, H2, I2, ry, t, v, ey, ev, q2⟩ => Calls.spliced_nil ?_)))
 subst ey
 obtain ⟨vs, rel, dd⟩ := c.dict (P := X.prog) I2.kIn
 refine call_meetsIn PySem.F.slot_dict_get dd.typeIs PySem.F.entry_dict_get (PySem.F.args_dict_get_2 _ _) (meets_dict_get (mixKind X.prog X.w) a (kV_is (k := .inr t) ry) c.sys) ⟨_, dd.mapOf, ⟨v, H2, I2.tok _, ?_, q2⟩⟩
 have := (rel.val (.inr t)).getD (d := .non) (d' := .none) rfl
 rw [ev] at this
 exact this
theorem r_rGet {w : World} {K : PySem.W.Frag} {td ty : TE} {σ : L2.St} {H : Hp} {Q : VK} (q : td σ H fun x H1 => ∃ a kvs, x = .ref a ∧ ConR w K a kvs ∧ ty σ H1 fun y H2 => ∃ t v, y = .str t ∧ valV (conRV kvs) (.inr t) = some v ∧ Q v H2) : tRGet w K td ty σ H Q := q
theorem comp_filZ {K : PySem.W.Frag} {a b : Addr} {α : Type} {xs : List α} {e1 e2 : α → V} {g : TG} {tc : TT} {te : TE} {fin : List V → Hp → Prop} {σ0 : L2.St} {H : Hp} (f : α → V) (pr : α → Bool) (Sg : L2.St → Prop) (ha : SqT K H a (xs.map e1)) (hb : SqT K H b (xs.map e2)) (hz : xs.length ≤ sizeLine) (h0 : Sg σ0)
   (hs : ∀ (i : Nat) (x : α) (ys : List V) (σ : L2.St) (H1 : Hp) (T : Addr), xs[i]? = some x → FInv xs f pr Sg H i ys σ H1 → Same H H1 → Sg σ → H1 T = none →
     g (.ref T) σ (upd H1 T (.tup [e1 x, e2 x])) fun σ3 H3 => tc σ3 H3 fun b H4 => if b = true then te σ3 H4 fun y H5 => FInv xs f pr Sg H (i + 1) (ys ++ [y]) σ3 H5 else FInv xs f pr Sg H (i + 1) ys σ3 H4)
   (hd : ∀ H1, Same H H1 → fin ((xs.filter pr).map f) H1) : CompW (Itz K a b) g tc te fin σ0 H := by
 have hlen : ∀ i, (((xs.take i).filter pr).map f).length ≤ sizeLine := fun i => by
   have h1 := List.length_filter_le pr (xs.take i)
   have h2 : (xs.take i).length ≤ xs.length := by rw [List.length_take]; omega
   rw [List.length_map]; omega
 refine ⟨fun i m ys σ H1 => m = xs.length - i ∧ i ≤ xs.length ∧ FInv xs f pr Sg H i ys σ H1, ⟨xs.length, by simp, Nat.zero_le _, Same.refl _, h0, rfl⟩, ?_⟩
 rintro i m ys σ H1 ⟨rfl, hi, c⟩
 obtain ⟨s, sg, rfl⟩ := id c
 by_cases hlt : i < xs.length
 · refine .inr ⟨⟨_, _, e1 xs[i], e2 xs[i], SqT_same s ha, SqT_same s hb, by simp [hlt], by simp [hlt]⟩, FInv xs f pr Sg H (i + 1), fun ys2 σ2 H2 p' => ⟨?_, xs.length - (i + 1), by omega, rfl, hlt, p'⟩, fun v H2 y => ?_⟩
   · obtain ⟨_, _, rfl⟩ := p'
     exact hlen _
   · obtain ⟨T, x, y', rfl, hT, rfl, hxy⟩ := y
     obtain ⟨q1, q2⟩ := hxy _ _ (SqT_same s ha) (SqT_same s hb)
     have e1' : e1 xs[i] = x := by simpa [hlt] using q1
     have e2' : e2 xs[i] = y' := by simpa [hlt] using q2
     rw [← e1', ← e2']
     exact hs i xs[i] _ σ H1 T (by simp [hlt]) c s sg hT
 · have e : i = xs.length := by omega
   subst e
   refine .inl ⟨⟨_, _, SqT_same s ha, SqT_same s hb, .inl (by simp)⟩, hlen _, ?_⟩
   rw [List.take_length]; exact hd H1 s
section
variable {X : Cx} {C : Addr}
end
end L3
namespace L3
open PySem PySem.Spec PyProof.Rows L2 PySem.SeqAt
def rIsi2 (K : PySem.W.Frag) : List V → Hp → VK → Prop := fun xs H Q => ∃ x t, xs = [.ref x, .ref t] ∧ SqT K H t [.ty "list", .ty "tuple"] ∧ ((∃ us, H x = some (.lst us)) ∨ (∃ us, H x = some (.tup us))) ∧
 PySem.W.kitOne K (.type "list") (.type "list") = some true ∧ PySem.W.kitOne K (.type "tuple") (.type "list") = some false ∧ PySem.W.kitOne K (.type "tuple") (.type "tuple") = some true ∧ Q (.bl true) H
theorem call_isi2 {X : Cx} {K : PySem.W.Frag} (hK : X.K = K) : CallR X (.builtin "isinstance") (rIsi2 K) := by
 subst hK
 intro pins s σ H xs us Q I r h
 obtain ⟨x, t, rfl, hq, hx, k1, k2, k3, q⟩ := h
 obtain ⟨u, w', rfl, rx, rt⟩ := vals2 r
 cases rx
 cases rt
 obtain ⟨its, vs, p1, _⟩ := I.tuple hq
 obtain ⟨o, h1, h2, h3⟩ := p1
 obtain ⟨u1, u2, rfl, r1, r2⟩ := vals2 vs
 cases r1
 cases r2
 obtain ⟨oc, od, odt, osl⟩ := o
 obtain ⟨n, h3⟩ := h3
 have h2 : oc = .type "tuple" := h2
 have h3 : odt = .seq #[.type "list", .type "tuple"] n := h3
 subst h2 h3
 have tk : ∀ tk, EP X pins σ Q (.bool true) { s with toks := tk } := fun tk => ⟨.bl true, H, I.tok _, rfl, q⟩
 rcases hx with ⟨us, hx⟩ | ⟨us, hx⟩
 · obtain ⟨_, its, m, _, e⟩ := I.hok x _ hx
   exact PySem.W.kia_tup PySem.W.kitx_list I.kIn ⟨_, e, rfl⟩ (its := [.type "list", .type "tuple"]) h1 (by unfold PySem.W.kitAny; rw [k1]) (fun z => nomatch z) tk
 · obtain ⟨_, its, _, o', e, e2, _⟩ := I.hok x _ hx
   exact PySem.W.kia_tup PySem.W.kitx_tuple I.kIn ⟨_, e, e2⟩ (its := [.type "list", .type "tuple"]) h1 (by unfold PySem.W.kitAny; rw [k2]; unfold PySem.W.kitAny; rw [k3]) (fun z => nomatch z) tk
theorem r_isi2 {K : PySem.W.Frag} {x t : Addr} {H : Hp} {Q : VK} (h : SqT K H t [.ty "list", .ty "tuple"]) (hx : (∃ us, H x = some (.lst us)) ∨ (∃ us, H x = some (.tup us))) (k1 : PySem.W.kitOne K (.type "list") (.type "list") = some true) (k2 : PySem.W.kitOne K (.type "tuple") (.type "list") = some false) (k3 : PySem.W.kitOne K (.type "tuple") (.type "tuple") = some true) (q : Q (.bl true) H) : rIsi2 K [.ref x, .ref t] H Q := ⟨x, t, rfl, h, hx, k1, k2, k3, q⟩
end L3
namespace L3
open PySem PySem.Spec PyProof.Rows L2 PySem.SeqAt
end L3
namespace L3
open PySem PySem.Spec PyProof.Rows L2 PySem.SeqAt
def rRepr (K : PySem.W.Frag) : List V → Hp → VK → Prop := fun xs H Q => ∃ a d, xs = [.ref a] ∧ Dp K H d (.ref a) ∧ d.showable = true ∧ d.hasDict = false ∧ d.depth ≤ 40 ∧ d.shown.length ≤ sizeLine ∧ Q (.str d.shown) H
theorem call_reprK {X : Cx} {K : PySem.W.Frag} (hK : X.K = K) (hg : X.A.guards = some []) (hu : X.A.units + 64 < cLine) : CallR X (.builtin "repr") (rRepr K) := by
 subst hK
 intro pins s σ H xs us Q I r h
 obtain ⟨a, d, rfl, hd, hs, hn, h40, hz, q⟩ := h
 obtain ⟨u, rfl, rx⟩ := vals1 r
 obtain ⟨as, hr⟩ := dp_reads I d _ _ hd rx
 cases rx
 exact repr_of_reads' hr hs (PyData.noDict_hsm hn) hg (by omega) (fun _ _ e => e) (fun h' u tk hk => ⟨.str d.shown, H, I.kept hk, ⟨_, rfl⟩, q⟩) hz
theorem b_repr : bootBuiltins "repr" = some (.builtin "repr") := by decide +kernel
theorem r_repr {K : PySem.W.Frag} {a : Addr} {d : PyData} {H : Hp} {Q : VK} (h : Dp K H d (.ref a)) (h1 : d.showable = true) (h2 : d.hasDict = false) (h3 : d.depth ≤ 40) (h4 : d.shown.length ≤ sizeLine) (q : Q (.str d.shown) H) : rRepr K [.ref a] H Q := ⟨a, d, rfl, h, h1, h2, h3, h4, q⟩
end L3
namespace L3
open PySem PySem.Spec PyProof.Rows L2 PySem.SeqAt PySem.Builtin PySem.Builtin.Str
theorem strs_of : ∀ {ts : List Str} {its : List Value}, Vals (ts.map V.str) its → ∃ l : List (Str × Tok), its = strValues l ∧ l.map (·.1) = ts
 | [], its, h => by cases h; exact ⟨[], rfl, rfl⟩
 | t :: r, its, h => by
   cases h with
   | cons h1 h2 =>
     obtain ⟨tk, rfl⟩ := h1
     obtain ⟨l, rfl, e⟩ := strs_of h2
     exact ⟨(t, tk) :: l, rfl, by rw [List.map_cons, e]⟩
theorem vals_strs : ∀ (l : List (Str × Tok)), Vals ((l.map (·.1)).map V.str) (strValues l)
 | [] => .nil
 | p :: r => .cons ⟨p.2, rfl⟩ (vals_strs r)
def rJoin (K : PySem.W.Frag) : V → List V → Hp → VK → Prop := fun x vs H Q => ∃ sep l ts, x = .str sep ∧ vs = [.ref l] ∧ SqL K H l (ts.map V.str) ∧ JoinOk sep ts = true ∧ Q (.str (PySem.Str.join sep ts)) H
theorem mt_join {X : Cx} {K : PySem.W.Frag} (hK : X.K = K) : MtR X "str.join" (rJoin K) := by
 subst hK
 intro pins s σ H x vs v us Q I rx rv h
 obtain ⟨sep, l, ts, rfl, rfl, hq, hok, q⟩ := h
 obtain ⟨tk, rfl⟩ := rx
 obtain ⟨u, rfl, ru⟩ := vals1 rv
 cases ru
 obtain ⟨its, rv', hp, _⟩ := I.list hq
 obtain ⟨pl, rfl, ht⟩ := strs_of rv'
 refine SC.join hp.isList ht hok fun t' k => ⟨.str (Txt.join sep ts), H, I.tok _, ⟨_, rfl⟩, ?_⟩
 rw [show Txt.join sep ts = PySem.Str.join sep ts from StrLaws.glued_eq_join sep ts]
 exact q
theorem r_join {K : PySem.W.Frag} {sep : Str} {l : Addr} {ts : List Str} {H : Hp} {Q : VK} (h : SqL K H l (ts.map V.str)) (hok : JoinOk sep ts = true) (q : Q (.str (PySem.Str.join sep ts)) H) : rJoin K (.str sep) [.ref l] H Q := ⟨sep, l, ts, rfl, rfl, h, hok, q⟩
def rSplit : V → List V → Hp → VK → Prop := fun x vs H Q => ∃ t sep, x = .str t ∧ vs = [.str sep] ∧ (sep.length == 0) = false ∧ t.length ≤ sizeLine ∧ (Txt.split t sep).length ≤ sizeLine ∧ ∀ p, H p = none → Q (.ref p) (upd H p (.lst ((Txt.split t sep).map V.str)))
theorem mt_split {X : Cx} : MtR X "str.split" rSplit := by
 intro pins s σ H x vs v us Q I rx rv h
 obtain ⟨t, sep, rfl, rfl, hy, z1, z3, q⟩ := h
 obtain ⟨tk, rfl⟩ := rx
 obtain ⟨u, rfl, tu, rfl⟩ := vals1 rv
 have fin : ∀ (l : List (Str × Tok)) (k : Nat), l.map (·.1) = Txt.split t sep → EP X pins σ Q (.ref s.heap.objs.size) { s with heap := s.heap.push { cls := .type "list", data := .seq (strValues l).toArray }, toks := k } := fun l k e =>
   ⟨.ref s.heap.objs.size, _, I.laid (t' := k) (fun b o w => Heap.get?_push_of_some _ w) (Nat.le_refl _) (show ObjOk X.prog X.w _ _ _ (.lst ((Txt.split t sep).map V.str)) from ⟨by rw [List.length_map]; exact z3, strValues l, 0, by rw [← e]; exact vals_strs l, Heap.get?_push_size _ rfl⟩), rfl, q _ (I.hok.fresh (Nat.le_refl _))⟩
 cases h1 : (decide (t.length < sep.length) || decide (strKind t < strKind sep)) with
 | true =>
   refine call_meets F.slot_str_split (typeIs_str _ _ _) F.entry_str_split (F.args_str_split_2 _ _) (meets_str_split_cannot_occur t sep tk tu h1) ?_
   exact fin [(t, tk)] s.toks (by unfold Txt.split; rw [if_pos h1]; rfl)
 | false =>
   have n1 : ¬ ((decide (t.length < sep.length) || decide (strKind t < strKind sep)) = true) := by rw [h1]; decide
   cases hf : (occurrences t sep 0 t.length (t.length + 1)).isEmpty with
   | true =>
     refine call_meets F.slot_str_split (typeIs_str _ _ _) F.entry_str_split (F.args_str_split_2 _ _) (meets_str_split_not_found t sep tk tu h1 hy hf) ?_
     exact fin [(t, tk)] s.toks (by unfold Txt.split; rw [if_neg n1, if_pos hf]; rfl)
   | false =>
     have n2 : ¬ ((occurrences t sep 0 t.length (t.length + 1)).isEmpty = true) := by rw [hf]; decide
     have z2 : (partsBetween t (occurrences t sep 0 t.length (t.length + 1)) sep.length).length ≤ sizeLine := by
       have z4 := z3
       unfold Txt.split at z4
       rw [if_neg n1, if_neg n2] at z4
       exact z4
     refine call_meets F.slot_str_split (typeIs_str _ _ _) F.entry_str_split (F.args_str_split_2 _ _) (meets_str_split_sep t sep tk tu h1 hy hf z1 z2) ?_
     have := fin (numbered s.toks (partsBetween t (occurrences t sep 0 t.length (t.length + 1)) sep.length)) (s.toks + (partsBetween t (occurrences t sep 0 t.length (t.length + 1)) sep.length).length) (by rw [numbered_texts]; unfold Txt.split; rw [if_neg n1, if_neg n2])
     rw [← strsFrom_eq] at this
     exact this
theorem r_split {t sep : PySem.Str} {ws : List PySem.Str} {H : Hp} {Q : VK} (hy : (sep.length == 0) = false) (z1 : t.length ≤ sizeLine) (e : Txt.split t sep = ws) (z3 : ws.length ≤ sizeLine) (q : ∀ p, H p = none → Q (.ref p) (upd H p (.lst (ws.map V.str)))) : rSplit (.str t) [.str sep] H Q := by
 subst e
 exact ⟨t, sep, rfl, rfl, hy, z1, z3, q⟩
def rIntT : List V → Hp → VK → Prop := fun xs H Q => ∃ x n, xs = [.str x] ∧ PySem.intText? x = some n ∧ x.length ≤ 640 ∧ Q (.int n) H
theorem call_intT {X : Cx} : CallR X (.type "int") rIntT := by
 intro pins s σ H xs us Q I r h
 obtain ⟨x, n, rfl, hn, hl, q⟩ := h
 obtain ⟨u, rfl, tu, rfl⟩ := vals1 r
 exact PySem.W.KIN.call_text hn hl ⟨.int n, H, I.tok _, ⟨_, rfl⟩, q⟩
end L3
namespace L3
open PySem PySem.Spec PyProof.Rows L2 PySem.SeqAt PySem.Builtin PySem.Builtin.Str PySem.StrLaws
def jn (sep : List Nat) : List (List Nat) → List Nat
 | [] => []
 | [x] => x
 | x :: y :: r => x ++ (sep ++ jn sep (y :: r))
theorem str_app (a b : PySem.Str) : (a ++ b).cps.toList = a.cps.toList ++ b.cps.toList := by
 show (a.cps ++ b.cps).toList = _
 rw [Array.toList_append]
theorem join_toList (sep : PySem.Str) : ∀ ts : List PySem.Str, (PySem.Str.join sep ts).cps.toList = jn sep.cps.toList (ts.map fun t => t.cps.toList)
 | [] => rfl
 | [x] => rfl
 | x :: y :: r => by
   show (x ++ sep ++ PySem.Str.join sep (y :: r)).cps.toList = _
   rw [str_app, str_app, join_toList sep (y :: r), List.append_assoc]; rfl
def Beg (c : Nat) (A : List Nat) : Prop := A = [] ∨ ∃ r, A = c :: r
theorem beg_uniq {c : Nat} : ∀ {w v A B : List Nat}, c ∉ w → c ∉ v → Beg c A → Beg c B → w ++ A = v ++ B → w = v ∧ A = B
 | [], [], A, B, _, _, _, _, e => ⟨rfl, e⟩
 | [], y :: v, A, B, _, hv, hA, _, e => by
   rcases hA with rfl | ⟨r, rfl⟩
   · cases e
   · have : c = y := (List.cons.inj e).1
     exact absurd (this ▸ List.mem_cons_self ..) hv
 | x :: w, [], A, B, hw, _, _, hB, e => by
   rcases hB with rfl | ⟨r, rfl⟩
   · cases e
   · have : x = c := (List.cons.inj e).1
     exact absurd (this ▸ List.mem_cons_self ..) hw
 | x :: w, y :: v, A, B, hw, hv, hA, hB, e => by
   obtain ⟨e1, e2⟩ := List.cons.inj e
   obtain ⟨k1, k2⟩ := beg_uniq (fun z => hw (List.mem_cons_of_mem _ z)) (fun z => hv (List.mem_cons_of_mem _ z)) hA hB e2
   exact ⟨by rw [e1, k1], k2⟩
def tl (sep : List Nat) : List (List Nat) → List Nat
 | [] => []
 | y :: r => sep ++ jn sep (y :: r)
theorem jn_cons (sep w : List Nat) (r : List (List Nat)) : jn sep (w :: r) = w ++ tl sep r := by
 cases r with
 | nil => exact (List.append_nil w).symm
 | cons y r => rfl
theorem tl_beg (c : Nat) (s : List Nat) (r : List (List Nat)) : Beg c (tl (c :: s) r) := by
 cases r with
 | nil => exact .inl rfl
 | cons y r => exact .inr ⟨_, rfl⟩
theorem jn_uniq {c : Nat} {s : List Nat} : ∀ {ws vs : List (List Nat)}, ws ≠ [] → vs ≠ [] → (∀ w ∈ ws, c ∉ w) → (∀ v ∈ vs, c ∉ v) → jn (c :: s) ws = jn (c :: s) vs → ws = vs
 | [], vs, h, _, _, _, _ => absurd rfl h
 | w :: r, [], _, h, _, _, _ => absurd rfl h
 | w :: r, v :: q, _, _, hw, hv, e => by
   rw [jn_cons, jn_cons] at e
   obtain ⟨e1, e2⟩ := beg_uniq (hw w (List.mem_cons_self ..)) (hv v (List.mem_cons_self ..)) (tl_beg c s r) (tl_beg c s q) e
   cases r with
   | nil =>
     cases q with
     | nil => rw [e1]
     | cons y q => cases e2
   | cons x r =>
     cases q with
     | nil => cases e2
     | cons y q =>
       have e3 : jn (c :: s) (x :: r) = jn (c :: s) (y :: q) := List.append_cancel_left e2
       rw [e1, jn_uniq (by simp) (by simp) (fun z hz => hw z (List.mem_cons_of_mem _ hz)) (fun z hz => hv z (List.mem_cons_of_mem _ hz)) e3]
def AtL (xs sep : List Nat) (k : Nat) : Prop := k + sep.length ≤ xs.length ∧ (xs.drop k).take sep.length = sep
theorem AtL.shift {xs sep p : List Nat} {k : Nat} (h : AtL xs sep k) : AtL (p ++ xs) sep (p.length + k) := by
 refine ⟨by rw [List.length_append]; have := h.1; omega, ?_⟩
 rw [List.drop_append, List.drop_eq_nil_of_le (by omega), List.nil_append, show p.length + k - p.length = k by omega]
 exact h.2
theorem jn_at {c : Nat} {s : List Nat} (hs : c ∉ s) : ∀ {ws : List (List Nat)}, (∀ w ∈ ws, c ∉ w) → ∀ k, (jn (c :: s) ws)[k]? = some c → AtL (jn (c :: s) ws) (c :: s) k
 | [], _, k, h => by simp [jn] at h
 | w :: r, hw, k, h => by
   rw [jn_cons] at h ⊢
   by_cases h1 : k < w.length
   · rw [List.getElem?_append_left h1] at h
     exact absurd (List.mem_of_getElem? h) (hw w (List.mem_cons_self ..))
   · rw [List.getElem?_append_right (by omega)] at h
     obtain ⟨j, rfl⟩ : ∃ j, k = w.length + j := ⟨k - w.length, by omega⟩
     rw [show w.length + j - w.length = j by omega] at h
     refine AtL.shift ?_
     cases r with
     | nil => simp [tl] at h
     | cons y r =>
       have ht : tl (c :: s) (y :: r) = (c :: s) ++ jn (c :: s) (y :: r) := rfl
       rw [ht] at h ⊢
       by_cases h2 : j < (c :: s).length
       · rw [List.getElem?_append_left h2] at h
         cases j with
         | zero =>
           refine ⟨by rw [List.length_append]; omega, ?_⟩
           rw [List.drop_zero, List.take_append_of_le_length (Nat.le_refl _), List.take_length]
         | succ j => exact absurd (List.mem_of_getElem? (show s[j]? = some c from h)) hs
       · rw [List.getElem?_append_right (by omega)] at h
         obtain ⟨i, rfl⟩ : ∃ i, j = (c :: s).length + i := ⟨j - (c :: s).length, by omega⟩
         rw [show (c :: s).length + i - (c :: s).length = i by omega] at h
         exact AtL.shift (jn_at hs (fun z hz => hw z (List.mem_cons_of_mem _ hz)) i h)
theorem at_of {x y : PySem.Str} {k : Nat} (h : AtL x.cps.toList y.cps.toList k) : At x y x.length k := by
 refine ⟨?_, ?_⟩
 · have := h.1
   rw [Array.length_toList, Array.length_toList] at this
   exact this
 · rw [subAt_eq, show y.length = y.cps.toList.length by rw [Array.length_toList]; rfl, h.2]
   exact beq_self_eq_true _
theorem piece_free {x y : PySem.Str} {c : Nat} (hA : ∀ k, x.cps.toList[k]? = some c → At x y x.length k) {a b : Nat} (hn : ∀ k, a ≤ k → k < b → ¬ At x y x.length k) : c ∉ (strSub x a b).cps.toList := fun hm => by
 rw [strSub_toList] at hm
 obtain ⟨j, hj⟩ := List.getElem?_of_mem hm
 have hl : j < b - a := by
   have := (List.getElem?_eq_some_iff.mp hj).1
   rw [List.length_take] at this; omega
 rw [List.getElem?_take_of_lt hl, List.getElem?_drop] at hj
 exact hn (a + j) (by omega) (by omega) (hA _ hj)
theorem pieces_free {x y : PySem.Str} {c : Nat} (hA : ∀ k, x.cps.toList[k]? = some c → At x y x.length k) : ∀ (cuts : List Nat) (a f : Nat), ChainG x y x.length a cuts f → (∀ k, f ≤ k → ¬ At x y x.length k) → ∀ p ∈ partsFrom x y.length a cuts, c ∉ p.cps.toList
 | [], a, f, h, hn, p, hp => by
   have e : f = a := h
   subst e
   have e2 : p = strSub x f x.length := List.mem_singleton.mp hp
   rw [e2]
   exact piece_free hA fun k h1 _ => hn k h1
 | d :: r, a, f, h, hn, p, hp => by
   rcases List.mem_cons.mp hp with e2 | hp2
   · rw [e2]; exact piece_free hA h.2.2.1
   · exact pieces_free hA r _ f h.2.2.2 hn p hp2
theorem str_eq {a b : PySem.Str} (h : a.cps.toList = b.cps.toList) : a = b := by
 obtain ⟨a⟩ := a
 obtain ⟨b⟩ := b
 have e : a = b := Array.toList_inj.mp h
 rw [e]
theorem strKind_pos (x : PySem.Str) : 1 ≤ Builtin.Str.strKind x := by unfold Builtin.Str.strKind; split <;> (try split) <;> decide
theorem split_joined {sep : PySem.Str} {c : Nat} {s : List Nat} (hsep : sep.cps.toList = c :: s) (hs : c ∉ s) (hk : Builtin.Str.strKind sep = 1) {ws : List PySem.Str} (hne : ws ≠ []) (hw : ∀ w ∈ ws, c ∉ w.cps.toList) : Txt.split (PySem.Str.join sep ws) sep = ws := by
 have hlen : sep.length = s.length + 1 := by
   have : sep.cps.toList.length = s.length + 1 := by rw [hsep]; rfl
   rw [Array.length_toList] at this; exact this
 have hf : ∀ w ∈ ws.map (fun t => t.cps.toList), c ∉ w := fun w hm => by
   obtain ⟨t, ht, rfl⟩ := List.mem_map.mp hm
   exact hw t ht
 generalize hx : PySem.Str.join sep ws = x
 have hxl : x.cps.toList = jn (c :: s) (ws.map fun t => t.cps.toList) := by rw [← hx, join_toList, hsep]
 have hA : ∀ k, x.cps.toList[k]? = some c → At x sep x.length k := fun k h => by
   refine at_of ?_
   rw [hsep]
   rw [hxl] at h ⊢
   exact jn_at hs hf k h
 have free : ∀ p ∈ Txt.split x sep, c ∉ p.cps.toList := by
   obtain ⟨f, hG, hn⟩ := occ_tight x sep (by rw [hlen]; omega)
   have whole : (∀ k, ¬ At x sep x.length k) → c ∉ x.cps.toList := fun h hm => by
     obtain ⟨j, hj⟩ := List.getElem?_of_mem hm
     exact h j (hA j hj)
   unfold Txt.split
   split
   · rename_i hc
     intro p hp
     rw [List.mem_singleton.mp hp]
     refine whole fun k hk2 => ?_
     rw [Bool.or_eq_true, decide_eq_true_eq, decide_eq_true_eq] at hc
     rcases hc with h | h
     · have := hk2.1; omega
     · have := strKind_pos x; omega
   · split
     · rename_i hemp
       intro p hp
       rw [List.mem_singleton.mp hp]
       rw [List.isEmpty_iff.mp hemp] at hG
       have e : f = 0 := hG
       subst e
       exact whole fun k => hn k (Nat.zero_le _)
     · intro p hp
       rw [partsBetween_eq] at hp
       exact pieces_free hA _ 0 f hG hn p hp
 have hj := join_split x sep
 have hne2 : Txt.split x sep ≠ [] := fun z => by
   unfold Txt.split at z
   split at z
   · cases z
   · split at z
     · cases z
     · rw [partsBetween_eq] at z
       obtain ⟨p, r, e⟩ := partsFrom_ne x sep.length 0 (occurrences x sep 0 x.length (x.length + 1))
       rw [e] at z; cases z
 have e1 : jn (c :: s) ((Txt.split x sep).map fun t => t.cps.toList) = jn (c :: s) (ws.map fun t => t.cps.toList) := by
   rw [← hxl, ← hsep, ← join_toList, hj]
 have e2 := jn_uniq (by simpa using hne2) (by simpa using hne) (fun w hm => by obtain ⟨t, ht, rfl⟩ := List.mem_map.mp hm; exact free t ht) hf e1
 have inj : ∀ {a b : List PySem.Str}, a.map (fun t => t.cps.toList) = b.map (fun t => t.cps.toList) → a = b := by
   intro a
   induction a with
   | nil => intro b h; cases b with
     | nil => rfl
     | cons y r => cases h
   | cons x r ih => intro b h; cases b with
     | nil => cases h
     | cons y q =>
       obtain ⟨h1, h2⟩ := List.cons.inj h
       rw [str_eq h1, ih h2]
 exact inj e2
end L3
namespace L3
open PySem PySem.Spec PyProof.Rows L2 PySem.SeqAt
def Its (x : Str) : It := ⟨fun i _ => ∃ c, x.cps[i]? = some c, fun i H v H' => H' = H ∧ ∃ c, x.cps[i]? = some c ∧ v = .str ⟨#[c]⟩, fun i _ => x.cps[i]? = none⟩
theorem turn_strA {P : Program} {w : World} {K : PySem.W.Frag} {tg : Expr} (x : Str) (t : Tok) (it : Addr) : Turn P w K tg (Its x) [it] it (fun i h => h.IsStrIter it "str_ascii_iterator" x t i) where
 mem := by simp
 obj := fun i h st b hb => by
   have e : b = it := by simpa using hb
   subst e
   obtain ⟨o, e, c, d⟩ := st
   exact ⟨o, e, fun v z => by rw [d] at z; cases z⟩
 keep := fun i h h' st k => by
   obtain ⟨o, e, c, d⟩ := st
   exact ⟨o, k it (by simp) o e, c, d⟩
 item := by
   intro X hP hw hK hc i pins s σ H E I hf st hg
   subst hP hw hK
   obtain ⟨c, hx⟩ := hg
   obtain ⟨f0, f1, f2, f3, f4, f5⟩ := hf it (by simp)
   refine wpAny_pyNext_ascii_item st hx fun h' st' sb => ?_
   have I1 : Inv X pins σ H { s with heap := h', toks := s.toks + 1 } := I.turned (t' := s.toks + 1) (fun b o hb e => (sb.2 b hb).trans e) f0 f1 f3 f4 f5
   obtain ⟨o, e, cc, d⟩ := id st'
   exact ⟨_, rfl, go_of (s := { s with heap := h', toks := s.toks + 1 }) e cc d (by decide) ⟨.str ⟨#[c]⟩, H, I1, ⟨_, rfl⟩, ⟨rfl, c, hx, rfl⟩, st', fun b hb => (hf b hb).1⟩⟩
 done := by
   intro X hP hw hK hc i pins s σ H E I hf st hg
   subst hP hw hK
   obtain ⟨f0, f1, f2, f3, f4, f5⟩ := hf it (by simp)
   exact wpAny_pyNext_ascii_end (I.ok.hd hc) st hg fun h' eb => ⟨rfl, I.turned (t' := s.toks) (fun b o hb e => eb b o hb e) f0 f1 f3 f4 f5⟩
 self := fun _ _ _ _ _ st h => wpAny_pyIter_striter_ascii st h
theorem turn_strW {P : Program} {w : World} {K : PySem.W.Frag} {tg : Expr} (x : Str) (t : Tok) (it : Addr) : Turn P w K tg (Its x) [it] it (fun i h => h.IsStrIter it "str_iterator" x t i) where
 mem := by simp
 obj := fun i h st b hb => by
   have e : b = it := by simpa using hb
   subst e
   obtain ⟨o, e, c, d⟩ := st
   exact ⟨o, e, fun v z => by rw [d] at z; cases z⟩
 keep := fun i h h' st k => by
   obtain ⟨o, e, c, d⟩ := st
   exact ⟨o, k it (by simp) o e, c, d⟩
 item := by
   intro X hP hw hK hc i pins s σ H E I hf st hg
   subst hP hw hK
   obtain ⟨c, hx⟩ := hg
   obtain ⟨f0, f1, f2, f3, f4, f5⟩ := hf it (by simp)
   refine wpAny_pyNext_wide_item st hx fun h' st' sb => ?_
   have I1 : Inv X pins σ H { s with heap := h', toks := s.toks + 1 } := I.turned (t' := s.toks + 1) (fun b o hb e => (sb.2 b hb).trans e) f0 f1 f3 f4 f5
   obtain ⟨o, e, cc, d⟩ := id st'
   exact ⟨_, rfl, go_of (s := { s with heap := h', toks := s.toks + 1 }) e cc d (by decide) ⟨.str ⟨#[c]⟩, H, I1, ⟨_, rfl⟩, ⟨rfl, c, hx, rfl⟩, st', fun b hb => (hf b hb).1⟩⟩
 done := by
   intro X hP hw hK hc i pins s σ H E I hf st hg
   subst hP hw hK
   obtain ⟨f0, f1, f2, f3, f4, f5⟩ := hf it (by simp)
   exact wpAny_pyNext_wide_end (I.ok.hd hc) st hg fun h' eb => ⟨rfl, I.turned (t' := s.toks) (fun b o hb e => eb b o hb e) f0 f1 f3 f4 f5⟩
 self := fun _ _ _ _ _ st h => wpAny_pyIter_striter_wide st h
def iStr (tl : TE) : TI := fun σ H R => tl σ H fun v H1 => ∃ x, v = .str x ∧ R (Its x) H1
theorem r_iStr {tl : TE} {σ : L2.St} {H : Hp} {R : It → Hp → Prop} (q : tl σ H fun v H1 => ∃ x, v = .str x ∧ R (Its x) H1) : iStr tl σ H R := q
theorem pi_str {X : Cx} {tg l : Expr} {tl : TE} (hl : PE X l tl) : PI X tg l (iStr tl) := by
 intro pins s σ H R I h
 refine thn (hl pins s σ H _ I h) fun v s1 ⟨x0, H1, I1, r1, q1⟩ => ?_
 obtain ⟨x, e, q⟩ := q1
 subst e
 obtain ⟨tk, rfl⟩ := r1
 cases ha : x.cps.all (· < 128)
 · refine wpAny_pyIter_wide ha ?_
   refine ⟨s1.heap.objs.size, [s1.heap.objs.size], _, _, H1, rfl, I1.kept (t' := s1.toks) fun b o e => Heap.get?_push_of_some _ e, turn_strW x tk _, ⟨_, Heap.get?_push_size _ rfl, rfl, rfl⟩, fun b hb => ?_, q⟩
   have e : b = s1.heap.objs.size := by simpa using hb
   subst e
   exact I1.fpOk (Nat.le_refl _) (I1.hok.fresh (Nat.le_refl _))
 · refine wpAny_pyIter_ascii ha ?_
   refine ⟨s1.heap.objs.size, [s1.heap.objs.size], _, _, H1, rfl, I1.kept (t' := s1.toks) fun b o e => Heap.get?_push_of_some _ e, turn_strA x tk _, ⟨_, Heap.get?_push_size _ rfl, rfl, rfl⟩, fun b hb => ?_, q⟩
   have e : b = s1.heap.objs.size := by simpa using hb
   subst e
   exact I1.fpOk (Nat.le_refl _) (I1.hok.fresh (Nat.le_refl _))
end L3
namespace L3
open PySem PySem.Spec PyProof.Rows L2 PySem.SeqAt PySem.NumText
section
variable {g : TG} {tc : TT} {te : TE} {fin : List V → Hp → Prop} {H : Hp}
theorem comp_str {σ0 : L2.St} {x : PySem.Str} (Pv : Nat → List V → L2.St → Hp → Prop) (h0 : Pv 0 [] σ0 H) (hl : ∀ i ys σ H, i ≤ x.cps.toList.length → Pv i ys σ H → ys.length ≤ sizeLine)
   (hs : ∀ i c ys σ H, x.cps.toList[i]? = some c → Pv i ys σ H → g (.str ⟨#[c]⟩) σ H fun σ3 H3 => tc σ3 H3 fun b H4 => if b = true then te σ3 H4 fun y H5 => Pv (i + 1) (ys ++ [y]) σ3 H5 else Pv (i + 1) ys σ3 H4)
   (hd : ∀ ys σ H, Pv x.cps.toList.length ys σ H → fin ys H) : CompW (Its x) g tc te fin σ0 H := by
 refine ⟨fun i m ys σ H => m = x.cps.toList.length - i ∧ i ≤ x.cps.toList.length ∧ Pv i ys σ H, ⟨x.cps.toList.length, by simp, Nat.zero_le _, h0⟩, ?_⟩
 rintro i m ys σ H ⟨rfl, hi, p⟩
 by_cases hlt : i < x.cps.toList.length
 · refine .inr ⟨⟨x.cps.toList[i], by rw [← Array.getElem?_toList]; exact List.getElem?_eq_getElem hlt⟩, Pv (i + 1), fun ys2 σ2 H2 p' => ⟨hl (i + 1) ys2 σ2 H2 hlt p', x.cps.toList.length - (i + 1), by omega, rfl, hlt, p'⟩, fun v H2 y => ?_⟩
   obtain ⟨e, c, hc, rfl⟩ := y
   subst e
   exact hs i c ys σ _ (by rw [Array.getElem?_toList]; exact hc) p
 · have e : i = x.cps.toList.length := by omega
   subst e
   exact .inl ⟨by show x.cps[_]? = none; rw [← Array.getElem?_toList]; exact List.getElem?_eq_none (Nat.le_refl _), hl _ ys σ H hi p, hd ys σ H p⟩
end
def rInS : R2 := fun x y H Q => ∃ c j, x = .str ⟨#[c]⟩ ∧ y = .str j ∧ Q (.bl (decide (c ∈ j.cps.toList))) H
theorem op_inS {X : Cx} : OpR X (compareOp .In) rInS := by
 intro pins s σ H x y v u Q I rx ry h
 obtain ⟨c, j, rfl, rfl, q⟩ := h
 exact op_in_str pins s σ H _ _ v u Q I rx ry ⟨_, j, rfl, rfl, by rw [PySem.StrLaws.found_one]; exact q⟩
def numS (n : Int) : PySem.Str := PySem.Str.ofString (toString n)
theorem numS_signs (m : Nat) : (numS (m : Int)).cps.toList = (Nat.toDigits 10 m).map Char.toNat := PySem.W.KIN.signs_num m
theorem numS_digits {n : Int} (h0 : 0 ≤ n) : AllDigits (numS n).cps.toList := by
 obtain ⟨m, rfl⟩ := Int.eq_ofNat_of_zero_le h0
 intro c hc
 rw [numS_signs] at hc
 obtain ⟨ch, hch, e⟩ := List.mem_map.mp hc
 rw [← e]
 exact digit_range (Nat.isDigit_of_mem_toDigits (by decide) (by decide) hch)
theorem numS_ne {n : Int} (h0 : 0 ≤ n) : (numS n).cps.toList ≠ [] := by
 obtain ⟨m, rfl⟩ := Int.eq_ofNat_of_zero_le h0
 rw [numS_signs]
 intro e
 have h := PySem.toDigits_len_ge 10 m
 rw [List.map_eq_nil_iff.mp e] at h
 exact absurd h (by decide)
theorem numS_len {n : Int} (h0 : 0 ≤ n) (h1 : n < 10 ^ 10) : (numS n).length ≤ 10 := PySem.W.KT.len_num h0 h1
theorem numS_reads {n : Int} (h0 : 0 ≤ n) (h1 : n < 10 ^ 10) : PySem.intText? (numS n) = some n := PySem.W.KIN.num_reads h0 h1
theorem toDigits_head : ∀ (m : Nat), 0 < m → ∀ r, (Nat.toDigits 10 m).map Char.toNat ≠ 48 :: r := by
 intro m
 induction m using Nat.strongRecOn with
 | _ m ih =>
   intro hm r
   by_cases h : m < 10
   · rw [Nat.toDigits_of_lt_base h]
     intro e
     have e1 : (Nat.digitChar m).toNat = 48 := (List.cons.inj e).1
     have := PySem.W.KIN.digit_back m h
     omega
   · have hm : m % 10 < 10 := Nat.mod_lt m (by decide)
     have t : Nat.toDigits 10 (m / 10) ++ Nat.toDigits 10 (m % 10) = Nat.toDigits 10 (10 * (m / 10) + m % 10) := Nat.toDigits_append_toDigits (by decide) (by omega) hm
     rw [Nat.div_add_mod] at t
     rw [← t, List.map_append]
     have k := ih (m / 10) (by omega) (by omega)
     cases hh : (Nat.toDigits 10 (m / 10)).map Char.toNat with
     | nil =>
       have h := PySem.toDigits_len_ge 10 (m / 10)
       rw [List.map_eq_nil_iff.mp hh] at h
       exact absurd h (by decide)
     | cons c r' =>
       intro e
       have e1 : c = 48 := (List.cons.inj e).1
       rw [e1] at hh
       exact k r' hh
theorem numS_head {n : Int} (h0 : 0 ≤ n) {r : List Nat} (e : (numS n).cps.toList = 48 :: r) : n = 0 := by
 obtain ⟨m, rfl⟩ := Int.eq_ofNat_of_zero_le h0
 rw [numS_signs] at e
 by_cases hm : m = 0
 · rw [hm]; rfl
 · exact absurd e (toDigits_head m (by omega) r)
theorem numS_free {n : Int} {c : Nat} (h0 : 0 ≤ n) (hc : c < 48 ∨ 57 < c) : c ∉ (numS n).cps.toList := fun h => by
 have := numS_digits h0 c h
 omega
end L3
namespace HT
open PySem PyProof.Rows
section
variable {prog : Program} {w : World} {A : Around} {E : Value → Shared → Prop} {s : Shared}
theorem tuple_all {t sl : Addr} {its : Array Value} {vl vu : Value} {lo hi : Option Int} {Q : Value → Shared → Prop} (ht : IsTup s.heap t its) (hs : s.heap.IsSliceOf sl vl vu .none) (pl : IsPart vl lo) (pu : IsPart vu hi)
   (e1 : sIx its.size 0 lo = 0) (e2 : sIx its.size its.size hi = its.size) (h : Q (.ref t) s) : wpAny (model prog w) A (getItem (.ref t) (.ref sl)) Q E s := by
 have hT : s.TypeIs (.ref sl) "slice" := let ⟨os, a1, a2, _⟩ := hs; ⟨os, a1, a2⟩
 unfold getItem
 try with_reducible refine wpAny_holding ?_
 first | refine wpAny_bind (wpAny_pure ?_) | skip
 refine wpAny_bind (wpAny_sequenceKey ht.typeIs (by decide) ?_)
 refine wpAny_bind (wpAny_callSpecial?_slot (name := Str.ofString "__getitem__") ht.typeIs PyProof.Rows.slot_tuple_getitem (wpAny_call_entry PyProof.Rows.slot_tuple_getitem ht.typeIs entry_tuple_getitem ?_ (args_tuple_getitem _ _)))
 show wpAny _ _ (Builtin.Tuple.tupleItemsOf (.ref t) >>= _) _ _ s
 refine wpAny_bind (tupleItemsOf_ ht (wpAny_bind (wpAny_typeOf hT ?_)))
 rw [if_pos (by decide)]
 refine wpAny_bind (sliceApplied_gen hs pl pu ?_)
 rw [e1, e2]
 show wpAny _ _ (if (((0 : Nat) : Int) == 0 && (1 : Int) == 1 && (its.size - 0) == its.size) = true then _ else _) _ _ s
 rw [if_pos (by simp)]
 refine wpAny_bind (m := Builtin.Tuple.tupleIsExact _) (wpAny_bind (wpAny_typeOf ht.typeIs (wpAny_pure ?_)))
 rw [if_pos (by decide)]
 refine wpAny_bind (wpAny_rule ?_)
 exact wpAny_pure ⟨_, rfl, wpAny_pure h⟩
end
end HT
namespace L3
open PySem PySem.Spec PyProof.Rows L2 PySem.SeqAt
def rSlW (K : PySem.W.Frag) : V → Option Int → Option Int → Hp → VK → Prop := fun x lo hi H Q => ∃ a xs, x = .ref a ∧ SqT K H a xs ∧ HT.sIx xs.length 0 lo = 0 ∧ HT.sIx xs.length xs.length hi = xs.length ∧ Q (.ref a) H
theorem sl_all {X : Cx} : SlR X (rSlW X.K) := by
 intro pins s σ H x v vl vu lo hi sl Q I rx hs pl pu h
 obtain ⟨a, xs, rfl, hx, e1, e2, q⟩ := h
 cases rx
 obtain ⟨its, r, ht, hz⟩ := I.tuple hx
 have hlen : its.toArray.size = xs.length := by rw [List.size_toArray]; exact r.length.symm
 exact ⟨"tuple", _, PyProof.Rows.slot_tuple_getitem.lookup, ht.typeIs, HT.tuple_all ht hs pl pu (by rw [hlen]; exact e1) (by rw [hlen]; exact e2) ⟨.ref a, H, I, rfl, q⟩⟩
def rSlX (K : PySem.W.Frag) : V → Option Int → Option Int → Hp → VK → Prop := fun x lo hi H Q => rSlA K x lo hi H Q ∨ rSlW K x lo hi H Q
theorem sl_XK {X : Cx} {K : PySem.W.Frag} (h : X.K = K) : SlR X (rSlX K) := by subst h; exact sl_any.or sl_all
theorem cut_fromT (xs : List V) {k : Nat} (h : k ≤ xs.length) : cutV xs (some (k : Int)) none = xs.drop k := by
 unfold cutV
 rw [HT.sIx_nat, Nat.min_eq_left h]
 show (xs.drop k).take (xs.length - k) = _
 rw [List.take_of_length_le (by rw [List.length_drop]; omega)]
theorem cut_toT (xs : List V) {k : Nat} (h : k ≤ xs.length) : cutV xs none (some (k : Int)) = xs.take k := by
 unfold cutV
 rw [HT.sIx_nat, Nat.min_eq_left h]
 show (xs.drop 0).take (k - 0) = _
 rw [List.drop_zero, Nat.sub_zero]
theorem r_headT {K : PySem.W.Frag} {p : Addr} {xs : List V} {k : Nat} {H : Hp} {Q : VK} (h : SqT K H p xs) (hk : k ≤ xs.length) (q1 : k = xs.length → Q (.ref p) H) (q2 : ∀ l, H l = none → Q (.ref l) (upd H l (.tup (xs.take k)))) : rSlX K (.ref p) none (some (k : Int)) H Q := by
 by_cases e : k = xs.length
 · refine .inr ⟨p, xs, rfl, h, rfl, ?_, q1 e⟩
   rw [HT.sIx_nat, e, Nat.min_self]
 · refine .inl (r_slT h (fun z => e ?_) (fun l hl => ?_))
   · have := z.2
     rw [HT.sIx_nat, Nat.min_eq_left hk] at this
     exact this
   · rw [cut_toT xs hk]; exact q2 l hl
theorem r_tailT {K : PySem.W.Frag} {p : Addr} {xs : List V} {k : Nat} {H : Hp} {Q : VK} (h : SqT K H p xs) (hk : k ≤ xs.length) (h0 : 0 < k) (q : ∀ l, H l = none → Q (.ref l) (upd H l (.tup (xs.drop k)))) : rSlX K (.ref p) (some (k : Int)) none H Q := by
 refine .inl (r_slT h (fun z => ?_) (fun l hl => ?_))
 · have := z.1
   rw [HT.sIx_nat, Nat.min_eq_left hk] at this
   omega
 · rw [cut_fromT xs hk]; exact q l hl
end L3
namespace FB
open PySem PySem.Spec PyProof.Rows L2 L3 PySem.SeqAt
local macro_rules | `(tactic| walk_at "clok") => `(tactic| repeat (first | exact True.intro | refine ⟨rfl, ?_⟩))
local macro_rules | `(tactic| walk_at "frok") => `(tactic| repeat (first | exact True.intro | refine ⟨⟨rfl, (by first | exact Or.inl rfl | exact Or.inr rfl), (by first | exact Or.inl rfl | exact Or.inr rfl), rfl⟩, ?_⟩))
local macro_rules | `(tactic| walk_at "hlk") => `(tactic| first | (with_reducible assumption) | (exact upd_same) | ((with_reducible refine' look_new ?x ?y); (case y => with_reducible assumption); (case x => walk_at "hlk")) | ((fail_if_success (((with_reducible refine' look_new ?x ?y); (case y => with_reducible assumption)))); (with_reducible refine' look_ne ?x ?y); (case x => walk_at "ne"); (case y => walk_at "hlk")) | ((with_reducible refine' same_at ?x ?y); (case x => with_reducible assumption); (case y => walk_at "hlk")))
local macro_rules | `(tactic| walk_at "ne") => `(tactic| first | (with_reducible assumption) | (apply Ne.symm; (with_reducible assumption)) | ((with_reducible refine' ne_of_none ?x ?y); (case y => with_reducible assumption); (case x => walk_at "hlk")) | (apply Ne.symm; (with_reducible refine' ne_of_none ?x ?y); (case y => with_reducible assumption); (case x => walk_at "hlk")))
local macro_rules | `(tactic| walk_at "sql") => `(tactic| first | (with_reducible assumption) | (refine' SqL.of ?x; (case x => first | (with_reducible assumption) | (exact upd_same))) | ((with_reducible refine' sql_new ?x ?y); (case y => with_reducible assumption); (case x => walk_at "sql")) | ((fail_if_success (((with_reducible refine' sql_new ?x ?y); (case y => with_reducible assumption)))); first | ((with_reducible refine' sql_upd ?s ?h ?q); (case h => with_reducible assumption); (case s => walk_at "same"); (case q => walk_at "sql")) | (refine' SqL.of ?x; (case x => (with_reducible refine' look_ne ?x2 ?y2); (case x2 => walk_at "ne"); (case y2 => walk_at "hlk")))) | ((with_reducible refine' Same.seq ?x ?y); (case x => with_reducible assumption); (case y => walk_at "sql")))
local macro_rules | `(tactic| walk_at "sqt") => `(tactic| first | (with_reducible assumption) | (refine' SqT.of ?x; (case x => first | (with_reducible assumption) | (exact upd_same))) | ((with_reducible refine' sqt_new ?x ?y); (case y => with_reducible assumption); (case x => walk_at "sqt")) | ((fail_if_success (((with_reducible refine' sqt_new ?x ?y); (case y => with_reducible assumption)))); first | ((with_reducible refine' sqt_upd ?s ?h ?q); (case h => with_reducible assumption); (case s => walk_at "same"); (case q => walk_at "sqt")) | (refine' SqT.of ?x; (case x => (with_reducible refine' look_ne ?x2 ?y2); (case x2 => walk_at "ne"); (case y2 => walk_at "hlk")))) | ((with_reducible refine' SqT_same ?x ?y); (case x => with_reducible assumption); (case y => walk_at "sqt")))
local macro_rules | `(tactic| walk_at "lk") => `(tactic| first | (with_reducible exact look_hit) | (refine' look_of ?x ?y; (case x => decide +kernel); (case y => walk_at "lk")) | exact look_hit)
local macro_rules | `(tactic| walk_at "nolk") => `(tactic| first | (with_reducible rfl) | (refine' look_no ?x ?y; (case x => decide +kernel); (case y => walk_at "nolk")) | rfl)
local macro_rules | `(tactic| walk_at "fewf") => `(tactic| first | exact Nat.lt_of_le_of_lt (Nat.le_refl 0) (by decide) | exact Nat.lt_of_le_of_lt (len_of (Nat.le_refl 0)) (by decide) | exact Nat.lt_of_le_of_lt (len_of (len_of (Nat.le_refl 0))) (by decide) | exact Nat.lt_of_le_of_lt (len_of (len_of (len_of (Nat.le_refl 0)))) (by decide))
local macro_rules | `(tactic| walk_at "small") => `(tactic| first | exact Nat.le_of_ble_eq_true rfl | (show _ ≤ sizeLine; rw [sizeLine_eq]; first | omega | (simp only [List.length_map, List.length_cons, List.length_nil, List.length_append, List.length_replicate, List.length_set, List.length_range]; omega)))
local macro_rules | `(tactic| walk_at "r1") => `(tactic| with_reducible first
 | refine r_var (by with_unfolding_all rfl) ?_
 | refine r_c ?_ | refine r_op ?_ | refine r_I0 ?_ | refine r_plusI ?_ | refine r_seq ?_ | refine r_asg ?_ | (refine' r_gN ?x ?_; (case x => simp only [List.set_cons_succ, List.set_cons_zero]; rfl)) | refine r_ret ?_ | refine r_ifS ?_ | refine r_test ?_
 | refine r_cons ?_ | refine r_nil ?_ | refine r_cb ?_ | refine r_callE ?_ | refine r_makeE ?_ | refine r_methE ?_ | refine r_fld ?_ | refine r_tru ?_ | refine r_truB ?_ | refine r_truI ?_
 | refine r_not ?_ | refine r_and ?_ | refine r_or ?_ | refine r_next ?_ | refine r_drop ?_ | refine r_sFld ?_ | refine r_retN ?_ | refine r_un ?_ | refine r_U ?_ | refine r_if ?_
 | refine r_andV ?_ | refine r_orV ?_ | refine r_notV ?_ | refine r_sl ?_ | refine r_part ?_ | refine r_noPart ?_ | refine r_bm ?_ | refine r_bm0 ?_ | refine r_tup ?_ | refine r_lst ?_ | refine r_two ?_
 | (refine' r_compE' ?x ?_; (case x => with_unfolding_all rfl)) | (refine' r_compS' ?x ?_; (case x => with_unfolding_all rfl)) | refine r_for ?_ | refine r_iSeq ?_ | refine r_rng1 ?_ | refine r_rng2 ?_ | refine r_true ?_
 | refine r_isNr ?_ | refine r_isNn ?_ | refine r_isNi ?_ | refine r_notNr ?_ | refine r_notNn ?_ | refine r_notNi ?_
 | refine iteT ?_ | refine iteF ?_ | refine iteNT ?_ | refine iteNF ?_
 | refine ⟨_, rfl, ?_⟩)
local macro_rules | `(tactic| walk_at "r2") => `(tactic| first
 | ((with_reducible refine' r_fldV ?h ?c ?n ?l ?_); (case h => walk_at "hlk"); (case c => walk_at "cls"); (case n => walk_at "noat"); (case l => walk_at "lk"))
 | ((with_reducible refine' r_sFldV ?h ?c ?n ?l ?_); (case h => walk_at "hlk"); (case c => walk_at "cls"); (case n => walk_at "noat"); (case l => walk_at "fewf"))
 | ((with_reducible refine' r_lenI ?h ?_); (case h => walk_at "sql"))
 | ((with_reducible refine' r_lenL ?h ?_); (case h => walk_at "sql"))
 | ((with_reducible refine' r_lenT ?h ?_); (case h => walk_at "sqt"))
 | ((with_reducible refine' r_listL ?h ?_); (case h => walk_at "sql"))
 | ((with_reducible refine' r_listT ?h ?_); (case h => walk_at "sqt"))
 | ((with_reducible refine' r_eqS ?h ?_); (case h => rfl))
 | ((with_reducible refine' r_neS ?h ?_); (case h => rfl)))
local macro_rules | `(tactic| walk_at "none") => `(tactic| first | (with_reducible assumption) | ((with_reducible refine' none_same ?x ?y); (case y => with_reducible assumption); (case x => walk_at "same")))
local macro_rules | `(tactic| walk_at "same") => `(tactic| first | (with_reducible assumption) | (with_reducible exact Same.refl _) | ((with_reducible refine' same_none ?x ?y); (case y => with_reducible assumption); (case x => walk_at "same")) | ((fail_if_success (((with_reducible refine' same_none ?x ?y); (case y => with_reducible assumption)))); (with_reducible refine' same_upd ?x ?y); (case y => walk_at "none"); (case x => walk_at "same")) | ((with_reducible refine' Same.trans ?x ?y); (case y => with_reducible assumption); (case x => walk_at "same")))
local macro_rules | `(tactic| walk_at "tt") => `(tactic| first | assumption | omega | with_unfolding_all rfl | decide | (simp only [List.length_map, List.length_cons, List.length_nil, List.length_append, List.length_replicate, List.length_set, sI_len]; omega))
local macro_rules | `(tactic| walk_at "nn") => `(tactic| first | assumption | omega | decide | (simp only [List.length_map, List.length_cons, List.length_nil, List.length_append, List.length_replicate, List.length_set, sI_len]; omega))
local macro_rules | `(tactic| walk_at "cond") => `(tactic| first
 | ((with_reducible refine' r_I ?h ?_); (case h => first | exact ⟨by decide, by decide⟩ | (show (0 : Int) < _; first | decide | omega) | (show (0 : Int) ≤ _; first | decide | omega)))
 | ((with_reducible refine' r_ifB ?x ?_); (case x => intro hh; exact absurd hh (by decide)); intro _)
 | ((with_reducible refine' r_ifB ?_ ?x); (case x => intro hh; exact absurd hh (by decide)); intro _)
 | ((with_reducible refine' ifInt ?x ?_); (case x => intro hh; exact absurd hh (by walk_at "nn")); intro _)
 | ((with_reducible refine' ifInt ?_ ?x); (case x => intro hh; exact absurd (by walk_at "tt") hh); intro _)
 | ((with_reducible refine' ifIntN ?x ?_); (case x => intro hh; exact absurd (by walk_at "tt") hh); intro _)
 | ((with_reducible refine' ifIntN ?_ ?x); (case x => intro hh; exact absurd hh (by walk_at "nn")); intro _)
 | ((with_reducible refine' ifDec ?x ?_); (case x => intro hh; exact absurd hh (by walk_at "nn")); intro _)
 | ((with_reducible refine' ifDec ?_ ?x); (case x => intro hh; exact absurd (by walk_at "tt") hh); intro _)
 | ((with_reducible refine' ifDecN ?x ?_); (case x => intro hh; exact absurd (by walk_at "tt") hh); intro _)
 | ((with_reducible refine' ifDecN ?_ ?x); (case x => intro hh; exact absurd hh (by walk_at "nn")); intro _))
local macro_rules | `(tactic| walk_at "at") => `(tactic| first | assumption | ((with_reducible refine' gI_at ?x ?y); (case x => walk_at "tt"); (case y => walk_at "tt")) | ((with_reducible refine' gI_neg ?x ?y); (case x => walk_at "tt"); (case y => walk_at "tt")) | rfl)
local macro_rules | `(tactic| walk_at "calls") => `(tactic| first
 | ((with_reducible refine' r_bounded ?a ?b ?_); (case a => omega); (case b => omega))
 | ((with_reducible refine' r_withBox ?h ?a ?b ?_); (case h => walk_at "sql"); (case a => omega); (case b => omega))
 | ((with_reducible refine' r_cellAt ?h ?a ?_); (case h => walk_at "sql"); (case a => omega))
 | (with_reducible refine r_whole ?_) | (with_reducible refine r_without ?_) | (with_reducible refine r_filled ?_)
 | ((with_reducible refine' r_boxPl ?a ?b ?_); (case a => omega); (case b => omega))
 | ((with_reducible refine' r_cellPl ?a ?b ?c ?_); (case a => omega); (case b => omega); (case c => omega))
 | ((with_reducible refine' r_setI ?x ?y ?z ?_); (case x => walk_at "hlk"); (case y => walk_at "tt"); (case z => walk_at "tt"))
 | ((with_reducible refine' r_setIN ?x ?y ?z ?_); (case x => walk_at "hlk"); (case y => walk_at "tt"); (case z => walk_at "tt"))
 | ((with_reducible refine' r_ixT ?h ?e ?_); (case h => walk_at "sqt"); (case e => walk_at "at"))
 | ((with_reducible refine' r_ixL ?h ?e ?_); (case h => walk_at "sql"); (case e => walk_at "at"))
 | (with_reducible refine r_gSub ?_))
local macro_rules | `(tactic| walk_at "ty") => `(tactic| first | (with_reducible exact TyOf.int _) | (with_reducible exact TyOf.bl _) | (with_reducible exact TyOf.str _) | (with_reducible exact TyOf.non) | (refine' TyOf.lst ?x; (case x => walk_at "hlk")) | (refine' TyOf.tup ?x; (case x => walk_at "hlk")))
local macro_rules | `(tactic| walk_at "dp") => `(tactic| first | (with_reducible exact dp_int _) | (with_reducible exact dp_str _) | (with_reducible exact dp_bool _) | (with_reducible exact dp_none) | ((with_reducible refine' dp_ints ?x); (case x => walk_at "sql")) | ((with_reducible refine' dp_lst ?x ?y); (case x => walk_at "sql"); (case y => walk_at "dps")) | ((with_reducible refine' dp_tup ?x ?y); (case x => walk_at "sqt"); (case y => walk_at "dps")))
local macro_rules | `(tactic| walk_at "dps") => `(tactic| first | (with_reducible exact dpAll_nil) | ((with_reducible refine' dpAll_cons ?x ?y); (case x => walk_at "dp"); (case y => walk_at "dps")))
local macro_rules | `(tactic| walk_at "shaped") => `(tactic| first | exact shaped_ints _ | (unfold shaped; simp [PyData.canLay0, PyData.canLayAll0, canLay_ints, PyData.depth, PyData.depthAll, depth_ints]))
local macro_rules | `(tactic| walk_at "eqd") => `(tactic| first
 | ((with_reducible refine' r_eqT ?d ?x ?y ?s ?_); (case x => walk_at "dp"); (case y => walk_at "dp"); (case s => walk_at "shaped"))
 | ((with_reducible refine' r_neT ?d ?x ?y ?s ?_); (case x => walk_at "dp"); (case y => walk_at "dp"); (case s => walk_at "shaped")))
local macro_rules | `(tactic| walk_at "r3") => `(tactic| first
 | (with_reducible refine r_alloc (fun _ _ => ?_))
 | ((with_reducible refine' r_small ?x ?_); (case x => walk_at "small"))
 | ((with_reducible refine' r_62 ?x ?y ?_); (case x => walk_at "tt"); (case y => walk_at "tt"))
 | ((with_reducible refine' r_62b ?x ?y ?z ?u ?_); (case x => walk_at "tt"); (case y => walk_at "tt"); (case z => walk_at "tt"); (case u => walk_at "tt"))
 | ((with_reducible refine' r_itL ?x ?_); (case x => walk_at "sql"))
 | ((with_reducible refine' r_itT ?x ?_); (case x => walk_at "sqt"))
 | ((with_reducible refine' r_slI ?x ?_); (case x => walk_at "sql"))
 | ((with_reducible refine' r_slL ?x ?_); (case x => walk_at "sql"))
 | ((with_reducible refine' r_timesZ ?x ?y ?z ?_); (case x => walk_at "hlk"); (case y => walk_at "tt"); (case z => walk_at "tt"))
 | ((with_reducible refine' r_plusII ?x ?y ?z ?_); (case x => walk_at "hlk"); (case y => walk_at "hlk"); (case z => walk_at "small"))
 | ((with_reducible refine' r_tyL ?x ?_); (case x => walk_at "hlk"))
 | ((with_reducible refine' r_timesI ?h ?_); (case h => walk_at "cmul"))
 | ((with_reducible refine' r_sum ?h ?_); (case h => walk_at "sql"))
 | ((with_reducible refine' r_inT ?h ?x ?y ?_); (case h => walk_at "sqt"); (case x => rfl); (case y => rfl))
 | ((with_reducible refine' r_clear ?x ?_); (case x => walk_at "hlk"))
 | ((with_reducible refine' r_append ?x ?y ?_); (case x => walk_at "hlk"); (case y => walk_at "small"))
 | ((with_reducible refine' r_isi ?c ?t ?e ?_); (case c => exact fun z => nomatch z); (case t => walk_at "ty"); (case e => walk_at "kit")))
local macro_rules | `(tactic| walk_at "rd") => `(tactic| repeat (first | walk_at "r1" | walk_at "r3" | walk_at "r2" | walk_at "cond" | walk_at "calls" | walk_at "mine"))
local macro_rules | `(tactic| walk_at "rds") => `(tactic| repeat' (first | walk_at "r1" | walk_at "r3" | walk_at "r2" | walk_at "cond" | walk_at "calls" | walk_at "mine" | walk_at "cs"))
local macro_rules | `(tactic| walk_at "sp") => `(tactic| (repeat' split) <;> first | assumption | rfl | (exfalso; omega))
local macro_rules | `(tactic| walk_at "rok") => `(tactic| first | assumption | exact ⟨by omega, by omega⟩)
local macro_rules | `(tactic| walk_at "cmul") => `(tactic| first | exact Or.inl ⟨by decide, by decide⟩ | exact Or.inr ⟨by decide, by decide⟩ | exact Or.inl ⟨by omega, by omega⟩ | exact Or.inr ⟨by omega, by omega⟩)
set_option hygiene false
local macro_rules | `(tactic| walk_at "cs") => `(tactic| with_reducible first | refine ifInt (fun hh => ?_) (fun hh => ?_) | refine ifIntN (fun hh => ?_) (fun hh => ?_) | refine ifDec (fun hh => ?_) (fun hh => ?_) | refine ifDecN (fun hh => ?_) (fun hh => ?_) | (refine' r_ixDi ?h (fun hh => ?_) (fun hh => ?_); (case h => walk_at "sql")) | (refine' r_ixD ?h (fun hh => ?_) (fun hh => ?_); (case h => walk_at "sql")))
local macro_rules | `(tactic| walk_at "tf") => `(tactic| (show Q _ _; refine' q _ _ _ _ ?zs ?znt ?znb ?znp ?ze1 ?ze2 ?ze3 ?zt ?zb ?zp; (case zt => walk_at "hlk"); (case zb => walk_at "hlk"); (case zp => walk_at "hlk"); (case zs => walk_at "same"); (case znt => walk_at "none"); (case znb => walk_at "none"); (case znp => walk_at "none"); (case ze1 => walk_at "ne"); (case ze2 => walk_at "ne"); (case ze3 => walk_at "ne")))
local macro_rules | `(tactic| walk_at "cls") => `(tactic| first | assumption | exact T.cl_ProgramRows)
local macro_rules | `(tactic| walk_at "noat") => `(tactic| first | assumption | exact T.n_ProgramRows_rows | exact T.n_ProgramRows_mark)
local macro_rules | `(tactic| walk_at "kit") => `(tactic| first | assumption | exact T.k_int_int | exact T.k_int_bool | exact T.k_tuple_tuple | exact T.k_str_str | exact T.k_list_list | exact T.k_tuple_list)
set_option hygiene true
abbrev Adr.C_ProgramRows (a : Adr) : Addr := a.C_Table
abbrev Adr.G_AHEAD_OF_NAMES (a : Adr) : Addr := a.G_WHICH
abbrev Adr.G_NO_STATEMENT (a : Adr) : Addr := a.G_SET_NAMES
def top (i : Nat) : Stmt := PySem.Challenge.pw_frameback_k71_programs_as_texts.main.body.getD i (.Pass ⟨0, 0, 0, 0⟩)
abbrev s_is_number : Stmt := top 7
theorem sc_is_number : FnScope ["word"] ["word"] (defScope s_is_number) := ⟨rfl, rfl, rfl, by decide +kernel, rfl, by decide +kernel, by decide +kernel⟩
abbrev s_read_number : Stmt := top 8
theorem sc_read_number : FnScope ["word"] ["word"] (defScope s_read_number) := ⟨rfl, rfl, rfl, by decide +kernel, rfl, by decide +kernel, by decide +kernel⟩
abbrev s_is_whole : Stmt := top 11
theorem sc_is_whole : FnScope ["number"] ["number"] (defScope s_is_whole) := ⟨rfl, rfl, rfl, by decide +kernel, rfl, by decide +kernel, by decide +kernel⟩
abbrev s_asked_for_text : Stmt := top 13
theorem sc_asked_for_text : FnScope ["text"] ["text"] (defScope s_asked_for_text) := ⟨rfl, rfl, rfl, by decide +kernel, rfl, by decide +kernel, by decide +kernel⟩
abbrev s_is_up_to : Stmt := top 21
theorem sc_is_up_to : FnScope ["thing", "top"] ["thing", "top"] (defScope s_is_up_to) := ⟨rfl, rfl, rfl, by decide +kernel, rfl, by decide +kernel, by decide +kernel⟩
abbrev s_is_name : Stmt := top 22
theorem sc_is_name : FnScope ["thing"] ["thing"] (defScope s_is_name) := ⟨rfl, rfl, rfl, by decide +kernel, rfl, by decide +kernel, by decide +kernel⟩
abbrev s_are_names : Stmt := top 23
theorem sc_are_names : FnScope ["things"] ["things"] (defScope s_are_names) := ⟨rfl, rfl, rfl, by decide +kernel, rfl, by decide +kernel, by decide +kernel⟩
abbrev s_is_part : Stmt := top 24
theorem sc_is_part : FnScope ["part", "kind", "functions"] ["part", "kind", "functions"] (defScope s_is_part) := ⟨rfl, rfl, rfl, by decide +kernel, rfl, by decide +kernel, by decide +kernel⟩
abbrev s_is_statement : Stmt := top 25
theorem sc_is_statement : FnScope ["statement", "handed", "kinds"] ["statement", "handed"] (defScope s_is_statement) := ⟨rfl, rfl, rfl, by decide +kernel, rfl, by decide +kernel, by decide +kernel⟩
abbrev s_lists_within : Stmt := top 26
theorem sc_lists_within : FnScope ["statement"] ["statement"] (defScope s_lists_within) := ⟨rfl, rfl, rfl, by decide +kernel, rfl, by decide +kernel, by decide +kernel⟩
abbrev s_are_statements : Stmt := top 27
theorem sc_are_statements : FnScope ["bodies", "handed", "waiting", "many", "found", "statement", "inner"] ["bodies", "handed"] (defScope s_are_statements) := ⟨rfl, rfl, rfl, by decide +kernel, rfl, by decide +kernel, by decide +kernel⟩
abbrev s_is_function : Stmt := top 28
theorem sc_is_function : FnScope ["function"] ["function"] (defScope s_is_function) := ⟨rfl, rfl, rfl, by decide +kernel, rfl, by decide +kernel, by decide +kernel⟩
abbrev s_is_program : Stmt := top 29
theorem sc_is_program : FnScope ["program"] ["program"] (defScope s_is_program) := ⟨rfl, rfl, rfl, by decide +kernel, rfl, by decide +kernel, by decide +kernel⟩
abbrev s_asked_for_program : Stmt := top 30
theorem sc_asked_for_program : FnScope ["program"] ["program"] (defScope s_asked_for_program) := ⟨rfl, rfl, rfl, by decide +kernel, rfl, by decide +kernel, by decide +kernel⟩
abbrev s_shown_row : Stmt := top 38
theorem sc_shown_row : FnScope ["word", "numbers"] ["word", "numbers"] (defScope s_shown_row) := ⟨rfl, rfl, rfl, by decide +kernel, rfl, by decide +kernel, by decide +kernel⟩
abbrev s_shown_statement : Stmt := top 39
theorem sc_shown_statement : FnScope ["statement", "word", "some", "others"] ["statement"] (defScope s_shown_statement) := ⟨rfl, rfl, rfl, by decide +kernel, rfl, by decide +kernel, by decide +kernel⟩
abbrev s_shown_statements : Stmt := top 40
theorem sc_shown_statements : FnScope ["statements", "rows", "statement"] ["statements"] (defScope s_shown_statements) := ⟨rfl, rfl, rfl, by decide +kernel, rfl, by decide +kernel, by decide +kernel⟩
abbrev s_shown_program : Stmt := top 41
theorem sc_shown_program : FnScope ["program", "rows", "handed", "body"] ["program"] (defScope s_shown_program) := ⟨rfl, rfl, rfl, by decide +kernel, rfl, by decide +kernel, by decide +kernel⟩
abbrev s_has_count : Stmt := top 42
theorem sc_has_count : FnScope ["word", "many"] ["word", "many"] (defScope s_has_count) := ⟨rfl, rfl, rfl, by decide +kernel, rfl, by decide +kernel, by decide +kernel⟩
abbrev s_read_words : Stmt := top 43
theorem sc_read_words : FnScope ["row", "words"] ["row"] (defScope s_read_words) := ⟨rfl, rfl, rfl, by decide +kernel, rfl, by decide +kernel, by decide +kernel⟩
abbrev s_plain_statement : Stmt := top 44
theorem sc_plain_statement : FnScope ["row", "ahead"] ["row"] (defScope s_plain_statement) := ⟨rfl, rfl, rfl, by decide +kernel, rfl, by decide +kernel, by decide +kernel⟩
abbrev s_ProgramRows_init : Stmt := inClass (top 45) 0
theorem sc_ProgramRows_init : FnScope ["self", "rows"] ["self", "rows"] (defScope s_ProgramRows_init) := ⟨rfl, rfl, rfl, by decide +kernel, rfl, by decide +kernel, by decide +kernel⟩
abbrev s_ProgramRows_next_word : Stmt := inClass (top 45) 1
theorem sc_ProgramRows_next_word : FnScope ["self"] ["self"] (defScope s_ProgramRows_next_word) := ⟨rfl, rfl, rfl, by decide +kernel, rfl, by decide +kernel, by decide +kernel⟩
abbrev s_ProgramRows_take_row : Stmt := inClass (top 45) 2
theorem sc_ProgramRows_take_row : FnScope ["self", "word"] ["self", "word"] (defScope s_ProgramRows_take_row) := ⟨rfl, rfl, rfl, by decide +kernel, rfl, by decide +kernel, by decide +kernel⟩
abbrev s_ProgramRows_statements : Stmt := inClass (top 45) 3
theorem sc_ProgramRows_statements : FnScope ["self", "within", "told"] ["self", "within"] (defScope s_ProgramRows_statements) := ⟨rfl, rfl, rfl, by decide +kernel, rfl, by decide +kernel, by decide +kernel⟩
abbrev s_ProgramRows_statement : Stmt := inClass (top 45) 4
theorem sc_ProgramRows_statement : FnScope ["self", "within", "row", "some", "between", "others"] ["self", "within"] (defScope s_ProgramRows_statement) := ⟨rfl, rfl, rfl, by decide +kernel, rfl, by decide +kernel, by decide +kernel⟩
abbrev s_ProgramRows_functions : Stmt := inClass (top 45) 5
theorem sc_ProgramRows_functions : FnScope ["self", "told", "row"] ["self"] (defScope s_ProgramRows_functions) := ⟨rfl, rfl, rfl, by decide +kernel, rfl, by decide +kernel, by decide +kernel⟩
abbrev s_read_program : Stmt := top 46
theorem sc_read_program : FnScope ["text", "program"] ["text"] (defScope s_read_program) := ⟨rfl, rfl, rfl, by decide +kernel, rfl, by decide +kernel, by decide +kernel⟩
abbrev s_law_cell_at : Stmt := top 48
theorem sc_law_cell_at : FnScope ["_law_script", "_law_k"] ["_law_script", "_law_k"] (defScope s_law_cell_at) := ⟨rfl, rfl, rfl, by decide +kernel, rfl, by decide +kernel, by decide +kernel⟩
abbrev s_law_number : Stmt := top 49
theorem sc_law_number : FnScope ["_law_script", "_law_k"] ["_law_script", "_law_k"] (defScope s_law_number) := ⟨rfl, rfl, rfl, by decide +kernel, rfl, by decide +kernel, by decide +kernel⟩
abbrev s_law_block : Stmt := top 50
theorem sc_law_block : FnScope ["_law_script", "_law_at", "_law_many", "_law_deep", "_law_handed", "_law_some", "_law_k", "_law_told"] ["_law_script", "_law_at", "_law_many", "_law_deep", "_law_handed"] (defScope s_law_block) := ⟨rfl, rfl, rfl, by decide +kernel, rfl, by decide +kernel, by decide +kernel⟩
abbrev s_law_nested : Stmt := top 51
theorem sc_law_nested : FnScope ["_law_script", "_law_at", "_law_deep", "_law_handed", "_law_n", "_law_x", "_law_some", "_law_others"] ["_law_script", "_law_at", "_law_deep", "_law_handed"] (defScope s_law_nested) := ⟨rfl, rfl, rfl, by decide +kernel, rfl, by decide +kernel, by decide +kernel⟩
abbrev s_law_statement : Stmt := top 52
theorem sc_law_statement : FnScope ["_law_script", "_law_at", "_law_deep", "_law_handed", "_law_n", "_law_words_here", "_law_word", "_law_x", "_law_y", "_law_z", "_law_f", "_law_names"] ["_law_script", "_law_at", "_law_deep", "_law_handed"] (defScope s_law_statement) := ⟨rfl, rfl, rfl, by decide +kernel, rfl, by decide +kernel, by decide +kernel⟩
abbrev s_law_program : Stmt := top 53
theorem sc_law_program : FnScope ["_law_script", "_law_cell", "_law_handed", "_law_program_here", "_law_at", "_law_much", "_law_body"] ["_law_script"] (defScope s_law_program) := ⟨rfl, rfl, rfl, by decide +kernel, rfl, by decide +kernel, by decide +kernel⟩
abbrev s_law_words : Stmt := top 54
theorem sc_law_words : FnScope ["_law_word", "_law_numbers", "_law_text", "_law_number_here"] ["_law_word", "_law_numbers"] (defScope s_law_words) := ⟨rfl, rfl, rfl, by decide +kernel, rfl, by decide +kernel, by decide +kernel⟩
abbrev s_law_rows : Stmt := top 55
theorem sc_law_rows : FnScope ["_law_block_here", "_law_rows_here", "_law_told", "_law_word"] ["_law_block_here"] (defScope s_law_rows) := ⟨rfl, rfl, rfl, by decide +kernel, rfl, by decide +kernel, by decide +kernel⟩
abbrev s_law_tupled : Stmt := top 56
theorem sc_law_tupled : FnScope ["_law_block_here", "_law_found", "_law_told", "_law_parts"] ["_law_block_here"] (defScope s_law_tupled) := ⟨rfl, rfl, rfl, by decide +kernel, rfl, by decide +kernel, by decide +kernel⟩
abbrev s_law : Stmt := top 57
theorem sc_law : FnScope ["_law_script", "_law_program_here", "_law_rows_here", "_law_much", "_law_body", "_law_due", "_law_plain", "_law_text", "_law_found"] ["_law_script"] (defScope s_law) := ⟨rfl, rfl, rfl, by decide +kernel, rfl, by decide +kernel, by decide +kernel⟩
structure Txt (w : World) (K : PySem.W.Frag) (mg : Str → Option Value) (a : Adr) : Prop where
 z_all : mg "all" = none
 z_bool : mg "bool" = none
 z_int : mg "int" = none
 z_isinstance : mg "isinstance" = none
 z_len : mg "len" = none
 z_list : mg "list" = none
 z_range : mg "range" = none
 z_repr : mg "repr" = none
 z_str : mg "str" = none
 z_tuple : mg "tuple" = none
 z_zip : mg "zip" = none
 s_AHEAD_OF_NAMES : mg "AHEAD_OF_NAMES" = some (.ref a.G_AHEAD_OF_NAMES)
 d_AHEAD_OF_NAMES : ConD w K a.G_AHEAD_OF_NAMES [("call", 2), ("hand", 1)]
 s_COUNTS : mg "COUNTS" = some (.ref a.G_COUNTS)
 d_COUNTS : ConD w K a.G_COUNTS [("fun", 1), ("set", 2), ("copy", 2), ("sum", 3), ("minus", 3), ("product", 3), ("less", 3), ("drop", 1), ("give", 1), ("if", 1), ("else", 0), ("while", 1), ("try", 0), ("landing", 1), ("end", 0)]
 g_FIGURES : ∃ t, mg "FIGURES" = some (Value.str "0123456789" t)
 g_MOST_FIGURES : ∃ t, mg "MOST_FIGURES" = some (Value.int 10 t)
 s_NO_STATEMENT : mg "NO_STATEMENT" = some (.ref a.G_NO_STATEMENT)
 t_NO_STATEMENT : (∀ H, SqT K H a.G_NO_STATEMENT [.str "fun", .str "else", .str "landing", .str "end", .str ""])
 g_PARTING : ∃ t, mg "PARTING" = some (Value.str "; " t)
 s_PARTS : mg "PARTS" = some (.ref a.G_PARTS)
 d_PARTS : ∃ q0 q1 q2 q3 q4 q5 q6 q7 q8 q9 q10 q11 q12 : Addr, ConR w K a.G_PARTS [("set", .ref q0), ("copy", .ref q1), ("sum", .ref q2), ("minus", .ref q3), ("product", .ref q4), ("less", .ref q5), ("call", .ref q6), ("if", .ref q7), ("while", .ref q8), ("try", .ref q9), ("drop", .ref q10), ("give", .ref q11), ("hand", .ref q12)] ∧ (∀ H, SqT K H q0 [.str "name", .str "value"]) ∧ (∀ H, SqT K H q1 [.str "name", .str "name"]) ∧ (∀ H, SqT K H q2 [.str "name", .str "name", .str "name"]) ∧ (∀ H, SqT K H q3 [.str "name", .str "name", .str "name"]) ∧ (∀ H, SqT K H q4 [.str "name", .str "name", .str "name"]) ∧ (∀ H, SqT K H q5 [.str "name", .str "name", .str "name"]) ∧ (∀ H, SqT K H q6 [.str "name", .str "function", .str "names"]) ∧ (∀ H, SqT K H q7 [.str "name", .str "statements", .str "statements"]) ∧ (∀ H, SqT K H q8 [.str "name", .str "statements"]) ∧ (∀ H, SqT K H q9 [.str "statements", .str "name", .str "statements"]) ∧ (∀ H, SqT K H q10 [.str "name"]) ∧ (∀ H, SqT K H q11 [.str "name"]) ∧ (∀ H, SqT K H q12 [.str "function", .str "names"])
 g_TOP_FUNCTIONS : ∃ t, mg "TOP_FUNCTIONS" = some (Value.int 8 t)
 g_TOP_HANDED : ∃ t, mg "TOP_HANDED" = some (Value.int 3 t)
 g_TOP_NAME : ∃ t, mg "TOP_NAME" = some (Value.int 5 t)
 g_TOP_READ_WITHIN : ∃ t, mg "TOP_READ_WITHIN" = some (Value.int 40 t)
 g_TOP_SIGNS : ∃ t, mg "TOP_SIGNS" = some (Value.int 8000 t)
 g_TOP_STATEMENTS : ∃ t, mg "TOP_STATEMENTS" = some (Value.int 80 t)
 g_TOP_VALUE : ∃ t, mg "TOP_VALUE" = some (Value.int 4294967295 t)
 g_TOP_WITHIN : ∃ t, mg "TOP_WITHIN" = some (Value.int 4 t)
 c_NoProgram : mg "NoProgram" = some (.ref a.C_NoProgram)
 c_NoText : mg "NoText" = some (.ref a.C_NoText)
 c_ProgramRows : mg "ProgramRows" = some (.ref a.C_ProgramRows)
 cl_ProgramRows : Cls K a.C_ProgramRows
 n_ProgramRows_rows : NoAttr K a.C_ProgramRows "rows"
 n_ProgramRows_mark : NoAttr K a.C_ProgramRows "mark"
 i_ProgramRows : ∃ f fd, Fun K "__init__" "ProgramRows.__init__" s_ProgramRows_init f fd ∧ Mk K a.C_ProgramRows f ∧ Binds K fd ["self", "rows"] []
 m_ProgramRows_functions : ∃ f fd, Fun K "functions" "ProgramRows.functions" s_ProgramRows_functions f fd ∧ Meth K a.C_ProgramRows "functions" f ∧ Binds K fd ["self"] []
 m_ProgramRows_next_word : ∃ f fd, Fun K "next_word" "ProgramRows.next_word" s_ProgramRows_next_word f fd ∧ Meth K a.C_ProgramRows "next_word" f ∧ Binds K fd ["self"] []
 m_ProgramRows_statement : ∃ f fd, Fun K "statement" "ProgramRows.statement" s_ProgramRows_statement f fd ∧ Meth K a.C_ProgramRows "statement" f ∧ Binds K fd ["self", "within"] []
 m_ProgramRows_statements : ∃ f fd, Fun K "statements" "ProgramRows.statements" s_ProgramRows_statements f fd ∧ Meth K a.C_ProgramRows "statements" f ∧ Binds K fd ["self", "within"] []
 m_ProgramRows_take_row : ∃ f fd, Fun K "take_row" "ProgramRows.take_row" s_ProgramRows_take_row f fd ∧ Meth K a.C_ProgramRows "take_row" f ∧ Binds K fd ["self", "word"] []
 k_int_int : PySem.W.kitOne K (.type "int") (.type "int") = some true
 k_int_bool : PySem.W.kitOne K (.type "int") (.type "bool") = some false
 k_tuple_tuple : PySem.W.kitOne K (.type "tuple") (.type "tuple") = some true
 k_str_str : PySem.W.kitOne K (.type "str") (.type "str") = some true
 k_list_list : PySem.W.kitOne K (.type "list") (.type "list") = some true
 k_tuple_list : PySem.W.kitOne K (.type "tuple") (.type "list") = some false
 fn_is_number : ∃ f fd, Fun K "is_number" "is_number" s_is_number f fd ∧ mg "is_number" = some (.ref f) ∧ Binds K fd ["word"] []
 fn_read_number : ∃ f fd, Fun K "read_number" "read_number" s_read_number f fd ∧ mg "read_number" = some (.ref f) ∧ Binds K fd ["word"] []
 fn_is_whole : ∃ f fd, Fun K "is_whole" "is_whole" s_is_whole f fd ∧ mg "is_whole" = some (.ref f) ∧ Binds K fd ["number"] []
 fn_asked_for_text : ∃ f fd, Fun K "asked_for_text" "asked_for_text" s_asked_for_text f fd ∧ mg "asked_for_text" = some (.ref f) ∧ Binds K fd ["text"] []
 fn_is_up_to : ∃ f fd, Fun K "is_up_to" "is_up_to" s_is_up_to f fd ∧ mg "is_up_to" = some (.ref f) ∧ Binds K fd ["thing", "top"] []
 fn_is_name : ∃ f fd, Fun K "is_name" "is_name" s_is_name f fd ∧ mg "is_name" = some (.ref f) ∧ Binds K fd ["thing"] []
 fn_are_names : ∃ f fd, Fun K "are_names" "are_names" s_are_names f fd ∧ mg "are_names" = some (.ref f) ∧ Binds K fd ["things"] []
 fn_is_part : ∃ f fd, Fun K "is_part" "is_part" s_is_part f fd ∧ mg "is_part" = some (.ref f) ∧ Binds K fd ["part", "kind", "functions"] []
 fn_is_statement : ∃ f fd, Fun K "is_statement" "is_statement" s_is_statement f fd ∧ mg "is_statement" = some (.ref f) ∧ Binds K fd ["statement", "handed"] []
 fn_lists_within : ∃ f fd, Fun K "lists_within" "lists_within" s_lists_within f fd ∧ mg "lists_within" = some (.ref f) ∧ Binds K fd ["statement"] []
 fn_are_statements : ∃ f fd, Fun K "are_statements" "are_statements" s_are_statements f fd ∧ mg "are_statements" = some (.ref f) ∧ Binds K fd ["bodies", "handed"] []
 fn_is_function : ∃ f fd, Fun K "is_function" "is_function" s_is_function f fd ∧ mg "is_function" = some (.ref f) ∧ Binds K fd ["function"] []
 fn_is_program : ∃ f fd, Fun K "is_program" "is_program" s_is_program f fd ∧ mg "is_program" = some (.ref f) ∧ Binds K fd ["program"] []
 fn_asked_for_program : ∃ f fd, Fun K "asked_for_program" "asked_for_program" s_asked_for_program f fd ∧ mg "asked_for_program" = some (.ref f) ∧ Binds K fd ["program"] []
 fn_shown_row : ∃ f fd, Fun K "shown_row" "shown_row" s_shown_row f fd ∧ mg "shown_row" = some (.ref f) ∧ Binds K fd ["word", "numbers"] []
 fn_shown_statement : ∃ f fd, Fun K "shown_statement" "shown_statement" s_shown_statement f fd ∧ mg "shown_statement" = some (.ref f) ∧ Binds K fd ["statement"] []
 fn_shown_statements : ∃ f fd, Fun K "shown_statements" "shown_statements" s_shown_statements f fd ∧ mg "shown_statements" = some (.ref f) ∧ Binds K fd ["statements"] []
 fn_shown_program : ∃ f fd, Fun K "shown_program" "shown_program" s_shown_program f fd ∧ mg "shown_program" = some (.ref f) ∧ Binds K fd ["program"] []
 fn_has_count : ∃ f fd, Fun K "has_count" "has_count" s_has_count f fd ∧ mg "has_count" = some (.ref f) ∧ Binds K fd ["word", "many"] []
 fn_read_words : ∃ f fd, Fun K "read_words" "read_words" s_read_words f fd ∧ mg "read_words" = some (.ref f) ∧ Binds K fd ["row"] []
 fn_plain_statement : ∃ f fd, Fun K "plain_statement" "plain_statement" s_plain_statement f fd ∧ mg "plain_statement" = some (.ref f) ∧ Binds K fd ["row"] []
 fn_read_program : ∃ f fd, Fun K "read_program" "read_program" s_read_program f fd ∧ mg "read_program" = some (.ref f) ∧ Binds K fd ["text"] []
 fn_law_cell_at : ∃ f fd, Fun K "_law_cell_at" "_law_cell_at" s_law_cell_at f fd ∧ mg "_law_cell_at" = some (.ref f) ∧ Binds K fd ["_law_script", "_law_k"] []
 fn_law_number : ∃ f fd, Fun K "_law_number" "_law_number" s_law_number f fd ∧ mg "_law_number" = some (.ref f) ∧ Binds K fd ["_law_script", "_law_k"] []
 fn_law_block : ∃ f fd, Fun K "_law_block" "_law_block" s_law_block f fd ∧ mg "_law_block" = some (.ref f) ∧ Binds K fd ["_law_script", "_law_at", "_law_many", "_law_deep", "_law_handed"] []
 fn_law_nested : ∃ f fd, Fun K "_law_nested" "_law_nested" s_law_nested f fd ∧ mg "_law_nested" = some (.ref f) ∧ Binds K fd ["_law_script", "_law_at", "_law_deep", "_law_handed"] []
 fn_law_statement : ∃ f fd, Fun K "_law_statement" "_law_statement" s_law_statement f fd ∧ mg "_law_statement" = some (.ref f) ∧ Binds K fd ["_law_script", "_law_at", "_law_deep", "_law_handed"] []
 fn_law_program : ∃ f fd, Fun K "_law_program" "_law_program" s_law_program f fd ∧ mg "_law_program" = some (.ref f) ∧ Binds K fd ["_law_script"] []
 fn_law_words : ∃ f fd, Fun K "_law_words" "_law_words" s_law_words f fd ∧ mg "_law_words" = some (.ref f) ∧ Binds K fd ["_law_word", "_law_numbers"] []
 fn_law_rows : ∃ f fd, Fun K "_law_rows" "_law_rows" s_law_rows f fd ∧ mg "_law_rows" = some (.ref f) ∧ Binds K fd ["_law_block_here"] []
 fn_law_tupled : ∃ f fd, Fun K "_law_tupled" "_law_tupled" s_law_tupled f fd ∧ mg "_law_tupled" = some (.ref f) ∧ Binds K fd ["_law_block_here"] []
 fn_law : ∃ f fd, Fun K "law" "law" s_law f fd ∧ mg "law" = some (.ref f) ∧ Binds K fd ["_law_script"] []
theorem r_gTup {K : PySem.W.Frag} {p : Addr} {xs : List V} {n : Nat} {t : TGs} {σ : L2.St} {H : Hp} {Q : L2.St → Hp → Prop} (h : SqT K H p xs) (hl : xs.length = n) (q : t xs σ H Q) : gTup K n t (.ref p) σ H Q := ⟨p, xs, rfl, h, hl, q⟩
theorem r_gCons {t : TG} {u : TGs} {v : V} {r : List V} {σ : L2.St} {H : Hp} {Q : L2.St → Hp → Prop} (q : t v σ H fun σ' H' => u r σ' H' Q) : gCons t u (v :: r) σ H Q := ⟨v, r, rfl, q⟩
theorem r_gNil {σ : L2.St} {H : Hp} {Q : L2.St → Hp → Prop} (q : Q σ H) : gNil [] σ H Q := ⟨rfl, q⟩
theorem putF_len {f : Str} {v w : V} : ∀ {fs : List (Str × V)}, fs.lookup f = some w → (putF f v fs).length = fs.length
 | [], h => by cases h
 | (g, x) :: r, h => by
   by_cases e : g = f
   · show (if g = f then (g, v) :: r else (g, x) :: putF f v r).length = _
     rw [if_pos e]; rfl
   · have hb : (f == g) = false := beq_eq_false_iff_ne.mpr (fun z => e z.symm)
     rw [List.lookup_cons, hb] at h
     show (if g = f then (g, v) :: r else (g, x) :: putF f v r).length = _
     rw [if_neg e, List.length_cons, putF_len h]; rfl
theorem cut_tailV (x : V) (r : List V) : cutV (x :: r) (some 1) none = r := by
 unfold cutV
 have e1 : HT.sIx (x :: r).length 0 (some 1) = 1 := by
   rw [show HT.sIx (x :: r).length 0 (some 1) = min 1 (x :: r).length from HT.sIx_nat _ _ 1, List.length_cons]; omega
 have e2 : HT.sIx (x :: r).length (x :: r).length none = (x :: r).length := rfl
 rw [e1, e2, List.length_cons, List.drop_succ_cons, List.drop_zero, Nat.add_sub_cancel, List.take_length]
inductive Sm where
 | set (x v : Int) | copy (x y : Int) | sum (x y z : Int) | minus (x y z : Int) | product (x y z : Int) | less (x y z : Int) | give (x : Int) | leave (x : Int)
def Sm.vs : Sm → List V
 | .set x v => [.str "set", .int x, .int v]
 | .copy x y => [.str "copy", .int x, .int y]
 | .sum x y z => [.str "sum", .int x, .int y, .int z]
 | .minus x y z => [.str "minus", .int x, .int y, .int z]
 | .product x y z => [.str "product", .int x, .int y, .int z]
 | .less x y z => [.str "less", .int x, .int y, .int z]
 | .give x => [.str "give", .int x]
 | .leave x => [.str "leave", .int x]
def isN (x : Int) : Prop := 0 ≤ x ∧ x ≤ 5
def Sm.ok : Sm → Prop
 | .set x v => isN x ∧ isVal v
 | .copy x y => isN x ∧ isN y
 | .sum x y z | .minus x y z | .product x y z | .less x y z => isN x ∧ isN y ∧ isN z
 | .give x => isN x
 | .leave _ => False
theorem at_head (x : V) (xs : List V) : atI (x :: xs) 0 = some x := atI_nat (xs := x :: xs) (j := 0) (v := x) rfl
theorem cut_tail_neV (x : V) (r : List V) : ¬ (HT.sIx (x :: r).length 0 (some 1) = 0 ∧ HT.sIx (x :: r).length (x :: r).length none = (x :: r).length) := by
 intro z
 have e1 : HT.sIx (x :: r).length 0 (some 1) = 1 := by
   rw [show HT.sIx (x :: r).length 0 (some 1) = min 1 (x :: r).length from HT.sIx_nat _ _ 1, List.length_cons]; omega
 rw [e1] at z
 exact Nat.noConfusion z.1
inductive Stm where
 | pl (s : Sm) | call (x f : Int) (ns : List Int) (l : Bool) | hand (f : Int) (ns : List Int) (l : Bool) | drop (x : Int)
 | ifS (x : Int) (a b : List Stm) | whileS (x : Int) (a : List Stm) | tryS (a : List Stm) (x : Int) (b : List Stm)
def nmO (ns : List Int) (l : Bool) : HO := if l = true then .lst (ns.map V.int) else .tup (ns.map V.int)
def Each {α : Type} (R : Addr → α → Prop) (ps : List Addr) (xs : List α) : Prop := ps.length = xs.length ∧ ∀ (i : Nat) (p : Addr) (x : α), ps[i]? = some p → xs[i]? = some x → R p x
theorem Each.mono {α : Type} {R R' : Addr → α → Prop} {ps : List Addr} {xs : List α} (h : Each R ps xs) (k : ∀ p x, R p x → R' p x) : Each R' ps xs := ⟨h.1, fun i p x e1 e2 => k p x (h.2 i p x e1 e2)⟩
theorem Each.nil {α : Type} {R : Addr → α → Prop} : Each R [] [] := ⟨rfl, fun i p r e => by simp at e⟩
theorem Each.snoc {α : Type} {R : Addr → α → Prop} {ps : List Addr} {ss : List α} {p : Addr} {s : α} (h : Each R ps ss) (q : R p s) : Each R (ps ++ [p]) (ss ++ [s]) := by
 refine ⟨by rw [List.length_append, List.length_append, h.1]; rfl, fun i p' r' e1 e2 => ?_⟩
 by_cases hi : i < ss.length
 · rw [List.getElem?_append_left (by rw [h.1]; exact hi)] at e1
   rw [List.getElem?_append_left hi] at e2
   exact h.2 i p' r' e1 e2
 · rw [List.getElem?_append_right (by rw [h.1]; omega), h.1] at e1
   rw [List.getElem?_append_right (by omega)] at e2
   cases hj : i - ss.length with
   | zero => rw [hj] at e1 e2; simp at e1 e2; subst e1 e2; exact q
   | succ j => rw [hj] at e1; simp at e1
def BdAt (R : Addr → Stm → Prop) (H : Hp) (l : Addr) (ss : List Stm) : Prop := ∃ ps : List Addr, H l = some (.lst (ps.map V.ref)) ∧ Each R ps ss
def StAt (H : Hp) : Nat → Addr → Stm → Prop
 | 0, _, _ => False
 | d + 1, p, s => match s with
   | .pl s => H p = some (.tup s.vs)
   | .call x f ns l => ∃ q, H p = some (.tup [.str "call", .int x, .int f, .ref q]) ∧ H q = some (nmO ns l)
   | .hand f ns l => ∃ q, H p = some (.tup [.str "hand", .int f, .ref q]) ∧ H q = some (nmO ns l)
   | .drop x => H p = some (.tup [.str "drop", .int x])
   | .ifS x a b => ∃ la lb, H p = some (.tup [.str "if", .int x, .ref la, .ref lb]) ∧ BdAt (StAt H d) H la a ∧ BdAt (StAt H d) H lb b
   | .whileS x a => ∃ la, H p = some (.tup [.str "while", .int x, .ref la]) ∧ BdAt (StAt H d) H la a
   | .tryS a x b => ∃ la lb, H p = some (.tup [.str "try", .ref la, .int x, .ref lb]) ∧ BdAt (StAt H d) H la a ∧ BdAt (StAt H d) H lb b
theorem BdAt.same {R R' : Addr → Stm → Prop} {H H' : Hp} {l : Addr} {ss : List Stm} (s : Same H H') (k : ∀ p x, R p x → R' p x) (h : BdAt R H l ss) : BdAt R' H' l ss := let ⟨ps, e, q⟩ := h; ⟨ps, s _ _ e, q.mono k⟩
theorem StAt.same {H H' : Hp} (s : Same H H') : ∀ {d : Nat} {p : Addr} {x : Stm}, StAt H d p x → StAt H' d p x
 | 0, _, _, h => h.elim
 | d + 1, p, x, h => by
   cases x with
   | pl x => exact s _ _ h
   | call x f ns l => obtain ⟨q, h1, h2⟩ := h; exact ⟨q, s _ _ h1, s _ _ h2⟩
   | hand f ns l => obtain ⟨q, h1, h2⟩ := h; exact ⟨q, s _ _ h1, s _ _ h2⟩
   | drop x => exact s _ _ h
   | ifS x a b => obtain ⟨la, lb, h1, h2, h3⟩ := h; exact ⟨la, lb, s _ _ h1, h2.same s (fun _ _ => StAt.same s), h3.same s (fun _ _ => StAt.same s)⟩
   | whileS x a => obtain ⟨la, h1, h2⟩ := h; exact ⟨la, s _ _ h1, h2.same s (fun _ _ => StAt.same s)⟩
   | tryS a x b => obtain ⟨la, lb, h1, h2, h3⟩ := h; exact ⟨la, lb, s _ _ h1, h2.same s (fun _ _ => StAt.same s), h3.same s (fun _ _ => StAt.same s)⟩
def OkS (hd : List Int) : Nat → Stm → Prop
 | 0, _ => False
 | d + 1, s => match s with
   | .pl s => s.ok
   | .call x f ns _ => isN x ∧ 0 ≤ f ∧ (∀ n ∈ ns, isN n) ∧ hd[f.toNat]? = some (ns.length : Int)
   | .hand f ns _ => 0 ≤ f ∧ (∀ n ∈ ns, isN n) ∧ hd[f.toNat]? = some (ns.length : Int)
   | .drop x => isN x
   | .ifS x a b => isN x ∧ 0 < d ∧ (∀ s ∈ a, OkS hd d s) ∧ (∀ s ∈ b, OkS hd d s)
   | .whileS x a => isN x ∧ 0 < d ∧ (∀ s ∈ a, OkS hd d s)
   | .tryS a x b => isN x ∧ 0 < d ∧ (∀ s ∈ a, OkS hd d s) ∧ (∀ s ∈ b, OkS hd d s)
def cnt1 : Nat → Stm → Nat
 | 0, _ => 1
 | d + 1, s => match s with
   | .ifS _ a b => 1 + (a.map (cnt1 d)).sum + (b.map (cnt1 d)).sum
   | .whileS _ a => 1 + (a.map (cnt1 d)).sum
   | .tryS a _ b => 1 + (a.map (cnt1 d)).sum + (b.map (cnt1 d)).sum
   | _ => 1
def cntL (d : Nat) (ss : List Stm) : Nat := (ss.map (cnt1 d)).sum
def kindsT : List (Str × List Str) := [("set", ["name", "value"]), ("copy", ["name", "name"]), ("sum", ["name", "name", "name"]), ("minus", ["name", "name", "name"]), ("product", ["name", "name", "name"]), ("less", ["name", "name", "name"]), ("call", ["name", "function", "names"]), ("if", ["name", "statements", "statements"]), ("while", ["name", "statements"]), ("try", ["statements", "name", "statements"]), ("drop", ["name"]), ("give", ["name"]), ("hand", ["function", "names"])]
def PartOk (H : Hp) (n : Int) (k : Str) (v : V) : Prop :=
 (k = "name" ∧ ∃ i, v = .int i ∧ isN i) ∨ (k = "value" ∧ ∃ i, v = .int i ∧ isVal i) ∨ (k = "function" ∧ ∃ i, v = .int i ∧ 0 ≤ i ∧ i ≤ n - 1) ∨ (k = "names" ∧ ∃ (q : Addr) (ns : List Int) (l : Bool), v = .ref q ∧ H q = some (nmO ns l) ∧ (∀ x ∈ ns, isN x) ∧ ns.length ≤ 3) ∨ (k = "statements" ∧ ∃ (q : Addr) (us : List V), v = .ref q ∧ H q = some (.lst us))
theorem PartOk.same {H H' : Hp} {n : Int} {k : Str} {v : V} (s : Same H H') (h : PartOk H n k v) : PartOk H' n k v := by
 rcases h with h | h | h | ⟨e, q, ns, l, h1, h2, h3⟩ | ⟨e, q, us, h1, h2⟩
 · exact .inl h
 · exact .inr (.inl h)
 · exact .inr (.inr (.inl h))
 · exact .inr (.inr (.inr (.inl ⟨e, q, ns, l, h1, s _ _ h2, h3⟩)))
 · exact .inr (.inr (.inr (.inr ⟨e, q, us, h1, s _ _ h2⟩)))
def InAt (H : Hp) (hd : List Int) (d : Nat) (ls : List Addr) (bs : List (List Stm)) : Prop := Each (fun l b => BdAt (StAt H d) H l b ∧ ∀ s ∈ b, OkS hd d s) ls bs
structure Info (H : Hp) (hd : List Int) (d : Nat) (p : Addr) (s : Stm) (w : Str) (xs : List (V × Str)) (ls : List Addr) (bs : List (List Stm)) : Prop where
 hp : H p = some (.tup (.str w :: xs.map (·.1)))
 kd : (w, xs.map (·.2)) ∈ kindsT
 ok : ∀ x ∈ xs, PartOk H hd.length x.2 x.1
 few : xs.length ≤ 3
 cl : ((w = "call" ∨ w = "hand") ∧ ∃ (pre : List V) (f : Int) (q : Addr) (ns : List Int) (l : Bool), xs.map (·.1) = pre ++ [.int f, .ref q] ∧ H q = some (nmO ns l) ∧ 0 ≤ f ∧ hd[f.toNat]? = some (ns.length : Int)) ∨ (w ≠ "call" ∧ w ≠ "hand")
 fil : (xs.filter fun x => decide (x.2 = ("statements" : Str))).map (·.1) = ls.map V.ref
 inn : InAt H hd d ls bs
 cnt : cnt1 (d + 1) s = 1 + (bs.map (cntL d)).sum
 two : bs.length ≤ 2
 dep : bs ≠ [] → 0 < d
theorem lt_of_get {hd : List Int} {f : Int} {n : Int} (h0 : 0 ≤ f) (h : hd[f.toNat]? = some n) : f ≤ (hd.length : Int) - 1 := by
 have := (List.getElem?_eq_some_iff.mp h).1
 omega
theorem StAt.info {H : Hp} {hd : List Int} {d : Nat} {p : Addr} {s : Stm} (hd3 : ∀ n ∈ hd, n ≤ 3) (h : StAt H (d + 1) p s) (ok : OkS hd (d + 1) s) : ∃ (w : Str) (xs : List (V × Str)) (ls : List Addr) (bs : List (List Stm)), Info H hd d p s w xs ls bs := by
 have nm : ∀ {x : Int}, isN x → PartOk H hd.length "name" (.int x) := fun {x} h => .inl ⟨rfl, x, rfl, h⟩
 have three : ∀ {f : Int} {ns : List Int}, hd[f.toNat]? = some (ns.length : Int) → ns.length ≤ 3 := fun {f ns} e => by
   have := hd3 _ (List.mem_of_getElem? e); omega
 have bd : ∀ {l : Addr} {b : List Stm}, BdAt (StAt H d) H l b → PartOk H hd.length "statements" (.ref l) := fun {l b} ⟨ps, e, _⟩ => .inr (.inr (.inr (.inr ⟨rfl, l, _, rfl, e⟩)))
 have one : ∀ {R : Addr → List Stm → Prop} {l : Addr} {b : List Stm}, R l b → Each R [l] [b] := fun {R l b} h => Each.snoc Each.nil h
 cases s with
 | pl s =>
   cases s with
   | set x v => exact ⟨"set", [(.int x, "name"), (.int v, "value")], [], [], ⟨h, by simp [kindsT], by
       intro y hy; simp at hy; rcases hy with rfl | rfl
       · exact nm ok.1
       · exact .inr (.inl ⟨rfl, v, rfl, ok.2⟩), Nat.le_of_ble_eq_true rfl, .inr ⟨by decide, by decide⟩, rfl, Each.nil, rfl, Nat.le_of_ble_eq_true rfl, fun z => absurd rfl z⟩⟩
   | copy x y => exact ⟨"copy", [(.int x, "name"), (.int y, "name")], [], [], ⟨h, by simp [kindsT], by
       intro y hy; simp at hy; rcases hy with rfl | rfl
       · exact nm ok.1
       · exact nm ok.2, Nat.le_of_ble_eq_true rfl, .inr ⟨by decide, by decide⟩, rfl, Each.nil, rfl, Nat.le_of_ble_eq_true rfl, fun z => absurd rfl z⟩⟩
   | sum x y z => exact ⟨"sum", [(.int x, "name"), (.int y, "name"), (.int z, "name")], [], [], ⟨h, by simp [kindsT], by
       intro y hy; simp at hy; rcases hy with rfl | rfl | rfl
       · exact nm ok.1
       · exact nm ok.2.1
       · exact nm ok.2.2, Nat.le_of_ble_eq_true rfl, .inr ⟨by decide, by decide⟩, rfl, Each.nil, rfl, Nat.le_of_ble_eq_true rfl, fun z => absurd rfl z⟩⟩
   | minus x y z => exact ⟨"minus", [(.int x, "name"), (.int y, "name"), (.int z, "name")], [], [], ⟨h, by simp [kindsT], by
       intro y hy; simp at hy; rcases hy with rfl | rfl | rfl
       · exact nm ok.1
       · exact nm ok.2.1
       · exact nm ok.2.2, Nat.le_of_ble_eq_true rfl, .inr ⟨by decide, by decide⟩, rfl, Each.nil, rfl, Nat.le_of_ble_eq_true rfl, fun z => absurd rfl z⟩⟩
   | product x y z => exact ⟨"product", [(.int x, "name"), (.int y, "name"), (.int z, "name")], [], [], ⟨h, by simp [kindsT], by
       intro y hy; simp at hy; rcases hy with rfl | rfl | rfl
       · exact nm ok.1
       · exact nm ok.2.1
       · exact nm ok.2.2, Nat.le_of_ble_eq_true rfl, .inr ⟨by decide, by decide⟩, rfl, Each.nil, rfl, Nat.le_of_ble_eq_true rfl, fun z => absurd rfl z⟩⟩
   | less x y z => exact ⟨"less", [(.int x, "name"), (.int y, "name"), (.int z, "name")], [], [], ⟨h, by simp [kindsT], by
       intro y hy; simp at hy; rcases hy with rfl | rfl | rfl
       · exact nm ok.1
       · exact nm ok.2.1
       · exact nm ok.2.2, Nat.le_of_ble_eq_true rfl, .inr ⟨by decide, by decide⟩, rfl, Each.nil, rfl, Nat.le_of_ble_eq_true rfl, fun z => absurd rfl z⟩⟩
   | give x => exact ⟨"give", [(.int x, "name")], [], [], ⟨h, by simp [kindsT], by
       intro y hy; simp at hy; subst hy
       exact nm ok, Nat.le_of_ble_eq_true rfl, .inr ⟨by decide, by decide⟩, rfl, Each.nil, rfl, Nat.le_of_ble_eq_true rfl, fun z => absurd rfl z⟩⟩
   | leave x => exact ok.elim
 | call x f ns l =>
   obtain ⟨q, h1, h2⟩ := h
   obtain ⟨o1, o2, o3, o4⟩ := ok
   exact ⟨"call", [(.int x, "name"), (.int f, "function"), (.ref q, "names")], [], [], ⟨h1, by simp [kindsT], by
       intro y hy; simp at hy; rcases hy with rfl | rfl | rfl
       · exact nm o1
       · exact .inr (.inr (.inl ⟨rfl, f, rfl, o2, lt_of_get o2 o4⟩))
       · exact .inr (.inr (.inr (.inl ⟨rfl, q, ns, l, rfl, h2, o3, three o4⟩))), Nat.le_of_ble_eq_true rfl, .inl ⟨.inl rfl, [.int x], f, q, ns, l, rfl, h2, o2, o4⟩, rfl, Each.nil, rfl, Nat.le_of_ble_eq_true rfl, fun z => absurd rfl z⟩⟩
 | hand f ns l =>
   obtain ⟨q, h1, h2⟩ := h
   obtain ⟨o2, o3, o4⟩ := ok
   exact ⟨"hand", [(.int f, "function"), (.ref q, "names")], [], [], ⟨h1, by simp [kindsT], by
       intro y hy; simp at hy; rcases hy with rfl | rfl
       · exact .inr (.inr (.inl ⟨rfl, f, rfl, o2, lt_of_get o2 o4⟩))
       · exact .inr (.inr (.inr (.inl ⟨rfl, q, ns, l, rfl, h2, o3, three o4⟩))), Nat.le_of_ble_eq_true rfl, .inl ⟨.inr rfl, [], f, q, ns, l, rfl, h2, o2, o4⟩, rfl, Each.nil, rfl, Nat.le_of_ble_eq_true rfl, fun z => absurd rfl z⟩⟩
 | drop x => exact ⟨"drop", [(.int x, "name")], [], [], ⟨h, by simp [kindsT], by
       intro y hy; simp at hy; subst hy
       exact nm ok, Nat.le_of_ble_eq_true rfl, .inr ⟨by decide, by decide⟩, rfl, Each.nil, rfl, Nat.le_of_ble_eq_true rfl, fun z => absurd rfl z⟩⟩
 | ifS x a b =>
   obtain ⟨la, lb, h1, h2, h3⟩ := h
   obtain ⟨o1, o2, o3, o4⟩ := ok
   exact ⟨"if", [(.int x, "name"), (.ref la, "statements"), (.ref lb, "statements")], [la, lb], [a, b], ⟨h1, by simp [kindsT], by
       intro y hy; simp at hy; rcases hy with rfl | rfl | rfl
       · exact nm o1
       · exact bd h2
       · exact bd h3, Nat.le_of_ble_eq_true rfl, .inr ⟨by decide, by decide⟩, rfl, Each.snoc (one ⟨h2, o3⟩) ⟨h3, o4⟩, by simp [cnt1, cntL]; omega, Nat.le_of_ble_eq_true rfl, fun _ => o2⟩⟩
 | whileS x a =>
   obtain ⟨la, h1, h2⟩ := h
   obtain ⟨o1, o2, o3⟩ := ok
   exact ⟨"while", [(.int x, "name"), (.ref la, "statements")], [la], [a], ⟨h1, by simp [kindsT], by
       intro y hy; simp at hy; rcases hy with rfl | rfl
       · exact nm o1
       · exact bd h2, Nat.le_of_ble_eq_true rfl, .inr ⟨by decide, by decide⟩, rfl, one ⟨h2, o3⟩, by simp [cnt1, cntL], Nat.le_of_ble_eq_true rfl, fun _ => o2⟩⟩
 | tryS a x b =>
   obtain ⟨la, lb, h1, h2, h3⟩ := h
   obtain ⟨o1, o2, o3, o4⟩ := ok
   exact ⟨"try", [(.ref la, "statements"), (.int x, "name"), (.ref lb, "statements")], [la, lb], [a, b], ⟨h1, by simp [kindsT], by
       intro y hy; simp at hy; rcases hy with rfl | rfl | rfl
       · exact bd h2
       · exact nm o1
       · exact bd h3, Nat.le_of_ble_eq_true rfl, .inr ⟨by decide, by decide⟩, rfl, Each.snoc (one ⟨h2, o3⟩) ⟨h3, o4⟩, by simp [cnt1, cntL]; omega, Nat.le_of_ble_eq_true rfl, fun _ => o2⟩⟩
def spWhI : Sp := fun vs H Q _ => ∃ i : Int, vs = [.int i] ∧ 0 ≤ i ∧ Q (.bl true) H
def spUpTo : Sp := fun vs H Q _ => ∃ i t : Int, vs = [.int i, .int t] ∧ 0 ≤ i ∧ i ≤ t ∧ Q (.bl true) H
def spNm : Sp := fun vs H Q _ => ∃ i : Int, vs = [.int i] ∧ isN i ∧ Q (.bl true) H
def spNms : Sp := fun vs H Q _ => ∃ (q : Addr) (ns : List Int) (l : Bool), vs = [.ref q] ∧ H q = some (nmO ns l) ∧ (∀ x ∈ ns, isN x) ∧ ns.length ≤ 3 ∧ ∀ H', Same H H' → Q (.bl true) H'
def spPart : Sp := fun vs H Q _ => ∃ (v : V) (n : Int) (k : Str), vs = [v, .str k, .int n] ∧ PartOk H n k v ∧ ∀ H', Same H H' → Q (.bl true) H'
def spStm : Sp := fun vs H Q _ => ∃ (p h : Addr) (d : Nat) (s : Stm) (hd : List Int), vs = [.ref p, .ref h] ∧ StAt H d p s ∧ OkS hd d s ∧ H h = some (.lst (hd.map V.int)) ∧ (∀ n ∈ hd, n ≤ 3) ∧ hd.length ≤ 8 ∧ ∀ H', Same H H' → Q (.bl true) H'
def spWithin : Sp := fun vs H Q _ => ∃ (p : Addr) (w : Str) (xs : List (V × Str)) (ls : List Addr), vs = [.ref p] ∧ H p = some (.tup (.str w :: xs.map (·.1))) ∧ (w, xs.map (·.2)) ∈ kindsT ∧ xs.length ≤ 3 ∧ (xs.filter fun x => decide (x.2 = ("statements" : Str))).map (·.1) = ls.map V.ref ∧ ∀ l H', Same H H' → H' l = some (.lst (ls.map V.ref)) → H l = none → Q (.ref l) H'
def WaitAt (H0 H : Hp) (hd : List Int) (ts : List Addr) (ws : List (Nat × List Stm)) : Prop := Each (fun t w => ∃ l, H t = some (.tup [.ref l, .int (w.1 : Int)]) ∧ w.1 ≤ 4 ∧ BdAt (StAt H0 (5 - w.1)) H0 l w.2 ∧ ∀ s ∈ w.2, OkS hd (5 - w.1) s) ts ws
theorem WaitAt.to {H0 H H' : Hp} {hd : List Int} {ts : List Addr} {ws : List (Nat × List Stm)} (s : ∀ b xs, H b = some (.tup xs) → H' b = some (.tup xs)) (h : WaitAt H0 H hd ts ws) : WaitAt H0 H' hd ts ws := h.mono fun t w ⟨l, h1, h2, h3, h4⟩ => ⟨l, s _ _ h1, h2, h3, h4⟩
theorem WaitAt.same {H0 H H' : Hp} {hd : List Int} {ts : List Addr} {ws : List (Nat × List Stm)} (s : Same H H') (h : WaitAt H0 H hd ts ws) : WaitAt H0 H' hd ts ws := h.to fun b xs e => s _ _ e
theorem tup_upd {H : Hp} {l : Addr} {ys : List V} {o : HO} (h : H l = some (.lst ys)) (b : Addr) (xs : List V) (e : H b = some (.tup xs)) : (upd H l o) b = some (.tup xs) := by
 rw [upd_ne (fun z => by subst z; rw [h] at e; cases e)]; exact e
def totW (ws : List (Nat × List Stm)) : Nat := (ws.map fun w => cntL (5 - w.1) w.2).sum
def mesW (ws : List (Nat × List Stm)) : Nat := (ws.map fun w => 1 + 2 * cntL (5 - w.1) w.2).sum
def spAreS : Sp := fun vs H Q _ => ∃ (b h : Addr) (ls : List Addr) (bs : List (List Stm)) (hd : List Int), vs = [.ref b, .ref h] ∧ H b = some (.lst (ls.map V.ref)) ∧ Each (fun l ss => BdAt (StAt H 5) H l ss ∧ ∀ s ∈ ss, OkS hd 5 s) ls bs ∧ bs.length ≤ 8 ∧ (bs.map (cntL 5)).sum ≤ 80 ∧ H h = some (.lst (hd.map V.int)) ∧ (∀ n ∈ hd, n ≤ 3) ∧ hd.length ≤ 8 ∧ ∀ H', Same H H' → Q (.bl true) H'
def ProgAt (H : Hp) (pr : Addr) (fs : List (Int × List Stm)) : Prop := ∃ ps : List Addr, H pr = some (.lst (ps.map V.ref)) ∧ Each (fun p f => ∃ l, H p = some (.tup [.int f.1, .ref l]) ∧ BdAt (StAt H 5) H l f.2) ps fs
structure ProgOk (fs : List (Int × List Stm)) : Prop where
 one : 1 ≤ fs.length
 few : fs.length ≤ 8
 hd : ∀ f ∈ fs, 0 ≤ f.1 ∧ f.1 ≤ 3
 ok : ∀ f ∈ fs, ∀ s ∈ f.2, OkS (fs.map (·.1)) 5 s
 cnt : (fs.map fun f => cntL 5 f.2).sum ≤ 80
theorem ProgAt.same {H H' : Hp} {pr : Addr} {fs : List (Int × List Stm)} (s : Same H H') (h : ProgAt H pr fs) : ProgAt H' pr fs := by
 obtain ⟨ps, h1, h2⟩ := h
 exact ⟨ps, s _ _ h1, h2.mono fun p f ⟨l, e1, e2⟩ => ⟨l, s _ _ e1, e2.same s (fun _ _ => StAt.same s)⟩⟩
def bodyOf : Option HO → Addr
 | some (.tup [_, .ref l]) => l
 | _ => 0
def numOf : Option HO → Int
 | some (.tup [.int n, _]) => n
 | _ => 0
theorem Each.map_eq {α β : Type} {R : Addr → α → Prop} {ps : List Addr} {xs : List α} {g : Addr → β} {k : α → β} (h : Each R ps xs) (hr : ∀ p x, R p x → g p = k x) : ps.map g = xs.map k := by
 refine List.ext_getElem? fun i => ?_
 rw [List.getElem?_map, List.getElem?_map]
 by_cases hi : i < xs.length
 · have hp : i < ps.length := by rw [h.1]; exact hi
   rw [List.getElem?_eq_getElem hi, List.getElem?_eq_getElem hp]
   exact congrArg some (hr _ _ (h.2 i _ _ (List.getElem?_eq_getElem hp) (List.getElem?_eq_getElem hi)))
 · have hl := h.1
   rw [List.getElem?_eq_none (show ps.length ≤ i by omega), List.getElem?_eq_none (show xs.length ≤ i by omega)]; rfl
def spIsFn : Sp := fun vs H Q _ => ∃ (f l : Addr) (n : Int) (us : List V), vs = [.ref f] ∧ H f = some (.tup [.int n, .ref l]) ∧ 0 ≤ n ∧ n ≤ 3 ∧ H l = some (.lst us) ∧ Q (.bl true) H
def spIsP : Sp := fun vs H Q _ => ∃ (pr : Addr) (fs : List (Int × List Stm)), vs = [.ref pr] ∧ ProgAt H pr fs ∧ ProgOk fs ∧ ∀ H', Same H H' → Q (.bl true) H'
def spAsk : Sp := fun vs H Q _ => ∃ (pr : Addr) (fs : List (Int × List Stm)), vs = [.ref pr] ∧ ProgAt H pr fs ∧ ProgOk fs ∧ ∀ H', Same H H' → Q .non H'
theorem r_tyS {K : PySem.W.Frag} {x : Str} {H : Hp} {R : Prop} (q : R) : tyV K "str" (.str x) H ∧ R := ⟨rfl, q⟩
def FIGS : List Nat := [48, 49, 50, 51, 52, 53, 54, 55, 56, 57]
theorem figs_in {c : Nat} (h : 48 ≤ c ∧ c ≤ 57) : c ∈ (PySem.Str.ofString "0123456789").cps.toList := by
 rw [show (PySem.Str.ofString "0123456789").cps.toList = FIGS from rfl]
 have : ∀ k : Fin 58, 48 ≤ k.val → k.val ∈ FIGS := by decide
 exact this ⟨c, by omega⟩ h.1
def spIsNum : Sp := fun vs H Q _ => ∃ n : Int, vs = [.str (numS n)] ∧ 0 ≤ n ∧ n < 10 ^ 10 ∧ ∀ H', Same H H' → Q (.bl true) H'
def spReadNum : Sp := fun vs H Q _ => ∃ n : Int, vs = [.str (numS n)] ∧ 0 ≤ n ∧ n < 10 ^ 10 ∧ ∀ H', Same H H' → Q (.int n) H'
theorem ifStr {s t : Str} {A B : Prop} (h1 : s = t → A) (h2 : s ≠ t → B) : if decide (V.str s = V.str t) = true then A else B := by
 by_cases h : s = t
 · rw [if_pos (decide_eq_true (by rw [h]))]; exact h1 h
 · rw [if_neg (by rw [decide_eq_false (fun z => h (V.str.inj z))]; exact Bool.false_ne_true)]; exact h2 h
theorem r_plusS {K : PySem.W.Frag} {i j : Str} {H : Hp} {Q : VK} (hz : i.length + j.length ≤ sizeLine) (q : Q (.str (i ++ j)) H) : rPlus K (.str i) (.str j) H Q := .inr (.inr (.inr ⟨i, j, rfl, rfl, hz, q⟩))
theorem log_num {n : Int} (h0 : 0 ≤ n) (h1 : n < 10 ^ 10) : n.natAbs.log2 < 1920 := by
 by_cases h : n.natAbs = 0
 · rw [h]; decide
 · refine (Nat.log2_lt h).mpr (Nat.lt_of_lt_of_le (show n.natAbs < 2 ^ 34 by omega) (Nat.pow_le_pow_right (by decide) (by decide)))
local macro_rules | `(tactic| walk_at "mine") => `(tactic| first | (with_reducible refine r_rGet ?_) | (with_reducible refine r_gCons ?_) | (with_reducible refine r_gNil ?_) | (with_reducible refine r_zip ?_) | (with_reducible refine r_chain ?_) | (with_reducible refine r_dGet ?_) | (with_reducible refine r_raise ?_) | (with_reducible refine r_tyS ?_) | (with_reducible refine r_iStr ?_))
local macro_rules | `(tactic| walk_at "lk") => `(tactic| first | with_reducible assumption | (with_reducible exact look_hit) | (refine' look_of ?x ?y; (case x => decide +kernel); (case y => walk_at "lk")) | exact look_hit)
local macro_rules | `(tactic| walk_at "nolk") => `(tactic| first | with_reducible assumption | (with_reducible rfl) | (refine' look_no ?x ?y; (case x => decide +kernel); (case y => walk_at "nolk")) | rfl)
local macro_rules | `(tactic| walk_at "fewf") => `(tactic| first | exact Nat.lt_of_le_of_lt (by assumption) (by decide : 9 < 1000) | exact Nat.lt_of_le_of_lt (len_of (by assumption)) (by decide : 9 + 1 < 1000) | exact Nat.lt_of_le_of_lt (len_of (len_of (by assumption))) (by decide : 9 + 1 + 1 < 1000) | exact Nat.lt_of_le_of_lt (Nat.le_refl 0) (by decide) | exact Nat.lt_of_le_of_lt (len_of (Nat.le_refl 0)) (by decide) | exact Nat.lt_of_le_of_lt (len_of (len_of (Nat.le_refl 0))) (by decide) | exact Nat.lt_of_le_of_lt (len_of (len_of (len_of (Nat.le_refl 0)))) (by decide) | exact Nat.lt_of_le_of_lt (len_of (len_of (len_of (len_of (Nat.le_refl 0))))) (by decide))
local macro_rules | `(tactic| walk_at "rq") => `(tactic| (walk_at "rk"; repeat (((with_reducible refine' r_plusL ?x ?y ?z (fun _ _ => ?_)); (case x => walk_at "hlk"); (case y => walk_at "hlk"); (case z => walk_at "small")); walk_at "rk")))
local macro_rules | `(tactic| walk_at "rk") => `(tactic| repeat (first | walk_at "r1" | walk_at "r3" | walk_at "cond" | walk_at "calls" | walk_at "mine" | ((with_reducible refine' r_eqS ?h ?_); (case h => rfl)) | ((with_reducible refine' r_neS ?h ?_); (case h => rfl)) | ((with_reducible refine' r_fldV ?h ?c ?n ?l ?_); (case h => walk_at "hlk"); (case c => walk_at "cls"); (case n => walk_at "noat"); (case l => walk_at "lk"))))
set_option maxHeartbeats 4000000
section
variable {P : Program} {w : World} {K : PySem.W.Frag} {mg : Str → Option Value} {base : Heap} {a : Adr}
theorem sum_mem {α : Type} (c : α → Nat) {x : α} : ∀ {l : List α}, x ∈ l → c x ≤ (l.map c).sum
 | [], h => by cases h
 | y :: r, h => by
   rw [List.map_cons, List.sum_cons]
   rcases List.mem_cons.mp h with rfl | h
   · omega
   · have := sum_mem c h; omega
theorem r_inCN {w : World} {K : PySem.W.Frag} {a : Addr} {kvs : List (Str × Int)} {t : Str} {H : Hp} {Q : VK} (c : ConD w K a kvs) (e : valV (conV kvs) (.inr t) = none) (q : Q (.bl false) H) : rInC w K false (.str t) (.ref a) H Q := r_inC c (by rw [if_neg (by decide), e]; exact q)
theorem r_inCY {w : World} {K : PySem.W.Frag} {a : Addr} {kvs : List (Str × Int)} {t : Str} {v : V} {H : Hp} {Q : VK} (c : ConD w K a kvs) (e : valV (conV kvs) (.inr t) = some v) (q : Q (.bl true) H) : rInC w K false (.str t) (.ref a) H Q := r_inC c (by rw [if_neg (by decide), e]; exact q)
theorem r_nCN {w : World} {K : PySem.W.Frag} {a : Addr} {kvs : List (Str × Int)} {t : Str} {H : Hp} {Q : VK} (c : ConD w K a kvs) (e : valV (conV kvs) (.inr t) = none) (q : Q (.bl true) H) : rInC w K true (.str t) (.ref a) H Q := r_inC c (by rw [if_pos rfl, e]; exact q)
theorem r_nCY {w : World} {K : PySem.W.Frag} {a : Addr} {kvs : List (Str × Int)} {t : Str} {v : V} {H : Hp} {Q : VK} (c : ConD w K a kvs) (e : valV (conV kvs) (.inr t) = some v) (q : Q (.bl false) H) : rInC w K true (.str t) (.ref a) H Q := r_inC c (by rw [if_pos rfl, e]; exact q)
theorem parts_of (T : Txt w K mg a) : ∃ kvs, ConR w K a.G_PARTS kvs ∧ ∀ (w' : Str) (ks : List Str), (w', ks) ∈ kindsT → ∃ q, valV (conRV kvs) (.inr w') = some (.ref q) ∧ ∀ H, SqT K H q (ks.map V.str) := by
 obtain ⟨q0, q1, q2, q3, q4, q5, q6, q7, q8, q9, q10, q11, q12, C, t0, t1, t2, t3, t4, t5, t6, t7, t8, t9, t10, t11, t12⟩ := T.d_PARTS
 refine ⟨_, C, fun w' ks h => ?_⟩
 simp only [kindsT, List.mem_cons, Prod.mk.injEq, List.not_mem_nil, or_false] at h
 rcases h with ⟨rfl, rfl⟩ | ⟨rfl, rfl⟩ | ⟨rfl, rfl⟩ | ⟨rfl, rfl⟩ | ⟨rfl, rfl⟩ | ⟨rfl, rfl⟩ | ⟨rfl, rfl⟩ | ⟨rfl, rfl⟩ | ⟨rfl, rfl⟩ | ⟨rfl, rfl⟩ | ⟨rfl, rfl⟩ | ⟨rfl, rfl⟩ | ⟨rfl, rfl⟩
 · exact ⟨q0, rfl, t0⟩
 · exact ⟨q1, rfl, t1⟩
 · exact ⟨q2, rfl, t2⟩
 · exact ⟨q3, rfl, t3⟩
 · exact ⟨q4, rfl, t4⟩
 · exact ⟨q5, rfl, t5⟩
 · exact ⟨q6, rfl, t6⟩
 · exact ⟨q7, rfl, t7⟩
 · exact ⟨q8, rfl, t8⟩
 · exact ⟨q9, rfl, t9⟩
 · exact ⟨q10, rfl, t10⟩
 · exact ⟨q11, rfl, t11⟩
 · exact ⟨q12, rfl, t12⟩
theorem at_last1 {w : V} {pre : List V} {x y : V} : atI (w :: (pre ++ [x, y])) (-1) = some y := by
 have hl : (w :: (pre ++ [x, y])).length = pre.length + 3 := by simp
 unfold atI ixN
 rw [hl, if_neg (by decide), if_pos (by omega)]
 show (w :: (pre ++ [x, y]))[((-1 : Int) + ((pre.length + 3 : Nat) : Int)).toNat]? = _
 rw [show ((-1 : Int) + ((pre.length + 3 : Nat) : Int)).toNat = (pre.length + 1) + 1 by omega, List.getElem?_cons_succ, List.getElem?_append_right (by omega)]
 simp
theorem at_last2 {w : V} {pre : List V} {x y : V} : atI (w :: (pre ++ [x, y])) (-2) = some x := by
 have hl : (w :: (pre ++ [x, y])).length = pre.length + 3 := by simp
 unfold atI ixN
 rw [hl, if_neg (by decide), if_pos (by omega)]
 show (w :: (pre ++ [x, y]))[((-2 : Int) + ((pre.length + 3 : Nat) : Int)).toNat]? = _
 rw [show ((-2 : Int) + ((pre.length + 3 : Nat) : Int)).toNat = pre.length + 1 by omega, List.getElem?_cons_succ, List.getElem?_append_right (by omega)]
 simp
theorem cntL_cons (d : Nat) (s : Stm) (r : List Stm) : cntL d (s :: r) = cnt1 d s + cntL d r := by unfold cntL; rw [List.map_cons, List.sum_cons]
theorem totW_app (a b : List (Nat × List Stm)) : totW (a ++ b) = totW a + totW b := by unfold totW; rw [List.map_append, List.sum_append]
theorem mesW_app (a b : List (Nat × List Stm)) : mesW (a ++ b) = mesW a + mesW b := by unfold mesW; rw [List.map_append, List.sum_append]
theorem totW_in (k : Nat) (bs : List (List Stm)) : totW (bs.map fun b => (k, b)) = (bs.map (cntL (5 - k))).sum := by unfold totW; rw [List.map_map]; rfl
theorem mesW_in (k : Nat) : ∀ bs : List (List Stm), mesW (bs.map fun b => (k, b)) = bs.length + 2 * (bs.map (cntL (5 - k))).sum
 | [] => rfl
 | b :: r => by
   have := mesW_in k r
   unfold mesW at this ⊢
   rw [List.map_cons, List.map_cons, List.sum_cons, this, List.map_cons, List.sum_cons, List.length_cons]
   show 1 + 2 * cntL (5 - k) b + _ = _
   omega
theorem cnt1_pos (d : Nat) (s : Stm) : 1 ≤ cnt1 d s := by
 cases d with
 | zero => exact Nat.le_refl _
 | succ d => cases s <;> simp only [cnt1] <;> omega
theorem cntL_len (d : Nat) : ∀ ss : List Stm, ss.length ≤ cntL d ss
 | [] => Nat.le_refl _
 | s :: r => by
   have := cntL_len d r
   have := cnt1_pos d s
   rw [cntL_cons, List.length_cons]; omega
theorem Each.app {α : Type} {R : Addr → α → Prop} {ps qs : List Addr} {xs ys : List α} (h : Each R ps xs) (k : Each R qs ys) : Each R (ps ++ qs) (xs ++ ys) := by
 refine ⟨by rw [List.length_append, List.length_append, h.1, k.1], fun i p r e1 e2 => ?_⟩
 by_cases hi : i < xs.length
 · rw [List.getElem?_append_left (by rw [h.1]; exact hi)] at e1
   rw [List.getElem?_append_left hi] at e2
   exact h.2 i p r e1 e2
 · rw [List.getElem?_append_right (by rw [h.1]; omega), h.1] at e1
   rw [List.getElem?_append_right (by omega)] at e2
   exact k.2 _ p r e1 e2
theorem Each.last {α : Type} {R : Addr → α → Prop} {ps : List Addr} {xs : List α} (h : Each R ps xs) (hn : 0 < xs.length) : ∃ ps' p xs' x, ps = ps' ++ [p] ∧ xs = xs' ++ [x] ∧ Each R ps' xs' ∧ R p x := by
 have hl := h.1
 have hne : xs ≠ [] := fun z => by rw [z] at hn; cases hn
 have hpe : ps ≠ [] := fun z => by rw [z] at hl; exact hne (List.length_eq_zero_iff.mp hl.symm)
 have e1 := List.dropLast_concat_getLast hne
 have e2 := List.dropLast_concat_getLast hpe
 refine ⟨ps.dropLast, ps.getLast hpe, xs.dropLast, xs.getLast hne, e2.symm, e1.symm, ⟨by rw [List.length_dropLast, List.length_dropLast, hl], fun i p x a1 a2 => ?_⟩, ?_⟩
 · rw [List.getElem?_dropLast] at a1 a2
   split at a1
   · rw [if_pos (by omega)] at a2
     exact h.2 i p x a1 a2
   · cases a1
 · refine h.2 (xs.length - 1) _ _ ?_ ?_
   · rw [← hl, List.getLast_eq_getElem]; exact List.getElem?_eq_getElem _
   · rw [List.getLast_eq_getElem]; exact List.getElem?_eq_getElem _
theorem cntL_take (d : Nat) : ∀ (ss : List Stm) (i : Nat), cntL d (ss.take i) ≤ cntL d ss
 | [], i => by rw [List.take_nil]; exact Nat.le_refl _
 | s :: r, 0 => by rw [List.take_zero]; exact Nat.zero_le _
 | s :: r, i + 1 => by
   have := cntL_take d r i
   rw [List.take_succ_cons, cntL_cons, cntL_cons]; omega
theorem mesW_len : ∀ ws : List (Nat × List Stm), ws.length ≤ mesW ws
 | [] => Nat.le_refl _
 | w :: r => by
   have := mesW_len r
   unfold mesW at this ⊢
   rw [List.map_cons, List.sum_cons, List.length_cons]; omega
def hid (l : Addr) (H : Hp) : Hp := fun b => if b = l then none else H b
theorem hid_to {l : Addr} {H : Hp} : Same (hid l H) H := fun b o e => by
 unfold hid at e
 split at e
 · cases e
 · exact e
theorem hid_at {l b : Addr} {H : Hp} {o : HO} (h : H b = some o) (n : b ≠ l) : hid l H b = some o := by unfold hid; rw [if_neg n]; exact h
def FnAt (H : Hp) (p : Addr) (f : Int × List Stm) : Prop := ∃ l, H p = some (.tup [.int f.1, .ref l]) ∧ BdAt (StAt H 5) H l f.2
theorem FnAt.same {H H' : Hp} {p : Addr} {f : Int × List Stm} (h : FnAt H p f) (s : Same H H') : FnAt H' p f := let ⟨l, h1, h2⟩ := h; ⟨l, s _ _ h1, h2.same s (fun _ _ => StAt.same s)⟩
section
open PySem.Builtin PySem.Builtin.Str
theorem fold_len (sep : Str) : ∀ (ts : List Str) (k : Nat), ts.foldl (fun n t => n + t.length + sep.length) k = k + (ts.map fun t => t.length + sep.length).sum
 | [], k => rfl
 | t :: r, k => by
   rw [List.foldl_cons, fold_len sep r, List.map_cons, List.sum_cons]; omega
theorem sum_le {α : Type} {f : α → Nat} {L : Nat} : ∀ (ts : List α), (∀ t ∈ ts, f t ≤ L) → (ts.map f).sum ≤ ts.length * L
 | [], _ => Nat.zero_le _
 | t :: r, h => by
   have h1 := sum_le r fun x hx => h x (List.mem_cons_of_mem _ hx)
   have h2 := h t (List.mem_cons_self ..)
   rw [List.map_cons, List.sum_cons, List.length_cons, Nat.succ_mul]; omega
theorem joinOk_of {sep : Str} {ts : List Str} {L N : Nat} (hL : ∀ t ∈ ts, t.length + sep.length ≤ L) (hN : ts.length ≤ N) (hz : N * L ≤ 1000000) : JoinOk sep ts = true := by
 unfold JoinOk
 rw [List.foldl_toArray, fold_len, Nat.zero_add]
 have h1 := sum_le (f := fun t : Str => t.length + sep.length) ts hL
 have h2 : ts.length * L ≤ N * L := Nat.mul_le_mul_right L hN
 unfold tooLong
 rw [decide_eq_false (by rw [sizeLine_eq]; omega)]; rfl
theorem join_le {sep : Str} {ts : List Str} {L N : Nat} (hL : ∀ t ∈ ts, t.length ≤ L) (hN : ts.length ≤ N) : (PySem.Str.join sep ts).length ≤ N * L + N * sep.length := by
 have h := PySem.StrLaws.join_length_le sep ts
 have h1 := sum_le (f := fun t : Str => t.length) ts hL
 have h2 : ts.length * L ≤ N * L := Nat.mul_le_mul_right L hN
 have h3 : ts.length * sep.length ≤ N * sep.length := Nat.mul_le_mul_right _ hN
 omega
abbrev RD := Str × List Int
def smR : Sm → RD
 | .set x v => ("set", [x, v])
 | .copy x y => ("copy", [x, y])
 | .sum x y z => ("sum", [x, y, z])
 | .minus x y z => ("minus", [x, y, z])
 | .product x y z => ("product", [x, y, z])
 | .less x y z => ("less", [x, y, z])
 | .give x => ("give", [x])
 | .leave x => ("leave", [x])
abbrev rd (w : Str) (ns : List Int) : RD := (w, ns)
def rowsS : Nat → Stm → List RD
 | 0, _ => []
 | d + 1, s => match s with
   | .pl s => [smR s]
   | .call x f ns _ => [("call", x :: f :: ns)]
   | .hand f ns _ => [("hand", f :: ns)]
   | .drop x => [("drop", [x])]
   | .ifS x a b => rd "if" [x] :: (a.flatMap (rowsS d) ++ rd "else" [] :: (b.flatMap (rowsS d) ++ [rd "end" []]))
   | .whileS x a => rd "while" [x] :: (a.flatMap (rowsS d) ++ [rd "end" []])
   | .tryS a x b => rd "try" [] :: (a.flatMap (rowsS d) ++ rd "landing" [x] :: (b.flatMap (rowsS d) ++ [rd "end" []]))
def rowsL (d : Nat) (ss : List Stm) : List RD := ss.flatMap (rowsS d)
def rowsP (fs : List (Int × List Stm)) : List RD := fs.flatMap fun f => rd "fun" [f.1] :: rowsL 5 f.2
def rowX (r : RD) : Str := PySem.Str.join " " (r.1 :: r.2.map numS)
def rowV (r : RD) : V := .str (rowX r)
def progT (fs : List (Int × List Stm)) : Str := PySem.Str.join "; " ((rowsP fs).map rowX)
theorem rowsL_snoc {d : Nat} {ss : List Stm} {s : Stm} : rowsL d (ss ++ [s]) = rowsL d ss ++ rowsS d s := by unfold rowsL; simp
theorem rowsL_take {d : Nat} {ss : List Stm} {i : Nat} {s : Stm} (h : ss[i]? = some s) : rowsL d (ss.take (i + 1)) = rowsL d (ss.take i) ++ rowsS d s := by rw [List.take_add_one, h, Option.toList_some, rowsL_snoc]
theorem rowsL_split {d : Nat} {ss : List Stm} {i : Nat} {s : Stm} (h : ss[i]? = some s) : rowsL d ss = rowsL d (ss.take i) ++ (rowsS d s ++ rowsL d (ss.drop (i + 1))) := by
 have hi := (List.getElem?_eq_some_iff.mp h).1
 have e : ss = ss.take i ++ s :: ss.drop (i + 1) := by
   have h2 := (List.getElem?_eq_some_iff.mp h).2
   rw [← h2, List.getElem_cons_drop, List.take_append_drop]
 have : rowsL d (ss.take i ++ s :: ss.drop (i + 1)) = rowsL d (ss.take i) ++ (rowsS d s ++ rowsL d (ss.drop (i + 1))) := by unfold rowsL; simp
 rw [← e] at this
 exact this
theorem rowsP_snoc {fs : List (Int × List Stm)} {f : Int × List Stm} : rowsP (fs ++ [f]) = rowsP fs ++ rd "fun" [f.1] :: rowsL 5 f.2 := by unfold rowsP; simp
theorem rowsP_take {fs : List (Int × List Stm)} {i : Nat} {f : Int × List Stm} (h : fs[i]? = some f) : rowsP (fs.take (i + 1)) = rowsP (fs.take i) ++ rd "fun" [f.1] :: rowsL 5 f.2 := by rw [List.take_add_one, h, Option.toList_some, rowsP_snoc]
theorem rowsP_split {fs : List (Int × List Stm)} {i : Nat} {f : Int × List Stm} (h : fs[i]? = some f) : rowsP fs = rowsP (fs.take i) ++ rd "fun" [f.1] :: (rowsL 5 f.2 ++ rowsP (fs.drop (i + 1))) := by
 have e : fs = fs.take i ++ f :: fs.drop (i + 1) := by
   have h2 := (List.getElem?_eq_some_iff.mp h).2
   rw [← h2, List.getElem_cons_drop, List.take_append_drop]
 have : rowsP (fs.take i ++ f :: fs.drop (i + 1)) = rowsP (fs.take i) ++ rd "fun" [f.1] :: (rowsL 5 f.2 ++ rowsP (fs.drop (i + 1))) := by unfold rowsP; simp
 rw [← e] at this
 exact this
theorem rowsL_few_of {d : Nat} (h : ∀ s, (rowsS d s).length ≤ 3 * cnt1 d s) : ∀ ss : List Stm, (rowsL d ss).length ≤ 3 * cntL d ss
 | [] => Nat.zero_le _
 | s :: r => by
   have h1 := rowsL_few_of h r
   have h2 := h s
   have e : rowsL d (s :: r) = rowsS d s ++ rowsL d r := by unfold rowsL; simp
   have e2 : cntL d (s :: r) = cnt1 d s + cntL d r := by unfold cntL; simp
   rw [e, List.length_append, e2]; omega
theorem rowsS_few : ∀ (d : Nat) (s : Stm), (rowsS d s).length ≤ 3 * cnt1 d s
 | 0, s => Nat.zero_le _
 | d + 1, s => by
   have L := rowsL_few_of (rowsS_few d)
   cases s with
   | ifS x a b =>
     have ha := L a
     have hb := L b
     have e : (rowsS (d + 1) (.ifS x a b)).length = (rowsL d a).length + (rowsL d b).length + 3 := by show (rd "if" [x] :: (rowsL d a ++ rd "else" [] :: (rowsL d b ++ [rd "end" []]))).length = _; simp only [List.length_cons, List.length_append, List.length_nil]; omega
     have e2 : cnt1 (d + 1) (.ifS x a b) = 1 + cntL d a + cntL d b := rfl
     rw [e, e2]; omega
   | whileS x a =>
     have ha := L a
     have e : (rowsS (d + 1) (.whileS x a)).length = (rowsL d a).length + 2 := by show (rd "while" [x] :: (rowsL d a ++ [rd "end" []])).length = _; simp only [List.length_cons, List.length_append, List.length_nil]
     have e2 : cnt1 (d + 1) (.whileS x a) = 1 + cntL d a := rfl
     rw [e, e2]; omega
   | tryS a x b =>
     have ha := L a
     have hb := L b
     have e : (rowsS (d + 1) (.tryS a x b)).length = (rowsL d a).length + (rowsL d b).length + 3 := by show (rd "try" [] :: (rowsL d a ++ rd "landing" [x] :: (rowsL d b ++ [rd "end" []]))).length = _; simp only [List.length_cons, List.length_append, List.length_nil]; omega
     have e2 : cnt1 (d + 1) (.tryS a x b) = 1 + cntL d a + cntL d b := rfl
     rw [e, e2]; omega
   | pl s => show 1 ≤ 3 * 1; omega
   | call x f ns l => show 1 ≤ 3 * 1; omega
   | hand f ns l => show 1 ≤ 3 * 1; omega
   | drop x => show 1 ≤ 3 * 1; omega
theorem rowsL_few (d : Nat) (ss : List Stm) : (rowsL d ss).length ≤ 3 * cntL d ss := rowsL_few_of (rowsS_few d) ss
def countsP : List (Str × Int) := [("fun", 1), ("set", 2), ("copy", 2), ("sum", 3), ("minus", 3), ("product", 3), ("less", 3), ("drop", 1), ("give", 1), ("if", 1), ("else", 0), ("while", 1), ("try", 0), ("landing", 1), ("end", 0)]
def aheadP : List (Str × Int) := [("call", 2), ("hand", 1)]
def wordsP : List Str := ["fun", "set", "copy", "sum", "minus", "product", "less", "drop", "give", "if", "else", "while", "try", "landing", "end", "call", "hand"]
structure RdOk (r : RD) : Prop where
 wd : r.1 ∈ wordsP
 sz : (∃ x v, r = rd "set" [x, v] ∧ (0 ≤ x ∧ x ≤ 9) ∧ 0 ≤ v ∧ v < 10 ^ 10) ∨ ((∀ n ∈ r.2, 0 ≤ n ∧ n ≤ 9) ∧ r.1.length + 2 * r.2.length ≤ 14)
 ct : (r.1 = "call" ∧ 2 ≤ r.2.length) ∨ (r.1 = "hand" ∧ 1 ≤ r.2.length) ∨ (valV (conV aheadP) (.inr r.1) = none ∧ valV (conV countsP) (.inr r.1) = some (.int (r.2.length : Int)))
theorem RdOk.num {r : RD} (h : RdOk r) : ∀ n ∈ r.2, 0 ≤ n ∧ n < 10 ^ 10 := by
 rcases h.sz with ⟨x, v, rfl, hx, hv⟩ | ⟨h1, _⟩
 · intro n hn
   simp only [List.mem_cons, List.not_mem_nil, or_false] at hn
   rcases hn with rfl | rfl
   · exact ⟨hx.1, by omega⟩
   · exact hv
 · intro n hn
   have := h1 n hn
   exact ⟨this.1, by omega⟩
theorem RdOk.few {r : RD} (h : RdOk r) : r.2.length ≤ 7 := by
 rcases h.sz with ⟨x, v, rfl, hx, hv⟩ | ⟨_, h2⟩
 · show 2 ≤ 7; omega
 · omega
theorem wordsP_free : ∀ w ∈ wordsP, 32 ∉ w.cps.toList ∧ 59 ∉ w.cps.toList ∧ w.length ≤ 7 := by decide +kernel
theorem RdOk.free {r : RD} (h : RdOk r) {c : Nat} (hc : c = 32 ∨ c = 59) : ∀ w ∈ r.1 :: r.2.map numS, c ∉ w.cps.toList := by
 intro w hw
 rcases List.mem_cons.mp hw with rfl | hw
 · obtain ⟨h1, h2, _⟩ := wordsP_free _ h.wd
   rcases hc with rfl | rfl
   · exact h1
   · exact h2
 · obtain ⟨n, hn, rfl⟩ := List.mem_map.mp hw
   exact numS_free (h.num n hn).1 (by omega)
theorem numS_one {n : Int} (h0 : 0 ≤ n) (h1 : n ≤ 9) : (numS n).length = 1 := by
 have hn : n = 0 ∨ n = 1 ∨ n = 2 ∨ n = 3 ∨ n = 4 ∨ n = 5 ∨ n = 6 ∨ n = 7 ∨ n = 8 ∨ n = 9 := by omega
 rcases hn with rfl | rfl | rfl | rfl | rfl | rfl | rfl | rfl | rfl | rfl <;> rfl
theorem RdOk.len {r : RD} (h : RdOk r) : (rowX r).length ≤ 17 := by
 unfold rowX
 have hj := PySem.StrLaws.join_length_le " " (r.1 :: r.2.map numS)
 have e1 : (" " : Str).length = 1 := rfl
 rw [e1, List.length_cons, List.length_map, List.map_cons, List.sum_cons] at hj
 rcases h.sz with ⟨x, v, rfl, hx, hv⟩ | ⟨h1, h2⟩
 · have a1 := numS_one hx.1 hx.2
   have a2 := numS_len hv.1 hv.2
   have a3 : ("set" : Str).length = 3 := rfl
   simp only [List.map_cons, List.map_nil, List.sum_cons, List.sum_nil, List.length_cons, List.length_nil] at hj
   show (PySem.Str.join " " ["set", numS x, numS v]).length ≤ 17
   omega
 · have hs : ((r.2.map numS).map fun t => t.length).sum ≤ (r.2.map numS).length * 1 := sum_le _ fun t ht => by
     obtain ⟨n, hn, rfl⟩ := List.mem_map.mp ht
     exact Nat.le_of_eq (numS_one (h1 n hn).1 (h1 n hn).2)
   rw [List.length_map] at hs
   have hs2 : ((r.2.map numS).map PySem.Str.length).sum ≤ r.2.length * 1 := hs
   omega
theorem RdOk.split {r : RD} (h : RdOk r) : Txt.split (rowX r) " " = r.1 :: r.2.map numS := split_joined (c := 32) (s := []) rfl (by decide) (by decide +kernel) (fun z => by cases z) (h.free (.inl rfl))
theorem RdOk.join {r : RD} (h : RdOk r) : JoinOk " " (r.1 :: r.2.map numS) = true := joinOk_of (L := 11) (N := 8) (fun t ht => by
   have e : (" " : Str).length = 1 := rfl
   rcases List.mem_cons.mp ht with rfl | ht
   · have := (wordsP_free _ h.wd).2.2; omega
   · obtain ⟨n, hn, rfl⟩ := List.mem_map.mp ht
     have := numS_len (h.num n hn).1 (h.num n hn).2; omega) (by have := h.few; rw [List.length_cons, List.length_map]; omega) (by decide)
theorem jn_mem (c : Nat) (sep : List Nat) (hs : c ∉ sep) : ∀ (ws : List (List Nat)), (∀ w ∈ ws, c ∉ w) → c ∉ jn sep ws
 | [], _ => by intro z; cases z
 | [w], hw => hw w (List.mem_cons_self ..)
 | w :: y :: r, hw => by
   show c ∉ w ++ (sep ++ jn sep (y :: r))
   rw [List.mem_append, List.mem_append]
   rintro (z | z | z)
   · exact hw w (List.mem_cons_self ..) z
   · exact hs z
   · exact jn_mem c sep hs (y :: r) (fun v hv => hw v (List.mem_cons_of_mem _ hv)) z
theorem RdOk.noSemi {r : RD} (h : RdOk r) : 59 ∉ (rowX r).cps.toList := by
 unfold rowX
 rw [join_toList]
 refine jn_mem 59 _ (by decide) _ fun w hw => ?_
 obtain ⟨t, ht, rfl⟩ := List.mem_map.mp hw
 exact h.free (.inr rfl) t ht
theorem rowsL_ok_of {hd : List Int} {d : Nat} (h : ∀ s, OkS hd d s → ∀ r ∈ rowsS d s, RdOk r) {ss : List Stm} (hs : ∀ s ∈ ss, OkS hd d s) : ∀ r ∈ rowsL d ss, RdOk r := by
 intro r hr
 obtain ⟨s, hs1, hr1⟩ := List.mem_flatMap.mp hr
 exact h s (hs s hs1) r hr1
theorem n9 {x : Int} (h : isN x) : 0 ≤ x ∧ x ≤ 9 := ⟨h.1, by have := h.2; omega⟩
theorem rd_one {w : Str} {x : Int} (hw : w ∈ wordsP) (hl : w.length ≤ 12) (hc : valV (conV aheadP) (.inr w) = none ∧ valV (conV countsP) (.inr w) = some (.int 1)) (h : 0 ≤ x ∧ x ≤ 9) : RdOk (w, [x]) := ⟨hw, .inr ⟨fun n hn => by rw [List.mem_singleton.mp hn]; exact h, by show w.length + 2 * 1 ≤ 14; omega⟩, .inr (.inr hc)⟩
theorem rd_nil {w : Str} (hw : w ∈ wordsP) (hl : w.length ≤ 12) (hc : valV (conV aheadP) (.inr w) = none ∧ valV (conV countsP) (.inr w) = some (.int 0)) : RdOk (w, []) := ⟨hw, .inr ⟨(fun n hn => by cases hn), by show w.length + 2 * 0 ≤ 14; omega⟩, .inr (.inr hc)⟩
theorem rd_two {w : Str} {x y : Int} (hw : w ∈ wordsP) (hl : w.length ≤ 8) (hc : valV (conV aheadP) (.inr w) = none ∧ valV (conV countsP) (.inr w) = some (.int 2)) (h : 0 ≤ x ∧ x ≤ 9) (h2 : 0 ≤ y ∧ y ≤ 9) : RdOk (w, [x, y]) := ⟨hw, .inr ⟨fun n hn => by
 simp only [List.mem_cons, List.not_mem_nil, or_false] at hn
 rcases hn with rfl | rfl
 · exact h
 · exact h2, by show w.length + 2 * 2 ≤ 14; omega⟩, .inr (.inr hc)⟩
theorem rd_three {w : Str} {x y z : Int} (hw : w ∈ wordsP) (hl : w.length ≤ 8) (hc : valV (conV aheadP) (.inr w) = none ∧ valV (conV countsP) (.inr w) = some (.int 3)) (h : 0 ≤ x ∧ x ≤ 9) (h2 : 0 ≤ y ∧ y ≤ 9) (h3 : 0 ≤ z ∧ z ≤ 9) : RdOk (w, [x, y, z]) := ⟨hw, .inr ⟨fun n hn => by
 simp only [List.mem_cons, List.not_mem_nil, or_false] at hn
 rcases hn with rfl | rfl | rfl
 · exact h
 · exact h2
 · exact h3, by show w.length + 2 * 3 ≤ 14; omega⟩, .inr (.inr hc)⟩
theorem rowsS_ok {hd : List Int} (hd3 : ∀ n ∈ hd, n ≤ 3) (hd8 : hd.length ≤ 8) : ∀ (d : Nat) (s : Stm), OkS hd d s → ∀ r ∈ rowsS d s, RdOk r
 | 0, s, ok => ok.elim
 | d + 1, s, ok => by
   have L := @rowsL_ok_of hd d (rowsS_ok hd3 hd8 d)
   have three : ∀ {f : Int} {ns : List Int}, hd[f.toNat]? = some (ns.length : Int) → ns.length ≤ 3 := fun {f ns} e => by
     have := hd3 _ (List.mem_of_getElem? e); omega
   have fn9 : ∀ {f : Int} {n : Int}, 0 ≤ f → hd[f.toNat]? = some n → 0 ≤ f ∧ f ≤ 9 := fun {f n} h0 e => ⟨h0, by have := (List.getElem?_eq_some_iff.mp e).1; omega⟩
   intro r hr
   cases s with
   | pl s =>
     have e := List.mem_singleton.mp (show r ∈ [smR s] from hr)
     subst e
     cases s with
     | set x v => exact ⟨show ("set" : Str) ∈ wordsP by decide +kernel, .inl ⟨x, v, rfl, n9 ok.1, ok.2.1, by have := ok.2.2; omega⟩, .inr (.inr ⟨rfl, rfl⟩)⟩
     | copy x y => exact rd_two (by decide +kernel) (by decide) ⟨rfl, rfl⟩ (n9 ok.1) (n9 ok.2)
     | sum x y z => exact rd_three (by decide +kernel) (by decide) ⟨rfl, rfl⟩ (n9 ok.1) (n9 ok.2.1) (n9 ok.2.2)
     | minus x y z => exact rd_three (by decide +kernel) (by decide) ⟨rfl, rfl⟩ (n9 ok.1) (n9 ok.2.1) (n9 ok.2.2)
     | product x y z => exact rd_three (by decide +kernel) (by decide) ⟨rfl, rfl⟩ (n9 ok.1) (n9 ok.2.1) (n9 ok.2.2)
     | less x y z => exact rd_three (by decide +kernel) (by decide) ⟨rfl, rfl⟩ (n9 ok.1) (n9 ok.2.1) (n9 ok.2.2)
     | give x => exact rd_one (by decide +kernel) (by decide) ⟨rfl, rfl⟩ (n9 ok)
     | leave x => exact ok.elim
   | call x f ns l =>
     obtain ⟨o1, o2, o3, o4⟩ := ok
     have e := List.mem_singleton.mp (show r ∈ [(("call", x :: f :: ns) : RD)] from hr)
     subst e
     have h3 := three o4
     refine ⟨show ("call" : Str) ∈ wordsP by decide +kernel, .inr ⟨fun n hn => ?_, ?_⟩, .inl ⟨rfl, by show 2 ≤ ns.length + 1 + 1; omega⟩⟩
     · rcases List.mem_cons.mp (show n ∈ x :: f :: ns from hn) with rfl | hn
       · exact n9 o1
       · rcases List.mem_cons.mp hn with rfl | hn
         · exact fn9 o2 o4
         · exact n9 (o3 n hn)
     · show 4 + 2 * (ns.length + 1 + 1) ≤ 14; omega
   | hand f ns l =>
     obtain ⟨o2, o3, o4⟩ := ok
     have e := List.mem_singleton.mp (show r ∈ [(("hand", f :: ns) : RD)] from hr)
     subst e
     have h3 := three o4
     refine ⟨show ("hand" : Str) ∈ wordsP by decide +kernel, .inr ⟨fun n hn => ?_, ?_⟩, .inr (.inl ⟨rfl, by show 1 ≤ ns.length + 1; omega⟩)⟩
     · rcases List.mem_cons.mp (show n ∈ f :: ns from hn) with rfl | hn
       · exact fn9 o2 o4
       · exact n9 (o3 n hn)
     · show 4 + 2 * (ns.length + 1) ≤ 14; omega
   | drop x =>
     have e := List.mem_singleton.mp (show r ∈ [(("drop", [x]) : RD)] from hr)
     subst e
     exact rd_one (by decide +kernel) (by decide) ⟨rfl, rfl⟩ (n9 ok)
   | ifS x a b =>
     obtain ⟨o1, _, o3, o4⟩ := ok
     rcases List.mem_cons.mp (show r ∈ rd "if" [x] :: (rowsL d a ++ rd "else" [] :: (rowsL d b ++ [rd "end" []])) from hr) with rfl | hr
     · exact rd_one (by decide +kernel) (by decide) ⟨rfl, rfl⟩ (n9 o1)
     · rcases List.mem_append.mp hr with hr | hr
       · exact L o3 r hr
       · rcases List.mem_cons.mp hr with rfl | hr
         · exact rd_nil (by decide +kernel) (by decide) ⟨rfl, rfl⟩
         · rcases List.mem_append.mp hr with hr | hr
           · exact L o4 r hr
           · rw [List.mem_singleton.mp hr]; exact rd_nil (by decide +kernel) (by decide) ⟨rfl, rfl⟩
   | whileS x a =>
     obtain ⟨o1, _, o3⟩ := ok
     rcases List.mem_cons.mp (show r ∈ rd "while" [x] :: (rowsL d a ++ [rd "end" []]) from hr) with rfl | hr
     · exact rd_one (by decide +kernel) (by decide) ⟨rfl, rfl⟩ (n9 o1)
     · rcases List.mem_append.mp hr with hr | hr
       · exact L o3 r hr
       · rw [List.mem_singleton.mp hr]; exact rd_nil (by decide +kernel) (by decide) ⟨rfl, rfl⟩
   | tryS a x b =>
     obtain ⟨o1, _, o3, o4⟩ := ok
     rcases List.mem_cons.mp (show r ∈ rd "try" [] :: (rowsL d a ++ rd "landing" [x] :: (rowsL d b ++ [rd "end" []])) from hr) with rfl | hr
     · exact rd_nil (by decide +kernel) (by decide) ⟨rfl, rfl⟩
     · rcases List.mem_append.mp hr with hr | hr
       · exact L o3 r hr
       · rcases List.mem_cons.mp hr with rfl | hr
         · exact rd_one (by decide +kernel) (by decide) ⟨rfl, rfl⟩ (n9 o1)
         · rcases List.mem_append.mp hr with hr | hr
           · exact L o4 r hr
           · rw [List.mem_singleton.mp hr]; exact rd_nil (by decide +kernel) (by decide) ⟨rfl, rfl⟩
theorem rowsP_ok {fs : List (Int × List Stm)} (O : ProgOk fs) : ∀ r ∈ rowsP fs, RdOk r := by
 intro r hr
 obtain ⟨f, hf, hr⟩ := List.mem_flatMap.mp hr
 rcases List.mem_cons.mp hr with rfl | hr
 · have := O.hd f hf
   exact rd_one (by decide +kernel) (by decide) ⟨rfl, rfl⟩ ⟨this.1, by omega⟩
 · exact rowsL_ok_of (rowsS_ok (hd := fs.map (·.1)) (fun n hn => by obtain ⟨g, hg, rfl⟩ := List.mem_map.mp hn; exact (O.hd g hg).2) (by rw [List.length_map]; exact O.few) 5) (O.ok f hf) r hr
theorem rowsP_few {fs : List (Int × List Stm)} (O : ProgOk fs) : (rowsP fs).length ≤ 248 := by
 have : ∀ gs : List (Int × List Stm), (rowsP gs).length ≤ gs.length + 3 * (gs.map fun f => cntL 5 f.2).sum := by
   intro gs
   induction gs with
   | nil => exact Nat.zero_le _
   | cons g r ih =>
     have h1 := rowsL_few 5 g.2
     have e : rowsP (g :: r) = rd "fun" [g.1] :: (rowsL 5 g.2 ++ rowsP r) := by unfold rowsP; simp
     rw [e, List.length_cons, List.length_append, List.map_cons, List.sum_cons, List.length_cons]; omega
 have h1 := this fs
 have h2 := O.few
 have h3 := O.cnt
 omega
theorem rowsP_ne {fs : List (Int × List Stm)} (O : ProgOk fs) : rowsP fs ≠ [] := by
 intro z
 have h1 := O.one
 match fs, h1 with
 | g :: r, _ => cases z
theorem progT_join {fs : List (Int × List Stm)} (O : ProgOk fs) : JoinOk "; " ((rowsP fs).map rowX) = true := joinOk_of (L := 19) (N := 248) (fun t ht => by obtain ⟨r, hr, rfl⟩ := List.mem_map.mp ht; have := (rowsP_ok O r hr).len; have e : ("; " : Str).length = 2 := rfl; omega) (by rw [List.length_map]; exact rowsP_few O) (by decide)
theorem progT_len {fs : List (Int × List Stm)} (O : ProgOk fs) : (progT fs).length ≤ 4712 := join_le (L := 17) (N := 248) (fun t ht => by obtain ⟨r, hr, rfl⟩ := List.mem_map.mp ht; exact (rowsP_ok O r hr).len) (by rw [List.length_map]; exact rowsP_few O)
theorem progT_split {fs : List (Int × List Stm)} (O : ProgOk fs) : Txt.split (progT fs) "; " = (rowsP fs).map rowX := split_joined (c := 59) (s := [32]) rfl (by decide) (by decide +kernel) (fun z => rowsP_ne O (List.map_eq_nil_iff.mp z)) (fun w hw => by obtain ⟨r, hr, rfl⟩ := List.mem_map.mp hw; exact (rowsP_ok O r hr).noSemi)
theorem rowX_nil (w : Str) : rowX (w, []) = w := str_eq (by unfold rowX; rw [join_toList]; rfl)
theorem rowX_one (w : Str) (x : Int) : rowX (w, [x]) = w ++ " " ++ numS x := str_eq (by
 unfold rowX
 rw [join_toList, str_app, str_app]
 show w.cps.toList ++ ((" " : Str).cps.toList ++ (numS x).cps.toList) = _
 rw [List.append_assoc])
theorem jn_snoc (sep : List Nat) : ∀ (w : List Nat) (r : List (List Nat)) (y : List Nat), jn sep ((w :: r) ++ [y]) = jn sep (w :: r) ++ (sep ++ y)
 | w, [], y => rfl
 | w, v :: r, y => by
   show w ++ (sep ++ jn sep ((v :: r) ++ [y])) = w ++ (sep ++ jn sep (v :: r)) ++ (sep ++ y)
   rw [jn_snoc sep v r y]; simp only [List.append_assoc]
theorem rowX_snoc (w : Str) (ns : List Int) (x : Int) : rowX (w, ns ++ [x]) = rowX (w, ns) ++ " " ++ numS x := str_eq (by
 unfold rowX
 rw [str_app, str_app, join_toList, join_toList]
 show jn _ (w.cps.toList :: ((ns ++ [x]).map numS).map fun t => t.cps.toList) = jn _ (w.cps.toList :: (ns.map numS).map fun t => t.cps.toList) ++ _ ++ _
 rw [List.map_append, List.map_append]
 have := jn_snoc (" " : Str).cps.toList w.cps.toList ((ns.map numS).map fun t => t.cps.toList) (numS x).cps.toList
 rw [List.append_assoc]
 exact this)
def OkL (hd : List Int) : Nat → Stm → Prop
 | 0, _ => False
 | d + 1, s => match s with
   | .pl s => s.ok
   | .call x f ns l => isN x ∧ 0 ≤ f ∧ (∀ n ∈ ns, isN n) ∧ hd[f.toNat]? = some (ns.length : Int) ∧ l = true
   | .hand f ns l => 0 ≤ f ∧ (∀ n ∈ ns, isN n) ∧ hd[f.toNat]? = some (ns.length : Int) ∧ l = true
   | .drop x => isN x
   | .ifS x a b => isN x ∧ 0 < d ∧ (∀ s ∈ a, OkL hd d s) ∧ (∀ s ∈ b, OkL hd d s)
   | .whileS x a => isN x ∧ 0 < d ∧ (∀ s ∈ a, OkL hd d s)
   | .tryS a x b => isN x ∧ 0 < d ∧ (∀ s ∈ a, OkL hd d s) ∧ (∀ s ∈ b, OkL hd d s)
theorem OkL.ok {hd : List Int} : ∀ {d : Nat} {s : Stm}, OkL hd d s → OkS hd d s
 | 0, _, h => h.elim
 | d + 1, s, h => by
   cases s with
   | pl s => exact h
   | call x f ns l => exact ⟨h.1, h.2.1, h.2.2.1, h.2.2.2.1⟩
   | hand f ns l => exact ⟨h.1, h.2.1, h.2.2.1⟩
   | drop x => exact h
   | ifS x a b => exact ⟨h.1, h.2.1, fun s hs => (h.2.2.1 s hs).ok, fun s hs => (h.2.2.2 s hs).ok⟩
   | whileS x a => exact ⟨h.1, h.2.1, fun s hs => (h.2.2 s hs).ok⟩
   | tryS a x b => exact ⟨h.1, h.2.1, fun s hs => (h.2.2.1 s hs).ok, fun s hs => (h.2.2.2 s hs).ok⟩
def tupS : Nat → Stm → Stm
 | 0, s => s
 | d + 1, s => match s with
   | .pl s => .pl s
   | .call x f ns _ => .call x f ns false
   | .hand f ns _ => .hand f ns false
   | .drop x => .drop x
   | .ifS x a b => .ifS x (a.map (tupS d)) (b.map (tupS d))
   | .whileS x a => .whileS x (a.map (tupS d))
   | .tryS a x b => .tryS (a.map (tupS d)) x (b.map (tupS d))
def tupP (fs : List (Int × List Stm)) : List (Int × List Stm) := fs.map fun f => (f.1, f.2.map (tupS 5))
theorem rowsL_tup_of {d : Nat} (h : ∀ s, rowsS d (tupS d s) = rowsS d s) (ss : List Stm) : rowsL d (ss.map (tupS d)) = rowsL d ss := by
 unfold rowsL
 rw [List.flatMap_map]
 exact congrArg (fun f => ss.flatMap f) (funext h)
theorem rowsS_tup : ∀ (d : Nat) (s : Stm), rowsS d (tupS d s) = rowsS d s
 | 0, _ => rfl
 | d + 1, s => by
   have L := rowsL_tup_of (rowsS_tup d)
   cases s with
   | ifS x a b =>
     show rd "if" [x] :: (rowsL d (a.map (tupS d)) ++ rd "else" [] :: (rowsL d (b.map (tupS d)) ++ [rd "end" []])) = rd "if" [x] :: (rowsL d a ++ rd "else" [] :: (rowsL d b ++ [rd "end" []]))
     rw [L, L]
   | whileS x a =>
     show rd "while" [x] :: (rowsL d (a.map (tupS d)) ++ [rd "end" []]) = rd "while" [x] :: (rowsL d a ++ [rd "end" []])
     rw [L]
   | tryS a x b =>
     show rd "try" [] :: (rowsL d (a.map (tupS d)) ++ rd "landing" [x] :: (rowsL d (b.map (tupS d)) ++ [rd "end" []])) = rd "try" [] :: (rowsL d a ++ rd "landing" [x] :: (rowsL d b ++ [rd "end" []]))
     rw [L, L]
   | _ => rfl
theorem progT_tup (fs : List (Int × List Stm)) : progT (tupP fs) = progT fs := by
 unfold progT
 have : rowsP (tupP fs) = rowsP fs := by
   unfold rowsP tupP
   rw [List.flatMap_map]
   exact congrArg (fun f => fs.flatMap f) (funext fun f => by show rd "fun" [f.1] :: rowsL 5 (f.2.map (tupS 5)) = _; rw [rowsL_tup_of (rowsS_tup 5)])
 rw [this]
theorem cnt_tup : ∀ (d : Nat) (s : Stm), cnt1 d (tupS d s) = cnt1 d s
 | 0, _ => rfl
 | d + 1, s => by
   have L : ∀ ss : List Stm, ((ss.map (tupS d)).map (cnt1 d)).sum = (ss.map (cnt1 d)).sum := fun ss => by
     rw [List.map_map]; exact congrArg List.sum (congrArg (fun f => ss.map f) (funext (cnt_tup d)))
   cases s with
   | ifS x a b => simp only [tupS, cnt1, L]
   | whileS x a => simp only [tupS, cnt1, L]
   | tryS a x b => simp only [tupS, cnt1, L]
   | _ => rfl
theorem ok_tup {hd : List Int} : ∀ (d : Nat) {s : Stm}, OkS hd d s → OkS hd d (tupS d s)
 | 0, _, h => h
 | d + 1, s, h => by
   have L : ∀ {ss : List Stm}, (∀ s ∈ ss, OkS hd d s) → ∀ s ∈ ss.map (tupS d), OkS hd d s := fun {ss} k s hs => by
     obtain ⟨t, ht, rfl⟩ := List.mem_map.mp hs
     exact ok_tup d (k t ht)
   cases s with
   | ifS x a b => exact ⟨h.1, h.2.1, L h.2.2.1, L h.2.2.2⟩
   | whileS x a => exact ⟨h.1, h.2.1, L h.2.2⟩
   | tryS a x b => exact ⟨h.1, h.2.1, L h.2.2.1, L h.2.2.2⟩
   | _ => exact h
theorem tupP_ok {fs : List (Int × List Stm)} (O : ProgOk fs) : ProgOk (tupP fs) := by
 have e1 : (tupP fs).map (·.1) = fs.map (·.1) := by unfold tupP; rw [List.map_map]; rfl
 have e2 : (tupP fs).length = fs.length := by unfold tupP; rw [List.length_map]
 refine ⟨by rw [e2]; exact O.one, by rw [e2]; exact O.few, fun f hf => ?_, fun f hf s hs => ?_, ?_⟩
 · obtain ⟨g, hg, rfl⟩ := List.mem_map.mp hf
   exact O.hd g hg
 · obtain ⟨g, hg, rfl⟩ := List.mem_map.mp hf
   obtain ⟨t, ht, rfl⟩ := List.mem_map.mp hs
   rw [e1]
   exact ok_tup 5 (O.ok g hg t ht)
 · have : ((tupP fs).map fun f => cntL 5 f.2) = fs.map fun f => cntL 5 f.2 := by
     unfold tupP
     rw [List.map_map]
     refine congrArg (fun f => fs.map f) (funext fun f => ?_)
     show ((f.2.map (tupS 5)).map (cnt1 5)).sum = (f.2.map (cnt1 5)).sum
     rw [List.map_map]; exact congrArg List.sum (congrArg (fun g => f.2.map g) (funext (cnt_tup 5)))
   rw [this]; exact O.cnt
end
def nw (H H' : Hp) : Hp := fun b => match H b with
 | none => H' b
 | some _ => none
theorem nw_at {H H' : Hp} {b : Addr} {o : HO} (n : H b = none) (h : H' b = some o) : nw H H' b = some o := by unfold nw; rw [n]; exact h
theorem nw_of {H H' : Hp} {b : Addr} {o : HO} (h : nw H H' b = some o) : H b = none ∧ H' b = some o := by
 unfold nw at h
 split at h
 · rename_i e; exact ⟨e, h⟩
 · cases h
theorem nw_to {H H' : Hp} : Same (nw H H') H' := fun b o h => (nw_of h).2
theorem nw_sub {A B C D : Hp} (k : ∀ b o, B b = none → C b = some o → A b = none ∧ D b = some o) : Same (nw B C) (nw A D) := fun b o h => by
 obtain ⟨h1, h2⟩ := nw_of h
 obtain ⟨k1, k2⟩ := k b o h1 h2
 exact nw_at k1 k2
theorem nw_same {A C D : Hp} (s : Same C D) : Same (nw A C) (nw A D) := nw_sub fun b o h1 h2 => ⟨h1, s _ _ h2⟩
theorem nw_put {A C : Hp} {l : Addr} {o x : HO} : nw (upd A l x) (upd C l o) = nw (upd A l x) C := by
 funext b
 unfold nw
 by_cases h : b = l
 · rw [h, upd_same]
 · rw [upd_ne h, upd_ne h]
theorem upd_none {A : Hp} {l b : Addr} {x : HO} (h : (upd A l x) b = none) : A b = none ∧ b ≠ l := by
 by_cases e : b = l
 · rw [e, upd_same] at h; cases h
 · rw [upd_ne e] at h; exact ⟨h, e⟩
structure HdOk (hd : List Int) : Prop where
 one : 1 ≤ hd.length
 three : hd.length ≤ 3
 val : ∀ n ∈ hd, 0 ≤ n ∧ n ≤ 3
def numAt (ns : List Int) (k : Int) : Int := cellAt ns k + 7919 * k * k + 31 * k
def spNum (K : PySem.W.Frag) : Sp := fun vs H Q _ => ∃ (a0 : Addr) (ns : List Int) (k : Int), vs = [.ref a0, .int k] ∧ SqL K H a0 (ns.map V.int) ∧ 0 ≤ k ∧ k ≤ 63 ∧ Q (.int (numAt ns k)) H
def spSt (K : PySem.W.Frag) (j : Nat) : Sp := fun vs H Q _ => ∃ (a0 lh : Addr) (ns hd : List Int) (at' : Int), vs = [.ref a0, .int at', .int (4 - (j : Int)), .ref lh] ∧ SqL K H a0 (ns.map V.int) ∧ H lh = some (.lst (hd.map V.int)) ∧ HdOk hd ∧ 0 ≤ at' ∧ at' < 50 ∧ j ≤ 4 ∧
 ∀ t p s e H', Same H H' → H' t = some (.tup [.ref p, .int e]) → StAt (nw H H') (j + 1) p s → OkL hd (j + 1) s → (cnt1 (j + 1) s : Int) + at' ≤ e → at' < e → e ≤ 50 → Q (.ref t) H'
def spBk (K : PySem.W.Frag) (j : Nat) : Sp := fun vs H Q _ => ∃ (a0 lh : Addr) (ns hd : List Int) (at' many : Int), vs = [.ref a0, .int at', .int many, .int (4 - (j : Int)), .ref lh] ∧ SqL K H a0 (ns.map V.int) ∧ H lh = some (.lst (hd.map V.int)) ∧ HdOk hd ∧ 0 ≤ at' ∧ at' ≤ 50 ∧ 0 ≤ many ∧ many ≤ 7 ∧ j ≤ 4 ∧
 ∀ t l ps ss e H', Same H H' → H l = none → H' t = some (.tup [.ref l, .int e]) → H' l = some (.lst (ps.map V.ref)) → ps.length ≤ 7 → Each (StAt (nw (upd H l (.lst [])) H') (j + 1)) ps ss → (∀ s ∈ ss, OkL hd (j + 1) s) → (cntL (j + 1) ss : Int) + at' ≤ e → at' ≤ e → e ≤ 50 → Q (.ref t) H'
def spProgB (K : PySem.W.Frag) : Sp := fun vs H Q _ => ∃ (a0 : Addr) (ns : List Int), vs = [.ref a0] ∧ SqL K H a0 (ns.map V.int) ∧ ∀ pr fs H', Same H H' → ProgAt H' pr fs → ProgOk fs → (∀ f ∈ fs, ∀ s ∈ f.2, OkL (fs.map (·.1)) 5 s) → Q (.ref pr) H'
def wordsV : List V := [.str "set", .str "sum", .str "copy", .str "call", .str "if", .str "while", .str "less", .str "minus", .str "try", .str "call", .str "product", .str "drop"] ++ [.str "give", .str "hand", .str "set", .str "sum"]
theorem words_at {m : Int} (h0 : 0 ≤ m) (h1 : m < 16) : ∃ w : Str, atI wordsV m = some (.str w) ∧ (w = "set" ∨ w = "sum" ∨ w = "copy" ∨ w = "call" ∨ w = "if" ∨ w = "while" ∨ w = "less" ∨ w = "minus" ∨ w = "try" ∨ w = "product" ∨ w = "drop" ∨ w = "give" ∨ w = "hand") := by
 have hm : m = 0 ∨ m = 1 ∨ m = 2 ∨ m = 3 ∨ m = 4 ∨ m = 5 ∨ m = 6 ∨ m = 7 ∨ m = 8 ∨ m = 9 ∨ m = 10 ∨ m = 11 ∨ m = 12 ∨ m = 13 ∨ m = 14 ∨ m = 15 := by omega
 rcases hm with rfl | rfl | rfl | rfl | rfl | rfl | rfl | rfl | rfl | rfl | rfl | rfl | rfl | rfl | rfl | rfl
 · exact ⟨"set", rfl, by simp⟩
 · exact ⟨"sum", rfl, by simp⟩
 · exact ⟨"copy", rfl, by simp⟩
 · exact ⟨"call", rfl, by simp⟩
 · exact ⟨"if", rfl, by simp⟩
 · exact ⟨"while", rfl, by simp⟩
 · exact ⟨"less", rfl, by simp⟩
 · exact ⟨"minus", rfl, by simp⟩
 · exact ⟨"try", rfl, by simp⟩
 · exact ⟨"call", rfl, by simp⟩
 · exact ⟨"product", rfl, by simp⟩
 · exact ⟨"drop", rfl, by simp⟩
 · exact ⟨"give", rfl, by simp⟩
 · exact ⟨"hand", rfl, by simp⟩
 · exact ⟨"set", rfl, by simp⟩
 · exact ⟨"sum", rfl, by simp⟩
def KeepX (x : Addr) (H H' : Hp) : Prop := ∀ b o, H b = some o → b ≠ x → H' b = some o
theorem KeepX.refl {x : Addr} {H : Hp} : KeepX x H H := fun _ _ e _ => e
theorem KeepX.trans {x : Addr} {H H1 H2 : Hp} (h : KeepX x H H1) (k : KeepX x H1 H2) : KeepX x H H2 := fun b o e n => k b o (h b o e n) n
theorem KeepX.same {x : Addr} {H H1 H2 : Hp} (h : KeepX x H H1) (k : Same H1 H2) : KeepX x H H2 := fun b o e n => k b o (h b o e n)
theorem KeepX.of {x : Addr} {H H' : Hp} (h : Same H H') : KeepX x H H' := fun b o e _ => h b o e
def PNAMES : List Str := ["next_word", "take_row", "statements", "statement", "functions"]
structure PF (fs : List (Str × V)) (lr : Addr) (k : Int) : Prop where
 rows : fs.lookup ("rows" : Str) = some (.ref lr)
 mark : fs.lookup ("mark" : Str) = some (.int k)
 len : fs.length ≤ 9
 no : ∀ x : Str, x ∈ PNAMES → fs.lookup x = none
theorem PF.setMark {fs : List (Str × V)} {lr : Addr} {k : Int} (F : PF fs lr k) (n : Int) : PF (putF "mark" (.int n) fs) lr n :=
 ⟨look_of (by decide +kernel) F.rows, look_hit, by rw [putF_len F.mark]; exact F.len, fun x hx => look_no (fun e => by subst e; revert hx; decide +kernel) (F.no x hx)⟩
def RtAt (H : Hp) (p : Addr) (r : RD) : Prop := H p = some (.tup (.str r.1 :: r.2.map V.int))
def wordAt (rs : List RD) (k : Nat) : Str := match rs[k]? with
 | some r => r.1
 | none => ""
structure PRt (a : Adr) (H : Hp) (x dx lr : Addr) (fs : List (Str × V)) (k : Nat) (ps : List Addr) (rs : List RD) : Prop where
 obj : H x = some (.ins a.C_ProgramRows dx fs)
 pf : PF fs lr (k : Int)
 lst : H lr = some (.lst (ps.map V.ref))
 rows : Each (RtAt H) ps rs
 few : rs.length ≤ 300
theorem PRt.keep {a : Adr} {H H' : Hp} {x dx lr : Addr} {fs fs' : List (Str × V)} {k k' : Nat} {ps : List Addr} {rs : List RD} (h : PRt a H x dx lr fs k ps rs) (kp : KeepX x H H') (hx : H' x = some (.ins a.C_ProgramRows dx fs')) (F : PF fs' lr (k' : Int)) : PRt a H' x dx lr fs' k' ps rs :=
 ⟨hx, F, kp _ _ h.lst (fun z => by have := h.lst; rw [z, h.obj] at this; cases this), h.rows.mono fun p r e => kp _ _ e (fun z => by have e : H p = _ := e; rw [z, h.obj] at e; cases e), h.few⟩
theorem PRt.same {a : Adr} {H H' : Hp} {x dx lr : Addr} {fs : List (Str × V)} {k : Nat} {ps : List Addr} {rs : List RD} (h : PRt a H x dx lr fs k ps rs) (s : Same H H') : PRt a H' x dx lr fs k ps rs := h.keep (KeepX.of s) (s _ _ h.obj) h.pf
theorem PRt.at {a : Adr} {H : Hp} {x dx lr : Addr} {fs : List (Str × V)} {k : Nat} {ps : List Addr} {rs : List RD} (h : PRt a H x dx lr fs k ps rs) {j : Nat} {r : RD} (e : rs[j]? = some r) : ∃ p, ps[j]? = some p ∧ RtAt H p r := by
 have hj := (List.getElem?_eq_some_iff.mp e).1
 have hp : j < ps.length := by rw [h.rows.1]; exact hj
 exact ⟨ps[j], List.getElem?_eq_getElem hp, h.rows.2 j _ _ (List.getElem?_eq_getElem hp) e⟩
def nt (H H' : Hp) : Hp := fun b => match H b with
 | none => H' b
 | some (.tup xs) => some (.tup xs)
 | some _ => none
theorem nt_new {H H' : Hp} {b : Addr} {o : HO} (n : H b = none) (h : H' b = some o) : nt H H' b = some o := by unfold nt; rw [n]; exact h
theorem nt_tup {H H' : Hp} {b : Addr} {xs : List V} (n : H b = some (.tup xs)) : nt H H' b = some (.tup xs) := by unfold nt; rw [n]
theorem nt_of {H H' : Hp} {b : Addr} {o : HO} (h : nt H H' b = some o) : (H b = none ∧ H' b = some o) ∨ ∃ xs, H b = some (.tup xs) ∧ o = .tup xs := by
 unfold nt at h
 split at h
 · rename_i e; exact .inl ⟨e, h⟩
 · rename_i xs e; cases h; exact .inr ⟨xs, e, rfl⟩
 · cases h
theorem nt_sub {A B C D : Hp} (k1 : ∀ b o, B b = none → C b = some o → nt A D b = some o) (k2 : ∀ b xs, B b = some (.tup xs) → nt A D b = some (.tup xs)) : Same (nt B C) (nt A D) := fun b o h => by
 rcases nt_of h with ⟨h1, h2⟩ | ⟨xs, h1, rfl⟩
 · exact k1 b o h1 h2
 · exact k2 b xs h1
theorem KeepX.tup {x : Addr} {H H' : Hp} {C dx : Addr} {f0 : List (Str × V)} (k : KeepX x H H') (h0 : H x = some (.ins C dx f0)) : ∀ b xs, H b = some (.tup xs) → H' b = some (.tup xs) := fun b xs e => k b _ e (fun z => by rw [z, h0] at e; cases e)
def nsO (H : Hp) (q : Addr) (ns : List Int) : Prop := H q = some (.lst (ns.map V.int)) ∨ H q = some (.tup (ns.map V.int))
def spShRow : Sp := fun vs H Q _ => ∃ (w : Str) (q : Addr) (ns : List Int), vs = [.str w, .ref q] ∧ nsO H q ns ∧ RdOk (w, ns) ∧ ∀ H', Same H H' → Q (rowV (w, ns)) H'
def spShS (d : Nat) : Sp := fun vs H Q _ => ∃ (p : Addr) (s : Stm) (hd : List Int), vs = [.ref p] ∧ StAt H d p s ∧ OkS hd d s ∧ (∀ n ∈ hd, n ≤ 3) ∧ hd.length ≤ 8 ∧ cnt1 d s ≤ 80 ∧ ∀ l H', Same H H' → H l = none → H' l = some (.lst ((rowsS d s).map rowV)) → Q (.ref l) H'
def spShL (d : Nat) : Sp := fun vs H Q _ => ∃ (l0 : Addr) (ss : List Stm) (hd : List Int), vs = [.ref l0] ∧ BdAt (StAt H d) H l0 ss ∧ (∀ s ∈ ss, OkS hd d s) ∧ (∀ n ∈ hd, n ≤ 3) ∧ hd.length ≤ 8 ∧ cntL d ss ≤ 80 ∧ ∀ l H', Same H H' → H l = none → H' l = some (.lst ((rowsL d ss).map rowV)) → Q (.ref l) H'
def spShP : Sp := fun vs H Q _ => ∃ (pr : Addr) (fs : List (Int × List Stm)), vs = [.ref pr] ∧ ProgAt H pr fs ∧ ProgOk fs ∧ ∀ H', Same H H' → Q (.str (progT fs)) H'
def spHas : Sp := fun vs H Q _ => ∃ r : RD, vs = [.str r.1, .int (r.2.length : Int)] ∧ RdOk r ∧ Q (.bl true) H
def spRdW : Sp := fun vs H Q _ => ∃ r : RD, vs = [.str (rowX r)] ∧ RdOk r ∧ ∀ p H', Same H H' → H p = none → RtAt H' p r → Q (.ref p) H'
def Stm.flat : Stm → Prop
 | .ifS .. | .whileS .. | .tryS .. => False
 | _ => True
def spPlain : Sp := fun vs H Q _ => ∃ (p : Addr) (s : Stm) (d : Nat) (hd : List Int) (r : RD), vs = [.ref p] ∧ RtAt H p r ∧ rowsS (d + 1) s = [r] ∧ s.flat ∧ OkL hd (d + 1) s ∧ (∀ n ∈ hd, n ≤ 3) ∧ ∀ p' H', Same H H' → StAt (nt H H') (d + 1) p' s → Q (.ref p') H'
def spPRI (a : Adr) : Sp := fun vs H Q _ => ∃ (x dx lr : Addr), vs = [.ref x, .ref lr] ∧ H x = some (.ins a.C_ProgramRows dx []) ∧ ∀ fs H', KeepX x H H' → H' x = some (.ins a.C_ProgramRows dx fs) → PF fs lr ((0 : Nat) : Int) → Q .non H'
def spNext (a : Adr) : Sp := fun vs H Q _ => ∃ (x dx lr : Addr) (fs : List (Str × V)) (k : Nat) (ps : List Addr) (rs : List RD), vs = [.ref x] ∧ PRt a H x dx lr fs k ps rs ∧ Q (.str (wordAt rs k)) H
def spTake (a : Adr) : Sp := fun vs H Q _ => ∃ (x dx lr : Addr) (fs : List (Str × V)) (k : Nat) (ps : List Addr) (rs : List RD) (r : RD), vs = [.ref x, .str r.1] ∧ PRt a H x dx lr fs k ps rs ∧ rs[k]? = some r ∧
 ∀ p fs' H', ps[k]? = some p → KeepX x H H' → (∀ b, H b = none → H' b = none) → PRt a H' x dx lr fs' (k + 1) ps rs → RtAt H' p r → Q (.ref p) H'
def stopW : List Str := ["fun", "else", "landing", "end", ""]
def spPS (a : Adr) (d : Nat) : Sp := fun vs H Q _ => ∃ (x dx lr : Addr) (fs : List (Str × V)) (k : Nat) (ps : List Addr) (rs rest : List RD) (s : Stm) (hd : List Int), vs = [.ref x, .int (5 - (d : Int))] ∧ PRt a H x dx lr fs k ps rs ∧ rs.drop k = rowsS d s ++ rest ∧ OkL hd d s ∧ (∀ n ∈ hd, n ≤ 3) ∧ d ≤ 5 ∧
 ∀ p fs' H', KeepX x H H' → PRt a H' x dx lr fs' (k + (rowsS d s).length) ps rs → StAt (nt H H') d p s → Q (.ref p) H'
def spPL (a : Adr) (d : Nat) : Sp := fun vs H Q _ => ∃ (x dx lr : Addr) (fs : List (Str × V)) (k : Nat) (ps : List Addr) (rs rest : List RD) (ss : List Stm) (hd : List Int), vs = [.ref x, .int (5 - (d : Int))] ∧ PRt a H x dx lr fs k ps rs ∧ rs.drop k = rowsL d ss ++ rest ∧ wordAt rest 0 ∈ stopW ∧ (∀ s ∈ ss, OkL hd d s) ∧ (∀ n ∈ hd, n ≤ 3) ∧ d ≤ 5 ∧
 ∀ l qs fs' H', KeepX x H H' → H l = none → PRt a H' x dx lr fs' (k + (rowsL d ss).length) ps rs → H' l = some (.lst (qs.map V.ref)) → Each (StAt (nt (upd H l (.lst [])) H') d) qs ss → Q (.ref l) H'
def spPFn (a : Adr) : Sp := fun vs H Q _ => ∃ (x dx lr : Addr) (fs : List (Str × V)) (ps : List Addr) (fns : List (Int × List Stm)), vs = [.ref x] ∧ PRt a H x dx lr fs 0 ps (rowsP fns) ∧ ProgOk fns ∧ (∀ f ∈ fns, ∀ s ∈ f.2, OkL (fns.map (·.1)) 5 s) ∧
 ∀ l H', KeepX x H H' → H l = none → ProgAt H' l fns → Q (.ref l) H'
def spRdP : Sp := fun vs H Q _ => ∃ fs : List (Int × List Stm), vs = [.str (progT fs)] ∧ ProgOk fs ∧ (∀ f ∈ fs, ∀ s ∈ f.2, OkL (fs.map (·.1)) 5 s) ∧ ∀ l H', Same H H' → H l = none → ProgAt H' l fs → Q (.ref l) H'
def spAskT : Sp := fun vs H Q _ => ∃ x : Str, vs = [.str x] ∧ Q .non H
def spWords : Sp := fun vs H Q _ => ∃ (w : Str) (q : Addr) (ns : List Int), vs = [.str w, .ref q] ∧ nsO H q ns ∧ RdOk (w, ns) ∧ ∀ H', Same H H' → Q (rowV (w, ns)) H'
def spLR (d : Nat) : Sp := fun vs H Q _ => ∃ (l0 : Addr) (ss : List Stm) (hd : List Int), vs = [.ref l0] ∧ 0 < d ∧ BdAt (StAt H d) H l0 ss ∧ (∀ s ∈ ss, OkL hd d s) ∧ (∀ n ∈ hd, n ≤ 3) ∧ hd.length ≤ 8 ∧ cntL d ss ≤ 80 ∧ ∀ l H', Same H H' → H l = none → H' l = some (.lst ((rowsL d ss).map rowV)) → Q (.ref l) H'
def spTup (d : Nat) : Sp := fun vs H Q _ => ∃ (l0 : Addr) (ss : List Stm) (hd : List Int), vs = [.ref l0] ∧ 0 < d ∧ BdAt (StAt H d) H l0 ss ∧ (∀ s ∈ ss, OkL hd d s) ∧ cntL d ss ≤ 80 ∧ (∀ n ∈ hd, n ≤ 3) ∧ ∀ l H', Same H H' → H l = none → BdAt (StAt (nw H H') d) (nw H H') l (ss.map (tupS d)) → Q (.ref l) H'
theorem str_len (a b : PySem.Str) : (a ++ b).length = a.length + b.length := by
 have := congrArg List.length (str_app a b)
 rw [List.length_append] at this
 simpa [PySem.Str.length] using this
theorem RdOk.pre {w : Str} {ns : List Int} (h : RdOk (w, ns)) (i : Nat) : (rowX (w, ns.take i)).length ≤ 88 := by
 unfold rowX
 refine join_le (L := 10) (N := 8) (fun t ht => ?_) ?_
 · rcases List.mem_cons.mp ht with hh | ht
   · have := (wordsP_free _ h.wd).2.2
     rw [hh]
     exact Nat.le_trans this (by decide)
   · obtain ⟨n, hn, rfl⟩ := List.mem_map.mp ht
     have := h.num n (List.mem_of_mem_take hn)
     exact numS_len this.1 this.2
 · have := h.few
   have e : ns.length ≤ 7 := this
   rw [List.length_cons, List.length_map, List.length_take]; omega
structure PdOk (D : PyData) (dep w : Nat) : Prop where
 sh : D.showable = true
 nd : D.hasDict = false
 lv : D.leavesShort 13 = true
 cl : D.canLay0 = true
 dp : D.depth ≤ dep
 wt : D.weight ≤ w
structure PdAll (Ds : List PyData) (dep w : Nat) : Prop where
 sh : PyData.showableAll Ds = true
 nd : PyData.hasDictAll Ds = false
 lv : PyData.leavesShortAll 13 Ds = true
 cl : PyData.canLayAll0 Ds = true
 dp : PyData.depthAll Ds ≤ dep
 wt : PyData.weightAll Ds ≤ w
theorem PdOk.le {D : PyData} {dep w dep' w' : Nat} (h : PdOk D dep w) (h1 : dep ≤ dep') (h2 : w ≤ w') : PdOk D dep' w' := ⟨h.sh, h.nd, h.lv, h.cl, Nat.le_trans h.dp h1, Nat.le_trans h.wt h2⟩
theorem PdAll.le {Ds : List PyData} {dep w dep' w' : Nat} (h : PdAll Ds dep w) (h1 : dep ≤ dep') (h2 : w ≤ w') : PdAll Ds dep' w' := ⟨h.sh, h.nd, h.lv, h.cl, Nat.le_trans h.dp h1, Nat.le_trans h.wt h2⟩
theorem PdAll.nil {dep w : Nat} : PdAll [] dep w := ⟨by simp only [PyData.showableAll], by simp only [PyData.hasDictAll], by simp only [PyData.leavesShortAll], by simp only [PyData.canLayAll0], by simp only [PyData.depthAll]; exact Nat.zero_le _, by simp only [PyData.weightAll]; exact Nat.zero_le _⟩
theorem PdAll.cons {D : PyData} {Ds : List PyData} {dep w w' : Nat} (h : PdOk D dep w) (k : PdAll Ds dep w') : PdAll (D :: Ds) dep (w + 1 + w') :=
 ⟨by simp only [PyData.showableAll, h.sh, k.sh, Bool.and_self], by simp only [PyData.hasDictAll, h.nd, k.nd, Bool.or_self], by simp only [PyData.leavesShortAll, h.lv, k.lv, Bool.and_self], by simp only [PyData.canLayAll0, h.cl, k.cl, Bool.and_self], by simp only [PyData.depthAll]; exact Nat.max_le.mpr ⟨h.dp, k.dp⟩, by simp only [PyData.weightAll]; have := h.wt; have := k.wt; omega⟩
theorem PdOk.lst {Ds : List PyData} {dep w : Nat} (h : PdAll Ds dep w) : PdOk (.list Ds) (dep + 1) w := ⟨by simp only [PyData.showable]; exact h.sh, by simp only [PyData.hasDict]; exact h.nd, by simp only [PyData.leavesShort]; exact h.lv, by simp only [PyData.canLay0]; exact h.cl, by simp only [PyData.depth]; have := h.dp; omega, by simp only [PyData.weight]; exact h.wt⟩
theorem PdOk.tup {Ds : List PyData} {dep w : Nat} (h : PdAll Ds dep w) : PdOk (.tuple Ds) (dep + 1) w := ⟨by simp only [PyData.showable]; exact h.sh, by simp only [PyData.hasDict]; exact h.nd, by simp only [PyData.leavesShort]; exact h.lv, by simp only [PyData.canLay0]; exact h.cl, by simp only [PyData.depth]; have := h.dp; omega, by simp only [PyData.weight]; exact h.wt⟩
theorem pd_int {i : Int} {dep : Nat} (h0 : 0 ≤ i) (h : i ≤ 4294967295) : PdOk (.int i) dep 33 := by
 have hn : i.natAbs < 2 ^ 32 := by have : (2 : Nat) ^ 32 = 4294967296 := by decide
                                   omega
 have hlg : i.natAbs.log2 ≤ 31 := by
   by_cases hz : i.natAbs = 0
   · rw [hz]; decide
   · have := (Nat.log2_lt hz).mpr hn; omega
 refine ⟨by simp only [PyData.showable]; exact decide_eq_true (by omega), by simp only [PyData.hasDict], by simp only [PyData.leavesShort]; exact decide_eq_true (PyData.shown_int_le (Nat.lt_of_lt_of_le hn (by decide))), by simp only [PyData.canLay0], by simp only [PyData.depth]; exact Nat.zero_le _, ?_⟩
 simp only [PyData.weight]
 split <;> omega
theorem pd_set {dep : Nat} : PdOk (.str "set") dep 10 := ⟨by simp only [PyData.showable], by simp only [PyData.hasDict], by decide +kernel, by decide +kernel, by simp only [PyData.depth]; exact Nat.zero_le _, by decide +kernel⟩
theorem pd_copy {dep : Nat} : PdOk (.str "copy") dep 10 := ⟨by simp only [PyData.showable], by simp only [PyData.hasDict], by decide +kernel, by decide +kernel, by simp only [PyData.depth]; exact Nat.zero_le _, by decide +kernel⟩
theorem pd_sum {dep : Nat} : PdOk (.str "sum") dep 10 := ⟨by simp only [PyData.showable], by simp only [PyData.hasDict], by decide +kernel, by decide +kernel, by simp only [PyData.depth]; exact Nat.zero_le _, by decide +kernel⟩
theorem pd_minus {dep : Nat} : PdOk (.str "minus") dep 10 := ⟨by simp only [PyData.showable], by simp only [PyData.hasDict], by decide +kernel, by decide +kernel, by simp only [PyData.depth]; exact Nat.zero_le _, by decide +kernel⟩
theorem pd_product {dep : Nat} : PdOk (.str "product") dep 10 := ⟨by simp only [PyData.showable], by simp only [PyData.hasDict], by decide +kernel, by decide +kernel, by simp only [PyData.depth]; exact Nat.zero_le _, by decide +kernel⟩
theorem pd_less {dep : Nat} : PdOk (.str "less") dep 10 := ⟨by simp only [PyData.showable], by simp only [PyData.hasDict], by decide +kernel, by decide +kernel, by simp only [PyData.depth]; exact Nat.zero_le _, by decide +kernel⟩
theorem pd_give {dep : Nat} : PdOk (.str "give") dep 10 := ⟨by simp only [PyData.showable], by simp only [PyData.hasDict], by decide +kernel, by decide +kernel, by simp only [PyData.depth]; exact Nat.zero_le _, by decide +kernel⟩
theorem pd_call {dep : Nat} : PdOk (.str "call") dep 10 := ⟨by simp only [PyData.showable], by simp only [PyData.hasDict], by decide +kernel, by decide +kernel, by simp only [PyData.depth]; exact Nat.zero_le _, by decide +kernel⟩
theorem pd_hand {dep : Nat} : PdOk (.str "hand") dep 10 := ⟨by simp only [PyData.showable], by simp only [PyData.hasDict], by decide +kernel, by decide +kernel, by simp only [PyData.depth]; exact Nat.zero_le _, by decide +kernel⟩
theorem pd_drop {dep : Nat} : PdOk (.str "drop") dep 10 := ⟨by simp only [PyData.showable], by simp only [PyData.hasDict], by decide +kernel, by decide +kernel, by simp only [PyData.depth]; exact Nat.zero_le _, by decide +kernel⟩
theorem pd_if {dep : Nat} : PdOk (.str "if") dep 10 := ⟨by simp only [PyData.showable], by simp only [PyData.hasDict], by decide +kernel, by decide +kernel, by simp only [PyData.depth]; exact Nat.zero_le _, by decide +kernel⟩
theorem pd_while {dep : Nat} : PdOk (.str "while") dep 10 := ⟨by simp only [PyData.showable], by simp only [PyData.hasDict], by decide +kernel, by decide +kernel, by simp only [PyData.depth]; exact Nat.zero_le _, by decide +kernel⟩
theorem pd_try {dep : Nat} : PdOk (.str "try") dep 10 := ⟨by simp only [PyData.showable], by simp only [PyData.hasDict], by decide +kernel, by decide +kernel, by simp only [PyData.depth]; exact Nat.zero_le _, by decide +kernel⟩
def pdNms (ns : List Int) (l : Bool) : PyData := if l = true then .list (ns.map .int) else .tuple (ns.map .int)
def pdSm : Sm → List PyData
 | .set x v => [.str "set", .int x, .int v]
 | .copy x y => [.str "copy", .int x, .int y]
 | .sum x y z => [.str "sum", .int x, .int y, .int z]
 | .minus x y z => [.str "minus", .int x, .int y, .int z]
 | .product x y z => [.str "product", .int x, .int y, .int z]
 | .less x y z => [.str "less", .int x, .int y, .int z]
 | .give x => [.str "give", .int x]
 | .leave x => [.str "leave", .int x]
def pdS : Nat → Stm → PyData
 | 0, _ => .none
 | d + 1, s => match s with
   | .pl s => .tuple (pdSm s)
   | .call x f ns l => .tuple [.str "call", .int x, .int f, pdNms ns l]
   | .hand f ns l => .tuple [.str "hand", .int f, pdNms ns l]
   | .drop x => .tuple [.str "drop", .int x]
   | .ifS x a b => .tuple [.str "if", .int x, .list (a.map (pdS d)), .list (b.map (pdS d))]
   | .whileS x a => .tuple [.str "while", .int x, .list (a.map (pdS d))]
   | .tryS a x b => .tuple [.str "try", .list (a.map (pdS d)), .int x, .list (b.map (pdS d))]
def pdF (f : Int × List Stm) : PyData := .tuple [.int f.1, .list (f.2.map (pdS 5))]
def pdP (fs : List (Int × List Stm)) : PyData := .list (fs.map pdF)
section
variable {K : PySem.W.Frag} {H : Hp}
theorem dpAll_each {α : Type} {g : α → PyData} {R : Addr → α → Prop} (hR : ∀ p s, R p s → Dp K H (g s) (.ref p)) : ∀ {ps : List Addr} {ss : List α}, Each R ps ss → DpAll K H (ss.map g) (ps.map V.ref)
 | [], [], _ => dpAll_nil
 | [], s :: r, h => by have := h.1; cases this
 | p :: ps, [], h => by have := h.1; cases this
 | p :: ps, s :: r, h => dpAll_cons (hR p s (h.2 0 p s rfl rfl)) (dpAll_each hR (ps := ps) (ss := r) ⟨by have := h.1; simpa using this, fun i q x e1 e2 => h.2 (i + 1) q x e1 e2⟩)
theorem dpAll_ints : ∀ ns : List Int, DpAll K H (ns.map .int) (ns.map V.int)
 | [] => dpAll_nil
 | n :: r => dpAll_cons (dp_int n) (dpAll_ints r)
theorem dp_nms {q : Addr} {ns : List Int} {l : Bool} (h : H q = some (nmO ns l)) : Dp K H (pdNms ns l) (.ref q) := by
 cases l with
 | true => exact dp_lst (SqL.of h) (dpAll_ints ns)
 | false => exact dp_tup (SqT.of h) (dpAll_ints ns)
theorem dp_stm : ∀ (d : Nat) {p : Addr} {s : Stm}, StAt H d p s → Dp K H (pdS d s) (.ref p)
 | 0, p, s, h => h.elim
 | d + 1, p, s, h => by
   have bd : ∀ {l : Addr} {b : List Stm}, BdAt (StAt H d) H l b → Dp K H (.list (b.map (pdS d))) (.ref l) := fun {l b} ⟨ps, e, he⟩ => dp_lst (SqL.of e) (dpAll_each (fun p s h => dp_stm d h) he)
   cases s with
   | pl s =>
     cases s with
     | set x v => exact dp_tup (SqT.of h) (dpAll_cons (dp_str _) (dpAll_cons (dp_int _) (dpAll_cons (dp_int _) dpAll_nil)))
     | copy x v => exact dp_tup (SqT.of h) (dpAll_cons (dp_str _) (dpAll_cons (dp_int _) (dpAll_cons (dp_int _) dpAll_nil)))
     | give x => exact dp_tup (SqT.of h) (dpAll_cons (dp_str _) (dpAll_cons (dp_int _) dpAll_nil))
     | leave x => exact dp_tup (SqT.of h) (dpAll_cons (dp_str _) (dpAll_cons (dp_int _) dpAll_nil))
     | _ => exact dp_tup (SqT.of h) (dpAll_cons (dp_str _) (dpAll_cons (dp_int _) (dpAll_cons (dp_int _) (dpAll_cons (dp_int _) dpAll_nil))))
   | call x f ns l => obtain ⟨q, h1, h2⟩ := h; exact dp_tup (SqT.of h1) (dpAll_cons (dp_str _) (dpAll_cons (dp_int _) (dpAll_cons (dp_int _) (dpAll_cons (dp_nms h2) dpAll_nil))))
   | hand f ns l => obtain ⟨q, h1, h2⟩ := h; exact dp_tup (SqT.of h1) (dpAll_cons (dp_str _) (dpAll_cons (dp_int _) (dpAll_cons (dp_nms h2) dpAll_nil)))
   | drop x => exact dp_tup (SqT.of h) (dpAll_cons (dp_str _) (dpAll_cons (dp_int _) dpAll_nil))
   | ifS x a b => obtain ⟨la, lb, h1, h2, h3⟩ := h; exact dp_tup (SqT.of h1) (dpAll_cons (dp_str _) (dpAll_cons (dp_int _) (dpAll_cons (bd h2) (dpAll_cons (bd h3) dpAll_nil))))
   | whileS x a => obtain ⟨la, h1, h2⟩ := h; exact dp_tup (SqT.of h1) (dpAll_cons (dp_str _) (dpAll_cons (dp_int _) (dpAll_cons (bd h2) dpAll_nil)))
   | tryS a x b => obtain ⟨la, lb, h1, h2, h3⟩ := h; exact dp_tup (SqT.of h1) (dpAll_cons (dp_str _) (dpAll_cons (bd h2) (dpAll_cons (dp_int _) (dpAll_cons (bd h3) dpAll_nil))))
theorem dp_body {l : Addr} {ss : List Stm} (h : BdAt (StAt H 5) H l ss) : Dp K H (.list (ss.map (pdS 5))) (.ref l) := let ⟨_, e, he⟩ := h; dp_lst (SqL.of e) (dpAll_each (fun p s h => dp_stm 5 h) he)
theorem dp_prog {pr : Addr} {fs : List (Int × List Stm)} (h : ProgAt H pr fs) : Dp K H (pdP fs) (.ref pr) := by
 obtain ⟨ps, e, he⟩ := h
 exact dp_lst (SqL.of e) (dpAll_each (fun p f ⟨l, h1, h2⟩ => dp_tup (SqT.of h1) (dpAll_cons (dp_int _) (dpAll_cons (dp_body h2) dpAll_nil))) he)
end
theorem pd_isN {x : Int} {dep : Nat} (h : isN x) : PdOk (.int x) dep 33 := pd_int h.1 (by have := h.2; omega)
theorem pd_ints {dep : Nat} : ∀ {ns : List Int}, (∀ n ∈ ns, isN n) → PdAll (ns.map .int) dep (34 * ns.length)
 | [], _ => PdAll.nil
 | n :: r, h => (PdAll.cons (pd_isN (h n (List.mem_cons_self ..))) (pd_ints (ns := r) fun m hm => h m (List.mem_cons_of_mem _ hm))).le (Nat.le_refl _) (by rw [List.length_cons]; omega)
theorem pd_nms {ns : List Int} {l : Bool} (h : ∀ n ∈ ns, isN n) (h3 : ns.length ≤ 3) : PdOk (pdNms ns l) 1 102 := by
 cases l with
 | true => exact (PdOk.lst (dep := 0) (pd_ints h)).le (Nat.le_refl _) (by omega)
 | false => exact (PdOk.tup (dep := 0) (pd_ints h)).le (Nat.le_refl _) (by omega)
theorem pd_list {d : Nat} {c : Nat} : ∀ {ss : List Stm}, (∀ s ∈ ss, PdOk (pdS d s) (2 * d) (c * cnt1 d s)) → PdAll (ss.map (pdS d)) (2 * d) ((c + 1) * cntL d ss)
 | [], _ => PdAll.nil
 | s :: r, h => (PdAll.cons (h s (List.mem_cons_self ..)) (pd_list (ss := r) fun t ht => h t (List.mem_cons_of_mem _ ht))).le (Nat.le_refl _) (by
     have := cnt1_pos d s
     rw [cntL_cons, Nat.mul_add, Nat.add_mul c 1 (cnt1 d s)]
     omega)
theorem pd_stm {hd : List Int} (h3 : ∀ n ∈ hd, n ≤ 3) (h8 : hd.length ≤ 8) : ∀ (d : Nat) {s : Stm}, OkS hd d s → PdOk (pdS d s) (2 * d) ((200 + d) * cnt1 d s)
 | 0, s, ok => ok.elim
 | d + 1, s, ok => by
   have fi : ∀ {f : Int} {n : Int} {dep : Nat}, 0 ≤ f → hd[f.toNat]? = some n → PdOk (.int f) dep 33 := fun h0 h => pd_int h0 (by have := (List.getElem?_eq_some_iff.mp h).1; omega)
   have l3 : ∀ {f : Int} {ns : List Int}, hd[f.toNat]? = some (ns.length : Int) → ns.length ≤ 3 := fun h => by have := h3 _ (List.mem_of_getElem? h); omega
   have bd : ∀ {b : List Stm}, (∀ s ∈ b, OkS hd d s) → PdOk (.list (b.map (pdS d))) (2 * d + 1) ((200 + d + 1) * cntL d b) := fun hb => PdOk.lst (pd_list fun s hs => pd_stm h3 h8 d (hb s hs))
   have up : ∀ {D : PyData} {w : Nat}, PdOk D (2 * d + 1 + 1) w → PdOk D (2 * (d + 1)) w := fun h => h.le (by omega) (Nat.le_refl _)
   cases s with
   | pl s =>
     have one : ∀ w, w ≤ 200 → w ≤ (200 + (d + 1)) * cnt1 (d + 1) (.pl s) := fun w hw => by show w ≤ (200 + (d + 1)) * 1; omega
     cases s with
     | set x v => exact up ((PdOk.tup (PdAll.cons pd_set (PdAll.cons (pd_isN ok.1) (PdAll.cons (pd_int ok.2.1 ok.2.2) PdAll.nil)))).le (Nat.le_refl _) (one (10 + 1 + (33 + 1 + (33 + 1 + 0))) (by omega)))
     | copy x y => exact up ((PdOk.tup (PdAll.cons pd_copy (PdAll.cons (pd_isN ok.1) (PdAll.cons (pd_isN ok.2) PdAll.nil)))).le (Nat.le_refl _) (one (10 + 1 + (33 + 1 + (33 + 1 + 0))) (by omega)))
     | sum x y z => exact up ((PdOk.tup (PdAll.cons pd_sum (PdAll.cons (pd_isN ok.1) (PdAll.cons (pd_isN ok.2.1) (PdAll.cons (pd_isN ok.2.2) PdAll.nil))))).le (Nat.le_refl _) (one (10 + 1 + (33 + 1 + (33 + 1 + (33 + 1 + 0)))) (by omega)))
     | minus x y z => exact up ((PdOk.tup (PdAll.cons pd_minus (PdAll.cons (pd_isN ok.1) (PdAll.cons (pd_isN ok.2.1) (PdAll.cons (pd_isN ok.2.2) PdAll.nil))))).le (Nat.le_refl _) (one (10 + 1 + (33 + 1 + (33 + 1 + (33 + 1 + 0)))) (by omega)))
     | product x y z => exact up ((PdOk.tup (PdAll.cons pd_product (PdAll.cons (pd_isN ok.1) (PdAll.cons (pd_isN ok.2.1) (PdAll.cons (pd_isN ok.2.2) PdAll.nil))))).le (Nat.le_refl _) (one (10 + 1 + (33 + 1 + (33 + 1 + (33 + 1 + 0)))) (by omega)))
     | less x y z => exact up ((PdOk.tup (PdAll.cons pd_less (PdAll.cons (pd_isN ok.1) (PdAll.cons (pd_isN ok.2.1) (PdAll.cons (pd_isN ok.2.2) PdAll.nil))))).le (Nat.le_refl _) (one (10 + 1 + (33 + 1 + (33 + 1 + (33 + 1 + 0)))) (by omega)))
     | give x => exact up ((PdOk.tup (PdAll.cons pd_give (PdAll.cons (pd_isN ok) PdAll.nil))).le (Nat.le_refl _) (one (10 + 1 + (33 + 1 + 0)) (by omega)))
     | leave x => exact ok.elim
   | drop x => exact up ((PdOk.tup (PdAll.cons pd_drop (PdAll.cons (pd_isN ok) PdAll.nil))).le (Nat.le_refl _) (by show 10 + 1 + (33 + 1 + 0) ≤ (200 + (d + 1)) * 1; omega))
   | call x f ns l => exact up ((PdOk.tup (dep := 2 * d + 1) (PdAll.cons pd_call (PdAll.cons (pd_isN ok.1) (PdAll.cons (fi ok.2.1 ok.2.2.2) (PdAll.cons ((pd_nms ok.2.2.1 (l3 ok.2.2.2)).le (by omega) (Nat.le_refl _)) PdAll.nil))))).le (Nat.le_refl _) (by show 10 + 1 + (33 + 1 + (33 + 1 + (102 + 1 + 0))) ≤ (200 + (d + 1)) * 1; omega))
   | hand f ns l => exact up ((PdOk.tup (dep := 2 * d + 1) (PdAll.cons pd_hand (PdAll.cons (fi ok.1 ok.2.2) (PdAll.cons ((pd_nms ok.2.1 (l3 ok.2.2)).le (by omega) (Nat.le_refl _)) PdAll.nil)))).le (Nat.le_refl _) (by show 10 + 1 + (33 + 1 + (102 + 1 + 0)) ≤ (200 + (d + 1)) * 1; omega))
   | ifS x a b => exact up ((PdOk.tup (PdAll.cons pd_if (PdAll.cons (pd_isN ok.1) (PdAll.cons (bd ok.2.2.1) (PdAll.cons (bd ok.2.2.2) PdAll.nil))))).le (Nat.le_refl _) (by show 10 + 1 + (33 + 1 + ((200 + d + 1) * cntL d a + 1 + ((200 + d + 1) * cntL d b + 1 + 0))) ≤ (200 + (d + 1)) * (1 + cntL d a + cntL d b); rw [Nat.mul_add, Nat.mul_add, Nat.add_assoc 200 d 1]; omega))
   | whileS x a => exact up ((PdOk.tup (PdAll.cons pd_while (PdAll.cons (pd_isN ok.1) (PdAll.cons (bd ok.2.2) PdAll.nil)))).le (Nat.le_refl _) (by show 10 + 1 + (33 + 1 + ((200 + d + 1) * cntL d a + 1 + 0)) ≤ (200 + (d + 1)) * (1 + cntL d a); rw [Nat.mul_add, Nat.add_assoc 200 d 1]; omega))
   | tryS a x b => exact up ((PdOk.tup (PdAll.cons pd_try (PdAll.cons (bd ok.2.2.1) (PdAll.cons (pd_isN ok.1) (PdAll.cons (bd ok.2.2.2) PdAll.nil))))).le (Nat.le_refl _) (by show 10 + 1 + ((200 + d + 1) * cntL d a + 1 + (33 + 1 + ((200 + d + 1) * cntL d b + 1 + 0))) ≤ (200 + (d + 1)) * (1 + cntL d a + cntL d b); rw [Nat.mul_add, Nat.mul_add, Nat.add_assoc 200 d 1]; omega))
theorem pd_body {fs : List (Int × List Stm)} (O : ProgOk fs) {f : Int × List Stm} (hf : f ∈ fs) : PdOk (.list (f.2.map (pdS 5))) 11 (206 * cntL 5 f.2) := PdOk.lst (pd_list fun s hs => pd_stm (fun n hn => by obtain ⟨g, hg, rfl⟩ := List.mem_map.mp hn; exact (O.hd g hg).2) (by rw [List.length_map]; exact O.few) 5 (O.ok f hf s hs))
theorem pd_fs {fs : List (Int × List Stm)} (O : ProgOk fs) : ∀ {gs : List (Int × List Stm)}, (∀ g ∈ gs, g ∈ fs) → PdAll (gs.map pdF) 12 (40 * gs.length + 206 * (gs.map fun f => cntL 5 f.2).sum)
 | [], _ => PdAll.nil
 | g :: r, h => by
   have hg := h g (List.mem_cons_self ..)
   have h1 := O.hd g hg
   refine (PdAll.cons (PdOk.tup (dep := 11) (PdAll.cons (pd_int h1.1 (by omega)) (PdAll.cons (pd_body O hg) (PdAll.nil (w := 0))))) (pd_fs O (gs := r) fun x hx => h x (List.mem_cons_of_mem _ hx))).le (Nat.le_refl _) ?_
   rw [List.map_cons, List.sum_cons, List.length_cons, Nat.mul_add 206]; omega
theorem pd_prog {fs : List (Int × List Stm)} (O : ProgOk fs) : PdOk (pdP fs) 13 (2 ^ 20) := by
 have h8 := O.few
 have hc := O.cnt
 have e : (2 : Nat) ^ 20 = 1048576 := by decide
 exact (PdOk.lst (pd_fs O fun g h => h)).le (Nat.le_refl _) (by rw [e]; omega)
theorem PdOk.fits {D : PyData} {dep : Nat} (h : PdOk D dep (2 ^ 20)) : D.shown.length ≤ sizeLine := PyData.shown_fits (B := 13) (by decide) (by decide) h.lv h.wt
theorem rows_if {d : Nat} {x : Int} {a b : List Stm} : (rowsS (d + 1) (.ifS x a b)).map rowV = [rowV ("if", [x])] ++ (rowsL d a).map rowV ++ [V.str "else"] ++ (rowsL d b).map rowV ++ [V.str "end"] := by
 show (rd "if" [x] :: (rowsL d a ++ rd "else" [] :: (rowsL d b ++ [rd "end" []]))).map rowV = _
 have e1 : rowV (rd "else" []) = V.str "else" := congrArg V.str (rowX_nil _)
 have e2 : rowV (rd "end" []) = V.str "end" := congrArg V.str (rowX_nil _)
 simp only [List.map_cons, List.map_append, List.map_nil, e1, e2, List.append_assoc, List.cons_append, List.nil_append]
theorem rows_while {d : Nat} {x : Int} {a : List Stm} : (rowsS (d + 1) (.whileS x a)).map rowV = [rowV ("while", [x])] ++ (rowsL d a).map rowV ++ [V.str "end"] := by
 show (rd "while" [x] :: (rowsL d a ++ [rd "end" []])).map rowV = _
 have e2 : rowV (rd "end" []) = V.str "end" := congrArg V.str (rowX_nil _)
 simp only [List.map_cons, List.map_append, List.map_nil, e2, List.append_assoc, List.cons_append, List.nil_append]
theorem rows_try {d : Nat} {x : Int} {a b : List Stm} : (rowsS (d + 1) (.tryS a x b)).map rowV = [V.str "try"] ++ (rowsL d a).map rowV ++ [rowV ("landing", [x])] ++ (rowsL d b).map rowV ++ [V.str "end"] := by
 show (rd "try" [] :: (rowsL d a ++ rd "landing" [x] :: (rowsL d b ++ [rd "end" []]))).map rowV = _
 have e1 : rowV (rd "try" []) = V.str "try" := congrArg V.str (rowX_nil _)
 have e2 : rowV (rd "end" []) = V.str "end" := congrArg V.str (rowX_nil _)
 simp only [List.map_cons, List.map_append, List.map_nil, e1, e2, List.append_assoc, List.cons_append, List.nil_append]
theorem t_if (x : Int) : ("if " : Str) ++ numS x = rowX ("if", [x]) := by rw [rowX_one]; rfl
theorem t_while (x : Int) : ("while " : Str) ++ numS x = rowX ("while", [x]) := by rw [rowX_one]; rfl
theorem t_landing (x : Int) : ("landing " : Str) ++ numS x = rowX ("landing", [x]) := by rw [rowX_one]; rfl
theorem t_fun (x : Int) : ("fun " : Str) ++ numS x = rowX ("fun", [x]) := by rw [rowX_one]; rfl
theorem nwB_step {B C D : Hp} {lp : Addr} (hB : B lp ≠ none) (k : ∀ b o, C b = some o → b ≠ lp → D b = some o) : Same (nw B C) (nw B D) := nw_sub fun b o k1 k2 => ⟨k1, k b o k2 (fun z => hB (by rw [← z]; exact k1))⟩
theorem keep_none {l : Addr} {H H' : Hp} {o o' : HO} (k : KeepX l H H') (hl : H l = some o) (hl' : H' l = some o') {b : Addr} (h : H' b = none) : H b = none := by
 cases e : H b with
 | none => rfl
 | some x =>
   by_cases z : b = l
   · rw [z, hl'] at h; cases h
   · rw [k b x e z] at h; cases h
theorem PRt.mark {a : Adr} {H : Hp} {x dx lr : Addr} {fs : List (Str × V)} {k k' : Nat} {ps : List Addr} {rs : List RD} (h : PRt a H x dx lr fs k ps rs) (e : k = k') : PRt a H x dx lr fs k' ps rs := e ▸ h
theorem drop_cons {α : Type} {rs : List α} {k : Nat} {r : α} {t : List α} (h : rs.drop k = r :: t) : rs[k]? = some r ∧ rs.drop (k + 1) = t := by
 have h1 : (rs.drop k)[0]? = some r := by rw [h]; rfl
 rw [List.getElem?_drop] at h1
 refine ⟨h1, ?_⟩
 have h2 := congrArg (List.drop 1) h
 rw [List.drop_drop] at h2
 exact h2
theorem drop_app {α : Type} {rs : List α} {k : Nat} {A B : List α} (h : rs.drop k = A ++ B) : rs.drop (k + A.length) = B := by
 rw [← List.drop_drop, h, List.drop_left]
theorem word_drop {rs : List RD} {k : Nat} {B : List RD} (h : rs.drop k = B) : wordAt rs k = wordAt B 0 := by
 unfold wordAt
 rw [← h, List.getElem?_drop]; rfl
theorem inV_strs (w : Str) : ∀ ts : List Str, inV (.str w) (ts.map V.str) = decide (w ∈ ts)
 | [] => rfl
 | t :: r => by
   have e : eqV (.str t) (.str w) = decide (t = w) := rfl
   have ih := inV_strs w r
   unfold inV at ih ⊢
   rw [List.map_cons, List.any_cons, ih, e]
   by_cases h : t = w
   · subst h; simp
   · have h2 : ¬ w = t := fun z => h z.symm
     simp [h, h2]
theorem inV_stop (w : Str) : inV (.str w) [.str "fun", .str "else", .str "landing", .str "end", .str ""] = decide (w ∈ stopW) := inV_strs w stopW
theorem first_row {hd : List Int} : ∀ {d : Nat} {s : Stm}, OkL hd d s → ∃ r t, rowsS d s = r :: t ∧ r.1 ∉ stopW
 | 0, _, h => h.elim
 | d + 1, s, h => by
   cases s with
   | pl s =>
     cases s with
     | leave x => exact h.elim
     | set => exact ⟨_, [], rfl, show ("set" : Str) ∉ stopW by decide +kernel⟩
     | copy => exact ⟨_, [], rfl, show ("copy" : Str) ∉ stopW by decide +kernel⟩
     | sum => exact ⟨_, [], rfl, show ("sum" : Str) ∉ stopW by decide +kernel⟩
     | minus => exact ⟨_, [], rfl, show ("minus" : Str) ∉ stopW by decide +kernel⟩
     | product => exact ⟨_, [], rfl, show ("product" : Str) ∉ stopW by decide +kernel⟩
     | less => exact ⟨_, [], rfl, show ("less" : Str) ∉ stopW by decide +kernel⟩
     | give => exact ⟨_, [], rfl, show ("give" : Str) ∉ stopW by decide +kernel⟩
   | call => exact ⟨_, [], rfl, show ("call" : Str) ∉ stopW by decide +kernel⟩
   | hand => exact ⟨_, [], rfl, show ("hand" : Str) ∉ stopW by decide +kernel⟩
   | drop => exact ⟨_, [], rfl, show ("drop" : Str) ∉ stopW by decide +kernel⟩
   | ifS => exact ⟨_, _, rfl, show ("if" : Str) ∉ stopW by decide +kernel⟩
   | whileS => exact ⟨_, _, rfl, show ("while" : Str) ∉ stopW by decide +kernel⟩
   | tryS => exact ⟨_, _, rfl, show ("try" : Str) ∉ stopW by decide +kernel⟩
theorem rowsL_long {hd : List Int} {d : Nat} {ss : List Stm} (h : ∀ s ∈ ss, OkL hd d s) {i : Nat} : (ss.take i).length ≤ (rowsL d (ss.take i)).length := by
 have : ∀ ts : List Stm, (∀ s ∈ ts, OkL hd d s) → ts.length ≤ (rowsL d ts).length := by
   intro ts
   induction ts with
   | nil => exact fun _ => Nat.zero_le _
   | cons s r ih =>
     intro h
     obtain ⟨r0, t0, e, _⟩ := first_row (h s (List.mem_cons_self ..))
     have e1 : rowsL d (s :: r) = rowsS d s ++ rowsL d r := by unfold rowsL; simp
     have := ih fun t ht => h t (List.mem_cons_of_mem _ ht)
     rw [e1, e, List.length_append, List.length_cons, List.length_cons]; omega
 exact this _ fun s hs => h s (List.mem_of_mem_take hs)
theorem PRt.put {a : Adr} {H : Hp} {x dx lr l : Addr} {fs : List (Str × V)} {k : Nat} {ps : List Addr} {rs : List RD} {us : List V} {o : HO} (h : PRt a H x dx lr fs k ps rs) (hl : H l = some (.lst us)) (nl : l ≠ x) (nr : l ≠ lr) : PRt a (upd H l o) x dx lr fs k ps rs :=
 ⟨by rw [upd_ne nl.symm]; exact h.obj, h.pf, by rw [upd_ne nr.symm]; exact h.lst, h.rows.mono fun p r e => by
   show (upd H l o) p = _
   rw [upd_ne (fun z => by have e : H p = _ := e; rw [z, hl] at e; cases e)]; exact e, h.few⟩
theorem nt_sub2 {x l : Addr} {H H1 H2 HF : Hp} {C dx : Addr} {f0 f1 : List (Str × V)} (k : KeepX x H H1) (h0 : H x = some (.ins C dx f0)) (h1 : H1 x = some (.ins C dx f1)) (k2 : KeepX x H1 H2) (k3 : KeepX x H2 HF) : Same (nt (upd H1 l (.lst [])) H2) (nt H HF) := by
 refine nt_sub (fun b o e1 e2 => ?_) (fun b xs e => ?_)
 · have nb := upd_none e1
   have nx : b ≠ x := fun z => by rw [z, h1] at nb; cases nb.1
   have hn : H b = none := by
     cases h : H b with
     | none => rfl
     | some o' => have := k b o' h nx; rw [nb.1] at this; cases this
   exact nt_new hn (k3 b o e2 nx)
 · have nl : b ≠ l := fun z => by rw [z, upd_same] at e; cases e
   rw [upd_ne nl] at e
   have nx : b ≠ x := fun z => by rw [z, h1] at e; cases e
   cases h : H b with
   | none => exact nt_new h (k3 _ _ (k2 _ _ e nx) nx)
   | some o =>
     have := k b o h nx
     rw [e] at this
     cases this
     exact nt_tup h
theorem nt_sub1 {x : Addr} {H H1 H2 HF : Hp} {C dx : Addr} {f0 f1 : List (Str × V)} (k : KeepX x H H1) (h0 : H x = some (.ins C dx f0)) (h1 : H1 x = some (.ins C dx f1)) (k2 : KeepX x H1 H2) (k3 : KeepX x H2 HF) : Same (nt H1 H2) (nt H HF) := by
 refine nt_sub (fun b o e1 e2 => ?_) (fun b xs e => ?_)
 · have nx : b ≠ x := fun z => by rw [z, h1] at e1; cases e1
   have hn : H b = none := by
     cases h : H b with
     | none => rfl
     | some o' => have := k b o' h nx; rw [e1] at this; cases this
   exact nt_new hn (k3 b o e2 nx)
 · have nx : b ≠ x := fun z => by rw [z, h1] at e; cases e
   cases h : H b with
   | none => exact nt_new h (k3 _ _ (k2 _ _ e nx) nx)
   | some o =>
     have := k b o h nx
     rw [e] at this
     cases this
     exact nt_tup h
theorem KeepX.none {x : Addr} {H H' : Hp} {o o' : HO} (k : KeepX x H H') (h : H x = some o) (h' : H' x = some o') {b : Addr} (e : H' b = none) : H b = none := keep_none k h h' e
theorem nt_to2 {x l l2 : Addr} {H1 H2 HF : Hp} {C dx : Addr} {f1 : List (Str × V)} {us : List V} (h1 : H1 x = some (.ins C dx f1)) (hl : H1 l = some (.lst us)) (k2 : KeepX x H1 H2) (k3 : ∀ b o, H2 b = some o → b ≠ l → b ≠ x → HF b = some o) : Same (nt (upd H1 l2 (.lst [])) H2) (hid l (hid x HF)) := fun b o h => by
 rcases nt_of h with ⟨e1, e2⟩ | ⟨xs, e, rfl⟩
 · have nb := upd_none e1
   have nx : b ≠ x := fun z => by rw [z, h1] at nb; cases nb.1
   have nl : b ≠ l := fun z => by rw [z, hl] at nb; cases nb.1
   exact hid_at (hid_at (k3 b o e2 nl nx) nx) nl
 · have n2 : b ≠ l2 := fun z => by rw [z, upd_same] at e; cases e
   rw [upd_ne n2] at e
   have nx : b ≠ x := fun z => by rw [z, h1] at e; cases e
   have nl : b ≠ l := fun z => by rw [z, hl] at e; cases e
   exact hid_at (hid_at (k3 b _ (k2 _ _ e nx) nl nx) nx) nl
theorem rowsP_word (fs : List (Int × List Stm)) : wordAt (rowsP fs) 0 ∈ stopW := by
 cases fs with
 | nil => exact (show ("" : Str) ∈ stopW by decide +kernel)
 | cons f r => exact (show ("fun" : Str) ∈ stopW by decide +kernel)
theorem ok_is_number (T : Txt w K mg a) : FnE P w K mg base CX0 1 "is_number" spIsNum := by
 refine fnE_of (sp := spIsNum) 0 T.fn_is_number sc_is_number (fun vs H Q E h => ?_) (fun f cdv A outer s H vs Q E hr h => ?_)
 · obtain ⟨n, rfl, _⟩ := h
   rfl
 · obtain ⟨n, rfl, h0, h1, q⟩ := h
   have hne := numS_ne h0
   have hlen := numS_len h0 h1
   have hdg := numS_digits h0
   have hhd := @numS_head n h0
   obtain ⟨c, r, hcr⟩ : ∃ c r, (numS n).cps.toList = c :: r := List.exists_cons_of_ne_nil hne
   have hll : (numS n).cps.toList.length ≤ 10 := hlen
   refine ⟨_, (pss_cons (ps_if (PW.pt (pw_or (pt_cmpR (op_eqK (K := K) rfl hr.units) (pv 0) pe_str (nomark _)) (pw_or1 (pt_cmpR op_gt (pe_callB (call_lenK (K := K) rfl) rfl T.z_len b_len (pa_cons (pv 0) pa_nil)) (pe_glob (v := .int 10) rfl T.g_MOST_FIGURES.choose_spec ⟨_, rfl⟩) (nomark _))))) (pss_one ps_dead) pss_nil)
     (pss_cons (ps_if (PW.pt (pw_and (pt_cmpR (op_eqK (K := K) rfl hr.units) (pe_ix (ix_K (K := K) rfl) (pv 0) pe_int (fun _ _ => rfl)) pe_str (nomark _)) (pw_and1 (pt_cmpR (op_neK (K := K) rfl hr.units) (pv 0) pe_str (nomark _))))) (pss_one ps_dead) pss_nil)
     (pss_one (ps_ret (pe_callB (call_allK (K := K) rfl rfl) rfl T.z_all b_all (pa_cons (pe_comp (own := ["sign"]) (fr := []) rfl ⟨rfl, (by walk_at "clok"), (by walk_at "frok"), rfl, (by decide +kernel), (by decide +kernel), rfl⟩ (pi_str (pv 0)) (fun _ _ _ _ => (pg_name (i := 0) (show List.Nodup [("sign" : Str)] from by decide +kernel) rfl (Or.inl rfl))) (fun _ _ _ _ => pts_nil) (fun _ _ _ _ => (pe_cmpR op_inS (pv 0) (pe_glob (v := .str "0123456789") rfl T.g_FIGURES.choose_spec ⟨_, rfl⟩) rfl))) pa_nil)))))), ?_⟩
   refine r_st (σ' := [some _]) rfl ?_
   walk_at "rd"
   refine ifStr (fun hh => absurd (by rw [hh]; rfl) hne) (fun _ => ?_)
   walk_at "rd"
   refine ⟨_, _, rfl, ⟨by rw [sizeLine_eq]; omega, rfl⟩, ?_⟩
   walk_at "rd"
   refine .inl (.inr (.inr ⟨_, 0, c, rfl, rfl, by rw [sizeLine_eq]; omega, by rw [hcr]; exact atI_nat (j := 0) rfl, ?_⟩))
   walk_at "rd"
   have key : ∀ (fin : List V → Hp → Prop), fin (List.replicate (numS n).cps.toList.length (.bl true)) H → CompW (Its (numS n)) (gName 0) tTrue (tOp rInS (tVar 0) (tC (V.str (Str.ofString "0123456789")))) fin [none] H := by
     intro fin hf
     refine comp_str (fun i ys σ H2 => (∃ v, σ = [v]) ∧ H2 = H ∧ ys = List.replicate i (.bl true)) ⟨⟨_, rfl⟩, rfl, rfl⟩ (fun i ys σ H2 hi ⟨_, _, e⟩ => by rw [e, List.length_replicate, sizeLine_eq]; omega) ?_ ?_
     · rintro i d ys σ H2 hd ⟨⟨v, rfl⟩, rfl, rfl⟩
       have hin := figs_in (hdg d (List.mem_of_getElem? hd))
       walk_at "rd"
       refine ⟨d, _, rfl, rfl, ?_⟩
       rw [decide_eq_true hin]
       exact ⟨⟨_, rfl⟩, rfl, by rw [List.replicate_succ']⟩
     · rintro ys σ H2 ⟨_, rfl, rfl⟩
       exact hf
   have fin : ∀ p, H p = none → rAll K [.ref p] (upd H p (.lst (List.replicate (numS n).cps.toList.length (.bl true)))) Q := fun p hp => by
     refine r_all (bs := List.replicate (numS n).cps.toList.length true) (by rw [List.map_replicate]; exact SqL.of upd_same) ?_
     rw [show (List.replicate (numS n).cps.toList.length true).all id = true from by simp]
     exact q _ (by walk_at "same")
   refine ifStr (fun hh => ?_) (fun _ => ?_)
   · have e48 : c = 48 := by
       have := congrArg (fun x : Str => x.cps.toList) hh
       exact (List.cons.inj this).1
     have en := hhd (by rw [hcr, e48])
     subst en
     walk_at "rd"
     refine key _ ?_
     intro p hp
     walk_at "rd"
     exact fin p hp
   · walk_at "rd"
     refine key _ ?_
     intro p hp
     walk_at "rd"
     exact fin p hp
theorem ok_is_whole (T : Txt w K mg a) : FnE P w K mg base CX0 1 "is_whole" spWhI := by
 refine fnE_of (sp := spWhI) 0 T.fn_is_whole sc_is_whole (fun vs H Q E h => ?_) (fun f cdv A outer s H vs Q E hr h => ?_)
 · obtain ⟨i, rfl, _⟩ := h
   rfl
 · obtain ⟨i, rfl, h0, q⟩ := h
   refine ⟨_, (pss_one (ps_ret (pe_and (pe_callB (call_isiK (K := K) rfl) rfl T.z_isinstance b_isinstance (pa_cons (pv 0) (pa_cons (pe_bltn (v := .ty "int") rfl T.z_int b_int rfl) pa_nil))) (pe_and (pe_not (pe_callB (call_isiK (K := K) rfl) rfl T.z_isinstance b_isinstance (pa_cons (pv 0) (pa_cons (pe_bltn (v := .ty "bool") rfl T.z_bool b_bool rfl) pa_nil)))) (pe_one (pe_cmpR op_ge (pv 0) pe_int (nomark _))))))), ?_⟩
   refine r_st (σ' := [some _]) rfl ?_
   walk_at "rd"
   rw [decide_eq_true h0]
   exact q
theorem ok_asked_for_text (T : Txt w K mg a) : FnE P w K mg base CX0 1 "asked_for_text" spAskT := by
 refine fnE_of (sp := spAskT) 0 T.fn_asked_for_text sc_asked_for_text (fun vs H Q E h => ?_) (fun f cdv A outer s H vs Q E hr h => ?_)
 · obtain ⟨x, rfl, _⟩ := h
   rfl
 · obtain ⟨x, rfl, q⟩ := h
   refine ⟨_, (pss_one (ps_if (pt_not (pt_truK (K := K) rfl (pe_callB (call_isiK (K := K) rfl) rfl T.z_isinstance b_isinstance (pa_cons (pv 0) (pa_cons (pe_bltn (v := .ty "str") rfl T.z_str b_str rfl) pa_nil))))) (pss_one ps_never) pss_nil)), ?_⟩
   refine r_st (σ' := [some _]) rfl ?_
   walk_at "rq"
   exact q
theorem ok_lists_within (T : Txt w K mg a) : FnE P w K mg base CX0 1 "lists_within" spWithin := by
 refine fnE_of (sp := spWithin) 0 T.fn_lists_within sc_lists_within (fun vs H Q E h => ?_) (fun f cdv A outer s H vs Q E hr h => ?_)
 · obtain ⟨p, w', xs, ls, rfl, _⟩ := h
   rfl
 · obtain ⟨p, w', xs, ls, rfl, hp, kd, few, fil, q⟩ := h
   obtain ⟨kvs, C, hkv⟩ := parts_of T
   obtain ⟨qk, hqk, tk⟩ := hkv _ _ kd
   have hat0 := at_head (.str w') (xs.map (·.1))
   refine ⟨_, (pss_one (ps_ret (pe_comp (own := ["part", "kind"]) (fr := []) rfl ⟨rfl, (by walk_at "clok"), (by walk_at "frok"), rfl, (by decide +kernel), (by decide +kernel), rfl⟩ (pi_zip2 (K := K) rfl rfl T.z_zip (pa_cons (pe_slice (sl_K (K := K) rfl) (pv 0) (po_some pe_int) po_none) (pa_cons (pe_rget (w := w) (K := K) rfl rfl (pe_glob (v := .ref a.G_PARTS) rfl T.s_PARTS rfl) (pe_ix (ix_K (K := K) rfl) (pv 0) pe_int (fun _ _ => rfl)) (fun _ _ => rfl)) pa_nil))) (fun _ _ _ _ => (pg_tupK (K := K) (n := 2) rfl rfl (pgs_cons (pg_name (i := 0) (show List.Nodup [("part" : Str), ("kind" : Str)] from by decide +kernel) rfl (Or.inl rfl)) (pgs_cons (pg_name (i := 1) (show List.Nodup [("part" : Str), ("kind" : Str)] from by decide +kernel) rfl (Or.inl rfl)) pgs_nil)))) (fun _ _ _ _ => (pts_one (pt_cmpR (op_eqK (K := K) rfl hr.units) (pv 1) pe_str (nomark _)))) (fun _ _ _ _ => (pv 0))))), ?_⟩
   refine r_st (σ' := [some _]) rfl ?_
   walk_at "rd"
   refine r_slT (SqT.of hp) (cut_tail_neV _ _) fun ls' nls => ?_
   rw [cut_tailV]
   have hp1 := look_new (o := .tup (xs.map (·.1))) hp nls
   walk_at "rd"
   refine ⟨_, _, rfl, C, ?_⟩
   walk_at "rd"
   refine ⟨_, .ref qk, rfl, hqk, ?_⟩
   walk_at "rd"
   refine ⟨ls', qk, _, _, rfl, SqT.of upd_same, tk _, ?_⟩
   have e2 : ∀ H, SqT K H qk (xs.map fun p => .str p.2) := fun H => by have := tk H; rw [List.map_map] at this; exact this
   refine comp_filZ (α := V × Str) (xs := xs) (e1 := fun p => p.1) (e2 := fun p => .str p.2) (fun p => p.1) (fun x => decide (x.2 = ("statements" : Str))) (fun σ => ∃ u v, σ = [u, v]) (SqT.of upd_same) (e2 _) (by walk_at "small") ⟨_, _, rfl⟩ ?_ ?_
   · rintro i ⟨zz, k⟩ ys σ H1 T' hx cc s1 ⟨u, v', rfl⟩ nT
     refine r_gTup (SqT.of upd_same) rfl ?_
     show gCons _ _ [zz, .str k] _ _ _
     walk_at "rd"
     by_cases hk : k = "statements"
     · rw [decide_eq_true (congrArg V.str hk)]
       walk_at "rd"
       exact cc.yes hx (decide_eq_true hk) rfl (s1.trans (same_new nT)) ⟨_, _, rfl⟩
     · rw [decide_eq_false (fun z => hk (V.str.inj z))]
       walk_at "rd"
       exact cc.no hx (decide_eq_false hk) (s1.trans (same_new nT)) ⟨_, _, rfl⟩
   intro H1 s1 l2 nl2
   exact q l2 _ ((same_new nls).trans (s1.trans (same_new nl2))) (by rw [← fil]; exact upd_same) (none_same ((same_new (o := .tup (xs.map (·.1))) nls).trans s1) nl2)
theorem ok_shown_row (T : Txt w K mg a) : FnE P w K mg base CX0 1 "shown_row" spShRow := by
 refine fnE_of (sp := spShRow) 0 T.fn_shown_row sc_shown_row (fun vs H Q E h => ?_) (fun f cdv A outer s H vs Q E hr h => ?_)
 · obtain ⟨w', q', ns, rfl, _⟩ := h
   rfl
 · obtain ⟨w', q', ns, rfl, hq, hok, q⟩ := h
   have hnum : ∀ n ∈ ns, _ := hok.num
   have hfew : ns.length ≤ 7 := hok.few
   have e : [V.str w'] ++ ns.map (fun n => V.str (numS n)) = (w' :: ns.map numS).map V.str := by
     show _ :: _ = _ :: List.map V.str (List.map numS ns)
     rw [List.map_map]; rfl
   refine ⟨_, (pss_one (ps_ret (pe_bmK (K := K) rfl PySem.F.plainAttrs_str PySem.F.slot_str_join PySem.F.type_str_join (mt_join (K := K) rfl) pe_str (pa_cons (pe_op (op_plusK (K := K) rfl) (pe_lst (pa_cons (pv 0) pa_nil)) (pe_comp (own := ["number"]) (fr := []) rfl ⟨rfl, (by walk_at "clok"), (by walk_at "frok"), rfl, (by decide +kernel), (by decide +kernel), rfl⟩ (pi_seqK (K := K) rfl (pv 1)) (fun _ _ _ _ => (pg_name (i := 0) (show List.Nodup [("number" : Str)] from by decide +kernel) rfl (Or.inl rfl))) (fun _ _ _ _ => pts_nil) (fun _ _ _ _ => (pe_callTy call_str_int rfl T.z_str b_str (pa_cons (pv 0) pa_nil))))) pa_nil)))), ?_⟩
   refine r_st (σ' := [some _, some _]) rfl ?_
   rcases hq with hq | hq
   · walk_at "rq"
     rename_i l1 hl1
     refine comp_mapL (xs := ns) (emb := V.int) (fun n => .str (numS n)) (fun σ => ∃ v, σ = [v]) (SqL.of (look_new hq hl1)) (by rw [sizeLine_eq]; omega) ⟨_, rfl⟩ ?_ ?_
     · rintro i n ys σ H1 hp c s ⟨v, rfl⟩
       have hn := hnum n (List.mem_of_getElem? hp)
       walk_at "rq"
       exact ⟨log_num hn.1 hn.2, c.next hp rfl (by walk_at "same") ⟨_, rfl⟩⟩
     intro H1 s1 l2 hl2
     have h11 := look_new (o := .lst (ns.map fun n => V.str (numS n))) (s1 _ _ upd_same) hl2
     refine r_plusL h11 upd_same (by rw [sizeLine_eq, List.length_map]; show 1 + _ ≤ _; omega) fun l4 hl4 => ?_
     rw [e]
     walk_at "rq"
     refine r_join (SqL.of upd_same) hok.join ?_
     exact q _ (by walk_at "same")
   · walk_at "rq"
     rename_i l1 hl1
     refine comp_mapT (xs := ns) (emb := V.int) (fun n => .str (numS n)) (fun σ => ∃ v, σ = [v]) (SqT.of (look_new hq hl1)) (by rw [sizeLine_eq]; omega) ⟨_, rfl⟩ ?_ ?_
     · rintro i n ys σ H1 hp c s ⟨v, rfl⟩
       have hn := hnum n (List.mem_of_getElem? hp)
       walk_at "rq"
       exact ⟨log_num hn.1 hn.2, c.next hp rfl (by walk_at "same") ⟨_, rfl⟩⟩
     intro H1 s1 l2 hl2
     have h11 := look_new (o := .lst (ns.map fun n => V.str (numS n))) (s1 _ _ upd_same) hl2
     refine r_plusL h11 upd_same (by rw [sizeLine_eq, List.length_map]; show 1 + _ ≤ _; omega) fun l4 hl4 => ?_
     rw [e]
     walk_at "rq"
     refine r_join (SqL.of upd_same) hok.join ?_
     exact q _ (by walk_at "same")
theorem ok_has_count (T : Txt w K mg a) : FnE P w K mg base CX0 1 "has_count" spHas := by
 refine fnE_of (sp := spHas) 0 T.fn_has_count sc_has_count (fun vs H Q E h => ?_) (fun f cdv A outer s H vs Q E hr h => ?_)
 · obtain ⟨r, rfl, _⟩ := h
   rfl
 · obtain ⟨⟨w', ns⟩, rfl, hok, q⟩ := h
   refine ⟨_, (pss_cons (ps_if (pt_cmpR (op_inC rfl rfl) (pv 0) (pe_glob (v := .ref a.G_AHEAD_OF_NAMES) rfl T.s_AHEAD_OF_NAMES rfl) rfl) (pss_one (ps_ret (pe_cmpR op_ge (pv 1) (pe_cget rfl rfl (pe_glob (v := .ref a.G_AHEAD_OF_NAMES) rfl T.s_AHEAD_OF_NAMES rfl) (pv 0) (fun _ _ => rfl)) (nomark _)))) pss_nil)
     (pss_one (ps_ret (pe_and (pe_cmpR (op_inC rfl rfl) (pv 0) (pe_glob (v := .ref a.G_COUNTS) rfl T.s_COUNTS rfl) rfl) (pe_one (pe_cmpR (op_eqK (K := K) rfl hr.units) (pv 1) (pe_cget rfl rfl (pe_glob (v := .ref a.G_COUNTS) rfl T.s_COUNTS rfl) (pv 0) (fun _ _ => rfl)) (nomark _))))))), ?_⟩
   refine r_st (σ' := [some _, some _]) rfl ?_
   walk_at "rq"
   rcases hok.ct with ⟨hw, hl⟩ | ⟨hw, hl⟩ | ⟨h1, h2⟩
   · have hw : w' = "call" := hw
     have hl : 2 ≤ ns.length := hl
     subst hw
     refine r_inCY T.d_AHEAD_OF_NAMES rfl ?_
     walk_at "rq"
     refine r_cGet ?_
     walk_at "rq"
     refine r_cgetV T.d_AHEAD_OF_NAMES rfl ?_
     walk_at "rq"
     rw [decide_eq_true (show (2 : Int) ≤ (ns.length : Int) by omega)]
     exact q
   · have hw : w' = "hand" := hw
     have hl : 1 ≤ ns.length := hl
     subst hw
     refine r_inCY T.d_AHEAD_OF_NAMES rfl ?_
     walk_at "rq"
     refine r_cGet ?_
     walk_at "rq"
     refine r_cgetV T.d_AHEAD_OF_NAMES rfl ?_
     walk_at "rq"
     rw [decide_eq_true (show (1 : Int) ≤ (ns.length : Int) by omega)]
     exact q
   · have h1 : valV (conV aheadP) (.inr w') = none := h1
     have h2 : valV (conV countsP) (.inr w') = some (.int (ns.length : Int)) := h2
     refine r_inCN T.d_AHEAD_OF_NAMES h1 ?_
     walk_at "rq"
     refine r_inCY T.d_COUNTS h2 ?_
     walk_at "rq"
     refine r_cGet ?_
     walk_at "rq"
     refine r_cgetV T.d_COUNTS h2 ?_
     walk_at "rq"
     rw [decide_eq_true rfl]
     exact q
theorem ok_plain_statement (T : Txt w K mg a) : FnE P w K mg base CX0 1 "plain_statement" spPlain := by
 refine fnE_of (sp := spPlain) 0 T.fn_plain_statement sc_plain_statement (fun vs H Q E h => ?_) (fun f cdv A outer s H vs Q E hr h => ?_)
 · obtain ⟨p, s', d, hd, r, rfl, _⟩ := h
   rfl
 · obtain ⟨p, s', d, hd, r, rfl, hp, hr', hfl, hok, hd3, q⟩ := h
   refine ⟨_, (pss_cons (ps_if (pt_cmpR (op_notInC rfl rfl) (pe_ix (ix_K (K := K) rfl) (pv 0) pe_int (fun _ _ => rfl)) (pe_glob (v := .ref a.G_AHEAD_OF_NAMES) rfl T.s_AHEAD_OF_NAMES rfl) rfl) (pss_one (ps_ret (pv 0))) pss_nil)
     (pss_cons (ps_set (i := 1) sc_plain_statement.nd rfl (Or.inl rfl) (pe_op (op_plusK (K := K) rfl) pe_int (pe_cget rfl rfl (pe_glob (v := .ref a.G_AHEAD_OF_NAMES) rfl T.s_AHEAD_OF_NAMES rfl) (pe_ix (ix_K (K := K) rfl) (pv 0) pe_int (fun _ _ => rfl)) (fun _ _ => rfl))))
     (pss_one (ps_ret (pe_op (op_plusK (K := K) rfl) (pe_slice (sl_XK (K := K) rfl) (pv 0) po_none (po_some (pv 1))) (pe_tup (pa_cons (pe_callTy (call_listK (K := K) rfl) rfl T.z_list b_list (pa_cons (pe_slice (sl_XK (K := K) rfl) (pv 0) (po_some (pv 1)) po_none) pa_nil)) pa_nil))))))), ?_⟩
   refine r_st (σ' := [some _, none]) rfl ?_
   cases s' with
   | pl s1 =>
     cases s1 with
     | set x v =>
       have e := List.singleton_inj.mp (show [(("set", [x, v]) : RD)] = [r] from hr')
       subst e
       have hp : H p = some (.tup [.str "set", .int x, .int v]) := hp
       walk_at "rq"
       refine r_nCN T.d_AHEAD_OF_NAMES rfl ?_
       walk_at "rq"
       exact q p _ (Same.refl _) (nt_tup hp)
     | copy x y =>
       have e := List.singleton_inj.mp (show [(("copy", [x, y]) : RD)] = [r] from hr')
       subst e
       have hp : H p = some (.tup [.str "copy", .int x, .int y]) := hp
       walk_at "rq"
       refine r_nCN T.d_AHEAD_OF_NAMES rfl ?_
       walk_at "rq"
       exact q p _ (Same.refl _) (nt_tup hp)
     | sum x y z =>
       have e := List.singleton_inj.mp (show [(("sum", [x, y, z]) : RD)] = [r] from hr')
       subst e
       have hp : H p = some (.tup [.str "sum", .int x, .int y, .int z]) := hp
       walk_at "rq"
       refine r_nCN T.d_AHEAD_OF_NAMES rfl ?_
       walk_at "rq"
       exact q p _ (Same.refl _) (nt_tup hp)
     | minus x y z =>
       have e := List.singleton_inj.mp (show [(("minus", [x, y, z]) : RD)] = [r] from hr')
       subst e
       have hp : H p = some (.tup [.str "minus", .int x, .int y, .int z]) := hp
       walk_at "rq"
       refine r_nCN T.d_AHEAD_OF_NAMES rfl ?_
       walk_at "rq"
       exact q p _ (Same.refl _) (nt_tup hp)
     | product x y z =>
       have e := List.singleton_inj.mp (show [(("product", [x, y, z]) : RD)] = [r] from hr')
       subst e
       have hp : H p = some (.tup [.str "product", .int x, .int y, .int z]) := hp
       walk_at "rq"
       refine r_nCN T.d_AHEAD_OF_NAMES rfl ?_
       walk_at "rq"
       exact q p _ (Same.refl _) (nt_tup hp)
     | less x y z =>
       have e := List.singleton_inj.mp (show [(("less", [x, y, z]) : RD)] = [r] from hr')
       subst e
       have hp : H p = some (.tup [.str "less", .int x, .int y, .int z]) := hp
       walk_at "rq"
       refine r_nCN T.d_AHEAD_OF_NAMES rfl ?_
       walk_at "rq"
       exact q p _ (Same.refl _) (nt_tup hp)
     | give x =>
       have e := List.singleton_inj.mp (show [(("give", [x]) : RD)] = [r] from hr')
       subst e
       have hp : H p = some (.tup [.str "give", .int x]) := hp
       walk_at "rq"
       refine r_nCN T.d_AHEAD_OF_NAMES rfl ?_
       walk_at "rq"
       exact q p _ (Same.refl _) (nt_tup hp)
     | leave x => exact hok.elim
   | drop x =>
       have e := List.singleton_inj.mp (show [(("drop", [x]) : RD)] = [r] from hr')
       subst e
       have hp : H p = some (.tup [.str "drop", .int x]) := hp
       walk_at "rq"
       refine r_nCN T.d_AHEAD_OF_NAMES rfl ?_
       walk_at "rq"
       exact q p _ (Same.refl _) (nt_tup hp)
   | call x f' ns lb =>
     obtain ⟨o1, o2, o3, o4, rfl⟩ := hok
     have e := List.singleton_inj.mp (show [(("call", x :: f' :: ns) : RD)] = [r] from hr')
     subst e
     have hp : H p = some (.tup (.str "call" :: .int x :: .int f' :: ns.map V.int)) := hp
     have hat := at_head (.str "call") (.int x :: .int f' :: ns.map V.int)
     have h3 : ns.length ≤ 3 := by have := hd3 _ (List.mem_of_getElem? o4); omega
     walk_at "rq"
     refine r_nCY T.d_AHEAD_OF_NAMES rfl ?_
     walk_at "rq"
     refine r_cGet ?_
     walk_at "rq"
     refine r_cgetV T.d_AHEAD_OF_NAMES rfl ?_
     walk_at "rq"
     refine r_headT (k := 3) (SqT.of hp) (by simp only [List.length_cons]; omega) (fun hk => ?_) (fun l nl => ?_)
     · have hns : ns = [] := List.length_eq_zero_iff.mp (by simp only [List.length_cons, List.length_map] at hk; omega)
       subst hns
       walk_at "rq"
       refine r_tailT (k := 3) (SqT.of hp) (Nat.le_refl _) (by decide) (fun l2 nl2 => ?_)
       walk_at "rq"
       refine r_listT (SqT.of upd_same) fun l3 nl3 => ?_
       walk_at "rq"
       rename_i l4 nl4
       refine r_plusT (SqT.of (look_new (look_new (look_new hp nl2) nl3) nl4)) (SqT.of upd_same) (by simp) (by simp) (Nat.le_of_ble_eq_true rfl) fun t nt => ?_
       have nl3' : H l3 = none := (upd_none nl3).1
       have nt' : H t = none := (upd_none (upd_none (upd_none nt).1).1).1
       exact q t _ (((same_new nl2).trans (same_new nl3)).trans ((same_new nl4).trans (same_new nt))) ⟨l3, nt_new nt' upd_same, nt_new nl3' (look_new (look_new upd_same nl4) nt)⟩
     · walk_at "rq"
       have hp1 := look_new (o := .tup ((.str "call" :: .int x :: .int f' :: ns.map V.int).take 3)) hp nl
       refine r_tailT (k := 3) (SqT.of hp1) (by simp only [List.length_cons]; omega) (by decide) (fun l2 nl2 => ?_)
       walk_at "rq"
       refine r_listT (SqT.of upd_same) fun l3 nl3 => ?_
       walk_at "rq"
       rename_i l4 nl4
       refine r_plusT (SqT.of (look_new (look_new (look_new (upd_same) nl2) nl3) nl4)) (SqT.of upd_same) (by simp) (by simp) (by rw [sizeLine_eq]; simp) fun t nt => ?_
       have nl3' : H l3 = none := (upd_none (upd_none nl3).1).1
       have nt' : H t = none := (upd_none (upd_none (upd_none (upd_none nt).1).1).1).1
       exact q t _ ((((same_new nl).trans (same_new nl2)).trans (same_new nl3)).trans ((same_new nl4).trans (same_new nt))) ⟨l3, nt_new nt' upd_same, nt_new nl3' (look_new (look_new upd_same nl4) nt)⟩
   | hand f' ns lb =>
     obtain ⟨o2, o3, o4, rfl⟩ := hok
     have e := List.singleton_inj.mp (show [(("hand", f' :: ns) : RD)] = [r] from hr')
     subst e
     have hp : H p = some (.tup (.str "hand" :: .int f' :: ns.map V.int)) := hp
     have hat := at_head (.str "hand") (.int f' :: ns.map V.int)
     have h3 : ns.length ≤ 3 := by have := hd3 _ (List.mem_of_getElem? o4); omega
     walk_at "rq"
     refine r_nCY T.d_AHEAD_OF_NAMES rfl ?_
     walk_at "rq"
     refine r_cGet ?_
     walk_at "rq"
     refine r_cgetV T.d_AHEAD_OF_NAMES rfl ?_
     walk_at "rq"
     refine r_headT (k := 2) (SqT.of hp) (by simp only [List.length_cons]; omega) (fun hk => ?_) (fun l nl => ?_)
     · have hns : ns = [] := List.length_eq_zero_iff.mp (by simp only [List.length_cons, List.length_map] at hk; omega)
       subst hns
       walk_at "rq"
       refine r_tailT (k := 2) (SqT.of hp) (Nat.le_refl _) (by decide) (fun l2 nl2 => ?_)
       walk_at "rq"
       refine r_listT (SqT.of upd_same) fun l3 nl3 => ?_
       walk_at "rq"
       rename_i l4 nl4
       refine r_plusT (SqT.of (look_new (look_new (look_new hp nl2) nl3) nl4)) (SqT.of upd_same) (by simp) (by simp) (Nat.le_of_ble_eq_true rfl) fun t nt => ?_
       have nl3' : H l3 = none := (upd_none nl3).1
       have nt' : H t = none := (upd_none (upd_none (upd_none nt).1).1).1
       exact q t _ (((same_new nl2).trans (same_new nl3)).trans ((same_new nl4).trans (same_new nt))) ⟨l3, nt_new nt' upd_same, nt_new nl3' (look_new (look_new upd_same nl4) nt)⟩
     · walk_at "rq"
       have hp1 := look_new (o := .tup ((.str "hand" :: .int f' :: ns.map V.int).take 2)) hp nl
       refine r_tailT (k := 2) (SqT.of hp1) (by simp only [List.length_cons]; omega) (by decide) (fun l2 nl2 => ?_)
       walk_at "rq"
       refine r_listT (SqT.of upd_same) fun l3 nl3 => ?_
       walk_at "rq"
       rename_i l4 nl4
       refine r_plusT (SqT.of (look_new (look_new (look_new (upd_same) nl2) nl3) nl4)) (SqT.of upd_same) (by simp) (by simp) (by rw [sizeLine_eq]; simp) fun t nt => ?_
       have nl3' : H l3 = none := (upd_none (upd_none nl3).1).1
       have nt' : H t = none := (upd_none (upd_none (upd_none (upd_none nt).1).1).1).1
       exact q t _ ((((same_new nl).trans (same_new nl2)).trans (same_new nl3)).trans ((same_new nl4).trans (same_new nt))) ⟨l3, nt_new nt' upd_same, nt_new nl3' (look_new (look_new upd_same nl4) nt)⟩
   | ifS => exact hfl.elim
   | whileS => exact hfl.elim
   | tryS => exact hfl.elim
theorem mk_ProgramRows (T : Txt w K mg a) : MkE P w K mg base CX0 1 "ProgramRows" a.C_ProgramRows (spPRI a) := by
 refine mkE_of (sp := (spPRI a)) 0 T.c_ProgramRows T.i_ProgramRows sc_ProgramRows_init (fun vs H Q E h => ?_) (fun f cdv A outer s H vs Q E hr h => ?_)
 · obtain ⟨x, dx, lr, rfl, _⟩ := h
   rfl
 · obtain ⟨x, dx, lr, rfl, hx, q⟩ := h
   refine ⟨_, (pss_cons (ps_fldK (K := K) rfl (pv 0) (pv 1))
     (pss_one (ps_fldK (K := K) rfl (pv 0) pe_int))), ?_⟩
   refine r_st (σ' := [some _, some _]) rfl ?_
   walk_at "rd"
   refine q _ _ (fun b o h1 h2 => ?_) upd_same ⟨by walk_at "lk", by walk_at "lk", ?_, ?_⟩
   · walk_at "hlk"
   · exact Nat.le_of_lt_succ (by walk_at "fewf")
   · intro y hy
     refine look_no (fun e => by subst e; revert hy; decide +kernel) (look_no (fun e => by subst e; revert hy; decide +kernel) rfl)
theorem me_ProgramRows_next_word (T : Txt w K mg a)  : MethE P w K mg base CX0 1 a.C_ProgramRows "next_word" (spNext a) := by
 refine methE_of (sp := (spNext a)) 0 T.cl_ProgramRows T.m_ProgramRows_next_word sc_ProgramRows_next_word (fun vs H Q E h => ?_) (fun f cdv A outer s H vs Q E hr h => ?_)
 · obtain ⟨x, dx, lr, fs, k, ps, rs, rfl, _⟩ := h
   rfl
 · obtain ⟨x, dx, lr, fs, k, ps, rs, rfl, R, q⟩ := h
   have hx := R.obj
   have f1 := R.pf.rows
   have f2 := R.pf.mark
   have hlr := R.lst
   have hpl := R.rows.1
   refine ⟨_, (pss_one (ps_ret (pe_ifExp (pt_cmpR op_lt (pe_fldK (K := K) rfl (pv 0)) (pe_callB (call_lenK (K := K) rfl) rfl T.z_len b_len (pa_cons (pe_fldK (K := K) rfl (pv 0)) pa_nil)) (nomark _)) (pe_ix (ix_K (K := K) rfl) (pe_ix (ix_K (K := K) rfl) (pe_fldK (K := K) rfl (pv 0)) (pe_fldK (K := K) rfl (pv 0)) (fun _ _ => rfl)) pe_int (fun _ _ => rfl)) pe_str))), ?_⟩
   refine r_st (σ' := [some _]) rfl ?_
   by_cases hk : k < rs.length
   · have hrk : rs[k]? = some rs[k] := List.getElem?_eq_getElem hk
     obtain ⟨p, hpk, hp⟩ := R.at hrk
     have hw : wordAt rs k = rs[k].1 := by unfold wordAt; rw [hrk]
     rw [hw] at q
     generalize rs[k] = r at hrk hp q
     have hp : H p = some (.tup (.str r.1 :: r.2.map V.int)) := hp
     have hat : atI (ps.map V.ref) (k : Int) = some (.ref p) := atI_nat (by rw [List.getElem?_map, hpk]; rfl)
     have hat2 := at_head (.str r.1) (r.2.map V.int)
     walk_at "rq"
     refine r_lenL (SqL.of hlr) ?_
     rw [List.length_map, hpl]
     walk_at "rq"
     exact q
   · have hw : wordAt rs k = "" := by unfold wordAt; rw [List.getElem?_eq_none (by omega)]
     rw [hw] at q
     walk_at "rq"
     refine r_lenL (SqL.of hlr) ?_
     rw [List.length_map, hpl]
     walk_at "rq"
     exact q
theorem ok_law_cell_at (T : Txt w K mg a) : FnE P w K mg base CX0 1 "_law_cell_at" (spCellAt K) := by
 refine fnE_of (sp := (spCellAt K)) 0 T.fn_law_cell_at sc_law_cell_at (fun vs H Q E h => ?_) (fun f cdv A outer s H vs Q E hr h => ?_)
 · obtain ⟨p, ns, k, rfl, _⟩ := h
   rfl
 · obtain ⟨p, ns, k, rfl, hS, h0, q⟩ := h
   refine ⟨_, (pss_cons (ps_if (pt_cmpR op_lt (pv 1) (pe_callB (call_lenK (K := K) rfl) rfl T.z_len b_len (pa_cons (pv 0) pa_nil)) (nomark _)) (pss_one (ps_ret (pe_ix (ix_K (K := K) rfl) (pv 0) (pv 1) (fun _ _ => rfl)))) pss_nil)
     (pss_one (ps_ret pe_int))), ?_⟩
   refine r_st (σ' := [some _, some _]) rfl ?_
   walk_at "rd"
   refine ifDec (fun hh => ?_) (fun hh => ?_)
   · walk_at "rd"
     exact q
   · walk_at "rd"
     have e := cellAt_out h0 hh
     rw [e] at q
     exact q
theorem ok_law_words (T : Txt w K mg a) : FnE P w K mg base CX0 1 "_law_words" spWords := by
 refine fnE_of (sp := spWords) 0 T.fn_law_words sc_law_words (fun vs H Q E h => ?_) (fun f cdv A outer s H vs Q E hr h => ?_)
 · obtain ⟨w', q', ns, rfl, _⟩ := h
   rfl
 · obtain ⟨w', q', ns, rfl, hq, hok, q⟩ := h
   have hnum : ∀ n ∈ ns, _ := hok.num
   have hpre := hok.pre
   refine ⟨_, (pss_cons (ps_set (i := 2) sc_law_words.nd rfl (Or.inl rfl) (pv 0))
     (pss_cons (ps_for PassesOwn.never rfl (pi_seqK (K := K) rfl (pv 1)) (pg_name (i := 3) sc_law_words.nd rfl (Or.inl rfl)) (pss_one (ps_set (i := 2) sc_law_words.nd rfl (Or.inl rfl) (pe_op (op_plusK (K := K) rfl) (pe_op (op_plusK (K := K) rfl) (pv 2) pe_str) (pe_callTy call_str_int rfl T.z_str b_str (pa_cons (pv 3) pa_nil))))))
     (pss_one (ps_ret (pv 2))))), ?_⟩
   refine r_st (σ' := [some _, some _, none, none]) rfl ?_
   rcases hq with hq | hq
   · walk_at "rq"
     refine for_list (K := K) (a := q') (xs := ns.map V.int) (fun i σ H1 => (∃ u, σ = [some (.str w'), some (.ref q'), some (rowV (w', ns.take i)), u]) ∧ Same H H1) ⟨⟨_, by rw [List.take_zero]; unfold rowV; rw [rowX_nil]⟩, Same.refl _⟩ (fun i σ H1 _ ⟨_, s1⟩ => SqL.of (s1 _ _ hq)) ?_ ?_
     · rintro i v σ H1 hv ⟨⟨u, rfl⟩, s1⟩
       obtain ⟨n, hx, rfl⟩ : ∃ n, ns[i]? = some n ∧ v = .int n := by
         rw [List.getElem?_map] at hv
         obtain ⟨p, hp, e⟩ := Option.map_eq_some_iff.mp hv
         exact ⟨p, hp, e.symm⟩
       have hn := hnum n (List.mem_of_getElem? hx)
       have hl := hpre i
       have hl2 := numS_len hn.1 hn.2
       walk_at "rq"
       refine r_plusS (by rw [sizeLine_eq]; show _ + 1 ≤ _; omega) ?_
       walk_at "rq"
       refine ⟨log_num hn.1 hn.2, ?_⟩
       refine r_plusS (i := rowX (w', ns.take i) ++ " ") (j := numS n) (by rw [str_len, sizeLine_eq]; show _ + 1 + _ ≤ _; omega) ?_
       walk_at "rq"
       refine ⟨⟨some (.int n), ?_⟩, s1⟩
       rw [List.take_add_one, hx, Option.toList_some]
       unfold rowV
       rw [rowX_snoc]
     · rintro σ H1 ⟨⟨u, rfl⟩, s1⟩
       rw [List.length_map, List.take_length]
       walk_at "rq"
       exact q _ s1
   · walk_at "rq"
     refine for_tup (K := K) (a := q') (xs := ns.map V.int) (fun i σ H1 => (∃ u, σ = [some (.str w'), some (.ref q'), some (rowV (w', ns.take i)), u]) ∧ Same H H1) ⟨⟨_, by rw [List.take_zero]; unfold rowV; rw [rowX_nil]⟩, Same.refl _⟩ (fun i σ H1 _ ⟨_, s1⟩ => SqT.of (s1 _ _ hq)) ?_ ?_
     · rintro i v σ H1 hv ⟨⟨u, rfl⟩, s1⟩
       obtain ⟨n, hx, rfl⟩ : ∃ n, ns[i]? = some n ∧ v = .int n := by
         rw [List.getElem?_map] at hv
         obtain ⟨p, hp, e⟩ := Option.map_eq_some_iff.mp hv
         exact ⟨p, hp, e.symm⟩
       have hn := hnum n (List.mem_of_getElem? hx)
       have hl := hpre i
       have hl2 := numS_len hn.1 hn.2
       walk_at "rq"
       refine r_plusS (by rw [sizeLine_eq]; show _ + 1 ≤ _; omega) ?_
       walk_at "rq"
       refine ⟨log_num hn.1 hn.2, ?_⟩
       refine r_plusS (i := rowX (w', ns.take i) ++ " ") (j := numS n) (by rw [str_len, sizeLine_eq]; show _ + 1 + _ ≤ _; omega) ?_
       walk_at "rq"
       refine ⟨⟨some (.int n), ?_⟩, s1⟩
       rw [List.take_add_one, hx, Option.toList_some]
       unfold rowV
       rw [rowX_snoc]
     · rintro σ H1 ⟨⟨u, rfl⟩, s1⟩
       rw [List.length_map, List.take_length]
       walk_at "rq"
       exact q _ s1
theorem ok_read_number (T : Txt w K mg a) : FnE P w K mg base CX0 2 "read_number" spReadNum := by
 refine fnE_of (sp := spReadNum) 1 T.fn_read_number sc_read_number (fun vs H Q E h => ?_) (fun f cdv A outer s H vs Q E hr h => ?_)
 · obtain ⟨n, rfl, _⟩ := h
   rfl
 · obtain ⟨n, rfl, h0, h1, q⟩ := h
   refine ⟨_, (pss_cons (ps_if (pt_not (pt_truK (K := K) rfl (pe_callE (ok_is_number (K := K) T) (hr.mono (by decide)) pass0 rfl (pa_cons (pv 0) pa_nil)))) (pss_one ps_never) pss_nil)
     (pss_one (ps_ret (pe_callTy call_intT rfl T.z_int b_int (pa_cons (pv 0) pa_nil))))), ?_⟩
   refine r_st (σ' := [some _]) rfl ?_
   walk_at "rd"
   refine ⟨n, rfl, h0, h1, fun H1 s1 => ?_⟩
   walk_at "rd"
   exact ⟨_, n, rfl, numS_reads h0 h1, Nat.le_trans (numS_len h0 h1) (by decide), q _ s1⟩
theorem ok_is_up_to (T : Txt w K mg a) : FnE P w K mg base CX0 2 "is_up_to" spUpTo := by
 refine fnE_of (sp := spUpTo) 1 T.fn_is_up_to sc_is_up_to (fun vs H Q E h => ?_) (fun f cdv A outer s H vs Q E hr h => ?_)
 · obtain ⟨i, t, rfl, _⟩ := h
   rfl
 · obtain ⟨i, t, rfl, h0, h1, q⟩ := h
   refine ⟨_, (pss_one (ps_ret (pe_and (pe_callE (ok_is_whole (K := K) T) (hr.mono (by decide)) pass0 rfl (pa_cons (pv 0) pa_nil)) (pe_one (pe_cmpR op_le (pv 0) (pv 1) (nomark _)))))), ?_⟩
   refine r_st (σ' := [some _, some _]) rfl ?_
   walk_at "rd"
   refine ⟨_, rfl, h0, ?_⟩
   walk_at "rd"
   rw [decide_eq_true h1]
   exact q
theorem me_ProgramRows_take_row (T : Txt w K mg a)  : MethE P w K mg base CX0 2 a.C_ProgramRows "take_row" (spTake a) := by
 refine methE_of (sp := (spTake a)) 1 T.cl_ProgramRows T.m_ProgramRows_take_row sc_ProgramRows_take_row (fun vs H Q E h => ?_) (fun f cdv A outer s H vs Q E hr h => ?_)
 · obtain ⟨x, dx, lr, fs, k, ps, rs, r, rfl, _⟩ := h
   rfl
 · obtain ⟨x, dx, lr, fs, k, ps, rs, r, rfl, R, hr', q⟩ := h
   have hx := R.obj
   have f1 := R.pf.rows
   have f2 := R.pf.mark
   have f3 := R.pf.len
   have hlr := R.lst
   obtain ⟨p, hpk, hp⟩ := R.at hr'
   have hw : wordAt rs k = r.1 := by unfold wordAt; rw [hr']
   have hat : atI (ps.map V.ref) ((k : Int) + 1 - 1) = some (.ref p) := by
     rw [show (k : Int) + 1 - 1 = (k : Int) by omega]
     exact atI_nat (by rw [List.getElem?_map, hpk]; rfl)
   refine ⟨_, (pss_cons (ps_if (pt_cmpR (op_neK (K := K) rfl hr.units) (pe_methK0 (P := P) (w := w) (K := K) (mg := mg) (base := base) (k := 1) ⟨rfl, rfl, rfl, rfl, rfl⟩ (pv 0) (hr.mono (by decide)) pass0) (pv 1) (nomark _)) (pss_one ps_never) pss_nil)
     (pss_cons (ps_fldK (K := K) rfl (pv 0) (pe_op (op_plusK (K := K) rfl) (pe_fldK (K := K) rfl (pv 0)) pe_int))
     (pss_one (ps_ret (pe_ix (ix_K (K := K) rfl) (pe_fldK (K := K) rfl (pv 0)) (pe_op op_sub (pe_fldK (K := K) rfl (pv 0)) pe_int) (fun _ _ => rfl)))))), ?_⟩
   refine r_st (σ' := [some _, some _]) rfl ?_
   walk_at "rq"
   refine r_methV hx (R.pf.no _ (by decide +kernel)) ((me_ProgramRows_next_word T).mono (by decide)) ?_
   walk_at "rq"
   refine ⟨x, dx, lr, fs, k, ps, rs, rfl, R, ?_⟩
   rw [hw]
   have nlx : lr ≠ x := fun z => by rw [z, hx] at hlr; cases hlr
   walk_at "rq"
   refine r_sFldV hx T.cl_ProgramRows T.n_ProgramRows_mark (by omega) ?_
   walk_at "rq"
   have kp : KeepX x H (upd H x (.ins a.C_ProgramRows dx (putF "mark" (.int ((k : Int) + 1)) fs))) := fun b o e n => by rw [upd_ne n]; exact e
   have R2 := R.keep (k' := k + 1) kp upd_same (by rw [show ((k + 1 : Nat) : Int) = (k : Int) + 1 by omega]; exact R.pf.setMark _)
   refine q p _ _ hpk kp (fun b e => ?_) R2 ?_
   · have nb : b ≠ x := fun z => by rw [z, hx] at e; cases e
     rw [upd_ne nb]; exact e
   · obtain ⟨p2, e2, h2⟩ := R2.at hr'
     rw [hpk] at e2
     cases e2
     exact h2
theorem ok_law_number (T : Txt w K mg a) : FnE P w K mg base CX0 2 "_law_number" (spNum K) := by
 refine fnE_of (sp := (spNum K)) 1 T.fn_law_number sc_law_number (fun vs H Q E h => ?_) (fun f cdv A outer s H vs Q E hr h => ?_)
 · obtain ⟨a0, ns, k, rfl, _⟩ := h
   rfl
 · obtain ⟨a0, ns, k, rfl, hS, k0, k63, q⟩ := h
   refine ⟨_, (pss_one (ps_ret (pe_op (op_plusK (K := K) rfl) (pe_op (op_plusK (K := K) rfl) (pe_callE (ok_law_cell_at (K := K) T) (hr.mono (by decide)) pass0 rfl (pa_cons (pv 0) (pa_cons (pv 1) pa_nil))) (pe_op op_times (pe_op op_times pe_int (pv 1)) (pv 1))) (pe_op op_times pe_int (pv 1))))), ?_⟩
   refine r_st (σ' := [some _, some _]) rfl ?_
   walk_at "rd"
   exact q
theorem ok_is_name (T : Txt w K mg a) : FnE P w K mg base CX0 3 "is_name" spNm := by
 refine fnE_of (sp := spNm) 2 T.fn_is_name sc_is_name (fun vs H Q E h => ?_) (fun f cdv A outer s H vs Q E hr h => ?_)
 · obtain ⟨i, rfl, _⟩ := h
   rfl
 · obtain ⟨i, rfl, ⟨h0, h1⟩, q⟩ := h
   refine ⟨_, (pss_one (ps_ret (pe_callE (ok_is_up_to (K := K) T) (hr.mono (by decide)) pass0 rfl (pa_cons (pv 0) (pa_cons (pe_glob (v := .int 5) rfl T.g_TOP_NAME.choose_spec ⟨_, rfl⟩) pa_nil))))), ?_⟩
   refine r_st (σ' := [some _]) rfl ?_
   walk_at "rd"
   refine ⟨_, _, rfl, h0, h1, ?_⟩
   walk_at "rd"
   exact q
theorem ok_is_function (T : Txt w K mg a) : FnE P w K mg base CX0 3 "is_function" spIsFn := by
 refine fnE_of (sp := spIsFn) 2 T.fn_is_function sc_is_function (fun vs H Q E h => ?_) (fun f cdv A outer s H vs Q E hr h => ?_)
 · obtain ⟨f', l, n, us, rfl, _⟩ := h
   rfl
 · obtain ⟨f', l, n, us, rfl, hf, h0, h3, hl, q⟩ := h
   refine ⟨_, (pss_cons (ps_if (PW.pt (pw_or (pt_not (pt_truK (K := K) rfl (pe_callB (call_isiK (K := K) rfl) rfl T.z_isinstance b_isinstance (pa_cons (pv 0) (pa_cons (pe_bltn (v := .ty "tuple") rfl T.z_tuple b_tuple rfl) pa_nil))))) (pw_or1 (pt_cmpR (op_neK (K := K) rfl hr.units) (pe_callB (call_lenK (K := K) rfl) rfl T.z_len b_len (pa_cons (pv 0) pa_nil)) pe_int (nomark _))))) (pss_one ps_dead) pss_nil)
     (pss_one (ps_ret (pe_and (pe_callE (ok_is_up_to (K := K) T) (hr.mono (by decide)) pass0 rfl (pa_cons (pe_ix (ix_K (K := K) rfl) (pv 0) pe_int (fun _ _ => rfl)) (pa_cons (pe_glob (v := .int 3) rfl T.g_TOP_HANDED.choose_spec ⟨_, rfl⟩) pa_nil))) (pe_one (pe_callB (call_isiK (K := K) rfl) rfl T.z_isinstance b_isinstance (pa_cons (pe_ix (ix_K (K := K) rfl) (pv 0) pe_int (fun _ _ => rfl)) (pa_cons (pe_bltn (v := .ty "list") rfl T.z_list b_list rfl) pa_nil)))))))), ?_⟩
   refine r_st (σ' := [some _]) rfl ?_
   walk_at "rd"
   refine ⟨_, _, rfl, h0, h3, ?_⟩
   walk_at "rd"
   exact q
theorem ok_read_words (T : Txt w K mg a) : FnE P w K mg base CX0 3 "read_words" spRdW := by
 refine fnE_of (sp := spRdW) 2 T.fn_read_words sc_read_words (fun vs H Q E h => ?_) (fun f cdv A outer s H vs Q E hr h => ?_)
 · obtain ⟨r, rfl, _⟩ := h
   rfl
 · obtain ⟨⟨w', ns⟩, rfl, hok, q⟩ := h
   have hnum : ∀ n ∈ ns, _ := hok.num
   have hfew : ns.length ≤ 7 := hok.few
   refine ⟨_, (pss_cons (ps_set (i := 1) sc_read_words.nd rfl (Or.inl rfl) (pe_bmK (K := K) rfl PySem.F.plainAttrs_str PySem.F.slot_str_split PySem.F.type_str_split mt_split (pv 0) (pa_cons pe_str pa_nil)))
     (pss_cons (ps_if (pt_not (pt_truK (K := K) rfl (pe_callE (ok_has_count (K := K) T) (hr.mono (by decide)) pass0 rfl (pa_cons (pe_ix (ix_K (K := K) rfl) (pv 1) pe_int (fun _ _ => rfl)) (pa_cons (pe_op op_sub (pe_callB (call_lenK (K := K) rfl) rfl T.z_len b_len (pa_cons (pv 1) pa_nil)) pe_int) pa_nil))))) (pss_one ps_never) pss_nil)
     (pss_one (ps_ret (pe_callTy (call_tupK (K := K) rfl) rfl T.z_tuple b_tuple (pa_cons (pe_op (op_plusK (K := K) rfl) (pe_lst (pa_cons (pe_ix (ix_K (K := K) rfl) (pv 1) pe_int (fun _ _ => rfl)) pa_nil)) (pe_comp (own := ["word"]) (fr := []) rfl ⟨rfl, (by walk_at "clok"), (by walk_at "frok"), rfl, (by decide +kernel), (by decide +kernel), rfl⟩ (pi_seqK (K := K) rfl (pe_slice (sl_K (K := K) rfl) (pv 1) (po_some pe_int) po_none)) (fun _ _ _ _ => (pg_name (i := 0) (show List.Nodup [("word" : Str)] from by decide +kernel) rfl (Or.inl rfl))) (fun _ _ _ _ => pts_nil) (fun _ _ _ _ => (pe_callE (ok_read_number (K := K) T) (hr.mono (by decide)) pass0 rfl (pa_cons (pv 0) pa_nil))))) pa_nil)))))), ?_⟩
   refine r_st (σ' := [some _, none]) rfl ?_
   walk_at "rq"
   refine r_split rfl (by have := hok.len; rw [sizeLine_eq]; omega) hok.split (by rw [List.length_cons, List.length_map, sizeLine_eq]; show ns.length + 1 ≤ _; omega) (fun l hl => ?_)
   have hat := at_head (.str w') (ns.map fun n => V.str (numS n))
   have el : ((w', ns).1 :: List.map numS (w', ns).2).map V.str = V.str w' :: ns.map fun n => V.str (numS n) := by
     show _ :: List.map V.str (List.map numS ns) = _
     rw [List.map_map]; rfl
   rw [el]
   walk_at "rq"
   refine r_lenL (SqL.of upd_same) ?_
   walk_at "rq"
   refine ⟨(w', ns), by rw [List.length_cons, List.length_map]; show [V.str w', V.int (((ns.length + 1 : Nat) : Int) - 1)] = [V.str w', V.int (ns.length : Int)]; rw [show ((ns.length + 1 : Nat) : Int) - 1 = (ns.length : Int) by omega], hok, ?_⟩
   walk_at "rq"
   rename_i l2 hl2 l3 hl3
   have ec : cutV (V.str w' :: ns.map fun n => V.str (numS n)) (some 1) none = ns.map fun n => V.str (numS n) := cut_tailV _ _
   rw [ec]
   refine comp_mapL (xs := ns) (emb := fun n => V.str (numS n)) V.int (fun σ => ∃ v, σ = [v]) (SqL.of upd_same) (by rw [sizeLine_eq]; omega) ⟨_, rfl⟩ ?_ ?_
   · rintro i n' ys σ H1 hp c s ⟨v, rfl⟩
     have hn := hnum n' (List.mem_of_getElem? hp)
     walk_at "rq"
     refine ⟨n', rfl, hn.1, hn.2, fun H2 s2 => ?_⟩
     exact c.next hp rfl (by walk_at "same") ⟨_, rfl⟩
   intro H1 s1
   walk_at "rq"
   refine r_tupLst (SqL.of upd_same) fun t nt => ?_
   exact q t _ (by walk_at "same") (by walk_at "none") upd_same
theorem ok_law_blockS {k j : Nat} (G : FnE P w K mg base CX0 k "_law_statement" (spSt K j)) (T : Txt w K mg a) : FnE P w K mg base CX0 (k + 1) "_law_block" (spBk K j) := by
 refine fnE_of (sp := (spBk K j)) k T.fn_law_block sc_law_block (fun vs H Q E h => ?_) (fun f cdv A outer s H vs Q E hr h => ?_)
 · obtain ⟨a0, lh, ns, hd, at', many, rfl, _⟩ := h
   rfl
 · obtain ⟨a0, lh, ns, hd, at', many, rfl, hS, hlh, hHd, a1, a2, m1, m2, j4, q⟩ := h
   refine ⟨_, (pss_cons (ps_set (i := 5) sc_law_block.nd rfl (Or.inl rfl) (pe_lst pa_nil))
     (pss_cons (ps_for PassesOwn.never rfl (pi_range1 rfl T.z_range (pa_cons (pv 2) pa_nil)) (pg_name (i := 6) sc_law_block.nd rfl (Or.inl rfl)) (pss_one (ps_if (pt_cmpR op_lt (pv 1) pe_int (nomark _)) (pss_cons (ps_asg (pe_callE G (hr.mono (Nat.le_refl _)) pass0 rfl (pa_cons (pv 0) (pa_cons (pv 1) (pa_cons (pv 3) (pa_cons (pv 4) pa_nil))))) (pg_tupK (K := K) rfl rfl (pgs_cons (pg_name (i := 7) sc_law_block.nd rfl (Or.inl rfl)) (pgs_cons (pg_name (i := 1) sc_law_block.nd rfl (Or.inl rfl)) pgs_nil))))
     (pss_one (ps_expr (pe_bmK (K := K) rfl PySem.F.plainAttrs_list PySem.F.slot_list_append PySem.F.type_list_append mt_append (pv 5) (pa_cons (pv 7) pa_nil))))) pss_nil)))
     (pss_one (ps_ret (pe_tup (pa_cons (pv 5) (pa_cons (pv 1) pa_nil))))))), ?_⟩
   refine r_st (σ' := [some _, some _, some _, some _, some _, none, none, none]) rfl ?_
   walk_at "rk"
   rename_i l nl
   refine for_range (fun i σ HQ => Same H HQ ∧ ∃ (e : Int) (ps : List Addr) (ss : List Stm) (u v : Option V), σ = [some (.ref a0), some (.int e), some (.int many), some (.int (4 - (j : Int))), some (.ref lh), some (.ref l), u, v] ∧ HQ l = some (.lst (ps.map V.ref)) ∧ ps.length ≤ i ∧ Each (StAt (nw (upd H l (.lst [])) HQ) (j + 1)) ps ss ∧ (∀ s ∈ ss, OkL hd (j + 1) s) ∧ (cntL (j + 1) ss : Int) + at' ≤ e ∧ at' ≤ e ∧ e ≤ 50) ⟨same_new nl, at', [], [], _, _, rfl, upd_same, Nat.le_refl _, Each.nil, (fun _ z => by cases z), by show ((0 : Nat) : Int) + at' ≤ at'; omega, Int.le_refl _, a2⟩ ?_ ?_
   · rintro i σ HQ hi ⟨s1, e, ps, ss, u, v, rfl, hl, hpl, he, hok, hcn, h1, h2⟩
     have hi6 : i < 7 := by omega
     walk_at "rk"
     refine ifDec (fun hh => ?_) (fun hh => ?_)
     · walk_at "rk"
       refine ⟨a0, lh, ns, hd, e, rfl, Same.seq s1 hS, s1 _ _ hlh, hHd, by omega, hh, j4, fun t p s e2 H2 s2 ht hst hks hc2 h3 h4 => ?_⟩
       have hl2 := s2 _ _ hl
       clear hh
       refine r_gTup (SqT.of ht) rfl ?_
       walk_at "rk"
       refine ⟨fun b o eb => by rw [upd_ne (ne_of_none eb nl)]; exact s2 _ _ (s1 _ _ eb), e2, ps ++ [p], ss ++ [s], _, _, rfl, by rw [upd_same, List.map_append]; rfl, by rw [List.length_append]; show ps.length + 1 ≤ i + 1; omega, ?_, fun x hx => ?_, ?_, by omega, h4⟩
       · rw [nw_put]
         refine Each.snoc (he.mono fun p x h => StAt.same (nw_same s2) h) (StAt.same (nw_sub fun b o k1 k2 => ⟨?_, k2⟩) hst)
         by_cases eb : b = l
         · rw [eb, hl] at k1; cases k1
         · rw [upd_ne eb]; exact none_same s1 k1
       · rcases List.mem_append.mp hx with z | z
         · exact hok x z
         · rw [List.mem_singleton.mp z]; exact hks
       · have : cntL (j + 1) (ss ++ [s]) = cntL (j + 1) ss + cnt1 (j + 1) s := by unfold cntL; rw [List.map_append, List.sum_append]; simp
         rw [this]; omega
     · clear hh
       walk_at "rk"
       exact ⟨s1, e, ps, ss, _, _, rfl, hl, by omega, he, hok, hcn, h1, h2⟩
   · rintro σ HQ ⟨s1, e, ps, ss, u, v, rfl, hl, hpl, he, hok, hcn, h1, h2⟩
     walk_at "rk"
     rename_i t nt
     exact q t l ps ss e _ (s1.trans (same_new nt)) nl upd_same (look_new hl nt) (by omega) (he.mono fun p x h => StAt.same (nw_same (same_new nt)) h) hok hcn h1 h2
theorem ok_law_nestedS {k j : Nat} (hk : 4 ≤ k) (G : FnE P w K mg base CX0 k "_law_block" (spBk K j)) (T : Txt w K mg a) : FnE P w K mg base CX0 (k + 1) "_law_nested" (spSt K (j + 1)) := by
 refine fnE_of (sp := (spSt K (j + 1))) k T.fn_law_nested sc_law_nested (fun vs H Q E h => ?_) (fun f cdv A outer s H vs Q E hr h => ?_)
 · obtain ⟨a0, lh, ns, hd, at', rfl, _⟩ := h
   rfl
 · obtain ⟨a0, lh, ns, hd, at', rfl, hS, hlh, hHd, a1, a2, j4, q⟩ := h
   refine' ⟨_, ?body0, ?_⟩
   (case body0 => (refine' pss_cons ?tu1 ?tq2; (case tq2 => (refine' pss_cons ?tu3 ?tq4; (case tq4 => (refine' pss_cons ?tu5 ?tq6; (case tq6 => (refine' pss_cons ?tu7 ?tq8; (case tq8 => (refine' pss_cons ?tu9 ?tq10; (case tq10 => (refine' pss_cons ?tu11 ?tq12; (case tq12 => (refine' pss_one ?tu13; (case tu13 => (refine' ps_ret ?ts14; (case ts14 => (refine' pe_tup ?ta15; (case ta15 => (refine' pa_cons ?tx16 ?ty17 ?tz18; (case tz18 => rfl); (case tx16 => (refine' pe_tup ?ta19; (case ta19 => (refine' pa_cons ?tx20 ?ty21 ?tz22; (case tz22 => rfl); (case tx20 => exact pe_str); (case ty21 => (refine' pa_cons ?tx23 ?ty24 ?tz25; (case tz25 => rfl); (case tx23 => exact (pv 6)); (case ty24 => (refine' pa_cons ?tx26 ?ty27 ?tz28; (case tz28 => rfl); (case tx26 => exact (pv 5)); (case ty27 => (refine' pa_cons ?tx29 ?ty30 ?tz31; (case tz31 => rfl); (case tx29 => exact (pv 7)); (case ty30 => exact pa_nil))))))))))); (case ty17 => (refine' pa_cons ?tx32 ?ty33 ?tz34; (case tz34 => rfl); (case tx32 => exact (pv 1)); (case ty33 => exact pa_nil))))))))))); (case tu11 => (refine' ps_if ?ti35 ?tj36 ?tm37; (case ti35 => exact (pt_cmpR (op_eqK (K := K) rfl hr.units) (pe_op op_mod (pv 4) pe_int) pe_int (nomark _))); (case tj36 => (refine' pss_one ?tu38; (case tu38 => (refine' ps_ret ?ts39; (case ts39 => (refine' pe_tup ?ta40; (case ta40 => (refine' pa_cons ?tx41 ?ty42 ?tz43; (case tz43 => rfl); (case tx41 => (refine' pe_tup ?ta44; (case ta44 => (refine' pa_cons ?tx45 ?ty46 ?tz47; (case tz47 => rfl); (case tx45 => exact pe_str); (case ty46 => (refine' pa_cons ?tx48 ?ty49 ?tz50; (case tz50 => rfl); (case tx48 => exact (pv 5)); (case ty49 => (refine' pa_cons ?tx51 ?ty52 ?tz53; (case tz53 => rfl); (case tx51 => exact (pv 6)); (case ty52 => (refine' pa_cons ?tx54 ?ty55 ?tz56; (case tz56 => rfl); (case tx54 => exact (pv 7)); (case ty55 => exact pa_nil))))))))))); (case ty42 => (refine' pa_cons ?tx57 ?ty58 ?tz59; (case tz59 => rfl); (case tx57 => exact (pv 1)); (case ty58 => exact pa_nil))))))))))); (case tm37 => exact pss_nil))))); (case tu9 => exact (ps_asg (pe_callE G (hr.mono (Nat.le_refl _)) pass0 rfl (pa_cons (pv 0) (pa_cons (pv 1) (pa_cons (pe_op op_mod (pe_op op_fdiv (pv 4) pe_int) pe_int) (pa_cons (pe_op (op_plusK (K := K) rfl) (pv 2) pe_int) (pa_cons (pv 3) pa_nil)))))) (pg_tupK (K := K) rfl rfl (pgs_cons (pg_name (i := 7) sc_law_nested.nd rfl (Or.inl rfl)) (pgs_cons (pg_name (i := 1) sc_law_nested.nd rfl (Or.inl rfl)) pgs_nil))))))); (case tu7 => (refine' ps_if ?ti60 ?tj61 ?tm62; (case ti60 => exact (pt_cmpR (op_eqK (K := K) rfl hr.units) (pe_op op_mod (pv 4) pe_int) pe_int (nomark _))); (case tj61 => (refine' pss_one ?tu63; (case tu63 => (refine' ps_ret ?ts64; (case ts64 => (refine' pe_tup ?ta65; (case ta65 => (refine' pa_cons ?tx66 ?ty67 ?tz68; (case tz68 => rfl); (case tx66 => (refine' pe_tup ?ta69; (case ta69 => (refine' pa_cons ?tx70 ?ty71 ?tz72; (case tz72 => rfl); (case tx70 => exact pe_str); (case ty71 => (refine' pa_cons ?tx73 ?ty74 ?tz75; (case tz75 => rfl); (case tx73 => exact (pv 5)); (case ty74 => (refine' pa_cons ?tx76 ?ty77 ?tz78; (case tz78 => rfl); (case tx76 => exact (pv 6)); (case ty77 => exact pa_nil))))))))); (case ty67 => (refine' pa_cons ?tx79 ?ty80 ?tz81; (case tz81 => rfl); (case tx79 => exact (pv 1)); (case ty80 => exact pa_nil))))))))))); (case tm62 => exact pss_nil))))); (case tu5 => exact (ps_asg (pe_callE G (hr.mono (Nat.le_refl _)) pass0 rfl (pa_cons (pv 0) (pa_cons (pe_op (op_plusK (K := K) rfl) (pv 1) pe_int) (pa_cons (pe_op op_mod (pe_op op_fdiv (pv 4) pe_int) pe_int) (pa_cons (pe_op (op_plusK (K := K) rfl) (pv 2) pe_int) (pa_cons (pv 3) pa_nil)))))) (pg_tupK (K := K) rfl rfl (pgs_cons (pg_name (i := 6) sc_law_nested.nd rfl (Or.inl rfl)) (pgs_cons (pg_name (i := 1) sc_law_nested.nd rfl (Or.inl rfl)) pgs_nil))))))); (case tu3 => exact (ps_set (i := 5) sc_law_nested.nd rfl (Or.inl rfl) (pe_op op_mod (pe_op op_fdiv (pv 4) pe_int) pe_int))))); (case tu1 => exact (ps_set (i := 4) sc_law_nested.nd rfl (Or.inl rfl) (pe_callE (ok_law_number (K := K) T) (hr.mono (by omega)) pass0 rfl (pa_cons (pv 0) (pa_cons (pv 1) pa_nil)))))))
   refine r_st (σ' := [some _, some _, some _, some _, none, none, none, none]) rfl ?_
   walk_at "rk"
   refine ⟨a0, ns, _, rfl, hS, a1, by omega, ?_⟩
   generalize numAt ns at' = n
   walk_at "rk"
   have hx : isN (n / 16 % 6) := ⟨by omega, by omega⟩
   generalize n / 16 % 6 = x at hx ⊢
   refine ⟨a0, lh, ns, hd, at' + 1, _, by rw [show 4 - ((j + 1 : Nat) : Int) + 1 = 4 - (j : Int) by omega], hS, hlh, hHd, by omega, by omega, by omega, by omega, by omega, fun t l ps ss e H1 s1 nl ht hl hpl he hok hcn h1 h2 => ?_⟩
   refine r_gTup (SqT.of ht) rfl ?_
   walk_at "rk"
   refine ifInt (fun hh => ?_) (fun hh => ?_)
   · clear hh ht
     walk_at "rk"
     rename_i tw ntw t2 nt2
     have ntw1 := ntw
     have kF : ∀ b o, H1 b = some o → b ≠ l → (upd (upd H1 tw (.tup [.str "while", .int x, .ref l])) t2 (.tup [.ref tw, .int e])) b = some o := fun b o eb nb => look_new (look_new eb ntw) nt2
     have hlF : (upd (upd H1 tw (.tup [.str "while", .int x, .ref l])) t2 (.tup [.ref tw, .int e])) l = some (.lst (ps.map V.ref)) := look_new (look_new hl ntw) nt2
     have htw : (upd (upd H1 tw (.tup [.str "while", .int x, .ref l])) t2 (.tup [.ref tw, .int e])) tw = some (.tup [.str "while", .int x, .ref l]) := look_new upd_same nt2
     have ht2 : (upd (upd H1 tw (.tup [.str "while", .int x, .ref l])) t2 (.tup [.ref tw, .int e])) t2 = some (.tup [.ref tw, .int e]) := upd_same
     generalize (upd (upd H1 tw (.tup [.str "while", .int x, .ref l])) t2 (.tup [.ref tw, .int e])) = HF at kF hlF htw ht2 ⊢
     have sF : Same H HF := fun b o eb => kF b o (s1 b o eb) (ne_of_none eb nl)
     have sub : Same (nw (upd H l (.lst [])) H1) (nw H HF) := nw_sub fun b o k1 k2 => ⟨(upd_none k1).1, kF b o k2 (upd_none k1).2⟩
     refine q t2 tw (.whileS x ss) e HF sF ht2 ⟨l, nw_at (none_same s1 ntw1) htw, ps, nw_at nl hlF, he.mono fun p z h => StAt.same sub h⟩ ⟨hx, by omega, hok⟩ ?_ (by omega) h2
     have ec : cnt1 (j + 1 + 1) (.whileS x ss) = 1 + cntL (j + 1) ss := rfl
     rw [ec]; omega
   · clear hh ht
     have hS1 := Same.seq s1 hS
     walk_at "rk"
     refine ⟨a0, lh, ns, hd, e, _, by rw [show 4 - ((j + 1 : Nat) : Int) + 1 = 4 - (j : Int) by omega], hS1, s1 _ _ hlh, hHd, by omega, by omega, by omega, by omega, by omega, fun t' l2 ps2 ss2 e2 H2 s2 nl2 ht' hl2 hpl2 he2 hok2 hcn2 h3 h4 => ?_⟩
     refine r_gTup (SqT.of ht') rfl ?_
     clear hS1 ht'
     walk_at "rk"
     refine ifInt (fun hh => ?_) (fun hh => ?_)
     · clear hh
       walk_at "rk"
       rename_i tw ntw t2 nt2
       have sF2 : Same H2 (upd (upd H2 tw (.tup [.str "if", .int x, .ref l, .ref l2])) t2 (.tup [.ref tw, .int e2])) := (same_new ntw).trans (same_new nt2)
       have htw : (upd (upd H2 tw (.tup [.str "if", .int x, .ref l, .ref l2])) t2 (.tup [.ref tw, .int e2])) tw = some (.tup [.str "if", .int x, .ref l, .ref l2]) := look_new upd_same nt2
       have ht2 : (upd (upd H2 tw (.tup [.str "if", .int x, .ref l, .ref l2])) t2 (.tup [.ref tw, .int e2])) t2 = some (.tup [.ref tw, .int e2]) := upd_same
       generalize (upd (upd H2 tw (.tup [.str "if", .int x, .ref l, .ref l2])) t2 (.tup [.ref tw, .int e2])) = HF at sF2 htw ht2 ⊢
       have sub : Same (nw (upd H l (.lst [])) H1) (nw H HF) := nw_sub fun b o k1 k2 => ⟨(upd_none k1).1, sF2 _ _ (s2 _ _ k2)⟩
       have sub2 : Same (nw (upd H1 l2 (.lst [])) H2) (nw H HF) := nw_sub fun b o k1 k2 => ⟨none_same s1 (upd_none k1).1, sF2 _ _ k2⟩
       refine q t2 tw (.ifS x ss ss2) e2 HF (s1.trans (s2.trans sF2)) ht2 ⟨l, l2, nw_at (none_same s1 (none_same s2 ntw)) htw, ⟨ps, nw_at nl (sF2 _ _ (s2 _ _ hl)), he.mono fun p z h => StAt.same sub h⟩, ⟨ps2, nw_at (none_same s1 nl2) (sF2 _ _ hl2), he2.mono fun p z h => StAt.same sub2 h⟩⟩ ⟨hx, by omega, hok, hok2⟩ ?_ (by omega) h4
       have ec : cnt1 (j + 1 + 1) (.ifS x ss ss2) = 1 + cntL (j + 1) ss + cntL (j + 1) ss2 := rfl
       rw [ec]; omega
     · clear hh
       walk_at "rk"
       rename_i tw ntw t2 nt2
       have sF2 : Same H2 (upd (upd H2 tw (.tup [.str "try", .ref l, .int x, .ref l2])) t2 (.tup [.ref tw, .int e2])) := (same_new ntw).trans (same_new nt2)
       have htw : (upd (upd H2 tw (.tup [.str "try", .ref l, .int x, .ref l2])) t2 (.tup [.ref tw, .int e2])) tw = some (.tup [.str "try", .ref l, .int x, .ref l2]) := look_new upd_same nt2
       have ht2 : (upd (upd H2 tw (.tup [.str "try", .ref l, .int x, .ref l2])) t2 (.tup [.ref tw, .int e2])) t2 = some (.tup [.ref tw, .int e2]) := upd_same
       generalize (upd (upd H2 tw (.tup [.str "try", .ref l, .int x, .ref l2])) t2 (.tup [.ref tw, .int e2])) = HF at sF2 htw ht2 ⊢
       have sub : Same (nw (upd H l (.lst [])) H1) (nw H HF) := nw_sub fun b o k1 k2 => ⟨(upd_none k1).1, sF2 _ _ (s2 _ _ k2)⟩
       have sub2 : Same (nw (upd H1 l2 (.lst [])) H2) (nw H HF) := nw_sub fun b o k1 k2 => ⟨none_same s1 (upd_none k1).1, sF2 _ _ k2⟩
       refine q t2 tw (.tryS ss x ss2) e2 HF (s1.trans (s2.trans sF2)) ht2 ⟨l, l2, nw_at (none_same s1 (none_same s2 ntw)) htw, ⟨ps, nw_at nl (sF2 _ _ (s2 _ _ hl)), he.mono fun p z h => StAt.same sub h⟩, ⟨ps2, nw_at (none_same s1 nl2) (sF2 _ _ hl2), he2.mono fun p z h => StAt.same sub2 h⟩⟩ ⟨hx, by omega, hok, hok2⟩ ?_ (by omega) h4
       have ec : cnt1 (j + 1 + 1) (.tryS ss x ss2) = 1 + cntL (j + 1) ss + cntL (j + 1) ss2 := rfl
       rw [ec]; omega
theorem ok_law_statementS {k j : Nat} (hk : 4 ≤ k) (G : FnE P w K mg base CX0 k "_law_nested" (spSt K (j + 1))) (T : Txt w K mg a) : FnE P w K mg base CX0 (k + 1) "_law_statement" (spSt K (j + 1)) := by
 refine fnE_of (sp := (spSt K (j + 1))) k T.fn_law_statement sc_law_statement (fun vs H Q E h => ?_) (fun f cdv A outer s H vs Q E hr h => ?_)
 · obtain ⟨a0, lh, ns, hd, at', rfl, _⟩ := h
   rfl
 · obtain ⟨a0, lh, ns, hd, at', rfl, hS, hlh, hHd, a1, a2, j4, q⟩ := h
   refine' ⟨_, ?body0, ?_⟩
   (case body0 => (refine' pss_cons ?tu82 ?tq83; (case tq83 => (refine' pss_cons ?tu84 ?tq85; (case tq85 => (refine' pss_cons ?tu86 ?tq87; (case tq87 => (refine' pss_cons ?tu88 ?tq89; (case tq89 => (refine' pss_cons ?tu90 ?tq91; (case tq91 => (refine' pss_cons ?tu92 ?tq93; (case tq93 => (refine' pss_cons ?tu94 ?tq95; (case tq95 => (refine' pss_cons ?tu96 ?tq97; (case tq97 => (refine' pss_cons ?tu98 ?tq99; (case tq99 => (refine' pss_cons ?tu100 ?tq101; (case tq101 => (refine' pss_cons ?tu102 ?tq103; (case tq103 => (refine' pss_cons ?tu104 ?tq105; (case tq105 => (refine' pss_cons ?tu106 ?tq107; (case tq107 => (refine' pss_cons ?tu108 ?tq109; (case tq109 => (refine' pss_one ?tu110; (case tu110 => (refine' ps_ret ?ts111; (case ts111 => (refine' pe_tup ?ta112; (case ta112 => (refine' pa_cons ?tx113 ?ty114 ?tz115; (case tz115 => rfl); (case tx113 => (refine' pe_tup ?ta116; (case ta116 => (refine' pa_cons ?tx117 ?ty118 ?tz119; (case tz119 => rfl); (case tx117 => exact pe_str); (case ty118 => (refine' pa_cons ?tx120 ?ty121 ?tz122; (case tz122 => rfl); (case tx120 => exact (pv 7)); (case ty121 => (refine' pa_cons ?tx123 ?ty124 ?tz125; (case tz125 => rfl); (case tx123 => exact (pe_op op_mod (pe_callE (ok_law_cell_at (K := K) T) (hr.mono (by omega)) pass0 rfl (pa_cons (pv 0) (pa_cons (pv 1) pa_nil))) pe_int)); (case ty124 => exact pa_nil))))))))); (case ty114 => (refine' pa_cons ?tx126 ?ty127 ?tz128; (case tz128 => rfl); (case tx126 => exact (pe_op (op_plusK (K := K) rfl) (pv 1) pe_int)); (case ty127 => exact pa_nil))))))))))); (case tu108 => (refine' ps_if ?ti129 ?tj130 ?tm131; (case ti129 => (refine' pt_cmpR (op_inK (K := K) rfl) ?tl132 ?tr133 rfl; (case tl132 => exact (pv 6)); (case tr133 => (refine' pe_tup ?ta134; (case ta134 => (refine' pa_cons ?tx135 ?ty136 ?tz137; (case tz137 => rfl); (case tx135 => exact pe_str); (case ty136 => (refine' pa_cons ?tx138 ?ty139 ?tz140; (case tz140 => rfl); (case tx138 => exact pe_str); (case ty139 => (refine' pa_cons ?tx141 ?ty142 ?tz143; (case tz143 => rfl); (case tx141 => exact pe_str); (case ty142 => (refine' pa_cons ?tx144 ?ty145 ?tz146; (case tz146 => rfl); (case tx144 => exact pe_str); (case ty145 => exact pa_nil))))))))))))); (case tj130 => exact (pss_one (ps_ret (pe_tup (pa_cons (pe_tup (pa_cons (pv 6) (pa_cons (pv 7) (pa_cons (pv 8) (pa_cons (pv 9) pa_nil))))) (pa_cons (pe_op (op_plusK (K := K) rfl) (pv 1) pe_int) pa_nil)))))); (case tm131 => exact pss_nil))))); (case tu106 => exact (ps_if (pt_cmpR (op_eqK (K := K) rfl hr.units) (pv 6) pe_str (nomark _)) (pss_one (ps_ret (pe_tup (pa_cons (pe_tup (pa_cons (pv 6) (pa_cons (pv 7) (pa_cons (pv 8) pa_nil)))) (pa_cons (pe_op (op_plusK (K := K) rfl) (pv 1) pe_int) pa_nil))))) pss_nil)))); (case tu104 => exact (ps_if (PW.pt (pw_or (pt_cmpR (op_eqK (K := K) rfl hr.units) (pv 6) pe_str (nomark _)) (pw_or1 (pt_cmpR (op_eqK (K := K) rfl hr.units) (pv 6) pe_str (nomark _))))) (pss_one (ps_ret (pe_tup (pa_cons (pe_tup (pa_cons (pv 6) (pa_cons (pv 7) pa_nil))) (pa_cons (pe_op (op_plusK (K := K) rfl) (pv 1) pe_int) pa_nil))))) pss_nil)))); (case tu102 => (refine' ps_if ?ti147 ?tj148 ?tm149; (case ti147 => exact (pt_cmpR (op_eqK (K := K) rfl hr.units) (pv 6) pe_str (nomark _))); (case tj148 => (refine' pss_one ?tu150; (case tu150 => (refine' ps_ret ?ts151; (case ts151 => (refine' pe_tup ?ta152; (case ta152 => (refine' pa_cons ?tx153 ?ty154 ?tz155; (case tz155 => rfl); (case tx153 => (refine' pe_tup ?ta156; (case ta156 => (refine' pa_cons ?tx157 ?ty158 ?tz159; (case tz159 => rfl); (case tx157 => exact pe_str); (case ty158 => (refine' pa_cons ?tx160 ?ty161 ?tz162; (case tz162 => rfl); (case tx160 => exact (pv 10)); (case ty161 => (refine' pa_cons ?tx163 ?ty164 ?tz165; (case tz165 => rfl); (case tx163 => exact (pv 11)); (case ty164 => exact pa_nil))))))))); (case ty154 => (refine' pa_cons ?tx166 ?ty167 ?tz168; (case tz168 => rfl); (case tx166 => exact (pe_op (op_plusK (K := K) rfl) (pv 1) pe_int)); (case ty167 => exact pa_nil))))))))))); (case tm149 => exact pss_nil))))); (case tu100 => (refine' ps_if ?ti169 ?tj170 ?tm171; (case ti169 => exact (pt_cmpR (op_eqK (K := K) rfl hr.units) (pv 6) pe_str (nomark _))); (case tj170 => (refine' pss_one ?tu172; (case tu172 => (refine' ps_ret ?ts173; (case ts173 => (refine' pe_tup ?ta174; (case ta174 => (refine' pa_cons ?tx175 ?ty176 ?tz177; (case tz177 => rfl); (case tx175 => (refine' pe_tup ?ta178; (case ta178 => (refine' pa_cons ?tx179 ?ty180 ?tz181; (case tz181 => rfl); (case tx179 => exact pe_str); (case ty180 => (refine' pa_cons ?tx182 ?ty183 ?tz184; (case tz184 => rfl); (case tx182 => exact (pv 7)); (case ty183 => (refine' pa_cons ?tx185 ?ty186 ?tz187; (case tz187 => rfl); (case tx185 => exact (pv 10)); (case ty186 => (refine' pa_cons ?tx188 ?ty189 ?tz190; (case tz190 => rfl); (case tx188 => exact (pv 11)); (case ty189 => exact pa_nil))))))))))); (case ty176 => (refine' pa_cons ?tx191 ?ty192 ?tz193; (case tz193 => rfl); (case tx191 => exact (pe_op (op_plusK (K := K) rfl) (pv 1) pe_int)); (case ty192 => exact pa_nil))))))))))); (case tm171 => exact pss_nil))))); (case tu98 => (refine' ps_if ?ti194 ?tj195 ?tm196; (case ti194 => (refine' PW.pt ?tb197; (case tb197 => (refine' pw_and ?tt198 ?tw199; (case tt198 => (refine' pt_cmpR (op_inK (K := K) rfl) ?tl200 ?tr201 rfl; (case tl200 => exact (pv 6)); (case tr201 => (refine' pe_tup ?ta202; (case ta202 => (refine' pa_cons ?tx203 ?ty204 ?tz205; (case tz205 => rfl); (case tx203 => exact pe_str); (case ty204 => (refine' pa_cons ?tx206 ?ty207 ?tz208; (case tz208 => rfl); (case tx206 => exact pe_str); (case ty207 => (refine' pa_cons ?tx209 ?ty210 ?tz211; (case tz211 => rfl); (case tx209 => exact pe_str); (case ty210 => exact pa_nil))))))))))); (case tw199 => (refine' pw_and1 ?tt212; (case tt212 => exact (pt_cmpR op_lt (pv 2) pe_int (nomark _))))))))); (case tj195 => exact (pss_one (ps_ret (pe_callE G (hr.mono (Nat.le_refl _)) pass0 rfl (pa_cons (pv 0) (pa_cons (pv 1) (pa_cons (pv 2) (pa_cons (pv 3) pa_nil)))))))); (case tm196 => exact pss_nil))))); (case tu96 => exact (ps_setC (i := 11) sc_law_statement.nd rfl rfl (own := ["_law_k"]) (fr := [("_law_y", 8), ("_law_z", 9)]) rfl ⟨rfl, (by walk_at "clok"), (by walk_at "frok"), rfl, (by decide +kernel), (by decide +kernel), rfl⟩ (pi_range1 rfl T.z_range (pa_cons (pe_ix (ix_K (K := K) rfl) (pv 3) (pv 10) (fun _ _ => rfl)) pa_nil)) (fun _ _ _ _ => (pg_name (i := 0) (show List.Nodup [("_law_k" : Str), ("_law_y" : Str), ("_law_z" : Str)] from by decide +kernel) rfl (Or.inl rfl))) (fun _ _ _ _ => pts_nil) (fun _ _ _ _ => (pe_op op_mod (pe_op (op_plusK (K := K) rfl) (pv 2) (pe_op op_times (pv 0) (pv 1))) pe_int)))))); (case tu94 => exact (ps_set (i := 10) sc_law_statement.nd rfl (Or.inl rfl) (pe_op op_mod (pe_op op_fdiv (pv 4) pe_int) (pe_callB (call_lenK (K := K) rfl) rfl T.z_len b_len (pa_cons (pv 3) pa_nil))))))); (case tu92 => exact (ps_set (i := 9) sc_law_statement.nd rfl (Or.inr rfl) (pe_op op_mod (pe_op op_fdiv (pv 4) pe_int) pe_int))))); (case tu90 => exact (ps_set (i := 8) sc_law_statement.nd rfl (Or.inr rfl) (pe_op op_mod (pe_op op_fdiv (pv 4) pe_int) pe_int))))); (case tu88 => exact (ps_set (i := 7) sc_law_statement.nd rfl (Or.inl rfl) (pe_op op_mod (pe_op op_fdiv (pv 4) pe_int) pe_int))))); (case tu86 => (refine' ps_set (i := 6) ?tv213 ?tv214 ?tv215 ?tv216 ?tv217 ?tv218; (case tv213 => exact sc_law_statement.nd); (case tv214 => rfl); (case tv215 => exact (Or.inl rfl)); (case tv217 => rfl); (case tv218 => exact .inl rfl); (case tv216 => exact (pe_ix (ix_K (K := K) rfl) (pe_op (op_plusK (K := K) rfl) (pv 5) (pe_lst (pa_cons pe_str (pa_cons pe_str (pa_cons pe_str (pa_cons pe_str pa_nil)))))) (pe_op op_mod (pv 4) pe_int) (fun _ _ => rfl))))))); (case tu84 => (refine' ps_set (i := 5) ?tv219 ?tv220 ?tv221 ?tv222 ?tv223 ?tv224; (case tv219 => exact sc_law_statement.nd); (case tv220 => rfl); (case tv221 => exact (Or.inl rfl)); (case tv223 => rfl); (case tv224 => exact .inl rfl); (case tv222 => (refine' pe_lst ?ta225; (case ta225 => (refine' pa_cons ?tx226 ?ty227 ?tz228; (case tz228 => rfl); (case tx226 => exact pe_str); (case ty227 => (refine' pa_cons ?tx229 ?ty230 ?tz231; (case tz231 => rfl); (case tx229 => exact pe_str); (case ty230 => (refine' pa_cons ?tx232 ?ty233 ?tz234; (case tz234 => rfl); (case tx232 => exact pe_str); (case ty233 => (refine' pa_cons ?tx235 ?ty236 ?tz237; (case tz237 => rfl); (case tx235 => exact pe_str); (case ty236 => (refine' pa_cons ?tx238 ?ty239 ?tz240; (case tz240 => rfl); (case tx238 => exact pe_str); (case ty239 => (refine' pa_cons ?tx241 ?ty242 ?tz243; (case tz243 => rfl); (case tx241 => exact pe_str); (case ty242 => (refine' pa_cons ?tx244 ?ty245 ?tz246; (case tz246 => rfl); (case tx244 => exact pe_str); (case ty245 => (refine' pa_cons ?tx247 ?ty248 ?tz249; (case tz249 => rfl); (case tx247 => exact pe_str); (case ty248 => (refine' pa_cons ?tx250 ?ty251 ?tz252; (case tz252 => rfl); (case tx250 => exact pe_str); (case ty251 => (refine' pa_cons ?tx253 ?ty254 ?tz255; (case tz255 => rfl); (case tx253 => exact pe_str); (case ty254 => (refine' pa_cons ?tx256 ?ty257 ?tz258; (case tz258 => rfl); (case tx256 => exact pe_str); (case ty257 => (refine' pa_cons ?tx259 ?ty260 ?tz261; (case tz261 => rfl); (case tx259 => exact pe_str); (case ty260 => exact pa_nil))))))))))))))))))))))))))))))); (case tu82 => exact (ps_set (i := 4) sc_law_statement.nd rfl (Or.inl rfl) (pe_callE (ok_law_number (K := K) T) (hr.mono (by omega)) pass0 rfl (pa_cons (pv 0) (pa_cons (pv 1) pa_nil)))))))
   refine r_st (σ' := [some _, some _, some _, some _, none, none, none, none, none, none, none, none]) rfl ?_
   walk_at "rk"
   refine ⟨a0, ns, _, rfl, hS, a1, by omega, ?_⟩
   generalize numAt ns at' = n
   walk_at "rk"
   rename_i lw1 nlw1 lw2 nlw2
   refine r_plusL (look_new upd_same nlw2) upd_same (Nat.le_of_ble_eq_true rfl) fun lw3 nlw3 => ?_
   obtain ⟨w', hw1, hw2⟩ := words_at (m := n % 16) (by omega) (by omega)
   have sB : Same H (upd (upd (upd H lw1 (.lst [.str "set", .str "sum", .str "copy", .str "call", .str "if", .str "while", .str "less", .str "minus", .str "try", .str "call", .str "product", .str "drop"])) lw2 (.lst [.str "give", .str "hand", .str "set", .str "sum"])) lw3 (.lst ([.str "set", .str "sum", .str "copy", .str "call", .str "if", .str "while", .str "less", .str "minus", .str "try", .str "call", .str "product", .str "drop"] ++ [.str "give", .str "hand", .str "set", .str "sum"]))) := (same_new nlw1).trans ((same_new nlw2).trans (same_new nlw3))
   have hlw : (upd (upd (upd H lw1 (.lst [.str "set", .str "sum", .str "copy", .str "call", .str "if", .str "while", .str "less", .str "minus", .str "try", .str "call", .str "product", .str "drop"])) lw2 (.lst [.str "give", .str "hand", .str "set", .str "sum"])) lw3 (.lst ([.str "set", .str "sum", .str "copy", .str "call", .str "if", .str "while", .str "less", .str "minus", .str "try", .str "call", .str "product", .str "drop"] ++ [.str "give", .str "hand", .str "set", .str "sum"]))) lw3 = some (.lst wordsV) := upd_same
   generalize (upd (upd (upd H lw1 (.lst [.str "set", .str "sum", .str "copy", .str "call", .str "if", .str "while", .str "less", .str "minus", .str "try", .str "call", .str "product", .str "drop"])) lw2 (.lst [.str "give", .str "hand", .str "set", .str "sum"])) lw3 (.lst ([.str "set", .str "sum", .str "copy", .str "call", .str "if", .str "while", .str "less", .str "minus", .str "try", .str "call", .str "product", .str "drop"] ++ [.str "give", .str "hand", .str "set", .str "sum"]))) = HB at sB hlw ⊢
   clear nlw1 nlw2 nlw3
   have hx : isN (n / 16 % 6) := ⟨by omega, by omega⟩
   have hy : isN (n / 96 % 6) := ⟨by omega, by omega⟩
   have hz : isN (n / 576 % 6) := ⟨by omega, by omega⟩
   have hlhB := sB _ _ hlh
   walk_at "rk"
   clear hw1 hlw
   refine r_lenL (SqL.of hlhB) ?_
   rw [List.length_map]
   have hl1 := hHd.one
   have hl3 := hHd.three
   walk_at "rk"
   have hf0 : 0 ≤ n / 3456 % (hd.length : Int) := Int.emod_nonneg _ (by omega)
   have hfl : n / 3456 % (hd.length : Int) < hd.length := Int.emod_lt_of_pos _ (by omega)
   generalize n / 16 % 6 = x at hx ⊢
   generalize n / 96 % 6 = y at hy ⊢
   generalize n / 576 % 6 = z at hz ⊢
   generalize n / 3456 % (hd.length : Int) = f' at hf0 hfl ⊢
   clear hl1 hl3
   obtain ⟨m, hm⟩ : ∃ m, hd[f'.toNat]? = some m := ⟨_, List.getElem?_eq_getElem (show f'.toNat < hd.length by omega)⟩
   have hm3 := hHd.val m (List.mem_of_getElem? hm)
   have hat : atI (hd.map V.int) f' = some (.int m) := by
     have := gI_at (xs := hd) hf0 (by omega)
     rw [this]
     unfold gI
     rw [List.getD_eq_getElem?_getD, hm]; rfl
   walk_at "rk"
   refine comp_range (fun i ys σ HQ => (∃ v, σ = [v, some (.int y), some (.int z)]) ∧ Same HB HQ ∧ ∃ ks : List Int, ys = ks.map V.int ∧ ks.length = i ∧ ∀ k ∈ ks, isN k) ⟨⟨_, rfl⟩, Same.refl _, [], rfl, rfl, (fun _ z => by cases z)⟩ ?_ ?_ ?_
   · rintro i ys σ HQ hi ⟨_, _, ks, rfl, e, _⟩
     rw [List.length_map, e]
     walk_at "small"
   · rintro i ys σ HQ hi ⟨⟨v, rfl⟩, s1, ks, rfl, hl, hk⟩
     walk_at "rd"
     refine ⟨⟨_, rfl⟩, s1, ks ++ [_], by rw [List.map_append]; rfl, by rw [List.length_append, hl]; rfl, fun x hx => ?_⟩
     rcases List.mem_append.mp hx with z | z
     · exact hk x z
     · rw [List.mem_singleton.mp z]; exact ⟨by omega, by omega⟩
   rintro ys σ HQ ⟨_, s8, nms, rfl, hnl, hnn⟩ ln nln
   have sC := sB.trans (s8.trans (same_new (o := .lst (nms.map V.int)) nln))
   have hln : (upd HQ ln (.lst (nms.map V.int))) ln = some (.lst (nms.map V.int)) := upd_same
   replace nln : H ln = none := none_same sB (none_same s8 nln)
   generalize (upd HQ ln (.lst (nms.map V.int))) = HC at sC hln ⊢
   have hfm : hd[f'.toNat]? = some (nms.length : Int) := by rw [hm]; exact congrArg some (by omega)
   clear sB s8 hlhB hat hm hnl hm3
   rcases hw2 with rfl | rfl | rfl | rfl | rfl | rfl | rfl | rfl | rfl | rfl | rfl | rfl | rfl
   · have hSc := Same.seq sC hS
     walk_at "rk"
     repeat (rename @Eq Bool _ _ => hzz; clear hzz)
     rename_i ti nti t4 nt4 tp ntp t2 nt2
     have nt1 : HC tp = none := (upd_none (upd_none ntp).1).1
     generalize zz : (upd (upd (upd (upd HC ti (.tup [.str "if", .str "while", .str "try"])) t4 (.tup [.str "sum", .str "minus", .str "product", .str "less"])) tp (.tup [.str "set", .int x, .int (cellAt ns at' % 4294967296)])) t2 (.tup [.ref tp, .int (at' + 1)])) = HF
     have sHF : Same HC HF := by rw [← zz]; exact (same_new nti).trans ((same_new nt4).trans ((same_new ntp).trans (same_new nt2)))
     have h_ti : HF ti = some (.tup [.str "if", .str "while", .str "try"]) := by rw [← zz]; exact look_new (look_new (look_new upd_same nt4) ntp) nt2
     have h_t4 : HF t4 = some (.tup [.str "sum", .str "minus", .str "product", .str "less"]) := by rw [← zz]; exact look_new (look_new upd_same ntp) nt2
     have h_tp : HF tp = some (.tup [.str "set", .int x, .int (cellAt ns at' % 4294967296)]) := by rw [← zz]; exact look_new upd_same nt2
     have h_t2 : HF t2 = some (.tup [.ref tp, .int (at' + 1)]) := by rw [← zz]; exact upd_same
     clear zz nti nt4 ntp nt2
     exact q t2 tp (.pl (.set x (cellAt ns at' % 4294967296))) (at' + 1) HF (sC.trans sHF) h_t2 (nw_at (none_same sC nt1) h_tp) (show (Sm.set x (cellAt ns at' % 4294967296)).ok from ⟨hx, by omega, by omega⟩) (by show ((1 : Nat) : Int) + at' ≤ at' + 1; omega) (by omega) (by omega)
   · walk_at "rk"
     repeat (rename @Eq Bool _ _ => hzz; clear hzz)
     rename_i ti nti t4 nt4 tp ntp t2 nt2
     have nt1 : HC tp = none := (upd_none (upd_none ntp).1).1
     generalize zz : (upd (upd (upd (upd HC ti (.tup [.str "if", .str "while", .str "try"])) t4 (.tup [.str "sum", .str "minus", .str "product", .str "less"])) tp (.tup [.str "sum", .int x, .int y, .int z])) t2 (.tup [.ref tp, .int (at' + 1)])) = HF
     have sHF : Same HC HF := by rw [← zz]; exact (same_new nti).trans ((same_new nt4).trans ((same_new ntp).trans (same_new nt2)))
     have h_ti : HF ti = some (.tup [.str "if", .str "while", .str "try"]) := by rw [← zz]; exact look_new (look_new (look_new upd_same nt4) ntp) nt2
     have h_t4 : HF t4 = some (.tup [.str "sum", .str "minus", .str "product", .str "less"]) := by rw [← zz]; exact look_new (look_new upd_same ntp) nt2
     have h_tp : HF tp = some (.tup [.str "sum", .int x, .int y, .int z]) := by rw [← zz]; exact look_new upd_same nt2
     have h_t2 : HF t2 = some (.tup [.ref tp, .int (at' + 1)]) := by rw [← zz]; exact upd_same
     clear zz nti nt4 ntp nt2
     exact q t2 tp (.pl (.sum x y z)) (at' + 1) HF (sC.trans sHF) h_t2 (nw_at (none_same sC nt1) h_tp) (show (Sm.sum x y z).ok from ⟨hx, hy, hz⟩) (by show ((1 : Nat) : Int) + at' ≤ at' + 1; omega) (by omega) (by omega)
   · walk_at "rk"
     repeat (rename @Eq Bool _ _ => hzz; clear hzz)
     rename_i ti nti tp ntp t2 nt2
     have nt1 : HC tp = none := (upd_none ntp).1
     generalize zz : (upd (upd (upd HC ti (.tup [.str "if", .str "while", .str "try"])) tp (.tup [.str "copy", .int x, .int y])) t2 (.tup [.ref tp, .int (at' + 1)])) = HF
     have sHF : Same HC HF := by rw [← zz]; exact (same_new nti).trans ((same_new ntp).trans (same_new nt2))
     have h_ti : HF ti = some (.tup [.str "if", .str "while", .str "try"]) := by rw [← zz]; exact look_new (look_new upd_same ntp) nt2
     have h_tp : HF tp = some (.tup [.str "copy", .int x, .int y]) := by rw [← zz]; exact look_new upd_same nt2
     have h_t2 : HF t2 = some (.tup [.ref tp, .int (at' + 1)]) := by rw [← zz]; exact upd_same
     clear zz nti ntp nt2
     exact q t2 tp (.pl (.copy x y)) (at' + 1) HF (sC.trans sHF) h_t2 (nw_at (none_same sC nt1) h_tp) (show (Sm.copy x y).ok from ⟨hx, hy⟩) (by show ((1 : Nat) : Int) + at' ≤ at' + 1; omega) (by omega) (by omega)
   · walk_at "rk"
     repeat (rename @Eq Bool _ _ => hzz; clear hzz)
     rename_i ti nti tp ntp t2 nt2
     have nt1 : HC tp = none := (upd_none ntp).1
     generalize zz : (upd (upd (upd HC ti (.tup [.str "if", .str "while", .str "try"])) tp (.tup [.str "call", .int x, .int f', .ref ln])) t2 (.tup [.ref tp, .int (at' + 1)])) = HF
     have sHF : Same HC HF := by rw [← zz]; exact (same_new nti).trans ((same_new ntp).trans (same_new nt2))
     have h_ti : HF ti = some (.tup [.str "if", .str "while", .str "try"]) := by rw [← zz]; exact look_new (look_new upd_same ntp) nt2
     have h_tp : HF tp = some (.tup [.str "call", .int x, .int f', .ref ln]) := by rw [← zz]; exact look_new upd_same nt2
     have h_t2 : HF t2 = some (.tup [.ref tp, .int (at' + 1)]) := by rw [← zz]; exact upd_same
     clear zz nti ntp nt2
     exact q t2 tp (.call x f' nms true) (at' + 1) HF (sC.trans sHF) h_t2 (⟨ln, nw_at (none_same sC nt1) h_tp, nw_at nln (sHF _ _ hln)⟩) ⟨hx, hf0, hnn, hfm, rfl⟩ (by show ((1 : Nat) : Int) + at' ≤ at' + 1; omega) (by omega) (by omega)
   · walk_at "rk"
     repeat (rename @Eq Bool _ _ => hzz; clear hzz)
     rename_i ti nti _
     replace sC := sC.trans (same_new (o := .tup [.str "if", .str "while", .str "try"]) nti)
     exact ⟨a0, lh, ns, hd, at', rfl, Same.seq sC hS, sC _ _ hlh, hHd, a1, a2, j4, fun t p s e H' s' ht hst hok hcn h1 h2 => q t p s e H' (sC.trans s') ht (StAt.same (nw_sub fun b o k1 k2 => ⟨none_same sC k1, k2⟩) hst) hok hcn h1 h2⟩
   · walk_at "rk"
     repeat (rename @Eq Bool _ _ => hzz; clear hzz)
     rename_i ti nti _
     replace sC := sC.trans (same_new (o := .tup [.str "if", .str "while", .str "try"]) nti)
     exact ⟨a0, lh, ns, hd, at', rfl, Same.seq sC hS, sC _ _ hlh, hHd, a1, a2, j4, fun t p s e H' s' ht hst hok hcn h1 h2 => q t p s e H' (sC.trans s') ht (StAt.same (nw_sub fun b o k1 k2 => ⟨none_same sC k1, k2⟩) hst) hok hcn h1 h2⟩
   · walk_at "rk"
     repeat (rename @Eq Bool _ _ => hzz; clear hzz)
     rename_i ti nti t4 nt4 tp ntp t2 nt2
     have nt1 : HC tp = none := (upd_none (upd_none ntp).1).1
     generalize zz : (upd (upd (upd (upd HC ti (.tup [.str "if", .str "while", .str "try"])) t4 (.tup [.str "sum", .str "minus", .str "product", .str "less"])) tp (.tup [.str "less", .int x, .int y, .int z])) t2 (.tup [.ref tp, .int (at' + 1)])) = HF
     have sHF : Same HC HF := by rw [← zz]; exact (same_new nti).trans ((same_new nt4).trans ((same_new ntp).trans (same_new nt2)))
     have h_ti : HF ti = some (.tup [.str "if", .str "while", .str "try"]) := by rw [← zz]; exact look_new (look_new (look_new upd_same nt4) ntp) nt2
     have h_t4 : HF t4 = some (.tup [.str "sum", .str "minus", .str "product", .str "less"]) := by rw [← zz]; exact look_new (look_new upd_same ntp) nt2
     have h_tp : HF tp = some (.tup [.str "less", .int x, .int y, .int z]) := by rw [← zz]; exact look_new upd_same nt2
     have h_t2 : HF t2 = some (.tup [.ref tp, .int (at' + 1)]) := by rw [← zz]; exact upd_same
     clear zz nti nt4 ntp nt2
     exact q t2 tp (.pl (.less x y z)) (at' + 1) HF (sC.trans sHF) h_t2 (nw_at (none_same sC nt1) h_tp) (show (Sm.less x y z).ok from ⟨hx, hy, hz⟩) (by show ((1 : Nat) : Int) + at' ≤ at' + 1; omega) (by omega) (by omega)
   · walk_at "rk"
     repeat (rename @Eq Bool _ _ => hzz; clear hzz)
     rename_i ti nti t4 nt4 tp ntp t2 nt2
     have nt1 : HC tp = none := (upd_none (upd_none ntp).1).1
     generalize zz : (upd (upd (upd (upd HC ti (.tup [.str "if", .str "while", .str "try"])) t4 (.tup [.str "sum", .str "minus", .str "product", .str "less"])) tp (.tup [.str "minus", .int x, .int y, .int z])) t2 (.tup [.ref tp, .int (at' + 1)])) = HF
     have sHF : Same HC HF := by rw [← zz]; exact (same_new nti).trans ((same_new nt4).trans ((same_new ntp).trans (same_new nt2)))
     have h_ti : HF ti = some (.tup [.str "if", .str "while", .str "try"]) := by rw [← zz]; exact look_new (look_new (look_new upd_same nt4) ntp) nt2
     have h_t4 : HF t4 = some (.tup [.str "sum", .str "minus", .str "product", .str "less"]) := by rw [← zz]; exact look_new (look_new upd_same ntp) nt2
     have h_tp : HF tp = some (.tup [.str "minus", .int x, .int y, .int z]) := by rw [← zz]; exact look_new upd_same nt2
     have h_t2 : HF t2 = some (.tup [.ref tp, .int (at' + 1)]) := by rw [← zz]; exact upd_same
     clear zz nti nt4 ntp nt2
     exact q t2 tp (.pl (.minus x y z)) (at' + 1) HF (sC.trans sHF) h_t2 (nw_at (none_same sC nt1) h_tp) (show (Sm.minus x y z).ok from ⟨hx, hy, hz⟩) (by show ((1 : Nat) : Int) + at' ≤ at' + 1; omega) (by omega) (by omega)
   · walk_at "rk"
     repeat (rename @Eq Bool _ _ => hzz; clear hzz)
     rename_i ti nti _
     replace sC := sC.trans (same_new (o := .tup [.str "if", .str "while", .str "try"]) nti)
     exact ⟨a0, lh, ns, hd, at', rfl, Same.seq sC hS, sC _ _ hlh, hHd, a1, a2, j4, fun t p s e H' s' ht hst hok hcn h1 h2 => q t p s e H' (sC.trans s') ht (StAt.same (nw_sub fun b o k1 k2 => ⟨none_same sC k1, k2⟩) hst) hok hcn h1 h2⟩
   · walk_at "rk"
     repeat (rename @Eq Bool _ _ => hzz; clear hzz)
     rename_i ti nti t4 nt4 tp ntp t2 nt2
     have nt1 : HC tp = none := (upd_none (upd_none ntp).1).1
     generalize zz : (upd (upd (upd (upd HC ti (.tup [.str "if", .str "while", .str "try"])) t4 (.tup [.str "sum", .str "minus", .str "product", .str "less"])) tp (.tup [.str "product", .int x, .int y, .int z])) t2 (.tup [.ref tp, .int (at' + 1)])) = HF
     have sHF : Same HC HF := by rw [← zz]; exact (same_new nti).trans ((same_new nt4).trans ((same_new ntp).trans (same_new nt2)))
     have h_ti : HF ti = some (.tup [.str "if", .str "while", .str "try"]) := by rw [← zz]; exact look_new (look_new (look_new upd_same nt4) ntp) nt2
     have h_t4 : HF t4 = some (.tup [.str "sum", .str "minus", .str "product", .str "less"]) := by rw [← zz]; exact look_new (look_new upd_same ntp) nt2
     have h_tp : HF tp = some (.tup [.str "product", .int x, .int y, .int z]) := by rw [← zz]; exact look_new upd_same nt2
     have h_t2 : HF t2 = some (.tup [.ref tp, .int (at' + 1)]) := by rw [← zz]; exact upd_same
     clear zz nti nt4 ntp nt2
     exact q t2 tp (.pl (.product x y z)) (at' + 1) HF (sC.trans sHF) h_t2 (nw_at (none_same sC nt1) h_tp) (show (Sm.product x y z).ok from ⟨hx, hy, hz⟩) (by show ((1 : Nat) : Int) + at' ≤ at' + 1; omega) (by omega) (by omega)
   · walk_at "rk"
     repeat (rename @Eq Bool _ _ => hzz; clear hzz)
     rename_i ti nti tp ntp t2 nt2
     have nt1 : HC tp = none := (upd_none ntp).1
     generalize zz : (upd (upd (upd HC ti (.tup [.str "if", .str "while", .str "try"])) tp (.tup [.str "drop", .int x])) t2 (.tup [.ref tp, .int (at' + 1)])) = HF
     have sHF : Same HC HF := by rw [← zz]; exact (same_new nti).trans ((same_new ntp).trans (same_new nt2))
     have h_ti : HF ti = some (.tup [.str "if", .str "while", .str "try"]) := by rw [← zz]; exact look_new (look_new upd_same ntp) nt2
     have h_tp : HF tp = some (.tup [.str "drop", .int x]) := by rw [← zz]; exact look_new upd_same nt2
     have h_t2 : HF t2 = some (.tup [.ref tp, .int (at' + 1)]) := by rw [← zz]; exact upd_same
     clear zz nti ntp nt2
     exact q t2 tp (.drop x) (at' + 1) HF (sC.trans sHF) h_t2 (nw_at (none_same sC nt1) h_tp) hx (by show ((1 : Nat) : Int) + at' ≤ at' + 1; omega) (by omega) (by omega)
   · walk_at "rk"
     repeat (rename @Eq Bool _ _ => hzz; clear hzz)
     rename_i ti nti tp ntp t2 nt2
     have nt1 : HC tp = none := (upd_none ntp).1
     generalize zz : (upd (upd (upd HC ti (.tup [.str "if", .str "while", .str "try"])) tp (.tup [.str "give", .int x])) t2 (.tup [.ref tp, .int (at' + 1)])) = HF
     have sHF : Same HC HF := by rw [← zz]; exact (same_new nti).trans ((same_new ntp).trans (same_new nt2))
     have h_ti : HF ti = some (.tup [.str "if", .str "while", .str "try"]) := by rw [← zz]; exact look_new (look_new upd_same ntp) nt2
     have h_tp : HF tp = some (.tup [.str "give", .int x]) := by rw [← zz]; exact look_new upd_same nt2
     have h_t2 : HF t2 = some (.tup [.ref tp, .int (at' + 1)]) := by rw [← zz]; exact upd_same
     clear zz nti ntp nt2
     exact q t2 tp (.pl (.give x)) (at' + 1) HF (sC.trans sHF) h_t2 (nw_at (none_same sC nt1) h_tp) (show (Sm.give x).ok from hx) (by show ((1 : Nat) : Int) + at' ≤ at' + 1; omega) (by omega) (by omega)
   · walk_at "rk"
     repeat (rename @Eq Bool _ _ => hzz; clear hzz)
     rename_i ti nti tp ntp t2 nt2
     have nt1 : HC tp = none := (upd_none ntp).1
     generalize zz : (upd (upd (upd HC ti (.tup [.str "if", .str "while", .str "try"])) tp (.tup [.str "hand", .int f', .ref ln])) t2 (.tup [.ref tp, .int (at' + 1)])) = HF
     have sHF : Same HC HF := by rw [← zz]; exact (same_new nti).trans ((same_new ntp).trans (same_new nt2))
     have h_ti : HF ti = some (.tup [.str "if", .str "while", .str "try"]) := by rw [← zz]; exact look_new (look_new upd_same ntp) nt2
     have h_tp : HF tp = some (.tup [.str "hand", .int f', .ref ln]) := by rw [← zz]; exact look_new upd_same nt2
     have h_t2 : HF t2 = some (.tup [.ref tp, .int (at' + 1)]) := by rw [← zz]; exact upd_same
     clear zz nti ntp nt2
     exact q t2 tp (.hand f' nms true) (at' + 1) HF (sC.trans sHF) h_t2 (⟨ln, nw_at (none_same sC nt1) h_tp, nw_at nln (sHF _ _ hln)⟩) ⟨hf0, hnn, hfm, rfl⟩ (by show ((1 : Nat) : Int) + at' ≤ at' + 1; omega) (by omega) (by omega)
theorem ok_law_statement0 (T : Txt w K mg a) : FnE P w K mg base CX0 3 "_law_statement" (spSt K 0) := by
 refine fnE_of (sp := (spSt K 0)) 2 T.fn_law_statement sc_law_statement (fun vs H Q E h => ?_) (fun f cdv A outer s H vs Q E hr h => ?_)
 · obtain ⟨a0, lh, ns, hd, at', rfl, _⟩ := h
   rfl
 · obtain ⟨a0, lh, ns, hd, at', rfl, hS, hlh, hHd, a1, a2, j4, q⟩ := h
   refine' ⟨_, ?body0, ?_⟩
   (case body0 => (refine' pss_cons ?tu1 ?tq2; (case tq2 => (refine' pss_cons ?tu3 ?tq4; (case tq4 => (refine' pss_cons ?tu5 ?tq6; (case tq6 => (refine' pss_cons ?tu7 ?tq8; (case tq8 => (refine' pss_cons ?tu9 ?tq10; (case tq10 => (refine' pss_cons ?tu11 ?tq12; (case tq12 => (refine' pss_cons ?tu13 ?tq14; (case tq14 => (refine' pss_cons ?tu15 ?tq16; (case tq16 => (refine' pss_cons ?tu17 ?tq18; (case tq18 => (refine' pss_cons ?tu19 ?tq20; (case tq20 => (refine' pss_cons ?tu21 ?tq22; (case tq22 => (refine' pss_cons ?tu23 ?tq24; (case tq24 => (refine' pss_cons ?tu25 ?tq26; (case tq26 => (refine' pss_cons ?tu27 ?tq28; (case tq28 => (refine' pss_one ?tu29; (case tu29 => (refine' ps_ret ?ts30; (case ts30 => (refine' pe_tup ?ta31; (case ta31 => (refine' pa_cons ?tx32 ?ty33 ?tz34; (case tz34 => rfl); (case tx32 => (refine' pe_tup ?ta35; (case ta35 => (refine' pa_cons ?tx36 ?ty37 ?tz38; (case tz38 => rfl); (case tx36 => exact pe_str); (case ty37 => (refine' pa_cons ?tx39 ?ty40 ?tz41; (case tz41 => rfl); (case tx39 => exact (pv 7)); (case ty40 => (refine' pa_cons ?tx42 ?ty43 ?tz44; (case tz44 => rfl); (case tx42 => exact (pe_op op_mod (pe_callE (ok_law_cell_at (K := K) T) (hr.mono (by decide)) pass0 rfl (pa_cons (pv 0) (pa_cons (pv 1) pa_nil))) pe_int)); (case ty43 => exact pa_nil))))))))); (case ty33 => (refine' pa_cons ?tx45 ?ty46 ?tz47; (case tz47 => rfl); (case tx45 => exact (pe_op (op_plusK (K := K) rfl) (pv 1) pe_int)); (case ty46 => exact pa_nil))))))))))); (case tu27 => (refine' ps_if ?ti48 ?tj49 ?tm50; (case ti48 => (refine' pt_cmpR (op_inK (K := K) rfl) ?tl51 ?tr52 rfl; (case tl51 => exact (pv 6)); (case tr52 => (refine' pe_tup ?ta53; (case ta53 => (refine' pa_cons ?tx54 ?ty55 ?tz56; (case tz56 => rfl); (case tx54 => exact pe_str); (case ty55 => (refine' pa_cons ?tx57 ?ty58 ?tz59; (case tz59 => rfl); (case tx57 => exact pe_str); (case ty58 => (refine' pa_cons ?tx60 ?ty61 ?tz62; (case tz62 => rfl); (case tx60 => exact pe_str); (case ty61 => (refine' pa_cons ?tx63 ?ty64 ?tz65; (case tz65 => rfl); (case tx63 => exact pe_str); (case ty64 => exact pa_nil))))))))))))); (case tj49 => exact (pss_one (ps_ret (pe_tup (pa_cons (pe_tup (pa_cons (pv 6) (pa_cons (pv 7) (pa_cons (pv 8) (pa_cons (pv 9) pa_nil))))) (pa_cons (pe_op (op_plusK (K := K) rfl) (pv 1) pe_int) pa_nil)))))); (case tm50 => exact pss_nil))))); (case tu25 => exact (ps_if (pt_cmpR (op_eqK (K := K) rfl hr.units) (pv 6) pe_str (nomark _)) (pss_one (ps_ret (pe_tup (pa_cons (pe_tup (pa_cons (pv 6) (pa_cons (pv 7) (pa_cons (pv 8) pa_nil)))) (pa_cons (pe_op (op_plusK (K := K) rfl) (pv 1) pe_int) pa_nil))))) pss_nil)))); (case tu23 => exact (ps_if (PW.pt (pw_or (pt_cmpR (op_eqK (K := K) rfl hr.units) (pv 6) pe_str (nomark _)) (pw_or1 (pt_cmpR (op_eqK (K := K) rfl hr.units) (pv 6) pe_str (nomark _))))) (pss_one (ps_ret (pe_tup (pa_cons (pe_tup (pa_cons (pv 6) (pa_cons (pv 7) pa_nil))) (pa_cons (pe_op (op_plusK (K := K) rfl) (pv 1) pe_int) pa_nil))))) pss_nil)))); (case tu21 => (refine' ps_if ?ti66 ?tj67 ?tm68; (case ti66 => exact (pt_cmpR (op_eqK (K := K) rfl hr.units) (pv 6) pe_str (nomark _))); (case tj67 => (refine' pss_one ?tu69; (case tu69 => (refine' ps_ret ?ts70; (case ts70 => (refine' pe_tup ?ta71; (case ta71 => (refine' pa_cons ?tx72 ?ty73 ?tz74; (case tz74 => rfl); (case tx72 => (refine' pe_tup ?ta75; (case ta75 => (refine' pa_cons ?tx76 ?ty77 ?tz78; (case tz78 => rfl); (case tx76 => exact pe_str); (case ty77 => (refine' pa_cons ?tx79 ?ty80 ?tz81; (case tz81 => rfl); (case tx79 => exact (pv 10)); (case ty80 => (refine' pa_cons ?tx82 ?ty83 ?tz84; (case tz84 => rfl); (case tx82 => exact (pv 11)); (case ty83 => exact pa_nil))))))))); (case ty73 => (refine' pa_cons ?tx85 ?ty86 ?tz87; (case tz87 => rfl); (case tx85 => exact (pe_op (op_plusK (K := K) rfl) (pv 1) pe_int)); (case ty86 => exact pa_nil))))))))))); (case tm68 => exact pss_nil))))); (case tu19 => (refine' ps_if ?ti88 ?tj89 ?tm90; (case ti88 => exact (pt_cmpR (op_eqK (K := K) rfl hr.units) (pv 6) pe_str (nomark _))); (case tj89 => (refine' pss_one ?tu91; (case tu91 => (refine' ps_ret ?ts92; (case ts92 => (refine' pe_tup ?ta93; (case ta93 => (refine' pa_cons ?tx94 ?ty95 ?tz96; (case tz96 => rfl); (case tx94 => (refine' pe_tup ?ta97; (case ta97 => (refine' pa_cons ?tx98 ?ty99 ?tz100; (case tz100 => rfl); (case tx98 => exact pe_str); (case ty99 => (refine' pa_cons ?tx101 ?ty102 ?tz103; (case tz103 => rfl); (case tx101 => exact (pv 7)); (case ty102 => (refine' pa_cons ?tx104 ?ty105 ?tz106; (case tz106 => rfl); (case tx104 => exact (pv 10)); (case ty105 => (refine' pa_cons ?tx107 ?ty108 ?tz109; (case tz109 => rfl); (case tx107 => exact (pv 11)); (case ty108 => exact pa_nil))))))))))); (case ty95 => (refine' pa_cons ?tx110 ?ty111 ?tz112; (case tz112 => rfl); (case tx110 => exact (pe_op (op_plusK (K := K) rfl) (pv 1) pe_int)); (case ty111 => exact pa_nil))))))))))); (case tm90 => exact pss_nil))))); (case tu17 => (refine' ps_if ?ti113 ?tj114 ?tm115; (case ti113 => (refine' PW.pt ?tb116; (case tb116 => (refine' pw_and ?tt117 ?tw118; (case tt117 => (refine' pt_cmpR (op_inK (K := K) rfl) ?tl119 ?tr120 rfl; (case tl119 => exact (pv 6)); (case tr120 => (refine' pe_tup ?ta121; (case ta121 => (refine' pa_cons ?tx122 ?ty123 ?tz124; (case tz124 => rfl); (case tx122 => exact pe_str); (case ty123 => (refine' pa_cons ?tx125 ?ty126 ?tz127; (case tz127 => rfl); (case tx125 => exact pe_str); (case ty126 => (refine' pa_cons ?tx128 ?ty129 ?tz130; (case tz130 => rfl); (case tx128 => exact pe_str); (case ty129 => exact pa_nil))))))))))); (case tw118 => (refine' pw_and1 ?tt131; (case tt131 => exact (pt_cmpR op_lt (pv 2) pe_int (nomark _))))))))); (case tj114 => exact (pss_one ps_dead)); (case tm115 => exact pss_nil))))); (case tu15 => exact (ps_setC (i := 11) sc_law_statement.nd rfl rfl (own := ["_law_k"]) (fr := [("_law_y", 8), ("_law_z", 9)]) rfl ⟨rfl, (by walk_at "clok"), (by walk_at "frok"), rfl, (by decide +kernel), (by decide +kernel), rfl⟩ (pi_range1 rfl T.z_range (pa_cons (pe_ix (ix_K (K := K) rfl) (pv 3) (pv 10) (fun _ _ => rfl)) pa_nil)) (fun _ _ _ _ => (pg_name (i := 0) (show List.Nodup [("_law_k" : Str), ("_law_y" : Str), ("_law_z" : Str)] from by decide +kernel) rfl (Or.inl rfl))) (fun _ _ _ _ => pts_nil) (fun _ _ _ _ => (pe_op op_mod (pe_op (op_plusK (K := K) rfl) (pv 2) (pe_op op_times (pv 0) (pv 1))) pe_int)))))); (case tu13 => exact (ps_set (i := 10) sc_law_statement.nd rfl (Or.inl rfl) (pe_op op_mod (pe_op op_fdiv (pv 4) pe_int) (pe_callB (call_lenK (K := K) rfl) rfl T.z_len b_len (pa_cons (pv 3) pa_nil))))))); (case tu11 => exact (ps_set (i := 9) sc_law_statement.nd rfl (Or.inr rfl) (pe_op op_mod (pe_op op_fdiv (pv 4) pe_int) pe_int))))); (case tu9 => exact (ps_set (i := 8) sc_law_statement.nd rfl (Or.inr rfl) (pe_op op_mod (pe_op op_fdiv (pv 4) pe_int) pe_int))))); (case tu7 => exact (ps_set (i := 7) sc_law_statement.nd rfl (Or.inl rfl) (pe_op op_mod (pe_op op_fdiv (pv 4) pe_int) pe_int))))); (case tu5 => (refine' ps_set (i := 6) ?tv132 ?tv133 ?tv134 ?tv135 ?tv136 ?tv137; (case tv132 => exact sc_law_statement.nd); (case tv133 => rfl); (case tv134 => exact (Or.inl rfl)); (case tv136 => rfl); (case tv137 => exact .inl rfl); (case tv135 => exact (pe_ix (ix_K (K := K) rfl) (pe_op (op_plusK (K := K) rfl) (pv 5) (pe_lst (pa_cons pe_str (pa_cons pe_str (pa_cons pe_str (pa_cons pe_str pa_nil)))))) (pe_op op_mod (pv 4) pe_int) (fun _ _ => rfl))))))); (case tu3 => (refine' ps_set (i := 5) ?tv138 ?tv139 ?tv140 ?tv141 ?tv142 ?tv143; (case tv138 => exact sc_law_statement.nd); (case tv139 => rfl); (case tv140 => exact (Or.inl rfl)); (case tv142 => rfl); (case tv143 => exact .inl rfl); (case tv141 => (refine' pe_lst ?ta144; (case ta144 => (refine' pa_cons ?tx145 ?ty146 ?tz147; (case tz147 => rfl); (case tx145 => exact pe_str); (case ty146 => (refine' pa_cons ?tx148 ?ty149 ?tz150; (case tz150 => rfl); (case tx148 => exact pe_str); (case ty149 => (refine' pa_cons ?tx151 ?ty152 ?tz153; (case tz153 => rfl); (case tx151 => exact pe_str); (case ty152 => (refine' pa_cons ?tx154 ?ty155 ?tz156; (case tz156 => rfl); (case tx154 => exact pe_str); (case ty155 => (refine' pa_cons ?tx157 ?ty158 ?tz159; (case tz159 => rfl); (case tx157 => exact pe_str); (case ty158 => (refine' pa_cons ?tx160 ?ty161 ?tz162; (case tz162 => rfl); (case tx160 => exact pe_str); (case ty161 => (refine' pa_cons ?tx163 ?ty164 ?tz165; (case tz165 => rfl); (case tx163 => exact pe_str); (case ty164 => (refine' pa_cons ?tx166 ?ty167 ?tz168; (case tz168 => rfl); (case tx166 => exact pe_str); (case ty167 => (refine' pa_cons ?tx169 ?ty170 ?tz171; (case tz171 => rfl); (case tx169 => exact pe_str); (case ty170 => (refine' pa_cons ?tx172 ?ty173 ?tz174; (case tz174 => rfl); (case tx172 => exact pe_str); (case ty173 => (refine' pa_cons ?tx175 ?ty176 ?tz177; (case tz177 => rfl); (case tx175 => exact pe_str); (case ty176 => (refine' pa_cons ?tx178 ?ty179 ?tz180; (case tz180 => rfl); (case tx178 => exact pe_str); (case ty179 => exact pa_nil))))))))))))))))))))))))))))))); (case tu1 => exact (ps_set (i := 4) sc_law_statement.nd rfl (Or.inl rfl) (pe_callE (ok_law_number (K := K) T) (hr.mono (by decide)) pass0 rfl (pa_cons (pv 0) (pa_cons (pv 1) pa_nil)))))))
   refine r_st (σ' := [some _, some _, some _, some _, none, none, none, none, none, none, none, none]) rfl ?_
   walk_at "rk"
   refine ⟨a0, ns, _, rfl, hS, a1, by omega, ?_⟩
   generalize numAt ns at' = n
   walk_at "rk"
   rename_i lw1 nlw1 lw2 nlw2
   refine r_plusL (look_new upd_same nlw2) upd_same (Nat.le_of_ble_eq_true rfl) fun lw3 nlw3 => ?_
   obtain ⟨w', hw1, hw2⟩ := words_at (m := n % 16) (by omega) (by omega)
   have sB : Same H (upd (upd (upd H lw1 (.lst [.str "set", .str "sum", .str "copy", .str "call", .str "if", .str "while", .str "less", .str "minus", .str "try", .str "call", .str "product", .str "drop"])) lw2 (.lst [.str "give", .str "hand", .str "set", .str "sum"])) lw3 (.lst ([.str "set", .str "sum", .str "copy", .str "call", .str "if", .str "while", .str "less", .str "minus", .str "try", .str "call", .str "product", .str "drop"] ++ [.str "give", .str "hand", .str "set", .str "sum"]))) := (same_new nlw1).trans ((same_new nlw2).trans (same_new nlw3))
   have hlw : (upd (upd (upd H lw1 (.lst [.str "set", .str "sum", .str "copy", .str "call", .str "if", .str "while", .str "less", .str "minus", .str "try", .str "call", .str "product", .str "drop"])) lw2 (.lst [.str "give", .str "hand", .str "set", .str "sum"])) lw3 (.lst ([.str "set", .str "sum", .str "copy", .str "call", .str "if", .str "while", .str "less", .str "minus", .str "try", .str "call", .str "product", .str "drop"] ++ [.str "give", .str "hand", .str "set", .str "sum"]))) lw3 = some (.lst wordsV) := upd_same
   generalize (upd (upd (upd H lw1 (.lst [.str "set", .str "sum", .str "copy", .str "call", .str "if", .str "while", .str "less", .str "minus", .str "try", .str "call", .str "product", .str "drop"])) lw2 (.lst [.str "give", .str "hand", .str "set", .str "sum"])) lw3 (.lst ([.str "set", .str "sum", .str "copy", .str "call", .str "if", .str "while", .str "less", .str "minus", .str "try", .str "call", .str "product", .str "drop"] ++ [.str "give", .str "hand", .str "set", .str "sum"]))) = HB at sB hlw ⊢
   clear nlw1 nlw2 nlw3
   have hx : isN (n / 16 % 6) := ⟨by omega, by omega⟩
   have hy : isN (n / 96 % 6) := ⟨by omega, by omega⟩
   have hz : isN (n / 576 % 6) := ⟨by omega, by omega⟩
   have hlhB := sB _ _ hlh
   walk_at "rk"
   clear hw1 hlw
   refine r_lenL (SqL.of hlhB) ?_
   rw [List.length_map]
   have hl1 := hHd.one
   have hl3 := hHd.three
   walk_at "rk"
   have hf0 : 0 ≤ n / 3456 % (hd.length : Int) := Int.emod_nonneg _ (by omega)
   have hfl : n / 3456 % (hd.length : Int) < hd.length := Int.emod_lt_of_pos _ (by omega)
   generalize n / 16 % 6 = x at hx ⊢
   generalize n / 96 % 6 = y at hy ⊢
   generalize n / 576 % 6 = z at hz ⊢
   generalize n / 3456 % (hd.length : Int) = f' at hf0 hfl ⊢
   clear hl1 hl3
   obtain ⟨m, hm⟩ : ∃ m, hd[f'.toNat]? = some m := ⟨_, List.getElem?_eq_getElem (show f'.toNat < hd.length by omega)⟩
   have hm3 := hHd.val m (List.mem_of_getElem? hm)
   have hat : atI (hd.map V.int) f' = some (.int m) := by
     have := gI_at (xs := hd) hf0 (by omega)
     rw [this]
     unfold gI
     rw [List.getD_eq_getElem?_getD, hm]; rfl
   walk_at "rk"
   refine comp_range (fun i ys σ HQ => (∃ v, σ = [v, some (.int y), some (.int z)]) ∧ Same HB HQ ∧ ∃ ks : List Int, ys = ks.map V.int ∧ ks.length = i ∧ ∀ k ∈ ks, isN k) ⟨⟨_, rfl⟩, Same.refl _, [], rfl, rfl, (fun _ z => by cases z)⟩ ?_ ?_ ?_
   · rintro i ys σ HQ hi ⟨_, _, ks, rfl, e, _⟩
     rw [List.length_map, e]
     walk_at "small"
   · rintro i ys σ HQ hi ⟨⟨v, rfl⟩, s1, ks, rfl, hl, hk⟩
     walk_at "rd"
     refine ⟨⟨_, rfl⟩, s1, ks ++ [_], by rw [List.map_append]; rfl, by rw [List.length_append, hl]; rfl, fun x hx => ?_⟩
     rcases List.mem_append.mp hx with z | z
     · exact hk x z
     · rw [List.mem_singleton.mp z]; exact ⟨by omega, by omega⟩
   rintro ys σ HQ ⟨_, s8, nms, rfl, hnl, hnn⟩ ln nln
   have sC := sB.trans (s8.trans (same_new (o := .lst (nms.map V.int)) nln))
   have hln : (upd HQ ln (.lst (nms.map V.int))) ln = some (.lst (nms.map V.int)) := upd_same
   replace nln : H ln = none := none_same sB (none_same s8 nln)
   generalize (upd HQ ln (.lst (nms.map V.int))) = HC at sC hln ⊢
   have hfm : hd[f'.toNat]? = some (nms.length : Int) := by rw [hm]; exact congrArg some (by omega)
   clear sB s8 hlhB hat hm hnl hm3
   rcases hw2 with rfl | rfl | rfl | rfl | rfl | rfl | rfl | rfl | rfl | rfl | rfl | rfl | rfl
   · have hSc := Same.seq sC hS
     walk_at "rk"
     repeat (rename @Eq Bool _ _ => hzz; clear hzz)
     rename_i ti nti t4 nt4 tp ntp t2 nt2
     have nt1 : HC tp = none := (upd_none (upd_none ntp).1).1
     generalize zz : (upd (upd (upd (upd HC ti (.tup [.str "if", .str "while", .str "try"])) t4 (.tup [.str "sum", .str "minus", .str "product", .str "less"])) tp (.tup [.str "set", .int x, .int (cellAt ns at' % 4294967296)])) t2 (.tup [.ref tp, .int (at' + 1)])) = HF
     have sHF : Same HC HF := by rw [← zz]; exact (same_new nti).trans ((same_new nt4).trans ((same_new ntp).trans (same_new nt2)))
     have h_ti : HF ti = some (.tup [.str "if", .str "while", .str "try"]) := by rw [← zz]; exact look_new (look_new (look_new upd_same nt4) ntp) nt2
     have h_t4 : HF t4 = some (.tup [.str "sum", .str "minus", .str "product", .str "less"]) := by rw [← zz]; exact look_new (look_new upd_same ntp) nt2
     have h_tp : HF tp = some (.tup [.str "set", .int x, .int (cellAt ns at' % 4294967296)]) := by rw [← zz]; exact look_new upd_same nt2
     have h_t2 : HF t2 = some (.tup [.ref tp, .int (at' + 1)]) := by rw [← zz]; exact upd_same
     clear zz nti nt4 ntp nt2
     exact q t2 tp (.pl (.set x (cellAt ns at' % 4294967296))) (at' + 1) HF (sC.trans sHF) h_t2 (nw_at (none_same sC nt1) h_tp) (show (Sm.set x (cellAt ns at' % 4294967296)).ok from ⟨hx, by omega, by omega⟩) (by show ((1 : Nat) : Int) + at' ≤ at' + 1; omega) (by omega) (by omega)
   · walk_at "rk"
     repeat (rename @Eq Bool _ _ => hzz; clear hzz)
     rename_i ti nti t4 nt4 tp ntp t2 nt2
     have nt1 : HC tp = none := (upd_none (upd_none ntp).1).1
     generalize zz : (upd (upd (upd (upd HC ti (.tup [.str "if", .str "while", .str "try"])) t4 (.tup [.str "sum", .str "minus", .str "product", .str "less"])) tp (.tup [.str "sum", .int x, .int y, .int z])) t2 (.tup [.ref tp, .int (at' + 1)])) = HF
     have sHF : Same HC HF := by rw [← zz]; exact (same_new nti).trans ((same_new nt4).trans ((same_new ntp).trans (same_new nt2)))
     have h_ti : HF ti = some (.tup [.str "if", .str "while", .str "try"]) := by rw [← zz]; exact look_new (look_new (look_new upd_same nt4) ntp) nt2
     have h_t4 : HF t4 = some (.tup [.str "sum", .str "minus", .str "product", .str "less"]) := by rw [← zz]; exact look_new (look_new upd_same ntp) nt2
     have h_tp : HF tp = some (.tup [.str "sum", .int x, .int y, .int z]) := by rw [← zz]; exact look_new upd_same nt2
     have h_t2 : HF t2 = some (.tup [.ref tp, .int (at' + 1)]) := by rw [← zz]; exact upd_same
     clear zz nti nt4 ntp nt2
     exact q t2 tp (.pl (.sum x y z)) (at' + 1) HF (sC.trans sHF) h_t2 (nw_at (none_same sC nt1) h_tp) (show (Sm.sum x y z).ok from ⟨hx, hy, hz⟩) (by show ((1 : Nat) : Int) + at' ≤ at' + 1; omega) (by omega) (by omega)
   · walk_at "rk"
     repeat (rename @Eq Bool _ _ => hzz; clear hzz)
     rename_i ti nti tp ntp t2 nt2
     have nt1 : HC tp = none := (upd_none ntp).1
     generalize zz : (upd (upd (upd HC ti (.tup [.str "if", .str "while", .str "try"])) tp (.tup [.str "copy", .int x, .int y])) t2 (.tup [.ref tp, .int (at' + 1)])) = HF
     have sHF : Same HC HF := by rw [← zz]; exact (same_new nti).trans ((same_new ntp).trans (same_new nt2))
     have h_ti : HF ti = some (.tup [.str "if", .str "while", .str "try"]) := by rw [← zz]; exact look_new (look_new upd_same ntp) nt2
     have h_tp : HF tp = some (.tup [.str "copy", .int x, .int y]) := by rw [← zz]; exact look_new upd_same nt2
     have h_t2 : HF t2 = some (.tup [.ref tp, .int (at' + 1)]) := by rw [← zz]; exact upd_same
     clear zz nti ntp nt2
     exact q t2 tp (.pl (.copy x y)) (at' + 1) HF (sC.trans sHF) h_t2 (nw_at (none_same sC nt1) h_tp) (show (Sm.copy x y).ok from ⟨hx, hy⟩) (by show ((1 : Nat) : Int) + at' ≤ at' + 1; omega) (by omega) (by omega)
   · walk_at "rk"
     repeat (rename @Eq Bool _ _ => hzz; clear hzz)
     rename_i ti nti tp ntp t2 nt2
     have nt1 : HC tp = none := (upd_none ntp).1
     generalize zz : (upd (upd (upd HC ti (.tup [.str "if", .str "while", .str "try"])) tp (.tup [.str "call", .int x, .int f', .ref ln])) t2 (.tup [.ref tp, .int (at' + 1)])) = HF
     have sHF : Same HC HF := by rw [← zz]; exact (same_new nti).trans ((same_new ntp).trans (same_new nt2))
     have h_ti : HF ti = some (.tup [.str "if", .str "while", .str "try"]) := by rw [← zz]; exact look_new (look_new upd_same ntp) nt2
     have h_tp : HF tp = some (.tup [.str "call", .int x, .int f', .ref ln]) := by rw [← zz]; exact look_new upd_same nt2
     have h_t2 : HF t2 = some (.tup [.ref tp, .int (at' + 1)]) := by rw [← zz]; exact upd_same
     clear zz nti ntp nt2
     exact q t2 tp (.call x f' nms true) (at' + 1) HF (sC.trans sHF) h_t2 (⟨ln, nw_at (none_same sC nt1) h_tp, nw_at nln (sHF _ _ hln)⟩) ⟨hx, hf0, hnn, hfm, rfl⟩ (by show ((1 : Nat) : Int) + at' ≤ at' + 1; omega) (by omega) (by omega)
   · have hSc := Same.seq sC hS
     walk_at "rk"
     repeat (rename @Eq Bool _ _ => hzz; clear hzz)
     rename_i ti nti t4 nt4 tp ntp t2 nt2
     have nt1 : HC tp = none := (upd_none (upd_none ntp).1).1
     generalize zz : (upd (upd (upd (upd HC ti (.tup [.str "if", .str "while", .str "try"])) t4 (.tup [.str "sum", .str "minus", .str "product", .str "less"])) tp (.tup [.str "set", .int x, .int (cellAt ns at' % 4294967296)])) t2 (.tup [.ref tp, .int (at' + 1)])) = HF
     have sHF : Same HC HF := by rw [← zz]; exact (same_new nti).trans ((same_new nt4).trans ((same_new ntp).trans (same_new nt2)))
     have h_ti : HF ti = some (.tup [.str "if", .str "while", .str "try"]) := by rw [← zz]; exact look_new (look_new (look_new upd_same nt4) ntp) nt2
     have h_t4 : HF t4 = some (.tup [.str "sum", .str "minus", .str "product", .str "less"]) := by rw [← zz]; exact look_new (look_new upd_same ntp) nt2
     have h_tp : HF tp = some (.tup [.str "set", .int x, .int (cellAt ns at' % 4294967296)]) := by rw [← zz]; exact look_new upd_same nt2
     have h_t2 : HF t2 = some (.tup [.ref tp, .int (at' + 1)]) := by rw [← zz]; exact upd_same
     clear zz nti nt4 ntp nt2
     exact q t2 tp (.pl (.set x (cellAt ns at' % 4294967296))) (at' + 1) HF (sC.trans sHF) h_t2 (nw_at (none_same sC nt1) h_tp) (show (Sm.set x (cellAt ns at' % 4294967296)).ok from ⟨hx, by omega, by omega⟩) (by show ((1 : Nat) : Int) + at' ≤ at' + 1; omega) (by omega) (by omega)
   · have hSc := Same.seq sC hS
     walk_at "rk"
     repeat (rename @Eq Bool _ _ => hzz; clear hzz)
     rename_i ti nti t4 nt4 tp ntp t2 nt2
     have nt1 : HC tp = none := (upd_none (upd_none ntp).1).1
     generalize zz : (upd (upd (upd (upd HC ti (.tup [.str "if", .str "while", .str "try"])) t4 (.tup [.str "sum", .str "minus", .str "product", .str "less"])) tp (.tup [.str "set", .int x, .int (cellAt ns at' % 4294967296)])) t2 (.tup [.ref tp, .int (at' + 1)])) = HF
     have sHF : Same HC HF := by rw [← zz]; exact (same_new nti).trans ((same_new nt4).trans ((same_new ntp).trans (same_new nt2)))
     have h_ti : HF ti = some (.tup [.str "if", .str "while", .str "try"]) := by rw [← zz]; exact look_new (look_new (look_new upd_same nt4) ntp) nt2
     have h_t4 : HF t4 = some (.tup [.str "sum", .str "minus", .str "product", .str "less"]) := by rw [← zz]; exact look_new (look_new upd_same ntp) nt2
     have h_tp : HF tp = some (.tup [.str "set", .int x, .int (cellAt ns at' % 4294967296)]) := by rw [← zz]; exact look_new upd_same nt2
     have h_t2 : HF t2 = some (.tup [.ref tp, .int (at' + 1)]) := by rw [← zz]; exact upd_same
     clear zz nti nt4 ntp nt2
     exact q t2 tp (.pl (.set x (cellAt ns at' % 4294967296))) (at' + 1) HF (sC.trans sHF) h_t2 (nw_at (none_same sC nt1) h_tp) (show (Sm.set x (cellAt ns at' % 4294967296)).ok from ⟨hx, by omega, by omega⟩) (by show ((1 : Nat) : Int) + at' ≤ at' + 1; omega) (by omega) (by omega)
   · walk_at "rk"
     repeat (rename @Eq Bool _ _ => hzz; clear hzz)
     rename_i ti nti t4 nt4 tp ntp t2 nt2
     have nt1 : HC tp = none := (upd_none (upd_none ntp).1).1
     generalize zz : (upd (upd (upd (upd HC ti (.tup [.str "if", .str "while", .str "try"])) t4 (.tup [.str "sum", .str "minus", .str "product", .str "less"])) tp (.tup [.str "less", .int x, .int y, .int z])) t2 (.tup [.ref tp, .int (at' + 1)])) = HF
     have sHF : Same HC HF := by rw [← zz]; exact (same_new nti).trans ((same_new nt4).trans ((same_new ntp).trans (same_new nt2)))
     have h_ti : HF ti = some (.tup [.str "if", .str "while", .str "try"]) := by rw [← zz]; exact look_new (look_new (look_new upd_same nt4) ntp) nt2
     have h_t4 : HF t4 = some (.tup [.str "sum", .str "minus", .str "product", .str "less"]) := by rw [← zz]; exact look_new (look_new upd_same ntp) nt2
     have h_tp : HF tp = some (.tup [.str "less", .int x, .int y, .int z]) := by rw [← zz]; exact look_new upd_same nt2
     have h_t2 : HF t2 = some (.tup [.ref tp, .int (at' + 1)]) := by rw [← zz]; exact upd_same
     clear zz nti nt4 ntp nt2
     exact q t2 tp (.pl (.less x y z)) (at' + 1) HF (sC.trans sHF) h_t2 (nw_at (none_same sC nt1) h_tp) (show (Sm.less x y z).ok from ⟨hx, hy, hz⟩) (by show ((1 : Nat) : Int) + at' ≤ at' + 1; omega) (by omega) (by omega)
   · walk_at "rk"
     repeat (rename @Eq Bool _ _ => hzz; clear hzz)
     rename_i ti nti t4 nt4 tp ntp t2 nt2
     have nt1 : HC tp = none := (upd_none (upd_none ntp).1).1
     generalize zz : (upd (upd (upd (upd HC ti (.tup [.str "if", .str "while", .str "try"])) t4 (.tup [.str "sum", .str "minus", .str "product", .str "less"])) tp (.tup [.str "minus", .int x, .int y, .int z])) t2 (.tup [.ref tp, .int (at' + 1)])) = HF
     have sHF : Same HC HF := by rw [← zz]; exact (same_new nti).trans ((same_new nt4).trans ((same_new ntp).trans (same_new nt2)))
     have h_ti : HF ti = some (.tup [.str "if", .str "while", .str "try"]) := by rw [← zz]; exact look_new (look_new (look_new upd_same nt4) ntp) nt2
     have h_t4 : HF t4 = some (.tup [.str "sum", .str "minus", .str "product", .str "less"]) := by rw [← zz]; exact look_new (look_new upd_same ntp) nt2
     have h_tp : HF tp = some (.tup [.str "minus", .int x, .int y, .int z]) := by rw [← zz]; exact look_new upd_same nt2
     have h_t2 : HF t2 = some (.tup [.ref tp, .int (at' + 1)]) := by rw [← zz]; exact upd_same
     clear zz nti nt4 ntp nt2
     exact q t2 tp (.pl (.minus x y z)) (at' + 1) HF (sC.trans sHF) h_t2 (nw_at (none_same sC nt1) h_tp) (show (Sm.minus x y z).ok from ⟨hx, hy, hz⟩) (by show ((1 : Nat) : Int) + at' ≤ at' + 1; omega) (by omega) (by omega)
   · have hSc := Same.seq sC hS
     walk_at "rk"
     repeat (rename @Eq Bool _ _ => hzz; clear hzz)
     rename_i ti nti t4 nt4 tp ntp t2 nt2
     have nt1 : HC tp = none := (upd_none (upd_none ntp).1).1
     generalize zz : (upd (upd (upd (upd HC ti (.tup [.str "if", .str "while", .str "try"])) t4 (.tup [.str "sum", .str "minus", .str "product", .str "less"])) tp (.tup [.str "set", .int x, .int (cellAt ns at' % 4294967296)])) t2 (.tup [.ref tp, .int (at' + 1)])) = HF
     have sHF : Same HC HF := by rw [← zz]; exact (same_new nti).trans ((same_new nt4).trans ((same_new ntp).trans (same_new nt2)))
     have h_ti : HF ti = some (.tup [.str "if", .str "while", .str "try"]) := by rw [← zz]; exact look_new (look_new (look_new upd_same nt4) ntp) nt2
     have h_t4 : HF t4 = some (.tup [.str "sum", .str "minus", .str "product", .str "less"]) := by rw [← zz]; exact look_new (look_new upd_same ntp) nt2
     have h_tp : HF tp = some (.tup [.str "set", .int x, .int (cellAt ns at' % 4294967296)]) := by rw [← zz]; exact look_new upd_same nt2
     have h_t2 : HF t2 = some (.tup [.ref tp, .int (at' + 1)]) := by rw [← zz]; exact upd_same
     clear zz nti nt4 ntp nt2
     exact q t2 tp (.pl (.set x (cellAt ns at' % 4294967296))) (at' + 1) HF (sC.trans sHF) h_t2 (nw_at (none_same sC nt1) h_tp) (show (Sm.set x (cellAt ns at' % 4294967296)).ok from ⟨hx, by omega, by omega⟩) (by show ((1 : Nat) : Int) + at' ≤ at' + 1; omega) (by omega) (by omega)
   · walk_at "rk"
     repeat (rename @Eq Bool _ _ => hzz; clear hzz)
     rename_i ti nti t4 nt4 tp ntp t2 nt2
     have nt1 : HC tp = none := (upd_none (upd_none ntp).1).1
     generalize zz : (upd (upd (upd (upd HC ti (.tup [.str "if", .str "while", .str "try"])) t4 (.tup [.str "sum", .str "minus", .str "product", .str "less"])) tp (.tup [.str "product", .int x, .int y, .int z])) t2 (.tup [.ref tp, .int (at' + 1)])) = HF
     have sHF : Same HC HF := by rw [← zz]; exact (same_new nti).trans ((same_new nt4).trans ((same_new ntp).trans (same_new nt2)))
     have h_ti : HF ti = some (.tup [.str "if", .str "while", .str "try"]) := by rw [← zz]; exact look_new (look_new (look_new upd_same nt4) ntp) nt2
     have h_t4 : HF t4 = some (.tup [.str "sum", .str "minus", .str "product", .str "less"]) := by rw [← zz]; exact look_new (look_new upd_same ntp) nt2
     have h_tp : HF tp = some (.tup [.str "product", .int x, .int y, .int z]) := by rw [← zz]; exact look_new upd_same nt2
     have h_t2 : HF t2 = some (.tup [.ref tp, .int (at' + 1)]) := by rw [← zz]; exact upd_same
     clear zz nti nt4 ntp nt2
     exact q t2 tp (.pl (.product x y z)) (at' + 1) HF (sC.trans sHF) h_t2 (nw_at (none_same sC nt1) h_tp) (show (Sm.product x y z).ok from ⟨hx, hy, hz⟩) (by show ((1 : Nat) : Int) + at' ≤ at' + 1; omega) (by omega) (by omega)
   · walk_at "rk"
     repeat (rename @Eq Bool _ _ => hzz; clear hzz)
     rename_i ti nti tp ntp t2 nt2
     have nt1 : HC tp = none := (upd_none ntp).1
     generalize zz : (upd (upd (upd HC ti (.tup [.str "if", .str "while", .str "try"])) tp (.tup [.str "drop", .int x])) t2 (.tup [.ref tp, .int (at' + 1)])) = HF
     have sHF : Same HC HF := by rw [← zz]; exact (same_new nti).trans ((same_new ntp).trans (same_new nt2))
     have h_ti : HF ti = some (.tup [.str "if", .str "while", .str "try"]) := by rw [← zz]; exact look_new (look_new upd_same ntp) nt2
     have h_tp : HF tp = some (.tup [.str "drop", .int x]) := by rw [← zz]; exact look_new upd_same nt2
     have h_t2 : HF t2 = some (.tup [.ref tp, .int (at' + 1)]) := by rw [← zz]; exact upd_same
     clear zz nti ntp nt2
     exact q t2 tp (.drop x) (at' + 1) HF (sC.trans sHF) h_t2 (nw_at (none_same sC nt1) h_tp) hx (by show ((1 : Nat) : Int) + at' ≤ at' + 1; omega) (by omega) (by omega)
   · walk_at "rk"
     repeat (rename @Eq Bool _ _ => hzz; clear hzz)
     rename_i ti nti tp ntp t2 nt2
     have nt1 : HC tp = none := (upd_none ntp).1
     generalize zz : (upd (upd (upd HC ti (.tup [.str "if", .str "while", .str "try"])) tp (.tup [.str "give", .int x])) t2 (.tup [.ref tp, .int (at' + 1)])) = HF
     have sHF : Same HC HF := by rw [← zz]; exact (same_new nti).trans ((same_new ntp).trans (same_new nt2))
     have h_ti : HF ti = some (.tup [.str "if", .str "while", .str "try"]) := by rw [← zz]; exact look_new (look_new upd_same ntp) nt2
     have h_tp : HF tp = some (.tup [.str "give", .int x]) := by rw [← zz]; exact look_new upd_same nt2
     have h_t2 : HF t2 = some (.tup [.ref tp, .int (at' + 1)]) := by rw [← zz]; exact upd_same
     clear zz nti ntp nt2
     exact q t2 tp (.pl (.give x)) (at' + 1) HF (sC.trans sHF) h_t2 (nw_at (none_same sC nt1) h_tp) (show (Sm.give x).ok from hx) (by show ((1 : Nat) : Int) + at' ≤ at' + 1; omega) (by omega) (by omega)
   · walk_at "rk"
     repeat (rename @Eq Bool _ _ => hzz; clear hzz)
     rename_i ti nti tp ntp t2 nt2
     have nt1 : HC tp = none := (upd_none ntp).1
     generalize zz : (upd (upd (upd HC ti (.tup [.str "if", .str "while", .str "try"])) tp (.tup [.str "hand", .int f', .ref ln])) t2 (.tup [.ref tp, .int (at' + 1)])) = HF
     have sHF : Same HC HF := by rw [← zz]; exact (same_new nti).trans ((same_new ntp).trans (same_new nt2))
     have h_ti : HF ti = some (.tup [.str "if", .str "while", .str "try"]) := by rw [← zz]; exact look_new (look_new upd_same ntp) nt2
     have h_tp : HF tp = some (.tup [.str "hand", .int f', .ref ln]) := by rw [← zz]; exact look_new upd_same nt2
     have h_t2 : HF t2 = some (.tup [.ref tp, .int (at' + 1)]) := by rw [← zz]; exact upd_same
     clear zz nti ntp nt2
     exact q t2 tp (.hand f' nms true) (at' + 1) HF (sC.trans sHF) h_t2 (⟨ln, nw_at (none_same sC nt1) h_tp, nw_at nln (sHF _ _ hln)⟩) ⟨hf0, hnn, hfm, rfl⟩ (by show ((1 : Nat) : Int) + at' ≤ at' + 1; omega) (by omega) (by omega)
theorem ok_law_block (T : Txt w K mg a) : FnE P w K mg base CX0 16 "_law_block" (spBk K 4) := (ok_law_blockS (ok_law_statementS (by decide) (ok_law_nestedS (by decide) (ok_law_blockS (ok_law_statementS (by decide) (ok_law_nestedS (by decide) (ok_law_blockS (ok_law_statementS (by decide) (ok_law_nestedS (by decide) (ok_law_blockS (ok_law_statementS (by decide) (ok_law_nestedS (by decide) (ok_law_blockS (ok_law_statement0 T) T) T) T) T) T) T) T) T) T) T) T) T) T)
theorem ok_shown_statementsS {k d : Nat} (G : FnE P w K mg base CX0 k "shown_statement" (spShS d)) (T : Txt w K mg a) : FnE P w K mg base CX0 (k + 1) "shown_statements" (spShL d) := by
 refine fnE_of (sp := (spShL d)) k T.fn_shown_statements sc_shown_statements (fun vs H Q E h => ?_) (fun f cdv A outer s H vs Q E hr h => ?_)
 · obtain ⟨l0, ss, hd, rfl, _⟩ := h
   rfl
 · obtain ⟨l0, ss, hd, rfl, ⟨ps, hl0, hps⟩, hok, hd3, hd8, hcn, q⟩ := h
   have hpl := hps.1
   have hfw := rowsL_few d ss
   refine ⟨_, (pss_cons (ps_set (i := 1) sc_shown_statements.nd rfl (Or.inl rfl) (pe_lst pa_nil))
     (pss_cons (ps_for PassesOwn.never rfl (pi_seqK (K := K) rfl (pv 0)) (pg_name (i := 2) sc_shown_statements.nd rfl (Or.inl rfl)) (pss_one (ps_expr (pe_bmK (K := K) rfl PySem.F.plainAttrs_list PySem.F.slot_list_extend PySem.F.type_list_extend mt_extend (pv 1) (pa_cons (pe_callE G (hr.mono (Nat.le_refl _)) pass0 rfl (pa_cons (pv 2) pa_nil)) pa_nil)))))
     (pss_one (ps_ret (pv 1))))), ?_⟩
   refine r_st (σ' := [some _, none, none]) rfl ?_
   walk_at "rq"
   rename_i l nl
   refine for_list (K := K) (a := l0) (xs := ps.map V.ref) (fun i σ HQ => (∃ u, σ = [some (.ref l0), some (.ref l), u]) ∧ Same H HQ ∧ HQ l = some (.lst ((rowsL d (ss.take i)).map rowV))) ⟨⟨_, rfl⟩, same_new nl, by rw [List.take_zero]; exact upd_same⟩ (fun i σ HQ _ ⟨_, s1, _⟩ => SqL.of (s1 _ _ hl0)) ?_ ?_
   · rintro i v σ HQ hv ⟨⟨u, rfl⟩, s1, hl⟩
     obtain ⟨p, hx, rfl⟩ : ∃ p, ps[i]? = some p ∧ v = .ref p := by
       rw [List.getElem?_map] at hv
       obtain ⟨p, hp, e⟩ := Option.map_eq_some_iff.mp hv
       exact ⟨p, hp, e.symm⟩
     have hi : i < ss.length := by rw [← hpl]; exact (List.getElem?_eq_some_iff.mp hx).1
     have hsi : ss[i]? = some ss[i] := List.getElem?_eq_getElem hi
     have hst := hps.2 i p _ hx hsi
     have hc1 : cnt1 d ss[i] ≤ cntL d ss := sum_mem (cnt1 d) (List.getElem_mem hi)
     have hoki := hok _ (List.getElem_mem hi)
     have hfl : (rowsL d (ss.take i)).length + (rowsS d ss[i]).length ≤ (rowsL d ss).length := by
       rw [rowsL_split (i := i) hsi, List.length_append, List.length_append]; omega
     have htk := rowsL_take (d := d) hsi
     generalize ss[i] = s' at hsi hst hc1 hoki hfl htk
     rw [htk]
     walk_at "rq"
     refine ⟨p, s', hd, rfl, StAt.same s1 hst, hoki, hd3, hd8, by omega, fun l2 H2 s2 n2 hl2 => ?_⟩
     walk_at "rq"
     refine r_extend (s2 _ _ hl) hl2 (by rw [List.length_map, List.length_map, sizeLine_eq]; omega) ?_
     walk_at "rq"
     refine ⟨⟨_, rfl⟩, fun b o e => by rw [upd_ne (ne_of_none e nl)]; exact s2 _ _ (s1 _ _ e), ?_⟩
     rw [upd_same, List.map_append]
   · rintro σ HQ ⟨⟨u, rfl⟩, s1, hl⟩
     rw [List.length_map, hpl, List.take_length] at hl
     walk_at "rq"
     exact q l HQ s1 nl hl
theorem ok_shown_statementS {k d : Nat} (hk : 1 ≤ k) (G : FnE P w K mg base CX0 k "shown_statements" (spShL d)) (T : Txt w K mg a) : FnE P w K mg base CX0 (k + 1) "shown_statement" (spShS (d + 1)) := by
 refine fnE_of (sp := (spShS (d + 1))) k T.fn_shown_statement sc_shown_statement (fun vs H Q E h => ?_) (fun f cdv A outer s H vs Q E hr h => ?_)
 · obtain ⟨p, s', hd, rfl, _⟩ := h
   rfl
 · obtain ⟨p, s', hd, rfl, hst, hok, hd3, hd8, hcn, q⟩ := h
   refine' ⟨_, ?body0, ?_⟩
   (case body0 => (refine' pss_cons ?tu1 ?tq2; (case tq2 => (refine' pss_cons ?tu3 ?tq4; (case tq4 => (refine' pss_cons ?tu5 ?tq6; (case tq6 => (refine' pss_cons ?tu7 ?tq8; (case tq8 => exact (pss_cons (ps_if (PW.pt (pw_or (pt_cmpR (op_eqK (K := K) rfl hr.units) (pv 1) pe_str (nomark _)) (pw_or1 (pt_cmpR (op_eqK (K := K) rfl hr.units) (pv 1) pe_str (nomark _))))) (pss_one (ps_ret (pe_lst (pa_cons (pe_callE (ok_shown_row (K := K) T) (hr.mono (by omega)) pass0 rfl (pa_cons (pv 1) (pa_cons (pe_op (op_plusK (K := K) rfl) (pe_callTy (call_listK (K := K) rfl) rfl T.z_list b_list (pa_cons (pe_slice (sl_K (K := K) rfl) (pv 0) (po_some pe_int) (po_some (pe_un un_neg pe_int))) pa_nil)) (pe_callTy (call_listK (K := K) rfl) rfl T.z_list b_list (pa_cons (pe_ix (ix_K (K := K) rfl) (pv 0) (pe_un un_neg pe_int) (fun _ _ => rfl)) pa_nil))) pa_nil))) pa_nil)))) pss_nil) (pss_one (ps_ret (pe_lst (pa_cons (pe_callE (ok_shown_row (K := K) T) (hr.mono (by omega)) pass0 rfl (pa_cons (pv 1) (pa_cons (pe_slice (sl_K (K := K) rfl) (pv 0) (po_some pe_int) po_none) pa_nil))) pa_nil)))))); (case tu7 => (refine' ps_if ?ti9 ?tj10 ?tm11; (case ti9 => exact (pt_cmpR (op_eqK (K := K) rfl hr.units) (pv 1) pe_str (nomark _))); (case tj10 => (refine' pss_cons ?tu12 ?tq13; (case tq13 => (refine' pss_cons ?tu14 ?tq15; (case tq15 => (refine' pss_one ?tu16; (case tu16 => (refine' ps_ret ?ts17; (case ts17 => (refine' pe_op (op_plusK (K := K) rfl) ?tl18 ?tr19; (case tl18 => exact (pe_op (op_plusK (K := K) rfl) (pe_op (op_plusK (K := K) rfl) (pe_op (op_plusK (K := K) rfl) (pe_lst (pa_cons (pv 1) pa_nil)) (pv 2)) (pe_lst (pa_cons (pe_callE (ok_shown_row (K := K) T) (hr.mono (by omega)) pass0 rfl (pa_cons pe_str (pa_cons (pe_lst (pa_cons (pe_ix (ix_K (K := K) rfl) (pv 0) pe_int (fun _ _ => rfl)) pa_nil)) pa_nil))) pa_nil))) (pv 3))); (case tr19 => (refine' pe_lst ?ta20; (case ta20 => (refine' pa_cons ?tx21 ?ty22 ?tz23; (case tz23 => rfl); (case tx21 => exact pe_str); (case ty22 => exact pa_nil))))))))))); (case tu14 => exact (ps_set (i := 3) sc_shown_statement.nd rfl (Or.inl rfl) (pe_callE G (hr.mono (Nat.le_refl _)) pass0 rfl (pa_cons (pe_ix (ix_K (K := K) rfl) (pv 0) pe_int (fun _ _ => rfl)) pa_nil)))))); (case tu12 => exact (ps_set (i := 2) sc_shown_statement.nd rfl (Or.inl rfl) (pe_callE G (hr.mono (Nat.le_refl _)) pass0 rfl (pa_cons (pe_ix (ix_K (K := K) rfl) (pv 0) pe_int (fun _ _ => rfl)) pa_nil)))))); (case tm11 => exact pss_nil))))); (case tu5 => (refine' ps_if ?ti24 ?tj25 ?tm26; (case ti24 => exact (pt_cmpR (op_eqK (K := K) rfl hr.units) (pv 1) pe_str (nomark _))); (case tj25 => (refine' pss_one ?tu27; (case tu27 => (refine' ps_ret ?ts28; (case ts28 => (refine' pe_op (op_plusK (K := K) rfl) ?tl29 ?tr30; (case tl29 => exact (pe_op (op_plusK (K := K) rfl) (pe_lst (pa_cons (pe_callE (ok_shown_row (K := K) T) (hr.mono (by omega)) pass0 rfl (pa_cons (pv 1) (pa_cons (pe_lst (pa_cons (pe_ix (ix_K (K := K) rfl) (pv 0) pe_int (fun _ _ => rfl)) pa_nil)) pa_nil))) pa_nil)) (pe_callE G (hr.mono (Nat.le_refl _)) pass0 rfl (pa_cons (pe_ix (ix_K (K := K) rfl) (pv 0) pe_int (fun _ _ => rfl)) pa_nil)))); (case tr30 => (refine' pe_lst ?ta31; (case ta31 => (refine' pa_cons ?tx32 ?ty33 ?tz34; (case tz34 => rfl); (case tx32 => exact pe_str); (case ty33 => exact pa_nil))))))))))); (case tm26 => exact pss_nil))))); (case tu3 => (refine' ps_if ?ti35 ?tj36 ?tm37; (case ti35 => exact (pt_cmpR (op_eqK (K := K) rfl hr.units) (pv 1) pe_str (nomark _))); (case tj36 => (refine' pss_cons ?tu38 ?tq39; (case tq39 => (refine' pss_cons ?tu40 ?tq41; (case tq41 => (refine' pss_one ?tu42; (case tu42 => (refine' ps_ret ?ts43; (case ts43 => (refine' pe_op (op_plusK (K := K) rfl) ?tl44 ?tr45; (case tl44 => (refine' pe_op (op_plusK (K := K) rfl) ?tl46 ?tr47; (case tl46 => (refine' pe_op (op_plusK (K := K) rfl) ?tl48 ?tr49; (case tl48 => exact (pe_op (op_plusK (K := K) rfl) (pe_lst (pa_cons (pe_callE (ok_shown_row (K := K) T) (hr.mono (by omega)) pass0 rfl (pa_cons (pv 1) (pa_cons (pe_lst (pa_cons (pe_ix (ix_K (K := K) rfl) (pv 0) pe_int (fun _ _ => rfl)) pa_nil)) pa_nil))) pa_nil)) (pv 2))); (case tr49 => (refine' pe_lst ?ta50; (case ta50 => (refine' pa_cons ?tx51 ?ty52 ?tz53; (case tz53 => rfl); (case tx51 => exact pe_str); (case ty52 => exact pa_nil))))))); (case tr47 => exact (pv 3)))); (case tr45 => (refine' pe_lst ?ta54; (case ta54 => (refine' pa_cons ?tx55 ?ty56 ?tz57; (case tz57 => rfl); (case tx55 => exact pe_str); (case ty56 => exact pa_nil))))))))))); (case tu40 => exact (ps_set (i := 3) sc_shown_statement.nd rfl (Or.inl rfl) (pe_callE G (hr.mono (Nat.le_refl _)) pass0 rfl (pa_cons (pe_ix (ix_K (K := K) rfl) (pv 0) pe_int (fun _ _ => rfl)) pa_nil)))))); (case tu38 => exact (ps_set (i := 2) sc_shown_statement.nd rfl (Or.inl rfl) (pe_callE G (hr.mono (Nat.le_refl _)) pass0 rfl (pa_cons (pe_ix (ix_K (K := K) rfl) (pv 0) pe_int (fun _ _ => rfl)) pa_nil)))))); (case tm37 => exact pss_nil))))); (case tu1 => exact (ps_set (i := 1) sc_shown_statement.nd rfl (Or.inl rfl) (pe_ix (ix_K (K := K) rfl) (pv 0) pe_int (fun _ _ => rfl))))))
   refine r_st (σ' := [some _, none, none, none]) rfl ?_
   cases s' with
   | pl s1 =>
     cases s1 with
     | set x v =>
       have hp : H p = some (.tup (.str "set" :: [.int x, .int v])) := hst
       have R1 := rowsS_ok hd3 hd8 (d + 1) (.pl (.set x v)) hok _ (List.mem_singleton.mpr rfl)
       walk_at "rq"
       refine r_slT (SqT.of hp) (cut_tail_neV _ _) (fun l1 n1 => ?_)
       rw [cut_tailV]
       walk_at "rq"
       refine ⟨"set", l1, [x, v], rfl, .inr upd_same, R1, fun H1 s1 => ?_⟩
       walk_at "rq"
       rename_i l2 n2
       exact q l2 _ (by walk_at "same") (by walk_at "none") upd_same
     | copy x y =>
       have hp : H p = some (.tup (.str "copy" :: [.int x, .int y])) := hst
       have R1 := rowsS_ok hd3 hd8 (d + 1) (.pl (.copy x y)) hok _ (List.mem_singleton.mpr rfl)
       walk_at "rq"
       refine r_slT (SqT.of hp) (cut_tail_neV _ _) (fun l1 n1 => ?_)
       rw [cut_tailV]
       walk_at "rq"
       refine ⟨"copy", l1, [x, y], rfl, .inr upd_same, R1, fun H1 s1 => ?_⟩
       walk_at "rq"
       rename_i l2 n2
       exact q l2 _ (by walk_at "same") (by walk_at "none") upd_same
     | sum x y z =>
       have hp : H p = some (.tup (.str "sum" :: [.int x, .int y, .int z])) := hst
       have R1 := rowsS_ok hd3 hd8 (d + 1) (.pl (.sum x y z)) hok _ (List.mem_singleton.mpr rfl)
       walk_at "rq"
       refine r_slT (SqT.of hp) (cut_tail_neV _ _) (fun l1 n1 => ?_)
       rw [cut_tailV]
       walk_at "rq"
       refine ⟨"sum", l1, [x, y, z], rfl, .inr upd_same, R1, fun H1 s1 => ?_⟩
       walk_at "rq"
       rename_i l2 n2
       exact q l2 _ (by walk_at "same") (by walk_at "none") upd_same
     | minus x y z =>
       have hp : H p = some (.tup (.str "minus" :: [.int x, .int y, .int z])) := hst
       have R1 := rowsS_ok hd3 hd8 (d + 1) (.pl (.minus x y z)) hok _ (List.mem_singleton.mpr rfl)
       walk_at "rq"
       refine r_slT (SqT.of hp) (cut_tail_neV _ _) (fun l1 n1 => ?_)
       rw [cut_tailV]
       walk_at "rq"
       refine ⟨"minus", l1, [x, y, z], rfl, .inr upd_same, R1, fun H1 s1 => ?_⟩
       walk_at "rq"
       rename_i l2 n2
       exact q l2 _ (by walk_at "same") (by walk_at "none") upd_same
     | product x y z =>
       have hp : H p = some (.tup (.str "product" :: [.int x, .int y, .int z])) := hst
       have R1 := rowsS_ok hd3 hd8 (d + 1) (.pl (.product x y z)) hok _ (List.mem_singleton.mpr rfl)
       walk_at "rq"
       refine r_slT (SqT.of hp) (cut_tail_neV _ _) (fun l1 n1 => ?_)
       rw [cut_tailV]
       walk_at "rq"
       refine ⟨"product", l1, [x, y, z], rfl, .inr upd_same, R1, fun H1 s1 => ?_⟩
       walk_at "rq"
       rename_i l2 n2
       exact q l2 _ (by walk_at "same") (by walk_at "none") upd_same
     | less x y z =>
       have hp : H p = some (.tup (.str "less" :: [.int x, .int y, .int z])) := hst
       have R1 := rowsS_ok hd3 hd8 (d + 1) (.pl (.less x y z)) hok _ (List.mem_singleton.mpr rfl)
       walk_at "rq"
       refine r_slT (SqT.of hp) (cut_tail_neV _ _) (fun l1 n1 => ?_)
       rw [cut_tailV]
       walk_at "rq"
       refine ⟨"less", l1, [x, y, z], rfl, .inr upd_same, R1, fun H1 s1 => ?_⟩
       walk_at "rq"
       rename_i l2 n2
       exact q l2 _ (by walk_at "same") (by walk_at "none") upd_same
     | give x =>
       have hp : H p = some (.tup (.str "give" :: [.int x])) := hst
       have R1 := rowsS_ok hd3 hd8 (d + 1) (.pl (.give x)) hok _ (List.mem_singleton.mpr rfl)
       walk_at "rq"
       refine r_slT (SqT.of hp) (cut_tail_neV _ _) (fun l1 n1 => ?_)
       rw [cut_tailV]
       walk_at "rq"
       refine ⟨"give", l1, [x], rfl, .inr upd_same, R1, fun H1 s1 => ?_⟩
       walk_at "rq"
       rename_i l2 n2
       exact q l2 _ (by walk_at "same") (by walk_at "none") upd_same
     | leave x => exact hok.elim
   | drop x =>
       have hp : H p = some (.tup (.str "drop" :: [.int x])) := hst
       have R1 := rowsS_ok hd3 hd8 (d + 1) (.drop x) hok _ (List.mem_singleton.mpr rfl)
       walk_at "rq"
       refine r_slT (SqT.of hp) (cut_tail_neV _ _) (fun l1 n1 => ?_)
       rw [cut_tailV]
       walk_at "rq"
       refine ⟨"drop", l1, [x], rfl, .inr upd_same, R1, fun H1 s1 => ?_⟩
       walk_at "rq"
       rename_i l2 n2
       exact q l2 _ (by walk_at "same") (by walk_at "none") upd_same
   | call x f' ns lb =>
     obtain ⟨q1, hp, hq1⟩ := hst
     have R1 := rowsS_ok hd3 hd8 (d + 1) (.call x f' ns lb) hok _ (List.mem_singleton.mpr rfl)
     have hfew : ns.length ≤ 7 := by have h7 : (x :: f' :: ns).length ≤ 7 := R1.few; simp only [List.length_cons] at h7; omega
     walk_at "rq"
     refine r_slT (SqT.of hp) (fun z => Nat.noConfusion (show (1 : Nat) = 0 from z.1)) (fun l1 n1 => ?_)
     rw [show cutV [V.str "call", V.int x, V.int f', V.ref q1] (some 1) (some (-1)) = [V.int x, V.int f'] from rfl]
     walk_at "rq"
     refine r_listT (SqT.of upd_same) fun l2 n2 => ?_
     have hp2 := look_new (o := .lst [V.int x, V.int f']) (look_new (o := .tup [V.int x, V.int f']) hp n1) n2
     have hq2 := look_new (o := .lst [V.int x, V.int f']) (look_new (o := .tup [V.int x, V.int f']) hq1 n1) n2
     walk_at "rq"
     cases lb
     · refine r_listT (SqT.of hq2) fun l3 n3 => ?_
       walk_at "rq"
       refine ⟨"call", _, x :: f' :: ns, rfl, .inl upd_same, R1, fun H1 s1 => ?_⟩
       walk_at "rq"
       exact q _ _ (by walk_at "same") (by walk_at "none") upd_same
     · refine r_listL (SqL.of hq2) fun l3 n3 => ?_
       walk_at "rq"
       refine ⟨"call", _, x :: f' :: ns, rfl, .inl upd_same, R1, fun H1 s1 => ?_⟩
       walk_at "rq"
       exact q _ _ (by walk_at "same") (by walk_at "none") upd_same
   | hand f' ns lb =>
     obtain ⟨q1, hp, hq1⟩ := hst
     have R1 := rowsS_ok hd3 hd8 (d + 1) (.hand f' ns lb) hok _ (List.mem_singleton.mpr rfl)
     have hfew : ns.length ≤ 7 := by have h7 : (f' :: ns).length ≤ 7 := R1.few; simp only [List.length_cons] at h7; omega
     walk_at "rq"
     refine r_slT (SqT.of hp) (fun z => Nat.noConfusion (show (1 : Nat) = 0 from z.1)) (fun l1 n1 => ?_)
     rw [show cutV [V.str "hand", V.int f', V.ref q1] (some 1) (some (-1)) = [V.int f'] from rfl]
     walk_at "rq"
     refine r_listT (SqT.of upd_same) fun l2 n2 => ?_
     have hp2 := look_new (o := .lst [V.int f']) (look_new (o := .tup [V.int f']) hp n1) n2
     have hq2 := look_new (o := .lst [V.int f']) (look_new (o := .tup [V.int f']) hq1 n1) n2
     walk_at "rq"
     cases lb
     · refine r_listT (SqT.of hq2) fun l3 n3 => ?_
       walk_at "rq"
       refine ⟨"hand", _, f' :: ns, rfl, .inl upd_same, R1, fun H1 s1 => ?_⟩
       walk_at "rq"
       exact q _ _ (by walk_at "same") (by walk_at "none") upd_same
     · refine r_listL (SqL.of hq2) fun l3 n3 => ?_
       walk_at "rq"
       refine ⟨"hand", _, f' :: ns, rfl, .inl upd_same, R1, fun H1 s1 => ?_⟩
       walk_at "rq"
       exact q _ _ (by walk_at "same") (by walk_at "none") upd_same
   | ifS x a' b =>
     obtain ⟨la, lb, hp, h2, h3⟩ := hst
     obtain ⟨o1, o2, o3, o4⟩ := hok
     have fa := rowsL_few d a'
     have fb := rowsL_few d b
     have ec : 1 + cntL d a' + cntL d b ≤ 80 := hcn
     walk_at "rq"
     refine ⟨la, a', hd, rfl, h2, o3, hd3, hd8, by omega, fun l1 H1 s1 n1 hl1 => ?_⟩
     have hp1 := s1 _ _ hp
     walk_at "rq"
     refine ⟨lb, b, hd, rfl, h3.same s1 (fun _ _ => StAt.same s1), o4, hd3, hd8, by omega, fun l2 H2 s2 n2 hl2 => ?_⟩
     have hp2 := s2 _ _ hp1
     have hl12 := s2 _ _ hl1
     have sA := s1.trans s2
     clear hl1 hp1 s1 s2 n1 n2
     walk_at "rq"
     refine ⟨"if", _, [x], rfl, .inl upd_same, rd_one (by decide +kernel) (by decide) ⟨rfl, rfl⟩ (n9 o1), fun H3 s3 => ?_⟩
     rename_i l3 n3
     have s4 := (same_new n3).trans s3
     have hl13 := s4 _ _ hl12
     have hl23 := s4 _ _ hl2
     replace sA := sA.trans s4
     clear hl12 hl2 s3 s4 n3 hp2 hp
     walk_at "rq"
     exact q _ _ (by walk_at "same") (by walk_at "none") (by rw [rows_if]; exact upd_same)
   | whileS x a' =>
     obtain ⟨la, hp, h2⟩ := hst
     obtain ⟨o1, o2, o3⟩ := hok
     have fa := rowsL_few d a'
     have ec : 1 + cntL d a' ≤ 80 := hcn
     walk_at "rq"
     refine ⟨"while", _, [x], rfl, .inl upd_same, rd_one (by decide +kernel) (by decide) ⟨rfl, rfl⟩ (n9 o1), fun H3 s3 => ?_⟩
     rename_i l3 n3
     have s4 := (same_new n3).trans s3
     have hp4 := s4 _ _ hp
     have h24 := h2.same s4 (fun _ _ => StAt.same s4)
     clear s3 n3 h2
     walk_at "rq"
     rename_i l4 n4
     have s5 := same_new (o := .lst [rowV ("while", [x])]) n4
     refine ⟨la, a', hd, rfl, h24.same s5 (fun _ _ => StAt.same s5), o3, hd3, hd8, by omega, fun l1 H1 s1 n1 hl1 => ?_⟩
     have hl4 := s1 _ _ (show (upd H3 l4 (.lst [rowV ("while", [x])])) l4 = _ from upd_same)
     have sA := s4.trans (s5.trans s1)
     clear s1 s4 s5 hp hp4 n4 n1
     walk_at "rq"
     exact q _ _ (by walk_at "same") (by walk_at "none") (by rw [rows_while]; exact upd_same)
   | tryS a' x b =>
     obtain ⟨la, lb, hp, h2, h3⟩ := hst
     obtain ⟨o1, o2, o3, o4⟩ := hok
     have fa := rowsL_few d a'
     have fb := rowsL_few d b
     have ec : 1 + cntL d a' + cntL d b ≤ 80 := hcn
     walk_at "rq"
     refine ⟨la, a', hd, rfl, h2, o3, hd3, hd8, by omega, fun l1 H1 s1 n1 hl1 => ?_⟩
     have hp1 := s1 _ _ hp
     walk_at "rq"
     refine ⟨lb, b, hd, rfl, h3.same s1 (fun _ _ => StAt.same s1), o4, hd3, hd8, by omega, fun l2 H2 s2 n2 hl2 => ?_⟩
     have hp2 := s2 _ _ hp1
     have hl12 := s2 _ _ hl1
     have sA := s1.trans s2
     clear hl1 hp1 s1 s2 n1 n2
     walk_at "rq"
     rename_i l5 n5 l6 n6 l3 n3
     refine ⟨"landing", _, [x], rfl, .inl upd_same, rd_one (by decide +kernel) (by decide) ⟨rfl, rfl⟩ (n9 o1), fun H3 s3 => ?_⟩
     have h6 := s3 _ _ (look_new upd_same n3)
     have hl23 := s3 _ _ (look_new (look_new (look_new hl2 n5) n6) n3)
     replace sA := sA.trans (((same_new n5).trans (same_new n6)).trans ((same_new n3).trans s3))
     clear hl12 hl2 s3 n3 hp2 hp n5 n6
     walk_at "rq"
     exact q _ _ (by walk_at "same") (by walk_at "none") (by rw [rows_try]; exact upd_same)
theorem ok_shown_statement0 (T : Txt w K mg a) : FnE P w K mg base CX0 2 "shown_statement" (spShS 0) := by
 refine fnE_of (sp := (spShS 0)) 1 T.fn_shown_statement sc_shown_statement (fun vs H Q E h => ?_) (fun f cdv A outer s H vs Q E hr h => ?_)
 · obtain ⟨p, s1, hd, _, hst, _⟩ := h; exact hst.elim
 · obtain ⟨p, s1, hd, _, hst, _⟩ := h; exact hst.elim
theorem ok_shown_statements (T : Txt w K mg a) : FnE P w K mg base CX0 13 "shown_statements" (spShL 5) := (ok_shown_statementsS (ok_shown_statementS (by decide) (ok_shown_statementsS (ok_shown_statementS (by decide) (ok_shown_statementsS (ok_shown_statementS (by decide) (ok_shown_statementsS (ok_shown_statementS (by decide) (ok_shown_statementsS (ok_shown_statementS (by decide) (ok_shown_statementsS (ok_shown_statement0 T) T) T) T) T) T) T) T) T) T) T) T)
theorem ok_law_rowsS {k d : Nat} (hk : 1 ≤ k) (G : FnE P w K mg base CX0 k "_law_rows" (spLR d)) (T : Txt w K mg a) : FnE P w K mg base CX0 (k + 1) "_law_rows" (spLR (d + 1)) := by
 refine fnE_of (sp := (spLR (d + 1))) k T.fn_law_rows sc_law_rows (fun vs H Q E h => ?_) (fun f cdv A outer s H vs Q E hr h => ?_)
 · obtain ⟨l0, ss, hd, rfl, _⟩ := h
   rfl
 · obtain ⟨l0, ss, hd, rfl, _, ⟨ps, hl0, hps⟩, hok, hd3, hd8, hcn, q⟩ := h
   have hpl := hps.1
   have hfw := rowsL_few (d + 1) ss
   refine' ⟨_, ?body0, ?_⟩
   (case body0 => (refine' pss_cons ?tu58 ?tq59; (case tq59 => (refine' pss_cons ?tu60 ?tq61; (case tq61 => exact (pss_one (ps_ret (pv 1)))); (case tu60 => (refine' ps_for PassesOwn.never rfl (pi_seqK (K := K) rfl (pv 0)) (pg_name (i := 2) sc_law_rows.nd rfl (Or.inl rfl)) ?tf62; (case tf62 => (refine' pss_cons ?tu63 ?tq64; (case tq64 => (refine' pss_one ?tu65; (case tu65 => (refine' ps_if ?ti66 ?tj67 ?tm68; (case ti66 => exact (pt_cmpR (op_eqK (K := K) rfl hr.units) (pv 3) pe_str (nomark _))); (case tj67 => (refine' pss_cons ?tu69 ?tq70; (case tq70 => (refine' pss_one ?tu71; (case tu71 => (refine' ps_set (i := 1) ?tv72 ?tv73 ?tv74 ?tv75 ?tv76 ?tv77; (case tv72 => exact sc_law_rows.nd); (case tv73 => rfl); (case tv74 => exact (Or.inl rfl)); (case tv76 => rfl); (case tv77 => exact .inl rfl); (case tv75 => (refine' pe_op (op_plusK (K := K) rfl) ?tl78 ?tr79; (case tl78 => (refine' pe_op (op_plusK (K := K) rfl) ?tl80 ?tr81; (case tl80 => (refine' pe_op (op_plusK (K := K) rfl) ?tl82 ?tr83; (case tl82 => exact (pv 1)); (case tr83 => (refine' pe_lst ?ta84; (case ta84 => (refine' pa_cons ?tx85 ?ty86 ?tz87; (case tz87 => rfl); (case tx85 => exact pe_str); (case ty86 => exact pa_nil))))))); (case tr81 => exact (pe_callE G (hr.mono (Nat.le_refl _)) pass0 rfl (pa_cons (pe_ix (ix_K (K := K) rfl) (pv 2) pe_int (fun _ _ => rfl)) pa_nil))))); (case tr79 => (refine' pe_lst ?ta88; (case ta88 => (refine' pa_cons ?tx89 ?ty90 ?tz91; (case tz91 => rfl); (case tx89 => exact pe_str); (case ty90 => exact pa_nil))))))))))); (case tu69 => exact (ps_set (i := 1) sc_law_rows.nd rfl (Or.inl rfl) (pe_op (op_plusK (K := K) rfl) (pe_op (op_plusK (K := K) rfl) (pv 1) (pe_lst (pa_cons (pe_op (op_plusK (K := K) rfl) pe_str (pe_callTy call_str_int rfl T.z_str b_str (pa_cons (pe_ix (ix_K (K := K) rfl) (pv 2) pe_int (fun _ _ => rfl)) pa_nil))) pa_nil))) (pe_callE G (hr.mono (Nat.le_refl _)) pass0 rfl (pa_cons (pe_ix (ix_K (K := K) rfl) (pv 2) pe_int (fun _ _ => rfl)) pa_nil))))))); (case tm68 => (refine' pss_one ?tu92; (case tu92 => (refine' ps_if ?ti93 ?tj94 ?tm95; (case ti93 => exact (pt_cmpR (op_eqK (K := K) rfl hr.units) (pv 3) pe_str (nomark _))); (case tj94 => (refine' pss_one ?tu96; (case tu96 => (refine' ps_set (i := 1) ?tv97 ?tv98 ?tv99 ?tv100 ?tv101 ?tv102; (case tv97 => exact sc_law_rows.nd); (case tv98 => rfl); (case tv99 => exact (Or.inl rfl)); (case tv101 => rfl); (case tv102 => exact .inl rfl); (case tv100 => (refine' pe_op (op_plusK (K := K) rfl) ?tl103 ?tr104; (case tl103 => exact (pe_op (op_plusK (K := K) rfl) (pe_op (op_plusK (K := K) rfl) (pv 1) (pe_lst (pa_cons (pe_op (op_plusK (K := K) rfl) pe_str (pe_callTy call_str_int rfl T.z_str b_str (pa_cons (pe_ix (ix_K (K := K) rfl) (pv 2) pe_int (fun _ _ => rfl)) pa_nil))) pa_nil))) (pe_callE G (hr.mono (Nat.le_refl _)) pass0 rfl (pa_cons (pe_ix (ix_K (K := K) rfl) (pv 2) pe_int (fun _ _ => rfl)) pa_nil)))); (case tr104 => (refine' pe_lst ?ta105; (case ta105 => (refine' pa_cons ?tx106 ?ty107 ?tz108; (case tz108 => rfl); (case tx106 => exact pe_str); (case ty107 => exact pa_nil))))))))))); (case tm95 => (refine' pss_one ?tu109; (case tu109 => (refine' ps_if ?ti110 ?tj111 ?tm112; (case ti110 => exact (pt_cmpR (op_eqK (K := K) rfl hr.units) (pv 3) pe_str (nomark _))); (case tj111 => (refine' pss_cons ?tu113 ?tq114; (case tq114 => (refine' pss_one ?tu115; (case tu115 => (refine' ps_set (i := 1) ?tv116 ?tv117 ?tv118 ?tv119 ?tv120 ?tv121; (case tv116 => exact sc_law_rows.nd); (case tv117 => rfl); (case tv118 => exact (Or.inl rfl)); (case tv120 => rfl); (case tv121 => exact .inl rfl); (case tv119 => (refine' pe_op (op_plusK (K := K) rfl) ?tl122 ?tr123; (case tl122 => exact (pe_op (op_plusK (K := K) rfl) (pe_op (op_plusK (K := K) rfl) (pv 1) (pe_lst (pa_cons (pe_op (op_plusK (K := K) rfl) pe_str (pe_callTy call_str_int rfl T.z_str b_str (pa_cons (pe_ix (ix_K (K := K) rfl) (pv 2) pe_int (fun _ _ => rfl)) pa_nil))) pa_nil))) (pe_callE G (hr.mono (Nat.le_refl _)) pass0 rfl (pa_cons (pe_ix (ix_K (K := K) rfl) (pv 2) pe_int (fun _ _ => rfl)) pa_nil)))); (case tr123 => (refine' pe_lst ?ta124; (case ta124 => (refine' pa_cons ?tx125 ?ty126 ?tz127; (case tz127 => rfl); (case tx125 => exact pe_str); (case ty126 => exact pa_nil))))))))))); (case tu113 => (refine' ps_set (i := 1) ?tv128 ?tv129 ?tv130 ?tv131 ?tv132 ?tv133; (case tv128 => exact sc_law_rows.nd); (case tv129 => rfl); (case tv130 => exact (Or.inl rfl)); (case tv132 => rfl); (case tv133 => exact .inl rfl); (case tv131 => (refine' pe_op (op_plusK (K := K) rfl) ?tl134 ?tr135; (case tl134 => (refine' pe_op (op_plusK (K := K) rfl) ?tl136 ?tr137; (case tl136 => exact (pv 1)); (case tr137 => (refine' pe_lst ?ta138; (case ta138 => (refine' pa_cons ?tx139 ?ty140 ?tz141; (case tz141 => rfl); (case tx139 => exact pe_str); (case ty140 => exact pa_nil))))))); (case tr135 => exact (pe_callE G (hr.mono (Nat.le_refl _)) pass0 rfl (pa_cons (pe_ix (ix_K (K := K) rfl) (pv 2) pe_int (fun _ _ => rfl)) pa_nil))))))))); (case tm112 => exact (pss_one (ps_if (pt_cmpR (op_eqK (K := K) rfl hr.units) (pv 3) pe_str (nomark _)) (pss_one (ps_expr (pe_bmK (K := K) rfl PySem.F.plainAttrs_list PySem.F.slot_list_append PySem.F.type_list_append mt_append (pv 1) (pa_cons (pe_callE (ok_law_words (K := K) T) (hr.mono (by omega)) pass0 rfl (pa_cons (pv 3) (pa_cons (pe_op (op_plusK (K := K) rfl) (pe_lst (pa_cons (pe_ix (ix_K (K := K) rfl) (pv 2) pe_int (fun _ _ => rfl)) (pa_cons (pe_ix (ix_K (K := K) rfl) (pv 2) pe_int (fun _ _ => rfl)) pa_nil))) (pe_ix (ix_K (K := K) rfl) (pv 2) pe_int (fun _ _ => rfl))) pa_nil))) pa_nil)))) (pss_one (ps_if (pt_cmpR (op_eqK (K := K) rfl hr.units) (pv 3) pe_str (nomark _)) (pss_one (ps_expr (pe_bmK (K := K) rfl PySem.F.plainAttrs_list PySem.F.slot_list_append PySem.F.type_list_append mt_append (pv 1) (pa_cons (pe_callE (ok_law_words (K := K) T) (hr.mono (by omega)) pass0 rfl (pa_cons (pv 3) (pa_cons (pe_op (op_plusK (K := K) rfl) (pe_lst (pa_cons (pe_ix (ix_K (K := K) rfl) (pv 2) pe_int (fun _ _ => rfl)) pa_nil)) (pe_ix (ix_K (K := K) rfl) (pv 2) pe_int (fun _ _ => rfl))) pa_nil))) pa_nil)))) (pss_one (ps_expr (pe_bmK (K := K) rfl PySem.F.plainAttrs_list PySem.F.slot_list_append PySem.F.type_list_append mt_append (pv 1) (pa_cons (pe_callE (ok_law_words (K := K) T) (hr.mono (by omega)) pass0 rfl (pa_cons (pv 3) (pa_cons (pe_slice (sl_K (K := K) rfl) (pv 2) (po_some pe_int) po_none) pa_nil))) pa_nil))))))))))))))))))))); (case tu63 => exact (ps_set (i := 3) sc_law_rows.nd rfl (Or.inl rfl) (pe_ix (ix_K (K := K) rfl) (pv 2) pe_int (fun _ _ => rfl)))))))))); (case tu58 => exact (ps_set (i := 1) sc_law_rows.nd rfl (Or.inl rfl) (pe_lst pa_nil)))))
   refine r_st (σ' := [some _, none, none, none]) rfl ?_
   walk_at "rq"
   rename_i l nl
   refine for_list (K := K) (a := l0) (xs := ps.map V.ref) (fun i σ HQ => Same H HQ ∧ ∃ (lr : Addr) (u v : Option V), σ = [some (.ref l0), some (.ref lr), u, v] ∧ H lr = none ∧ HQ lr = some (.lst ((rowsL (d + 1) (ss.take i)).map rowV))) ⟨same_new nl, l, _, _, rfl, nl, by rw [List.take_zero]; exact upd_same⟩ (fun i σ HQ _ ⟨s1, _⟩ => SqL.of (s1 _ _ hl0)) ?_ ?_
   · rintro i v σ HQ hv ⟨s1, lr, u1, u2, rfl, nlr, hl⟩
     obtain ⟨p, hx, rfl⟩ : ∃ p, ps[i]? = some p ∧ v = .ref p := by
       rw [List.getElem?_map] at hv
       obtain ⟨p, hp, e⟩ := Option.map_eq_some_iff.mp hv
       exact ⟨p, hp, e.symm⟩
     have hi : i < ss.length := by rw [← hpl]; exact (List.getElem?_eq_some_iff.mp hx).1
     have hsi : ss[i]? = some ss[i] := List.getElem?_eq_getElem hi
     have hst1 := StAt.same s1 (hps.2 i p _ hx hsi)
     have hc1 : cnt1 (d + 1) ss[i] ≤ cntL (d + 1) ss := sum_mem (cnt1 (d + 1)) (List.getElem_mem hi)
     have hoki := hok _ (List.getElem_mem hi)
     have hfl : (rowsL (d + 1) (ss.take i)).length + (rowsS (d + 1) ss[i]).length ≤ (rowsL (d + 1) ss).length := by
       rw [rowsL_split (i := i) hsi, List.length_append, List.length_append]; omega
     have htk := rowsL_take (d := d + 1) hsi
     generalize ss[i] = s' at hsi hst1 hc1 hoki hfl htk
     rw [htk]
     generalize rowsL (d + 1) (ss.take i) = A1 at hl hfl htk ⊢
     have hA : A1.length ≤ 240 := by omega
     clear hv hx hfl htk
     have fin1 : ∀ {r : RD} {wv : Option V} H1, Same HQ H1 → Same H (upd H1 lr (.lst (A1.map rowV ++ [rowV r]))) ∧ ∃ (lr' : Addr) (u v : Option V), [some (V.ref l0), some (.ref lr), some (.ref p), wv] = [some (.ref l0), some (.ref lr'), u, v] ∧ H lr' = none ∧ (upd H1 lr (.lst (A1.map rowV ++ [rowV r]))) lr' = some (.lst ((A1 ++ [r]).map rowV)) := fun {r wv} H1 s3 => ⟨fun b o e => by rw [upd_ne (ne_of_none e nlr)]; exact s3 _ _ (s1 _ _ e), lr, _, _, rfl, nlr, by rw [upd_same, List.map_append]; rfl⟩
     cases s' with
     | pl s2 =>
       cases s2 with
       | set x v =>
           have hp : HQ p = some (.tup (.str "set" :: [.int x, .int v])) := hst1
           have R1 := rowsS_ok hd3 hd8 (d + 1) (.pl (.set x v)) hoki.ok _ (List.mem_singleton.mpr rfl)
           walk_at "rq"
           refine r_slT (SqT.of hp) (cut_tail_neV _ _) (fun l1 n1 => ?_)
           rw [cut_tailV]
           walk_at "rq"
           refine ⟨"set", l1, [x, v], rfl, .inr upd_same, R1, fun H1 s3 => ?_⟩
           have hl3 := s3 _ _ (look_new hl n1)
           walk_at "rq"
           exact fin1 _ ((same_new n1).trans s3)
       | copy x y =>
           have hp : HQ p = some (.tup (.str "copy" :: [.int x, .int y])) := hst1
           have R1 := rowsS_ok hd3 hd8 (d + 1) (.pl (.copy x y)) hoki.ok _ (List.mem_singleton.mpr rfl)
           walk_at "rq"
           refine r_slT (SqT.of hp) (cut_tail_neV _ _) (fun l1 n1 => ?_)
           rw [cut_tailV]
           walk_at "rq"
           refine ⟨"copy", l1, [x, y], rfl, .inr upd_same, R1, fun H1 s3 => ?_⟩
           have hl3 := s3 _ _ (look_new hl n1)
           walk_at "rq"
           exact fin1 _ ((same_new n1).trans s3)
       | sum x y z =>
           have hp : HQ p = some (.tup (.str "sum" :: [.int x, .int y, .int z])) := hst1
           have R1 := rowsS_ok hd3 hd8 (d + 1) (.pl (.sum x y z)) hoki.ok _ (List.mem_singleton.mpr rfl)
           walk_at "rq"
           refine r_slT (SqT.of hp) (cut_tail_neV _ _) (fun l1 n1 => ?_)
           rw [cut_tailV]
           walk_at "rq"
           refine ⟨"sum", l1, [x, y, z], rfl, .inr upd_same, R1, fun H1 s3 => ?_⟩
           have hl3 := s3 _ _ (look_new hl n1)
           walk_at "rq"
           exact fin1 _ ((same_new n1).trans s3)
       | minus x y z =>
           have hp : HQ p = some (.tup (.str "minus" :: [.int x, .int y, .int z])) := hst1
           have R1 := rowsS_ok hd3 hd8 (d + 1) (.pl (.minus x y z)) hoki.ok _ (List.mem_singleton.mpr rfl)
           walk_at "rq"
           refine r_slT (SqT.of hp) (cut_tail_neV _ _) (fun l1 n1 => ?_)
           rw [cut_tailV]
           walk_at "rq"
           refine ⟨"minus", l1, [x, y, z], rfl, .inr upd_same, R1, fun H1 s3 => ?_⟩
           have hl3 := s3 _ _ (look_new hl n1)
           walk_at "rq"
           exact fin1 _ ((same_new n1).trans s3)
       | product x y z =>
           have hp : HQ p = some (.tup (.str "product" :: [.int x, .int y, .int z])) := hst1
           have R1 := rowsS_ok hd3 hd8 (d + 1) (.pl (.product x y z)) hoki.ok _ (List.mem_singleton.mpr rfl)
           walk_at "rq"
           refine r_slT (SqT.of hp) (cut_tail_neV _ _) (fun l1 n1 => ?_)
           rw [cut_tailV]
           walk_at "rq"
           refine ⟨"product", l1, [x, y, z], rfl, .inr upd_same, R1, fun H1 s3 => ?_⟩
           have hl3 := s3 _ _ (look_new hl n1)
           walk_at "rq"
           exact fin1 _ ((same_new n1).trans s3)
       | less x y z =>
           have hp : HQ p = some (.tup (.str "less" :: [.int x, .int y, .int z])) := hst1
           have R1 := rowsS_ok hd3 hd8 (d + 1) (.pl (.less x y z)) hoki.ok _ (List.mem_singleton.mpr rfl)
           walk_at "rq"
           refine r_slT (SqT.of hp) (cut_tail_neV _ _) (fun l1 n1 => ?_)
           rw [cut_tailV]
           walk_at "rq"
           refine ⟨"less", l1, [x, y, z], rfl, .inr upd_same, R1, fun H1 s3 => ?_⟩
           have hl3 := s3 _ _ (look_new hl n1)
           walk_at "rq"
           exact fin1 _ ((same_new n1).trans s3)
       | give x =>
           have hp : HQ p = some (.tup (.str "give" :: [.int x])) := hst1
           have R1 := rowsS_ok hd3 hd8 (d + 1) (.pl (.give x)) hoki.ok _ (List.mem_singleton.mpr rfl)
           walk_at "rq"
           refine r_slT (SqT.of hp) (cut_tail_neV _ _) (fun l1 n1 => ?_)
           rw [cut_tailV]
           walk_at "rq"
           refine ⟨"give", l1, [x], rfl, .inr upd_same, R1, fun H1 s3 => ?_⟩
           have hl3 := s3 _ _ (look_new hl n1)
           walk_at "rq"
           exact fin1 _ ((same_new n1).trans s3)
       | leave x => exact hoki.elim
     | drop x =>
         have hp : HQ p = some (.tup (.str "drop" :: [.int x])) := hst1
         have R1 := rowsS_ok hd3 hd8 (d + 1) (.drop x) hoki.ok _ (List.mem_singleton.mpr rfl)
         walk_at "rq"
         refine r_slT (SqT.of hp) (cut_tail_neV _ _) (fun l1 n1 => ?_)
         rw [cut_tailV]
         walk_at "rq"
         refine ⟨"drop", l1, [x], rfl, .inr upd_same, R1, fun H1 s3 => ?_⟩
         have hl3 := s3 _ _ (look_new hl n1)
         walk_at "rq"
         exact fin1 _ ((same_new n1).trans s3)
     | call x f' ns lb =>
         obtain ⟨q1, hp, hq1⟩ := hst1
         have R1 := rowsS_ok hd3 hd8 (d + 1) (.call x f' ns lb) hoki.ok _ (List.mem_singleton.mpr rfl)
         have hfew : ns.length ≤ 7 := by have h7 : (x :: f' :: ns).length ≤ 7 := R1.few; simp only [List.length_cons] at h7; omega
         obtain rfl : lb = true := hoki.2.2.2.2
         have hq1 : HQ q1 = some (.lst (ns.map V.int)) := hq1
         walk_at "rq"
         rename_i l1 n1 l2 n2
         refine ⟨"call", _, x :: f' :: ns, rfl, .inl upd_same, R1, fun H1 s3 => ?_⟩
         have hl3 := s3 _ _ (look_new (look_new hl n1) n2)
         walk_at "rq"
         exact fin1 _ (((same_new n1).trans (same_new n2)).trans s3)
     | hand f' ns lb =>
         obtain ⟨q1, hp, hq1⟩ := hst1
         have R1 := rowsS_ok hd3 hd8 (d + 1) (.hand f' ns lb) hoki.ok _ (List.mem_singleton.mpr rfl)
         have hfew : ns.length ≤ 7 := by have h7 : (f' :: ns).length ≤ 7 := R1.few; simp only [List.length_cons] at h7; omega
         obtain rfl : lb = true := hoki.2.2.2
         have hq1 : HQ q1 = some (.lst (ns.map V.int)) := hq1
         walk_at "rq"
         rename_i l1 n1 l2 n2
         refine ⟨"hand", _, f' :: ns, rfl, .inl upd_same, R1, fun H1 s3 => ?_⟩
         have hl3 := s3 _ _ (look_new (look_new hl n1) n2)
         walk_at "rq"
         exact fin1 _ (((same_new n1).trans (same_new n2)).trans s3)
     | ifS x a' b =>
       obtain ⟨la, lb, hp, h2, h3⟩ := hst1
       obtain ⟨o1, o2, o3, o4⟩ := hoki
       have fa := rowsL_few d a'
       have fb := rowsL_few d b
       have ec : 1 + cntL d a' + cntL d b ≤ cntL (d + 1) ss := hc1
       walk_at "rq"
       refine ⟨log_num (show 0 ≤ x from (n9 o1).1) (by have := (n9 o1).2; omega), ?_⟩
       refine r_plusS (j := numS x) (by have := numS_one (n9 o1).1 (n9 o1).2; rw [sizeLine_eq]; show _ + (numS x).length ≤ _; rw [this]; exact Nat.le_of_ble_eq_true rfl) ?_
       rw [t_if]
       walk_at "rq"
       rename_i l1 n1 l2 n2
       have s2 := (same_new (o := .lst [V.str (rowX ("if", [x]))]) n1).trans (same_new (o := .lst (A1.map rowV ++ [V.str (rowX ("if", [x]))])) n2)
       refine ⟨la, a', hd, rfl, o2, h2.same s2 (fun _ _ => StAt.same s2), o3, hd3, hd8, by omega, fun l3 H3 s3 n3 hl3 => ?_⟩
       have hl2 := s3 _ _ (show (upd (upd HQ l1 (.lst [V.str (rowX ("if", [x]))])) l2 (.lst (A1.map rowV ++ [V.str (rowX ("if", [x]))]))) l2 = _ from upd_same)
       have s4 := s2.trans s3
       have hp4 := s4 _ _ hp
       have h34 := h3.same s4 (fun _ _ => StAt.same s4)
       clear h3 h2 s2 s3 n1 n2 n3 hp hl
       walk_at "rq"
       rename_i l5 n5 l6 n6 l7 n7
       have s5 := ((same_new (o := .lst (A1.map rowV ++ [V.str (rowX ("if", [x]))] ++ (rowsL d a').map rowV)) n5).trans (same_new (o := .lst [V.str "else"]) n6)).trans (same_new (o := .lst (A1.map rowV ++ [V.str (rowX ("if", [x]))] ++ (rowsL d a').map rowV ++ [V.str "else"])) n7)
       refine ⟨lb, b, hd, rfl, o2, h34.same s5 (fun _ _ => StAt.same s5), o4, hd3, hd8, by omega, fun l8 H8 s8 n8 hl8 => ?_⟩
       have hl7 := s8 _ _ (upd_same (H := (upd (upd H3 l5 (.lst (A1.map rowV ++ [V.str (rowX ("if", [x]))] ++ (rowsL d a').map rowV))) l6 (.lst [V.str "else"]))) (a := l7) (o := .lst (A1.map rowV ++ [V.str (rowX ("if", [x]))] ++ (rowsL d a').map rowV ++ [V.str "else"])))
       have s9 := s1.trans (s4.trans (s5.trans s8))
       clear s4 s5 s8 h34 n5 n6 n7 n8 hp4 hl2 hl3
       walk_at "rq"
       refine ⟨by walk_at "same", _, _, _, rfl, by walk_at "none", ?_⟩
       rw [List.map_append, rows_if]
       simp only [← List.append_assoc]
       exact upd_same
     | whileS x a' =>
       obtain ⟨la, hp, h2⟩ := hst1
       obtain ⟨o1, o2, o3⟩ := hoki
       have fa := rowsL_few d a'
       have ec : 1 + cntL d a' ≤ cntL (d + 1) ss := hc1
       walk_at "rq"
       refine ⟨log_num (show 0 ≤ x from (n9 o1).1) (by have := (n9 o1).2; omega), ?_⟩
       refine r_plusS (j := numS x) (by have := numS_one (n9 o1).1 (n9 o1).2; rw [sizeLine_eq]; show _ + (numS x).length ≤ _; rw [this]; exact Nat.le_of_ble_eq_true rfl) ?_
       rw [t_while]
       walk_at "rq"
       rename_i l1 n1 l2 n2
       have s2 := (same_new (o := .lst [V.str (rowX ("while", [x]))]) n1).trans (same_new (o := .lst (A1.map rowV ++ [V.str (rowX ("while", [x]))])) n2)
       refine ⟨la, a', hd, rfl, o2, h2.same s2 (fun _ _ => StAt.same s2), o3, hd3, hd8, by omega, fun l3 H3 s3 n3 hl3 => ?_⟩
       have hl2 := s3 _ _ (show (upd (upd HQ l1 (.lst [V.str (rowX ("while", [x]))])) l2 (.lst (A1.map rowV ++ [V.str (rowX ("while", [x]))]))) l2 = _ from upd_same)
       have s4 := s1.trans (s2.trans s3)
       clear h2 s2 s3 n1 n2 n3 hp hl
       walk_at "rq"
       refine ⟨by walk_at "same", _, _, _, rfl, by walk_at "none", ?_⟩
       rw [List.map_append, rows_while]
       simp only [← List.append_assoc]
       exact upd_same
     | tryS a' x b =>
       obtain ⟨la, lb, hp, h2, h3⟩ := hst1
       obtain ⟨o1, o2, o3, o4⟩ := hoki
       have fa := rowsL_few d a'
       have fb := rowsL_few d b
       have ec : 1 + cntL d a' + cntL d b ≤ cntL (d + 1) ss := hc1
       walk_at "rq"
       rename_i l1 n1 l2 n2
       have s2 := (same_new (o := .lst [V.str "try"]) n1).trans (same_new (o := .lst (A1.map rowV ++ [V.str "try"])) n2)
       refine ⟨la, a', hd, rfl, o2, h2.same s2 (fun _ _ => StAt.same s2), o3, hd3, hd8, by omega, fun l3 H3 s3 n3 hl3 => ?_⟩
       have hl2 := s3 _ _ (show (upd (upd HQ l1 (.lst [V.str "try"])) l2 (.lst (A1.map rowV ++ [V.str "try"]))) l2 = _ from upd_same)
       have s4 := s2.trans s3
       have hp4 := s4 _ _ hp
       have h34 := h3.same s4 (fun _ _ => StAt.same s4)
       clear h3 h2 s2 s3 n1 n2 n3 hp hl
       walk_at "rq"
       refine ⟨log_num (show 0 ≤ x from (n9 o1).1) (by have := (n9 o1).2; omega), ?_⟩
       refine r_plusS (j := numS x) (by have := numS_one (n9 o1).1 (n9 o1).2; rw [sizeLine_eq]; show _ + (numS x).length ≤ _; rw [this]; exact Nat.le_of_ble_eq_true rfl) ?_
       rw [t_landing]
       walk_at "rq"
       rename_i l5 n5 l6 n6 l7 n7
       have s5 := ((same_new (o := .lst (A1.map rowV ++ [V.str "try"] ++ (rowsL d a').map rowV)) n5).trans (same_new (o := .lst [V.str (rowX ("landing", [x]))]) n6)).trans (same_new (o := .lst (A1.map rowV ++ [V.str "try"] ++ (rowsL d a').map rowV ++ [V.str (rowX ("landing", [x]))])) n7)
       refine ⟨lb, b, hd, rfl, o2, h34.same s5 (fun _ _ => StAt.same s5), o4, hd3, hd8, by omega, fun l8 H8 s8 n8 hl8 => ?_⟩
       have hl7 := s8 _ _ (upd_same (H := (upd (upd H3 l5 (.lst (A1.map rowV ++ [V.str "try"] ++ (rowsL d a').map rowV))) l6 (.lst [V.str (rowX ("landing", [x]))]))) (a := l7) (o := .lst (A1.map rowV ++ [V.str "try"] ++ (rowsL d a').map rowV ++ [V.str (rowX ("landing", [x]))])))
       have s9 := s1.trans (s4.trans (s5.trans s8))
       clear s4 s5 s8 h34 n5 n6 n7 n8 hp4 hl2 hl3
       walk_at "rq"
       refine ⟨by walk_at "same", _, _, _, rfl, by walk_at "none", ?_⟩
       rw [List.map_append, rows_try]
       simp only [← List.append_assoc]
       exact upd_same
   · rintro σ HQ ⟨s1, lr, u1, u2, rfl, nlr, hl⟩
     rw [List.length_map, hpl, List.take_length] at hl
     walk_at "rq"
     exact q lr HQ s1 nlr hl
theorem ok_law_rows0 (T : Txt w K mg a) : FnE P w K mg base CX0 2 "_law_rows" (spLR 0) := by
 refine fnE_of (sp := (spLR 0)) 1 T.fn_law_rows sc_law_rows (fun vs H Q E h => ?_) (fun f cdv A outer s H vs Q E hr h => ?_)
 · obtain ⟨l0, ss, hd, _, h0, _⟩ := h; exact absurd h0 (Nat.lt_irrefl 0)
 · obtain ⟨l0, ss, hd, _, h0, _⟩ := h; exact absurd h0 (Nat.lt_irrefl 0)
theorem ok_law_rows (T : Txt w K mg a) : FnE P w K mg base CX0 7 "_law_rows" (spLR 5) := ok_law_rowsS (by decide) (ok_law_rowsS (by decide) (ok_law_rowsS (by decide) (ok_law_rowsS (by decide) (ok_law_rowsS (by decide) (ok_law_rows0 T) T) T) T) T) T
theorem ok_law_tupledS {k d : Nat} (G : FnE P w K mg base CX0 k "_law_tupled" (spTup d)) (T : Txt w K mg a) : FnE P w K mg base CX0 (k + 1) "_law_tupled" (spTup (d + 1)) := by
 refine fnE_of (sp := (spTup (d + 1))) k T.fn_law_tupled sc_law_tupled (fun vs H Q E h => ?_) (fun f cdv A outer s H vs Q E hr h => ?_)
 · obtain ⟨l0, ss, hd, rfl, _⟩ := h
   rfl
 · obtain ⟨l0, ss, hd, rfl, _, ⟨ps, hl0, hps⟩, hok, hcn, hd3, q⟩ := h
   have hpl := hps.1
   have hcl := cntL_len (d + 1) ss
   refine' ⟨_, ?body0, ?_⟩
   (case body0 => (refine' pss_cons ?tu142 ?tq143; (case tq143 => (refine' pss_cons ?tu144 ?tq145; (case tq145 => exact (pss_one (ps_ret (pv 1)))); (case tu144 => (refine' ps_for PassesOwn.never rfl (pi_seqK (K := K) rfl (pv 0)) (pg_name (i := 2) sc_law_tupled.nd rfl (Or.inl rfl)) ?tf146; (case tf146 => (refine' pss_cons ?tu147 ?tq148; (case tq148 => (refine' pss_cons ?tu149 ?tq150; (case tq150 => (refine' pss_cons ?tu151 ?tq152; (case tq152 => (refine' pss_cons ?tu153 ?tq154; (case tq154 => (refine' pss_cons ?tu155 ?tq156; (case tq156 => exact (pss_one (ps_expr (pe_bmK (K := K) rfl PySem.F.plainAttrs_list PySem.F.slot_list_append PySem.F.type_list_append mt_append (pv 1) (pa_cons (pe_callTy (call_tupK (K := K) rfl) rfl T.z_tuple b_tuple (pa_cons (pv 3) pa_nil)) pa_nil))))); (case tu155 => (refine' ps_if ?ti157 ?tj158 ?tm159; (case ti157 => (refine' pt_cmpR (op_inK (K := K) rfl) ?tl160 ?tr161 rfl; (case tl160 => exact (pe_ix (ix_K (K := K) rfl) (pv 2) pe_int (fun _ _ => rfl))); (case tr161 => (refine' pe_tup ?ta162; (case ta162 => (refine' pa_cons ?tx163 ?ty164 ?tz165; (case tz165 => rfl); (case tx163 => exact pe_str); (case ty164 => (refine' pa_cons ?tx166 ?ty167 ?tz168; (case tz168 => rfl); (case tx166 => exact pe_str); (case ty167 => exact pa_nil))))))))); (case tj158 => exact (pss_one (ps_asg (pe_callTy (call_tupK (K := K) rfl) rfl T.z_tuple b_tuple (pa_cons (pe_ix (ix_K (K := K) rfl) (pv 2) (pe_un un_neg pe_int) (fun _ _ => rfl)) pa_nil)) (pg_sub (pv 3) (pe_un un_neg pe_int) set_list)))); (case tm159 => exact pss_nil))))); (case tu153 => exact (ps_if (pt_cmpR (op_eqK (K := K) rfl hr.units) (pe_ix (ix_K (K := K) rfl) (pv 2) pe_int (fun _ _ => rfl)) pe_str (nomark _)) (pss_one (ps_asg (pe_callE G (hr.mono (Nat.le_refl _)) pass0 rfl (pa_cons (pe_ix (ix_K (K := K) rfl) (pv 2) pe_int (fun _ _ => rfl)) pa_nil)) (pg_sub (pv 3) pe_int set_list))) pss_nil)))); (case tu151 => (refine' ps_if ?ti169 ?tj170 ?tm171; (case ti169 => (refine' pt_cmpR (op_inK (K := K) rfl) ?tl172 ?tr173 rfl; (case tl172 => exact (pe_ix (ix_K (K := K) rfl) (pv 2) pe_int (fun _ _ => rfl))); (case tr173 => (refine' pe_tup ?ta174; (case ta174 => (refine' pa_cons ?tx175 ?ty176 ?tz177; (case tz177 => rfl); (case tx175 => exact pe_str); (case ty176 => (refine' pa_cons ?tx178 ?ty179 ?tz180; (case tz180 => rfl); (case tx178 => exact pe_str); (case ty179 => exact pa_nil))))))))); (case tj170 => exact (pss_one (ps_asg (pe_callE G (hr.mono (Nat.le_refl _)) pass0 rfl (pa_cons (pe_ix (ix_K (K := K) rfl) (pv 2) pe_int (fun _ _ => rfl)) pa_nil)) (pg_sub (pv 3) pe_int set_list)))); (case tm171 => exact pss_nil))))); (case tu149 => (refine' ps_if ?ti181 ?tj182 ?tm183; (case ti181 => (refine' pt_cmpR (op_inK (K := K) rfl) ?tl184 ?tr185 rfl; (case tl184 => exact (pe_ix (ix_K (K := K) rfl) (pv 2) pe_int (fun _ _ => rfl))); (case tr185 => (refine' pe_tup ?ta186; (case ta186 => (refine' pa_cons ?tx187 ?ty188 ?tz189; (case tz189 => rfl); (case tx187 => exact pe_str); (case ty188 => (refine' pa_cons ?tx190 ?ty191 ?tz192; (case tz192 => rfl); (case tx190 => exact pe_str); (case ty191 => exact pa_nil))))))))); (case tj182 => exact (pss_one (ps_asg (pe_callE G (hr.mono (Nat.le_refl _)) pass0 rfl (pa_cons (pe_ix (ix_K (K := K) rfl) (pv 2) pe_int (fun _ _ => rfl)) pa_nil)) (pg_sub (pv 3) pe_int set_list)))); (case tm183 => exact pss_nil))))); (case tu147 => exact (ps_set (i := 3) sc_law_tupled.nd rfl (Or.inl rfl) (pe_callTy (call_listK (K := K) rfl) rfl T.z_list b_list (pa_cons (pv 2) pa_nil)))))))))); (case tu142 => exact (ps_set (i := 1) sc_law_tupled.nd rfl (Or.inl rfl) (pe_lst pa_nil)))))
   refine r_st (σ' := [some _, none, none, none]) rfl ?_
   walk_at "rq"
   rename_i l nl
   refine for_list (K := K) (a := l0) (xs := ps.map V.ref) (fun i σ HQ => Same H HQ ∧ ∃ (u v : Option V) (qs : List Addr), σ = [some (.ref l0), some (.ref l), u, v] ∧ HQ l = some (.lst (qs.map V.ref)) ∧ Each (StAt (nw (upd H l (.lst [])) HQ) (d + 1)) qs ((ss.take i).map (tupS (d + 1)))) ⟨same_new nl, _, _, [], rfl, upd_same, by rw [List.take_zero]; exact Each.nil⟩ (fun i σ HQ _ ⟨s1, _⟩ => SqL.of (s1 _ _ hl0)) ?_ ?_
   · rintro i v σ HQ hv ⟨s1, u1, u2, qs, rfl, hl, he⟩
     obtain ⟨p, hx, rfl⟩ : ∃ p, ps[i]? = some p ∧ v = .ref p := by
       rw [List.getElem?_map] at hv
       obtain ⟨p, hp, e⟩ := Option.map_eq_some_iff.mp hv
       exact ⟨p, hp, e.symm⟩
     have hi : i < ss.length := by rw [← hpl]; exact (List.getElem?_eq_some_iff.mp hx).1
     have hsi : ss[i]? = some ss[i] := List.getElem?_eq_getElem hi
     have hst1 := StAt.same s1 (hps.2 i p _ hx hsi)
     have hc1 : cnt1 (d + 1) ss[i] ≤ cntL (d + 1) ss := sum_mem (cnt1 (d + 1)) (List.getElem_mem hi)
     have hoki := hok _ (List.getElem_mem hi)
     have hql : qs.length ≤ 80 := by have := he.1; rw [List.length_map, List.length_take] at this; omega
     have htk : (ss.take (i + 1)).map (tupS (d + 1)) = (ss.take i).map (tupS (d + 1)) ++ [tupS (d + 1) ss[i]] := by
       rw [List.take_add_one, hsi, Option.toList_some, List.map_append]; rfl
     generalize ss[i] = s' at hsi hst1 hc1 hoki htk
     rw [htk]
     have upn : ∀ b, HQ b = none → (upd H l (.lst [])) b = none := fun b e => by
       have nb : b ≠ l := fun z => by rw [z, hl] at e; cases e
       rw [upd_ne nb]; exact none_same s1 e
     have fin : ∀ {wv : Option V} (HX : Hp) (t : Addr), KeepX l HQ HX → HX l = some (.lst (qs.map V.ref)) → StAt (nw (upd H l (.lst [])) (upd HX l (.lst (qs.map V.ref ++ [.ref t])))) (d + 1) t (tupS (d + 1) s') → Same H (upd HX l (.lst (qs.map V.ref ++ [.ref t]))) ∧ ∃ (u v : Option V) (qs' : List Addr), [some (V.ref l0), some (.ref l), some (.ref p), wv] = [some (.ref l0), some (.ref l), u, v] ∧ (upd HX l (.lst (qs.map V.ref ++ [.ref t]))) l = some (.lst (qs'.map V.ref)) ∧ Each (StAt (nw (upd H l (.lst [])) (upd HX l (.lst (qs.map V.ref ++ [.ref t])))) (d + 1)) qs' ((ss.take i).map (tupS (d + 1)) ++ [tupS (d + 1) s']) := fun {wv} HX t kX hXl hst => by
       refine ⟨fun b o e => by rw [upd_ne (ne_of_none e nl)]; exact kX b o (s1 b o e) (ne_of_none e nl), _, _, qs ++ [t], rfl, by rw [upd_same, List.map_append]; rfl, Each.snoc (he.mono fun q' z h => StAt.same (nw_sub fun b o k1 k2 => ⟨k1, ?_⟩) h) hst⟩
       have nb := (upd_none k1).2
       rw [upd_ne nb]; exact kX b o k2 nb
     clear hv hx htk
     walk_at "rq"
     cases s' with
     | pl s2 =>
       cases s2 with
       | set x v =>
           have hp : HQ p = some (.tup [.str "set", .int x, .int v]) := hst1
           refine r_listT (SqT.of hp) fun lp np => ?_
           walk_at "rq"
           repeat (rename @Eq Bool _ _ => hzz; clear hzz)
           rename_i e1 m1 e2 m2 e3 m3
           refine r_tupLst (SqL.of (look_new (look_new (look_new upd_same m1) m2) m3)) fun t nt => ?_
           have nt1 : HQ t = none := (upd_none (upd_none (upd_none (upd_none nt).1).1).1).1
           generalize zz : (upd (upd (upd (upd (upd HQ lp (.lst [.str "set", .int x, .int v])) e1 (.tup [.str "if", .str "try"])) e2 (.tup [.str "if", .str "while"])) e3 (.tup [.str "call", .str "hand"])) t (.tup [.str "set", .int x, .int v])) = HX
           have sHX : Same HQ HX := by rw [← zz]; exact (same_new np).trans ((same_new m1).trans ((same_new m2).trans ((same_new m3).trans (same_new nt))))
           have h_lp : HX lp = some (.lst [.str "set", .int x, .int v]) := by rw [← zz]; exact look_new (look_new (look_new (look_new upd_same m1) m2) m3) nt
           have h_e1 : HX e1 = some (.tup [.str "if", .str "try"]) := by rw [← zz]; exact look_new (look_new (look_new upd_same m2) m3) nt
           have h_e2 : HX e2 = some (.tup [.str "if", .str "while"]) := by rw [← zz]; exact look_new (look_new upd_same m3) nt
           have h_e3 : HX e3 = some (.tup [.str "call", .str "hand"]) := by rw [← zz]; exact look_new upd_same nt
           have h_t : HX t = some (.tup [.str "set", .int x, .int v]) := by rw [← zz]; exact upd_same
           clear zz np m1 m2 m3 nt
           have hlF := sHX _ _ hl
           walk_at "rq"
           exact fin HX t (KeepX.of sHX) hlF (nw_at (upn t nt1) (by rw [upd_ne (fun z => by rw [z, hl] at nt1; cases nt1)]; exact h_t))
       | copy x y =>
           have hp : HQ p = some (.tup [.str "copy", .int x, .int y]) := hst1
           refine r_listT (SqT.of hp) fun lp np => ?_
           walk_at "rq"
           repeat (rename @Eq Bool _ _ => hzz; clear hzz)
           rename_i e1 m1 e2 m2 e3 m3
           refine r_tupLst (SqL.of (look_new (look_new (look_new upd_same m1) m2) m3)) fun t nt => ?_
           have nt1 : HQ t = none := (upd_none (upd_none (upd_none (upd_none nt).1).1).1).1
           generalize zz : (upd (upd (upd (upd (upd HQ lp (.lst [.str "copy", .int x, .int y])) e1 (.tup [.str "if", .str "try"])) e2 (.tup [.str "if", .str "while"])) e3 (.tup [.str "call", .str "hand"])) t (.tup [.str "copy", .int x, .int y])) = HX
           have sHX : Same HQ HX := by rw [← zz]; exact (same_new np).trans ((same_new m1).trans ((same_new m2).trans ((same_new m3).trans (same_new nt))))
           have h_lp : HX lp = some (.lst [.str "copy", .int x, .int y]) := by rw [← zz]; exact look_new (look_new (look_new (look_new upd_same m1) m2) m3) nt
           have h_e1 : HX e1 = some (.tup [.str "if", .str "try"]) := by rw [← zz]; exact look_new (look_new (look_new upd_same m2) m3) nt
           have h_e2 : HX e2 = some (.tup [.str "if", .str "while"]) := by rw [← zz]; exact look_new (look_new upd_same m3) nt
           have h_e3 : HX e3 = some (.tup [.str "call", .str "hand"]) := by rw [← zz]; exact look_new upd_same nt
           have h_t : HX t = some (.tup [.str "copy", .int x, .int y]) := by rw [← zz]; exact upd_same
           clear zz np m1 m2 m3 nt
           have hlF := sHX _ _ hl
           walk_at "rq"
           exact fin HX t (KeepX.of sHX) hlF (nw_at (upn t nt1) (by rw [upd_ne (fun z => by rw [z, hl] at nt1; cases nt1)]; exact h_t))
       | sum x y z =>
           have hp : HQ p = some (.tup [.str "sum", .int x, .int y, .int z]) := hst1
           refine r_listT (SqT.of hp) fun lp np => ?_
           walk_at "rq"
           repeat (rename @Eq Bool _ _ => hzz; clear hzz)
           rename_i e1 m1 e2 m2 e3 m3
           refine r_tupLst (SqL.of (look_new (look_new (look_new upd_same m1) m2) m3)) fun t nt => ?_
           have nt1 : HQ t = none := (upd_none (upd_none (upd_none (upd_none nt).1).1).1).1
           generalize zz : (upd (upd (upd (upd (upd HQ lp (.lst [.str "sum", .int x, .int y, .int z])) e1 (.tup [.str "if", .str "try"])) e2 (.tup [.str "if", .str "while"])) e3 (.tup [.str "call", .str "hand"])) t (.tup [.str "sum", .int x, .int y, .int z])) = HX
           have sHX : Same HQ HX := by rw [← zz]; exact (same_new np).trans ((same_new m1).trans ((same_new m2).trans ((same_new m3).trans (same_new nt))))
           have h_lp : HX lp = some (.lst [.str "sum", .int x, .int y, .int z]) := by rw [← zz]; exact look_new (look_new (look_new (look_new upd_same m1) m2) m3) nt
           have h_e1 : HX e1 = some (.tup [.str "if", .str "try"]) := by rw [← zz]; exact look_new (look_new (look_new upd_same m2) m3) nt
           have h_e2 : HX e2 = some (.tup [.str "if", .str "while"]) := by rw [← zz]; exact look_new (look_new upd_same m3) nt
           have h_e3 : HX e3 = some (.tup [.str "call", .str "hand"]) := by rw [← zz]; exact look_new upd_same nt
           have h_t : HX t = some (.tup [.str "sum", .int x, .int y, .int z]) := by rw [← zz]; exact upd_same
           clear zz np m1 m2 m3 nt
           have hlF := sHX _ _ hl
           walk_at "rq"
           exact fin HX t (KeepX.of sHX) hlF (nw_at (upn t nt1) (by rw [upd_ne (fun z => by rw [z, hl] at nt1; cases nt1)]; exact h_t))
       | minus x y z =>
           have hp : HQ p = some (.tup [.str "minus", .int x, .int y, .int z]) := hst1
           refine r_listT (SqT.of hp) fun lp np => ?_
           walk_at "rq"
           repeat (rename @Eq Bool _ _ => hzz; clear hzz)
           rename_i e1 m1 e2 m2 e3 m3
           refine r_tupLst (SqL.of (look_new (look_new (look_new upd_same m1) m2) m3)) fun t nt => ?_
           have nt1 : HQ t = none := (upd_none (upd_none (upd_none (upd_none nt).1).1).1).1
           generalize zz : (upd (upd (upd (upd (upd HQ lp (.lst [.str "minus", .int x, .int y, .int z])) e1 (.tup [.str "if", .str "try"])) e2 (.tup [.str "if", .str "while"])) e3 (.tup [.str "call", .str "hand"])) t (.tup [.str "minus", .int x, .int y, .int z])) = HX
           have sHX : Same HQ HX := by rw [← zz]; exact (same_new np).trans ((same_new m1).trans ((same_new m2).trans ((same_new m3).trans (same_new nt))))
           have h_lp : HX lp = some (.lst [.str "minus", .int x, .int y, .int z]) := by rw [← zz]; exact look_new (look_new (look_new (look_new upd_same m1) m2) m3) nt
           have h_e1 : HX e1 = some (.tup [.str "if", .str "try"]) := by rw [← zz]; exact look_new (look_new (look_new upd_same m2) m3) nt
           have h_e2 : HX e2 = some (.tup [.str "if", .str "while"]) := by rw [← zz]; exact look_new (look_new upd_same m3) nt
           have h_e3 : HX e3 = some (.tup [.str "call", .str "hand"]) := by rw [← zz]; exact look_new upd_same nt
           have h_t : HX t = some (.tup [.str "minus", .int x, .int y, .int z]) := by rw [← zz]; exact upd_same
           clear zz np m1 m2 m3 nt
           have hlF := sHX _ _ hl
           walk_at "rq"
           exact fin HX t (KeepX.of sHX) hlF (nw_at (upn t nt1) (by rw [upd_ne (fun z => by rw [z, hl] at nt1; cases nt1)]; exact h_t))
       | product x y z =>
           have hp : HQ p = some (.tup [.str "product", .int x, .int y, .int z]) := hst1
           refine r_listT (SqT.of hp) fun lp np => ?_
           walk_at "rq"
           repeat (rename @Eq Bool _ _ => hzz; clear hzz)
           rename_i e1 m1 e2 m2 e3 m3
           refine r_tupLst (SqL.of (look_new (look_new (look_new upd_same m1) m2) m3)) fun t nt => ?_
           have nt1 : HQ t = none := (upd_none (upd_none (upd_none (upd_none nt).1).1).1).1
           generalize zz : (upd (upd (upd (upd (upd HQ lp (.lst [.str "product", .int x, .int y, .int z])) e1 (.tup [.str "if", .str "try"])) e2 (.tup [.str "if", .str "while"])) e3 (.tup [.str "call", .str "hand"])) t (.tup [.str "product", .int x, .int y, .int z])) = HX
           have sHX : Same HQ HX := by rw [← zz]; exact (same_new np).trans ((same_new m1).trans ((same_new m2).trans ((same_new m3).trans (same_new nt))))
           have h_lp : HX lp = some (.lst [.str "product", .int x, .int y, .int z]) := by rw [← zz]; exact look_new (look_new (look_new (look_new upd_same m1) m2) m3) nt
           have h_e1 : HX e1 = some (.tup [.str "if", .str "try"]) := by rw [← zz]; exact look_new (look_new (look_new upd_same m2) m3) nt
           have h_e2 : HX e2 = some (.tup [.str "if", .str "while"]) := by rw [← zz]; exact look_new (look_new upd_same m3) nt
           have h_e3 : HX e3 = some (.tup [.str "call", .str "hand"]) := by rw [← zz]; exact look_new upd_same nt
           have h_t : HX t = some (.tup [.str "product", .int x, .int y, .int z]) := by rw [← zz]; exact upd_same
           clear zz np m1 m2 m3 nt
           have hlF := sHX _ _ hl
           walk_at "rq"
           exact fin HX t (KeepX.of sHX) hlF (nw_at (upn t nt1) (by rw [upd_ne (fun z => by rw [z, hl] at nt1; cases nt1)]; exact h_t))
       | less x y z =>
           have hp : HQ p = some (.tup [.str "less", .int x, .int y, .int z]) := hst1
           refine r_listT (SqT.of hp) fun lp np => ?_
           walk_at "rq"
           repeat (rename @Eq Bool _ _ => hzz; clear hzz)
           rename_i e1 m1 e2 m2 e3 m3
           refine r_tupLst (SqL.of (look_new (look_new (look_new upd_same m1) m2) m3)) fun t nt => ?_
           have nt1 : HQ t = none := (upd_none (upd_none (upd_none (upd_none nt).1).1).1).1
           generalize zz : (upd (upd (upd (upd (upd HQ lp (.lst [.str "less", .int x, .int y, .int z])) e1 (.tup [.str "if", .str "try"])) e2 (.tup [.str "if", .str "while"])) e3 (.tup [.str "call", .str "hand"])) t (.tup [.str "less", .int x, .int y, .int z])) = HX
           have sHX : Same HQ HX := by rw [← zz]; exact (same_new np).trans ((same_new m1).trans ((same_new m2).trans ((same_new m3).trans (same_new nt))))
           have h_lp : HX lp = some (.lst [.str "less", .int x, .int y, .int z]) := by rw [← zz]; exact look_new (look_new (look_new (look_new upd_same m1) m2) m3) nt
           have h_e1 : HX e1 = some (.tup [.str "if", .str "try"]) := by rw [← zz]; exact look_new (look_new (look_new upd_same m2) m3) nt
           have h_e2 : HX e2 = some (.tup [.str "if", .str "while"]) := by rw [← zz]; exact look_new (look_new upd_same m3) nt
           have h_e3 : HX e3 = some (.tup [.str "call", .str "hand"]) := by rw [← zz]; exact look_new upd_same nt
           have h_t : HX t = some (.tup [.str "less", .int x, .int y, .int z]) := by rw [← zz]; exact upd_same
           clear zz np m1 m2 m3 nt
           have hlF := sHX _ _ hl
           walk_at "rq"
           exact fin HX t (KeepX.of sHX) hlF (nw_at (upn t nt1) (by rw [upd_ne (fun z => by rw [z, hl] at nt1; cases nt1)]; exact h_t))
       | give x =>
           have hp : HQ p = some (.tup [.str "give", .int x]) := hst1
           refine r_listT (SqT.of hp) fun lp np => ?_
           walk_at "rq"
           repeat (rename @Eq Bool _ _ => hzz; clear hzz)
           rename_i e1 m1 e2 m2 e3 m3
           refine r_tupLst (SqL.of (look_new (look_new (look_new upd_same m1) m2) m3)) fun t nt => ?_
           have nt1 : HQ t = none := (upd_none (upd_none (upd_none (upd_none nt).1).1).1).1
           generalize zz : (upd (upd (upd (upd (upd HQ lp (.lst [.str "give", .int x])) e1 (.tup [.str "if", .str "try"])) e2 (.tup [.str "if", .str "while"])) e3 (.tup [.str "call", .str "hand"])) t (.tup [.str "give", .int x])) = HX
           have sHX : Same HQ HX := by rw [← zz]; exact (same_new np).trans ((same_new m1).trans ((same_new m2).trans ((same_new m3).trans (same_new nt))))
           have h_lp : HX lp = some (.lst [.str "give", .int x]) := by rw [← zz]; exact look_new (look_new (look_new (look_new upd_same m1) m2) m3) nt
           have h_e1 : HX e1 = some (.tup [.str "if", .str "try"]) := by rw [← zz]; exact look_new (look_new (look_new upd_same m2) m3) nt
           have h_e2 : HX e2 = some (.tup [.str "if", .str "while"]) := by rw [← zz]; exact look_new (look_new upd_same m3) nt
           have h_e3 : HX e3 = some (.tup [.str "call", .str "hand"]) := by rw [← zz]; exact look_new upd_same nt
           have h_t : HX t = some (.tup [.str "give", .int x]) := by rw [← zz]; exact upd_same
           clear zz np m1 m2 m3 nt
           have hlF := sHX _ _ hl
           walk_at "rq"
           exact fin HX t (KeepX.of sHX) hlF (nw_at (upn t nt1) (by rw [upd_ne (fun z => by rw [z, hl] at nt1; cases nt1)]; exact h_t))
       | leave x => exact hoki.elim
     | drop x =>
         have hp : HQ p = some (.tup [.str "drop", .int x]) := hst1
         refine r_listT (SqT.of hp) fun lp np => ?_
         walk_at "rq"
         repeat (rename @Eq Bool _ _ => hzz; clear hzz)
         rename_i e1 m1 e2 m2 e3 m3
         refine r_tupLst (SqL.of (look_new (look_new (look_new upd_same m1) m2) m3)) fun t nt => ?_
         have nt1 : HQ t = none := (upd_none (upd_none (upd_none (upd_none nt).1).1).1).1
         generalize zz : (upd (upd (upd (upd (upd HQ lp (.lst [.str "drop", .int x])) e1 (.tup [.str "if", .str "try"])) e2 (.tup [.str "if", .str "while"])) e3 (.tup [.str "call", .str "hand"])) t (.tup [.str "drop", .int x])) = HX
         have sHX : Same HQ HX := by rw [← zz]; exact (same_new np).trans ((same_new m1).trans ((same_new m2).trans ((same_new m3).trans (same_new nt))))
         have h_lp : HX lp = some (.lst [.str "drop", .int x]) := by rw [← zz]; exact look_new (look_new (look_new (look_new upd_same m1) m2) m3) nt
         have h_e1 : HX e1 = some (.tup [.str "if", .str "try"]) := by rw [← zz]; exact look_new (look_new (look_new upd_same m2) m3) nt
         have h_e2 : HX e2 = some (.tup [.str "if", .str "while"]) := by rw [← zz]; exact look_new (look_new upd_same m3) nt
         have h_e3 : HX e3 = some (.tup [.str "call", .str "hand"]) := by rw [← zz]; exact look_new upd_same nt
         have h_t : HX t = some (.tup [.str "drop", .int x]) := by rw [← zz]; exact upd_same
         clear zz np m1 m2 m3 nt
         have hlF := sHX _ _ hl
         walk_at "rq"
         exact fin HX t (KeepX.of sHX) hlF (nw_at (upn t nt1) (by rw [upd_ne (fun z => by rw [z, hl] at nt1; cases nt1)]; exact h_t))
     | call x f' ns lb =>
         obtain ⟨q1, hp, hq1⟩ := hst1
         obtain rfl : lb = true := hoki.2.2.2.2
         have hq1 : HQ q1 = some (.lst (ns.map V.int)) := hq1
         refine r_listT (SqT.of hp) fun lp np => ?_
         walk_at "rq"
         repeat (rename @Eq Bool _ _ => hzz; clear hzz)
         rename_i e1 m1 e2 m2 e3 m3
         generalize zz : (upd (upd (upd (upd HQ lp (.lst [.str "call", .int x, .int f', .ref q1])) e1 (.tup [.str "if", .str "try"])) e2 (.tup [.str "if", .str "while"])) e3 (.tup [.str "call", .str "hand"])) = HX
         have sHX : Same HQ HX := by rw [← zz]; exact (same_new np).trans ((same_new m1).trans ((same_new m2).trans (same_new m3)))
         have h_lp : HX lp = some (.lst [.str "call", .int x, .int f', .ref q1]) := by rw [← zz]; exact look_new (look_new (look_new upd_same m1) m2) m3
         have h_e1 : HX e1 = some (.tup [.str "if", .str "try"]) := by rw [← zz]; exact look_new (look_new upd_same m2) m3
         have h_e2 : HX e2 = some (.tup [.str "if", .str "while"]) := by rw [← zz]; exact look_new upd_same m3
         have h_e3 : HX e3 = some (.tup [.str "call", .str "hand"]) := by rw [← zz]; exact upd_same
         clear zz
         have nlp : lp ≠ l := fun z => by rw [z, hl] at np; cases np
         have hq2 := sHX _ _ hq1
         walk_at "rq"
         refine r_tupLst (SqL.of hq2) fun tq ntq => ?_
         walk_at "rq"
         refine r_setL (look_new h_lp ntq) (j := 3) rfl ?_
         have hlp3 : (upd (upd HX tq (.tup (ns.map V.int))) lp (.lst ([.str "call", .int x, .int f', .ref q1].set 3 (.ref tq)))) lp = some (.lst [.str "call", .int x, .int f', .ref tq]) := upd_same
         have ntq1 : HQ tq = none := none_same sHX ntq
         have elq : lp ≠ tq := ne_of_none h_lp ntq
         have elp : lp ≠ l := nlp
         have sX2 : KeepX l HQ (upd (upd HX tq (.tup (ns.map V.int))) lp (.lst ([.str "call", .int x, .int f', .ref q1].set 3 (.ref tq)))) := fun b o e _ => by
           rw [upd_ne (fun z => by rw [z, np] at e; cases e)]; exact look_new (sHX _ _ e) ntq
         have hlF : (upd (upd HX tq (.tup (ns.map V.int))) lp (.lst ([.str "call", .int x, .int f', .ref q1].set 3 (.ref tq)))) l = some (.lst (qs.map V.ref)) := by
           rw [upd_ne elp.symm]; exact look_new (sHX _ _ hl) ntq
         have htq : (upd (upd HX tq (.tup (ns.map V.int))) lp (.lst ([.str "call", .int x, .int f', .ref q1].set 3 (.ref tq)))) tq = some (.tup (ns.map V.int)) := by
           rw [upd_ne elq.symm]; exact upd_same
         generalize (upd (upd HX tq (.tup (ns.map V.int))) lp (.lst ([.str "call", .int x, .int f', .ref q1].set 3 (.ref tq)))) = HY at hlp3 sX2 hlF htq ⊢
         walk_at "rq"
         refine r_tupLst (SqL.of hlp3) fun t nt => ?_
         have nt1 : HQ t = none := keep_none sX2 hl hlF nt
         have htl : t ≠ l := fun z => by rw [z, hlF] at nt; cases nt
         have htql : tq ≠ l := fun z => by rw [z, hl] at ntq1; cases ntq1
         have hlG := look_new (o := .tup [.str "call", .int x, .int f', .ref tq]) hlF nt
         walk_at "rq"
         exact fin _ t (fun b o e n => look_new (sX2 b o e n) nt) hlG ⟨tq, nw_at (upn t nt1) (by rw [upd_ne htl]; exact upd_same), nw_at (upn tq ntq1) (by rw [upd_ne htql]; exact look_new htq nt)⟩
     | hand f' ns lb =>
         obtain ⟨q1, hp, hq1⟩ := hst1
         obtain rfl : lb = true := hoki.2.2.2
         have hq1 : HQ q1 = some (.lst (ns.map V.int)) := hq1
         refine r_listT (SqT.of hp) fun lp np => ?_
         walk_at "rq"
         repeat (rename @Eq Bool _ _ => hzz; clear hzz)
         rename_i e1 m1 e2 m2 e3 m3
         generalize zz : (upd (upd (upd (upd HQ lp (.lst [.str "hand", .int f', .ref q1])) e1 (.tup [.str "if", .str "try"])) e2 (.tup [.str "if", .str "while"])) e3 (.tup [.str "call", .str "hand"])) = HX
         have sHX : Same HQ HX := by rw [← zz]; exact (same_new np).trans ((same_new m1).trans ((same_new m2).trans (same_new m3)))
         have h_lp : HX lp = some (.lst [.str "hand", .int f', .ref q1]) := by rw [← zz]; exact look_new (look_new (look_new upd_same m1) m2) m3
         have h_e1 : HX e1 = some (.tup [.str "if", .str "try"]) := by rw [← zz]; exact look_new (look_new upd_same m2) m3
         have h_e2 : HX e2 = some (.tup [.str "if", .str "while"]) := by rw [← zz]; exact look_new upd_same m3
         have h_e3 : HX e3 = some (.tup [.str "call", .str "hand"]) := by rw [← zz]; exact upd_same
         clear zz
         have nlp : lp ≠ l := fun z => by rw [z, hl] at np; cases np
         have hq2 := sHX _ _ hq1
         walk_at "rq"
         refine r_tupLst (SqL.of hq2) fun tq ntq => ?_
         walk_at "rq"
         refine r_setL (look_new h_lp ntq) (j := 2) rfl ?_
         have hlp3 : (upd (upd HX tq (.tup (ns.map V.int))) lp (.lst ([.str "hand", .int f', .ref q1].set 2 (.ref tq)))) lp = some (.lst [.str "hand", .int f', .ref tq]) := upd_same
         have ntq1 : HQ tq = none := none_same sHX ntq
         have elq : lp ≠ tq := ne_of_none h_lp ntq
         have elp : lp ≠ l := nlp
         have sX2 : KeepX l HQ (upd (upd HX tq (.tup (ns.map V.int))) lp (.lst ([.str "hand", .int f', .ref q1].set 2 (.ref tq)))) := fun b o e _ => by
           rw [upd_ne (fun z => by rw [z, np] at e; cases e)]; exact look_new (sHX _ _ e) ntq
         have hlF : (upd (upd HX tq (.tup (ns.map V.int))) lp (.lst ([.str "hand", .int f', .ref q1].set 2 (.ref tq)))) l = some (.lst (qs.map V.ref)) := by
           rw [upd_ne elp.symm]; exact look_new (sHX _ _ hl) ntq
         have htq : (upd (upd HX tq (.tup (ns.map V.int))) lp (.lst ([.str "hand", .int f', .ref q1].set 2 (.ref tq)))) tq = some (.tup (ns.map V.int)) := by
           rw [upd_ne elq.symm]; exact upd_same
         generalize (upd (upd HX tq (.tup (ns.map V.int))) lp (.lst ([.str "hand", .int f', .ref q1].set 2 (.ref tq)))) = HY at hlp3 sX2 hlF htq ⊢
         walk_at "rq"
         refine r_tupLst (SqL.of hlp3) fun t nt => ?_
         have nt1 : HQ t = none := keep_none sX2 hl hlF nt
         have htl : t ≠ l := fun z => by rw [z, hlF] at nt; cases nt
         have htql : tq ≠ l := fun z => by rw [z, hl] at ntq1; cases ntq1
         have hlG := look_new (o := .tup [.str "hand", .int f', .ref tq]) hlF nt
         walk_at "rq"
         exact fin _ t (fun b o e n => look_new (sX2 b o e n) nt) hlG ⟨tq, nw_at (upn t nt1) (by rw [upd_ne htl]; exact upd_same), nw_at (upn tq ntq1) (by rw [upd_ne htql]; exact look_new htq nt)⟩
     | ifS x a' b =>
       obtain ⟨la, lb, hp, h2, h3⟩ := hst1
       obtain ⟨o1, o2, o3, o4⟩ := hoki
       have ec : 1 + cntL d a' + cntL d b ≤ cntL (d + 1) ss := hc1
       refine r_listT (SqT.of hp) fun lp np => ?_
       have nlp : lp ≠ l := fun z => by rw [z, hl] at np; cases np
       have sQ : Same HQ (upd HQ lp (.lst [V.str "if", V.int x, V.ref la, V.ref lb])) := same_new np
       have hlp : (upd HQ lp (.lst [V.str "if", V.int x, V.ref la, V.ref lb])) lp = some (.lst [V.str "if", V.int x, V.ref la, V.ref lb]) := upd_same
       have hBp : (upd HQ lp (.lst [])) lp ≠ none := by rw [upd_same]; exact fun z => by cases z
       have nB : ∀ {C : Hp}, Same HQ C → C lp ≠ none → ∀ b, C b = none → (upd HQ lp (.lst [])) b = none := fun {C} sC hC b e => by rw [upd_ne (fun z => hC (by rw [← z]; exact e))]; exact none_same sC e
       generalize (upd HQ lp (.lst [V.str "if", V.int x, V.ref la, V.ref lb])) = C0 at sQ hlp ⊢
       have hpC := sQ _ _ hp
       walk_at "rq"
       repeat (rename @Eq Bool _ _ => hzz; clear hzz)
       rename_i e1 m1
       have kC : Same C0 (upd C0 e1 (.tup [.str "if", .str "try"])) := same_new m1
       generalize (upd C0 e1 (.tup [.str "if", .str "try"])) = C1 at kC ⊢
       replace sQ := sQ.trans kC
       replace hlp := kC _ _ hlp
       clear kC hpC m1
       have hpC := sQ _ _ hp
       walk_at "rq"
       repeat (rename @Eq Bool _ _ => hzz; clear hzz)
       refine ⟨lb, b, hd, rfl, o2, h3.same sQ (fun _ _ => StAt.same sQ), o4, by omega, hd3, fun l2 D2 s2 n2 hB2 => ?_⟩
       walk_at "rq"
       refine r_setL (s2 _ _ hlp) (j := 3) rfl ?_
       have hlp2 : (upd D2 lp (.lst ([V.str "if", V.int x, V.ref la, V.ref lb].set 3 (.ref l2)))) lp = some (.lst [V.str "if", V.int x, V.ref la, V.ref l2]) := upd_same
       have kD : ∀ b o, D2 b = some o → b ≠ lp → (upd D2 lp (.lst ([V.str "if", V.int x, V.ref la, V.ref lb].set 3 (.ref l2)))) b = some o := fun b o e nb => by rw [upd_ne nb]; exact e
       generalize (upd D2 lp (.lst ([V.str "if", V.int x, V.ref la, V.ref lb].set 3 (.ref l2)))) = C2 at hlp2 kD ⊢
       have sub : Same (nw C1 D2) (nw (upd HQ lp (.lst [])) C2) := nw_sub fun b o k1 k2 => ⟨nB sQ (by rw [hlp]; exact fun z => by cases z) b k1, kD b o k2 (fun z => by rw [z, hlp] at k1; cases k1)⟩
       replace hB2 := hB2.same sub (fun _ _ => StAt.same sub)
       have nl2 : HQ l2 = none := none_same sQ n2
       replace sQ : Same HQ C2 := fun b o e => kD b o (s2 b o (sQ b o e)) (fun z => by rw [z, np] at e; cases e)
       replace hlp := hlp2
       clear hlp2 sub kD s2 hpC n2
       have hpC := sQ _ _ hp
       walk_at "rq"
       repeat (rename @Eq Bool _ _ => hzz; clear hzz)
       rename_i e3 m3
       have kC : Same C2 (upd C2 e3 (.tup [.str "if", .str "while"])) := same_new m3
       generalize (upd C2 e3 (.tup [.str "if", .str "while"])) = C3 at kC ⊢
       replace sQ := sQ.trans kC
       replace hlp := kC _ _ hlp
       replace hB2 := hB2.same (nwB_step hBp fun b o e _ => kC b o e) (fun _ _ => StAt.same (nwB_step hBp fun b o e _ => kC b o e))
       clear kC hpC m3
       have hpC := sQ _ _ hp
       walk_at "rq"
       repeat (rename @Eq Bool _ _ => hzz; clear hzz)
       refine ⟨la, a', hd, rfl, o2, h2.same sQ (fun _ _ => StAt.same sQ), o3, by omega, hd3, fun l4 D4 s2 n2 hB4 => ?_⟩
       walk_at "rq"
       refine r_setL (s2 _ _ hlp) (j := 2) rfl ?_
       have hlp2 : (upd D4 lp (.lst ([V.str "if", V.int x, V.ref la, V.ref l2].set 2 (.ref l4)))) lp = some (.lst [V.str "if", V.int x, V.ref l4, V.ref l2]) := upd_same
       have kD : ∀ b o, D4 b = some o → b ≠ lp → (upd D4 lp (.lst ([V.str "if", V.int x, V.ref la, V.ref l2].set 2 (.ref l4)))) b = some o := fun b o e nb => by rw [upd_ne nb]; exact e
       generalize (upd D4 lp (.lst ([V.str "if", V.int x, V.ref la, V.ref l2].set 2 (.ref l4)))) = C4 at hlp2 kD ⊢
       have sub : Same (nw C3 D4) (nw (upd HQ lp (.lst [])) C4) := nw_sub fun b o k1 k2 => ⟨nB sQ (by rw [hlp]; exact fun z => by cases z) b k1, kD b o k2 (fun z => by rw [z, hlp] at k1; cases k1)⟩
       replace hB4 := hB4.same sub (fun _ _ => StAt.same sub)
       replace hB2 := hB2.same (nwB_step hBp fun b o e nb => kD b o (s2 b o e) nb) (fun _ _ => StAt.same (nwB_step hBp fun b o e nb => kD b o (s2 b o e) nb))
       have nl4 : HQ l4 = none := none_same sQ n2
       replace sQ : Same HQ C4 := fun b o e => kD b o (s2 b o (sQ b o e)) (fun z => by rw [z, np] at e; cases e)
       replace hlp := hlp2
       clear hlp2 sub kD s2 hpC n2
       have hpC := sQ _ _ hp
       walk_at "rq"
       repeat (rename @Eq Bool _ _ => hzz; clear hzz)
       rename_i e5 m5
       have kC : Same C4 (upd C4 e5 (.tup [.str "call", .str "hand"])) := same_new m5
       generalize (upd C4 e5 (.tup [.str "call", .str "hand"])) = C5 at kC ⊢
       replace sQ := sQ.trans kC
       replace hlp := kC _ _ hlp
       replace hB2 := hB2.same (nwB_step hBp fun b o e _ => kC b o e) (fun _ _ => StAt.same (nwB_step hBp fun b o e _ => kC b o e))
       replace hB4 := hB4.same (nwB_step hBp fun b o e _ => kC b o e) (fun _ _ => StAt.same (nwB_step hBp fun b o e _ => kC b o e))
       clear kC hpC m5
       have hpC := sQ _ _ hp
       walk_at "rq"
       refine r_tupLst (SqL.of hlp) fun t nt => ?_
       have nt1 : HQ t = none := none_same sQ nt
       have kC : Same C5 (upd C5 t (.tup [V.str "if", V.int x, V.ref l4, V.ref l2])) := same_new nt
       have ht : (upd C5 t (.tup [V.str "if", V.int x, V.ref l4, V.ref l2])) t = some (.tup [V.str "if", V.int x, V.ref l4, V.ref l2]) := upd_same
       generalize (upd C5 t (.tup [V.str "if", V.int x, V.ref l4, V.ref l2])) = HX at kC ht ⊢
       replace sQ := sQ.trans kC
       have hlF := sQ _ _ hl
       have htl : t ≠ l := fun z => by rw [z, hl] at nt1; cases nt1
       walk_at "rq"
       have sub : Same (nw (upd HQ lp (.lst [])) C5) (nw (upd H l (.lst [])) (upd HX l (.lst (qs.map V.ref ++ [.ref t])))) := nw_sub fun b o k1 k2 => ⟨upn b (upd_none k1).1, by rw [upd_ne (fun z => by rw [z] at k1; rw [(upd_none k1).1] at hl; cases hl)]; exact kC b o k2⟩
       have hF2 := hB2.same sub (fun _ _ => StAt.same sub)
       have hF4 := hB4.same sub (fun _ _ => StAt.same sub)
       exact fin HX t (KeepX.of sQ) hlF ⟨l4, l2, nw_at (upn t nt1) (by rw [upd_ne htl]; exact ht), hF4, hF2⟩
     | whileS x a' =>
       obtain ⟨la, hp, h2⟩ := hst1
       obtain ⟨o1, o2, o3⟩ := hoki
       have ec : 1 + cntL d a' ≤ cntL (d + 1) ss := hc1
       refine r_listT (SqT.of hp) fun lp np => ?_
       have nlp : lp ≠ l := fun z => by rw [z, hl] at np; cases np
       have sQ : Same HQ (upd HQ lp (.lst [V.str "while", V.int x, V.ref la])) := same_new np
       have hlp : (upd HQ lp (.lst [V.str "while", V.int x, V.ref la])) lp = some (.lst [V.str "while", V.int x, V.ref la]) := upd_same
       have hBp : (upd HQ lp (.lst [])) lp ≠ none := by rw [upd_same]; exact fun z => by cases z
       have nB : ∀ {C : Hp}, Same HQ C → C lp ≠ none → ∀ b, C b = none → (upd HQ lp (.lst [])) b = none := fun {C} sC hC b e => by rw [upd_ne (fun z => hC (by rw [← z]; exact e))]; exact none_same sC e
       generalize (upd HQ lp (.lst [V.str "while", V.int x, V.ref la])) = C0 at sQ hlp ⊢
       have hpC := sQ _ _ hp
       walk_at "rq"
       repeat (rename @Eq Bool _ _ => hzz; clear hzz)
       rename_i e1 m1 e2 m2
       have kC : Same C0 (upd (upd C0 e1 (.tup [.str "if", .str "try"])) e2 (.tup [.str "if", .str "while"])) := (same_new m1).trans (same_new m2)
       generalize (upd (upd C0 e1 (.tup [.str "if", .str "try"])) e2 (.tup [.str "if", .str "while"])) = C2 at kC ⊢
       replace sQ := sQ.trans kC
       replace hlp := kC _ _ hlp
       clear kC hpC m1 m2
       have hpC := sQ _ _ hp
       walk_at "rq"
       repeat (rename @Eq Bool _ _ => hzz; clear hzz)
       refine ⟨la, a', hd, rfl, o2, h2.same sQ (fun _ _ => StAt.same sQ), o3, by omega, hd3, fun l3 D3 s2 n2 hB3 => ?_⟩
       walk_at "rq"
       refine r_setL (s2 _ _ hlp) (j := 2) rfl ?_
       have hlp2 : (upd D3 lp (.lst ([V.str "while", V.int x, V.ref la].set 2 (.ref l3)))) lp = some (.lst [V.str "while", V.int x, V.ref l3]) := upd_same
       have kD : ∀ b o, D3 b = some o → b ≠ lp → (upd D3 lp (.lst ([V.str "while", V.int x, V.ref la].set 2 (.ref l3)))) b = some o := fun b o e nb => by rw [upd_ne nb]; exact e
       generalize (upd D3 lp (.lst ([V.str "while", V.int x, V.ref la].set 2 (.ref l3)))) = C3 at hlp2 kD ⊢
       have sub : Same (nw C2 D3) (nw (upd HQ lp (.lst [])) C3) := nw_sub fun b o k1 k2 => ⟨nB sQ (by rw [hlp]; exact fun z => by cases z) b k1, kD b o k2 (fun z => by rw [z, hlp] at k1; cases k1)⟩
       replace hB3 := hB3.same sub (fun _ _ => StAt.same sub)
       have nl3 : HQ l3 = none := none_same sQ n2
       replace sQ : Same HQ C3 := fun b o e => kD b o (s2 b o (sQ b o e)) (fun z => by rw [z, np] at e; cases e)
       replace hlp := hlp2
       clear hlp2 sub kD s2 hpC n2
       have hpC := sQ _ _ hp
       walk_at "rq"
       repeat (rename @Eq Bool _ _ => hzz; clear hzz)
       rename_i e4 m4
       have kC : Same C3 (upd C3 e4 (.tup [.str "call", .str "hand"])) := same_new m4
       generalize (upd C3 e4 (.tup [.str "call", .str "hand"])) = C4 at kC ⊢
       replace sQ := sQ.trans kC
       replace hlp := kC _ _ hlp
       replace hB3 := hB3.same (nwB_step hBp fun b o e _ => kC b o e) (fun _ _ => StAt.same (nwB_step hBp fun b o e _ => kC b o e))
       clear kC hpC m4
       have hpC := sQ _ _ hp
       walk_at "rq"
       refine r_tupLst (SqL.of hlp) fun t nt => ?_
       have nt1 : HQ t = none := none_same sQ nt
       have kC : Same C4 (upd C4 t (.tup [V.str "while", V.int x, V.ref l3])) := same_new nt
       have ht : (upd C4 t (.tup [V.str "while", V.int x, V.ref l3])) t = some (.tup [V.str "while", V.int x, V.ref l3]) := upd_same
       generalize (upd C4 t (.tup [V.str "while", V.int x, V.ref l3])) = HX at kC ht ⊢
       replace sQ := sQ.trans kC
       have hlF := sQ _ _ hl
       have htl : t ≠ l := fun z => by rw [z, hl] at nt1; cases nt1
       walk_at "rq"
       have sub : Same (nw (upd HQ lp (.lst [])) C4) (nw (upd H l (.lst [])) (upd HX l (.lst (qs.map V.ref ++ [.ref t])))) := nw_sub fun b o k1 k2 => ⟨upn b (upd_none k1).1, by rw [upd_ne (fun z => by rw [z] at k1; rw [(upd_none k1).1] at hl; cases hl)]; exact kC b o k2⟩
       have hF3 := hB3.same sub (fun _ _ => StAt.same sub)
       exact fin HX t (KeepX.of sQ) hlF ⟨l3, nw_at (upn t nt1) (by rw [upd_ne htl]; exact ht), hF3⟩
     | tryS a' x b =>
       obtain ⟨la, lb, hp, h2, h3⟩ := hst1
       obtain ⟨o1, o2, o3, o4⟩ := hoki
       have ec : 1 + cntL d a' + cntL d b ≤ cntL (d + 1) ss := hc1
       refine r_listT (SqT.of hp) fun lp np => ?_
       have nlp : lp ≠ l := fun z => by rw [z, hl] at np; cases np
       have sQ : Same HQ (upd HQ lp (.lst [V.str "try", V.ref la, V.int x, V.ref lb])) := same_new np
       have hlp : (upd HQ lp (.lst [V.str "try", V.ref la, V.int x, V.ref lb])) lp = some (.lst [V.str "try", V.ref la, V.int x, V.ref lb]) := upd_same
       have hBp : (upd HQ lp (.lst [])) lp ≠ none := by rw [upd_same]; exact fun z => by cases z
       have nB : ∀ {C : Hp}, Same HQ C → C lp ≠ none → ∀ b, C b = none → (upd HQ lp (.lst [])) b = none := fun {C} sC hC b e => by rw [upd_ne (fun z => hC (by rw [← z]; exact e))]; exact none_same sC e
       generalize (upd HQ lp (.lst [V.str "try", V.ref la, V.int x, V.ref lb])) = C0 at sQ hlp ⊢
       have hpC := sQ _ _ hp
       walk_at "rq"
       repeat (rename @Eq Bool _ _ => hzz; clear hzz)
       rename_i e1 m1
       have kC : Same C0 (upd C0 e1 (.tup [.str "if", .str "try"])) := same_new m1
       generalize (upd C0 e1 (.tup [.str "if", .str "try"])) = C1 at kC ⊢
       replace sQ := sQ.trans kC
       replace hlp := kC _ _ hlp
       clear kC hpC m1
       have hpC := sQ _ _ hp
       walk_at "rq"
       repeat (rename @Eq Bool _ _ => hzz; clear hzz)
       refine ⟨lb, b, hd, rfl, o2, h3.same sQ (fun _ _ => StAt.same sQ), o4, by omega, hd3, fun l2 D2 s2 n2 hB2 => ?_⟩
       walk_at "rq"
       refine r_setL (s2 _ _ hlp) (j := 3) rfl ?_
       have hlp2 : (upd D2 lp (.lst ([V.str "try", V.ref la, V.int x, V.ref lb].set 3 (.ref l2)))) lp = some (.lst [V.str "try", V.ref la, V.int x, V.ref l2]) := upd_same
       have kD : ∀ b o, D2 b = some o → b ≠ lp → (upd D2 lp (.lst ([V.str "try", V.ref la, V.int x, V.ref lb].set 3 (.ref l2)))) b = some o := fun b o e nb => by rw [upd_ne nb]; exact e
       generalize (upd D2 lp (.lst ([V.str "try", V.ref la, V.int x, V.ref lb].set 3 (.ref l2)))) = C2 at hlp2 kD ⊢
       have sub : Same (nw C1 D2) (nw (upd HQ lp (.lst [])) C2) := nw_sub fun b o k1 k2 => ⟨nB sQ (by rw [hlp]; exact fun z => by cases z) b k1, kD b o k2 (fun z => by rw [z, hlp] at k1; cases k1)⟩
       replace hB2 := hB2.same sub (fun _ _ => StAt.same sub)
       have nl2 : HQ l2 = none := none_same sQ n2
       replace sQ : Same HQ C2 := fun b o e => kD b o (s2 b o (sQ b o e)) (fun z => by rw [z, np] at e; cases e)
       replace hlp := hlp2
       clear hlp2 sub kD s2 hpC n2
       have hpC := sQ _ _ hp
       walk_at "rq"
       repeat (rename @Eq Bool _ _ => hzz; clear hzz)
       rename_i e3 m3
       have kC : Same C2 (upd C2 e3 (.tup [.str "if", .str "while"])) := same_new m3
       generalize (upd C2 e3 (.tup [.str "if", .str "while"])) = C3 at kC ⊢
       replace sQ := sQ.trans kC
       replace hlp := kC _ _ hlp
       replace hB2 := hB2.same (nwB_step hBp fun b o e _ => kC b o e) (fun _ _ => StAt.same (nwB_step hBp fun b o e _ => kC b o e))
       clear kC hpC m3
       have hpC := sQ _ _ hp
       walk_at "rq"
       repeat (rename @Eq Bool _ _ => hzz; clear hzz)
       refine ⟨la, a', hd, rfl, o2, h2.same sQ (fun _ _ => StAt.same sQ), o3, by omega, hd3, fun l4 D4 s2 n2 hB4 => ?_⟩
       walk_at "rq"
       refine r_setL (s2 _ _ hlp) (j := 1) rfl ?_
       have hlp2 : (upd D4 lp (.lst ([V.str "try", V.ref la, V.int x, V.ref l2].set 1 (.ref l4)))) lp = some (.lst [V.str "try", V.ref l4, V.int x, V.ref l2]) := upd_same
       have kD : ∀ b o, D4 b = some o → b ≠ lp → (upd D4 lp (.lst ([V.str "try", V.ref la, V.int x, V.ref l2].set 1 (.ref l4)))) b = some o := fun b o e nb => by rw [upd_ne nb]; exact e
       generalize (upd D4 lp (.lst ([V.str "try", V.ref la, V.int x, V.ref l2].set 1 (.ref l4)))) = C4 at hlp2 kD ⊢
       have sub : Same (nw C3 D4) (nw (upd HQ lp (.lst [])) C4) := nw_sub fun b o k1 k2 => ⟨nB sQ (by rw [hlp]; exact fun z => by cases z) b k1, kD b o k2 (fun z => by rw [z, hlp] at k1; cases k1)⟩
       replace hB4 := hB4.same sub (fun _ _ => StAt.same sub)
       replace hB2 := hB2.same (nwB_step hBp fun b o e nb => kD b o (s2 b o e) nb) (fun _ _ => StAt.same (nwB_step hBp fun b o e nb => kD b o (s2 b o e) nb))
       have nl4 : HQ l4 = none := none_same sQ n2
       replace sQ : Same HQ C4 := fun b o e => kD b o (s2 b o (sQ b o e)) (fun z => by rw [z, np] at e; cases e)
       replace hlp := hlp2
       clear hlp2 sub kD s2 hpC n2
       have hpC := sQ _ _ hp
       walk_at "rq"
       repeat (rename @Eq Bool _ _ => hzz; clear hzz)
       rename_i e5 m5
       have kC : Same C4 (upd C4 e5 (.tup [.str "call", .str "hand"])) := same_new m5
       generalize (upd C4 e5 (.tup [.str "call", .str "hand"])) = C5 at kC ⊢
       replace sQ := sQ.trans kC
       replace hlp := kC _ _ hlp
       replace hB2 := hB2.same (nwB_step hBp fun b o e _ => kC b o e) (fun _ _ => StAt.same (nwB_step hBp fun b o e _ => kC b o e))
       replace hB4 := hB4.same (nwB_step hBp fun b o e _ => kC b o e) (fun _ _ => StAt.same (nwB_step hBp fun b o e _ => kC b o e))
       clear kC hpC m5
       have hpC := sQ _ _ hp
       walk_at "rq"
       refine r_tupLst (SqL.of hlp) fun t nt => ?_
       have nt1 : HQ t = none := none_same sQ nt
       have kC : Same C5 (upd C5 t (.tup [V.str "try", V.ref l4, V.int x, V.ref l2])) := same_new nt
       have ht : (upd C5 t (.tup [V.str "try", V.ref l4, V.int x, V.ref l2])) t = some (.tup [V.str "try", V.ref l4, V.int x, V.ref l2]) := upd_same
       generalize (upd C5 t (.tup [V.str "try", V.ref l4, V.int x, V.ref l2])) = HX at kC ht ⊢
       replace sQ := sQ.trans kC
       have hlF := sQ _ _ hl
       have htl : t ≠ l := fun z => by rw [z, hl] at nt1; cases nt1
       walk_at "rq"
       have sub : Same (nw (upd HQ lp (.lst [])) C5) (nw (upd H l (.lst [])) (upd HX l (.lst (qs.map V.ref ++ [.ref t])))) := nw_sub fun b o k1 k2 => ⟨upn b (upd_none k1).1, by rw [upd_ne (fun z => by rw [z] at k1; rw [(upd_none k1).1] at hl; cases hl)]; exact kC b o k2⟩
       have hF2 := hB2.same sub (fun _ _ => StAt.same sub)
       have hF4 := hB4.same sub (fun _ _ => StAt.same sub)
       exact fin HX t (KeepX.of sQ) hlF ⟨l4, l2, nw_at (upn t nt1) (by rw [upd_ne htl]; exact ht), hF4, hF2⟩
   · rintro σ HQ ⟨s1, u1, u2, qs, rfl, hl, he⟩
     rw [List.length_map, hpl, List.take_length] at he
     walk_at "rq"
     exact q l HQ s1 nl ⟨qs, nw_at nl hl, he.mono fun p x h => StAt.same (nw_sub fun b o k1 k2 => ⟨(upd_none k1).1, k2⟩) h⟩
theorem ok_law_tupled0 (T : Txt w K mg a) : FnE P w K mg base CX0 1 "_law_tupled" (spTup 0) := by
 refine fnE_of (sp := (spTup 0)) 0 T.fn_law_tupled sc_law_tupled (fun vs H Q E h => ?_) (fun f cdv A outer s H vs Q E hr h => ?_)
 · obtain ⟨l0, ss, hd, _, h0, _⟩ := h; exact absurd h0 (Nat.lt_irrefl 0)
 · obtain ⟨l0, ss, hd, _, h0, _⟩ := h; exact absurd h0 (Nat.lt_irrefl 0)
theorem ok_law_tupled (T : Txt w K mg a) : FnE P w K mg base CX0 6 "_law_tupled" (spTup 5) := ok_law_tupledS (ok_law_tupledS (ok_law_tupledS (ok_law_tupledS (ok_law_tupledS (ok_law_tupled0 T) T) T) T) T) T
theorem me_statementsS {k d : Nat} (hk : 2 ≤ k) (G : MethE P w K mg base CX0 k a.C_ProgramRows "statement" (spPS a d)) (T : Txt w K mg a) : MethE P w K mg base CX0 (k + 1) a.C_ProgramRows "statements" (spPL a d) := by
 refine methE_of (sp := (spPL a d)) k T.cl_ProgramRows T.m_ProgramRows_statements sc_ProgramRows_statements (fun vs H Q E h => ?_) (fun f cdv A outer s H vs Q E hr h => ?_)
 · obtain ⟨x, dx, lr, fs, k', ps, rs, rest, ss, hd, rfl, _⟩ := h
   rfl
 · obtain ⟨x, dx, lr, fs, k', ps, rs, rest, ss, hd, rfl, R, hdr, hst, hok, hd3, h5, q⟩ := h
   refine ⟨_, (pss_cons (ps_set (i := 2) sc_ProgramRows_statements.nd rfl (Or.inl rfl) (pe_lst pa_nil))
     (pss_cons (ps_while PassesOwn.never (pt_cmpR (op_notInK (K := K) rfl) (pe_methK0 (P := P) (w := w) (K := K) (mg := mg) (base := base) (k := 1) ⟨rfl, rfl, rfl, rfl, rfl⟩ (pv 0) (hr.mono (by omega)) pass0) (pe_glob (v := .ref a.G_NO_STATEMENT) rfl T.s_NO_STATEMENT rfl) rfl) (pss_one (ps_expr (pe_bmK (K := K) rfl PySem.F.plainAttrs_list PySem.F.slot_list_append PySem.F.type_list_append mt_append (pv 2) (pa_cons (pe_methK (P := P) (w := w) (K := K) (mg := mg) (base := base) (k := k) ⟨rfl, rfl, rfl, rfl, rfl⟩ (pv 0) (hr.mono (by omega)) pass0 (pa_cons (pv 1) pa_nil)) pa_nil)))))
     (pss_one (ps_ret (pv 2))))), ?_⟩
   refine r_st (σ' := [some _, some _, none]) rfl ?_
   walk_at "rq"
   rename_i l nl
   have nxl : l ≠ x := fun z => by rw [z, R.obj] at nl; cases nl
   have h300 := R.few
   have sl : Same H (upd H l (.lst [])) := same_new nl
   refine ⟨fun j σ HQ => ∃ (i : Nat) (fs' : List (Str × V)) (qs : List Addr), i + j = ss.length ∧ σ = [some (.ref x), some (.int (5 - (d : Int))), some (.ref l)] ∧ KeepX x H HQ ∧ HQ l = some (.lst (qs.map V.ref)) ∧ PRt a HQ x dx lr fs' (k' + (rowsL d (ss.take i)).length) ps rs ∧ Each (StAt (nt (upd H l (.lst [])) HQ) d) qs (ss.take i), ⟨ss.length, 0, fs, [], by omega, rfl, KeepX.of sl, upd_same, R.same sl, Each.nil⟩, ?_⟩
   rintro j σ HQ ⟨i, fs', qs, hij, rfl, kp, hl, R1, he⟩
   walk_at "rq"
   refine r_methV R1.obj (R1.pf.no _ (by decide +kernel)) ((me_ProgramRows_next_word T).mono (by omega)) ?_
   walk_at "rq"
   refine ⟨x, dx, lr, fs', _, ps, rs, rfl, R1, ?_⟩
   walk_at "rq"
   refine ⟨_, _, rfl, .inr (T.t_NO_STATEMENT _), rfl, rfl, ?_⟩
   rw [if_pos rfl, inV_stop]
   by_cases hi : i < ss.length
   · have hsi : ss[i]? = some ss[i] := List.getElem?_eq_getElem hi
     have hoki := hok _ (List.getElem_mem hi)
     have htk := rowsL_take (d := d) hsi
     have hsp := rowsL_split (d := d) (i := i) hsi
     rw [hsp, List.append_assoc] at hdr
     have hdr1 := drop_app hdr
     have htk2 : ss.take (i + 1) = ss.take i ++ [ss[i]] := by rw [List.take_add_one, hsi]; rfl
     generalize ss[i] = s' at hsi hoki htk hdr1 htk2
     clear hdr hsp
     obtain ⟨r0, t0, er, hns⟩ := first_row hoki
     rw [List.append_assoc] at hdr1
     have hw : wordAt rs (k' + (rowsL d (ss.take i)).length) = r0.1 := by rw [word_drop hdr1, er]; rfl
     rw [hw, decide_eq_false hns]
     have hcn : qs.length ≤ ss.length := by rw [he.1, List.length_take]; omega
     have hrl : (rowsL d (ss.take i)).length ≤ 300 := by
       have := congrArg List.length hdr1
       rw [List.length_drop, er, List.length_append, List.length_cons] at this; omega
     walk_at "rq"
     refine ⟨_, fun σ' H' h => h, ?_⟩
     walk_at "rq"
     refine r_methV R1.obj (R1.pf.no _ (by decide +kernel)) G ?_
     walk_at "rq"
     refine ⟨x, dx, lr, fs', _, ps, rs, _, s', hd, rfl, R1, hdr1, hoki, hd3, h5, fun p fs2 H2 k2 R2 hst2 => ?_⟩
     have hl2 := k2 _ _ hl nxl
     have hqs : qs.length ≤ 300 := by
       have h1 := rowsL_long hok (i := i)
       rw [he.1]; omega
     walk_at "rq"
     refine ⟨j - 1, by omega, i + 1, fs2, qs ++ [p], by omega, rfl, fun b o e n => ?_, by rw [upd_same, List.map_append]; rfl, ?_, ?_⟩
     · rw [upd_ne (fun z => by rw [z, nl] at e; cases e)]; exact k2 b o (kp b o e n) n
     · rw [htk, List.length_append, ← Nat.add_assoc]
       exact R2.put hl2 nxl (fun z => by rw [z, R.lst] at nl; cases nl)
     · rw [htk2]
       refine Each.snoc (he.mono fun p' z h => StAt.same (nt_sub (fun b o e1 e2 => ?_) (fun b xs e => nt_tup e)) h) (StAt.same (nt_sub (fun b o e1 e2 => ?_) (fun b xs e => ?_)) hst2)
       · have nb := upd_none e1
         have nx : b ≠ x := fun z => by rw [z, R.obj] at nb; cases nb.1
         exact nt_new e1 (by rw [upd_ne nb.2]; exact k2 b o e2 nx)
       · have nb : b ≠ l := fun z => by rw [z, hl] at e1; cases e1
         have nx : b ≠ x := fun z => by rw [z, R1.obj] at e1; cases e1
         have hn := KeepX.none kp R.obj R1.obj e1
         exact nt_new (by rw [upd_ne nb]; exact hn) (by rw [upd_ne nb]; exact e2)
       · have nb : b ≠ l := fun z => by rw [z, hl] at e; cases e
         have nx : b ≠ x := fun z => by rw [z, R1.obj] at e; cases e
         cases h : H b with
         | none => exact nt_new (by rw [upd_ne nb]; exact h) (by rw [upd_ne nb]; exact k2 _ _ e nx)
         | some o =>
           have := kp b o h nx
           rw [e] at this
           cases this
           exact nt_tup (by rw [upd_ne nb]; exact h)
   · have hil : i = ss.length := by omega
     subst hil
     rw [List.take_length] at R1 he
     have hw : wordAt rs (k' + (rowsL d ss).length) = wordAt rest 0 := word_drop (drop_app hdr)
     rw [List.take_length, hw, decide_eq_true hst]
     walk_at "rq"
     exact q l qs fs' HQ kp nl R1 hl he
theorem me_statementS {k d : Nat} (hk : 3 ≤ k) (G : MethE P w K mg base CX0 k a.C_ProgramRows "statements" (spPL a d)) (T : Txt w K mg a) : MethE P w K mg base CX0 (k + 1) a.C_ProgramRows "statement" (spPS a (d + 1)) := by
 refine methE_of (sp := (spPS a (d + 1))) k T.cl_ProgramRows T.m_ProgramRows_statement sc_ProgramRows_statement (fun vs H Q E h => ?_) (fun f cdv A outer s H vs Q E hr h => ?_)
 · obtain ⟨x, dx, lr, fs, k', ps, rs, rest, s', hd, rfl, _⟩ := h
   rfl
 · obtain ⟨x, dx, lr, fs, k', ps, rs, rest, s', hd, rfl, R, hdr, hok, hd3, h5, q⟩ := h
   refine' ⟨_, ?body0, ?_⟩
   (case body0 => (refine' pss_cons ?tu193 ?tq194; (case tq194 => (refine' pss_cons ?tu195 ?tq196; (case tq196 => (refine' pss_cons ?tu197 ?tq198; (case tq198 => (refine' pss_cons ?tu199 ?tq200; (case tq200 => (refine' pss_cons ?tu201 ?tq202; (case tq202 => (refine' pss_cons ?tu203 ?tq204; (case tq204 => (refine' pss_cons ?tu205 ?tq206; (case tq206 => (refine' pss_cons ?tu207 ?tq208; (case tq208 => (refine' pss_one ?tu209; (case tu209 => (refine' ps_ret ?ts210; (case ts210 => exact (pe_ifExp (pt_cmpR (op_eqK (K := K) rfl hr.units) (pe_ix (ix_K (K := K) rfl) (pv 2) pe_int (fun _ _ => rfl)) pe_str (nomark _)) (pe_tup (pa_cons pe_str (pa_cons (pe_ix (ix_K (K := K) rfl) (pv 2) pe_int (fun _ _ => rfl)) (pa_cons (pv 3) (pa_cons (pv 5) pa_nil))))) (pe_tup (pa_cons pe_str (pa_cons (pv 3) (pa_cons (pe_ix (ix_K (K := K) rfl) (pv 4) pe_int (fun _ _ => rfl)) (pa_cons (pv 5) pa_nil))))))))))); (case tu207 => exact (ps_expr (pe_methK (P := P) (w := w) (K := K) (mg := mg) (base := base) (k := 2) ⟨rfl, rfl, rfl, rfl, rfl⟩ (pv 0) (hr.mono (by omega)) pass0 (pa_cons pe_str pa_nil)))))); (case tu205 => exact (ps_set (i := 5) sc_ProgramRows_statement.nd rfl (Or.inl rfl) (pe_methK (P := P) (w := w) (K := K) (mg := mg) (base := base) (k := k) ⟨rfl, rfl, rfl, rfl, rfl⟩ (pv 0) (hr.mono (by omega)) pass0 (pa_cons (pe_op (op_plusK (K := K) rfl) (pv 1) pe_int) pa_nil)))))); (case tu203 => exact (ps_set (i := 4) sc_ProgramRows_statement.nd rfl (Or.inl rfl) (pe_methK (P := P) (w := w) (K := K) (mg := mg) (base := base) (k := 2) ⟨rfl, rfl, rfl, rfl, rfl⟩ (pv 0) (hr.mono (by omega)) pass0 (pa_cons (pe_ifExp (pt_cmpR (op_eqK (K := K) rfl hr.units) (pe_ix (ix_K (K := K) rfl) (pv 2) pe_int (fun _ _ => rfl)) pe_str (nomark _)) pe_str pe_str) pa_nil)))))); (case tu201 => (refine' ps_if ?ti211 ?tj212 ?tm213; (case ti211 => exact (pt_cmpR (op_eqK (K := K) rfl hr.units) (pe_ix (ix_K (K := K) rfl) (pv 2) pe_int (fun _ _ => rfl)) pe_str (nomark _))); (case tj212 => (refine' pss_cons ?tu214 ?tq215; (case tq215 => (refine' pss_one ?tu216; (case tu216 => (refine' ps_ret ?ts217; (case ts217 => (refine' pe_tup ?ta218; (case ta218 => (refine' pa_cons ?tx219 ?ty220 ?tz221; (case tz221 => rfl); (case tx219 => exact pe_str); (case ty220 => (refine' pa_cons ?tx222 ?ty223 ?tz224; (case tz224 => rfl); (case tx222 => exact (pe_ix (ix_K (K := K) rfl) (pv 2) pe_int (fun _ _ => rfl))); (case ty223 => (refine' pa_cons ?tx225 ?ty226 ?tz227; (case tz227 => rfl); (case tx225 => exact (pv 3)); (case ty226 => exact pa_nil))))))))))))); (case tu214 => exact (ps_expr (pe_methK (P := P) (w := w) (K := K) (mg := mg) (base := base) (k := 2) ⟨rfl, rfl, rfl, rfl, rfl⟩ (pv 0) (hr.mono (by omega)) pass0 (pa_cons pe_str pa_nil)))))); (case tm213 => exact pss_nil))))); (case tu199 => exact (ps_set (i := 3) sc_ProgramRows_statement.nd rfl (Or.inl rfl) (pe_methK (P := P) (w := w) (K := K) (mg := mg) (base := base) (k := k) ⟨rfl, rfl, rfl, rfl, rfl⟩ (pv 0) (hr.mono (by omega)) pass0 (pa_cons (pe_op (op_plusK (K := K) rfl) (pv 1) pe_int) pa_nil)))))); (case tu197 => exact (ps_if (pt_cmpR (op_eqK (K := K) rfl hr.units) (pv 1) (pe_glob (v := .int 40) rfl T.g_TOP_READ_WITHIN.choose_spec ⟨_, rfl⟩) (nomark _)) (pss_one ps_never) pss_nil)))); (case tu195 => (refine' ps_if ?ti228 ?tj229 ?tm230; (case ti228 => (refine' pt_cmpR (op_notInK (K := K) rfl) ?tl231 ?tr232 rfl; (case tl231 => exact (pe_ix (ix_K (K := K) rfl) (pv 2) pe_int (fun _ _ => rfl))); (case tr232 => (refine' pe_tup ?ta233; (case ta233 => (refine' pa_cons ?tx234 ?ty235 ?tz236; (case tz236 => rfl); (case tx234 => exact pe_str); (case ty235 => (refine' pa_cons ?tx237 ?ty238 ?tz239; (case tz239 => rfl); (case tx237 => exact pe_str); (case ty238 => (refine' pa_cons ?tx240 ?ty241 ?tz242; (case tz242 => rfl); (case tx240 => exact pe_str); (case ty241 => exact pa_nil))))))))))); (case tj229 => exact (pss_one (ps_ret (pe_callE (ok_plain_statement (K := K) T) (hr.mono (by omega)) pass0 rfl (pa_cons (pv 2) pa_nil))))); (case tm230 => exact pss_nil))))); (case tu193 => exact (ps_set (i := 2) sc_ProgramRows_statement.nd rfl (Or.inl rfl) (pe_methK (P := P) (w := w) (K := K) (mg := mg) (base := base) (k := 2) ⟨rfl, rfl, rfl, rfl, rfl⟩ (pv 0) (hr.mono (by omega)) pass0 (pa_cons (pe_methK0 (P := P) (w := w) (K := K) (mg := mg) (base := base) (k := 1) ⟨rfl, rfl, rfl, rfl, rfl⟩ (pv 0) (hr.mono (by omega)) pass0) pa_nil))))))
   refine r_st (σ' := [some _, some _, none, none, none, none]) rfl ?_
   walk_at "rq"
   refine r_methV R.obj (R.pf.no _ (by decide +kernel)) ((me_ProgramRows_take_row T).mono (by omega)) ?_
   walk_at "rq"
   refine r_methV R.obj (R.pf.no _ (by decide +kernel)) ((me_ProgramRows_next_word T).mono (by omega)) ?_
   walk_at "rq"
   refine ⟨x, dx, lr, fs, k', ps, rs, rfl, R, ?_⟩
   walk_at "rq"
   cases s' with
   | pl s2 =>
     cases s2 with
     | set y v2 =>
       have hr0 : rs[k']? = some (rd "set" [y, v2]) := (drop_cons hdr).1
       refine ⟨x, dx, lr, fs, k', ps, rs, (rd "set" [y, v2]), by rw [word_drop hdr]; rfl, R, hr0, fun p fs1 H1 hpk kp1 nn1 R1 hrow => ?_⟩
       walk_at "rq"
       refine r_ixT (v := .str "set") (SqT.of hrow) (at_head _ _) ?_
       walk_at "rq"
       rename_i e1 m1
       refine ⟨_, _, rfl, .inr (SqT.of upd_same), rfl, rfl, ?_⟩
       rw [show (if true = true then !inV (V.str "set") [V.str "if", V.str "while", V.str "try"] else inV (V.str "set") [V.str "if", V.str "while", V.str "try"]) = true from by decide +kernel]
       walk_at "rq"
       have s2 := same_new (o := .tup [.str "if", .str "while", .str "try"]) m1
       refine ⟨p, .pl (.set y v2), d, hd, _, rfl, s2 _ _ hrow, rfl, True.intro, hok, hd3, fun p' H2 s3 hst => ?_⟩
       exact q p' fs1 H2 (kp1.same (s2.trans s3)) ((R1.same s2).same s3) (StAt.same (nt_sub1 (kp1.same s2) R.obj (s2 _ _ R1.obj) (KeepX.of s3) KeepX.refl) hst)
     | copy y y2 =>
       have hr0 : rs[k']? = some (rd "copy" [y, y2]) := (drop_cons hdr).1
       refine ⟨x, dx, lr, fs, k', ps, rs, (rd "copy" [y, y2]), by rw [word_drop hdr]; rfl, R, hr0, fun p fs1 H1 hpk kp1 nn1 R1 hrow => ?_⟩
       walk_at "rq"
       refine r_ixT (v := .str "copy") (SqT.of hrow) (at_head _ _) ?_
       walk_at "rq"
       rename_i e1 m1
       refine ⟨_, _, rfl, .inr (SqT.of upd_same), rfl, rfl, ?_⟩
       rw [show (if true = true then !inV (V.str "copy") [V.str "if", V.str "while", V.str "try"] else inV (V.str "copy") [V.str "if", V.str "while", V.str "try"]) = true from by decide +kernel]
       walk_at "rq"
       have s2 := same_new (o := .tup [.str "if", .str "while", .str "try"]) m1
       refine ⟨p, .pl (.copy y y2), d, hd, _, rfl, s2 _ _ hrow, rfl, True.intro, hok, hd3, fun p' H2 s3 hst => ?_⟩
       exact q p' fs1 H2 (kp1.same (s2.trans s3)) ((R1.same s2).same s3) (StAt.same (nt_sub1 (kp1.same s2) R.obj (s2 _ _ R1.obj) (KeepX.of s3) KeepX.refl) hst)
     | sum y y2 z2 =>
       have hr0 : rs[k']? = some (rd "sum" [y, y2, z2]) := (drop_cons hdr).1
       refine ⟨x, dx, lr, fs, k', ps, rs, (rd "sum" [y, y2, z2]), by rw [word_drop hdr]; rfl, R, hr0, fun p fs1 H1 hpk kp1 nn1 R1 hrow => ?_⟩
       walk_at "rq"
       refine r_ixT (v := .str "sum") (SqT.of hrow) (at_head _ _) ?_
       walk_at "rq"
       rename_i e1 m1
       refine ⟨_, _, rfl, .inr (SqT.of upd_same), rfl, rfl, ?_⟩
       rw [show (if true = true then !inV (V.str "sum") [V.str "if", V.str "while", V.str "try"] else inV (V.str "sum") [V.str "if", V.str "while", V.str "try"]) = true from by decide +kernel]
       walk_at "rq"
       have s2 := same_new (o := .tup [.str "if", .str "while", .str "try"]) m1
       refine ⟨p, .pl (.sum y y2 z2), d, hd, _, rfl, s2 _ _ hrow, rfl, True.intro, hok, hd3, fun p' H2 s3 hst => ?_⟩
       exact q p' fs1 H2 (kp1.same (s2.trans s3)) ((R1.same s2).same s3) (StAt.same (nt_sub1 (kp1.same s2) R.obj (s2 _ _ R1.obj) (KeepX.of s3) KeepX.refl) hst)
     | minus y y2 z2 =>
       have hr0 : rs[k']? = some (rd "minus" [y, y2, z2]) := (drop_cons hdr).1
       refine ⟨x, dx, lr, fs, k', ps, rs, (rd "minus" [y, y2, z2]), by rw [word_drop hdr]; rfl, R, hr0, fun p fs1 H1 hpk kp1 nn1 R1 hrow => ?_⟩
       walk_at "rq"
       refine r_ixT (v := .str "minus") (SqT.of hrow) (at_head _ _) ?_
       walk_at "rq"
       rename_i e1 m1
       refine ⟨_, _, rfl, .inr (SqT.of upd_same), rfl, rfl, ?_⟩
       rw [show (if true = true then !inV (V.str "minus") [V.str "if", V.str "while", V.str "try"] else inV (V.str "minus") [V.str "if", V.str "while", V.str "try"]) = true from by decide +kernel]
       walk_at "rq"
       have s2 := same_new (o := .tup [.str "if", .str "while", .str "try"]) m1
       refine ⟨p, .pl (.minus y y2 z2), d, hd, _, rfl, s2 _ _ hrow, rfl, True.intro, hok, hd3, fun p' H2 s3 hst => ?_⟩
       exact q p' fs1 H2 (kp1.same (s2.trans s3)) ((R1.same s2).same s3) (StAt.same (nt_sub1 (kp1.same s2) R.obj (s2 _ _ R1.obj) (KeepX.of s3) KeepX.refl) hst)
     | product y y2 z2 =>
       have hr0 : rs[k']? = some (rd "product" [y, y2, z2]) := (drop_cons hdr).1
       refine ⟨x, dx, lr, fs, k', ps, rs, (rd "product" [y, y2, z2]), by rw [word_drop hdr]; rfl, R, hr0, fun p fs1 H1 hpk kp1 nn1 R1 hrow => ?_⟩
       walk_at "rq"
       refine r_ixT (v := .str "product") (SqT.of hrow) (at_head _ _) ?_
       walk_at "rq"
       rename_i e1 m1
       refine ⟨_, _, rfl, .inr (SqT.of upd_same), rfl, rfl, ?_⟩
       rw [show (if true = true then !inV (V.str "product") [V.str "if", V.str "while", V.str "try"] else inV (V.str "product") [V.str "if", V.str "while", V.str "try"]) = true from by decide +kernel]
       walk_at "rq"
       have s2 := same_new (o := .tup [.str "if", .str "while", .str "try"]) m1
       refine ⟨p, .pl (.product y y2 z2), d, hd, _, rfl, s2 _ _ hrow, rfl, True.intro, hok, hd3, fun p' H2 s3 hst => ?_⟩
       exact q p' fs1 H2 (kp1.same (s2.trans s3)) ((R1.same s2).same s3) (StAt.same (nt_sub1 (kp1.same s2) R.obj (s2 _ _ R1.obj) (KeepX.of s3) KeepX.refl) hst)
     | less y y2 z2 =>
       have hr0 : rs[k']? = some (rd "less" [y, y2, z2]) := (drop_cons hdr).1
       refine ⟨x, dx, lr, fs, k', ps, rs, (rd "less" [y, y2, z2]), by rw [word_drop hdr]; rfl, R, hr0, fun p fs1 H1 hpk kp1 nn1 R1 hrow => ?_⟩
       walk_at "rq"
       refine r_ixT (v := .str "less") (SqT.of hrow) (at_head _ _) ?_
       walk_at "rq"
       rename_i e1 m1
       refine ⟨_, _, rfl, .inr (SqT.of upd_same), rfl, rfl, ?_⟩
       rw [show (if true = true then !inV (V.str "less") [V.str "if", V.str "while", V.str "try"] else inV (V.str "less") [V.str "if", V.str "while", V.str "try"]) = true from by decide +kernel]
       walk_at "rq"
       have s2 := same_new (o := .tup [.str "if", .str "while", .str "try"]) m1
       refine ⟨p, .pl (.less y y2 z2), d, hd, _, rfl, s2 _ _ hrow, rfl, True.intro, hok, hd3, fun p' H2 s3 hst => ?_⟩
       exact q p' fs1 H2 (kp1.same (s2.trans s3)) ((R1.same s2).same s3) (StAt.same (nt_sub1 (kp1.same s2) R.obj (s2 _ _ R1.obj) (KeepX.of s3) KeepX.refl) hst)
     | give y =>
       have hr0 : rs[k']? = some (rd "give" [y]) := (drop_cons hdr).1
       refine ⟨x, dx, lr, fs, k', ps, rs, (rd "give" [y]), by rw [word_drop hdr]; rfl, R, hr0, fun p fs1 H1 hpk kp1 nn1 R1 hrow => ?_⟩
       walk_at "rq"
       refine r_ixT (v := .str "give") (SqT.of hrow) (at_head _ _) ?_
       walk_at "rq"
       rename_i e1 m1
       refine ⟨_, _, rfl, .inr (SqT.of upd_same), rfl, rfl, ?_⟩
       rw [show (if true = true then !inV (V.str "give") [V.str "if", V.str "while", V.str "try"] else inV (V.str "give") [V.str "if", V.str "while", V.str "try"]) = true from by decide +kernel]
       walk_at "rq"
       have s2 := same_new (o := .tup [.str "if", .str "while", .str "try"]) m1
       refine ⟨p, .pl (.give y), d, hd, _, rfl, s2 _ _ hrow, rfl, True.intro, hok, hd3, fun p' H2 s3 hst => ?_⟩
       exact q p' fs1 H2 (kp1.same (s2.trans s3)) ((R1.same s2).same s3) (StAt.same (nt_sub1 (kp1.same s2) R.obj (s2 _ _ R1.obj) (KeepX.of s3) KeepX.refl) hst)
     | leave y => exact hok.elim
   | drop y =>
       have hr0 : rs[k']? = some (rd "drop" [y]) := (drop_cons hdr).1
       refine ⟨x, dx, lr, fs, k', ps, rs, (rd "drop" [y]), by rw [word_drop hdr]; rfl, R, hr0, fun p fs1 H1 hpk kp1 nn1 R1 hrow => ?_⟩
       walk_at "rq"
       refine r_ixT (v := .str "drop") (SqT.of hrow) (at_head _ _) ?_
       walk_at "rq"
       rename_i e1 m1
       refine ⟨_, _, rfl, .inr (SqT.of upd_same), rfl, rfl, ?_⟩
       rw [show (if true = true then !inV (V.str "drop") [V.str "if", V.str "while", V.str "try"] else inV (V.str "drop") [V.str "if", V.str "while", V.str "try"]) = true from by decide +kernel]
       walk_at "rq"
       have s2 := same_new (o := .tup [.str "if", .str "while", .str "try"]) m1
       refine ⟨p, .drop y, d, hd, _, rfl, s2 _ _ hrow, rfl, True.intro, hok, hd3, fun p' H2 s3 hst => ?_⟩
       exact q p' fs1 H2 (kp1.same (s2.trans s3)) ((R1.same s2).same s3) (StAt.same (nt_sub1 (kp1.same s2) R.obj (s2 _ _ R1.obj) (KeepX.of s3) KeepX.refl) hst)
   | call y f' ns lb =>
       have hr0 : rs[k']? = some (rd "call" (y :: f' :: ns)) := (drop_cons hdr).1
       refine ⟨x, dx, lr, fs, k', ps, rs, (rd "call" (y :: f' :: ns)), by rw [word_drop hdr]; rfl, R, hr0, fun p fs1 H1 hpk kp1 nn1 R1 hrow => ?_⟩
       walk_at "rq"
       refine r_ixT (v := .str "call") (SqT.of hrow) (at_head _ _) ?_
       walk_at "rq"
       rename_i e1 m1
       refine ⟨_, _, rfl, .inr (SqT.of upd_same), rfl, rfl, ?_⟩
       rw [show (if true = true then !inV (V.str "call") [V.str "if", V.str "while", V.str "try"] else inV (V.str "call") [V.str "if", V.str "while", V.str "try"]) = true from by decide +kernel]
       walk_at "rq"
       have s2 := same_new (o := .tup [.str "if", .str "while", .str "try"]) m1
       refine ⟨p, (.call y f' ns lb), d, hd, _, rfl, s2 _ _ hrow, rfl, True.intro, hok, hd3, fun p' H2 s3 hst => ?_⟩
       exact q p' fs1 H2 (kp1.same (s2.trans s3)) ((R1.same s2).same s3) (StAt.same (nt_sub1 (kp1.same s2) R.obj (s2 _ _ R1.obj) (KeepX.of s3) KeepX.refl) hst)
   | hand f' ns lb =>
       have hr0 : rs[k']? = some (rd "hand" (f' :: ns)) := (drop_cons hdr).1
       refine ⟨x, dx, lr, fs, k', ps, rs, (rd "hand" (f' :: ns)), by rw [word_drop hdr]; rfl, R, hr0, fun p fs1 H1 hpk kp1 nn1 R1 hrow => ?_⟩
       walk_at "rq"
       refine r_ixT (v := .str "hand") (SqT.of hrow) (at_head _ _) ?_
       walk_at "rq"
       rename_i e1 m1
       refine ⟨_, _, rfl, .inr (SqT.of upd_same), rfl, rfl, ?_⟩
       rw [show (if true = true then !inV (V.str "hand") [V.str "if", V.str "while", V.str "try"] else inV (V.str "hand") [V.str "if", V.str "while", V.str "try"]) = true from by decide +kernel]
       walk_at "rq"
       have s2 := same_new (o := .tup [.str "if", .str "while", .str "try"]) m1
       refine ⟨p, (.hand f' ns lb), d, hd, _, rfl, s2 _ _ hrow, rfl, True.intro, hok, hd3, fun p' H2 s3 hst => ?_⟩
       exact q p' fs1 H2 (kp1.same (s2.trans s3)) ((R1.same s2).same s3) (StAt.same (nt_sub1 (kp1.same s2) R.obj (s2 _ _ R1.obj) (KeepX.of s3) KeepX.refl) hst)
   | ifS y a' b =>
       obtain ⟨o1, o2, o3, o4⟩ := hok
       have hdr : rs.drop k' = rd "if" [y] :: (rowsL d a' ++ rd "else" [] :: (rowsL d b ++ rd "end" [] :: rest)) := by rw [hdr]; show (rd "if" [y] :: (rowsL d a' ++ rd "else" [] :: (rowsL d b ++ [rd "end" []]))) ++ rest = _; simp only [List.cons_append, List.append_assoc, List.nil_append]
       have elen : (rowsS (d + 1) (.ifS y a' b)).length = 1 + (rowsL d a').length + 1 + (rowsL d b).length + 1 := by show (rd "if" [y] :: (rowsL d a' ++ rd "else" [] :: (rowsL d b ++ [rd "end" []]))).length = _; simp only [List.length_cons, List.length_append, List.length_nil]; omega
       obtain ⟨hr0, hd1⟩ := drop_cons hdr
       have hd2 := drop_app hd1
       obtain ⟨hr2, hd3'⟩ := drop_cons hd2
       have hd4 := drop_app hd3'
       obtain ⟨hr4, _⟩ := drop_cons hd4
       refine ⟨x, dx, lr, fs, k', ps, rs, rd "if" [y], by rw [word_drop hdr]; rfl, R, hr0, fun p fs1 H1 hpk kp1 nn1 R1 hrow => ?_⟩
       have hrow : H1 p = some (.tup [.str "if", .int y]) := hrow
       walk_at "rq"
       rename_i e1 m1
       refine ⟨_, _, rfl, .inr (SqT.of upd_same), rfl, rfl, ?_⟩
       rw [show (if true = true then !inV (V.str "if") [V.str "if", V.str "while", V.str "try"] else inV (V.str "if") [V.str "if", V.str "while", V.str "try"]) = false from by decide +kernel]
       walk_at "rq"
       have s2 := same_new (o := .tup [.str "if", .str "while", .str "try"]) m1
       have R1' := R1.same s2
       have kp1' := kp1.same s2
       have hrow1 := s2 _ _ hrow
       generalize (upd H1 e1 (.tup [.str "if", .str "while", .str "try"])) = H1' at R1' kp1' hrow1 ⊢
       clear s2 m1 R1 kp1 nn1 hrow
       refine r_methV R1'.obj (R1'.pf.no _ (by decide +kernel)) G ?_
       walk_at "rq"
       refine ⟨x, dx, lr, fs1, k' + 1, ps, rs, _, a', hd, by rw [show (5 : Int) - ((d + 1 : Nat) : Int) + 1 = 5 - (d : Int) by omega], R1', hd1, (show ("else" : Str) ∈ stopW by decide +kernel), o3, hd3, by omega, fun l2 q2 fs2 H2 kp2 nl2 R2 hl2 he2 => ?_⟩
       have hrow2 := kp2.tup R1'.obj _ _ hrow1
       walk_at "rq"
       refine r_methV R2.obj (R2.pf.no _ (by decide +kernel)) ((me_ProgramRows_take_row T).mono (by omega)) ?_
       walk_at "rq"
       refine ⟨x, dx, lr, fs2, _, ps, rs, rd "else" [], rfl, R2, hr2, fun p3 fs3 H3 hp3 kp3 nn3 R3 hrow3 => ?_⟩
       walk_at "rq"
       refine r_methV R3.obj (R3.pf.no _ (by decide +kernel)) G ?_
       walk_at "rq"
       refine ⟨x, dx, lr, fs3, _, ps, rs, _, b, hd, by rw [show (5 : Int) - ((d + 1 : Nat) : Int) + 1 = 5 - (d : Int) by omega], R3, hd3', (show ("end" : Str) ∈ stopW by decide +kernel), o4, hd3, by omega, fun l4 q4 fs4 H4 kp4 nl4 R4 hl4 he4 => ?_⟩
       walk_at "rq"
       refine r_methV R4.obj (R4.pf.no _ (by decide +kernel)) ((me_ProgramRows_take_row T).mono (by omega)) ?_
       walk_at "rq"
       refine ⟨x, dx, lr, fs4, _, ps, rs, rd "end" [], rfl, R4, hr4, fun p5 fs5 H5 hp5 kp5 nn5 R5 hrow5 => ?_⟩
       have hrow6 := kp5.tup R4.obj _ _ (kp4.tup R3.obj _ _ (kp3.tup R2.obj _ _ hrow2))
       walk_at "rq"
       rename_i t nt
       have s6 := same_new (o := .tup [.str "if", .int y, .ref l2, .ref l4]) nt
       have k25 := (kp3.trans (kp4.trans kp5)).same s6
       have k45 := kp5.same s6
       have kall := (kp1'.trans (kp2.trans (kp3.trans (kp4.trans kp5)))).same s6
       have nlx2 : l2 ≠ x := fun z => by rw [z, R1'.obj] at nl2; cases nl2
       have nlx4 : l4 ≠ x := fun z => by rw [z, R3.obj] at nl4; cases nl4
       have n2H := KeepX.none kp1' R.obj R1'.obj nl2
       have n4H := KeepX.none (kp1'.trans (kp2.trans kp3)) R.obj R3.obj nl4
       have ntH := KeepX.none (kp1'.trans (kp2.trans (kp3.trans (kp4.trans kp5)))) R.obj R5.obj nt
       have sa := nt_sub2 (l := l2) kp1' R.obj R1'.obj kp2 k25
       have sb := nt_sub2 (l := l4) (kp1'.trans (kp2.trans kp3)) R.obj R3.obj kp4 k45
       refine q t fs5 _ kall (by rw [elen]; exact (R5.same s6).mark (by omega)) ⟨l2, l4, nt_new ntH upd_same, ⟨q2, nt_new n2H (k25 _ _ hl2 nlx2), he2.mono fun _ _ h => StAt.same sa h⟩, ⟨q4, nt_new n4H (k45 _ _ hl4 nlx4), he4.mono fun _ _ h => StAt.same sb h⟩⟩
   | whileS y a' =>
       obtain ⟨o1, o2, o3⟩ := hok
       have hdr : rs.drop k' = rd "while" [y] :: (rowsL d a' ++ rd "end" [] :: rest) := by rw [hdr]; show (rd "while" [y] :: (rowsL d a' ++ [rd "end" []])) ++ rest = _; simp only [List.cons_append, List.append_assoc, List.nil_append]
       have elen : (rowsS (d + 1) (.whileS y a')).length = 1 + (rowsL d a').length + 1 := by show (rd "while" [y] :: (rowsL d a' ++ [rd "end" []])).length = _; simp only [List.length_cons, List.length_append, List.length_nil]; omega
       obtain ⟨hr0, hd1⟩ := drop_cons hdr
       have hd2 := drop_app hd1
       obtain ⟨hr2, _⟩ := drop_cons hd2
       refine ⟨x, dx, lr, fs, k', ps, rs, rd "while" [y], by rw [word_drop hdr]; rfl, R, hr0, fun p fs1 H1 hpk kp1 nn1 R1 hrow => ?_⟩
       have hrow : H1 p = some (.tup [.str "while", .int y]) := hrow
       walk_at "rq"
       rename_i e1 m1
       refine ⟨_, _, rfl, .inr (SqT.of upd_same), rfl, rfl, ?_⟩
       rw [show (if true = true then !inV (V.str "while") [V.str "if", V.str "while", V.str "try"] else inV (V.str "while") [V.str "if", V.str "while", V.str "try"]) = false from by decide +kernel]
       walk_at "rq"
       have s2 := same_new (o := .tup [.str "if", .str "while", .str "try"]) m1
       have R1' := R1.same s2
       have kp1' := kp1.same s2
       have hrow1 := s2 _ _ hrow
       generalize (upd H1 e1 (.tup [.str "if", .str "while", .str "try"])) = H1' at R1' kp1' hrow1 ⊢
       clear s2 m1 R1 kp1 nn1 hrow
       refine r_methV R1'.obj (R1'.pf.no _ (by decide +kernel)) G ?_
       walk_at "rq"
       refine ⟨x, dx, lr, fs1, k' + 1, ps, rs, _, a', hd, by rw [show (5 : Int) - ((d + 1 : Nat) : Int) + 1 = 5 - (d : Int) by omega], R1', hd1, (show ("end" : Str) ∈ stopW by decide +kernel), o3, hd3, by omega, fun l2 q2 fs2 H2 kp2 nl2 R2 hl2 he2 => ?_⟩
       have hrow2 := kp2.tup R1'.obj _ _ hrow1
       walk_at "rq"
       refine r_methV R2.obj (R2.pf.no _ (by decide +kernel)) ((me_ProgramRows_take_row T).mono (by omega)) ?_
       walk_at "rq"
       refine ⟨x, dx, lr, fs2, _, ps, rs, rd "end" [], rfl, R2, hr2, fun p5 fs5 H5 hp5 kp5 nn5 R5 hrow5 => ?_⟩
       have hrow6 := kp5.tup R2.obj _ _ hrow2
       walk_at "rq"
       rename_i t nt
       have s6 := same_new (o := .tup [.str "while", .int y, .ref l2]) nt
       have k25 := kp5.same s6
       have kall := (kp1'.trans (kp2.trans kp5)).same s6
       have nlx2 : l2 ≠ x := fun z => by rw [z, R1'.obj] at nl2; cases nl2
       have n2H := KeepX.none kp1' R.obj R1'.obj nl2
       have ntH := KeepX.none (kp1'.trans (kp2.trans kp5)) R.obj R5.obj nt
       have sa := nt_sub2 (l := l2) kp1' R.obj R1'.obj kp2 k25
       exact q t fs5 _ kall (by rw [elen]; exact (R5.same s6).mark (by omega)) ⟨l2, nt_new ntH upd_same, q2, nt_new n2H (k25 _ _ hl2 nlx2), he2.mono fun _ _ h => StAt.same sa h⟩
   | tryS a' y b =>
       obtain ⟨o1, o2, o3, o4⟩ := hok
       have hdr : rs.drop k' = rd "try" [] :: (rowsL d a' ++ rd "landing" [y] :: (rowsL d b ++ rd "end" [] :: rest)) := by rw [hdr]; show (rd "try" [] :: (rowsL d a' ++ rd "landing" [y] :: (rowsL d b ++ [rd "end" []]))) ++ rest = _; simp only [List.cons_append, List.append_assoc, List.nil_append]
       have elen : (rowsS (d + 1) (.tryS a' y b)).length = 1 + (rowsL d a').length + 1 + (rowsL d b).length + 1 := by show (rd "try" [] :: (rowsL d a' ++ rd "landing" [y] :: (rowsL d b ++ [rd "end" []]))).length = _; simp only [List.length_cons, List.length_append, List.length_nil]; omega
       obtain ⟨hr0, hd1⟩ := drop_cons hdr
       have hd2 := drop_app hd1
       obtain ⟨hr2, hd3'⟩ := drop_cons hd2
       have hd4 := drop_app hd3'
       obtain ⟨hr4, _⟩ := drop_cons hd4
       refine ⟨x, dx, lr, fs, k', ps, rs, rd "try" [], by rw [word_drop hdr]; rfl, R, hr0, fun p fs1 H1 hpk kp1 nn1 R1 hrow => ?_⟩
       have hrow : H1 p = some (.tup [.str "try"]) := hrow
       walk_at "rq"
       rename_i e1 m1
       refine ⟨_, _, rfl, .inr (SqT.of upd_same), rfl, rfl, ?_⟩
       rw [show (if true = true then !inV (V.str "try") [V.str "if", V.str "while", V.str "try"] else inV (V.str "try") [V.str "if", V.str "while", V.str "try"]) = false from by decide +kernel]
       walk_at "rq"
       have s2 := same_new (o := .tup [.str "if", .str "while", .str "try"]) m1
       have R1' := R1.same s2
       have kp1' := kp1.same s2
       have hrow1 := s2 _ _ hrow
       generalize (upd H1 e1 (.tup [.str "if", .str "while", .str "try"])) = H1' at R1' kp1' hrow1 ⊢
       clear s2 m1 R1 kp1 nn1 hrow
       refine r_methV R1'.obj (R1'.pf.no _ (by decide +kernel)) G ?_
       walk_at "rq"
       refine ⟨x, dx, lr, fs1, k' + 1, ps, rs, _, a', hd, by rw [show (5 : Int) - ((d + 1 : Nat) : Int) + 1 = 5 - (d : Int) by omega], R1', hd1, (show ("landing" : Str) ∈ stopW by decide +kernel), o3, hd3, by omega, fun l2 q2 fs2 H2 kp2 nl2 R2 hl2 he2 => ?_⟩
       have hrow2 := kp2.tup R1'.obj _ _ hrow1
       walk_at "rq"
       refine r_methV R2.obj (R2.pf.no _ (by decide +kernel)) ((me_ProgramRows_take_row T).mono (by omega)) ?_
       walk_at "rq"
       refine ⟨x, dx, lr, fs2, _, ps, rs, rd "landing" [y], rfl, R2, hr2, fun p3 fs3 H3 hp3 kp3 nn3 R3 hrow3 => ?_⟩
       have hrow3 : H3 p3 = some (.tup [.str "landing", .int y]) := hrow3
       walk_at "rq"
       refine r_methV R3.obj (R3.pf.no _ (by decide +kernel)) G ?_
       walk_at "rq"
       refine ⟨x, dx, lr, fs3, _, ps, rs, _, b, hd, by rw [show (5 : Int) - ((d + 1 : Nat) : Int) + 1 = 5 - (d : Int) by omega], R3, hd3', (show ("end" : Str) ∈ stopW by decide +kernel), o4, hd3, by omega, fun l4 q4 fs4 H4 kp4 nl4 R4 hl4 he4 => ?_⟩
       walk_at "rq"
       refine r_methV R4.obj (R4.pf.no _ (by decide +kernel)) ((me_ProgramRows_take_row T).mono (by omega)) ?_
       walk_at "rq"
       refine ⟨x, dx, lr, fs4, _, ps, rs, rd "end" [], rfl, R4, hr4, fun p5 fs5 H5 hp5 kp5 nn5 R5 hrow5 => ?_⟩
       have hrow6 := kp5.tup R4.obj _ _ (kp4.tup R3.obj _ _ (kp3.tup R2.obj _ _ hrow2))
       have hrow7 := kp5.tup R4.obj _ _ (kp4.tup R3.obj _ _ hrow3)
       walk_at "rq"
       rename_i t nt
       have s6 := same_new (o := .tup [.str "try", .ref l2, .int y, .ref l4]) nt
       have k25 := (kp3.trans (kp4.trans kp5)).same s6
       have k45 := kp5.same s6
       have kall := (kp1'.trans (kp2.trans (kp3.trans (kp4.trans kp5)))).same s6
       have nlx2 : l2 ≠ x := fun z => by rw [z, R1'.obj] at nl2; cases nl2
       have nlx4 : l4 ≠ x := fun z => by rw [z, R3.obj] at nl4; cases nl4
       have n2H := KeepX.none kp1' R.obj R1'.obj nl2
       have n4H := KeepX.none (kp1'.trans (kp2.trans kp3)) R.obj R3.obj nl4
       have ntH := KeepX.none (kp1'.trans (kp2.trans (kp3.trans (kp4.trans kp5)))) R.obj R5.obj nt
       have sa := nt_sub2 (l := l2) kp1' R.obj R1'.obj kp2 k25
       have sb := nt_sub2 (l := l4) (kp1'.trans (kp2.trans kp3)) R.obj R3.obj kp4 k45
       exact q t fs5 _ kall (by rw [elen]; exact (R5.same s6).mark (by omega)) ⟨l2, l4, nt_new ntH upd_same, ⟨q2, nt_new n2H (k25 _ _ hl2 nlx2), he2.mono fun _ _ h => StAt.same sa h⟩, ⟨q4, nt_new n4H (k45 _ _ hl4 nlx4), he4.mono fun _ _ h => StAt.same sb h⟩⟩
theorem me_statement0 (T : Txt w K mg a) : MethE P w K mg base CX0 3 a.C_ProgramRows "statement" (spPS a 0) := by
 refine methE_of (sp := (spPS a 0)) 2 T.cl_ProgramRows T.m_ProgramRows_statement sc_ProgramRows_statement (fun vs H Q E h => ?_) (fun f cdv A outer s H vs Q E hr h => ?_)
 · obtain ⟨x, dx, lr, fs, k, ps, rs, rest, s1, hd, _, _, _, ok, _⟩ := h; exact ok.elim
 · obtain ⟨x, dx, lr, fs, k, ps, rs, rest, s1, hd, _, _, _, ok, _⟩ := h; exact ok.elim
theorem me_ProgramRows_statements (T : Txt w K mg a) : MethE P w K mg base CX0 14 a.C_ProgramRows "statements" (spPL a 5) := (me_statementsS (by decide) (me_statementS (by decide) (me_statementsS (by decide) (me_statementS (by decide) (me_statementsS (by decide) (me_statementS (by decide) (me_statementsS (by decide) (me_statementS (by decide) (me_statementsS (by decide) (me_statementS (by decide) (me_statementsS (by decide) (me_statement0 T) T) T) T) T) T) T) T) T) T) T) T)
theorem ok_are_names (T : Txt w K mg a) : FnE P w K mg base CX0 4 "are_names" spNms := by
 refine fnE_of (sp := spNms) 3 T.fn_are_names sc_are_names (fun vs H Q E h => ?_) (fun f cdv A outer s H vs Q E hr h => ?_)
 · obtain ⟨q', ns, l, rfl, _⟩ := h
   rfl
 · obtain ⟨q', ns, l, rfl, hq, hn, h3, q⟩ := h
   refine ⟨_, (pss_one (ps_ret (pe_and (pe_callB (call_isi2 (K := K) rfl) rfl T.z_isinstance b_isinstance (pa_cons (pv 0) (pa_cons (pe_tup (pa_cons (pe_bltn (v := .ty "list") rfl T.z_list b_list rfl) (pa_cons (pe_bltn (v := .ty "tuple") rfl T.z_tuple b_tuple rfl) pa_nil))) pa_nil))) (pe_one (pe_callB (call_allK (K := K) rfl rfl) rfl T.z_all b_all (pa_cons (pe_comp (own := ["thing"]) (fr := []) rfl ⟨rfl, (by walk_at "clok"), (by walk_at "frok"), rfl, (by decide +kernel), (by decide +kernel), rfl⟩ (pi_seqK (K := K) rfl (pv 0)) (fun _ _ _ _ => (pg_name (i := 0) (show List.Nodup [("thing" : Str)] from by decide +kernel) rfl (Or.inl rfl))) (fun _ _ _ _ => pts_nil) (fun _ _ _ _ => (pe_callE (ok_is_name (K := K) T) (hr.mono (by decide)) pass0 rfl (pa_cons (pv 0) pa_nil)))) pa_nil)))))), ?_⟩
   refine r_st (σ' := [some _]) rfl ?_
   walk_at "rd"
   rename_i t nt
   cases l with
   | true =>
     have hq : H q' = some (.lst (ns.map V.int)) := hq
     refine r_isi2 (SqT.of upd_same) (.inl ⟨_, look_new hq nt⟩) T.k_list_list T.k_tuple_list T.k_tuple_tuple ?_
     have hq1 := look_new (o := .tup [.ty "list", .ty "tuple"]) hq nt
     walk_at "rd"
     refine comp_mapL (α := Int) (xs := ns) (emb := V.int) (fun _ => .bl true) (fun σ => ∃ v, σ = [v]) (SqL.of hq1) (by walk_at "small") ⟨_, rfl⟩ ?_ ?_
     · rintro i x ys σ H1 hx cc s1 ⟨v, rfl⟩
       walk_at "rd"
       refine ⟨x, rfl, hn x (List.mem_of_getElem? hx), ?_⟩
       exact cc.next hx rfl s1 ⟨_, rfl⟩
     intro H1 s1 l2 nl2
     have s2 := (same_new (o := .tup [.ty "list", .ty "tuple"]) nt).trans (s1.trans (same_new (o := .lst (ns.map fun _ => V.bl true)) nl2))
     walk_at "rd"
     refine r_all (bs := ns.map fun _ => true) (by rw [List.map_map]; exact SqL.of upd_same) ?_
     rw [show (ns.map fun _ => true).all id = true from by rw [List.all_map]; exact List.all_eq_true.mpr fun _ _ => rfl]
     exact q _ s2
   | false =>
     have hq : H q' = some (.tup (ns.map V.int)) := hq
     refine r_isi2 (SqT.of upd_same) (.inr ⟨_, look_new hq nt⟩) T.k_list_list T.k_tuple_list T.k_tuple_tuple ?_
     have hq1 := look_new (o := .tup [.ty "list", .ty "tuple"]) hq nt
     walk_at "rd"
     refine comp_mapT (α := Int) (xs := ns) (emb := V.int) (fun _ => .bl true) (fun σ => ∃ v, σ = [v]) (SqT.of hq1) (by walk_at "small") ⟨_, rfl⟩ ?_ ?_
     · rintro i x ys σ H1 hx cc s1 ⟨v, rfl⟩
       walk_at "rd"
       refine ⟨x, rfl, hn x (List.mem_of_getElem? hx), ?_⟩
       exact cc.next hx rfl s1 ⟨_, rfl⟩
     intro H1 s1 l2 nl2
     have s2 := (same_new (o := .tup [.ty "list", .ty "tuple"]) nt).trans (s1.trans (same_new (o := .lst (ns.map fun _ => V.bl true)) nl2))
     walk_at "rd"
     refine r_all (bs := ns.map fun _ => true) (by rw [List.map_map]; exact SqL.of upd_same) ?_
     rw [show (ns.map fun _ => true).all id = true from by rw [List.all_map]; exact List.all_eq_true.mpr fun _ _ => rfl]
     exact q _ s2
theorem ok_is_part (T : Txt w K mg a) : FnE P w K mg base CX0 5 "is_part" spPart := by
 refine fnE_of (sp := spPart) 4 T.fn_is_part sc_is_part (fun vs H Q E h => ?_) (fun f cdv A outer s H vs Q E hr h => ?_)
 · obtain ⟨v, n, k, rfl, _⟩ := h
   rfl
 · obtain ⟨v, n, k, rfl, h, q⟩ := h
   refine ⟨_, (pss_cons (ps_if (pt_cmpR (op_eqK (K := K) rfl hr.units) (pv 1) pe_str (nomark _)) (pss_one (ps_ret (pe_callE (ok_is_name (K := K) T) (hr.mono (by decide)) pass0 rfl (pa_cons (pv 0) pa_nil)))) pss_nil)
     (pss_cons (ps_if (pt_cmpR (op_eqK (K := K) rfl hr.units) (pv 1) pe_str (nomark _)) (pss_one (ps_ret (pe_callE (ok_is_up_to (K := K) T) (hr.mono (by decide)) pass0 rfl (pa_cons (pv 0) (pa_cons (pe_glob (v := .int 4294967295) rfl T.g_TOP_VALUE.choose_spec ⟨_, rfl⟩) pa_nil))))) pss_nil)
     (pss_cons (ps_if (pt_cmpR (op_eqK (K := K) rfl hr.units) (pv 1) pe_str (nomark _)) (pss_one (ps_ret (pe_callE (ok_is_up_to (K := K) T) (hr.mono (by decide)) pass0 rfl (pa_cons (pv 0) (pa_cons (pe_op op_sub (pv 2) pe_int) pa_nil))))) pss_nil)
     (pss_cons (ps_if (pt_cmpR (op_eqK (K := K) rfl hr.units) (pv 1) pe_str (nomark _)) (pss_one (ps_ret (pe_callE (ok_are_names (K := K) T) (hr.mono (by decide)) pass0 rfl (pa_cons (pv 0) pa_nil)))) pss_nil)
     (pss_one (ps_ret (pe_callB (call_isiK (K := K) rfl) rfl T.z_isinstance b_isinstance (pa_cons (pv 0) (pa_cons (pe_bltn (v := .ty "list") rfl T.z_list b_list rfl) pa_nil))))))))), ?_⟩
   refine r_st (σ' := [some _, some _, some _]) rfl ?_
   rcases h with ⟨rfl, i, rfl, hn⟩ | ⟨rfl, i, rfl, hv⟩ | ⟨rfl, i, rfl, h0, h1⟩ | ⟨rfl, q', ns, l, rfl, hq, hn, h3⟩ | ⟨rfl, q', us, rfl, hq⟩
   · walk_at "rd"
     refine ⟨_, rfl, hn, ?_⟩
     walk_at "rd"
     exact q _ (Same.refl _)
   · walk_at "rd"
     refine ⟨_, _, rfl, hv.1, hv.2, ?_⟩
     walk_at "rd"
     exact q _ (Same.refl _)
   · walk_at "rd"
     refine ⟨_, _, rfl, h0, h1, ?_⟩
     walk_at "rd"
     exact q _ (Same.refl _)
   · walk_at "rd"
     refine ⟨q', ns, l, rfl, hq, hn, h3, fun H1 s1 => ?_⟩
     walk_at "rd"
     exact q _ s1
   · walk_at "rd"
     exact q _ (Same.refl _)
theorem ok_is_statement (T : Txt w K mg a) : FnE P w K mg base CX0 6 "is_statement" spStm := by
 refine fnE_of (sp := spStm) 5 T.fn_is_statement sc_is_statement (fun vs H Q E h => ?_) (fun f cdv A outer s H vs Q E hr h => ?_)
 · obtain ⟨p, h, d, s, hd, rfl, _⟩ := h
   rfl
 · obtain ⟨p, h, d, s, hd, rfl, hst, hok, hh, h3, h8, q⟩ := h
   cases d with
   | zero => exact hst.elim
   | succ d =>
   obtain ⟨w', xs, ls, bs, F⟩ := hst.info h3 hok
   obtain ⟨kvs, C, hkv⟩ := parts_of T
   obtain ⟨qk, hqk, tk⟩ := hkv _ _ F.kd
   have hp := F.hp
   have fw := F.few
   have hat0 := at_head (.str w') (xs.map (·.1))
   have hln : (V.str w' :: xs.map (·.1)).length = xs.length + 1 := by rw [List.length_cons, List.length_map]
   refine ⟨_, (pss_cons (ps_if (PW.pt (pw_or (pt_not (pt_truK (K := K) rfl (pe_callB (call_isiK (K := K) rfl) rfl T.z_isinstance b_isinstance (pa_cons (pv 0) (pa_cons (pe_bltn (v := .ty "tuple") rfl T.z_tuple b_tuple rfl) pa_nil))))) (pw_or (pt_cmpR (op_eqK (K := K) rfl hr.units) (pe_callB (call_lenK (K := K) rfl) rfl T.z_len b_len (pa_cons (pv 0) pa_nil)) pe_int (nomark _)) (pw_or1 (pt_not (pt_truK (K := K) rfl (pe_callB (call_isiK (K := K) rfl) rfl T.z_isinstance b_isinstance (pa_cons (pe_ix (ix_K (K := K) rfl) (pv 0) pe_int (fun _ _ => rfl)) (pa_cons (pe_bltn (v := .ty "str") rfl T.z_str b_str rfl) pa_nil))))))))) (pss_one ps_dead) pss_nil)
     (pss_cons (ps_set (i := 2) sc_is_statement.nd rfl (Or.inl rfl) (pe_rget1 (w := w) (K := K) rfl rfl (pe_glob (v := .ref a.G_PARTS) rfl T.s_PARTS rfl) (pe_ix (ix_K (K := K) rfl) (pv 0) pe_int (fun _ _ => rfl)) ⟨rfl, rfl, rfl, rfl⟩))
     (pss_cons (ps_if (PW.pt (pw_or (pt_cmpR op_isNA (pv 2) pe_non (nomark _)) (pw_or1 (pt_cmpR (op_neK (K := K) rfl hr.units) (pe_callB (call_lenK (K := K) rfl) rfl T.z_len b_len (pa_cons (pv 0) pa_nil)) (pe_op (op_plusK (K := K) rfl) pe_int (pe_callB (call_lenK (K := K) rfl) rfl T.z_len b_len (pa_cons (pv 2) pa_nil))) (nomark _))))) (pss_one ps_dead) pss_nil)
     (pss_cons (ps_if (pt_not (pt_truK (K := K) rfl (pe_callB (call_allK (K := K) rfl rfl) rfl T.z_all b_all (pa_cons (pe_comp (own := ["part", "kind"]) (fr := [("handed", 1)]) rfl ⟨rfl, (by walk_at "clok"), (by walk_at "frok"), rfl, (by decide +kernel), (by decide +kernel), rfl⟩ (pi_zip2 (K := K) rfl rfl T.z_zip (pa_cons (pe_slice (sl_K (K := K) rfl) (pv 0) (po_some pe_int) po_none) (pa_cons (pv 2) pa_nil))) (fun _ _ _ _ => (pg_tupK (K := K) (n := 2) rfl rfl (pgs_cons (pg_name (i := 0) (show List.Nodup [("part" : Str), ("kind" : Str), ("handed" : Str)] from by decide +kernel) rfl (Or.inl rfl)) (pgs_cons (pg_name (i := 1) (show List.Nodup [("part" : Str), ("kind" : Str), ("handed" : Str)] from by decide +kernel) rfl (Or.inl rfl)) pgs_nil)))) (fun _ _ _ _ => pts_nil) (fun _ _ _ _ => (pe_callE (ok_is_part (K := K) T) (hr.mono (by decide)) pass0 rfl (pa_cons (pv 0) (pa_cons (pv 1) (pa_cons (pe_callB (call_lenK (K := K) rfl) rfl T.z_len b_len (pa_cons (pv 2) pa_nil)) pa_nil)))))) pa_nil)))) (pss_one ps_dead) pss_nil)
     (pss_cons (ps_if (PW.pt (pw_or (pt_cmpR (op_eqK (K := K) rfl hr.units) (pe_ix (ix_K (K := K) rfl) (pv 0) pe_int (fun _ _ => rfl)) pe_str (nomark _)) (pw_or1 (pt_cmpR (op_eqK (K := K) rfl hr.units) (pe_ix (ix_K (K := K) rfl) (pv 0) pe_int (fun _ _ => rfl)) pe_str (nomark _))))) (pss_one (ps_ret (pe_cmpR (op_eqK (K := K) rfl hr.units) (pe_callB (call_lenK (K := K) rfl) rfl T.z_len b_len (pa_cons (pe_ix (ix_K (K := K) rfl) (pv 0) (pe_un un_neg pe_int) (fun _ _ => rfl)) pa_nil)) (pe_ix (ix_K (K := K) rfl) (pv 1) (pe_ix (ix_K (K := K) rfl) (pv 0) (pe_un un_neg pe_int) (fun _ _ => rfl)) (fun _ _ => rfl)) (nomark _)))) pss_nil)
     (pss_one (ps_ret pe_bl))))))), ?_⟩
   refine r_st (σ' := [some _, some _, none]) rfl ?_
   walk_at "rd"
   refine ⟨_, _, rfl, C, ?_⟩
   walk_at "rd"
   refine ⟨_, .ref qk, rfl, hqk, ?_⟩
   walk_at "rd"
   refine r_lenT (tk _) ?_
   rw [List.length_map, List.length_map]
   walk_at "rd"
   refine r_slT (SqT.of hp) (cut_tail_neV _ _) fun ls' nls => ?_
   rw [cut_tailV]
   walk_at "rd"
   refine ⟨ls', qk, _, _, rfl, SqT.of upd_same, tk _, ?_⟩
   have e2 : ∀ H, SqT K H qk (xs.map fun p => .str p.2) := fun H => by have := tk H; rw [List.map_map] at this; exact this
   refine comp_mapZ (α := V × Str) (xs := xs) (e1 := fun p => p.1) (e2 := fun p => .str p.2) (fun _ => .bl true) (fun σ => ∃ u v, σ = [u, v, some (.ref h)]) (SqT.of upd_same) (e2 _) (by walk_at "small") ⟨_, _, rfl⟩ ?_ ?_
   · rintro i ⟨zz, k⟩ ys σ H1 T' hx cc s1 ⟨u, v', rfl⟩ nT
     have hpk := F.ok _ (List.mem_of_getElem? hx)
     have s01 := (same_new (o := .tup (xs.map (·.1))) nls).trans (s1.trans (same_new (o := .tup [zz, .str k]) nT))
     have s11 := s1.trans (same_new (o := .tup [zz, .str k]) nT)
     have hh1 := s01 _ _ hh
     refine r_gTup (SqT.of upd_same) rfl ?_
     show gCons _ _ [zz, .str k] _ _ _
     generalize (upd H1 T' (.tup [zz, .str k])) = H2 at s01 s11 hh1 ⊢
     have hpk2 := hpk.same s01
     clear s01 nT s1
     walk_at "rd"
     refine ⟨zz, _, k, rfl, hpk2, fun H3 s3 => ?_⟩
     exact cc.next hx rfl (s11.trans s3) ⟨_, _, rfl⟩
   intro H1 s1 l2 nl2
   have s2 : Same H (upd H1 l2 (.lst (xs.map fun _ => V.bl true))) := (same_new nls).trans (s1.trans (same_new nl2))
   walk_at "rd"
   refine r_all (bs := xs.map fun _ => true) (by rw [List.map_map]; exact SqL.of upd_same) ?_
   rw [show (xs.map fun _ => true).all id = true from by rw [List.all_map]; exact List.all_eq_true.mpr fun _ _ => rfl]
   generalize (upd H1 l2 (.lst (xs.map fun _ => V.bl true))) = H2 at s2 ⊢
   clear nls nl2 s1
   have hp2 := s2 _ _ hp
   have hh2 := s2 _ _ hh
   rcases F.cl with ⟨hw, pre, f', q', ns, l, ex, hq', f0, hf⟩ | ⟨n1, n2⟩
   · rw [ex] at hp2
     have hat1 : atI (V.str w' :: (pre ++ [.int f', .ref q'])) (-1) = some (.ref q') := at_last1
     have hat2 : atI (V.str w' :: (pre ++ [.int f', .ref q'])) (-2) = some (.int f') := at_last2
     have hat0 := at_head (.str w') (pre ++ [.int f', .ref q'])
     have hq2 := s2 _ _ hq'
     have hfl : f'.toNat < hd.length := (List.getElem?_eq_some_iff.mp hf).1
     have hat3 : atI (hd.map V.int) f' = some (.int (ns.length : Int)) := by
       rw [show f' = ((f'.toNat : Nat) : Int) by omega]
       exact atI_nat (by rw [List.getElem?_map, hf]; rfl)
     rcases hw with rfl | rfl
     · cases l with
       | true =>
         have hq2 : H2 q' = some (.lst (ns.map V.int)) := hq2
         walk_at "rd"
         rw [decide_eq_true (by first | rfl | (rw [List.length_map]))]
         exact q _ s2
       | false =>
         have hq2 : H2 q' = some (.tup (ns.map V.int)) := hq2
         walk_at "rd"
         rw [decide_eq_true (by first | rfl | (rw [List.length_map]))]
         exact q _ s2
     · cases l with
       | true =>
         have hq2 : H2 q' = some (.lst (ns.map V.int)) := hq2
         walk_at "rd"
         rw [decide_eq_true (by first | rfl | (rw [List.length_map]))]
         exact q _ s2
       | false =>
         have hq2 : H2 q' = some (.tup (ns.map V.int)) := hq2
         walk_at "rd"
         rw [decide_eq_true (by first | rfl | (rw [List.length_map]))]
         exact q _ s2
   · have d1 : decide (V.str w' = V.str "call") = false := decide_eq_false fun z => n1 (V.str.inj z)
     have d2 : decide (V.str w' = V.str "hand") = false := decide_eq_false fun z => n2 (V.str.inj z)
     walk_at "rd"
     rw [d1]
     walk_at "rd"
     rw [d2]
     walk_at "rd"
     exact q _ s2
theorem ok_are_statements (T : Txt w K mg a) : FnE P w K mg base CX0 7 "are_statements" spAreS := by
 refine fnE_of (sp := spAreS) 6 T.fn_are_statements sc_are_statements (fun vs H Q E h => ?_) (fun f cdv A outer s H vs Q E hr h => ?_)
 · obtain ⟨b, h, ls, bs, hd, rfl, _⟩ := h
   rfl
 · obtain ⟨b, h, ls, bs, hd, rfl, hb, hls, h8, h80, hh, hd3, hd8, q⟩ := h
   have hll := hls.1
   refine ⟨_, (pss_cons (ps_setC (i := 2) sc_are_statements.nd rfl rfl (own := ["body"]) (fr := []) rfl ⟨rfl, (by walk_at "clok"), (by walk_at "frok"), rfl, (by decide +kernel), (by decide +kernel), rfl⟩ (pi_seqK (K := K) rfl (pv 0)) (fun _ _ _ _ => (pg_name (i := 0) (show List.Nodup [("body" : Str)] from by decide +kernel) rfl (Or.inl rfl))) (fun _ _ _ _ => pts_nil) (fun _ _ _ _ => (pe_tup (pa_cons (pv 0) (pa_cons pe_int pa_nil)))))
     (pss_cons (ps_set (i := 3) sc_are_statements.nd rfl (Or.inl rfl) pe_int)
     (pss_cons (ps_while PassesOwn.never (pt_cmpR op_gt (pe_callB (call_lenK (K := K) rfl) rfl T.z_len b_len (pa_cons (pv 2) pa_nil)) pe_int (nomark _)) (pss_cons (ps_set (i := 4) sc_are_statements.nd rfl (Or.inr rfl) (pe_bm0K (K := K) rfl PySem.F.plainAttrs_list PySem.F.slot_list_pop PySem.F.type_list_pop mt_pop (pv 2)))
     (pss_cons (ps_set (i := 3) sc_are_statements.nd rfl (Or.inl rfl) (pe_op (op_plusK (K := K) rfl) (pv 3) (pe_callB (call_lenK (K := K) rfl) rfl T.z_len b_len (pa_cons (pe_ix (ix_K (K := K) rfl) (pv 4) pe_int (fun _ _ => rfl)) pa_nil))))
     (pss_cons (ps_if (PW.pt (pw_or (pt_cmpR op_gt (pv 3) (pe_glob (v := .int 80) rfl T.g_TOP_STATEMENTS.choose_spec ⟨_, rfl⟩) (nomark _)) (pw_or1 (pt_not (pt_truK (K := K) rfl (pe_callB (call_allK (K := K) rfl rfl) rfl T.z_all b_all (pa_cons (pe_comp (own := ["statement"]) (fr := [("handed", 1)]) rfl ⟨rfl, (by walk_at "clok"), (by walk_at "frok"), rfl, (by decide +kernel), (by decide +kernel), rfl⟩ (pi_seqK (K := K) rfl (pe_ix (ix_K (K := K) rfl) (pv 4) pe_int (fun _ _ => rfl))) (fun _ _ _ _ => (pg_name (i := 0) (show List.Nodup [("statement" : Str), ("handed" : Str)] from by decide +kernel) rfl (Or.inl rfl))) (fun _ _ _ _ => pts_nil) (fun _ _ _ _ => (pe_callE (ok_is_statement (K := K) T) (hr.mono (by decide)) pass0 rfl (pa_cons (pv 0) (pa_cons (pv 1) pa_nil))))) pa_nil))))))) (pss_one ps_dead) pss_nil)
     (pss_one (ps_for PassesOwn.never rfl (pi_seqK (K := K) rfl (pe_ix (ix_K (K := K) rfl) (pv 4) pe_int (fun _ _ => rfl))) (pg_name (i := 5) sc_are_statements.nd rfl (Or.inl rfl)) (pss_cons (ps_set (i := 6) sc_are_statements.nd rfl (Or.inl rfl) (pe_callE (ok_lists_within (K := K) T) (hr.mono (by decide)) pass0 rfl (pa_cons (pv 5) pa_nil)))
     (pss_cons (ps_if (PW.pt (pw_and (pt_cmpR op_gt (pe_callB (call_lenK (K := K) rfl) rfl T.z_len b_len (pa_cons (pv 6) pa_nil)) pe_int (nomark _)) (pw_and1 (pt_cmpR (op_eqK (K := K) rfl hr.units) (pe_ix (ix_K (K := K) rfl) (pv 4) pe_int (fun _ _ => rfl)) (pe_glob (v := .int 4) rfl T.g_TOP_WITHIN.choose_spec ⟨_, rfl⟩) (nomark _))))) (pss_one ps_dead) pss_nil)
     (pss_one (ps_expr (pe_bmK (K := K) rfl PySem.F.plainAttrs_list PySem.F.slot_list_extend PySem.F.type_list_extend mt_extend (pv 2) (pa_cons (pe_comp (own := ["statements"]) (fr := [("found", 4)]) rfl ⟨rfl, (by walk_at "clok"), (by walk_at "frok"), rfl, (by decide +kernel), (by decide +kernel), rfl⟩ (pi_seqK (K := K) rfl (pv 6)) (fun _ _ _ _ => (pg_name (i := 0) (show List.Nodup [("statements" : Str), ("found" : Str)] from by decide +kernel) rfl (Or.inl rfl))) (fun _ _ _ _ => pts_nil) (fun _ _ _ _ => (pe_tup (pa_cons (pv 0) (pa_cons (pe_op (op_plusK (K := K) rfl) (pe_ix (ix_K (K := K) rfl) (pv 1) pe_int (fun _ _ => rfl)) pe_int) pa_nil))))) pa_nil))))))))))))
     (pss_one (ps_ret pe_bl))))), ?_⟩
   refine r_st (σ' := [some _, some _, none, none, none, none, none]) rfl ?_
   walk_at "rd"
   refine comp_list (xs := ls.map V.ref) (fun i ys σ H1 => (∃ v, σ = [v]) ∧ Same H H1 ∧ ∃ ts : List Addr, ys = ts.map V.ref ∧ WaitAt H H1 hd ts ((bs.take i).map fun b => (0, b))) ⟨⟨_, rfl⟩, Same.refl _, [], rfl, by rw [List.take_zero]; exact Each.nil⟩ ?_ ?_ ?_
   · rintro i ys σ H1 hi ⟨_, s1, ts, rfl, hw⟩
     refine ⟨SqL.of (s1 _ _ hb), ?_⟩
     rw [List.length_map, hw.1, List.length_map, List.length_take]
     walk_at "small"
   · rintro i v ys σ H1 hv ⟨⟨u, rfl⟩, s1, ts, rfl, hw⟩
     obtain ⟨l, hx, rfl⟩ : ∃ p, ls[i]? = some p ∧ v = .ref p := by
       rw [List.getElem?_map] at hv
       obtain ⟨p, hp, e⟩ := Option.map_eq_some_iff.mp hv
       exact ⟨p, hp, e.symm⟩
     have hi : i < bs.length := by rw [← hll]; exact (List.getElem?_eq_some_iff.mp hx).1
     have hbi : bs[i]? = some bs[i] := List.getElem?_eq_getElem hi
     obtain ⟨g1, g2⟩ := hls.2 i l _ hx hbi
     walk_at "rd"
     rename_i t nt
     refine ⟨⟨_, rfl⟩, s1.trans (same_new nt), ts ++ [t], by rw [List.map_append]; rfl, ?_⟩
     rw [List.take_add_one, hbi, Option.toList_some, List.map_append]
     exact Each.snoc (hw.same (same_new nt)) ⟨l, upd_same, Nat.zero_le _, g1, g2⟩
   rintro ys σ H1 ⟨_, s1, ts, rfl, hw⟩ lw nlw
   rw [List.length_map, hll, List.take_length] at hw
   have nlwH : H lw = none := none_same s1 nlw
   have hm0 := mesW_in 0 bs
   have ht0 := totW_in 0 bs
   have hw1 := hw.same (same_new (o := .lst (ts.map V.ref)) nlw)
   have s2 := s1.trans (same_new (o := .lst (ts.map V.ref)) nlw)
   have hlw1 : (upd H1 lw (.lst (ts.map V.ref))) lw = some (.lst (ts.map V.ref)) := upd_same
   generalize (upd H1 lw (.lst (ts.map V.ref))) = H2 at hw1 s2 hlw1 ⊢
   clear hw nlw s1
   walk_at "rd"
   refine ⟨fun j σ H3 => Same H H3 ∧ ∃ (ts : List Addr) (ws : List (Nat × List Stm)) (many : Nat) (u v x : Option V), σ = [some (.ref b), some (.ref h), some (.ref lw), some (.int (many : Int)), u, v, x] ∧ H3 lw = some (.lst (ts.map V.ref)) ∧ WaitAt H H3 hd ts ws ∧ many + totW ws ≤ 80 ∧ j = mesW ws ∧ j ≤ 168, ⟨mesW (bs.map fun b => (0, b)), s2, ts, _, 0, _, _, _, rfl, hlw1, hw1, by rw [ht0]; show 0 + (bs.map (cntL 5)).sum ≤ 80; omega, rfl, by rw [hm0]; show bs.length + 2 * (bs.map (cntL 5)).sum ≤ 168; omega⟩, ?_⟩
   clear hw1 hlw1 s2 hm0 ht0
   rintro j σ H3 ⟨s3, ts, ws, many, u, v, x, rfl, hlw, hw, htot, rfl, hj⟩
   have hwl := hw.1
   have hml := mesW_len ws
   by_cases hz : 0 < ws.length
   · obtain ⟨ts', t, ws', ⟨k, ss⟩, rfl, rfl, hw', l, ht, hk4, ⟨ps, hl, hps⟩, hokk⟩ := hw.last hz
     have hpl : ps.length = ss.length := hps.1
     have hk4 : k ≤ 4 := hk4
     have hokk : ∀ s ∈ ss, OkS hd (5 - k) s := hokk
     have hps : Each (StAt H (5 - k)) ps ss := hps
     have ht : H3 t = some (.tup [.ref l, .int (k : Int)]) := ht
     rw [totW_app] at htot
     have etot : totW [(k, ss)] = cntL (5 - k) ss := by unfold totW; simp
     have emes : mesW (ws' ++ [(k, ss)]) = mesW ws' + (1 + 2 * cntL (5 - k) ss) := by rw [mesW_app]; unfold mesW; simp
     have hcl := cntL_len (5 - k) ss
     rw [etot] at htot
     walk_at "rd"
     refine ⟨_, fun σ' H' h => h, ?_⟩
     walk_at "rd"
     refine r_pop (xs := ts'.map V.ref) (by rw [hlw, List.map_append]; rfl) ?_
     have s4 : Same H (upd H3 lw (.lst (ts'.map V.ref))) := fun b o e => by rw [upd_ne (ne_of_none e nlwH)]; exact s3 b o e
     have hlw4 : (upd H3 lw (.lst (ts'.map V.ref))) lw = some (.lst (ts'.map V.ref)) := upd_same
     have ht4 : (upd H3 lw (.lst (ts'.map V.ref))) t = some (.tup [.ref l, .int (k : Int)]) := tup_upd hlw _ _ ht
     have hw4 := WaitAt.to (tup_upd (o := .lst (ts'.map V.ref)) hlw) (show WaitAt H H3 hd ts' ws' from hw')
     generalize (upd H3 lw (.lst (ts'.map V.ref))) = H4 at s4 hlw4 ht4 hw4 ⊢
     clear s3 hlw ht hw' hw
     have hl4 := s4 _ _ hl
     have hh4 := s4 _ _ hh
     walk_at "rd"
     refine comp_mapL (α := Addr) (xs := ps) (emb := V.ref) (fun _ => .bl true) (fun σ => ∃ v, σ = [v, some (.ref h)]) (SqL.of hl4) (by walk_at "small") ⟨_, rfl⟩ ?_ ?_
     · rintro i p ys σ H5 hx cc s5 ⟨v, rfl⟩
       have hi : i < ss.length := by rw [← hpl]; exact (List.getElem?_eq_some_iff.mp hx).1
       have hsi : ss[i]? = some ss[i] := List.getElem?_eq_getElem hi
       walk_at "rd"
       refine ⟨p, h, 5 - k, ss[i], hd, rfl, StAt.same (s4.trans s5) (hps.2 i p _ hx hsi), hokk _ (List.mem_of_getElem? hsi), s5 _ _ hh4, hd3, hd8, fun H6 s6 => ?_⟩
       exact cc.next hx rfl (s5.trans s6) ⟨_, rfl⟩
     intro H5 s5 lb nlb
     have s6 := s5.trans (same_new (o := .lst (ps.map fun _ => V.bl true)) nlb)
     walk_at "rd"
     refine r_all (bs := ps.map fun _ => true) (by rw [List.map_map]; exact SqL.of upd_same) ?_
     generalize (upd H5 lb (.lst (ps.map fun _ => V.bl true))) = H6 at s6 ⊢
     rw [show (ps.map fun _ => true).all id = true from by rw [List.all_map]; exact List.all_eq_true.mpr fun _ _ => rfl]
     have hlw6 := s6 _ _ hlw4
     have ht6 := s6 _ _ ht4
     have hw6 := hw4.same s6
     have s06 := s4.trans s6
     clear s5 nlb s6 ht4 hlw4 hl4 hh4 s4 hw4
     have hl6 := s06 _ _ hl
     walk_at "rd"
     refine for_list (K := K) (a := l) (xs := ps.map V.ref) (fun i σ H7 => (∃ x y, σ = [some (.ref b), some (.ref h), some (.ref lw), some (.int ((many : Int) + (ps.map V.ref).length)), some (.ref t), x, y]) ∧ Same H H7 ∧ H7 t = some (.tup [.ref l, .int (k : Int)]) ∧ ∃ (tn : List Addr) (wn : List (Nat × List Stm)), H7 lw = some (.lst ((ts' ++ tn).map V.ref)) ∧ WaitAt H H7 hd (ts' ++ tn) (ws' ++ wn) ∧ totW wn + i = cntL (5 - k) (ss.take i) ∧ mesW wn ≤ 2 * cntL (5 - k) (ss.take i)) ⟨⟨_, _, rfl⟩, s06, ht6, [], [], by rw [List.append_nil]; exact hlw6, by rw [List.append_nil, List.append_nil]; exact hw6, rfl, Nat.le_refl _⟩ (fun i σ H7 _ ⟨_, s7, _⟩ => SqL.of (s7 _ _ hl)) ?_ ?_
     · clear s06 hlw6 ht6 hl6 hw6
       rintro i v σ H7 hv ⟨⟨x, y, rfl⟩, s7, ht7, tn, wn, hlw7, hw7, e1, e2⟩
       obtain ⟨p, hx, rfl⟩ : ∃ p, ps[i]? = some p ∧ v = .ref p := by
         rw [List.getElem?_map] at hv
         obtain ⟨p, hp, e⟩ := Option.map_eq_some_iff.mp hv
         exact ⟨p, hp, e.symm⟩
       have hi : i < ss.length := by rw [← hpl]; exact (List.getElem?_eq_some_iff.mp hx).1
       have hsi : ss[i]? = some ss[i] := List.getElem?_eq_getElem hi
       have hst := hps.2 i p _ hx hsi
       have hok := hokk _ (List.mem_of_getElem? hsi)
       have ecnt : cntL (5 - k) (ss.take (i + 1)) = cntL (5 - k) (ss.take i) + cnt1 (5 - k) ss[i] := by
         rw [List.take_add_one, hsi, Option.toList_some]; unfold cntL; rw [List.map_append, List.sum_append]; simp
       have hle : cntL (5 - k) (ss.take i) ≤ cntL (5 - k) ss := cntL_take _ _ _
       generalize ss[i] = sm at hsi hst hok ecnt
       obtain ⟨d, hd'⟩ : ∃ d, 5 - k = d + 1 := ⟨4 - k, by omega⟩
       rw [hd'] at hst hok
       obtain ⟨w', xs, ls', bs', F⟩ := hst.info hd3 hok
       have hcn : cnt1 (5 - k) sm = 1 + (bs'.map (cntL d)).sum := by rw [hd']; exact F.cnt
       have hbl := F.inn.1
       have h2 := F.two
       have hmw := mesW_len wn
       have hmw' := mesW_len ws'
       walk_at "rd"
       refine ⟨p, w', xs, ls', rfl, s7 _ _ F.hp, F.kd, F.few, F.fil, fun li H8 s8 hli nli => ?_⟩
       have hlw8 := s8 _ _ hlw7
       have ht8 := s8 _ _ ht7
       have hw8 := hw7.same s8
       have s08 := s7.trans s8
       clear s7 s8 hlw7 ht7 hw7 nli
       walk_at "rd"
       refine ifDec (fun hh1 => ?_) (fun hh1 => ?_)
       · have hk3 : (k : Int) ≠ 4 := by
           have hd0 : 0 < d := F.dep (fun z => by rw [List.length_map, hbl, z] at hh1; cases hh1)
           omega
         clear hh1
         walk_at "rd"
         refine comp_list (xs := ls'.map V.ref) (fun i ys σ H9 => (∃ v, σ = [v, some (.ref t)]) ∧ Same H8 H9 ∧ ∃ ts2 : List Addr, ys = ts2.map V.ref ∧ WaitAt H H9 hd ts2 ((bs'.take i).map fun b => (k + 1, b))) ⟨⟨_, rfl⟩, Same.refl _, [], rfl, by rw [List.take_zero]; exact Each.nil⟩ ?_ ?_ ?_
         · rintro i2 ys σ H9 hi ⟨_, s9, ts2, rfl, hw9⟩
           refine ⟨SqL.of (s9 _ _ hli), ?_⟩
           rw [List.length_map, hw9.1, List.length_map, List.length_take]
           walk_at "small"
         · rintro i2 v ys σ H9 hv ⟨⟨u, rfl⟩, s9, ts2, rfl, hw9⟩
           obtain ⟨l2, hx2, rfl⟩ : ∃ p, ls'[i2]? = some p ∧ v = .ref p := by
             rw [List.getElem?_map] at hv
             obtain ⟨p, hp, e⟩ := Option.map_eq_some_iff.mp hv
             exact ⟨p, hp, e.symm⟩
           have hi2 : i2 < bs'.length := by rw [← hbl]; exact (List.getElem?_eq_some_iff.mp hx2).1
           have hbi : bs'[i2]? = some bs'[i2] := List.getElem?_eq_getElem hi2
           obtain ⟨g1, g2⟩ := F.inn.2 i2 l2 _ hx2 hbi
           have hd0 : 0 < d := F.dep (fun z => by rw [z] at hi2; cases hi2)
           have ht9 := s9 _ _ ht8
           walk_at "rd"
           rename_i t2 nt2
           refine ⟨⟨_, rfl⟩, s9.trans (same_new nt2), ts2 ++ [t2], by rw [List.map_append]; rfl, ?_⟩
           rw [List.take_add_one, hbi, Option.toList_some, List.map_append]
           exact Each.snoc (hw9.same (same_new nt2)) ⟨l2, upd_same, show k + 1 ≤ 4 by omega, (show 5 - (k + 1) = d by omega) ▸ g1, (show 5 - (k + 1) = d by omega) ▸ g2⟩
         rintro ys σ H9 ⟨_, s9, ts2, rfl, hw9⟩ l9 nl9
         rw [List.length_map, hbl, List.take_length] at hw9
         have hlw9 := s9 _ _ hlw8
         have ht9 := s9 _ _ ht8
         have hw79 := (hw8.same s9).same (same_new (o := .lst (ts2.map V.ref)) nl9)
         have hwa := Each.app hw79 (hw9.same (same_new (o := .lst (ts2.map V.ref)) nl9))
         have hl2 := hw9.1
         rw [List.length_map] at hl2
         have s99 := (s08.trans s9).trans (same_new (o := .lst (ts2.map V.ref)) nl9)
         have hlen := hw8.1
         walk_at "rd"
         refine r_extend (look_new hlw9 nl9) upd_same (by rw [List.length_map, List.length_map, hlen, hl2]; rw [List.length_append]; show _ ≤ sizeLine; rw [sizeLine_eq]; omega) ?_
         refine ⟨⟨_, _, rfl⟩, fun b o e => by rw [upd_ne (ne_of_none e nlwH)]; exact s99 b o e, tup_upd (look_new hlw9 nl9) _ _ (look_new ht9 nl9), tn ++ ts2, wn ++ bs'.map (fun b => (k + 1, b)), by rw [upd_same, ← List.append_assoc, List.map_append (l₂ := ts2)], ?_, ?_, ?_⟩
         · rw [← List.append_assoc, ← List.append_assoc]
           exact WaitAt.to (tup_upd (look_new hlw9 nl9)) hwa
         · rw [totW_app, totW_in, ecnt, ← e1, hcn]; rw [show 5 - (k + 1) = d by omega]; omega
         · rw [mesW_app, mesW_in, ecnt, hcn]; rw [show 5 - (k + 1) = d by omega]; have := F.two; omega
       · clear hh1
         walk_at "rd"
         refine comp_list (xs := ls'.map V.ref) (fun i ys σ H9 => (∃ v, σ = [v, some (.ref t)]) ∧ Same H8 H9 ∧ ∃ ts2 : List Addr, ys = ts2.map V.ref ∧ WaitAt H H9 hd ts2 ((bs'.take i).map fun b => (k + 1, b))) ⟨⟨_, rfl⟩, Same.refl _, [], rfl, by rw [List.take_zero]; exact Each.nil⟩ ?_ ?_ ?_
         · rintro i2 ys σ H9 hi ⟨_, s9, ts2, rfl, hw9⟩
           refine ⟨SqL.of (s9 _ _ hli), ?_⟩
           rw [List.length_map, hw9.1, List.length_map, List.length_take]
           walk_at "small"
         · rintro i2 v ys σ H9 hv ⟨⟨u, rfl⟩, s9, ts2, rfl, hw9⟩
           obtain ⟨l2, hx2, rfl⟩ : ∃ p, ls'[i2]? = some p ∧ v = .ref p := by
             rw [List.getElem?_map] at hv
             obtain ⟨p, hp, e⟩ := Option.map_eq_some_iff.mp hv
             exact ⟨p, hp, e.symm⟩
           have hi2 : i2 < bs'.length := by rw [← hbl]; exact (List.getElem?_eq_some_iff.mp hx2).1
           have hbi : bs'[i2]? = some bs'[i2] := List.getElem?_eq_getElem hi2
           obtain ⟨g1, g2⟩ := F.inn.2 i2 l2 _ hx2 hbi
           have hd0 : 0 < d := F.dep (fun z => by rw [z] at hi2; cases hi2)
           have ht9 := s9 _ _ ht8
           walk_at "rd"
           rename_i t2 nt2
           refine ⟨⟨_, rfl⟩, s9.trans (same_new nt2), ts2 ++ [t2], by rw [List.map_append]; rfl, ?_⟩
           rw [List.take_add_one, hbi, Option.toList_some, List.map_append]
           exact Each.snoc (hw9.same (same_new nt2)) ⟨l2, upd_same, show k + 1 ≤ 4 by omega, (show 5 - (k + 1) = d by omega) ▸ g1, (show 5 - (k + 1) = d by omega) ▸ g2⟩
         rintro ys σ H9 ⟨_, s9, ts2, rfl, hw9⟩ l9 nl9
         rw [List.length_map, hbl, List.take_length] at hw9
         have hlw9 := s9 _ _ hlw8
         have ht9 := s9 _ _ ht8
         have hw79 := (hw8.same s9).same (same_new (o := .lst (ts2.map V.ref)) nl9)
         have hwa := Each.app hw79 (hw9.same (same_new (o := .lst (ts2.map V.ref)) nl9))
         have hl2 := hw9.1
         rw [List.length_map] at hl2
         have s99 := (s08.trans s9).trans (same_new (o := .lst (ts2.map V.ref)) nl9)
         have hlen := hw8.1
         walk_at "rd"
         refine r_extend (look_new hlw9 nl9) upd_same (by rw [List.length_map, List.length_map, hlen, hl2]; rw [List.length_append]; show _ ≤ sizeLine; rw [sizeLine_eq]; omega) ?_
         refine ⟨⟨_, _, rfl⟩, fun b o e => by rw [upd_ne (ne_of_none e nlwH)]; exact s99 b o e, tup_upd (look_new hlw9 nl9) _ _ (look_new ht9 nl9), tn ++ ts2, wn ++ bs'.map (fun b => (k + 1, b)), by rw [upd_same, ← List.append_assoc, List.map_append (l₂ := ts2)], ?_, ?_, ?_⟩
         · rw [← List.append_assoc, ← List.append_assoc]
           exact WaitAt.to (tup_upd (look_new hlw9 nl9)) hwa
         · rw [totW_app, totW_in, ecnt, ← e1, hcn]; rw [show 5 - (k + 1) = d by omega]; omega
         · rw [mesW_app, mesW_in, ecnt, hcn]; rw [show 5 - (k + 1) = d by omega]; have := F.two; omega
     · rintro σ H7 ⟨⟨x, y, rfl⟩, s7, ht7, tn, wn, hlw7, hw7, e1, e2⟩
       rw [List.length_map, hpl, List.take_length] at e1 e2
       exact ⟨mesW (ws' ++ wn), by rw [emes, mesW_app]; omega, s7, ts' ++ tn, ws' ++ wn, many + ss.length, _, _, _, (by rw [List.length_map, hpl]; rfl), hlw7, hw7, by rw [totW_app]; omega, rfl, by rw [mesW_app]; omega⟩
   · have e : ts = [] := List.length_eq_zero_iff.mp (by omega)
     subst e
     walk_at "rd"
     exact q _ s3
theorem ok_is_program (T : Txt w K mg a) : FnE P w K mg base CX0 8 "is_program" spIsP := by
 refine fnE_of (sp := spIsP) 7 T.fn_is_program sc_is_program (fun vs H Q E h => ?_) (fun f cdv A outer s H vs Q E hr h => ?_)
 · obtain ⟨pr, fs, rfl, _⟩ := h
   rfl
 · obtain ⟨pr, fs, rfl, ⟨ps, hpr, hps⟩, O, q⟩ := h
   have hpl := hps.1
   have o1 := O.one
   have o2 := O.few
   have hget : ∀ {i : Nat} {p : Addr}, ps[i]? = some p → ∃ f l, f ∈ fs ∧ H p = some (.tup [.int f.1, .ref l]) ∧ BdAt (StAt H 5) H l f.2 := fun {i p} hx => by
     have hi : i < fs.length := by rw [← hpl]; exact (List.getElem?_eq_some_iff.mp hx).1
     obtain ⟨l, e1, e2⟩ := hps.2 i p _ hx (List.getElem?_eq_getElem hi)
     exact ⟨_, l, List.getElem_mem hi, e1, e2⟩
   refine ⟨_, (pss_cons (ps_if (PW.pt (pw_or (pt_not (pt_truK (K := K) rfl (pe_callB (call_isiK (K := K) rfl) rfl T.z_isinstance b_isinstance (pa_cons (pv 0) (pa_cons (pe_bltn (v := .ty "list") rfl T.z_list b_list rfl) pa_nil))))) (pw_or1 (pt_not (pt_chain op_le op_le pe_int (pe_callB (call_lenK (K := K) rfl) rfl T.z_len b_len (pa_cons (pv 0) pa_nil)) (pe_glob (v := .int 8) rfl T.g_TOP_FUNCTIONS.choose_spec ⟨_, rfl⟩)))))) (pss_one ps_dead) pss_nil)
     (pss_cons (ps_if (pt_not (pt_truK (K := K) rfl (pe_callB (call_allK (K := K) rfl rfl) rfl T.z_all b_all (pa_cons (pe_comp (own := ["function"]) (fr := []) rfl ⟨rfl, (by walk_at "clok"), (by walk_at "frok"), rfl, (by decide +kernel), (by decide +kernel), rfl⟩ (pi_seqK (K := K) rfl (pv 0)) (fun _ _ _ _ => (pg_name (i := 0) (show List.Nodup [("function" : Str)] from by decide +kernel) rfl (Or.inl rfl))) (fun _ _ _ _ => pts_nil) (fun _ _ _ _ => (pe_callE (ok_is_function (K := K) T) (hr.mono (by decide)) pass0 rfl (pa_cons (pv 0) pa_nil)))) pa_nil)))) (pss_one ps_dead) pss_nil)
     (pss_one (ps_ret (pe_callE (ok_are_statements (K := K) T) (hr.mono (by decide)) pass0 rfl (pa_cons (pe_comp (own := ["function"]) (fr := []) rfl ⟨rfl, (by walk_at "clok"), (by walk_at "frok"), rfl, (by decide +kernel), (by decide +kernel), rfl⟩ (pi_seqK (K := K) rfl (pv 0)) (fun _ _ _ _ => (pg_name (i := 0) (show List.Nodup [("function" : Str)] from by decide +kernel) rfl (Or.inl rfl))) (fun _ _ _ _ => pts_nil) (fun _ _ _ _ => (pe_ix (ix_K (K := K) rfl) (pv 0) pe_int (fun _ _ => rfl)))) (pa_cons (pe_comp (own := ["function"]) (fr := []) rfl ⟨rfl, (by walk_at "clok"), (by walk_at "frok"), rfl, (by decide +kernel), (by decide +kernel), rfl⟩ (pi_seqK (K := K) rfl (pv 0)) (fun _ _ _ _ => (pg_name (i := 0) (show List.Nodup [("function" : Str)] from by decide +kernel) rfl (Or.inl rfl))) (fun _ _ _ _ => pts_nil) (fun _ _ _ _ => (pe_ix (ix_K (K := K) rfl) (pv 0) pe_int (fun _ _ => rfl)))) pa_nil))))))), ?_⟩
   refine r_st (σ' := [some _]) rfl ?_
   walk_at "rd"
   refine comp_mapL (α := Addr) (xs := ps) (emb := V.ref) (fun _ => .bl true) (fun σ => ∃ v, σ = [v]) (SqL.of hpr) (by walk_at "small") ⟨_, rfl⟩ ?_ ?_
   · rintro i p ys σ H1 hx cc s1 ⟨v, rfl⟩
     obtain ⟨f', l, hm, e1, ps', e2, _⟩ := hget hx
     walk_at "rd"
     refine ⟨p, l, f'.1, _, rfl, s1 _ _ e1, (O.hd f' hm).1, (O.hd f' hm).2, s1 _ _ e2, ?_⟩
     exact cc.next hx rfl s1 ⟨_, rfl⟩
   intro H1 s1 l1 nl1
   have s2 := s1.trans (same_new (o := .lst (ps.map fun _ => V.bl true)) nl1)
   walk_at "rd"
   refine r_all (bs := ps.map fun _ => true) (by rw [List.map_map]; exact SqL.of upd_same) ?_
   generalize (upd H1 l1 (.lst (ps.map fun _ => V.bl true))) = H2 at s2 ⊢
   rw [show (ps.map fun _ => true).all id = true from by rw [List.all_map]; exact List.all_eq_true.mpr fun _ _ => rfl]
   clear nl1 s1
   have hpr2 := s2 _ _ hpr
   walk_at "rd"
   refine comp_mapL (α := Addr) (xs := ps) (emb := V.ref) (fun p => .ref (bodyOf (H p))) (fun σ => ∃ v, σ = [v]) (SqL.of hpr2) (by walk_at "small") ⟨_, rfl⟩ ?_ ?_
   · rintro i p ys σ H3 hx cc s3 ⟨v, rfl⟩
     obtain ⟨f', l, hm, e1, _⟩ := hget hx
     have e3 := s3 _ _ (s2 _ _ e1)
     walk_at "rd"
     exact cc.next hx (by rw [e1]; rfl) s3 ⟨_, rfl⟩
   intro H3 s3 l3 nl3
   have s4 := s2.trans (s3.trans (same_new (o := .lst (ps.map fun p => .ref (bodyOf (H p)))) nl3))
   have hl3 : (upd H3 l3 (.lst (ps.map fun p => .ref (bodyOf (H p))))) l3 = some (.lst ((ps.map fun p => bodyOf (H p)).map V.ref)) := by rw [upd_same, List.map_map]; rfl
   generalize (upd H3 l3 (.lst (ps.map fun p => .ref (bodyOf (H p))))) = H4 at s4 hl3 ⊢
   clear nl3 s3 s2 hpr2
   have hpr4 := s4 _ _ hpr
   walk_at "rd"
   refine comp_mapL (α := Addr) (xs := ps) (emb := V.ref) (fun p => .int (numOf (H p))) (fun σ => ∃ v, σ = [v]) (SqL.of hpr4) (by walk_at "small") ⟨_, rfl⟩ ?_ ?_
   · rintro i p ys σ H5 hx cc s5 ⟨v, rfl⟩
     obtain ⟨f', l, hm, e1, _⟩ := hget hx
     have e3 := s5 _ _ (s4 _ _ e1)
     walk_at "rd"
     exact cc.next hx (by rw [e1]; rfl) s5 ⟨_, rfl⟩
   intro H5 s5 l5 nl5
   have hnm : (ps.map fun p => V.int (numOf (H p))) = (fs.map (·.1)).map V.int := by
     rw [List.map_map]
     exact hps.map_eq fun p f' ⟨l, e, _⟩ => by rw [e]; rfl
   rw [hnm]
   have s6 := s4.trans (s5.trans (same_new (o := .lst ((fs.map (·.1)).map V.int)) nl5))
   have hl5 : (upd H5 l5 (.lst ((fs.map (·.1)).map V.int))) l5 = some (.lst ((fs.map (·.1)).map V.int)) := upd_same
   have hl36 := look_new (o := .lst ((fs.map (·.1)).map V.int)) (s5 _ _ hl3) nl5
   generalize (upd H5 l5 (.lst ((fs.map (·.1)).map V.int))) = H6 at s6 hl5 hl36 ⊢
   walk_at "rd"
   refine ⟨l3, l5, ps.map fun p => bodyOf (H p), fs.map (·.2), fs.map (·.1), rfl, hl36, ?_, by rw [List.length_map]; exact o2, by rw [List.map_map]; exact O.cnt, hl5, fun n hn => ?_, by rw [List.length_map]; exact o2, fun H7 s7 => ?_⟩
   · refine ⟨by rw [List.length_map, List.length_map]; exact hpl, fun i l b a1 a2 => ?_⟩
     rw [List.getElem?_map] at a1 a2
     obtain ⟨p, hp, rfl⟩ := Option.map_eq_some_iff.mp a1
     obtain ⟨f', hf, rfl⟩ := Option.map_eq_some_iff.mp a2
     obtain ⟨l, e1, e2⟩ := hps.2 i p f' hp hf
     have el : bodyOf (H p) = l := by rw [e1]; rfl
     rw [el]
     exact ⟨e2.same s6 (fun _ _ => StAt.same s6), O.ok f' (List.mem_of_getElem? hf)⟩
   · obtain ⟨f', hf, rfl⟩ := List.mem_map.mp hn
     exact (O.hd f' hf).2
   · walk_at "rd"
     exact q _ (s6.trans s7)
theorem ok_asked_for_program (T : Txt w K mg a) : FnE P w K mg base CX0 9 "asked_for_program" spAsk := by
 refine fnE_of (sp := spAsk) 8 T.fn_asked_for_program sc_asked_for_program (fun vs H Q E h => ?_) (fun f cdv A outer s H vs Q E hr h => ?_)
 · obtain ⟨pr, fs, rfl, _⟩ := h
   rfl
 · obtain ⟨pr, fs, rfl, hp, hok, q⟩ := h
   refine ⟨_, (pss_one (ps_if (pt_not (pt_truK (K := K) rfl (pe_callE (ok_is_program (K := K) T) (hr.mono (by decide)) pass0 rfl (pa_cons (pv 0) pa_nil)))) (pss_one ps_never) pss_nil)), ?_⟩
   refine r_st (σ' := [some _]) rfl ?_
   walk_at "rd"
   refine ⟨pr, fs, rfl, hp, hok, fun H1 s1 => ?_⟩
   walk_at "rd"
   exact q _ s1
theorem ok_shown_program (T : Txt w K mg a) : FnE P w K mg base CX0 14 "shown_program" spShP := by
 refine fnE_of (sp := spShP) 13 T.fn_shown_program sc_shown_program (fun vs H Q E h => ?_) (fun f cdv A outer s H vs Q E hr h => ?_)
 · obtain ⟨pr, fs, rfl, _⟩ := h
   rfl
 · obtain ⟨pr, fs, rfl, hP, O, q⟩ := h
   have hfw := rowsP_few O
   have hd3 : ∀ n ∈ fs.map (·.1), n ≤ 3 := fun n hn => by obtain ⟨g, hg, rfl⟩ := List.mem_map.mp hn; exact (O.hd g hg).2
   have hd8 : (fs.map (·.1)).length ≤ 8 := by rw [List.length_map]; exact O.few
   refine ⟨_, (pss_cons (ps_expr (pe_callE (ok_asked_for_program (K := K) T) (hr.mono (by decide)) pass0 rfl (pa_cons (pv 0) pa_nil)))
     (pss_cons (ps_set (i := 1) sc_shown_program.nd rfl (Or.inl rfl) (pe_lst pa_nil))
     (pss_cons (ps_for PassesOwn.never rfl (pi_seqK (K := K) rfl (pv 0)) (pg_tupK (K := K) rfl rfl (pgs_cons (pg_name (i := 2) sc_shown_program.nd rfl (Or.inl rfl)) (pgs_cons (pg_name (i := 3) sc_shown_program.nd rfl (Or.inl rfl)) pgs_nil))) (pss_cons (ps_expr (pe_bmK (K := K) rfl PySem.F.plainAttrs_list PySem.F.slot_list_append PySem.F.type_list_append mt_append (pv 1) (pa_cons (pe_callE (ok_shown_row (K := K) T) (hr.mono (by decide)) pass0 rfl (pa_cons pe_str (pa_cons (pe_lst (pa_cons (pv 2) pa_nil)) pa_nil))) pa_nil)))
     (pss_one (ps_expr (pe_bmK (K := K) rfl PySem.F.plainAttrs_list PySem.F.slot_list_extend PySem.F.type_list_extend mt_extend (pv 1) (pa_cons (pe_callE (ok_shown_statements (K := K) T) (hr.mono (by decide)) pass0 rfl (pa_cons (pv 3) pa_nil)) pa_nil))))))
     (pss_one (ps_ret (pe_bmK (K := K) rfl PySem.F.plainAttrs_str PySem.F.slot_str_join PySem.F.type_str_join (mt_join (K := K) rfl) (pe_glob (v := .str "; ") rfl T.g_PARTING.choose_spec ⟨_, rfl⟩) (pa_cons (pv 1) pa_nil))))))), ?_⟩
   refine r_st (σ' := [some _, none, none, none]) rfl ?_
   walk_at "rq"
   refine ⟨pr, fs, rfl, hP, O, fun H1 s1 => ?_⟩
   obtain ⟨ps, hpr, hps⟩ := hP.same s1
   have hpl := hps.1
   walk_at "rq"
   rename_i l nl
   refine for_list (K := K) (a := pr) (xs := ps.map V.ref) (fun i σ HQ => (∃ u v, σ = [some (.ref pr), some (.ref l), u, v]) ∧ Same H1 HQ ∧ HQ l = some (.lst ((rowsP (fs.take i)).map rowV))) ⟨⟨_, _, rfl⟩, same_new nl, by rw [List.take_zero]; exact upd_same⟩ (fun i σ HQ _ ⟨_, s2, _⟩ => SqL.of (s2 _ _ hpr)) ?_ ?_
   · rintro i v σ HQ hv ⟨⟨u1, u2, rfl⟩, s2, hl⟩
     obtain ⟨p, hx, rfl⟩ : ∃ p, ps[i]? = some p ∧ v = .ref p := by
       rw [List.getElem?_map] at hv
       obtain ⟨p, hp, e⟩ := Option.map_eq_some_iff.mp hv
       exact ⟨p, hp, e.symm⟩
     have hi : i < fs.length := by rw [← hpl]; exact (List.getElem?_eq_some_iff.mp hx).1
     have hsi : fs[i]? = some fs[i] := List.getElem?_eq_getElem hi
     obtain ⟨lb, hp, hB⟩ := hps.2 i p _ hx hsi
     have hcb : cntL 5 fs[i].2 ≤ (fs.map fun f => cntL 5 f.2).sum := sum_mem (fun f : Int × List Stm => cntL 5 f.2) (List.getElem_mem hi)
     have hc80 := O.cnt
     have hoki := O.ok _ (List.getElem_mem hi)
     have hhd := O.hd _ (List.getElem_mem hi)
     have hfl : (rowsP (fs.take i)).length + 1 + (rowsL 5 fs[i].2).length ≤ (rowsP fs).length := by
       rw [rowsP_split hsi, List.length_append, List.length_cons, List.length_append]; omega
     have htk := rowsP_take hsi
     generalize fs[i] = f1 at hsi hp hB hcb hoki hhd hfl htk
     rw [htk]
     have hp2 := s2 _ _ hp
     refine r_gTup (SqT.of hp2) rfl ?_
     walk_at "rq"
     rename_i l3 n3
     refine ⟨"fun", _, [f1.1], rfl, .inl upd_same, rd_one (by decide +kernel) (by decide) ⟨rfl, rfl⟩ ⟨hhd.1, by omega⟩, fun H2 s3 => ?_⟩
     have s4 := (same_new n3).trans s3
     have hl4 := s4 _ _ hl
     clear s3 n3
     walk_at "rq"
     have hB2 : ∀ b o, H1 b = some o → (upd H2 l (.lst ((rowsP (fs.take i)).map rowV ++ [rowV ("fun", [f1.1])]))) b = some o := fun b o e => by rw [upd_ne (ne_of_none e nl)]; exact s4 _ _ (s2 _ _ e)
     refine ⟨lb, f1.2, fs.map (·.1), rfl, hB.same hB2 (fun _ _ => StAt.same hB2), hoki, hd3, hd8, by omega, fun l5 H5 s5 n5 hl5 => ?_⟩
     have hlA := s5 _ _ (show (upd H2 l (.lst ((rowsP (fs.take i)).map rowV ++ [rowV ("fun", [f1.1])]))) l = _ from upd_same)
     walk_at "rq"
     refine r_extend hlA hl5 (by rw [List.length_append, List.length_map, List.length_map, sizeLine_eq]; show _ + 1 + _ ≤ _; omega) ?_
     walk_at "rq"
     refine ⟨⟨_, _, rfl⟩, fun b o e => by rw [upd_ne (ne_of_none e nl)]; exact s5 _ _ (hB2 b o e), ?_⟩
     rw [upd_same, List.map_append, List.map_cons, List.append_assoc]; rfl
   · rintro σ HQ ⟨⟨u1, u2, rfl⟩, s2, hl⟩
     rw [List.length_map, hpl, List.take_length] at hl
     have hl : HQ l = some (.lst (((rowsP fs).map rowX).map V.str)) := by rw [hl, List.map_map]; rfl
     walk_at "rq"
     refine r_join (SqL.of hl) (progT_join O) ?_
     exact q _ (s1.trans s2)
theorem me_ProgramRows_functions (T : Txt w K mg a)  : MethE P w K mg base CX0 15 a.C_ProgramRows "functions" (spPFn a) := by
 refine methE_of (sp := (spPFn a)) 14 T.cl_ProgramRows T.m_ProgramRows_functions sc_ProgramRows_functions (fun vs H Q E h => ?_) (fun f cdv A outer s H vs Q E hr h => ?_)
 · obtain ⟨x, dx, lr, fs, ps, fns, rfl, _⟩ := h
   rfl
 · obtain ⟨x, dx, lr, fs, ps, fns, rfl, R, O, hok, q⟩ := h
   have hfw := rowsP_few O
   have h8 := O.few
   have hd3 : ∀ n ∈ fns.map (·.1), n ≤ 3 := fun n hn => by obtain ⟨g, hg, rfl⟩ := List.mem_map.mp hn; exact (O.hd g hg).2
   refine ⟨_, (pss_cons (ps_set (i := 1) sc_ProgramRows_functions.nd rfl (Or.inl rfl) (pe_lst pa_nil))
     (pss_cons (ps_while PassesOwn.never (pt_cmpR op_lt (pe_fldK (K := K) rfl (pv 0)) (pe_callB (call_lenK (K := K) rfl) rfl T.z_len b_len (pa_cons (pe_fldK (K := K) rfl (pv 0)) pa_nil)) (nomark _)) (pss_cons (ps_set (i := 2) sc_ProgramRows_functions.nd rfl (Or.inl rfl) (pe_methK (P := P) (w := w) (K := K) (mg := mg) (base := base) (k := 2) ⟨rfl, rfl, rfl, rfl, rfl⟩ (pv 0) (hr.mono (by decide)) pass0 (pa_cons pe_str pa_nil)))
     (pss_one (ps_expr (pe_bmK (K := K) rfl PySem.F.plainAttrs_list PySem.F.slot_list_append PySem.F.type_list_append mt_append (pv 1) (pa_cons (pe_tup (pa_cons (pe_ix (ix_K (K := K) rfl) (pv 2) pe_int (fun _ _ => rfl)) (pa_cons (pe_methK (P := P) (w := w) (K := K) (mg := mg) (base := base) (k := 14) ⟨rfl, rfl, rfl, rfl, rfl⟩ (pv 0) (hr.mono (by decide)) pass0 (pa_cons pe_int pa_nil)) pa_nil))) pa_nil))))))
     (pss_one (ps_ret (pv 1))))), ?_⟩
   refine r_st (σ' := [some _, none, none]) rfl ?_
   walk_at "rq"
   rename_i l nl
   have nxl : l ≠ x := fun z => by rw [z, R.obj] at nl; cases nl
   have nlr : l ≠ lr := fun z => by rw [z, R.lst] at nl; cases nl
   have sl : Same H (upd H l (.lst [])) := same_new nl
   refine ⟨fun j σ HQ => ∃ (i : Nat) (fs' : List (Str × V)) (qs : List Addr) (u : Option V), i + j = fns.length ∧ σ = [some (.ref x), some (.ref l), u] ∧ KeepX x H HQ ∧ HQ l = some (.lst (qs.map V.ref)) ∧ PRt a HQ x dx lr fs' (rowsP (fns.take i)).length ps (rowsP fns) ∧ Each (FnAt (hid l (hid x HQ))) qs (fns.take i), ⟨fns.length, 0, fs, [], _, by omega, rfl, KeepX.of sl, upd_same, R.same sl, Each.nil⟩, ?_⟩
   rintro j σ HQ ⟨i, fs', qs, u, hij, rfl, kp, hl, R1, he⟩
   have hx1 := R1.obj
   have f1 := R1.pf.rows
   have f2 := R1.pf.mark
   have hpl := R1.rows.1
   have hlr1 := R1.lst
   walk_at "rq"
   refine r_lenL (SqL.of hlr1) ?_
   rw [List.length_map, hpl]
   by_cases hi : i < fns.length
   · have hsi : fns[i]? = some fns[i] := List.getElem?_eq_getElem hi
     have hoki := hok _ (List.getElem_mem hi)
     have htk := rowsP_take hsi
     have hsp := rowsP_split hsi
     have hdr : (rowsP fns).drop (rowsP (fns.take i)).length = rd "fun" [fns[i].1] :: (rowsL 5 fns[i].2 ++ rowsP (fns.drop (i + 1))) := by
       have e := List.drop_left (l₁ := rowsP (fns.take i)) (l₂ := rd "fun" [fns[i].1] :: (rowsL 5 fns[i].2 ++ rowsP (fns.drop (i + 1))))
       rw [← hsp] at e
       exact e
     have hlt : (rowsP (fns.take i)).length < (rowsP fns).length := by rw [hsp, List.length_append, List.length_cons]; omega
     have htk2 : fns.take (i + 1) = fns.take i ++ [fns[i]] := by rw [List.take_add_one, hsi]; rfl
     have hql : qs.length ≤ 8 := by rw [he.1, List.length_take]; omega
     generalize fns[i] = g1 at hsi hoki htk hdr htk2
     clear hsp
     obtain ⟨hr0, hdr1⟩ := drop_cons hdr
     walk_at "rq"
     refine ⟨_, fun σ' H' h => h, ?_⟩
     walk_at "rq"
     refine r_methV R1.obj (R1.pf.no _ (by decide +kernel)) ((me_ProgramRows_take_row T).mono (by decide)) ?_
     walk_at "rq"
     refine ⟨x, dx, lr, fs', _, ps, _, rd "fun" [g1.1], rfl, R1, hr0, fun p fs2 H2 hpk kp2 nn2 R2 hrow => ?_⟩
     have hrow : H2 p = some (.tup [.str "fun", .int g1.1]) := hrow
     have hl2 := kp2 _ _ hl nxl
     walk_at "rq"
     refine r_methV R2.obj (R2.pf.no _ (by decide +kernel)) ((me_ProgramRows_statements T).mono (by decide)) ?_
     walk_at "rq"
     refine ⟨x, dx, lr, fs2, _, ps, _, _, g1.2, fns.map (·.1), rfl, R2, hdr1, rowsP_word _, hoki, hd3, Nat.le_refl _, fun l3 q3 fs3 H3 kp3 nl3 R3 hl3 he3 => ?_⟩
     have hl3' := kp3 _ _ hl2 nxl
     walk_at "rq"
     rename_i t nt
     have htl : t ≠ l := fun z => by rw [z, hl3'] at nt; cases nt
     have htx : t ≠ x := fun z => by rw [z, R3.obj] at nt; cases nt
     have n3l : l3 ≠ l := fun z => by rw [z, hl2] at nl3; cases nl3
     have n3x : l3 ≠ x := fun z => by rw [z, R2.obj] at nl3; cases nl3
     have kF : ∀ b o, H3 b = some o → b ≠ l → (upd (upd H3 t (.tup [.int g1.1, .ref l3])) l (.lst (qs.map V.ref ++ [.ref t]))) b = some o := fun b o e n => by rw [upd_ne n]; exact look_new e nt
     have htF : (upd (upd H3 t (.tup [.int g1.1, .ref l3])) l (.lst (qs.map V.ref ++ [.ref t]))) t = some (.tup [.int g1.1, .ref l3]) := by rw [upd_ne htl]; exact upd_same
     have hlF : (upd (upd H3 t (.tup [.int g1.1, .ref l3])) l (.lst (qs.map V.ref ++ [.ref t]))) l = some (.lst ((qs ++ [t]).map V.ref)) := by rw [upd_same, List.map_append]; rfl
     have RF := (R3.same (same_new (o := .tup [.int g1.1, .ref l3]) nt)).put (o := .lst (qs.map V.ref ++ [.ref t])) (look_new hl3' nt) nxl nlr
     generalize (upd (upd H3 t (.tup [.int g1.1, .ref l3])) l (.lst (qs.map V.ref ++ [.ref t]))) = HF at kF htF hlF RF ⊢
     refine ⟨j - 1, by omega, i + 1, fs3, qs ++ [t], _, by omega, rfl, fun b o e n => ?_, hlF, ?_, ?_⟩
     · have nb : b ≠ l := fun z => by rw [z, nl] at e; cases e
       exact kF b o (kp3 b o (kp2 b o (kp b o e n) n) n) nb
     · rw [htk, List.length_append, List.length_cons]
       exact RF.mark (by omega)
     · rw [htk2]
       refine Each.snoc (he.mono fun p' z h => h.same fun b o e => ?_) ⟨l3, hid_at (hid_at htF htx) htl, q3, hid_at (hid_at (kF _ _ hl3 n3l) n3x) n3l, he3.mono fun _ _ h => StAt.same (nt_to2 R2.obj hl2 kp3 (fun b o e n _ => kF b o e n)) h⟩
       have e1 : b ≠ l := fun z => by rw [z] at e; unfold hid at e; rw [if_pos rfl] at e; cases e
       have e2 := hid_to _ _ e
       have e3 : b ≠ x := fun z => by rw [z] at e2; unfold hid at e2; rw [if_pos rfl] at e2; cases e2
       have e4 := hid_to _ _ e2
       exact hid_at (hid_at (kF b o (kp3 b o (kp2 b o e4 e3) e3) e1) e3) e1
   · have hil : i = fns.length := by omega
     subst hil
     rw [List.take_length] at R1 he ⊢
     walk_at "rq"
     exact q l HQ kp nl ⟨qs, hl, he.mono fun _ _ h => h.same (fun b o e => hid_to _ _ (hid_to _ _ e))⟩
theorem ok_read_program (T : Txt w K mg a) : FnE P w K mg base CX0 16 "read_program" spRdP := by
 refine fnE_of (sp := spRdP) 15 T.fn_read_program sc_read_program (fun vs H Q E h => ?_) (fun f cdv A outer s H vs Q E hr h => ?_)
 · obtain ⟨fs, rfl, _⟩ := h
   rfl
 · obtain ⟨fs, rfl, O, hok, q⟩ := h
   have hlen := progT_len O
   have hfw := rowsP_few O
   have hro := rowsP_ok O
   refine ⟨_, (pss_cons (ps_expr (pe_callE (ok_asked_for_text (K := K) T) (hr.mono (by decide)) pass0 rfl (pa_cons (pv 0) pa_nil)))
     (pss_cons (ps_if (pt_cmpR op_gt (pe_callB (call_lenK (K := K) rfl) rfl T.z_len b_len (pa_cons (pv 0) pa_nil)) (pe_glob (v := .int 8000) rfl T.g_TOP_SIGNS.choose_spec ⟨_, rfl⟩) (nomark _)) (pss_one ps_never) pss_nil)
     (pss_cons (ps_set (i := 1) sc_read_program.nd rfl (Or.inl rfl) (pe_methK0 (P := P) (w := w) (K := K) (mg := mg) (base := base) (k := 15) ⟨rfl, rfl, rfl, rfl, rfl⟩ (pe_makeE (mk_ProgramRows (K := K) T) (hr.mono (by decide)) pass0 rfl (pa_cons (pe_comp (own := ["row"]) (fr := []) rfl ⟨rfl, (by walk_at "clok"), (by walk_at "frok"), rfl, (by decide +kernel), (by decide +kernel), rfl⟩ (pi_seqK (K := K) rfl (pe_bmK (K := K) rfl PySem.F.plainAttrs_str PySem.F.slot_str_split PySem.F.type_str_split mt_split (pv 0) (pa_cons (pe_glob (v := .str "; ") rfl T.g_PARTING.choose_spec ⟨_, rfl⟩) pa_nil))) (fun _ _ _ _ => (pg_name (i := 0) (show List.Nodup [("row" : Str)] from by decide +kernel) rfl (Or.inl rfl))) (fun _ _ _ _ => pts_nil) (fun _ _ _ _ => (pe_callE (ok_read_words (K := K) T) (hr.mono (by decide)) pass0 rfl (pa_cons (pv 0) pa_nil)))) pa_nil)) (hr.mono (by decide)) pass0))
     (pss_cons (ps_expr (pe_callE (ok_asked_for_program (K := K) T) (hr.mono (by decide)) pass0 rfl (pa_cons (pv 1) pa_nil)))
     (pss_one (ps_ret (pv 1))))))), ?_⟩
   refine r_st (σ' := [some _, none]) rfl ?_
   walk_at "rq"
   refine ⟨_, rfl, ?_⟩
   walk_at "rq"
   refine ⟨_, _, rfl, ⟨by rw [sizeLine_eq]; omega, rfl⟩, ?_⟩
   walk_at "rq"
   refine r_split rfl (by rw [sizeLine_eq]; omega) (progT_split O) (by rw [List.length_map, sizeLine_eq]; omega) (fun l hl => ?_)
   walk_at "rq"
   refine comp_list (K := K) (a := l) (xs := ((rowsP fs).map rowX).map V.str) (fun i ys σ H1 => (∃ v, σ = [v]) ∧ Same (upd H l (.lst (((rowsP fs).map rowX).map V.str))) H1 ∧ ∃ ps : List Addr, ys = ps.map V.ref ∧ Each (RtAt H1) ps ((rowsP fs).take i)) ⟨⟨_, rfl⟩, Same.refl _, [], rfl, by rw [List.take_zero]; exact Each.nil⟩ (fun i ys σ H1 hi ⟨_, s1, ps, e, e2⟩ => ⟨SqL.of (s1 _ _ upd_same), by rw [e, List.length_map, e2.1, List.length_take, sizeLine_eq]; omega⟩) ?_ ?_
   · rintro i y ys σ H1 hx ⟨⟨v, rfl⟩, s1, ps, rfl, he⟩
     obtain ⟨r, hri, rfl⟩ : ∃ r, (rowsP fs)[i]? = some r ∧ y = .str (rowX r) := by
       rw [List.getElem?_map, List.getElem?_map] at hx
       obtain ⟨p, hp, e⟩ := Option.map_eq_some_iff.mp hx
       obtain ⟨r, hr, e2⟩ := Option.map_eq_some_iff.mp hp
       exact ⟨r, hr, by rw [← e, ← e2]⟩
     walk_at "rq"
     refine ⟨r, rfl, hro r (List.mem_of_getElem? hri), fun p2 H2 s2 n2 hr2 => ?_⟩
     refine ⟨⟨_, rfl⟩, s1.trans s2, ps ++ [p2], by rw [List.map_append]; rfl, ?_⟩
     rw [List.take_add_one, hri, Option.toList_some]
     exact Each.snoc (he.mono fun p r h => s2 _ _ h) hr2
   rintro ys σ H1 ⟨_, s1, ps, rfl, he⟩ lr nlr
   rw [List.length_map, List.length_map, List.take_length] at he
   walk_at "rq"
   intro x dx nx ndx nne
   have s2 := same_new (o := .lst (ps.map V.ref)) nlr
   have s3 : Same (upd H1 lr (.lst (ps.map V.ref))) (upd (upd (upd H1 lr (.lst (ps.map V.ref))) dx (.own x)) x (.ins a.C_ProgramRows dx [])) := fun b o e => by rw [upd_ne (ne_of_none e nx), upd_ne (ne_of_none e ndx)]; exact e
   refine ⟨x, dx, lr, rfl, upd_same, fun fs1 H2 kp hx F => ⟨rfl, ?_⟩⟩
   have s4 : Same (upd H1 lr (.lst (ps.map V.ref))) H2 := fun b o e => kp b o (s3 b o e) (ne_of_none e nx)
   have R : PRt a H2 x dx lr fs1 0 ps (rowsP fs) := ⟨hx, F, s4 _ _ upd_same, he.mono fun p r h => s4 _ _ (s2 _ _ h), by omega⟩
   have nxH : H x = none := none_same ((same_new hl).trans (s1.trans s2)) nx
   have sall := (same_new (o := .lst (((rowsP fs).map rowX).map V.str)) hl).trans (s1.trans (s2.trans s4))
   refine r_methV hx (F.no _ (by decide +kernel)) ((me_ProgramRows_functions T).mono (by decide)) ?_
   walk_at "rq"
   refine ⟨x, dx, lr, fs1, ps, fs, rfl, R, O, hok, fun l5 H5 kp5 nl5 hP => ?_⟩
   have s5 : Same H H5 := fun b o e => kp5 b o (sall b o e) (ne_of_none e nxH)
   walk_at "rq"
   refine ⟨l5, fs, rfl, hP, O, fun H6 s6 => ?_⟩
   walk_at "rq"
   exact q l5 H6 (s5.trans s6) (none_same sall nl5) (hP.same s6)
theorem ok_law_program (T : Txt w K mg a) : FnE P w K mg base CX0 17 "_law_program" (spProgB K) := by
 refine fnE_of (sp := (spProgB K)) 16 T.fn_law_program sc_law_program (fun vs H Q E h => ?_) (fun f cdv A outer s H vs Q E hr h => ?_)
 · obtain ⟨a0, ns, rfl, _⟩ := h
   rfl
 · obtain ⟨a0, ns, rfl, hS, q⟩ := h
   refine ⟨_, (pss_cons (ps_set (i := 1) sc_law_program.nd rfl (Or.inr rfl) (pe_callE (ok_law_number (K := K) T) (hr.mono (by decide)) pass0 rfl (pa_cons (pv 0) (pa_cons pe_int pa_nil))))
     (pss_cons (ps_setC (i := 2) sc_law_program.nd rfl rfl (own := ["_law_k"]) (fr := [("_law_cell", 1)]) rfl ⟨rfl, (by walk_at "clok"), (by walk_at "frok"), rfl, (by decide +kernel), (by decide +kernel), rfl⟩ (pi_range1 rfl T.z_range (pa_cons (pe_op (op_plusK (K := K) rfl) pe_int (pe_op op_mod (pv 1) pe_int)) pa_nil)) (fun _ _ _ _ => (pg_name (i := 0) (show List.Nodup [("_law_k" : Str), ("_law_cell" : Str)] from by decide +kernel) rfl (Or.inl rfl))) (fun _ _ _ _ => pts_nil) (fun _ _ _ _ => (pe_op op_mod (pe_op (op_plusK (K := K) rfl) (pe_op op_fdiv (pv 1) pe_int) (pe_op op_times pe_int (pv 0))) pe_int)))
     (pss_cons (ps_set (i := 3) sc_law_program.nd rfl (Or.inl rfl) (pe_lst pa_nil))
     (pss_cons (ps_set (i := 4) sc_law_program.nd rfl (Or.inl rfl) pe_int)
     (pss_cons (ps_for PassesOwn.never rfl (pi_seqK (K := K) rfl (pv 2)) (pg_name (i := 5) sc_law_program.nd rfl (Or.inl rfl)) (pss_cons (ps_asg (pe_callE (ok_law_block (K := K) T) (hr.mono (by decide)) pass0 rfl (pa_cons (pv 0) (pa_cons (pv 4) (pa_cons (pe_op op_mod (pe_callE (ok_law_number (K := K) T) (hr.mono (by decide)) pass0 rfl (pa_cons (pv 0) (pa_cons (pv 4) pa_nil))) pe_int) (pa_cons pe_int (pa_cons (pv 2) pa_nil)))))) (pg_tupK (K := K) rfl rfl (pgs_cons (pg_name (i := 6) sc_law_program.nd rfl (Or.inl rfl)) (pgs_cons (pg_name (i := 4) sc_law_program.nd rfl (Or.inl rfl)) pgs_nil))))
     (pss_one (ps_expr (pe_bmK (K := K) rfl PySem.F.plainAttrs_list PySem.F.slot_list_append PySem.F.type_list_append mt_append (pv 3) (pa_cons (pe_tup (pa_cons (pv 5) (pa_cons (pv 6) pa_nil))) pa_nil))))))
     (pss_one (ps_ret (pv 3)))))))), ?_⟩
   refine r_st (σ' := [some _, none, none, none, none, none, none]) rfl ?_
   walk_at "rk"
   refine ⟨a0, ns, 0, rfl, hS, by decide, by decide, ?_⟩
   generalize numAt ns 0 = cell
   walk_at "rk"
   refine comp_range (fun i ys σ HQ => (∃ v, σ = [v, some (.int cell)]) ∧ Same H HQ ∧ ∃ ks : List Int, ys = ks.map V.int ∧ ks.length = i ∧ ∀ k ∈ ks, 0 ≤ k ∧ k ≤ 3) ⟨⟨_, rfl⟩, Same.refl _, [], rfl, rfl, (fun _ z => by cases z)⟩ ?_ ?_ ?_
   · rintro i ys σ HQ hi ⟨_, _, ks, rfl, e, _⟩
     rw [List.length_map, e]
     walk_at "small"
   · rintro i ys σ HQ hi ⟨⟨v, rfl⟩, s1, ks, rfl, hl, hk⟩
     walk_at "rd"
     refine ⟨⟨_, rfl⟩, s1, ks ++ [_], by rw [List.map_append]; rfl, by rw [List.length_append, hl]; rfl, fun x hx => ?_⟩
     rcases List.mem_append.mp hx with z | z
     · exact hk x z
     · rw [List.mem_singleton.mp z]; exact ⟨by omega, by omega⟩
   rintro ys σ HQ ⟨_, s8, hd, rfl, hnl, hhv⟩ lh nlh
   have hHd : HdOk hd := ⟨by omega, by omega, hhv⟩
   have sA := s8.trans (same_new (o := .lst (hd.map V.int)) nlh)
   have hlh : (upd HQ lh (.lst (hd.map V.int))) lh = some (.lst (hd.map V.int)) := upd_same
   generalize (upd HQ lh (.lst (hd.map V.int))) = HA at sA hlh ⊢
   clear s8 nlh hnl hhv
   walk_at "rk"
   rename_i pl npl
   have hl3 := hHd.three
   refine for_list (K := K) (a := lh) (xs := hd.map V.int) (fun i σ HQ => Same HA HQ ∧ ∃ (e : Int) (ps : List Addr) (fs : List (Int × List Stm)) (u v : Option V), σ = [some (.ref a0), some (.int cell), some (.ref lh), some (.ref pl), some (.int e), u, v] ∧ HQ pl = some (.lst (ps.map V.ref)) ∧ Each (FnAt (hid pl HQ)) ps fs ∧ fs.map (·.1) = hd.take i ∧ (∀ f ∈ fs, ∀ s ∈ f.2, OkL hd 5 s) ∧ ((fs.map fun f => cntL 5 f.2).sum : Int) + 2 ≤ e ∧ 2 ≤ e ∧ e ≤ 50) ⟨same_new npl, 2, [], [], _, _, rfl, upd_same, Each.nil, by rw [List.take_zero]; rfl, (fun _ z => by cases z), by show ((0 : Nat) : Int) + 2 ≤ 2; decide, by decide, by decide⟩ (fun i σ HQ _ ⟨s, _⟩ => SqL.of (s _ _ hlh)) ?_ ?_
   · rintro i v σ HQ hv ⟨s1, e, ps, fs, u1, u2, rfl, hpl, he, hfd, hok, hcn, h1, h2⟩
     obtain ⟨m, hx, rfl⟩ : ∃ p, hd[i]? = some p ∧ v = .int p := by
       rw [List.getElem?_map] at hv
       obtain ⟨p, hp, e⟩ := Option.map_eq_some_iff.mp hv
       exact ⟨p, hp, e.symm⟩
     have hi3 : i < hd.length := (List.getElem?_eq_some_iff.mp hx).1
     have hpe : ps.length = fs.length := he.1
     have hfl : fs.length = i := by have := congrArg List.length hfd; rw [List.length_map, List.length_take] at this; omega
     have hSq := Same.seq (sA.trans s1) hS
     walk_at "rk"
     refine ⟨a0, ns, e, rfl, hSq, by omega, by omega, ?_⟩
     walk_at "rk"
     refine ⟨a0, lh, ns, hd, e, _, rfl, hSq, s1 _ _ hlh, hHd, by omega, h2, by omega, by omega, by omega, fun t l pb ss e2 H2 s2 nl ht hl hpl2 he2 hok2 hcn2 h3 h4 => ?_⟩
     refine r_gTup (SqT.of ht) rfl ?_
     have hpl3 := s2 _ _ hpl
     clear hSq ht
     walk_at "rk"
     rename_i tp ntp
     have etp : tp ≠ pl := (ne_of_none hpl3 ntp).symm
     have el : l ≠ pl := (ne_of_none hpl nl).symm
     have kF : ∀ b o, H2 b = some o → b ≠ pl → (upd (upd H2 tp (.tup [.int m, .ref l])) pl (.lst (ps.map V.ref ++ [.ref tp]))) b = some o := fun b o eb nb => by rw [upd_ne nb]; exact look_new eb ntp
     have htp : (upd (upd H2 tp (.tup [.int m, .ref l])) pl (.lst (ps.map V.ref ++ [.ref tp]))) tp = some (.tup [.int m, .ref l]) := by rw [upd_ne etp]; exact upd_same
     have hplF : (upd (upd H2 tp (.tup [.int m, .ref l])) pl (.lst (ps.map V.ref ++ [.ref tp]))) pl = some (.lst ((ps ++ [tp]).map V.ref)) := by rw [upd_same, List.map_append]; rfl
     generalize (upd (upd H2 tp (.tup [.int m, .ref l])) pl (.lst (ps.map V.ref ++ [.ref tp]))) = HF at kF htp hplF ⊢
     have kA : Same HA HF := fun b o eb => kF b o (s2 _ _ (s1 _ _ eb)) (ne_of_none eb npl)
     have kH : Same (hid pl HQ) (hid pl HF) := fun b o eb => by
       unfold hid at eb ⊢
       split at eb
       · cases eb
       · rename_i nb; rw [if_neg nb]; exact kF b o (s2 _ _ eb) nb
     have kN : Same (nw (upd HQ l (.lst [])) H2) (hid pl HF) := fun b o eb => by
       obtain ⟨k1, k2⟩ := nw_of eb
       have nb : b ≠ pl := fun z => by rw [z] at k1; rw [(upd_none k1).1] at hpl; cases hpl
       exact hid_at (kF b o k2 nb) nb
     refine ⟨kA, e2, ps ++ [tp], fs ++ [(m, ss)], _, _, rfl, hplF, Each.snoc (he.mono fun p f h => h.same kH) ⟨l, hid_at htp etp, pb, hid_at (kF _ _ hl el) el, he2.mono fun p z h => StAt.same kN h⟩, ?_, fun f hf => ?_, ?_, by omega, h4⟩
     · rw [List.map_append, hfd, List.take_add_one, hx]; rfl
     · rcases List.mem_append.mp hf with z | z
       · exact hok f z
       · rw [List.mem_singleton.mp z]; exact hok2
     · have hcn2 : (cntL 5 ss : Int) + e ≤ e2 := hcn2
       have ec : ((fs ++ [(m, ss)]).map fun f => cntL 5 f.2).sum = (fs.map fun f => cntL 5 f.2).sum + cntL 5 ss := by rw [List.map_append, List.sum_append]; simp
       rw [ec]; omega
   · rintro σ HQ ⟨s1, e, ps, fs, u1, u2, rfl, hpl, he, hfd, hok, hcn, h1, h2⟩
     rw [List.length_map, List.take_length] at hfd
     have hfl : fs.length = hd.length := by have := congrArg List.length hfd; rw [List.length_map] at this; exact this
     have hl1 := hHd.one
     walk_at "rk"
     refine q pl fs HQ (sA.trans s1) ⟨ps, hpl, he.mono fun p f h => h.same hid_to⟩ ⟨by omega, by omega, fun f hf => ?_, fun f hf s hs => by rw [hfd]; exact (hok f hf s hs).ok, by omega⟩ (fun f hf => by rw [hfd]; exact hok f hf)
     exact hHd.val f.1 (by rw [← hfd]; exact List.mem_map_of_mem hf)
theorem law_fn {fa : Addr} {fd : FuncData} (T : Txt w K mg a) (F : Fun K "law" "law" s_law fa fd) : FnOk P w K mg base CX0 18 fa fd ["_law_script"] (spLaw K) := by
 refine F.ok (k := 17) sc_law (fun vs H Q E h => ?_) (fun cdv A outer s H vs Q E hr h => ?_)
 · obtain ⟨a0, ns, rfl, _⟩ := h
   rfl
 · obtain ⟨a0, ns, rfl, hS, h63, q⟩ := h
   refine ⟨_, (pss_cons (ps_set (i := 1) sc_law.nd rfl (Or.inl rfl) (pe_callE (ok_law_program (K := K) T) (hr.mono (by decide)) pass0 rfl (pa_cons (pv 0) pa_nil)))
     (pss_cons (ps_set (i := 2) sc_law.nd rfl (Or.inl rfl) (pe_lst pa_nil))
     (pss_cons (ps_for PassesOwn.never rfl (pi_seqK (K := K) rfl (pv 1)) (pg_tupK (K := K) rfl rfl (pgs_cons (pg_name (i := 3) sc_law.nd rfl (Or.inl rfl)) (pgs_cons (pg_name (i := 4) sc_law.nd rfl (Or.inl rfl)) pgs_nil))) (pss_one (ps_set (i := 2) sc_law.nd rfl (Or.inl rfl) (pe_op (op_plusK (K := K) rfl) (pe_op (op_plusK (K := K) rfl) (pv 2) (pe_lst (pa_cons (pe_op (op_plusK (K := K) rfl) pe_str (pe_callTy call_str_int rfl T.z_str b_str (pa_cons (pv 3) pa_nil))) pa_nil))) (pe_callE (ok_law_rows (K := K) T) (hr.mono (by decide)) pass0 rfl (pa_cons (pv 4) pa_nil))))))
     (pss_cons (ps_set (i := 5) sc_law.nd rfl (Or.inl rfl) (pe_bmK (K := K) rfl PySem.F.plainAttrs_str PySem.F.slot_str_join PySem.F.type_str_join (mt_join (K := K) rfl) pe_str (pa_cons (pv 2) pa_nil)))
     (pss_cons (ps_set (i := 6) sc_law.nd rfl (Or.inl rfl) (pe_callB (call_reprK (K := K) rfl hr.gd hr.units) rfl T.z_repr b_repr (pa_cons (pv 1) pa_nil)))
     (pss_cons (ps_set (i := 7) sc_law.nd rfl (Or.inl rfl) (pe_callE (ok_shown_program (K := K) T) (hr.mono (by decide)) pass0 rfl (pa_cons (pv 1) pa_nil)))
     (pss_cons (ps_if (PW.pt (pw_or (pt_not (pt_truK (K := K) rfl (pe_callB (call_isiK (K := K) rfl) rfl T.z_isinstance b_isinstance (pa_cons (pv 7) (pa_cons (pe_bltn (v := .ty "str") rfl T.z_str b_str rfl) pa_nil))))) (pw_or (pt_cmpR (op_neK (K := K) rfl hr.units) (pv 7) (pv 5) (nomark _)) (pw_or1 (pt_cmpR (op_neK (K := K) rfl hr.units) (pe_callB (call_reprK (K := K) rfl hr.gd hr.units) rfl T.z_repr b_repr (pa_cons (pv 1) pa_nil)) (pv 6) (nomark _)))))) (pss_one ps_dead) pss_nil)
     (pss_cons (ps_if (pt_cmpR (op_neK (K := K) rfl hr.units) (pe_callE (ok_shown_program (K := K) T) (hr.mono (by decide)) pass0 rfl (pa_cons (pe_comp (own := ["_law_much", "_law_body"]) (fr := []) rfl ⟨rfl, (by walk_at "clok"), (by walk_at "frok"), rfl, (by decide +kernel), (by decide +kernel), rfl⟩ (pi_seqK (K := K) rfl (pv 1)) (fun _ _ _ _ => (pg_tupK (K := K) (n := 2) rfl rfl (pgs_cons (pg_name (i := 0) (show List.Nodup [("_law_much" : Str), ("_law_body" : Str)] from by decide +kernel) rfl (Or.inl rfl)) (pgs_cons (pg_name (i := 1) (show List.Nodup [("_law_much" : Str), ("_law_body" : Str)] from by decide +kernel) rfl (Or.inl rfl)) pgs_nil)))) (fun _ _ _ _ => pts_nil) (fun _ _ _ _ => (pe_tup (pa_cons (pv 0) (pa_cons (pe_callE (ok_law_tupled (K := K) T) (hr.mono (by decide)) pass0 rfl (pa_cons (pv 1) pa_nil)) pa_nil))))) pa_nil)) (pv 5) (nomark _)) (pss_one ps_dead) pss_nil)
     (pss_cons (ps_set (i := 8) sc_law.nd rfl (Or.inl rfl) (pe_callE (ok_read_program (K := K) T) (hr.mono (by decide)) pass0 rfl (pa_cons (pv 5) pa_nil)))
     (pss_cons (ps_if (PW.pt (pw_or (pt_not (pt_truK (K := K) rfl (pe_callB (call_isiK (K := K) rfl) rfl T.z_isinstance b_isinstance (pa_cons (pv 8) (pa_cons (pe_bltn (v := .ty "list") rfl T.z_list b_list rfl) pa_nil))))) (pw_or1 (pt_cmpR (op_neK (K := K) rfl hr.units) (pe_callB (call_reprK (K := K) rfl hr.gd hr.units) rfl T.z_repr b_repr (pa_cons (pv 8) pa_nil)) (pv 6) (nomark _))))) (pss_one ps_dead) pss_nil)
     (pss_cons (ps_expr (pe_bm0K (K := K) rfl PySem.F.plainAttrs_list PySem.F.slot_list_clear PySem.F.type_list_clear mt_clear (pv 8)))
     (pss_one (ps_ret (pe_cmpR (op_eqK (K := K) rfl hr.units) (pe_callB (call_reprK (K := K) rfl hr.gd hr.units) rfl T.z_repr b_repr (pa_cons (pe_callE (ok_read_program (K := K) T) (hr.mono (by decide)) pass0 rfl (pa_cons (pv 5) pa_nil)) pa_nil)) (pv 6) (nomark _))))))))))))))), ?_⟩
   refine r_st (σ' := [some _, none, none, none, none, none, none, none, none]) rfl ?_
   walk_at "rq"
   refine ⟨a0, ns, rfl, hS, fun pr fs H1 s1 hP O hokl => ?_⟩
   have hfw := rowsP_few O
   have hd3 : ∀ n ∈ fs.map (·.1), n ≤ 3 := fun n hn => by obtain ⟨g, hg, rfl⟩ := List.mem_map.mp hn; exact (O.hd g hg).2
   have hd8 : (fs.map (·.1)).length ≤ 8 := by rw [List.length_map]; exact O.few
   obtain ⟨ps, hpr, hps⟩ := id hP
   have hpl := hps.1
   clear hS
   walk_at "rq"
   rename_i l nl
   refine for_list (K := K) (a := pr) (xs := ps.map V.ref) (fun i σ HQ => Same H1 HQ ∧ ∃ (lr : Addr) (u v : Option V), σ = [some (.ref a0), some (.ref pr), some (.ref lr), u, v, none, none, none, none] ∧ HQ lr = some (.lst ((rowsP (fs.take i)).map rowV))) ⟨same_new nl, l, _, _, rfl, by rw [List.take_zero]; exact upd_same⟩ (fun i σ HQ _ ⟨s2, _⟩ => SqL.of (s2 _ _ hpr)) ?_ ?_
   · rintro i v σ HQ hv ⟨s2, lr, u1, u2, rfl, hl⟩
     obtain ⟨p, hx, rfl⟩ : ∃ p, ps[i]? = some p ∧ v = .ref p := by
       rw [List.getElem?_map] at hv
       obtain ⟨p, hp, e⟩ := Option.map_eq_some_iff.mp hv
       exact ⟨p, hp, e.symm⟩
     have hi : i < fs.length := by rw [← hpl]; exact (List.getElem?_eq_some_iff.mp hx).1
     have hsi : fs[i]? = some fs[i] := List.getElem?_eq_getElem hi
     obtain ⟨lb, hp, hB⟩ := hps.2 i p _ hx hsi
     have hcb : cntL 5 fs[i].2 ≤ (fs.map fun f => cntL 5 f.2).sum := sum_mem (fun f : Int × List Stm => cntL 5 f.2) (List.getElem_mem hi)
     have hc80 := O.cnt
     have hoki := hokl _ (List.getElem_mem hi)
     have hhd := O.hd _ (List.getElem_mem hi)
     have hfl : (rowsP (fs.take i)).length + 1 + (rowsL 5 fs[i].2).length ≤ (rowsP fs).length := by
       rw [rowsP_split hsi, List.length_append, List.length_cons, List.length_append]; omega
     have htk := rowsP_take hsi
     generalize fs[i] = f1 at hsi hp hB hcb hoki hhd hfl htk
     rw [htk]
     have hp2 := s2 _ _ hp
     clear hv hx
     refine r_gTup (SqT.of hp2) rfl ?_
     walk_at "rq"
     refine ⟨log_num hhd.1 (by omega), ?_⟩
     refine r_plusS (j := numS f1.1) (by have := numS_one hhd.1 (by omega); rw [sizeLine_eq]; show _ + (numS f1.1).length ≤ _; rw [this]; exact Nat.le_of_ble_eq_true rfl) ?_
     rw [t_fun]
     walk_at "rq"
     rename_i l1 n1 l2 n2
     have s3 := (same_new (o := .lst [V.str (rowX ("fun", [f1.1]))]) n1).trans (same_new (o := .lst ((rowsP (fs.take i)).map rowV ++ [V.str (rowX ("fun", [f1.1]))])) n2)
     have hB2 := s2.trans s3
     refine ⟨lb, f1.2, fs.map (·.1), rfl, by decide, hB.same hB2 (fun _ _ => StAt.same hB2), hoki, hd3, hd8, by omega, fun l5 H5 s5 n5 hl5 => ?_⟩
     have hl2 := s5 _ _ (show (upd (upd HQ l1 (.lst [V.str (rowX ("fun", [f1.1]))])) l2 (.lst ((rowsP (fs.take i)).map rowV ++ [V.str (rowX ("fun", [f1.1]))]))) l2 = _ from upd_same)
     have s6 := hB2.trans s5
     clear s5 s3 hB2 n1 n2 hl hp2 s2
     walk_at "rq"
     refine ⟨by walk_at "same", _, _, _, rfl, ?_⟩
     rw [upd_same, List.map_append, List.map_cons, List.append_assoc]; rfl
   rintro σ HQ ⟨s2, lr, u1, u2, rfl, hl⟩
   rw [List.length_map, hpl, List.take_length] at hl
   have hl : HQ lr = some (.lst (((rowsP fs).map rowX).map V.str)) := by rw [hl, List.map_map]; rfl
   have hP2 := hP.same s2
   clear s2 s1 hpr hps hP nl hfw
   walk_at "rq"
   refine r_join (SqL.of hl) (progT_join O) ?_
   rw [show PySem.Str.join "; " ((rowsP fs).map rowX) = progT fs from rfl]
   clear hl
   walk_at "rq"
   refine r_repr (dp_prog hP2) (pd_prog O).sh (pd_prog O).nd (Nat.le_trans (pd_prog O).dp (by decide)) (pd_prog O).fits ?_
   walk_at "rq"
   refine ⟨pr, fs, rfl, hP2, O, fun H3 s3 => ?_⟩
   have hP3 := hP2.same s3
   clear hP2 s3
   walk_at "rq"
   refine r_repr (dp_prog hP3) (pd_prog O).sh (pd_prog O).nd (Nat.le_trans (pd_prog O).dp (by decide)) (pd_prog O).fits ?_
   obtain ⟨ps3, hpr3, hps3⟩ := id hP3
   have hpl3 := hps3.1
   walk_at "rq"
   refine comp_list (K := K) (a := pr) (xs := ps3.map V.ref) (fun i ys σ HQ => (∃ v u, σ = [v, u]) ∧ Same H3 HQ ∧ ∃ qs : List Addr, ys = qs.map V.ref ∧ Each (FnAt HQ) qs ((fs.take i).map fun f => (f.1, f.2.map (tupS 5)))) ⟨⟨_, _, rfl⟩, Same.refl _, [], rfl, by rw [List.take_zero]; exact Each.nil⟩ (fun i ys σ HQ hi ⟨_, s5, qs, e, e2⟩ => ⟨SqL.of (s5 _ _ hpr3), by rw [e, List.length_map, e2.1, List.length_map, List.length_take, sizeLine_eq]; have := O.few; omega⟩) ?_ ?_
   · rintro i v ys σ HQ hv ⟨⟨v1, v2, rfl⟩, s5, qs, rfl, he⟩
     obtain ⟨p, hx, rfl⟩ : ∃ p, ps3[i]? = some p ∧ v = .ref p := by
       rw [List.getElem?_map] at hv
       obtain ⟨p, hp, e⟩ := Option.map_eq_some_iff.mp hv
       exact ⟨p, hp, e.symm⟩
     have hi : i < fs.length := by rw [← hpl3]; exact (List.getElem?_eq_some_iff.mp hx).1
     have hsi : fs[i]? = some fs[i] := List.getElem?_eq_getElem hi
     obtain ⟨lb, hp, hB⟩ := hps3.2 i p _ hx hsi
     have hcb : cntL 5 fs[i].2 ≤ (fs.map fun f => cntL 5 f.2).sum := sum_mem (fun f : Int × List Stm => cntL 5 f.2) (List.getElem_mem hi)
     have hc80 := O.cnt
     have hoki := hokl _ (List.getElem_mem hi)
     have htk : (fs.take (i + 1)).map (fun f => (f.1, f.2.map (tupS 5))) = (fs.take i).map (fun f => (f.1, f.2.map (tupS 5))) ++ [(fs[i].1, fs[i].2.map (tupS 5))] := by rw [List.take_add_one, hsi, Option.toList_some, List.map_append]; rfl
     generalize fs[i] = f1 at hsi hp hB hcb hoki htk
     rw [htk]
     have hp2 := s5 _ _ hp
     clear hv hx
     refine r_gTup (SqT.of hp2) rfl ?_
     walk_at "rq"
     refine ⟨lb, f1.2, fs.map (·.1), rfl, by decide, hB.same s5 (fun _ _ => StAt.same s5), hoki, by omega, hd3, fun l6 H6 s6 n6 hB6 => ?_⟩
     walk_at "rq"
     rename_i t nt
     have s7 := same_new (o := .tup [.int f1.1, .ref l6]) nt
     have s8 := (nw_to (H := HQ) (H' := H6)).trans s7
     refine ⟨⟨_, _, rfl⟩, s5.trans (s6.trans s7), qs ++ [t], by rw [List.map_append]; rfl, Each.snoc (he.mono fun p f h => h.same (s6.trans s7)) ⟨l6, upd_same, hB6.same s8 (fun _ _ => StAt.same s8)⟩⟩
   rintro ys σ HQ ⟨_, s5, qs, rfl, he⟩ lp nlp
   rw [List.length_map, hpl3, List.take_length] at he
   have s6 := same_new (o := .lst (qs.map V.ref)) nlp
   have hPT : ProgAt (upd HQ lp (.lst (qs.map V.ref))) lp (tupP fs) := ⟨qs, upd_same, he.mono fun p f h => h.same s6⟩
   clear he s6
   walk_at "rq"
   refine ⟨lp, tupP fs, rfl, hPT, tupP_ok O, fun H6 s6 => ?_⟩
   rw [progT_tup]
   clear hPT
   walk_at "rq"
   refine ⟨fs, rfl, O, hokl, fun l7 H7 s7 n7 hP7 => ?_⟩
   obtain ⟨ps7, hl7, _⟩ := id hP7
   walk_at "rq"
   refine r_repr (dp_prog hP7) (pd_prog O).sh (pd_prog O).nd (Nat.le_trans (pd_prog O).dp (by decide)) (pd_prog O).fits ?_
   walk_at "rq"
   refine ⟨fs, rfl, O, hokl, fun l8 H8 s8 n8 hP8 => ?_⟩
   walk_at "rq"
   refine r_repr (dp_prog hP8) (pd_prog O).sh (pd_prog O).nd (Nat.le_trans (pd_prog O).dp (by decide)) (pd_prog O).fits ?_
   walk_at "rq"
   rw [decide_eq_true rfl]
   exact q _
end
set_option maxHeartbeats 8000000 in
theorem txt_mk {w : World} {K : PySem.W.Frag} {h : Heap} {mg : Str → Option Value} {fa : Addr} (X : K.In h) (G : h.Ns mainGlobals mg) (hfa : mg "law" = some (.ref fa))
   {G_AHEAD_OF_NAMES : Addr} {ep_AHEAD_OF_NAMES : Nat}
   {tk1 tk2 : Tok}
   {tk3 tk4 : Tok}
   {G_COUNTS : Addr} {ep_COUNTS : Nat}
   {tk5 tk6 : Tok}
   {tk7 tk8 : Tok}
   {tk9 tk10 : Tok}
   {tk11 tk12 : Tok}
   {tk13 tk14 : Tok}
   {tk15 tk16 : Tok}
   {tk17 tk18 : Tok}
   {tk19 tk20 : Tok}
   {tk21 tk22 : Tok}
   {tk23 tk24 : Tok}
   {tk25 tk26 : Tok}
   {tk27 tk28 : Tok}
   {tk29 tk30 : Tok}
   {tk31 tk32 : Tok}
   {tk33 tk34 : Tok}
   {t_FIGURES : Tok}
   {t_MOST_FIGURES : Tok}
   {tk35 : Tok}
   {tk36 : Tok}
   {tk37 : Tok}
   {tk38 : Tok}
   {tk39 : Tok}
   {od40 : Option Addr} {nn40 : Nat} {sl40 : Array (Option Value)}
   {G_NO_STATEMENT : Addr}
   {t_PARTING : Tok}
   {G_PARTS : Addr} {ep_PARTS : Nat}
   {tk41 : Tok} {q0_PARTS : Addr}
   {tk42 : Tok}
   {tk43 : Tok}
   {od44 : Option Addr} {nn44 : Nat} {sl44 : Array (Option Value)}
   {tk45 : Tok} {q1_PARTS : Addr}
   {tk46 : Tok}
   {tk47 : Tok}
   {od48 : Option Addr} {nn48 : Nat} {sl48 : Array (Option Value)}
   {tk49 : Tok} {q2_PARTS : Addr}
   {tk50 : Tok}
   {tk51 : Tok}
   {tk52 : Tok}
   {od53 : Option Addr} {nn53 : Nat} {sl53 : Array (Option Value)}
   {tk54 : Tok} {q3_PARTS : Addr}
   {tk55 : Tok}
   {tk56 : Tok}
   {tk57 : Tok}
   {od58 : Option Addr} {nn58 : Nat} {sl58 : Array (Option Value)}
   {tk59 : Tok} {q4_PARTS : Addr}
   {tk60 : Tok}
   {tk61 : Tok}
   {tk62 : Tok}
   {od63 : Option Addr} {nn63 : Nat} {sl63 : Array (Option Value)}
   {tk64 : Tok} {q5_PARTS : Addr}
   {tk65 : Tok}
   {tk66 : Tok}
   {tk67 : Tok}
   {od68 : Option Addr} {nn68 : Nat} {sl68 : Array (Option Value)}
   {tk69 : Tok} {q6_PARTS : Addr}
   {tk70 : Tok}
   {tk71 : Tok}
   {tk72 : Tok}
   {od73 : Option Addr} {nn73 : Nat} {sl73 : Array (Option Value)}
   {tk74 : Tok} {q7_PARTS : Addr}
   {tk75 : Tok}
   {tk76 : Tok}
   {tk77 : Tok}
   {od78 : Option Addr} {nn78 : Nat} {sl78 : Array (Option Value)}
   {tk79 : Tok} {q8_PARTS : Addr}
   {tk80 : Tok}
   {tk81 : Tok}
   {od82 : Option Addr} {nn82 : Nat} {sl82 : Array (Option Value)}
   {tk83 : Tok} {q9_PARTS : Addr}
   {tk84 : Tok}
   {tk85 : Tok}
   {tk86 : Tok}
   {od87 : Option Addr} {nn87 : Nat} {sl87 : Array (Option Value)}
   {tk88 : Tok} {q10_PARTS : Addr}
   {tk89 : Tok}
   {od90 : Option Addr} {nn90 : Nat} {sl90 : Array (Option Value)}
   {tk91 : Tok} {q11_PARTS : Addr}
   {tk92 : Tok}
   {od93 : Option Addr} {nn93 : Nat} {sl93 : Array (Option Value)}
   {tk94 : Tok} {q12_PARTS : Addr}
   {tk95 : Tok}
   {tk96 : Tok}
   {od97 : Option Addr} {nn97 : Nat} {sl97 : Array (Option Value)}
   {t_TOP_FUNCTIONS : Tok}
   {t_TOP_HANDED : Tok}
   {t_TOP_NAME : Tok}
   {t_TOP_READ_WITHIN : Tok}
   {t_TOP_SIGNS : Tok}
   {t_TOP_STATEMENTS : Tok}
   {t_TOP_VALUE : Tok}
   {t_TOP_WITHIN : Tok}
   {C_NoProgram : Addr}
   {C_NoText : Addr}
   {C_ProgramRows : Addr}
   {f98 : Addr} {od98 an98 : Option Addr} {sl98 : Array (Option Value)} {oc98 kV98 dc98 pm98 cd98 ct98 : Value}
   {f99 : Addr} {od99 an99 : Option Addr} {sl99 : Array (Option Value)} {oc99 kV99 dc99 pm99 cd99 ct99 : Value}
   {f100 : Addr} {od100 an100 : Option Addr} {sl100 : Array (Option Value)} {oc100 kV100 dc100 pm100 cd100 ct100 : Value}
   {f101 : Addr} {od101 an101 : Option Addr} {sl101 : Array (Option Value)} {oc101 kV101 dc101 pm101 cd101 ct101 : Value}
   {f102 : Addr} {od102 an102 : Option Addr} {sl102 : Array (Option Value)} {oc102 kV102 dc102 pm102 cd102 ct102 : Value}
   {f103 : Addr} {od103 an103 : Option Addr} {sl103 : Array (Option Value)} {oc103 kV103 dc103 pm103 cd103 ct103 : Value}
   {f104 : Addr} {od104 an104 : Option Addr} {sl104 : Array (Option Value)} {oc104 kV104 dc104 pm104 cd104 ct104 : Value}
   {f105 : Addr} {od105 an105 : Option Addr} {sl105 : Array (Option Value)} {oc105 kV105 dc105 pm105 cd105 ct105 : Value}
   {f106 : Addr} {od106 an106 : Option Addr} {sl106 : Array (Option Value)} {oc106 kV106 dc106 pm106 cd106 ct106 : Value}
   {f107 : Addr} {od107 an107 : Option Addr} {sl107 : Array (Option Value)} {oc107 kV107 dc107 pm107 cd107 ct107 : Value}
   {f108 : Addr} {od108 an108 : Option Addr} {sl108 : Array (Option Value)} {oc108 kV108 dc108 pm108 cd108 ct108 : Value}
   {f109 : Addr} {od109 an109 : Option Addr} {sl109 : Array (Option Value)} {oc109 kV109 dc109 pm109 cd109 ct109 : Value}
   {f110 : Addr} {od110 an110 : Option Addr} {sl110 : Array (Option Value)} {oc110 kV110 dc110 pm110 cd110 ct110 : Value}
   {f111 : Addr} {od111 an111 : Option Addr} {sl111 : Array (Option Value)} {oc111 kV111 dc111 pm111 cd111 ct111 : Value}
   {f112 : Addr} {od112 an112 : Option Addr} {sl112 : Array (Option Value)} {oc112 kV112 dc112 pm112 cd112 ct112 : Value}
   {f113 : Addr} {od113 an113 : Option Addr} {sl113 : Array (Option Value)} {oc113 kV113 dc113 pm113 cd113 ct113 : Value}
   {f114 : Addr} {od114 an114 : Option Addr} {sl114 : Array (Option Value)} {oc114 kV114 dc114 pm114 cd114 ct114 : Value}
   {f115 : Addr} {od115 an115 : Option Addr} {sl115 : Array (Option Value)} {oc115 kV115 dc115 pm115 cd115 ct115 : Value}
   {f116 : Addr} {od116 an116 : Option Addr} {sl116 : Array (Option Value)} {oc116 kV116 dc116 pm116 cd116 ct116 : Value}
   {f117 : Addr} {od117 an117 : Option Addr} {sl117 : Array (Option Value)} {oc117 kV117 dc117 pm117 cd117 ct117 : Value}
   {f118 : Addr} {od118 an118 : Option Addr} {sl118 : Array (Option Value)} {oc118 kV118 dc118 pm118 cd118 ct118 : Value}
   {f119 : Addr} {od119 an119 : Option Addr} {sl119 : Array (Option Value)} {oc119 kV119 dc119 pm119 cd119 ct119 : Value}
   {f120 : Addr} {od120 an120 : Option Addr} {sl120 : Array (Option Value)} {oc120 kV120 dc120 pm120 cd120 ct120 : Value}
   {f121 : Addr} {od121 an121 : Option Addr} {sl121 : Array (Option Value)} {oc121 kV121 dc121 pm121 cd121 ct121 : Value}
   {f122 : Addr} {od122 an122 : Option Addr} {sl122 : Array (Option Value)} {oc122 kV122 dc122 pm122 cd122 ct122 : Value}
   {f123 : Addr} {od123 an123 : Option Addr} {sl123 : Array (Option Value)} {oc123 kV123 dc123 pm123 cd123 ct123 : Value}
   {f124 : Addr} {od124 an124 : Option Addr} {sl124 : Array (Option Value)} {oc124 kV124 dc124 pm124 cd124 ct124 : Value}
   {f125 : Addr} {od125 an125 : Option Addr} {sl125 : Array (Option Value)} {oc125 kV125 dc125 pm125 cd125 ct125 : Value}
   {f126 : Addr} {od126 an126 : Option Addr} {sl126 : Array (Option Value)} {oc126 kV126 dc126 pm126 cd126 ct126 : Value}
   {f127 : Addr} {od127 an127 : Option Addr} {sl127 : Array (Option Value)} {oc127 kV127 dc127 pm127 cd127 ct127 : Value}
   {f128 : Addr} {od128 an128 : Option Addr} {sl128 : Array (Option Value)} {oc128 kV128 dc128 pm128 cd128 ct128 : Value}
   {f129 : Addr} {od129 an129 : Option Addr} {sl129 : Array (Option Value)} {oc129 kV129 dc129 pm129 cd129 ct129 : Value}
   {f130 : Addr} {od130 an130 : Option Addr} {sl130 : Array (Option Value)} {oc130 kV130 dc130 pm130 cd130 ct130 : Value}
   {f131 : Addr} {od131 an131 : Option Addr} {sl131 : Array (Option Value)} {oc131 kV131 dc131 pm131 cd131 ct131 : Value}
   {f132 : Addr} {od132 an132 : Option Addr} {sl132 : Array (Option Value)} {oc132 kV132 dc132 pm132 cd132 ct132 : Value}
   {f133 : Addr} {od133 an133 : Option Addr} {sl133 : Array (Option Value)} {oc133 kV133 dc133 pm133 cd133 ct133 : Value}
   {f134 : Addr} {od134 an134 : Option Addr} {sl134 : Array (Option Value)} {oc134 kV134 dc134 pm134 cd134 ct134 : Value}
   {f135 : Addr} {od135 an135 : Option Addr} {sl135 : Array (Option Value)} {oc135 kV135 dc135 pm135 cd135 ct135 : Value}
   (z_all : PySem.W.nsIn K mainGlobals "all" = some none)
   (z_bool : PySem.W.nsIn K mainGlobals "bool" = some none)
   (z_int : PySem.W.nsIn K mainGlobals "int" = some none)
   (z_isinstance : PySem.W.nsIn K mainGlobals "isinstance" = some none)
   (z_len : PySem.W.nsIn K mainGlobals "len" = some none)
   (z_list : PySem.W.nsIn K mainGlobals "list" = some none)
   (z_range : PySem.W.nsIn K mainGlobals "range" = some none)
   (z_repr : PySem.W.nsIn K mainGlobals "repr" = some none)
   (z_str : PySem.W.nsIn K mainGlobals "str" = some none)
   (z_tuple : PySem.W.nsIn K mainGlobals "tuple" = some none)
   (z_zip : PySem.W.nsIn K mainGlobals "zip" = some none)
   (g_AHEAD_OF_NAMES : PySem.W.nsIn K mainGlobals "AHEAD_OF_NAMES" = some (some (.ref G_AHEAD_OF_NAMES)))
   (l_AHEAD_OF_NAMES : K.lookup G_AHEAD_OF_NAMES = some ⟨.type "dict", none, .dict #[{ hash := PyData.keyHash w.params "call", key := .str "call" tk1, val := .int 2 tk2 }, { hash := PyData.keyHash w.params "hand", key := .str "hand" tk3, val := .int 1 tk4 }] ep_AHEAD_OF_NAMES, #[]⟩)
   (y_AHEAD_OF_NAMES : (G_AHEAD_OF_NAMES == sysModules) = false)
   (g_COUNTS : PySem.W.nsIn K mainGlobals "COUNTS" = some (some (.ref G_COUNTS)))
   (l_COUNTS : K.lookup G_COUNTS = some ⟨.type "dict", none, .dict #[{ hash := PyData.keyHash w.params "fun", key := .str "fun" tk5, val := .int 1 tk6 }, { hash := PyData.keyHash w.params "set", key := .str "set" tk7, val := .int 2 tk8 }, { hash := PyData.keyHash w.params "copy", key := .str "copy" tk9, val := .int 2 tk10 }, { hash := PyData.keyHash w.params "sum", key := .str "sum" tk11, val := .int 3 tk12 }, { hash := PyData.keyHash w.params "minus", key := .str "minus" tk13, val := .int 3 tk14 }, { hash := PyData.keyHash w.params "product", key := .str "product" tk15, val := .int 3 tk16 }, { hash := PyData.keyHash w.params "less", key := .str "less" tk17, val := .int 3 tk18 }, { hash := PyData.keyHash w.params "drop", key := .str "drop" tk19, val := .int 1 tk20 }, { hash := PyData.keyHash w.params "give", key := .str "give" tk21, val := .int 1 tk22 }, { hash := PyData.keyHash w.params "if", key := .str "if" tk23, val := .int 1 tk24 }, { hash := PyData.keyHash w.params "else", key := .str "else" tk25, val := .int 0 tk26 }, { hash := PyData.keyHash w.params "while", key := .str "while" tk27, val := .int 1 tk28 }, { hash := PyData.keyHash w.params "try", key := .str "try" tk29, val := .int 0 tk30 }, { hash := PyData.keyHash w.params "landing", key := .str "landing" tk31, val := .int 1 tk32 }, { hash := PyData.keyHash w.params "end", key := .str "end" tk33, val := .int 0 tk34 }] ep_COUNTS, #[]⟩)
   (y_COUNTS : (G_COUNTS == sysModules) = false)
   (g_FIGURES : PySem.W.nsIn K mainGlobals "FIGURES" = some (some (Value.str "0123456789" t_FIGURES)))
   (g_MOST_FIGURES : PySem.W.nsIn K mainGlobals "MOST_FIGURES" = some (some (Value.int 10 t_MOST_FIGURES)))
   (g_NO_STATEMENT : PySem.W.nsIn K mainGlobals "NO_STATEMENT" = some (some (.ref G_NO_STATEMENT)))
   (t40_NO_STATEMENT : K.lookup G_NO_STATEMENT = some ⟨.type "tuple", od40, .seq #[.str "fun" tk35, .str "else" tk36, .str "landing" tk37, .str "end" tk38, .str "" tk39] nn40, sl40⟩)
   (g_PARTING : PySem.W.nsIn K mainGlobals "PARTING" = some (some (Value.str "; " t_PARTING)))
   (g_PARTS : PySem.W.nsIn K mainGlobals "PARTS" = some (some (.ref G_PARTS)))
   (l_PARTS : K.lookup G_PARTS = some ⟨.type "dict", none, .dict #[{ hash := PyData.keyHash w.params "set", key := .str "set" tk41, val := .ref q0_PARTS }, { hash := PyData.keyHash w.params "copy", key := .str "copy" tk45, val := .ref q1_PARTS }, { hash := PyData.keyHash w.params "sum", key := .str "sum" tk49, val := .ref q2_PARTS }, { hash := PyData.keyHash w.params "minus", key := .str "minus" tk54, val := .ref q3_PARTS }, { hash := PyData.keyHash w.params "product", key := .str "product" tk59, val := .ref q4_PARTS }, { hash := PyData.keyHash w.params "less", key := .str "less" tk64, val := .ref q5_PARTS }, { hash := PyData.keyHash w.params "call", key := .str "call" tk69, val := .ref q6_PARTS }, { hash := PyData.keyHash w.params "if", key := .str "if" tk74, val := .ref q7_PARTS }, { hash := PyData.keyHash w.params "while", key := .str "while" tk79, val := .ref q8_PARTS }, { hash := PyData.keyHash w.params "try", key := .str "try" tk83, val := .ref q9_PARTS }, { hash := PyData.keyHash w.params "drop", key := .str "drop" tk88, val := .ref q10_PARTS }, { hash := PyData.keyHash w.params "give", key := .str "give" tk91, val := .ref q11_PARTS }, { hash := PyData.keyHash w.params "hand", key := .str "hand" tk94, val := .ref q12_PARTS }] ep_PARTS, #[]⟩)
   (y_PARTS : (G_PARTS == sysModules) = false)
   (t44_PARTS : K.lookup q0_PARTS = some ⟨.type "tuple", od44, .seq #[.str "name" tk42, .str "value" tk43] nn44, sl44⟩)
   (t48_PARTS : K.lookup q1_PARTS = some ⟨.type "tuple", od48, .seq #[.str "name" tk46, .str "name" tk47] nn48, sl48⟩)
   (t53_PARTS : K.lookup q2_PARTS = some ⟨.type "tuple", od53, .seq #[.str "name" tk50, .str "name" tk51, .str "name" tk52] nn53, sl53⟩)
   (t58_PARTS : K.lookup q3_PARTS = some ⟨.type "tuple", od58, .seq #[.str "name" tk55, .str "name" tk56, .str "name" tk57] nn58, sl58⟩)
   (t63_PARTS : K.lookup q4_PARTS = some ⟨.type "tuple", od63, .seq #[.str "name" tk60, .str "name" tk61, .str "name" tk62] nn63, sl63⟩)
   (t68_PARTS : K.lookup q5_PARTS = some ⟨.type "tuple", od68, .seq #[.str "name" tk65, .str "name" tk66, .str "name" tk67] nn68, sl68⟩)
   (t73_PARTS : K.lookup q6_PARTS = some ⟨.type "tuple", od73, .seq #[.str "name" tk70, .str "function" tk71, .str "names" tk72] nn73, sl73⟩)
   (t78_PARTS : K.lookup q7_PARTS = some ⟨.type "tuple", od78, .seq #[.str "name" tk75, .str "statements" tk76, .str "statements" tk77] nn78, sl78⟩)
   (t82_PARTS : K.lookup q8_PARTS = some ⟨.type "tuple", od82, .seq #[.str "name" tk80, .str "statements" tk81] nn82, sl82⟩)
   (t87_PARTS : K.lookup q9_PARTS = some ⟨.type "tuple", od87, .seq #[.str "statements" tk84, .str "name" tk85, .str "statements" tk86] nn87, sl87⟩)
   (t90_PARTS : K.lookup q10_PARTS = some ⟨.type "tuple", od90, .seq #[.str "name" tk89] nn90, sl90⟩)
   (t93_PARTS : K.lookup q11_PARTS = some ⟨.type "tuple", od93, .seq #[.str "name" tk92] nn93, sl93⟩)
   (t97_PARTS : K.lookup q12_PARTS = some ⟨.type "tuple", od97, .seq #[.str "function" tk95, .str "names" tk96] nn97, sl97⟩)
   (g_TOP_FUNCTIONS : PySem.W.nsIn K mainGlobals "TOP_FUNCTIONS" = some (some (Value.int 8 t_TOP_FUNCTIONS)))
   (g_TOP_HANDED : PySem.W.nsIn K mainGlobals "TOP_HANDED" = some (some (Value.int 3 t_TOP_HANDED)))
   (g_TOP_NAME : PySem.W.nsIn K mainGlobals "TOP_NAME" = some (some (Value.int 5 t_TOP_NAME)))
   (g_TOP_READ_WITHIN : PySem.W.nsIn K mainGlobals "TOP_READ_WITHIN" = some (some (Value.int 40 t_TOP_READ_WITHIN)))
   (g_TOP_SIGNS : PySem.W.nsIn K mainGlobals "TOP_SIGNS" = some (some (Value.int 8000 t_TOP_SIGNS)))
   (g_TOP_STATEMENTS : PySem.W.nsIn K mainGlobals "TOP_STATEMENTS" = some (some (Value.int 80 t_TOP_STATEMENTS)))
   (g_TOP_VALUE : PySem.W.nsIn K mainGlobals "TOP_VALUE" = some (some (Value.int 4294967295 t_TOP_VALUE)))
   (g_TOP_WITHIN : PySem.W.nsIn K mainGlobals "TOP_WITHIN" = some (some (Value.int 4 t_TOP_WITHIN)))
   (c_NoProgram : PySem.W.nsIn K mainGlobals "NoProgram" = some (some (.ref C_NoProgram)))
   (c_NoText : PySem.W.nsIn K mainGlobals "NoText" = some (some (.ref C_NoText)))
   (c_ProgramRows : PySem.W.nsIn K mainGlobals "ProgramRows" = some (some (.ref C_ProgramRows)))
   (pg_ProgramRows : PySem.W.plainGet K C_ProgramRows Str.empty = true)
   (hd_ProgramRows : PySem.W.hasDictIn K C_ProgramRows = true)
   (po_ProgramRows : PySem.W.plainOver K C_ProgramRows = true)
   (sa_ProgramRows : PySem.W.findIn K (.ref C_ProgramRows) "__setattr__" = some (some (.builtin "object.__setattr__")))
   (mk_ProgramRows : PySem.W.makesIn K C_ProgramRows = true)
   (kc_ProgramRows : PySem.W.keepIn K (.ref C_ProgramRows) = true)
   (n_ProgramRows_rows : PySem.W.findIn K (.ref C_ProgramRows) "rows" = some none)
   (n_ProgramRows_mark : PySem.W.findIn K (.ref C_ProgramRows) "mark" = some none)
   (a98 : PySem.W.findIn K (.ref C_ProgramRows) "__init__" = some (some (.ref f98)))
   (i98 : PySem.W.isFn K (.ref f98) = true)
   (l98 : K.lookup f98 = some ⟨oc98, od98, .func (PySem.W.fnOf "__init__" "ProgramRows.__init__" (defArgs s_ProgramRows_init) (defBody s_ProgramRows_init) (defScope s_ProgramRows_init) .none kV98 dc98 pm98 an98 cd98 ct98), sl98⟩)
   (c98 : PySem.W.codeIn K cd98 "ProgramRows.__init__" = true) (k98 : PySem.W.keepIn K (.ref f98) = true)
   (a99 : PySem.W.findIn K (.ref C_ProgramRows) "functions" = some (some (.ref f99)))
   (i99 : PySem.W.isFn K (.ref f99) = true)
   (l99 : K.lookup f99 = some ⟨oc99, od99, .func (PySem.W.fnOf "functions" "ProgramRows.functions" (defArgs s_ProgramRows_functions) (defBody s_ProgramRows_functions) (defScope s_ProgramRows_functions) .none kV99 dc99 pm99 an99 cd99 ct99), sl99⟩)
   (c99 : PySem.W.codeIn K cd99 "ProgramRows.functions" = true) (k99 : PySem.W.keepIn K (.ref f99) = true)
   (a100 : PySem.W.findIn K (.ref C_ProgramRows) "next_word" = some (some (.ref f100)))
   (i100 : PySem.W.isFn K (.ref f100) = true)
   (l100 : K.lookup f100 = some ⟨oc100, od100, .func (PySem.W.fnOf "next_word" "ProgramRows.next_word" (defArgs s_ProgramRows_next_word) (defBody s_ProgramRows_next_word) (defScope s_ProgramRows_next_word) .none kV100 dc100 pm100 an100 cd100 ct100), sl100⟩)
   (c100 : PySem.W.codeIn K cd100 "ProgramRows.next_word" = true) (k100 : PySem.W.keepIn K (.ref f100) = true)
   (a101 : PySem.W.findIn K (.ref C_ProgramRows) "statement" = some (some (.ref f101)))
   (i101 : PySem.W.isFn K (.ref f101) = true)
   (l101 : K.lookup f101 = some ⟨oc101, od101, .func (PySem.W.fnOf "statement" "ProgramRows.statement" (defArgs s_ProgramRows_statement) (defBody s_ProgramRows_statement) (defScope s_ProgramRows_statement) .none kV101 dc101 pm101 an101 cd101 ct101), sl101⟩)
   (c101 : PySem.W.codeIn K cd101 "ProgramRows.statement" = true) (k101 : PySem.W.keepIn K (.ref f101) = true)
   (a102 : PySem.W.findIn K (.ref C_ProgramRows) "statements" = some (some (.ref f102)))
   (i102 : PySem.W.isFn K (.ref f102) = true)
   (l102 : K.lookup f102 = some ⟨oc102, od102, .func (PySem.W.fnOf "statements" "ProgramRows.statements" (defArgs s_ProgramRows_statements) (defBody s_ProgramRows_statements) (defScope s_ProgramRows_statements) .none kV102 dc102 pm102 an102 cd102 ct102), sl102⟩)
   (c102 : PySem.W.codeIn K cd102 "ProgramRows.statements" = true) (k102 : PySem.W.keepIn K (.ref f102) = true)
   (a103 : PySem.W.findIn K (.ref C_ProgramRows) "take_row" = some (some (.ref f103)))
   (i103 : PySem.W.isFn K (.ref f103) = true)
   (l103 : K.lookup f103 = some ⟨oc103, od103, .func (PySem.W.fnOf "take_row" "ProgramRows.take_row" (defArgs s_ProgramRows_take_row) (defBody s_ProgramRows_take_row) (defScope s_ProgramRows_take_row) .none kV103 dc103 pm103 an103 cd103 ct103), sl103⟩)
   (c103 : PySem.W.codeIn K cd103 "ProgramRows.take_row" = true) (k103 : PySem.W.keepIn K (.ref f103) = true)
   (k_int_int : PySem.W.kitOne K (.type "int") (.type "int") = some true)
   (k_int_bool : PySem.W.kitOne K (.type "int") (.type "bool") = some false)
   (k_tuple_tuple : PySem.W.kitOne K (.type "tuple") (.type "tuple") = some true)
   (k_str_str : PySem.W.kitOne K (.type "str") (.type "str") = some true)
   (k_list_list : PySem.W.kitOne K (.type "list") (.type "list") = some true)
   (k_tuple_list : PySem.W.kitOne K (.type "tuple") (.type "list") = some false)
   (a104 : PySem.W.nsIn K mainGlobals "is_number" = some (some (.ref f104)))
   (l104 : K.lookup f104 = some ⟨oc104, od104, .func (PySem.W.fnOf "is_number" "is_number" (defArgs s_is_number) (defBody s_is_number) (defScope s_is_number) .none kV104 dc104 pm104 an104 cd104 ct104), sl104⟩)
   (c104 : PySem.W.codeIn K cd104 "is_number" = true) (k104 : PySem.W.keepIn K (.ref f104) = true)
   (a105 : PySem.W.nsIn K mainGlobals "read_number" = some (some (.ref f105)))
   (l105 : K.lookup f105 = some ⟨oc105, od105, .func (PySem.W.fnOf "read_number" "read_number" (defArgs s_read_number) (defBody s_read_number) (defScope s_read_number) .none kV105 dc105 pm105 an105 cd105 ct105), sl105⟩)
   (c105 : PySem.W.codeIn K cd105 "read_number" = true) (k105 : PySem.W.keepIn K (.ref f105) = true)
   (a106 : PySem.W.nsIn K mainGlobals "is_whole" = some (some (.ref f106)))
   (l106 : K.lookup f106 = some ⟨oc106, od106, .func (PySem.W.fnOf "is_whole" "is_whole" (defArgs s_is_whole) (defBody s_is_whole) (defScope s_is_whole) .none kV106 dc106 pm106 an106 cd106 ct106), sl106⟩)
   (c106 : PySem.W.codeIn K cd106 "is_whole" = true) (k106 : PySem.W.keepIn K (.ref f106) = true)
   (a107 : PySem.W.nsIn K mainGlobals "asked_for_text" = some (some (.ref f107)))
   (l107 : K.lookup f107 = some ⟨oc107, od107, .func (PySem.W.fnOf "asked_for_text" "asked_for_text" (defArgs s_asked_for_text) (defBody s_asked_for_text) (defScope s_asked_for_text) .none kV107 dc107 pm107 an107 cd107 ct107), sl107⟩)
   (c107 : PySem.W.codeIn K cd107 "asked_for_text" = true) (k107 : PySem.W.keepIn K (.ref f107) = true)
   (a108 : PySem.W.nsIn K mainGlobals "is_up_to" = some (some (.ref f108)))
   (l108 : K.lookup f108 = some ⟨oc108, od108, .func (PySem.W.fnOf "is_up_to" "is_up_to" (defArgs s_is_up_to) (defBody s_is_up_to) (defScope s_is_up_to) .none kV108 dc108 pm108 an108 cd108 ct108), sl108⟩)
   (c108 : PySem.W.codeIn K cd108 "is_up_to" = true) (k108 : PySem.W.keepIn K (.ref f108) = true)
   (a109 : PySem.W.nsIn K mainGlobals "is_name" = some (some (.ref f109)))
   (l109 : K.lookup f109 = some ⟨oc109, od109, .func (PySem.W.fnOf "is_name" "is_name" (defArgs s_is_name) (defBody s_is_name) (defScope s_is_name) .none kV109 dc109 pm109 an109 cd109 ct109), sl109⟩)
   (c109 : PySem.W.codeIn K cd109 "is_name" = true) (k109 : PySem.W.keepIn K (.ref f109) = true)
   (a110 : PySem.W.nsIn K mainGlobals "are_names" = some (some (.ref f110)))
   (l110 : K.lookup f110 = some ⟨oc110, od110, .func (PySem.W.fnOf "are_names" "are_names" (defArgs s_are_names) (defBody s_are_names) (defScope s_are_names) .none kV110 dc110 pm110 an110 cd110 ct110), sl110⟩)
   (c110 : PySem.W.codeIn K cd110 "are_names" = true) (k110 : PySem.W.keepIn K (.ref f110) = true)
   (a111 : PySem.W.nsIn K mainGlobals "is_part" = some (some (.ref f111)))
   (l111 : K.lookup f111 = some ⟨oc111, od111, .func (PySem.W.fnOf "is_part" "is_part" (defArgs s_is_part) (defBody s_is_part) (defScope s_is_part) .none kV111 dc111 pm111 an111 cd111 ct111), sl111⟩)
   (c111 : PySem.W.codeIn K cd111 "is_part" = true) (k111 : PySem.W.keepIn K (.ref f111) = true)
   (a112 : PySem.W.nsIn K mainGlobals "is_statement" = some (some (.ref f112)))
   (l112 : K.lookup f112 = some ⟨oc112, od112, .func (PySem.W.fnOf "is_statement" "is_statement" (defArgs s_is_statement) (defBody s_is_statement) (defScope s_is_statement) .none kV112 dc112 pm112 an112 cd112 ct112), sl112⟩)
   (c112 : PySem.W.codeIn K cd112 "is_statement" = true) (k112 : PySem.W.keepIn K (.ref f112) = true)
   (a113 : PySem.W.nsIn K mainGlobals "lists_within" = some (some (.ref f113)))
   (l113 : K.lookup f113 = some ⟨oc113, od113, .func (PySem.W.fnOf "lists_within" "lists_within" (defArgs s_lists_within) (defBody s_lists_within) (defScope s_lists_within) .none kV113 dc113 pm113 an113 cd113 ct113), sl113⟩)
   (c113 : PySem.W.codeIn K cd113 "lists_within" = true) (k113 : PySem.W.keepIn K (.ref f113) = true)
   (a114 : PySem.W.nsIn K mainGlobals "are_statements" = some (some (.ref f114)))
   (l114 : K.lookup f114 = some ⟨oc114, od114, .func (PySem.W.fnOf "are_statements" "are_statements" (defArgs s_are_statements) (defBody s_are_statements) (defScope s_are_statements) .none kV114 dc114 pm114 an114 cd114 ct114), sl114⟩)
   (c114 : PySem.W.codeIn K cd114 "are_statements" = true) (k114 : PySem.W.keepIn K (.ref f114) = true)
   (a115 : PySem.W.nsIn K mainGlobals "is_function" = some (some (.ref f115)))
   (l115 : K.lookup f115 = some ⟨oc115, od115, .func (PySem.W.fnOf "is_function" "is_function" (defArgs s_is_function) (defBody s_is_function) (defScope s_is_function) .none kV115 dc115 pm115 an115 cd115 ct115), sl115⟩)
   (c115 : PySem.W.codeIn K cd115 "is_function" = true) (k115 : PySem.W.keepIn K (.ref f115) = true)
   (a116 : PySem.W.nsIn K mainGlobals "is_program" = some (some (.ref f116)))
   (l116 : K.lookup f116 = some ⟨oc116, od116, .func (PySem.W.fnOf "is_program" "is_program" (defArgs s_is_program) (defBody s_is_program) (defScope s_is_program) .none kV116 dc116 pm116 an116 cd116 ct116), sl116⟩)
   (c116 : PySem.W.codeIn K cd116 "is_program" = true) (k116 : PySem.W.keepIn K (.ref f116) = true)
   (a117 : PySem.W.nsIn K mainGlobals "asked_for_program" = some (some (.ref f117)))
   (l117 : K.lookup f117 = some ⟨oc117, od117, .func (PySem.W.fnOf "asked_for_program" "asked_for_program" (defArgs s_asked_for_program) (defBody s_asked_for_program) (defScope s_asked_for_program) .none kV117 dc117 pm117 an117 cd117 ct117), sl117⟩)
   (c117 : PySem.W.codeIn K cd117 "asked_for_program" = true) (k117 : PySem.W.keepIn K (.ref f117) = true)
   (a118 : PySem.W.nsIn K mainGlobals "shown_row" = some (some (.ref f118)))
   (l118 : K.lookup f118 = some ⟨oc118, od118, .func (PySem.W.fnOf "shown_row" "shown_row" (defArgs s_shown_row) (defBody s_shown_row) (defScope s_shown_row) .none kV118 dc118 pm118 an118 cd118 ct118), sl118⟩)
   (c118 : PySem.W.codeIn K cd118 "shown_row" = true) (k118 : PySem.W.keepIn K (.ref f118) = true)
   (a119 : PySem.W.nsIn K mainGlobals "shown_statement" = some (some (.ref f119)))
   (l119 : K.lookup f119 = some ⟨oc119, od119, .func (PySem.W.fnOf "shown_statement" "shown_statement" (defArgs s_shown_statement) (defBody s_shown_statement) (defScope s_shown_statement) .none kV119 dc119 pm119 an119 cd119 ct119), sl119⟩)
   (c119 : PySem.W.codeIn K cd119 "shown_statement" = true) (k119 : PySem.W.keepIn K (.ref f119) = true)
   (a120 : PySem.W.nsIn K mainGlobals "shown_statements" = some (some (.ref f120)))
   (l120 : K.lookup f120 = some ⟨oc120, od120, .func (PySem.W.fnOf "shown_statements" "shown_statements" (defArgs s_shown_statements) (defBody s_shown_statements) (defScope s_shown_statements) .none kV120 dc120 pm120 an120 cd120 ct120), sl120⟩)
   (c120 : PySem.W.codeIn K cd120 "shown_statements" = true) (k120 : PySem.W.keepIn K (.ref f120) = true)
   (a121 : PySem.W.nsIn K mainGlobals "shown_program" = some (some (.ref f121)))
   (l121 : K.lookup f121 = some ⟨oc121, od121, .func (PySem.W.fnOf "shown_program" "shown_program" (defArgs s_shown_program) (defBody s_shown_program) (defScope s_shown_program) .none kV121 dc121 pm121 an121 cd121 ct121), sl121⟩)
   (c121 : PySem.W.codeIn K cd121 "shown_program" = true) (k121 : PySem.W.keepIn K (.ref f121) = true)
   (a122 : PySem.W.nsIn K mainGlobals "has_count" = some (some (.ref f122)))
   (l122 : K.lookup f122 = some ⟨oc122, od122, .func (PySem.W.fnOf "has_count" "has_count" (defArgs s_has_count) (defBody s_has_count) (defScope s_has_count) .none kV122 dc122 pm122 an122 cd122 ct122), sl122⟩)
   (c122 : PySem.W.codeIn K cd122 "has_count" = true) (k122 : PySem.W.keepIn K (.ref f122) = true)
   (a123 : PySem.W.nsIn K mainGlobals "read_words" = some (some (.ref f123)))
   (l123 : K.lookup f123 = some ⟨oc123, od123, .func (PySem.W.fnOf "read_words" "read_words" (defArgs s_read_words) (defBody s_read_words) (defScope s_read_words) .none kV123 dc123 pm123 an123 cd123 ct123), sl123⟩)
   (c123 : PySem.W.codeIn K cd123 "read_words" = true) (k123 : PySem.W.keepIn K (.ref f123) = true)
   (a124 : PySem.W.nsIn K mainGlobals "plain_statement" = some (some (.ref f124)))
   (l124 : K.lookup f124 = some ⟨oc124, od124, .func (PySem.W.fnOf "plain_statement" "plain_statement" (defArgs s_plain_statement) (defBody s_plain_statement) (defScope s_plain_statement) .none kV124 dc124 pm124 an124 cd124 ct124), sl124⟩)
   (c124 : PySem.W.codeIn K cd124 "plain_statement" = true) (k124 : PySem.W.keepIn K (.ref f124) = true)
   (a125 : PySem.W.nsIn K mainGlobals "read_program" = some (some (.ref f125)))
   (l125 : K.lookup f125 = some ⟨oc125, od125, .func (PySem.W.fnOf "read_program" "read_program" (defArgs s_read_program) (defBody s_read_program) (defScope s_read_program) .none kV125 dc125 pm125 an125 cd125 ct125), sl125⟩)
   (c125 : PySem.W.codeIn K cd125 "read_program" = true) (k125 : PySem.W.keepIn K (.ref f125) = true)
   (a126 : PySem.W.nsIn K mainGlobals "_law_cell_at" = some (some (.ref f126)))
   (l126 : K.lookup f126 = some ⟨oc126, od126, .func (PySem.W.fnOf "_law_cell_at" "_law_cell_at" (defArgs s_law_cell_at) (defBody s_law_cell_at) (defScope s_law_cell_at) .none kV126 dc126 pm126 an126 cd126 ct126), sl126⟩)
   (c126 : PySem.W.codeIn K cd126 "_law_cell_at" = true) (k126 : PySem.W.keepIn K (.ref f126) = true)
   (a127 : PySem.W.nsIn K mainGlobals "_law_number" = some (some (.ref f127)))
   (l127 : K.lookup f127 = some ⟨oc127, od127, .func (PySem.W.fnOf "_law_number" "_law_number" (defArgs s_law_number) (defBody s_law_number) (defScope s_law_number) .none kV127 dc127 pm127 an127 cd127 ct127), sl127⟩)
   (c127 : PySem.W.codeIn K cd127 "_law_number" = true) (k127 : PySem.W.keepIn K (.ref f127) = true)
   (a128 : PySem.W.nsIn K mainGlobals "_law_block" = some (some (.ref f128)))
   (l128 : K.lookup f128 = some ⟨oc128, od128, .func (PySem.W.fnOf "_law_block" "_law_block" (defArgs s_law_block) (defBody s_law_block) (defScope s_law_block) .none kV128 dc128 pm128 an128 cd128 ct128), sl128⟩)
   (c128 : PySem.W.codeIn K cd128 "_law_block" = true) (k128 : PySem.W.keepIn K (.ref f128) = true)
   (a129 : PySem.W.nsIn K mainGlobals "_law_nested" = some (some (.ref f129)))
   (l129 : K.lookup f129 = some ⟨oc129, od129, .func (PySem.W.fnOf "_law_nested" "_law_nested" (defArgs s_law_nested) (defBody s_law_nested) (defScope s_law_nested) .none kV129 dc129 pm129 an129 cd129 ct129), sl129⟩)
   (c129 : PySem.W.codeIn K cd129 "_law_nested" = true) (k129 : PySem.W.keepIn K (.ref f129) = true)
   (a130 : PySem.W.nsIn K mainGlobals "_law_statement" = some (some (.ref f130)))
   (l130 : K.lookup f130 = some ⟨oc130, od130, .func (PySem.W.fnOf "_law_statement" "_law_statement" (defArgs s_law_statement) (defBody s_law_statement) (defScope s_law_statement) .none kV130 dc130 pm130 an130 cd130 ct130), sl130⟩)
   (c130 : PySem.W.codeIn K cd130 "_law_statement" = true) (k130 : PySem.W.keepIn K (.ref f130) = true)
   (a131 : PySem.W.nsIn K mainGlobals "_law_program" = some (some (.ref f131)))
   (l131 : K.lookup f131 = some ⟨oc131, od131, .func (PySem.W.fnOf "_law_program" "_law_program" (defArgs s_law_program) (defBody s_law_program) (defScope s_law_program) .none kV131 dc131 pm131 an131 cd131 ct131), sl131⟩)
   (c131 : PySem.W.codeIn K cd131 "_law_program" = true) (k131 : PySem.W.keepIn K (.ref f131) = true)
   (a132 : PySem.W.nsIn K mainGlobals "_law_words" = some (some (.ref f132)))
   (l132 : K.lookup f132 = some ⟨oc132, od132, .func (PySem.W.fnOf "_law_words" "_law_words" (defArgs s_law_words) (defBody s_law_words) (defScope s_law_words) .none kV132 dc132 pm132 an132 cd132 ct132), sl132⟩)
   (c132 : PySem.W.codeIn K cd132 "_law_words" = true) (k132 : PySem.W.keepIn K (.ref f132) = true)
   (a133 : PySem.W.nsIn K mainGlobals "_law_rows" = some (some (.ref f133)))
   (l133 : K.lookup f133 = some ⟨oc133, od133, .func (PySem.W.fnOf "_law_rows" "_law_rows" (defArgs s_law_rows) (defBody s_law_rows) (defScope s_law_rows) .none kV133 dc133 pm133 an133 cd133 ct133), sl133⟩)
   (c133 : PySem.W.codeIn K cd133 "_law_rows" = true) (k133 : PySem.W.keepIn K (.ref f133) = true)
   (a134 : PySem.W.nsIn K mainGlobals "_law_tupled" = some (some (.ref f134)))
   (l134 : K.lookup f134 = some ⟨oc134, od134, .func (PySem.W.fnOf "_law_tupled" "_law_tupled" (defArgs s_law_tupled) (defBody s_law_tupled) (defScope s_law_tupled) .none kV134 dc134 pm134 an134 cd134 ct134), sl134⟩)
   (c134 : PySem.W.codeIn K cd134 "_law_tupled" = true) (k134 : PySem.W.keepIn K (.ref f134) = true)
   (a135 : PySem.W.nsIn K mainGlobals "law" = some (some (.ref f135)))
   (l135 : K.lookup f135 = some ⟨oc135, od135, .func (PySem.W.fnOf "law" "law" (defArgs s_law) (defBody s_law) (defScope s_law) .none kV135 dc135 pm135 an135 cd135 ct135), sl135⟩)
   (c135 : PySem.W.codeIn K cd135 "law" = true) (k135 : PySem.W.keepIn K (.ref f135) = true) :
   ∃ (a : Adr) (fd : FuncData), Txt w K mg a ∧ Fun K "law" "law" s_law fa fd ∧ ∀ (s : Shared) (v : Value), BindsTo s fd ⟨[v], []⟩ [("_law_script", v)] := by
 have e := hfa.symm.trans (PySem.W.mg_of X G a135)
 cases e
 refine ⟨⟨0, 0, 0, 0, 0, 0, 0, 0, 0, 0, 0, 0, 0, 0, 0, 0, 0, 0, 0, 0, 0, C_NoText, C_ProgramRows, 0, 0, 0, C_NoProgram, 0, 0, 0, G_AHEAD_OF_NAMES, G_COUNTS, 0, G_NO_STATEMENT, G_PARTS, 0⟩, _, ?_, fun_mk (st := s_law) l135 c135 k135, fun s v => .of_eq rfl⟩
 exact {
   z_all := PySem.W.mg_none_of X G z_all
   z_bool := PySem.W.mg_none_of X G z_bool
   z_int := PySem.W.mg_none_of X G z_int
   z_isinstance := PySem.W.mg_none_of X G z_isinstance
   z_len := PySem.W.mg_none_of X G z_len
   z_list := PySem.W.mg_none_of X G z_list
   z_range := PySem.W.mg_none_of X G z_range
   z_repr := PySem.W.mg_none_of X G z_repr
   z_str := PySem.W.mg_none_of X G z_str
   z_tuple := PySem.W.mg_none_of X G z_tuple
   z_zip := PySem.W.mg_none_of X G z_zip
   s_AHEAD_OF_NAMES := PySem.W.mg_of X G g_AHEAD_OF_NAMES
   d_AHEAD_OF_NAMES := ⟨y_AHEAD_OF_NAMES, by decide +kernel, [("call", 2, tk1, tk2), ("hand", 1, tk3, tk4)], ep_AHEAD_OF_NAMES, rfl, l_AHEAD_OF_NAMES⟩
   s_COUNTS := PySem.W.mg_of X G g_COUNTS
   d_COUNTS := ⟨y_COUNTS, by decide +kernel, [("fun", 1, tk5, tk6), ("set", 2, tk7, tk8), ("copy", 2, tk9, tk10), ("sum", 3, tk11, tk12), ("minus", 3, tk13, tk14), ("product", 3, tk15, tk16), ("less", 3, tk17, tk18), ("drop", 1, tk19, tk20), ("give", 1, tk21, tk22), ("if", 1, tk23, tk24), ("else", 0, tk25, tk26), ("while", 1, tk27, tk28), ("try", 0, tk29, tk30), ("landing", 1, tk31, tk32), ("end", 0, tk33, tk34)], ep_COUNTS, rfl, l_COUNTS⟩
   g_FIGURES := ⟨_, PySem.W.mg_of X G g_FIGURES⟩
   g_MOST_FIGURES := ⟨_, PySem.W.mg_of X G g_MOST_FIGURES⟩
   s_NO_STATEMENT := PySem.W.mg_of X G g_NO_STATEMENT
   t_NO_STATEMENT := sqtK t40_NO_STATEMENT (show 5 ≤ sizeLine by decide) (.cons ⟨_, rfl⟩ (.cons ⟨_, rfl⟩ (.cons ⟨_, rfl⟩ (.cons ⟨_, rfl⟩ (.cons ⟨_, rfl⟩ .nil)))))
   g_PARTING := ⟨_, PySem.W.mg_of X G g_PARTING⟩
   s_PARTS := PySem.W.mg_of X G g_PARTS
   d_PARTS := ⟨_, _, _, _, _, _, _, _, _, _, _, _, _, ⟨y_PARTS, (show List.Nodup [(Sum.inr ("set" : Str) : Key), (Sum.inr ("copy" : Str) : Key), (Sum.inr ("sum" : Str) : Key), (Sum.inr ("minus" : Str) : Key), (Sum.inr ("product" : Str) : Key), (Sum.inr ("less" : Str) : Key), (Sum.inr ("call" : Str) : Key), (Sum.inr ("if" : Str) : Key), (Sum.inr ("while" : Str) : Key), (Sum.inr ("try" : Str) : Key), (Sum.inr ("drop" : Str) : Key), (Sum.inr ("give" : Str) : Key), (Sum.inr ("hand" : Str) : Key)] from by decide +kernel), [("set", tk41, .ref q0_PARTS), ("copy", tk45, .ref q1_PARTS), ("sum", tk49, .ref q2_PARTS), ("minus", tk54, .ref q3_PARTS), ("product", tk59, .ref q4_PARTS), ("less", tk64, .ref q5_PARTS), ("call", tk69, .ref q6_PARTS), ("if", tk74, .ref q7_PARTS), ("while", tk79, .ref q8_PARTS), ("try", tk83, .ref q9_PARTS), ("drop", tk88, .ref q10_PARTS), ("give", tk91, .ref q11_PARTS), ("hand", tk94, .ref q12_PARTS)], ep_PARTS, (.cons rfl (.cons rfl (.cons rfl (.cons rfl (.cons rfl (.cons rfl (.cons rfl (.cons rfl (.cons rfl (.cons rfl (.cons rfl (.cons rfl (.cons rfl .nil))))))))))))), l_PARTS⟩, sqtK t44_PARTS (show 2 ≤ sizeLine by decide) (.cons ⟨_, rfl⟩ (.cons ⟨_, rfl⟩ .nil)), sqtK t48_PARTS (show 2 ≤ sizeLine by decide) (.cons ⟨_, rfl⟩ (.cons ⟨_, rfl⟩ .nil)), sqtK t53_PARTS (show 3 ≤ sizeLine by decide) (.cons ⟨_, rfl⟩ (.cons ⟨_, rfl⟩ (.cons ⟨_, rfl⟩ .nil))), sqtK t58_PARTS (show 3 ≤ sizeLine by decide) (.cons ⟨_, rfl⟩ (.cons ⟨_, rfl⟩ (.cons ⟨_, rfl⟩ .nil))), sqtK t63_PARTS (show 3 ≤ sizeLine by decide) (.cons ⟨_, rfl⟩ (.cons ⟨_, rfl⟩ (.cons ⟨_, rfl⟩ .nil))), sqtK t68_PARTS (show 3 ≤ sizeLine by decide) (.cons ⟨_, rfl⟩ (.cons ⟨_, rfl⟩ (.cons ⟨_, rfl⟩ .nil))), sqtK t73_PARTS (show 3 ≤ sizeLine by decide) (.cons ⟨_, rfl⟩ (.cons ⟨_, rfl⟩ (.cons ⟨_, rfl⟩ .nil))), sqtK t78_PARTS (show 3 ≤ sizeLine by decide) (.cons ⟨_, rfl⟩ (.cons ⟨_, rfl⟩ (.cons ⟨_, rfl⟩ .nil))), sqtK t82_PARTS (show 2 ≤ sizeLine by decide) (.cons ⟨_, rfl⟩ (.cons ⟨_, rfl⟩ .nil)), sqtK t87_PARTS (show 3 ≤ sizeLine by decide) (.cons ⟨_, rfl⟩ (.cons ⟨_, rfl⟩ (.cons ⟨_, rfl⟩ .nil))), sqtK t90_PARTS (show 1 ≤ sizeLine by decide) (.cons ⟨_, rfl⟩ .nil), sqtK t93_PARTS (show 1 ≤ sizeLine by decide) (.cons ⟨_, rfl⟩ .nil), sqtK t97_PARTS (show 2 ≤ sizeLine by decide) (.cons ⟨_, rfl⟩ (.cons ⟨_, rfl⟩ .nil))⟩
   g_TOP_FUNCTIONS := ⟨_, PySem.W.mg_of X G g_TOP_FUNCTIONS⟩
   g_TOP_HANDED := ⟨_, PySem.W.mg_of X G g_TOP_HANDED⟩
   g_TOP_NAME := ⟨_, PySem.W.mg_of X G g_TOP_NAME⟩
   g_TOP_READ_WITHIN := ⟨_, PySem.W.mg_of X G g_TOP_READ_WITHIN⟩
   g_TOP_SIGNS := ⟨_, PySem.W.mg_of X G g_TOP_SIGNS⟩
   g_TOP_STATEMENTS := ⟨_, PySem.W.mg_of X G g_TOP_STATEMENTS⟩
   g_TOP_VALUE := ⟨_, PySem.W.mg_of X G g_TOP_VALUE⟩
   g_TOP_WITHIN := ⟨_, PySem.W.mg_of X G g_TOP_WITHIN⟩
   c_NoProgram := PySem.W.mg_of X G c_NoProgram
   c_NoText := PySem.W.mg_of X G c_NoText
   c_ProgramRows := PySem.W.mg_of X G c_ProgramRows
   cl_ProgramRows := ⟨pg_ProgramRows, hd_ProgramRows, po_ProgramRows, sa_ProgramRows⟩
   n_ProgramRows_rows := n_ProgramRows_rows
   n_ProgramRows_mark := n_ProgramRows_mark
   i_ProgramRows := ⟨_, _, fun_mk (st := s_ProgramRows_init) l98 c98 k98, ⟨mk_ProgramRows, a98, i98, kc_ProgramRows⟩, (fun_mk (st := s_ProgramRows_init) l98 c98 k98).binds (ps := ["self", "rows"]) fun _ _ _ _ _ _ us hl => match us, hl with | [_, _], _ => rfl⟩
   m_ProgramRows_functions := ⟨_, _, fun_mk (st := s_ProgramRows_functions) l99 c99 k99, ⟨a99, i99, k99⟩, (fun_mk (st := s_ProgramRows_functions) l99 c99 k99).binds (ps := ["self"]) fun _ _ _ _ _ _ us hl => match us, hl with | [_], _ => rfl⟩
   m_ProgramRows_next_word := ⟨_, _, fun_mk (st := s_ProgramRows_next_word) l100 c100 k100, ⟨a100, i100, k100⟩, (fun_mk (st := s_ProgramRows_next_word) l100 c100 k100).binds (ps := ["self"]) fun _ _ _ _ _ _ us hl => match us, hl with | [_], _ => rfl⟩
   m_ProgramRows_statement := ⟨_, _, fun_mk (st := s_ProgramRows_statement) l101 c101 k101, ⟨a101, i101, k101⟩, (fun_mk (st := s_ProgramRows_statement) l101 c101 k101).binds (ps := ["self", "within"]) fun _ _ _ _ _ _ us hl => match us, hl with | [_, _], _ => rfl⟩
   m_ProgramRows_statements := ⟨_, _, fun_mk (st := s_ProgramRows_statements) l102 c102 k102, ⟨a102, i102, k102⟩, (fun_mk (st := s_ProgramRows_statements) l102 c102 k102).binds (ps := ["self", "within"]) fun _ _ _ _ _ _ us hl => match us, hl with | [_, _], _ => rfl⟩
   m_ProgramRows_take_row := ⟨_, _, fun_mk (st := s_ProgramRows_take_row) l103 c103 k103, ⟨a103, i103, k103⟩, (fun_mk (st := s_ProgramRows_take_row) l103 c103 k103).binds (ps := ["self", "word"]) fun _ _ _ _ _ _ us hl => match us, hl with | [_, _], _ => rfl⟩
   k_int_int := k_int_int
   k_int_bool := k_int_bool
   k_tuple_tuple := k_tuple_tuple
   k_str_str := k_str_str
   k_list_list := k_list_list
   k_tuple_list := k_tuple_list
   fn_is_number := ⟨_, _, fun_mk (st := s_is_number) l104 c104 k104, PySem.W.mg_of X G a104, (fun_mk (st := s_is_number) l104 c104 k104).binds (ps := ["word"]) fun _ _ _ _ _ _ us hl => match us, hl with | [_], _ => rfl⟩
   fn_read_number := ⟨_, _, fun_mk (st := s_read_number) l105 c105 k105, PySem.W.mg_of X G a105, (fun_mk (st := s_read_number) l105 c105 k105).binds (ps := ["word"]) fun _ _ _ _ _ _ us hl => match us, hl with | [_], _ => rfl⟩
   fn_is_whole := ⟨_, _, fun_mk (st := s_is_whole) l106 c106 k106, PySem.W.mg_of X G a106, (fun_mk (st := s_is_whole) l106 c106 k106).binds (ps := ["number"]) fun _ _ _ _ _ _ us hl => match us, hl with | [_], _ => rfl⟩
   fn_asked_for_text := ⟨_, _, fun_mk (st := s_asked_for_text) l107 c107 k107, PySem.W.mg_of X G a107, (fun_mk (st := s_asked_for_text) l107 c107 k107).binds (ps := ["text"]) fun _ _ _ _ _ _ us hl => match us, hl with | [_], _ => rfl⟩
   fn_is_up_to := ⟨_, _, fun_mk (st := s_is_up_to) l108 c108 k108, PySem.W.mg_of X G a108, (fun_mk (st := s_is_up_to) l108 c108 k108).binds (ps := ["thing", "top"]) fun _ _ _ _ _ _ us hl => match us, hl with | [_, _], _ => rfl⟩
   fn_is_name := ⟨_, _, fun_mk (st := s_is_name) l109 c109 k109, PySem.W.mg_of X G a109, (fun_mk (st := s_is_name) l109 c109 k109).binds (ps := ["thing"]) fun _ _ _ _ _ _ us hl => match us, hl with | [_], _ => rfl⟩
   fn_are_names := ⟨_, _, fun_mk (st := s_are_names) l110 c110 k110, PySem.W.mg_of X G a110, (fun_mk (st := s_are_names) l110 c110 k110).binds (ps := ["things"]) fun _ _ _ _ _ _ us hl => match us, hl with | [_], _ => rfl⟩
   fn_is_part := ⟨_, _, fun_mk (st := s_is_part) l111 c111 k111, PySem.W.mg_of X G a111, (fun_mk (st := s_is_part) l111 c111 k111).binds (ps := ["part", "kind", "functions"]) fun _ _ _ _ _ _ us hl => match us, hl with | [_, _, _], _ => rfl⟩
   fn_is_statement := ⟨_, _, fun_mk (st := s_is_statement) l112 c112 k112, PySem.W.mg_of X G a112, (fun_mk (st := s_is_statement) l112 c112 k112).binds (ps := ["statement", "handed"]) fun _ _ _ _ _ _ us hl => match us, hl with | [_, _], _ => rfl⟩
   fn_lists_within := ⟨_, _, fun_mk (st := s_lists_within) l113 c113 k113, PySem.W.mg_of X G a113, (fun_mk (st := s_lists_within) l113 c113 k113).binds (ps := ["statement"]) fun _ _ _ _ _ _ us hl => match us, hl with | [_], _ => rfl⟩
   fn_are_statements := ⟨_, _, fun_mk (st := s_are_statements) l114 c114 k114, PySem.W.mg_of X G a114, (fun_mk (st := s_are_statements) l114 c114 k114).binds (ps := ["bodies", "handed"]) fun _ _ _ _ _ _ us hl => match us, hl with | [_, _], _ => rfl⟩
   fn_is_function := ⟨_, _, fun_mk (st := s_is_function) l115 c115 k115, PySem.W.mg_of X G a115, (fun_mk (st := s_is_function) l115 c115 k115).binds (ps := ["function"]) fun _ _ _ _ _ _ us hl => match us, hl with | [_], _ => rfl⟩
   fn_is_program := ⟨_, _, fun_mk (st := s_is_program) l116 c116 k116, PySem.W.mg_of X G a116, (fun_mk (st := s_is_program) l116 c116 k116).binds (ps := ["program"]) fun _ _ _ _ _ _ us hl => match us, hl with | [_], _ => rfl⟩
   fn_asked_for_program := ⟨_, _, fun_mk (st := s_asked_for_program) l117 c117 k117, PySem.W.mg_of X G a117, (fun_mk (st := s_asked_for_program) l117 c117 k117).binds (ps := ["program"]) fun _ _ _ _ _ _ us hl => match us, hl with | [_], _ => rfl⟩
   fn_shown_row := ⟨_, _, fun_mk (st := s_shown_row) l118 c118 k118, PySem.W.mg_of X G a118, (fun_mk (st := s_shown_row) l118 c118 k118).binds (ps := ["word", "numbers"]) fun _ _ _ _ _ _ us hl => match us, hl with | [_, _], _ => rfl⟩
   fn_shown_statement := ⟨_, _, fun_mk (st := s_shown_statement) l119 c119 k119, PySem.W.mg_of X G a119, (fun_mk (st := s_shown_statement) l119 c119 k119).binds (ps := ["statement"]) fun _ _ _ _ _ _ us hl => match us, hl with | [_], _ => rfl⟩
   fn_shown_statements := ⟨_, _, fun_mk (st := s_shown_statements) l120 c120 k120, PySem.W.mg_of X G a120, (fun_mk (st := s_shown_statements) l120 c120 k120).binds (ps := ["statements"]) fun _ _ _ _ _ _ us hl => match us, hl with | [_], _ => rfl⟩
   fn_shown_program := ⟨_, _, fun_mk (st := s_shown_program) l121 c121 k121, PySem.W.mg_of X G a121, (fun_mk (st := s_shown_program) l121 c121 k121).binds (ps := ["program"]) fun _ _ _ _ _ _ us hl => match us, hl with | [_], _ => rfl⟩
   fn_has_count := ⟨_, _, fun_mk (st := s_has_count) l122 c122 k122, PySem.W.mg_of X G a122, (fun_mk (st := s_has_count) l122 c122 k122).binds (ps := ["word", "many"]) fun _ _ _ _ _ _ us hl => match us, hl with | [_, _], _ => rfl⟩
   fn_read_words := ⟨_, _, fun_mk (st := s_read_words) l123 c123 k123, PySem.W.mg_of X G a123, (fun_mk (st := s_read_words) l123 c123 k123).binds (ps := ["row"]) fun _ _ _ _ _ _ us hl => match us, hl with | [_], _ => rfl⟩
   fn_plain_statement := ⟨_, _, fun_mk (st := s_plain_statement) l124 c124 k124, PySem.W.mg_of X G a124, (fun_mk (st := s_plain_statement) l124 c124 k124).binds (ps := ["row"]) fun _ _ _ _ _ _ us hl => match us, hl with | [_], _ => rfl⟩
   fn_read_program := ⟨_, _, fun_mk (st := s_read_program) l125 c125 k125, PySem.W.mg_of X G a125, (fun_mk (st := s_read_program) l125 c125 k125).binds (ps := ["text"]) fun _ _ _ _ _ _ us hl => match us, hl with | [_], _ => rfl⟩
   fn_law_cell_at := ⟨_, _, fun_mk (st := s_law_cell_at) l126 c126 k126, PySem.W.mg_of X G a126, (fun_mk (st := s_law_cell_at) l126 c126 k126).binds (ps := ["_law_script", "_law_k"]) fun _ _ _ _ _ _ us hl => match us, hl with | [_, _], _ => rfl⟩
   fn_law_number := ⟨_, _, fun_mk (st := s_law_number) l127 c127 k127, PySem.W.mg_of X G a127, (fun_mk (st := s_law_number) l127 c127 k127).binds (ps := ["_law_script", "_law_k"]) fun _ _ _ _ _ _ us hl => match us, hl with | [_, _], _ => rfl⟩
   fn_law_block := ⟨_, _, fun_mk (st := s_law_block) l128 c128 k128, PySem.W.mg_of X G a128, (fun_mk (st := s_law_block) l128 c128 k128).binds (ps := ["_law_script", "_law_at", "_law_many", "_law_deep", "_law_handed"]) fun _ _ _ _ _ _ us hl => match us, hl with | [_, _, _, _, _], _ => rfl⟩
   fn_law_nested := ⟨_, _, fun_mk (st := s_law_nested) l129 c129 k129, PySem.W.mg_of X G a129, (fun_mk (st := s_law_nested) l129 c129 k129).binds (ps := ["_law_script", "_law_at", "_law_deep", "_law_handed"]) fun _ _ _ _ _ _ us hl => match us, hl with | [_, _, _, _], _ => rfl⟩
   fn_law_statement := ⟨_, _, fun_mk (st := s_law_statement) l130 c130 k130, PySem.W.mg_of X G a130, (fun_mk (st := s_law_statement) l130 c130 k130).binds (ps := ["_law_script", "_law_at", "_law_deep", "_law_handed"]) fun _ _ _ _ _ _ us hl => match us, hl with | [_, _, _, _], _ => rfl⟩
   fn_law_program := ⟨_, _, fun_mk (st := s_law_program) l131 c131 k131, PySem.W.mg_of X G a131, (fun_mk (st := s_law_program) l131 c131 k131).binds (ps := ["_law_script"]) fun _ _ _ _ _ _ us hl => match us, hl with | [_], _ => rfl⟩
   fn_law_words := ⟨_, _, fun_mk (st := s_law_words) l132 c132 k132, PySem.W.mg_of X G a132, (fun_mk (st := s_law_words) l132 c132 k132).binds (ps := ["_law_word", "_law_numbers"]) fun _ _ _ _ _ _ us hl => match us, hl with | [_, _], _ => rfl⟩
   fn_law_rows := ⟨_, _, fun_mk (st := s_law_rows) l133 c133 k133, PySem.W.mg_of X G a133, (fun_mk (st := s_law_rows) l133 c133 k133).binds (ps := ["_law_block_here"]) fun _ _ _ _ _ _ us hl => match us, hl with | [_], _ => rfl⟩
   fn_law_tupled := ⟨_, _, fun_mk (st := s_law_tupled) l134 c134 k134, PySem.W.mg_of X G a134, (fun_mk (st := s_law_tupled) l134 c134 k134).binds (ps := ["_law_block_here"]) fun _ _ _ _ _ _ us hl => match us, hl with | [_], _ => rfl⟩
   fn_law := ⟨_, _, fun_mk (st := s_law) l135 c135 k135, PySem.W.mg_of X G a135, (fun_mk (st := s_law) l135 c135 k135).binds (ps := ["_law_script"]) fun _ _ _ _ _ _ us hl => match us, hl with | [_], _ => rfl⟩ }
theorem walk {l : PySem.W.OpenLaw} {q : Program} {loose : List Str} {XP : (Str → Option Value) → Heap → Prop} {YP : World → Heap → Prop} {d : DefRec} {K : Params → PySem.W.Frag} (hn : l.most = some 63) (hdf : d.params.defaults = [])
   (hY : ∀ (w : World) (h : Heap), YP w h → (K w.params).In h)
   (F : ∀ (w : World) (mg : Str → Option Value) (fa : Addr) (h : Heap), (K w.params).In h → h.Ns mainGlobals mg → mg d.name = some (.ref fa) →
     ∃ fd : FuncData, (∀ (s : Shared) (u : Value), BindsTo s fd ⟨[u], []⟩ [("_law_script", u)]) ∧ ∀ base : Heap, (K w.params).In base → base.Ns mainGlobals mg → FnOk l.prog w (K w.params) mg base CX0 18 fa fd ["_law_script"] (spLaw (K w.params))) :
   PySem.W.WalkO q loose XP YP l.row.toRowW d [] (fun f vs => PySem.call f vs) :=
 L2.walk_of (n := 63) (k := 18) (x := "_law_script") (CX := fun _ => CX0) (sp := fun w => spLaw (K w.params)) hn (by decide) hdf ⟨rfl, by decide, by decide, rfl⟩ hY F (fun _ _ a ns hl _ hS => ⟨a, ns, rfl, hS, hl, fun _ => rfl⟩) fun _ _ _ _ _ z => z
end FB
namespace PySem.W.Fast
def tw12590110973720367589:=0
def tw5718837408796051388:=0
def tw3595757500458095908:=0
def tw13953332555349698269:=0
def tw6486912688266878122:=0
def tw10909588121997720800:=0
def tw16624639389416981711:=0
def tw11447828113266017070:=0
def tw1801507555756469751:=0
def tw1616736650990171532:=0
def tw2871192498085146672:=0
def tw17929763668453548913:=0
def tw8957440389391866403:=0
def tw13466239915391893968:=0
def tw16103110726966230706:=0
def tw16270114069832597183:=0
def tw2928472849542973288:=0
def tw6741098614967255896:=0
def tw3358096525206601004:=0
def tw1288452734081156355:=0
def tw14244235362423684554:=0
def tw8154661957599640276:=0
def tw12720638162672934473:=0
def tw14997187915849095424:=0
def tw6492359981001674225:=0
def tw1855322478760785881:=0
def tw3347422790821031047:=0
def tw13292393120312295161:=0
def tw17004511793193854852:=0
def tw6819470503003078199:=0
def tw17104662802488129129:=0
def tw12196337716783119006:=0
def tw2555534063129763026:=0
def tw16278332174578962481:=0
def tw6294386678008959539:=0
def tw5458845078422326796:=0
def tw4482013863930718442:=0
def tw12659142729877927209:=0
def tw9768091424552750764:=0
def tw13778268533442325425:=0
def tw10398642341158706002:=0
def tw1250965074163440814:=0
def tw5587616892448299934:=0
def tw2231185659708864905:=0
def tw17400267974850557643:=0
def tw15620023806384099348:=0
def tw14818379559506028715:=0
def tw15355928741648556163:=0
def tw2275701641757027628:=0
def tw11460678858683222452:=0
def tw14592549426473301636:=0
def tw16217421022814484496:=0
def tw14577421433000951716:=0
def tw1088171505759849649:=0
def tw5537483769519940161:=0
def tw9891270443085090212:=0
def tw365483431490090473:=0
def tw11821519192902869502:=0
def tw15029492441604718933:=0
def tw5219646988732717154:=0
def tw3336877072583931865:=0
def tw1349866575372816692:=0
def tw15802245253315275776:=0
def tw405153767166271943:=0
def tw16804522532671478562:=0
def tw10931681100646749333:=0
def tw10622903445739912406:=0
def tw5894243266315781505:=0
def tw11157594566517965119:=0
def tw1426609480950326181:=0
def tw5453122165634770083:=0
def tw498126687842115630:=0
def tw2349945886768009127:=0
def tw11720624991862238954:=0
def tw8406635849264817871:=0
def tw18036775036126172427:=0
def tw6448125260175497047:=0
def tw4858357814340230157:=0
def tw12839282309532637996:=0
def tw12808162586999675119:=0
def tw7367916713098966173:=0
def tw10164401257801138286:=0
def tw6496643257965135274:=0
def tw5415680284626518094:=0
def tw12214653810737880301:=0
def tw12021732299510301309:=0
def tw17812517654365868720:=0
def tw10849858865794954790:=0
def tw17366915646897775293:=0
def tw15719318659956854112:=0
def tw358039379980423751:=0
def tw7779482899531971707:=0
def tw6996080459953358418:=0
def tw14409366178612157138:=0
def tw14715141201543891519:=0
def tw15119442762902140764:=0
def tw16843900058647843051:=0
def tw888497231393195719:=0
def tw1667442969591497956:=0
def tw6239469127380580047:=0
def tw7068344320480475508:=0
def tw3927690820654182621:=0
def tw17766084833849403897:=0
def tw3929420884976475101:=0
def tw12804245589079124187:=0
def tw14455351109253115859:=0
def tw4609192182637050610:=0
def tw10696923272053801258:=0
def tw14471138081832880050:=0
def tw4026491679825635679:=0
def tw9718531312022063672:=0
def tw12786567181066980873:=0
def tw11310757211401059932:=0
def tw4511571544597088549:=0
def tw6751377287302015859:=0
def tw15139061656448178567:=0
def tw2886672211227990542:=0
def tw10717982667092463910:=0
def tw8127785425124750207:=0
def tw265396081168630913:=0
def tw5573930155517898919:=0
def tw3050292608177728227:=0
def tw218814574787282262:=0
def tw10394389824498154633:=0
def tw9015961162649567798:=0
def tw2154265373563885245:=0
def tw12136668919617256203:=0
def tw429110287555148515:=0
def tw14860194979913187788:=0
def tw6385666009251135788:=0
def tw1578243089290038514:=0
def tw11516813596864843064:=0
def tw10670821423721088267:=0
def tw990796325732433482:=0
def tw8141316741654828459:=0
def tw5674629004464514706:=0
def tw8882864147367014989:=0
def tw18320520699033580241:=0
def tw12697973640922265265:=0
def tw11603305755307482414:=0
def tw3390786646416809520:=0
def tw9609687172781925731:=0
def tw5535302449293211731:=0
def tw8693801197583798664:=0
def tw16597845214907168208:=0
def tw8719543369197596320:=0
def tw9025032622199702126:=0
def tw6349601951165556817:=0
def tw17602077205548066582:=0
def tw4920118990939514586:=0
def tw2591005015261463088:=0
def tw12544049496882673978:=0
def tw6441618416220967634:=0
def tw8602218554773383092:=0
def tw14184236786639891953:=0
def tw5331231469551214679:=0
def tw6605564428759786141:=0
def tw12011005218298757969:=0
def tw1354856157619527710:=0
def tw8208511756036458834:=0
def tw9141786028609266033:=0
def tw15296081279438868378:=0
def tw10546595789317166598:=0
def tw3417749743175183606:=0
def tw8015506771255779025:=0
def tw3871516763393627562:=0
def tw474626494132829827:=0
def tw12532208460546560950:=0
def tw2892762890214140240:=0
def tw2878705143523326856:=0
def tw16884931879385348060:=0
def tw221226587345311910:=0
def tw2482458306656270240:=0
def tw5741100201899131491:=0
def tw14276048890538793952:=0
def tw16512701117017244723:=0
def tw9331753766556328177:=0
def tw4732280633600023771:=0
def tw8958210747380602327:=0
def tw15781263423294059328:=0
def tw3832106892549769868:=0
def tw4013833421813476413:=0
def tw13595390450640116855:=0
def tw7427069444562676856:=0
def tw161763390586740439:=0
def tw15104391298064461523:=0
def tw4711663249418545661:=0
def tw815302091910456680:=0
def tw4966359406996305564:=0
def tw7764084688618759938:=0
def tw13202500969075141605:=0
def tw2708951402450448463:=0
def tw17481843274374208192:=0
def tw3700626685346849969:=0
def tw12648706026710965499:=0
def tw12659885067672215023:=0
def tw5460658913297816686:=0
def tw11565673077848124326:=0
def tw9673757113009237208:=0
def tw17244543445835658774:=0
def tw1357451902023370539:=0
def tw7700328582838637292:=0
def tw1363049976636343741:=0
def tw11002315519093320714:=0
def tw1963574163486765346:=0
def tw1257597610628913636:=0
def tw12772660018574407728:=0
def tw4081480073030274153:=0
def tw5887721604286552657:=0
def tw9950287115322832721:=0
def tw17101660152398821771:=0
def tw13678221623136771983:=0
def tw16453213741692670543:=0
def tw5054283472748712113:=0
def tw16579411685089866661:=0
def tw10957114533548762591:=0
def tw16096368342856652796:=0
def tw12242384947584879666:=0
def tw16139236856458360752:=0
def tw13044819304762757768:=0
def tw13382194081914531560:=0
def tw5819855897618936887:=0
def tw4130972194186588888:=0
def tw11611933155976935159:=0
def tw6104646843366563227:=0
def tw17671686748731590936:=0
def tw17243320138001254190:=0
def tw11140921853807255193:=0
def tw9383278123087456698:=0
def tw12667886891095230156:=0
def tw1819665480597372605:=0
def tw17808415739291454163:=0
def tw7573742311228722504:=0
def tw4107724027015383186:=0
def tw7770691916259549373:=0
def tw5783197559768685747:=0
def tw4904139393480222021:=0
def tw1220894137409609596:=0
def tw8177362951120179516:=0
def tw4780904310044025761:=0
def tw17602981167601682864:=0
def tw11885340513114493699:=0
def tw12549598296280278434:=0
def tw3813566656766577271:=0
def tw6585855723200252352:=0
def tw7884089009825870200:=0
def tw18048631690324754493:=0
def tw2008252732836437475:=0
def tw10997974887808353016:=0
def tw15724201521729633848:=0
def tw15205994390774703543:=0
def tw11223967757486653450:=0
def tw626224457868299755:=0
def tw1302163263374835411:=0
def tw16570568636123813801:=0
def tw16891530637177328705:=0
def tw18367706020531398272:=0
def tw11929196360376725361:=0
def tw3318053361920385274:=0
def tw13896848264638223288:=0
def tw13096826133754586573:=0
def tw15325055885630848399:=0
def tw2233756228197797704:=0
def tw694409290866135284:=0
def tw4686681341963660570:=0
def tw1191069546074546727:=0
def tw13296262882639820001:=0
def tw6187211190962416242:=0
def tw6469532745527493081:=0
def tw15690989543328229103:=0
def tw7114372883207519728:=0
def tw6887597954195265328:=0
def tw3942682586047305993:=0
def tw2586760773765921512:=0
def tw17143266155012333622:=0
def tw7467766603869437597:=0
def tw17339366739627562755:=0
def tw32162266714068310:=0
def tw17078653041988903312:=0
def tw15959399938204936901:=0
def tw18284877428631313211:=0
def tw126714628354824591:=0
def tw8365749561998575727:=0
def tw1351311259933888192:=0
def tw14447136098204792131:=0
def tw10210796515310783932:=0
def tw13762224633356246840:=0
def tw15301465808544502818:=0
def tw209483370750461876:=0
def tw16083316252399607841:=0
def tw5305530385547474920:=0
def tw10635300650698797239:=0
def tw11609880431549679828:=0
def tw6932848292171135299:=0
def tw10864438079885289017:=0
def tw14700719499273243708:=0
def tw13121992184298251753:=0
def tw15127823032398389735:=0
def tw12444702792470300412:=0
def tw16472303541670386590:=0
def tw10512832847565632118:=0
def tw1178547224190880439:=0
def tw9364131731851416549:=0
def tw12105470654583388833:=0
def tw10861102430723661640:=0
def tw6073374714445220202:=0
def tw2683737028729645818:=0
def tw2072761771424034448:=0
def tw17209722395335061585:=0
def tw15776861269376944307:=0
def tw9543226614040828926:=0
def tw9174932229881544281:=0
def tw13180794307235463479:=0
def tw12861412237130243405:=0
def tw17750170635721812674:=0
def tw1325456298821949244:=0
def tw2171600448917070903:=0
def tw17201893624679447040:=0
def tw2303551104141199205:=0
def tw6362137939590684103:=0
def tw12012176324152907202:=0
def tw1268559966510775892:=0
def tw7452625139647580749:=0
def tw13714537844771919784:=0
def tw8216285588842496793:=0
def tw16696399562541175057:=0
def tw9986151217778749687:=0
def tw15869603829280958528:=0
def tw9928493039401187072:=0
def tw14777063013837352050:=0
def tw17562879689699016904:=0
def tw11014753188937220393:=0
def tw6747621841718191991:=0
def tw3491659608635084757:=0
def tw9357644148872090297:=0
def tw13815045058772436936:=0
def tw1499141327125995884:=0
def tw3443811532190699261:=0
def tw15032868002148373611:=0
def tw5738325508024400661:=0
def tw2495831482036492607:=0
def tw9717415283340190698:=0
def tw11170522381593233627:=0
def tw9090411804967039485:=0
def tw3596729619661499116:=0
def tw14293855671376630207:=0
def tw16061054940065991602:=0
def tw4461874940223906335:=0
def tw15701561084159255794:=0
def tw3313153155603887612:=0
def tw8096608559094907662:=0
def tw10188416060331658015:=0
def tw3960837716392406305:=0
def tw16448182886115951046:=0
def tw14279428506408309947:=0
def tw7709245616550575037:=0
def tw9463971921319282241:=0
end PySem.W.Fast
open PySem PySem.W PyProof.Rows
local macro_rules | `(tactic| walk_at "k") => `(tactic| first | k_is | kit_is | rfl | kernel_rfl)
set_option maxRecDepth 100000 in
set_option maxHeartbeats 0 in
theorem PySem.Challenge.cw_frameback_k71_programs_as_texts_holds : PySem.Challenge.rw_frameback_k71_programs_as_texts.Holds := by
 w_on; o_law; k_head; (case hw => w_witness2)
 k_fill
 refine FB.walk (l := PySem.Challenge.rw_frameback_k71_programs_as_texts) rfl rfl (fun w h Y => PySem.W.kIn_of Y) ?F
 case F =>
   intro w mg fa h KX G hmg
   have T : ∃ (a : FB.Adr) (fd : FuncData), FB.Txt w (L2.KOf KX) mg a ∧ L2.Fun (L2.KOf KX) "law" "law" FB.s_law fa fd ∧ ∀ (s : Shared) (v : Value), BindsTo s fd ⟨[v], []⟩ [("_law_script", v)] := by
     dsimp only [L2.KOf]
     refine' FB.txt_mk KX G hmg ?z_all ?z_bool ?z_int ?z_isinstance ?z_len ?z_list ?z_range ?z_repr ?z_str ?z_tuple ?z_zip ?g_AHEAD_OF_NAMES ?l_AHEAD_OF_NAMES ?y_AHEAD_OF_NAMES ?g_COUNTS ?l_COUNTS ?y_COUNTS ?g_FIGURES ?g_MOST_FIGURES ?g_NO_STATEMENT ?t40_NO_STATEMENT ?g_PARTING ?g_PARTS ?l_PARTS ?y_PARTS ?t44_PARTS ?t48_PARTS ?t53_PARTS ?t58_PARTS ?t63_PARTS ?t68_PARTS ?t73_PARTS ?t78_PARTS ?t82_PARTS ?t87_PARTS ?t90_PARTS ?t93_PARTS ?t97_PARTS ?g_TOP_FUNCTIONS ?g_TOP_HANDED ?g_TOP_NAME ?g_TOP_READ_WITHIN ?g_TOP_SIGNS ?g_TOP_STATEMENTS ?g_TOP_VALUE ?g_TOP_WITHIN ?c_NoProgram ?c_NoText ?c_ProgramRows ?pg_ProgramRows ?hd_ProgramRows ?po_ProgramRows ?sa_ProgramRows ?mk_ProgramRows ?kc_ProgramRows ?n_ProgramRows_rows ?n_ProgramRows_mark ?a98 ?i98 ?l98 ?c98 ?k98 ?a99 ?i99 ?l99 ?c99 ?k99 ?a100 ?i100 ?l100 ?c100 ?k100 ?a101 ?i101 ?l101 ?c101 ?k101 ?a102 ?i102 ?l102 ?c102 ?k102 ?a103 ?i103 ?l103 ?c103 ?k103 ?k_int_int ?k_int_bool ?k_tuple_tuple ?k_str_str ?k_list_list ?k_tuple_list ?a104 ?l104 ?c104 ?k104 ?a105 ?l105 ?c105 ?k105 ?a106 ?l106 ?c106 ?k106 ?a107 ?l107 ?c107 ?k107 ?a108 ?l108 ?c108 ?k108 ?a109 ?l109 ?c109 ?k109 ?a110 ?l110 ?c110 ?k110 ?a111 ?l111 ?c111 ?k111 ?a112 ?l112 ?c112 ?k112 ?a113 ?l113 ?c113 ?k113 ?a114 ?l114 ?c114 ?k114 ?a115 ?l115 ?c115 ?k115 ?a116 ?l116 ?c116 ?k116 ?a117 ?l117 ?c117 ?k117 ?a118 ?l118 ?c118 ?k118 ?a119 ?l119 ?c119 ?k119 ?a120 ?l120 ?c120 ?k120 ?a121 ?l121 ?c121 ?k121 ?a122 ?l122 ?c122 ?k122 ?a123 ?l123 ?c123 ?k123 ?a124 ?l124 ?c124 ?k124 ?a125 ?l125 ?c125 ?k125 ?a126 ?l126 ?c126 ?k126 ?a127 ?l127 ?c127 ?k127 ?a128 ?l128 ?c128 ?k128 ?a129 ?l129 ?c129 ?k129 ?a130 ?l130 ?c130 ?k130 ?a131 ?l131 ?c131 ?k131 ?a132 ?l132 ?c132 ?k132 ?a133 ?l133 ?c133 ?k133 ?a134 ?l134 ?c134 ?k134 ?a135 ?l135 ?c135 ?k135
     (case z_all => walk_at "k")
     (case z_bool => walk_at "k")
     (case z_int => walk_at "k")
     (case z_isinstance => walk_at "k")
     (case z_len => walk_at "k")
     (case z_list => walk_at "k")
     (case z_range => walk_at "k")
     (case z_repr => walk_at "k")
     (case z_str => walk_at "k")
     (case z_tuple => walk_at "k")
     (case z_zip => walk_at "k")
     (case g_AHEAD_OF_NAMES => walk_at "k")
     (case l_AHEAD_OF_NAMES => walk_at "k")
     (case y_AHEAD_OF_NAMES => walk_at "k")
     (case g_COUNTS => walk_at "k")
     (case l_COUNTS => walk_at "k")
     (case y_COUNTS => walk_at "k")
     (case g_FIGURES => walk_at "k")
     (case g_MOST_FIGURES => walk_at "k")
     (case g_NO_STATEMENT => walk_at "k")
     (case t40_NO_STATEMENT => walk_at "k")
     (case g_PARTING => walk_at "k")
     (case g_PARTS => walk_at "k")
     (case l_PARTS => walk_at "k")
     (case y_PARTS => walk_at "k")
     (case t44_PARTS => walk_at "k")
     (case t48_PARTS => walk_at "k")
     (case t53_PARTS => walk_at "k")
     (case t58_PARTS => walk_at "k")
     (case t63_PARTS => walk_at "k")
     (case t68_PARTS => walk_at "k")
     (case t73_PARTS => walk_at "k")
     (case t78_PARTS => walk_at "k")
     (case t82_PARTS => walk_at "k")
     (case t87_PARTS => walk_at "k")
     (case t90_PARTS => walk_at "k")
     (case t93_PARTS => walk_at "k")
     (case t97_PARTS => walk_at "k")
     (case g_TOP_FUNCTIONS => walk_at "k")
     (case g_TOP_HANDED => walk_at "k")
     (case g_TOP_NAME => walk_at "k")
     (case g_TOP_READ_WITHIN => walk_at "k")
     (case g_TOP_SIGNS => walk_at "k")
     (case g_TOP_STATEMENTS => walk_at "k")
     (case g_TOP_VALUE => walk_at "k")
     (case g_TOP_WITHIN => walk_at "k")
     (case c_NoProgram => walk_at "k")
     (case c_NoText => walk_at "k")
     (case c_ProgramRows => walk_at "k")
     (case pg_ProgramRows => walk_at "k")
     (case hd_ProgramRows => walk_at "k")
     (case po_ProgramRows => walk_at "k")
     (case sa_ProgramRows => walk_at "k")
     (case mk_ProgramRows => walk_at "k")
     (case kc_ProgramRows => walk_at "k")
     (case n_ProgramRows_rows => walk_at "k")
     (case n_ProgramRows_mark => walk_at "k")
     (case a98 => walk_at "k")
     (case i98 => walk_at "k")
     (case l98 => walk_at "k")
     (case c98 => walk_at "k")
     (case k98 => walk_at "k")
     (case a99 => walk_at "k")
     (case i99 => walk_at "k")
     (case l99 => walk_at "k")
     (case c99 => walk_at "k")
     (case k99 => walk_at "k")
     (case a100 => walk_at "k")
     (case i100 => walk_at "k")
     (case l100 => walk_at "k")
     (case c100 => walk_at "k")
     (case k100 => walk_at "k")
     (case a101 => walk_at "k")
     (case i101 => walk_at "k")
     (case l101 => walk_at "k")
     (case c101 => walk_at "k")
     (case k101 => walk_at "k")
     (case a102 => walk_at "k")
     (case i102 => walk_at "k")
     (case l102 => walk_at "k")
     (case c102 => walk_at "k")
     (case k102 => walk_at "k")
     (case a103 => walk_at "k")
     (case i103 => walk_at "k")
     (case l103 => walk_at "k")
     (case c103 => walk_at "k")
     (case k103 => walk_at "k")
     (case k_int_int => walk_at "k")
     (case k_int_bool => walk_at "k")
     (case k_tuple_tuple => walk_at "k")
     (case k_str_str => walk_at "k")
     (case k_list_list => walk_at "k")
     (case k_tuple_list => walk_at "k")
     (case a104 => walk_at "k")
     (case l104 => walk_at "k")
     (case c104 => walk_at "k")
     (case k104 => walk_at "k")
     (case a105 => walk_at "k")
     (case l105 => walk_at "k")
     (case c105 => walk_at "k")
     (case k105 => walk_at "k")
     (case a106 => walk_at "k")
     (case l106 => walk_at "k")
     (case c106 => walk_at "k")
     (case k106 => walk_at "k")
     (case a107 => walk_at "k")
     (case l107 => walk_at "k")
     (case c107 => walk_at "k")
     (case k107 => walk_at "k")
     (case a108 => walk_at "k")
     (case l108 => walk_at "k")
     (case c108 => walk_at "k")
     (case k108 => walk_at "k")
     (case a109 => walk_at "k")
     (case l109 => walk_at "k")
     (case c109 => walk_at "k")
     (case k109 => walk_at "k")
     (case a110 => walk_at "k")
     (case l110 => walk_at "k")
     (case c110 => walk_at "k")
     (case k110 => walk_at "k")
     (case a111 => walk_at "k")
     (case l111 => walk_at "k")
     (case c111 => walk_at "k")
     (case k111 => walk_at "k")
     (case a112 => walk_at "k")
     (case l112 => walk_at "k")
     (case c112 => walk_at "k")
     (case k112 => walk_at "k")
     (case a113 => walk_at "k")
     (case l113 => walk_at "k")
     (case c113 => walk_at "k")
     (case k113 => walk_at "k")
     (case a114 => walk_at "k")
     (case l114 => walk_at "k")
     (case c114 => walk_at "k")
     (case k114 => walk_at "k")
     (case a115 => walk_at "k")
     (case l115 => walk_at "k")
     (case c115 => walk_at "k")
     (case k115 => walk_at "k")
     (case a116 => walk_at "k")
     (case l116 => walk_at "k")
     (case c116 => walk_at "k")
     (case k116 => walk_at "k")
     (case a117 => walk_at "k")
     (case l117 => walk_at "k")
     (case c117 => walk_at "k")
     (case k117 => walk_at "k")
     (case a118 => walk_at "k")
     (case l118 => walk_at "k")
     (case c118 => walk_at "k")
     (case k118 => walk_at "k")
     (case a119 => walk_at "k")
     (case l119 => walk_at "k")
     (case c119 => walk_at "k")
     (case k119 => walk_at "k")
     (case a120 => walk_at "k")
     (case l120 => walk_at "k")
     (case c120 => walk_at "k")
     (case k120 => walk_at "k")
     (case a121 => walk_at "k")
     (case l121 => walk_at "k")
     (case c121 => walk_at "k")
     (case k121 => walk_at "k")
     (case a122 => walk_at "k")
     (case l122 => walk_at "k")
     (case c122 => walk_at "k")
     (case k122 => walk_at "k")
     (case a123 => walk_at "k")
     (case l123 => walk_at "k")
     (case c123 => walk_at "k")
     (case k123 => walk_at "k")
     (case a124 => walk_at "k")
     (case l124 => walk_at "k")
     (case c124 => walk_at "k")
     (case k124 => walk_at "k")
     (case a125 => walk_at "k")
     (case l125 => walk_at "k")
     (case c125 => walk_at "k")
     (case k125 => walk_at "k")
     (case a126 => walk_at "k")
     (case l126 => walk_at "k")
     (case c126 => walk_at "k")
     (case k126 => walk_at "k")
     (case a127 => walk_at "k")
     (case l127 => walk_at "k")
     (case c127 => walk_at "k")
     (case k127 => walk_at "k")
     (case a128 => walk_at "k")
     (case l128 => walk_at "k")
     (case c128 => walk_at "k")
     (case k128 => walk_at "k")
     (case a129 => walk_at "k")
     (case l129 => walk_at "k")
     (case c129 => walk_at "k")
     (case k129 => walk_at "k")
     (case a130 => walk_at "k")
     (case l130 => walk_at "k")
     (case c130 => walk_at "k")
     (case k130 => walk_at "k")
     (case a131 => walk_at "k")
     (case l131 => walk_at "k")
     (case c131 => walk_at "k")
     (case k131 => walk_at "k")
     (case a132 => walk_at "k")
     (case l132 => walk_at "k")
     (case c132 => walk_at "k")
     (case k132 => walk_at "k")
     (case a133 => walk_at "k")
     (case l133 => walk_at "k")
     (case c133 => walk_at "k")
     (case k133 => walk_at "k")
     (case a134 => walk_at "k")
     (case l134 => walk_at "k")
     (case c134 => walk_at "k")
     (case k134 => walk_at "k")
     (case a135 => walk_at "k")
     (case l135 => walk_at "k")
     (case c135 => walk_at "k")
     (case k135 => walk_at "k")
   obtain ⟨a, fd, T, FF, B⟩ := T
   exact ⟨fd, B, fun base _ _ => FB.law_fn T FF⟩
