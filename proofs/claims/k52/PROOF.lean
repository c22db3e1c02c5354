import PyProof.Rows.All
import Wide.All
import OpenK.AllK
import Wide.FinOn
import Lean
import PyProof.EqAt
import PyProof.EqKinds
import PyProof.TupleCall
import PySem.Challenge.RW_frameback_k52_names_filled
set_option Elab.async false
set_option linter.all false
set_option maxRecDepth 100000

namespace L2
open PySem PySem.Spec PyProof.Rows


abbrev Key := Sum Int Str
def keyIs : Key → Value → Bool
  | .inl k, v => Value.isInt k v
  | .inr x, v => Value.isStrOf x v
def keyH (w : World) : Key → Int
  | .inl k => hashInt k
  | .inr x => hashStr w x
theorem keyIs_shape : ∀ {k : Key} {v : Value}, keyIs k v = true → (∃ i t, k = Sum.inl i ∧ v = Value.int i t) ∨ (∃ x t, k = Sum.inr x ∧ v = Value.str x t)
  | .inl i, v, h => by
    obtain ⟨t, e⟩ := Value.isInt_shape (k := i) (v := v) h
    exact .inl ⟨i, t, rfl, e⟩
  | .inr x, v, h => by
    obtain ⟨t, e⟩ := Value.isStrOf_shape (x := x) (v := v) h
    exact .inr ⟨x, t, rfl, e⟩
theorem keyIs_int (i : Int) (t : Tok) : keyIs (.inl i) (.int i t) = true := by simp [keyIs, Value.isInt]
theorem keyIs_str (x : Str) (t : Tok) : keyIs (.inr x) (.str x t) = true := by simp [keyIs, Value.isStrOf]
theorem key_ll (a b : Int) : decide ((Sum.inl a : Key) = Sum.inl b) = (a == b) := by
  by_cases e : a = b
  · subst e; simp
  · have h : ¬ (Sum.inl a : Key) = Sum.inl b := fun q => e (Sum.inl.inj q)
    rw [decide_eq_false h]
    exact (beq_eq_false_iff_ne.mpr e).symm
theorem key_rr (a b : Str) : decide ((Sum.inr a : Key) = Sum.inr b) = decide (a = b) := by
  by_cases e : a = b
  · subst e; simp
  · have h : ¬ (Sum.inr a : Key) = Sum.inr b := fun q => e (Sum.inr.inj q)
    rw [decide_eq_false h, decide_eq_false e]
theorem key_lr (a : Int) (b : Str) : decide ((Sum.inl a : Key) = Sum.inr b) = false := decide_eq_false (fun q => nomatch q)
theorem key_rl (a : Str) (b : Int) : decide ((Sum.inr a : Key) = Sum.inl b) = false := decide_eq_false (fun q => nomatch q)

def mixKind (prog : Program) (w : World) : PySem.KeyKind prog w Key where
  is := keyIs
  hash := keyH w
  inj := fun v a b ha hb => by
    rcases keyIs_shape ha with ⟨i, t, rfl, rfl⟩ | ⟨x, t, rfl, rfl⟩
    · rcases keyIs_shape hb with ⟨j, u, rfl, e⟩ | ⟨y, u, rfl, e⟩
      · injection e with e1 _; rw [e1]
      · exact nomatch e
    · rcases keyIs_shape hb with ⟨j, u, rfl, e⟩ | ⟨y, u, rfl, e⟩
      · exact nomatch e
      · injection e with e1 _; rw [e1]
  byValue := fun k v h => by
    rcases keyIs_shape h with ⟨i, t, rfl, rfl⟩ | ⟨x, t, rfl, rfl⟩ <;> rfl
  pyHash := fun hv h => by
    rcases keyIs_shape hv with ⟨i, t, rfl, rfl⟩ | ⟨x, t, rfl, rfl⟩
    · exact wpAny_pyHash_int h
    · exact wpAny_pyHash_str h
  eqBool := fun hu hv h => by
    rcases keyIs_shape hu with ⟨i, t, rfl, rfl⟩ | ⟨x, t, rfl, rfl⟩
    · rcases keyIs_shape hv with ⟨j, u, rfl, rfl⟩ | ⟨y, u, rfl, rfl⟩
      · rw [key_ll] at h; exact wpAny_eqBool_int h
      · rw [key_lr] at h; exact SeqAt.EqAt.int_str i t y u _ _ _ _ h
    · rcases keyIs_shape hv with ⟨j, u, rfl, rfl⟩ | ⟨y, u, rfl, rfl⟩
      · rw [key_rl] at h; exact SeqAt.EqAt.str_int x t j u _ _ _ _ h
      · rw [key_rr] at h; exact wpAny_eqBool_str h
  «strs» := fun k x t v h => by
    rcases keyIs_shape h with ⟨i, u, rfl, e⟩ | ⟨y, u, rfl, e⟩
    · exact nomatch e
    · injection e with e1 _
      subst e1
      cases v <;> rfl

theorem mixKind_int (prog : Program) (w : World) (i : Int) (t : Tok) : (mixKind prog w).is (.inl i) (.int i t) = true := keyIs_int i t
theorem mixKind_str (prog : Program) (w : World) (x : Str) (t : Tok) : (mixKind prog w).is (.inr x) (.str x t) = true := keyIs_str x t
end L2

namespace L2
open PySem PySem.Spec PyProof.Rows


inductive V where
  | non | bl (b : Bool) | int (i : Int) | str (x : Str) | byt (b : Array UInt8) | flt (b : UInt64) | ref (a : Addr) | ty (n : String)
  deriving DecidableEq

def RelV : V → Value → Prop
  | .non, u => u = Value.none
  | .bl b, u => u = Value.bool b
  | .int i, u => ∃ t, u = Value.int i t
  | .str x, u => ∃ t, u = Value.str x t
  | .byt b, u => ∃ t, u = Value.bytes b t
  | .flt b, u => ∃ t, u = Value.float b t
  | .ref a, u => u = Value.ref a
  | .ty n, u => u = Value.type n

abbrev Vals : List V → List Value → Prop := Paired RelV
theorem Vals.length {xs : List V} {us : List Value} (r : Vals xs us) : xs.length = us.length := Paired.length r
theorem Vals.get : ∀ {xs : List V} {us : List Value} {i : Nat} {x : V}, Vals xs us → xs[i]? = some x → ∃ u, us[i]? = some u ∧ RelV x u
  | _, _, _, _, .nil, e => by simp at e
  | _, _, 0, _, .cons r _, e => by simp at e; subst e; exact ⟨_, rfl, r⟩
  | _, _, i + 1, x, .cons _ t, e => by
    obtain ⟨u, h1, h2⟩ := Vals.get (i := i) (x := x) t (by simpa using e)
    exact ⟨u, by simpa using h1, h2⟩
theorem Vals.set {x : V} {u : Value} (r : RelV x u) : ∀ {xs : List V} {us : List Value} (i : Nat), Vals xs us → Vals (xs.set i x) (us.set i u)
  | _, _, _, .nil => .nil
  | _, _, 0, .cons _ t => .cons r t
  | _, _, i + 1, .cons q t => .cons q (Vals.set r i t)
theorem Vals.append : ∀ {xs ys : List V} {us ws : List Value}, Vals xs us → Vals ys ws → Vals (xs ++ ys) (us ++ ws)
  | _, _, _, _, .nil, s => s
  | _, _, _, _, .cons r t, s => .cons r (Vals.append t s)
theorem Vals.take : ∀ {xs : List V} {us : List Value} (n : Nat), Vals xs us → Vals (xs.take n) (us.take n)
  | _, _, 0, _ => .nil
  | _, _, _ + 1, .nil => .nil
  | _, _, n + 1, .cons r t => .cons r (Vals.take n t)
theorem Vals.drop : ∀ {xs : List V} {us : List Value} (n : Nat), Vals xs us → Vals (xs.drop n) (us.drop n)
  | _, _, 0, r => r
  | _, _, _ + 1, .nil => .nil
  | _, _, n + 1, .cons _ t => Vals.drop n t
def RelO : Option V → Option Value → Prop
  | some v, some u => RelV v u
  | none, none => True
  | _, _ => False
def KV {κ : Type} : List (κ × V) → List (κ × Value) → Prop := Paired fun (p : κ × V) (q : κ × Value) => p.1 = q.1 ∧ RelV p.2 q.2


def kV : Key → V
  | .inl i => .int i
  | .inr x => .str x


inductive HO where
  
  | lst (xs : List V)
  
  | tup (xs : List V)
  
  | dK (kvs : List (Key × V)) | dT (kvs : List (List Key × V))
  
  | set (S : Int → Bool) (n : Nat)
  
  | ins (C dx : Addr) (fs : List (Str × V))
  
  | own (x : Addr)
  
  | xd (fs : List (Str × V))
  
  | met (f x : Addr)
  
  | rng (lo hi : Int)
  
  | frz (o : Obj) (u : HO)
  
  | tbl (ps : Array Value)
  
  | ext (φ : Heap → Prop)

abbrev Hp := Addr → Option HO
def upd (H : Hp) (a : Addr) (o : HO) : Hp := fun b => if b = a then some o else H b
theorem upd_same {H : Hp} {a : Addr} {o : HO} : upd H a o a = some o := by unfold upd; rw [if_pos rfl]
theorem upd_ne {H : Hp} {a b : Addr} {o : HO} (h : b ≠ a) : upd H a o b = H b := by unfold upd; rw [if_neg h]
theorem upd_upd {H : Hp} {a : Addr} {o u : HO} : upd (upd H a o) a u = upd H a u := by
  funext b; unfold upd; split <;> rfl

theorem ne_of_none {H : Hp} {a b : Addr} {o : HO} (h : H a = some o) (h' : H b = none) : a ≠ b := by
  intro e; subst e; rw [h] at h'; cases h'

section
variable (P : Program) (w : World)
def ObjOk (H : Hp) (h : Heap) (a : Addr) : HO → Prop
  | .lst xs => xs.length ≤ sizeLine ∧ ∃ (its : List Value) (n : Nat), Vals xs its ∧ h.get? a = some { cls := .type "list", data := .seq its.toArray n }
  | .tup xs => xs.length ≤ sizeLine ∧ ∃ its : List Value, Vals xs its ∧ IsTup h a its.toArray
  | .dK kvs => kvs.length ≤ sizeLine ∧ (a == sysModules) = false ∧ ∃ vs, KV kvs vs ∧ h.DictOf (mixKind P w) a vs
  | .dT kvs => kvs.length ≤ sizeLine ∧ (a == sysModules) = false ∧ ∃ xs : List (List Key × Addr × Value),
      Paired (fun (p : List Key × V) (q : List Key × Addr × Value) => p.1 = q.1 ∧ H q.2.1 = some (.tup (p.1.map kV)) ∧ RelV p.2 q.2.2) kvs xs ∧
      ∃ o es ep, h.get? a = some o ∧ o.ExactDict ∧ o.data = .dict es ep ∧ es.toList = xs.map (entryOfKey (tupleKind (mixKind P w))) ∧ (xs.map (·.1)).Nodup
  | .set S n => h.SetOf (intKind P w) a S n
  | .ins C dx fs => H dx = some (.own a) ∧ fs.length ≤ 1000 ∧ dx ≠ a ∧ h.get? a = some (PySem.W.instObj C dx) ∧
      ∃ mA, h.Ns1 dx mA ∧ (∀ f, RelO (fs.lookup f) (mA f)) ∧ PySem.Within mA (fs.map (·.1))
  | .own _ => ∃ o, h.get? a = some o
  | .xd fs => ∃ mA, h.Ns1 a mA ∧ ∀ f, RelO (fs.lookup f) (mA f)
  | .rng lo hi => ∃ t u v, h.get? a = some { cls := .type "range", data := .fields #[.int lo t, .int hi u, .int 1 v] }
  | .frz o u => h.get? a = some o ∧ ObjOk H h a u
  | .tbl ps => h.get? a = some { cls := .none, data := .fields ps }
  | .met f x => h.get? a = some (PySem.W.methodObj (.ref f) (.ref x))
  | .ext φ => φ h ∧ (∃ o, h.get? a = some o) ∧ ∀ h1 h2 : Heap, φ h1 → (∀ o, h1.get? a = some o → h2.get? a = some o) → φ h2

def HOk (H : Hp) (h : Heap) : Prop := ∀ a o, H a = some o → ObjOk P w H h a o
end

section
variable {P : Program} {w : World} {H H' : Hp} {h h' : Heap} {a : Addr} {o : HO}
theorem ObjOk.lt (x : ObjOk P w H h a o) : a < h.objs.size := by
  cases o with
  | lst xs => obtain ⟨_, _, _, _, e⟩ := x; exact Heap.lt_size e
  | tup xs => obtain ⟨_, _, _, p⟩ := x; exact p.lt
  | dK kvs => obtain ⟨_, _, _, _, o, _, _, e, _⟩ := x; exact Heap.lt_size e
  | dT kvs => obtain ⟨_, _, _, _, o, _, _, e, _⟩ := x; exact Heap.lt_size e
  | set S n => obtain ⟨o, _, _, _, e, _⟩ := x; exact Heap.lt_size e
  | ins C dx fs => obtain ⟨_, _, _, e, _⟩ := x; exact Heap.lt_size e
  | own y => obtain ⟨_, e⟩ := x; exact Heap.lt_size e
  | xd fs => obtain ⟨_, ⟨_, _, _, e, _⟩, _⟩ := x; exact Heap.lt_size e
  | rng lo hi => obtain ⟨_, _, _, e⟩ := x; exact Heap.lt_size e
  | frz ob u => obtain ⟨e, _⟩ := x; exact Heap.lt_size e
  | tbl ps => exact Heap.lt_size (show h.get? a = some _ from x)
  | met f y => exact Heap.lt_size (show h.get? a = some _ from x)
  | ext φ => obtain ⟨_, ⟨_, e⟩, _⟩ := x; exact Heap.lt_size e
theorem Paired.mapP {α β : Type} {F G : α → β → Prop} : ∀ {l₁ : List α} {l₂ : List β}, Paired F l₁ l₂ → (∀ a b, F a b → G a b) → Paired G l₁ l₂
  | _, _, .nil, _ => .nil
  | _, _, .cons r t, f => .cons (f _ _ r) (Paired.mapP t f)
theorem ObjOk.stay (x : ObjOk P w H h a o) (k : ∀ b u, (b = a ∨ H b = some (.own a)) → h.get? b = some u → h'.get? b = some u)
    (ho : ∀ b, H b = some (.own a) → H' b = some (.own a)) (ht : ∀ b xs, H b = some (.tup xs) → H' b = some (.tup xs)) : ObjOk P w H' h' a o := by
  induction o with
  | lst xs => obtain ⟨z, its, n, r, e⟩ := x; exact ⟨z, its, n, r, k _ _ (.inl rfl) e⟩
  | tup xs => obtain ⟨z, its, r, ob, e, c⟩ := x; exact ⟨z, its, r, ob, k _ _ (.inl rfl) e, c⟩
  | dK kvs => obtain ⟨z, y, vs, r, ob, es, ep, e, c⟩ := x; exact ⟨z, y, vs, r, ob, es, ep, k _ _ (.inl rfl) e, c⟩
  | dT kvs =>
    obtain ⟨z, y, xs, r, ob, es, ep, e, c⟩ := x
    exact ⟨z, y, xs, Paired.mapP r fun p q z => ⟨z.1, ht _ _ z.2.1, z.2.2⟩, ob, es, ep, k _ _ (.inl rfl) e, c⟩
  | set S n => obtain ⟨ob, es, ep, t, e, c⟩ := x; exact ⟨ob, es, ep, t, k _ _ (.inl rfl) e, c⟩
  | ins C dx fs =>
    obtain ⟨d, z, ne, e, mA, ⟨od, es, ep, e2, c⟩, r⟩ := x
    exact ⟨ho _ d, z, ne, k _ _ (.inl rfl) e, mA, ⟨od, es, ep, k _ _ (.inr d) e2, c⟩, r⟩
  | own y => obtain ⟨ob, e⟩ := x; exact ⟨ob, k _ _ (.inl rfl) e⟩
  | xd fs => obtain ⟨mA, ⟨od, es, ep, e, c⟩, r⟩ := x; exact ⟨mA, ⟨od, es, ep, k _ _ (.inl rfl) e, c⟩, r⟩
  | rng lo hi => obtain ⟨t, u, v, e⟩ := x; exact ⟨t, u, v, k _ _ (.inl rfl) e⟩
  | frz ob u ih => obtain ⟨e, q⟩ := x; exact ⟨k _ _ (.inl rfl) e, ih q⟩
  | tbl ps =>
    have e : h.get? a = some { cls := .none, data := .fields ps } := x
    show h'.get? a = some { cls := .none, data := .fields ps }
    exact k a _ (.inl rfl) e
  | met f y =>
    have e : h.get? a = some (PySem.W.methodObj (.ref f) (.ref y)) := x
    show h'.get? a = some (PySem.W.methodObj (.ref f) (.ref y))
    exact k a _ (.inl rfl) e
  | ext φ => obtain ⟨p, ⟨o, e⟩, st⟩ := x; exact ⟨st _ _ p fun o q => k _ _ (.inl rfl) q, ⟨o, k _ _ (.inl rfl) e⟩, st⟩
theorem HOk.lt (x : HOk P w H h) (e : H a = some o) : a < h.objs.size := (x a o e).lt
theorem HOk.fresh (x : HOk P w H h) (e : h.objs.size ≤ a) : H a = none := by
  cases q : H a with
  | none => rfl
  | some u => exact absurd (Nat.lt_of_lt_of_le (x.lt q) e) (Nat.lt_irrefl _)

theorem HOk.kept (x : HOk P w H h) (k : ∀ b u, h.get? b = some u → h'.get? b = some u) : HOk P w H h' := fun a o e =>
  (x a o e).stay (fun b u _ q => k b u q) (fun _ q => q) fun _ _ q => q

theorem HOk.laid (x : HOk P w H h) (k : ∀ b u, h.get? b = some u → h'.get? b = some u) (hp : h.objs.size ≤ a) (new : ObjOk P w (upd H a o) h' a o) : HOk P w (upd H a o) h' := fun b u e => by
  have hn := x.fresh hp
  by_cases hb : b = a
  · subst hb; rw [upd_same] at e; cases e; exact new
  · rw [upd_ne hb] at e
    exact (x b u e).stay (fun c v _ q => k c v q) (fun c q => by rw [upd_ne (ne_of_none q hn)]; exact q) fun c xs q => by rw [upd_ne (ne_of_none q hn)]; exact q
end


def Rd (H : Hp) (a : Addr) (u : HO) : Prop := H a = some u ∨ ∃ o, H a = some (.frz o u)
theorem Rd.ok {P : Program} {w : World} {H : Hp} {h : Heap} {a : Addr} {u : HO} (r : Rd H a u) (x : HOk P w H h) : ObjOk P w H h a u := by
  rcases r with r | ⟨o, r⟩
  · exact x a u r
  · obtain ⟨_, q⟩ := x a _ r
    exact q

def Mut : Option HO → Prop
  | some (.lst _) => True
  | some (.dK _) => True
  | some (.dT _) => True
  | some (.set _ _) => True
  | some (.ins _ _ _) => True
  | some (.ext _) => True
  | _ => False
section
variable {P : Program} {w : World} {H : Hp} {h h' : Heap} {x e : Addr} {o' : HO}

theorem HOk.write (ok : HOk P w H h) (mu : Mut (H x)) (he : e = x ∨ H e = some (.own x)) (k : ∀ b u, b ≠ e → h.get? b = some u → h'.get? b = some u) (heo : ∃ u, h'.get? e = some u)
    (new : ObjOk P w (upd H x o') h' x o') : HOk P w (upd H x o') h' := fun b u q => by
  have nown : ∀ c y, H c = some (.own y) → c ≠ x := fun c y r z => by subst z; rw [r] at mu; exact mu
  have ntup : ∀ c xs, H c = some (.tup xs) → c ≠ x := fun c xs r z => by subst z; rw [r] at mu; exact mu
  by_cases hb : b = x
  · subst hb; rw [upd_same] at q; cases q; exact new
  · rw [upd_ne hb] at q
    by_cases hbe : b = e
    · have q' : H b = some (.own x) := by
        rcases he with z | z
        · exact absurd (hbe.trans z) hb
        · rw [hbe]; exact z
      rw [q] at q'; cases q'
      obtain ⟨v, hv⟩ := heo
      exact ⟨v, by rw [hbe]; exact hv⟩
    · refine (ok b u q).stay (fun c v hc r => k c v ?_ r) (fun c r => by rw [upd_ne (nown c b r)]; exact r) fun c xs r => by rw [upd_ne (ntup c xs r)]; exact r
      rcases hc with rfl | hc
      · exact hbe
      · rintro rfl
        rcases he with z | z
        · exact nown c b hc z
        · rw [hc] at z; cases z; exact hb rfl
end


structure Un (fs ex : List Addr) (H H' : Hp) (h h' : Heap) : Prop where
  keep : ∀ b o, h.get? b = some o → H b = none → b ∉ fs → b ∉ ex → h'.get? b = some o
  slot : ∀ b o, h.get? b = some o → H b = none → b ∈ fs → b ∉ ex → ∃ sl, h'.get? b = some { o with slots := sl }
  free : ∀ b o, h.get? b = some o → H b = none → b ∉ ex → H' b = none
  there : ∀ b o, h.get? b = some o → b ∉ ex → ∃ o', h'.get? b = some o'
  tups : ∀ b xs, H b = some (.tup xs) → H' b = some (.tup xs)
  frzs : ∀ b o u, H b = some (.frz o u) → H' b = some (.frz o u)
  tbls : ∀ b ps, H b = some (.tbl ps) → ∃ more, H' b = some (.tbl (ps ++ more))
section
variable {fs fs' ex ex' : List Addr} {H H1 H2 : Hp} {h h1 h2 h' : Heap} {a x e : Addr} {o : HO}
theorem Un.any (u : Un fs ex H H1 h h1) {b : Addr} {ob : Obj} (q : h.get? b = some ob) (n : H b = none) (hx : b ∉ ex) : ∃ sl, h1.get? b = some { ob with slots := sl } := by
  by_cases hb : b ∈ fs
  · exact u.slot b ob q n hb hx
  · exact ⟨ob.slots, u.keep b ob q n hb hx⟩
theorem Un.kept (k : ∀ b u, h.get? b = some u → h'.get? b = some u) : Un fs ex H H h h' :=
  ⟨fun b ob q _ _ _ => k b ob q, fun b ob q _ _ _ => ⟨ob.slots, k b ob q⟩, fun _ _ _ n _ => n, fun b ob q _ => ⟨ob, k b ob q⟩, fun _ _ q => q, fun _ _ _ q => q, fun _ ps q => ⟨#[], by rw [q]; simp⟩⟩
theorem Un.refl : Un fs ex H H h h := Un.kept fun _ _ q => q
theorem Un.laid (k : ∀ b u, h.get? b = some u → h'.get? b = some u) (hp : h.objs.size ≤ a) (hn : H a = none) : Un fs ex H (upd H a o) h h' where
  keep := fun b u q _ _ _ => k b u q
  slot := fun b u q _ _ _ => ⟨u.slots, k b u q⟩
  free := fun b u q n _ => by rw [upd_ne (Nat.ne_of_lt (Nat.lt_of_lt_of_le (Heap.lt_size q) hp))]; exact n
  there := fun b u q _ => ⟨u, k b u q⟩
  tups := fun b xs q => by rw [upd_ne (ne_of_none q hn)]; exact q
  frzs := fun b u xs q => by rw [upd_ne (ne_of_none q hn)]; exact q
  tbls := fun b ps q => ⟨#[], by rw [upd_ne (ne_of_none q hn), q]; simp⟩
theorem Un.write (mu : Mut (H x)) (he : e = x ∨ H e = some (.own x)) (k : ∀ b u, b ≠ e → h.get? b = some u → h'.get? b = some u) (heo : ∃ u, h'.get? e = some u) : Un fs ex H (upd H x o) h h' := by
  have hx : ∀ b, H b = none → b ≠ x := fun b n z => by subst z; rw [n] at mu; exact mu
  have hb : ∀ b, H b = none → b ≠ e := fun b n z => by
    subst z
    rcases he with r | r
    · exact hx b n r
    · rw [n] at r; cases r
  have hm : ∀ b u, H b = some u → ¬ Mut (some u) → b ≠ x := fun b u q nm z => by subst z; rw [q] at mu; exact nm mu
  refine ⟨fun b u q n _ _ => k b u (hb b n) q, fun b u q n _ _ => ⟨u.slots, k b u (hb b n) q⟩, fun b u q n _ => by rw [upd_ne (hx b n)]; exact n, fun b u q _ => ?_,
    fun b xs q => by rw [upd_ne (hm b _ q fun z => z)]; exact q, fun b u xs q => by rw [upd_ne (hm b _ q fun z => z)]; exact q, fun b ps q => ⟨#[], by rw [upd_ne (hm b _ q fun z => z), q]; simp⟩⟩
  by_cases hbe : b = e
  · subst hbe; exact heo
  · exact ⟨u, k b u hbe q⟩
end


def trk (h : Heap) (H : Hp) : List Addr := (List.range h.objs.size).filter fun a => (H a).isSome
def hidT (h : Heap) (H : Hp) : Heap := PySem.W.hideAll h (trk h H)
theorem hidT_size (h : Heap) (H : Hp) : (hidT h H).objs.size = h.objs.size := PySem.W.hideAll_size _ _
theorem hidT_get {h : Heap} {H : Hp} {b : Addr} {o : Obj} (e : h.get? b = some o) (n : H b = none) : (hidT h H).get? b = some o :=
  PySem.W.hideAll_get _ e fun hm => by
    have q : (H b).isSome = true := (List.mem_filter.mp hm).2
    rw [n] at q; simp at q
theorem of_hidT {h : Heap} {H : Hp} {b : Addr} {o : Obj} (e : (hidT h H).get? b = some o) : h.get? b = some o ∧ H b = none := by
  have e' : h.get? b = some o := PySem.W.of_hideAll (trk h H) e
  refine ⟨e', ?_⟩
  cases q : H b with
  | none => rfl
  | some x =>
    have hm : b ∈ trk h H := List.mem_filter.mpr ⟨List.mem_range.mpr (Heap.lt_size e'), by simp [q]⟩
    have z : (hidT h H).get? b = none := PySem.W.hideAll_none (trk h H) hm
    rw [z] at e; cases e


end L2

namespace L2
open PySem PySem.Spec PyProof.Rows


structure Mod (K : PySem.W.Frag) (mg : Str → Option Value) (base : Heap) : Prop where
  kin : K.In base
  glob : base.Ns mainGlobals mg
  blt : ∃ mb, base.Ns builtinsNs mb ∧ ∀ x : Str, x ≠ "__name__" → mb x = bootBuiltins x
  nolimit : base.NoLimit


structure Cx where
  prog : Program
  w : World
  K : PySem.W.Frag
  mg : Str → Option Value
  base : Heap
  A : Around
  N : List Str
  s₀ : Shared
  H₀ : Hp
  env : Env
  outer : List Env
  stack : List Env
  ex : List Addr
  fn : Str → Bool
  calm : Bool
  pn : List (Addr × Obj)
  xe : Value → Shared → Prop

def frs (l : List Env) : List Addr := l.filterMap (·.frame)
abbrev Cx.fs (X : Cx) : List Addr := frs X.outer

def Vis (sc : Scope) (x : Str) : Prop := sc.names.lookup x = some .local ∨ sc.names.lookup x = some .cell ∨ sc.names.lookup x = some .free
def Loc (sc : Scope) (x : Str) : Prop := sc.names.lookup x = some .local ∨ sc.names.lookup x = some .cell
def Look (env : Env) (h : Heap) (m : Str → Option Value) (x : Str) (u : Value) : Prop :=
  (env.kindOf x = some .local ∧ m x = some u) ∨ ((env.kindOf x = some .cell ∨ env.kindOf x = some .free) ∧ ∃ c, env.cells.lookup x = some c ∧ h.IsCell c (some u))

structure Cx.Ok (X : Cx) : Prop where
  mod : Mod X.K X.mg X.base
  kind : X.env.scope.kind = .function
  glob : X.env.globals = mainGlobals
  blt : X.env.builtins = builtinsNs
  above : X.s₀.heap.objs.size ≤ X.env.locals
  inj : ∀ x y c, X.env.cells.lookup x = some c → X.env.cells.lookup y = some c → x = y
  has : ∀ x, (X.env.kindOf x = some .cell ∨ X.env.kindOf x = some .free) → ∃ c, X.env.cells.lookup x = some c
  cab : ∀ x c, X.fn x = true → X.env.cells.lookup x = some c → X.s₀.heap.objs.size ≤ c
  hd : X.calm = true → X.A.handled = none
  frames : X.A.frames = some X.stack
  stk : X.stack = X.outer ∨ (X.stack = X.env :: X.outer ∧ X.env.frame = some X.env.locals)
  exf : ∀ b ∈ X.ex, b ≠ X.env.locals ∧ ∀ x c, X.env.cells.lookup x = some c → c ≠ b
  bs : ∀ b o, X.base.get? b = some o → X.s₀.heap.get? b = some o ∧ X.H₀ b = none
  bsz : X.base.objs.size ≤ X.s₀.heap.objs.size
  noex : ∀ b o, X.base.get? b = some o → b ∉ X.ex
  exfs : ∀ b ∈ X.ex, b ∉ X.fs
  funs : X.s₀.heap.FunFrames X.base X.outer
  frf : ∀ b ∈ X.fs, X.H₀ b = none

structure Inv (X : Cx) (pins : List (Addr × Obj)) (σ : List (Option V)) (H : Hp) (s : Shared) : Prop where
  ok : X.Ok
  os : s.os = X.s₀.os
  bare : AllBare s.gens
  base : Un X.fs X.ex X.H₀ H X.s₀.heap s.heap
  loc : ∃ m, s.heap.Ns X.env.locals m ∧ ∀ (i : Nat) (x : Str) (v : V), X.N[i]? = some x → σ[i]? = some (some v) → Vis X.env.scope x → ∃ u, RelV v u ∧ Look X.env s.heap m x u
  cell : ∀ x c, X.env.cells.lookup x = some c → ∃ v, s.heap.IsCell c v
  free : H X.env.locals = none
  freeC : ∀ x c, X.env.cells.lookup x = some c → H c = none
  pin : ∀ p ∈ X.pn ++ pins, s.heap.get? p.1 = some p.2 ∧ H p.1 = none ∧ p.1 ≠ X.env.locals ∧ p.1 ∉ X.fs ∧ ∀ v, p.2.data ≠ .cell v
  hok : HOk X.prog X.w H s.heap
  len : σ.length = X.N.length

section
variable {X : Cx} {pins : List (Addr × Obj)} {σ : List (Option V)} {H H' : Hp} {s : Shared} {h' : Heap}

theorem Cx.Ok.nofr (ok : X.Ok) {b : Addr} {o : Obj} (e : X.base.get? b = some o) : b ∉ X.fs := fun hb => by
  have := (ok.funs.mem hb).1
  rw [e] at this; cases this
theorem Inv.bs (I : Inv X pins σ H s) : ∀ b o, X.base.get? b = some o → s.heap.get? b = some o ∧ H b = none := fun b o e =>
  ⟨I.base.keep b o (I.ok.bs b o e).1 (I.ok.bs b o e).2 (I.ok.nofr e) (I.ok.noex b o e), I.base.free b o (I.ok.bs b o e).1 (I.ok.bs b o e).2 (I.ok.noex b o e)⟩
theorem Inv.bk (I : Inv X pins σ H s) : ∀ b o, X.base.get? b = some o → s.heap.get? b = some o := fun b o e => (I.bs b o e).1
theorem Inv.mod (I : Inv X pins σ H s) : Mod X.K X.mg X.base := I.ok.mod
theorem Inv.kIn (I : Inv X pins σ H s) : X.K.In s.heap := I.ok.mod.kin.keeps I.bk
theorem Inv.lt (I : Inv X pins σ H s) : X.env.locals < s.heap.objs.size := let ⟨_, hn, _⟩ := I.loc; hn.lt
theorem Inv.sz (I : Inv X pins σ H s) : X.s₀.heap.objs.size ≤ s.heap.objs.size := Nat.le_trans I.ok.above (Nat.le_of_lt I.lt)
theorem Inv.nofs (I : Inv X pins σ H s) {a : Addr} (h : s.heap.objs.size ≤ a) : a ∉ X.fs := fun hb => by
  obtain ⟨_, o, ho, _⟩ := I.ok.funs.mem hb
  exact absurd (Nat.lt_of_lt_of_le (Heap.lt_size ho) (Nat.le_trans I.sz h)) (Nat.lt_irrefl _)
theorem Inv.cne (I : Inv X pins σ H s) : ∀ x c, X.env.cells.lookup x = some c → c ≠ X.env.locals := fun x c e z => by
  obtain ⟨v, o, ho, hd⟩ := I.cell x c e
  obtain ⟨m, ⟨o', es, ep, ho', hd', _⟩, _⟩ := I.loc
  rw [z, ho'] at ho; cases ho; rw [hd'] at hd; cases hd
theorem Inv.funs (I : Inv X pins σ H s) : s.heap.FunFrames X.base X.outer := by
  have all : ∀ (l : List Env), (∀ b ∈ frs l, b ∈ X.fs) → X.s₀.heap.FunFrames X.base l → s.heap.FunFrames X.base l := by
    intro l
    induction l with
    | nil => intro _ _; trivial
    | cons env r ih =>
      intro hs hl
      obtain ⟨hk, ⟨L, o, hf, hn, ho, hd⟩, hr⟩ := hl
      have hL : L ∈ X.fs := hs L (by unfold frs; rw [List.filterMap_cons, hf]; exact List.mem_cons_self)
      obtain ⟨sl, e⟩ := I.base.slot L o ho (I.ok.frf L hL) hL fun z => I.ok.exfs L z hL
      exact ⟨hk, ⟨L, _, hf, hn, e, hd⟩, ih (fun b hb => hs b (by unfold frs; rw [List.filterMap_cons, hf]; exact List.mem_cons_of_mem _ hb)) hr⟩
  exact all X.outer (fun _ hb => hb) I.ok.funs


theorem Inv.stack (I : Inv X pins σ H s) : s.heap.FunFrames X.base X.stack := by
  rcases I.ok.stk with e | ⟨e, hf⟩
  · rw [e]; exact I.funs
  · rw [e]
    obtain ⟨m, hn, _⟩ := I.loc
    refine .cons (by rw [I.ok.kind]; decide) hf hn ?_ I.funs
    exact Heap.get?_none_of_le (Nat.le_trans I.ok.bsz I.ok.above)
theorem Inv.stkSub (I : Inv X pins σ H s) : ∀ b ∈ frs X.stack, b ∈ X.env.locals :: X.fs := fun b hb => by
  rcases I.ok.stk with e | ⟨e, hf⟩
  · rw [e] at hb; exact List.mem_cons_of_mem _ hb
  · rw [e] at hb
    unfold frs at hb
    rw [List.filterMap_cons, hf] at hb
    exact hb
theorem Inv.stkFree (I : Inv X pins σ H s) : ∀ b ∈ frs X.stack, H b = none := fun b hb => by
  rcases List.mem_cons.mp (I.stkSub b hb) with e | hb
  · rw [e]; exact I.free
  · obtain ⟨_, o, ho, _⟩ := I.ok.funs.mem hb
    exact I.base.free b o ho (I.ok.frf b hb) fun z => I.ok.exfs b z hb


theorem Inv.step {g' : Array GenState} {t' : Nat} {d' : Drawn} {ch : List Addr} (I : Inv X pins σ H s)
    (hch : ∀ b ∈ ch, (b ∈ X.ex ∨ X.s₀.heap.objs.size ≤ b) ∧ b ≠ X.env.locals ∧ (∀ x c, X.env.cells.lookup x = some c → c ≠ b) ∧ ∀ p ∈ X.pn ++ pins, p.1 ≠ b)
    (keep : ∀ b o, b ≠ X.env.locals → b ∉ X.fs → b ∉ ch → s.heap.get? b = some o → H b = none → h'.get? b = some o)
    (slot : ∀ b o, b ≠ X.env.locals → b ∈ X.fs → b ∉ ch → s.heap.get? b = some o → H b = none → ∃ sl, h'.get? b = some { o with slots := sl }) (free : ∀ b o, b ∉ ch → s.heap.get? b = some o → H b = none → H' b = none)
    (there : ∀ b o, b ∉ ch → s.heap.get? b = some o → ∃ o', h'.get? b = some o')
    (tups : ∀ b xs, H b = some (.tup xs) → H' b = some (.tup xs)) (frzs : ∀ b o u, H b = some (.frz o u) → H' b = some (.frz o u)) (tbls : ∀ b ps, H b = some (.tbl ps) → ∃ more, H' b = some (.tbl (ps ++ more)))
    (ns : ∀ m, s.heap.Ns X.env.locals m → h'.Ns X.env.locals m) (hok : HOk X.prog X.w H' h') (hg : AllBare g') :
    Inv X pins σ H' { s with heap := h', gens := g', drawn := d', toks := t' } := by
  have neL : ∀ b o, X.s₀.heap.get? b = some o → b ≠ X.env.locals := fun b o e => Nat.ne_of_lt (Nat.lt_of_lt_of_le (Heap.lt_size e) I.ok.above)
  have neC : ∀ b o, X.s₀.heap.get? b = some o → b ∉ X.ex → b ∉ ch := fun b o e hx hb => by
    rcases (hch b hb).1 with z | z
    · exact hx z
    · exact absurd (Nat.lt_of_lt_of_le (Heap.lt_size e) z) (Nat.lt_irrefl _)
  have cellK : ∀ x c, X.env.cells.lookup x = some c → ∀ v, s.heap.IsCell c v → h'.IsCell c v := fun x c e v ⟨o, ho, hd⟩ => by
    have nch : c ∉ ch := fun z => (hch c z).2.2.1 x c e rfl
    by_cases hc : c ∈ X.fs
    · obtain ⟨sl, q⟩ := slot c o (I.cne x c e) hc nch ho (I.freeC x c e)
      exact ⟨_, q, hd⟩
    · exact ⟨o, keep c o (I.cne x c e) hc nch ho (I.freeC x c e), hd⟩
  refine ⟨I.ok, I.os, hg, ⟨fun b o e n hb hx => ?_, fun b o e n hb hx => ?_, fun b o e n hx => ?_, fun b o e hx => ?_, fun b xs e => tups b xs (I.base.tups b xs e), fun b o xs e => frzs b o xs (I.base.frzs b o xs e), fun b ps e => ?_⟩, ?_, fun x c e => ?_, ?_, fun x c e => ?_, fun p hp => ?_, hok, I.len⟩
  · exact keep b o (neL b o e) hb (neC b o e hx) (I.base.keep b o e n hb hx) (I.base.free b o e n hx)
  · obtain ⟨sl, e1⟩ := I.base.slot b o e n hb hx
    obtain ⟨sl', e2⟩ := slot b _ (neL b o e) hb (neC b o e hx) e1 (I.base.free b o e n hx)
    exact ⟨sl', e2⟩
  · obtain ⟨o', e1⟩ := I.base.there b o e hx
    exact free b o' (neC b o e hx) e1 (I.base.free b o e n hx)
  · obtain ⟨o', e1⟩ := I.base.there b o e hx
    exact there b o' (neC b o e hx) e1
  · obtain ⟨m1, e1⟩ := I.base.tbls b ps e
    obtain ⟨m2, e2⟩ := tbls b _ e1
    exact ⟨m1 ++ m2, by rw [e2, Array.append_assoc]⟩
  · obtain ⟨m, hn, hl⟩ := I.loc
    refine ⟨m, ns m hn, fun i x v e1 e2 e3 => ?_⟩
    obtain ⟨u, r, l⟩ := hl i x v e1 e2 e3
    refine ⟨u, r, ?_⟩
    rcases l with l | ⟨k, c, e, z⟩
    · exact .inl l
    · exact .inr ⟨k, c, e, cellK x c e _ z⟩
  · obtain ⟨v, z⟩ := I.cell x c e
    exact ⟨v, cellK x c e v z⟩
  · obtain ⟨m, ⟨o, _, _, ho, _⟩, _⟩ := I.loc
    exact free _ o (fun z => (hch _ z).2.1 rfl) ho I.free
  · obtain ⟨v, o, ho, hd⟩ := I.cell x c e
    exact free c o (fun z => (hch c z).2.2.1 x c e rfl) ho (I.freeC x c e)
  · obtain ⟨e, n, ne, nf, d⟩ := I.pin p hp
    have nch : p.1 ∉ ch := fun z => (hch p.1 z).2.2.2 p hp rfl
    exact ⟨keep p.1 p.2 ne nf nch e n, free p.1 p.2 nch e n, ne, nf, d⟩

theorem Inv.un {t' : Nat} (I : Inv X pins σ H s) (u : Un X.fs [] H H' s.heap h') (hok : HOk X.prog X.w H' h') : Inv X pins σ H' { s with heap := h', toks := t' } := by
  obtain ⟨m, ⟨o, es, ep, ho, r⟩, _⟩ := id I.loc
  obtain ⟨sl, hL⟩ := u.any ho I.free (by simp)
  exact I.step (g' := s.gens) (d' := s.drawn) (ch := []) (fun _ z => nomatch z) (fun b o _ hb _ e n => u.keep b o e n hb (by simp)) (fun b o _ hb _ e n => u.slot b o e n hb (by simp)) (fun b o _ e n => u.free b o e n (by simp)) (fun b o _ e => u.there b o e (by simp)) u.tups u.frzs u.tbls (fun m' hm => by
    obtain ⟨o', es', ep', ho', r'⟩ := hm
    rw [ho] at ho'; cases ho'
    exact ⟨_, es', ep', hL, r'⟩) hok I.bare

theorem Inv.call {g' : Array GenState} {t' : Nat} {d' : Drawn} {ch : List Addr} (I : Inv X pins σ H s) (u : Un (frs X.stack) ch H H' s.heap h') (hok : HOk X.prog X.w H' h') (hg : AllBare g')
    (hch : ∀ b ∈ ch, (b ∈ X.ex ∨ X.s₀.heap.objs.size ≤ b) ∧ b ≠ X.env.locals ∧ (∀ x c, X.env.cells.lookup x = some c → c ≠ b) ∧ ∀ p ∈ X.pn ++ pins, p.1 ≠ b) :
    Inv X pins σ H' { s with heap := h', gens := g', drawn := d', toks := t' } := by
  obtain ⟨m, ⟨o, es, ep, ho, r⟩, _⟩ := id I.loc
  obtain ⟨sl, hL⟩ := u.any ho I.free fun z => (hch _ z).2.1 rfl
  exact I.step (ch := ch) hch (fun b o hL hb hc e n => u.keep b o e n (fun z => (List.mem_cons.mp (I.stkSub b z)).elim hL hb) hc) (fun b o _ _ hc e n => u.any e n hc) (fun b o hc e n => u.free b o e n hc) (fun b o hc e => u.there b o e hc) u.tups u.frzs u.tbls (fun m' hm => by
    obtain ⟨o', es', ep', ho', r'⟩ := hm
    rw [ho] at ho'; cases ho'
    exact ⟨_, es', ep', hL, r'⟩) hok hg

theorem Inv.turned {t' : Nat} {it : Addr} (I : Inv X pins σ H s) (k : ∀ b o, b ≠ it → s.heap.get? b = some o → h'.get? b = some o) (hn : H it = none) (hL : it ≠ X.env.locals)
    (h1 : it ∈ X.ex ∨ X.s₀.heap.objs.size ≤ it) (h2 : ∀ x c, X.env.cells.lookup x = some c → c ≠ it) (h3 : ∀ p ∈ X.pn ++ pins, p.1 ≠ it) : Inv X pins σ H { s with heap := h', toks := t' } := by
  have nit : ∀ b u, H b = some u → b ≠ it := fun b u e z => by rw [z, hn] at e; cases e
  refine I.step (g' := s.gens) (d' := s.drawn) (ch := [it]) (fun b hb => ?_) (fun b o _ _ hc e _ => k b o (fun z => hc (by simp [z])) e) (fun b o _ _ hc e _ => ⟨o.slots, k b o (fun z => hc (by simp [z])) e⟩) (fun _ _ _ _ n => n)
    (fun b o hc e => ⟨o, k b o (fun z => hc (by simp [z])) e⟩) (fun _ _ e => e) (fun _ _ _ e => e) (fun b ps e => ⟨#[], by rw [e]; simp⟩) (fun m hm => ?_) (fun b u e => ?_) I.bare
  · have e : b = it := by simpa using hb
    subst e
    exact ⟨h1, hL, h2, h3⟩
  · obtain ⟨o, es, ep, ho, r⟩ := hm
    exact ⟨o, es, ep, k _ o (Ne.symm hL) ho, r⟩
  · refine (I.hok b u e).stay (fun c v hc q => k c v ?_ q) (fun _ q => q) fun _ _ q => q
    rcases hc with z | z
    · rw [z]; exact nit b u e
    · exact nit c _ z
theorem Inv.tok (I : Inv X pins σ H s) (t : Nat) : Inv X pins σ H { s with toks := t } := I.un (h' := s.heap) (t' := t) Un.refl I.hok

theorem Inv.kept {t' : Nat} (I : Inv X pins σ H s) (k : ∀ b u, s.heap.get? b = some u → h'.get? b = some u) : Inv X pins σ H { s with heap := h', toks := t' } := I.un (Un.kept k) (I.hok.kept k)

theorem Inv.laid {a : Addr} {o : HO} {t' : Nat} (I : Inv X pins σ H s) (k : ∀ b u, s.heap.get? b = some u → h'.get? b = some u) (hp : s.heap.objs.size ≤ a) (new : ObjOk X.prog X.w (upd H a o) h' a o) :
    Inv X pins σ (upd H a o) { s with heap := h', toks := t' } := I.un (Un.laid k hp (I.hok.fresh hp)) (I.hok.laid k hp new)

theorem Inv.write {x e : Addr} {o : HO} {t' : Nat} (I : Inv X pins σ H s) (mu : Mut (H x)) (he : e = x ∨ H e = some (.own x)) (k : ∀ b u, b ≠ e → s.heap.get? b = some u → h'.get? b = some u) (heo : ∃ u, h'.get? e = some u)
    (new : ObjOk X.prog X.w (upd H x o) h' x o) : Inv X pins σ (upd H x o) { s with heap := h', toks := t' } := I.un (Un.write mu he k heo) (I.hok.write mu he k heo new)

theorem Inv.pins_of {pins' : List (Addr × Obj)} (I : Inv X pins σ H s) (h : ∀ p ∈ pins', s.heap.get? p.1 = some p.2 ∧ H p.1 = none ∧ p.1 ≠ X.env.locals ∧ p.1 ∉ X.fs ∧ ∀ v, p.2.data ≠ .cell v) : Inv X pins' σ H s :=
  ⟨I.ok, I.os, I.bare, I.base, I.loc, I.cell, I.free, I.freeC, fun p hp => (List.mem_append.mp hp).elim (fun z => I.pin p (List.mem_append_left _ z)) (h p), I.hok, I.len⟩

theorem nodup_ix {N : List Str} (hN : N.Nodup) {i j : Nat} {x : Str} (a : N[i]? = some x) (b : N[j]? = some x) : i = j := by
  obtain ⟨h1, e1⟩ := List.getElem?_eq_some_iff.mp a
  obtain ⟨h2, e2⟩ := List.getElem?_eq_some_iff.mp b
  exact (List.getElem_inj hN).mp (e1.trans e2.symm)


theorem store_ok2 {M : Model} {A : Around} {E : Value → Shared → Prop} {i : Nat} {x : Str} {v : V} {u : Value} {Q : Unit → Shared → Prop} (I : Inv X pins σ H s) (hN : X.N.Nodup) (hi : X.N[i]? = some x) (hx : Loc X.env.scope x) (r : RelV v u)
    (h : ∀ s', Inv X pins (σ.set i (some v)) H s' → (∃ a, Heap.SameBut a s.heap s'.heap ∧ (a = X.env.locals ∨ X.env.cells.lookup x = some a)) → Q () s') (hf : X.fn x = true ∨ X.env.scope.names.lookup x = some .local := by first | exact .inl rfl | exact .inr rfl | assumption) : wpAny M A (storeName X.env x u) Q E s := by
  obtain ⟨m, hn, hl⟩ := id I.loc
  have hcls : (X.env.scope.kind == .class || (X.env.scope.kind == .module && X.env.locals != X.env.globals)) = false := by rw [I.ok.kind]; rfl
  have hiσ : i < σ.length := by rw [I.len]; exact (List.getElem?_eq_some_iff.mp hi).1
  have cne := I.cne
  have tracked : ∀ {a : Addr} {h' : Heap}, (∃ o, s.heap.get? a = some o ∧ H a = none) → Heap.SameBut a s.heap h' → HOk X.prog X.w H h' := fun {a h'} ha hs b ob e => by
    obtain ⟨_, _, hfree⟩ := ha
    refine (I.hok b ob e).stay (fun c w' hc q => (hs.2 c ?_).trans q) (fun _ q => q) fun _ _ q => q
    rintro rfl
    rcases hc with rfl | hc
    · rw [hfree] at e; cases e
    · rw [hfree] at hc; cases hc
  rcases hx with hk | hk
  · refine wpAny_storeName_local hk hn (fun h' hn' hs => ?_) hcls
    obtain ⟨oL, _, _, hoL, _⟩ := id hn
    refine h _ ⟨I.ok, I.os, I.bare, ⟨fun b o e n hb hx => ?_, fun b o e n hb hx => ?_, I.base.free, fun b o e hx => ?_, I.base.tups, I.base.frzs, I.base.tbls⟩, ⟨_, hn', fun j y v' e1 e2 e3 => ?_⟩, fun y c e => ?_, I.free, I.freeC, fun p hp => ?_, tracked ⟨oL, hoL, I.free⟩ hs, by simpa using I.len⟩ ⟨_, hs, .inl rfl⟩
    · exact (hs.2 b (Nat.ne_of_lt (Nat.lt_of_lt_of_le (Heap.lt_size e) I.ok.above))).trans (I.base.keep b o e n hb hx)
    · obtain ⟨sl, e1⟩ := I.base.slot b o e n hb hx
      exact ⟨sl, (hs.2 b (Nat.ne_of_lt (Nat.lt_of_lt_of_le (Heap.lt_size e) I.ok.above))).trans e1⟩
    · obtain ⟨o', e1⟩ := I.base.there b o e hx
      exact ⟨o', (hs.2 b (Nat.ne_of_lt (Nat.lt_of_lt_of_le (Heap.lt_size e) I.ok.above))).trans e1⟩
    · by_cases hj : j = i
      · subst hj
        rw [hi] at e1; cases e1
        rw [List.getElem?_set_self hiσ] at e2
        cases e2
        exact ⟨u, r, .inl ⟨hk, by simp⟩⟩
      · rw [List.getElem?_set_ne (Ne.symm hj)] at e2
        obtain ⟨u', r', q⟩ := hl j y v' e1 e2 e3
        refine ⟨u', r', ?_⟩
        rcases q with ⟨k, e⟩ | ⟨k, c, e, z⟩
        · refine .inl ⟨k, ?_⟩
          have : y ≠ x := fun e => hj (nodup_ix hN e1 (e ▸ hi))
          simp [this, e]
        · exact .inr ⟨k, c, e, z.sameBut hs (cne y c e)⟩
    · obtain ⟨w', z⟩ := I.cell y c e
      exact ⟨w', z.sameBut hs (cne y c e)⟩
    · obtain ⟨e, n, ne, nf, d⟩ := I.pin p hp
      exact ⟨(hs.2 p.1 ne).trans e, n, ne, nf, d⟩
  · have hfn : X.fn x = true := by
      rcases hf with z | z
      · exact z
      · rw [z] at hk; cases hk
    obtain ⟨c, hc⟩ := I.ok.has x (.inl hk)
    obtain ⟨w', z⟩ := I.cell x c hc
    refine wpAny_storeName_cell I.ok.kind hk hc z (fun h' hc' hs => ?_)
    obtain ⟨oc, hoc, hocd⟩ := id z
    refine h { s with heap := h' } ⟨I.ok, I.os, I.bare, ⟨fun b o e n hb hx => ?_, fun b o e n hb hx => ?_, I.base.free, fun b o e hx => ?_, I.base.tups, I.base.frzs, I.base.tbls⟩, ⟨m, hn.sameBut hs (Ne.symm (cne x c hc)), fun j y v' e1 e2 e3 => ?_⟩, fun y c' e => ?_, I.free, I.freeC, fun p hp => ?_, tracked ⟨oc, hoc, I.freeC x c hc⟩ hs, by simpa using I.len⟩ ⟨c, hs, .inr hc⟩
    · exact (hs.2 b (Nat.ne_of_lt (Nat.lt_of_lt_of_le (Heap.lt_size e) (I.ok.cab x c hfn hc)))).trans (I.base.keep b o e n hb hx)
    · obtain ⟨sl, e1⟩ := I.base.slot b o e n hb hx
      exact ⟨sl, (hs.2 b (Nat.ne_of_lt (Nat.lt_of_lt_of_le (Heap.lt_size e) (I.ok.cab x c hfn hc)))).trans e1⟩
    · obtain ⟨o', e1⟩ := I.base.there b o e hx
      exact ⟨o', (hs.2 b (Nat.ne_of_lt (Nat.lt_of_lt_of_le (Heap.lt_size e) (I.ok.cab x c hfn hc)))).trans e1⟩
    · by_cases hj : j = i
      · subst hj
        rw [hi] at e1; cases e1
        rw [List.getElem?_set_self hiσ] at e2
        cases e2
        exact ⟨u, r, .inr ⟨.inl hk, c, hc, hc'⟩⟩
      · rw [List.getElem?_set_ne (Ne.symm hj)] at e2
        obtain ⟨u', r', q⟩ := hl j y v' e1 e2 e3
        refine ⟨u', r', ?_⟩
        rcases q with q | ⟨k, c', e, z'⟩
        · exact .inl q
        · refine .inr ⟨k, c', e, z'.sameBut hs ?_⟩
          rintro rfl
          exact hj (nodup_ix hN e1 (I.ok.inj _ _ _ e hc ▸ hi))
    · by_cases hcc : c' = c
      · subst hcc; exact ⟨_, hc'⟩
      · obtain ⟨w2, z2⟩ := I.cell y c' e
        exact ⟨w2, z2.sameBut hs hcc⟩
    · obtain ⟨e, n, ne, nf, d⟩ := I.pin p hp
      refine ⟨(hs.2 p.1 ?_).trans e, n, ne, nf, d⟩
      intro q
      rw [q, hoc] at e
      have q' : oc = p.2 := Option.some.inj e
      exact d w' (by rw [← q']; exact hocd)
theorem store_ok {M : Model} {A : Around} {E : Value → Shared → Prop} {i : Nat} {x : Str} {v : V} {u : Value} {Q : Unit → Shared → Prop} (I : Inv X pins σ H s) (hN : X.N.Nodup) (hi : X.N[i]? = some x) (hx : Loc X.env.scope x) (r : RelV v u)
    (h : ∀ s', Inv X pins (σ.set i (some v)) H s' → Q () s') (hf : X.fn x = true ∨ X.env.scope.names.lookup x = some .local := by first | exact .inl rfl | exact .inr rfl | assumption) : wpAny M A (storeName X.env x u) Q E s :=
  store_ok2 I hN hi hx r (fun s' I' _ => h s' I') hf

theorem Inv.call' {s' : Shared} {ch : List Addr} (I : Inv X pins σ H s) (ho : s'.os = s.os) (u : Un (frs X.stack) ch H H' s.heap s'.heap) (hok : HOk X.prog X.w H' s'.heap) (hg : AllBare s'.gens)
    (hch : ∀ b ∈ ch, (b ∈ X.ex ∨ X.s₀.heap.objs.size ≤ b) ∧ b ≠ X.env.locals ∧ (∀ x c, X.env.cells.lookup x = some c → c ≠ b) ∧ ∀ p ∈ X.pn ++ pins, p.1 ≠ b) : Inv X pins σ H' s' := by
  obtain ⟨h', g', d', t', o'⟩ := s'
  have e : o' = s.os := ho
  subst e
  exact I.call (g' := g') (t' := t') (d' := d') u hok hg hch
end



abbrev XK := Value → Option Addr → Hp → Prop
abbrev St := List (Option V)
abbrev VK := V → Hp → Prop

abbrev TE := St → Hp → VK → Prop
abbrev TT := St → Hp → (Bool → Hp → Prop) → Prop
abbrev TA := St → Hp → (List V → Hp → Prop) → Prop

structure Ends where
  nx : St → Hp → Prop
  rt : VK
  bk : St → Hp → Prop := fun _ _ => False
  ct : St → Hp → Prop := fun _ _ => False
abbrev TS := Ends → St → Hp → Prop

def EP (X : Cx) (pins : List (Addr × Obj)) (σ : St) (Q : VK) (u : Value) (s' : Shared) : Prop := ∃ v H', Inv X pins σ H' s' ∧ RelV v u ∧ Q v H'
def TP (X : Cx) (pins : List (Addr × Obj)) (σ : St) (Q : Bool → Hp → Prop) (b : Bool) (s' : Shared) : Prop := ∃ H', Inv X pins σ H' s' ∧ Q b H'
def AP (X : Cx) (pins : List (Addr × Obj)) (σ : St) (Q : List V → Hp → Prop) (us : List Value) (s' : Shared) : Prop := ∃ vs H', Inv X pins σ H' s' ∧ Vals vs us ∧ Q vs H'
def SP (X : Cx) (pins : List (Addr × Obj)) (D : Ends) (f : Flow) (s' : Shared) : Prop :=
  match f with
  | .next => ∃ σ' H', Inv X pins σ' H' s' ∧ D.nx σ' H'
  | .brk => ∃ σ' H', Inv X pins σ' H' s' ∧ D.bk σ' H'
  | .cont => ∃ σ' H', Inv X pins σ' H' s' ∧ D.ct σ' H'
  | .ret u => ∃ v σ' H', Inv X pins σ' H' s' ∧ RelV v u ∧ D.rt v H'

def PE (X : Cx) (e : Expr) (t : TE) : Prop :=
  ∀ (pins : List (Addr × Obj)) (s : Shared) (σ : St) (H : Hp) (Q : VK), Inv X pins σ H s → t σ H Q → wpAny (model X.prog X.w) X.A (eval e X.env) (EP X pins σ Q) X.xe s
def PT (X : Cx) (e : Expr) (t : TT) : Prop :=
  ∀ (pins : List (Addr × Obj)) (s : Shared) (σ : St) (H : Hp) (Q : Bool → Hp → Prop), Inv X pins σ H s → t σ H Q → wpAny (model X.prog X.w) X.A (isTrue e X.env (eval e X.env)) (TP X pins σ Q) X.xe s

def PW (X : Cx) (e : Expr) (t : TT) : Prop :=
  ∀ (whole : Sem Value) (pins : List (Addr × Obj)) (s : Shared) (σ : St) (H : Hp) (Q : Bool → Hp → Prop), Inv X pins σ H s → t σ H Q → wpAny (model X.prog X.w) X.A (isTrue e X.env whole) (TP X pins σ Q) X.xe s
theorem PW.pt {X : Cx} {e : Expr} {t : TT} (h : PW X e t) : PT X e t := h _

def PA (X : Cx) (es : List Expr) (t : TA) : Prop :=
  ∀ (pos : Pos) (pins : List (Addr × Obj)) (s : Shared) (σ : St) (H : Hp) (Q : List V → Hp → Prop), Inv X pins σ H s → t σ H Q → wpAny (model X.prog X.w) X.A (spliced (backTo pos (starEach es X.env))) (AP X pins σ Q) X.xe s
def PS (X : Cx) (st : Stmt) (t : TS) : Prop :=
  ∀ (pins : List (Addr × Obj)) (s : Shared) (σ : St) (H : Hp) (D : Ends), Inv X pins σ H s → t D σ H → wpAny (model X.prog X.w) X.A (exec st X.env) (SP X pins D) X.xe s
def PSs (X : Cx) (st : List Stmt) (t : TS) : Prop :=
  ∀ (pins : List (Addr × Obj)) (s : Shared) (σ : St) (H : Hp) (D : Ends), Inv X pins σ H s → t D σ H → wpAny (model X.prog X.w) X.A (execs st X.env) (SP X pins D) X.xe s

theorem thn {α : Type} {t : Sem α} {Q Q' : α → Shared → Prop} {M : Model} {A : Around} {E : Value → Shared → Prop} {s : Shared} (h : wpAny M A t Q E s) (hQ : ∀ a s, Q a s → Q' a s) : wpAny M A t Q' E s := wpAny_mono h hQ fun _ _ x => x
end L2

namespace L2
open PySem PySem.Spec PyProof.Rows
section
variable {X : Cx}


def tVar (i : Nat) : TE := fun σ H Q => ∃ v, σ[i]? = some (some v) ∧ Q v H
def tC (v : V) : TE := fun _ H Q => Q v H
theorem pe_var {i : Nat} {x : Str} {pos : Pos} (hN : X.N[i]? = some x) (hv : Vis X.env.scope x) (hd : (x == ("__debug__" : Str)) = false := by decide) (hcd : (x == ("__classdict__" : Str)) = false := by decide) : PE X (.Name x pos) (tVar i) := by
  intro pins s σ H Q I h
  obtain ⟨v, e, h⟩ := h
  obtain ⟨m, hn, hl⟩ := I.loc
  obtain ⟨u, r, l⟩ := hl i x v hN e hv
  have fin : EP X pins σ Q u s := ⟨v, H, I, r, h⟩
  rcases l with ⟨hk, hm⟩ | ⟨hk, c, hc, hcell⟩
  · exact wpAny_Name (wpAny_loadName_local I.ok.kind hk hn hm fin) hd
  · rcases hk with hk | hk
    · exact wpAny_Name (wpAny_loadName_cell I.ok.kind hk hc hcell fin) hd
    · exact wpAny_Name (wpAny_loadName_free I.ok.kind hk hc hcell fin hcd) hd
theorem pe_int {i j pos} : PE X (.Constant (.int i) j pos) (tC (.int i)) := fun _ _ _ H _ I h => wpAny_Constant_int ⟨.int i, H, I.tok _, ⟨_, rfl⟩, h⟩
theorem pe_bl {b j pos} : PE X (.Constant (.bool b) j pos) (tC (.bl b)) := fun _ _ _ H _ I h => Constant_bool ⟨.bl b, H, I, rfl, h⟩
theorem pe_non {j pos} : PE X (.Constant .none j pos) (tC .non) := fun _ _ _ H _ I h => Constant_none ⟨.non, H, I, rfl, h⟩
theorem pe_str {x j pos} : PE X (.Constant (.str x) j pos) (tC (.str x)) := fun _ _ _ H _ I h => Calls.Constant_str ⟨.str x, H, I.tok _, ⟨_, rfl⟩, h⟩


def Gl (X : Cx) (x : Str) : Prop := X.env.kindOf x = some .globalImplicit
theorem ld_glob {E : Value → Shared → Prop} {pins : List (Addr × Obj)} {s : Shared} {σ : St} {H : Hp} {x : Str} {u : Value} {pos : Pos} {Q : Value → Shared → Prop} (I : Inv X pins σ H s) (hg : Gl X x) (hm : X.mg x = some u) (h : Q u s)
    (hd : (x == ("__debug__" : Str)) = false := by decide) : wpAny (model X.prog X.w) X.A (eval (.Name x pos) X.env) Q E s :=
  Calls.Name_function_global I.ok.kind hg (Calls.loadGlobal_global (by rw [I.ok.glob]; exact I.mod.glob.keeps I.bk) hm h) hd
theorem ld_blt {E : Value → Shared → Prop} {pins : List (Addr × Obj)} {s : Shared} {σ : St} {H : Hp} {x : Str} {u : Value} {pos : Pos} {Q : Value → Shared → Prop} (I : Inv X pins σ H s) (hg : Gl X x) (hm : X.mg x = none) (hv : bootBuiltins x = some u) (h : Q u s)
    (hn : x ≠ "__name__" := by decide) (hd : (x == ("__debug__" : Str)) = false := by decide) : wpAny (model X.prog X.w) X.A (eval (.Name x pos) X.env) Q E s := by
  obtain ⟨mb, h1, h2⟩ := I.mod.blt
  exact Calls.Name_function_global I.ok.kind hg (Calls.loadGlobal_builtin (by rw [I.ok.glob]; exact I.mod.glob.keeps I.bk) hm (by rw [I.ok.blt]; exact h1.keeps I.bk) ((h2 x hn).trans hv) h) hd

theorem pe_glob {x : Str} {v : V} {u : Value} {pos : Pos} (hg : Gl X x) (hm : X.mg x = some u) (r : RelV v u) (hd : (x == ("__debug__" : Str)) = false := by decide) : PE X (.Name x pos) (tC v) :=
  fun _ _ _ H _ I h => ld_glob I hg hm ⟨v, H, I, r, h⟩ hd
theorem pe_bltn {x : Str} {v : V} {u : Value} {pos : Pos} (hg : Gl X x) (hm : X.mg x = none) (hv : bootBuiltins x = some u) (r : RelV v u) (hn : x ≠ "__name__" := by decide) (hd : (x == ("__debug__" : Str)) = false := by decide) : PE X (.Name x pos) (tC v) :=
  fun _ _ _ H _ I h => ld_blt I hg hm hv ⟨v, H, I, r, h⟩ hn hd



variable {a b : Expr} {ta tb : TE} {pos : Pos}
variable {tA tB' : TT} {rest : List Expr}
def tAnd (t u : TT) : TT := fun σ H Q => t σ H fun c H1 => if c = true then u σ H1 Q else Q false H1
def tOr (t u : TT) : TT := fun σ H Q => t σ H fun c H1 => if c = true then Q true H1 else u σ H1 Q
def tNot (t : TT) : TT := fun σ H Q => t σ H fun c H1 => Q (!c) H1
theorem pw_and1 (ha : PT X a tA) : PW X (.BoolOp .And [a] pos) tA := by
  intro wh pins s σ H Q I h
  refine isTrue_and (thn (ha pins s σ H Q I h) fun c s1 e => ?_)
  cases c with
  | true => exact isTrue_and_nil e
  | false => exact e
theorem pw_or1 (ha : PT X a tA) : PW X (.BoolOp .Or [a] pos) tA := by
  intro wh pins s σ H Q I h
  refine isTrue_or (thn (ha pins s σ H Q I h) fun c s1 e => ?_)
  cases c with
  | false => exact isTrue_or_nil e
  | true => exact e
theorem pw_and (ha : PT X a tA) (hb : PW X (.BoolOp .And (b :: rest) pos) tB') : PW X (.BoolOp .And (a :: b :: rest) pos) (tAnd tA tB') := by
  intro wh pins s σ H Q I h
  refine isTrue_and (thn (ha pins s σ H _ I h) fun c s1 ⟨H1, I1, q1⟩ => ?_)
  cases c with
  | true => exact hb wh pins s1 σ H1 Q I1 q1
  | false => exact ⟨H1, I1, q1⟩
theorem pw_or (ha : PT X a tA) (hb : PW X (.BoolOp .Or (b :: rest) pos) tB') : PW X (.BoolOp .Or (a :: b :: rest) pos) (tOr tA tB') := by
  intro wh pins s σ H Q I h
  refine isTrue_or (thn (ha pins s σ H _ I h) fun c s1 ⟨H1, I1, q1⟩ => ?_)
  cases c with
  | true => exact ⟨H1, I1, q1⟩
  | false => exact hb wh pins s1 σ H1 Q I1 q1
theorem pt_not (ha : PT X a tA) : PT X (.UnaryOp .Not a pos) (tNot tA) := by
  intro pins s σ H Q I h
  exact isTrue_not (ha pins s σ H (fun c H1 => Q (!c) H1) I h)

def tAndV (ta tb : TE) : TE := fun σ H Q => ta σ H fun x H1 => ∃ c, x = .bl c ∧ if c = true then tb σ H1 Q else Q (.bl false) H1
def tOrV (ta tb : TE) : TE := fun σ H Q => ta σ H fun x H1 => ∃ c, x = .bl c ∧ if c = true then Q (.bl true) H1 else tb σ H1 Q
def tNotV (ta : TE) : TE := fun σ H Q => ta σ H fun x H1 => ∃ c, x = .bl c ∧ Q (.bl (!c)) H1
theorem pe_one {op} {t : TE} (h : PE X a t) : PE X (.BoolOp op [a] pos) t := fun pins s σ H Q I hw => BoolOp_one (h pins s σ H Q I hw)
theorem pe_and (ha : PE X a ta) (hb : PE X (.BoolOp .And (b :: rest) pos) tb) : PE X (.BoolOp .And (a :: b :: rest) pos) (tAndV ta tb) := by
  intro pins s σ H Q I h
  refine BoolOp_and (thn (ha pins s σ H _ I h) fun v s1 ⟨x, H1, I1, r1, q1⟩ => ?_)
  obtain ⟨c, rfl, q1⟩ := q1
  cases r1
  refine wpAny_truthy_bool ?_
  cases c with
  | true => exact hb pins s1 σ H1 Q I1 q1
  | false => exact ⟨.bl false, H1, I1, rfl, q1⟩
theorem pe_or (ha : PE X a ta) (hb : PE X (.BoolOp .Or (b :: rest) pos) tb) : PE X (.BoolOp .Or (a :: b :: rest) pos) (tOrV ta tb) := by
  intro pins s σ H Q I h
  refine BoolOp_or (thn (ha pins s σ H _ I h) fun v s1 ⟨x, H1, I1, r1, q1⟩ => ?_)
  obtain ⟨c, rfl, q1⟩ := q1
  cases r1
  refine wpAny_truthy_bool ?_
  cases c with
  | false => exact hb pins s1 σ H1 Q I1 q1
  | true => exact ⟨.bl true, H1, I1, rfl, q1⟩
theorem pe_not (ha : PE X a ta) : PE X (.UnaryOp .Not a pos) (tNotV ta) := by
  intro pins s σ H Q I h
  refine UnaryOp_ (thn (ha pins s σ H _ I h) fun v s1 ⟨x, H1, I1, r1, q1⟩ => ?_)
  obtain ⟨c, rfl, q1⟩ := q1
  cases r1
  exact not_of (wpAny_truthy_bool ⟨.bl (!c), H1, I1, rfl, q1⟩)

def tIf (t : TT) (ta tb : TE) : TE := fun σ H Q => t σ H fun c H1 => if c = true then ta σ H1 Q else tb σ H1 Q
theorem pe_ifExp {c : Expr} (hc : PT X c tA) (ha : PE X a ta) (hb : PE X b tb) : PE X (.IfExp c a b pos) (tIf tA ta tb) := by
  intro pins s σ H Q I h
  refine wpAny_IfExp (thn (hc pins s σ H _ I h) fun d s1 ⟨H1, I1, q1⟩ => ?_)
  cases d with
  | true => exact ha pins s1 σ H1 Q I1 q1
  | false => exact hb pins s1 σ H1 Q I1 q1
end
end L2

namespace L2
open PySem PySem.Spec PyProof.Rows


def SqL (K : PySem.W.Frag) (H : Hp) (a : Addr) (xs : List V) : Prop :=
  Rd H a (.lst xs) ∨
    ∃ (o : Obj) (its : Array Value) (n : Nat), K.lookup a = some o ∧ o.cls = .type "list" ∧ o.dict = none ∧ o.data = .seq its n ∧ its.size ≤ sizeLine ∧ Vals xs its.toList
def SqT (K : PySem.W.Frag) (H : Hp) (a : Addr) (xs : List V) : Prop :=
  Rd H a (.tup xs) ∨
    ∃ (o : Obj) (its : Array Value) (n : Nat), K.lookup a = some o ∧ o.cls = .type "tuple" ∧ o.data = .seq its n ∧ its.size ≤ sizeLine ∧ Vals xs its.toList
def absV : Value → Option V
  | .none => some .non
  | .bool b => some (.bl b)
  | .int i _ => some (.int i)
  | .str x _ => some (.str x)
  | .bytes b _ => some (.byt b)
  | .float b _ => some (.flt b)
  | .ref a => some (.ref a)
  | .type n => some (.ty n)
  | _ => none
theorem RelV.abs {x : V} {u : Value} (r : RelV x u) : absV u = some x := by
  cases x with
  | non => cases r; rfl
  | bl _ => cases r; rfl
  | int _ => obtain ⟨t, rfl⟩ := r; rfl
  | str _ => obtain ⟨t, rfl⟩ := r; rfl
  | byt _ => obtain ⟨t, rfl⟩ := r; rfl
  | flt _ => obtain ⟨t, rfl⟩ := r; rfl
  | ref _ => cases r; rfl
  | ty _ => cases r; rfl
theorem RelV.inj {x y : V} {u : Value} (r : RelV x u) (q : RelV y u) : x = y := Option.some.inj (r.abs.symm.trans q.abs)
theorem Vals.inj : ∀ {xs ys : List V} {us : List Value}, Vals xs us → Vals ys us → xs = ys
  | _, _, _, .nil, .nil => rfl
  | _, _, _, .cons r t, .cons r' t' => by rw [r.inj r', Vals.inj t t']
section
variable {X : Cx} {pins : List (Addr × Obj)} {σ : St} {H : Hp} {s : Shared} {a : Addr} {xs ys : List V}
theorem SqL.of {K : PySem.W.Frag} (h : H a = some (.lst xs)) : SqL K H a xs := .inl (.inl h)
theorem SqT.of {K : PySem.W.Frag} (h : H a = some (.tup xs)) : SqT K H a xs := .inl (.inl h)
theorem Inv.list (I : Inv X pins σ H s) (h : SqL X.K H a xs) : ∃ its : List Value, Vals xs its ∧ PlainL s.heap a its.toArray ∧ xs.length ≤ sizeLine := by
  rcases h with h | ⟨o, its, n, hk, hc, hd, hs, hz, r⟩
  · obtain ⟨z, its, n, r, e⟩ := h.ok I.hok
    exact ⟨its, r, ⟨_, n, e, rfl, rfl, rfl⟩, z⟩
  · refine ⟨its.toList, r, ⟨o, n, I.kIn a o hk, hc, hd, by simpa using hs⟩, ?_⟩
    have e := r.length
    simp only [Array.length_toList] at e
    omega
theorem Inv.tuple (I : Inv X pins σ H s) (h : SqT X.K H a xs) : ∃ its : List Value, Vals xs its ∧ IsTup s.heap a its.toArray ∧ xs.length ≤ sizeLine := by
  rcases h with h | ⟨o, its, n, hk, hc, hs, hz, r⟩
  · obtain ⟨z, its, r, p⟩ := h.ok I.hok
    exact ⟨its, r, p, z⟩
  · refine ⟨its.toList, r, ⟨o, I.kIn a o hk, hc, n, by simpa using hs⟩, ?_⟩
    have e := r.length
    simp only [Array.length_toList] at e
    omega
theorem Inv.list_inj (I : Inv X pins σ H s) (h : SqL X.K H a xs) (h' : SqL X.K H a ys) : xs = ys := by
  obtain ⟨its, r, ⟨o, n, e, _, _, d⟩, _⟩ := I.list h
  obtain ⟨its', r', ⟨o', n', e', _, _, d'⟩, _⟩ := I.list h'
  rw [e] at e'; cases e'
  rw [d] at d'
  injection d' with d1 _
  have : its = its' := by simpa using congrArg Array.toList d1
  subst this
  exact r.inj r'
theorem Inv.tuple_inj (I : Inv X pins σ H s) (h : SqT X.K H a xs) (h' : SqT X.K H a ys) : xs = ys := by
  obtain ⟨its, r, ⟨o, e, _, n, d⟩, _⟩ := I.tuple h
  obtain ⟨its', r', ⟨o', e', _, n', d'⟩, _⟩ := I.tuple h'
  rw [e] at e'; cases e'
  rw [d] at d'
  injection d' with d1 _
  have : its = its' := by simpa using congrArg Array.toList d1
  subst this
  exact r.inj r'
end


abbrev Cx.wish (X : Cx) (E : Value → Shared → Prop) : Cx := { X with xe := E }

abbrev Cx.nox (X : Cx) : Cx := X.wish fun _ _ => False
theorem Cx.Ok.wish {X : Cx} (ok : X.Ok) (E : Value → Shared → Prop) : (X.wish E).Ok :=
  ⟨ok.mod, ok.kind, ok.glob, ok.blt, ok.above, ok.inj, ok.has, ok.cab, ok.hd, ok.frames, ok.stk, ok.exf, ok.bs, ok.bsz, ok.noex, ok.exfs, ok.funs, ok.frf⟩
theorem Cx.Ok.unwish {X : Cx} {E : Value → Shared → Prop} (ok : (X.wish E).Ok) : X.Ok :=
  ⟨ok.mod, ok.kind, ok.glob, ok.blt, ok.above, ok.inj, ok.has, ok.cab, ok.hd, ok.frames, ok.stk, ok.exf, ok.bs, ok.bsz, ok.noex, ok.exfs, ok.funs, ok.frf⟩
section
variable {X : Cx} {pins : List (Addr × Obj)} {σ : St} {H : Hp} {s : Shared} {E : Value → Shared → Prop}
theorem Inv.wish (I : Inv X pins σ H s) (E : Value → Shared → Prop) : Inv (X.wish E) pins σ H s := ⟨I.ok.wish E, I.os, I.bare, I.base, I.loc, I.cell, I.free, I.freeC, I.pin, I.hok, I.len⟩
theorem Inv.unwish (I : Inv (X.wish E) pins σ H s) : Inv X pins σ H s := ⟨I.ok.unwish, I.os, I.bare, I.base, I.loc, I.cell, I.free, I.freeC, I.pin, I.hok, I.len⟩
theorem SP.unwish {D : Ends} {f : Flow} {s' : Shared} (h : SP (X.wish E) pins D f s') : SP X pins D f s' := by
  cases f with
  | next => obtain ⟨σ', H', I, q⟩ := h; exact ⟨σ', H', I.unwish, q⟩
  | brk => obtain ⟨σ', H', I, q⟩ := h; exact ⟨σ', H', I.unwish, q⟩
  | cont => obtain ⟨σ', H', I, q⟩ := h; exact ⟨σ', H', I.unwish, q⟩
  | ret u => obtain ⟨v, σ', H', I, r, q⟩ := h; exact ⟨v, σ', H', I.unwish, r, q⟩
theorem PT.nox {e : Expr} {t : TT} (h : PT X.nox e t) : PT X e t := fun pins s σ H Q I hw =>
  wpAny_mono (h pins s σ H Q (I.wish _) hw) (fun _ _ ⟨H', I', q⟩ => ⟨H', I'.unwish, q⟩) fun _ _ z => False.elim z
theorem PSs.nox {st : List Stmt} {t : TS} (h : PSs X.nox st t) : PSs X st t := fun pins s σ H D I hw =>
  wpAny_mono (h pins s σ H D (I.wish _) hw) (fun _ _ q => q.unwish) fun _ _ z => False.elim z
end


section
variable {X : Cx} {st : Stmt} {rest : List Stmt} {t u : TS} {e : Expr} {te : TE} {pos : Pos}
def tNext : TS := fun D σ H => D.nx σ H
def tSeq (t u : TS) : TS := fun D σ H => t { D with nx := u D } σ H
theorem pss_nil : PSs X [] tNext := fun _ _ σ H _ I h => wpAny_execs_nil ⟨σ, H, I, h⟩
theorem pss_cons (h1 : PS X st t) (h2 : PSs X rest u) : PSs X (st :: rest) (tSeq t u) := by
  intro pins s σ H D I h
  refine wpAny_execs_cons (thn (h1 pins s σ H { D with nx := u D } I h) fun f s1 q => ?_)
  cases f with
  | next =>
    obtain ⟨σ', H', I', q⟩ := q
    exact h2 pins s1 σ' H' D I' q
  | ret v => exact q
  | brk => exact q
  | cont => exact q
theorem pss_one (h1 : PS X st t) : PSs X [st] t := by
  intro pins s σ H D I h
  refine wpAny_execs_cons (thn (h1 pins s σ H D I h) fun f s1 q => ?_)
  cases f with
  | next => exact wpAny_execs_nil q
  | ret v => exact q
  | brk => exact q
  | cont => exact q
theorem Inv.quiet {pins : List (Addr × Obj)} {σ : St} {H : Hp} {s : Shared} (I : Inv X pins σ H s) : interactive X.env = false := by simp [interactive, I.ok.kind]

def tDrop (te : TE) : TS := fun D σ H => te σ H fun _ H1 => D.nx σ H1
theorem ps_expr (he : PE X e te) (hs : swapsWith e none pos.line X.env = pure false := by rfl) : PS X (.Expr e pos) (tDrop te) := by
  intro pins s σ H D I h
  exact wpAny_Expr_any (thn (he pins s σ H _ I h) fun v s1 ⟨x, H1, I1, r1, q1⟩ => ⟨σ, H1, I1, q1⟩) I.quiet hs
def tRet (te : TE) : TS := fun D σ H => te σ H D.rt
theorem ps_ret (he : PE X e te) : PS X (.Return (some e) pos) (tRet te) := by
  intro pins s σ H D I h
  exact wpAny_Return_some (thn (he pins s σ H _ I h) fun v s1 ⟨x, H1, I1, r1, q1⟩ => ⟨x, σ, H1, I1, r1, q1⟩)
def tRetN : TS := fun D _ H => D.rt .non H
theorem ps_retN : PS X (.Return none pos) tRetN := fun _ _ σ H _ I h => wpAny_Return_none ⟨.non, σ, H, I, rfl, h⟩
def tIfS (c : TT) (t u : TS) : TS := fun D σ H => c σ H fun b H1 => if b = true then t D σ H1 else u D σ H1
theorem ps_if {c : Expr} {a b : List Stmt} {tc : TT} (hc : PT X c tc) (ha : PSs X a t) (hb : PSs X b u) : PS X (.If c a b pos) (tIfS tc t u) := by
  intro pins s σ H D I h
  refine wpAny_If (thn (hc pins s σ H _ I h) fun d s1 ⟨H1, I1, q1⟩ => ?_)
  cases d with
  | true => exact ha pins s1 σ H1 D I1 q1
  | false => exact hb pins s1 σ H1 D I1 q1

def tNever : TS := fun _ _ _ => False
theorem ps_never : PS X st tNever := fun _ _ _ _ _ _ h => h.elim
end


abbrev TG := V → St → Hp → (St → Hp → Prop) → Prop
abbrev TGs := List V → St → Hp → (St → Hp → Prop) → Prop
def PG (X : Cx) (target : Expr) (t : TG) : Prop :=
  ∀ (pins : List (Addr × Obj)) (s : Shared) (σ : St) (H : Hp) (v : V) (u : Value) (Q : St → Hp → Prop), Inv X pins σ H s → RelV v u → t v σ H Q →
    wpAny (model X.prog X.w) X.A (assign target X.env u) (fun _ s' => ∃ σ' H', Inv X pins σ' H' s' ∧ Q σ' H') X.xe s

def PGs (X : Cx) (ts : List Expr) (t : TGs) : Prop :=
  ∀ (pins : List (Addr × Obj)) (s : Shared) (σ : St) (H : Hp) (vs : List V) (us : List Value) (Q : St → Hp → Prop), Inv X pins σ H s → Vals vs us → t vs σ H Q →
    wpAny (model X.prog X.w) X.A (assignInOrder ((assignEach ts X.env).map (·.2)) us) (fun _ s' => ∃ σ' H', Inv X pins σ' H' s' ∧ Q σ' H') X.xe s

abbrev TSet := V → V → V → Hp → (Hp → Prop) → Prop
def PSet (X : Cx) (t : TSet) : Prop :=
  ∀ (pins : List (Addr × Obj)) (s : Shared) (σ : St) (H : Hp) (o i v : V) (ov iv u : Value) (Q : Hp → Prop), Inv X pins σ H s → RelV o ov → RelV i iv → RelV v u → t o i v H Q →
    wpAny (model X.prog X.w) X.A (setItem ov iv u) (fun _ s' => ∃ H', Inv X pins σ H' s' ∧ Q H') X.xe s

section
variable {X : Cx} {pos : Pos}
def gName (i : Nat) : TG := fun v σ H Q => Q (σ.set i (some v)) H
theorem pg_name {i : Nat} {x : Str} (hN : X.N.Nodup) (hi : X.N[i]? = some x) (hx : Loc X.env.scope x) (hf : X.fn x = true ∨ X.env.scope.names.lookup x = some .local := by first | exact .inl rfl | exact .inr rfl | assumption) : PG X (.Name x pos) (gName i) := by
  intro pins s σ H v u Q I r h
  exact wpAny_assign_Name (store_ok I hN hi hx r (fun s' I' => ⟨_, H, I', h⟩) hf)
def gNil : TGs := fun vs σ H Q => vs = [] ∧ Q σ H
def gCons (t : TG) (u : TGs) : TGs := fun vs σ H Q => ∃ v r, vs = v :: r ∧ t v σ H fun σ' H' => u r σ' H' Q
theorem pgs_nil : PGs X [] gNil := by
  intro pins s σ H vs us Q I r h
  obtain ⟨e, h⟩ := h
  subst e
  cases r
  exact assignInOrder_nil ⟨σ, H, I, h⟩
theorem pgs_cons {e : Expr} {es : List Expr} {t : TG} {u : TGs} (h1 : PG X e t) (h2 : PGs X es u)
    (hs : (assignEach (e :: es) X.env).map (·.2) = assign e X.env :: (assignEach es X.env).map (·.2) := by rfl) : PGs X (e :: es) (gCons t u) := by
  intro pins s σ H vs us Q I r h
  obtain ⟨v, vr, e1, h⟩ := h
  subst e1
  cases r with
  | cons r rr =>
    rw [hs]
    refine assignInOrder_cons (thn (h1 pins s σ H _ _ _ I r h) fun _ s1 ⟨σ1, H1, I1, q1⟩ => ?_)
    exact h2 pins s1 σ1 H1 _ _ Q I1 rr q1

def gTup (K : PySem.W.Frag) (n : Nat) (t : TGs) : TG := fun v σ H Q => ∃ a xs, v = .ref a ∧ SqT K H a xs ∧ xs.length = n ∧ t xs σ H Q
theorem pg_tup {es : List Expr} {k : Nat} {t : TGs} {n : Nat} (hc : X.calm = true) (h : PGs X es t)
    (hn : (assignEach es X.env).length = n := by rfl) (hst : (assignEach es X.env).findIdx? (·.1) = none := by rfl) : PG X (.Tuple es k pos) (gTup X.K n t) := by
  intro pins s σ H v u Q I r hw
  obtain ⟨a, xs, e1, hq, hl, hw⟩ := hw
  subst e1
  cases r
  obtain ⟨its, rv, ht, hz⟩ := I.tuple hq
  refine assign_Tuple_tuple (I.ok.hd hc) ht (by simp [hn, ← hl, rv.length]) hst fun h' hx => ?_
  have I1 : Inv X pins σ H { s with heap := h' } := I.kept (t' := s.toks) fun b o e => hx b o (Nat.ne_of_lt (Heap.lt_size e)) e
  exact h pins _ σ H xs _ Q I1 (by simpa using rv) hw

def gSub (to ti : TE) (t : TSet) : TG := fun v σ H Q => to σ H fun o H1 => ti σ H1 fun i H2 => t o i v H2 fun H3 => Q σ H3
theorem pg_sub {o i : Expr} {to ti : TE} {t : TSet} (ho : PE X o to) (hi : PE X i ti) (hs : PSet X t)
    (ha : ∀ v, assign (.Subscript o i pos) X.env v = (do
      let ov ← holding [v] (eval o X.env)
      let iv ← holding [v, ov] (eval i X.env)
      standAt pos
      holding [v, ov, iv] (setItem ov iv v)
      release [v, ov, iv] []) := by intro _; rfl) : PG X (.Subscript o i pos) (gSub to ti t) := by
  intro pins s σ H v u Q I r h
  rw [ha]
  refine wpAny_bind (wpAny_holding (thn (ho pins s σ H _ I h) fun ov s1 ⟨x, H1, I1, r1, q1⟩ => ?_))
  refine wpAny_bind (wpAny_holding (thn (hi pins s1 σ H1 _ I1 q1) fun iv s2 ⟨y, H2, I2, r2, q2⟩ => ?_))
  refine wpAny_bind (wpAny_standAt (wpAny_bind (wpAny_holding (thn (hs pins s2 σ H2 x y v ov iv u _ I2 r1 r2 r q2) fun _ s3 ⟨H3, I3, q3⟩ => ?_))))
  exact wpAny_release ⟨σ, H3, I3, q3⟩

def tAsg (te : TE) (g : TG) : TS := fun D σ H => te σ H fun x H1 => g x σ H1 D.nx
theorem ps_asg {tg e : Expr} {te : TE} {g : TG} (he : PE X e te) (hg : PG X tg g) (hs : swapsWithSole [tg] e pos.line X.env = pure false := by rfl) (hw : swappedStores [tg] e X.env = pure none := by rfl)
    (h1 : (assignEach [tg] X.env).map (·.2) = [assign tg X.env] := by rfl) : PS X (.Assign [tg] e pos) (tAsg te g) := by
  intro pins s σ H D I h
  refine wpAny_Assign_stores (thn (he pins s σ H _ I h) fun v s1 ⟨x, H1, I1, r1, q1⟩ => ?_) hs hw
  rw [h1]
  exact thn (hg pins s1 σ H1 x v _ I1 r1 q1) fun _ s2 q => q

theorem ps_set {i : Nat} {x : Str} {e : Expr} {te : TE} {pos' : Pos} (hN : X.N.Nodup) (hi : X.N[i]? = some x) (hx : Loc X.env.scope x) (he : PE X e te) (hs : swapsWith e (some (.Name x pos')) pos.line X.env = pure false := by rfl) (hf : X.fn x = true ∨ X.env.scope.names.lookup x = some .local := by first | exact .inl rfl | exact .inr rfl | assumption) :
    PS X (.Assign [.Name x pos'] e pos) (tAsg te (gName i)) := by
  intro pins s σ H D I h
  refine wpAny_Assign_Name (thn (he pins s σ H _ I h) fun v s1 ⟨y, H1, I1, r1, q1⟩ => ?_) hs
  exact store_ok I1 hN hi hx r1 (fun s2 I2 => ⟨_, H1, I2, q1⟩) hf

end


section
variable {X : Cx} {pos : Pos}

def tWhile (c : TT) (tb : TS) : TS := fun D σ H => ∃ W : Nat → St → Hp → Prop, (∃ m, W m σ H) ∧ ∀ m σ H, W m σ H →
  c σ H fun b H1 => if b = true then ∃ N : St → Hp → Prop, (∀ σ' H', N σ' H' → ∃ m', m' < m ∧ W m' σ' H') ∧ tb { D with nx := N, ct := N, bk := D.nx } σ H1 else D.nx σ H1
theorem ps_while {c : Expr} {body : List Stmt} {tc : TT} {tb : TS} (hp : PassesOwn (model X.prog X.w) X.A X.env X.xe) (hc : PT X c tc) (hb : PSs X body tb) : PS X (.While c body [] pos) (tWhile tc tb) := by
  intro pins s σ H D I h
  obtain ⟨W, ⟨m0, w0⟩, turn⟩ := h
  refine wpAny_While (codeAny_whileLoop (fun n s' => ∃ σ' H', Inv X pins σ' H' s' ∧ W n σ' H') ?_ m0 ⟨σ, H, I, w0⟩)
  rintro n s1 ⟨σ1, H1, I1, w1⟩
  refine wpAny_passesOwn hp (thn (hc pins s1 σ1 H1 _ I1 (turn n σ1 H1 w1)) fun b s2 ⟨H2, I2, q2⟩ => ?_)
  cases b with
  | true =>
    obtain ⟨N, hN, q2⟩ := q2
    rw [if_pos rfl]
    refine wpAny_passesOwn hp (thn (hb pins s2 σ1 H2 _ I2 q2) fun f s3 q3 => ?_)
    cases f with
    | next =>
      obtain ⟨σ3, H3, I3, n3⟩ := q3
      obtain ⟨m', hm, w3⟩ := hN σ3 H3 n3
      exact ⟨m', hm, σ3, H3, I3, w3⟩
    | cont =>
      obtain ⟨σ3, H3, I3, n3⟩ := q3
      obtain ⟨m', hm, w3⟩ := hN σ3 H3 n3
      exact ⟨m', hm, σ3, H3, I3, w3⟩
    | brk => exact q3
    | ret v => exact q3
  | false =>
    rw [if_neg Bool.false_ne_true]
    exact wpAny_execs_nil ⟨σ1, H2, I2, q2⟩
end



structure It where
  go : Nat → Hp → Prop
  yld : Nat → Hp → V → Hp → Prop
  stop : Nat → Hp → Prop

def FpOk (X : Cx) (pins : List (Addr × Obj)) (H : Hp) (b : Addr) : Prop :=
  H b = none ∧ b ≠ X.env.locals ∧ b ∉ X.fs ∧ (b ∈ X.ex ∨ X.s₀.heap.objs.size ≤ b) ∧ (∀ x c, X.env.cells.lookup x = some c → c ≠ b) ∧ ∀ p ∈ X.pn ++ pins, p.1 ≠ b
theorem Inv.fpOk {X : Cx} {pins : List (Addr × Obj)} {σ : St} {H H' : Hp} {s : Shared} {b : Addr} (I : Inv X pins σ H s) (hb : s.heap.objs.size ≤ b) (hn : H' b = none) : FpOk X pins H' b := by
  refine ⟨hn, Nat.ne_of_gt (Nat.lt_of_lt_of_le I.lt hb), I.nofs hb, .inr (Nat.le_trans I.sz hb), fun x c e z => ?_, fun p hp z => ?_⟩
  · obtain ⟨v, q⟩ := I.cell x c e
    exact absurd (Nat.lt_of_lt_of_le q.lt (by rw [z]; exact hb)) (Nat.lt_irrefl _)
  · exact absurd (Nat.lt_of_lt_of_le (Heap.lt_size (I.pin p hp).1) (by rw [z]; exact hb)) (Nat.lt_irrefl _)
structure Turn (P : Program) (w : World) (K : PySem.W.Frag) (tg : Expr) (J : It) (fp : List Addr) (it : Addr) (tn : Nat → Heap → Prop) : Prop where
  mem : it ∈ fp
  obj : ∀ i h, tn i h → ∀ b ∈ fp, ∃ o, h.get? b = some o ∧ ∀ v, o.data ≠ .cell v
  keep : ∀ i h h', tn i h → (∀ b ∈ fp, ∀ o, h.get? b = some o → h'.get? b = some o) → tn i h'
  item : ∀ (X : Cx), X.prog = P → X.w = w → X.K = K → X.calm = true → ∀ (i : Nat) (pins : List (Addr × Obj)) (s : Shared) (σ : St) (H : Hp) (E : Value → Shared → Prop), Inv X pins σ H s → (∀ b ∈ fp, FpOk X pins H b) → tn i s.heap → J.go i H →
    wpAny (model P w) X.A (pyNext (.ref it)) (fun r s1 => ∃ u, r = some u ∧
      wpAny (model P w) X.A (letOwnedTupleGo tg (.ref it) u) (fun _ s2 => ∃ x H', Inv X pins σ H' s2 ∧ RelV x u ∧ J.yld i H x H' ∧ tn (i + 1) s2.heap ∧ ∀ b ∈ fp, H' b = none) E s1) E s
  done : ∀ (X : Cx), X.prog = P → X.w = w → X.K = K → X.calm = true → ∀ (i : Nat) (pins : List (Addr × Obj)) (s : Shared) (σ : St) (H : Hp) (E : Value → Shared → Prop), Inv X pins σ H s → (∀ b ∈ fp, FpOk X pins H b) → tn i s.heap → J.stop i H →
    wpAny (model P w) X.A (pyNext (.ref it)) (fun r s1 => r = none ∧ Inv X pins σ H s1) E s
  self : ∀ (A : Around) (i : Nat) (s : Shared) (Q : Value → Shared → Prop) (E : Value → Shared → Prop), tn i s.heap → Q (.ref it) s → wpAny (model P w) A (pyIter (.ref it)) Q E s
abbrev TI := St → Hp → (It → Hp → Prop) → Prop

def PIE (X : Cx) (pins : List (Addr × Obj)) (σ : St) (tg : Expr) (R : It → Hp → Prop) (itv : Value) (s2 : Shared) : Prop :=
  ∃ (it : Addr) (fp : List Addr) (tn : Nat → Heap → Prop) (J : It) (H' : Hp), itv = .ref it ∧ Inv X pins σ H' s2 ∧ Turn X.prog X.w X.K tg J fp it tn ∧ tn 0 s2.heap ∧ (∀ b ∈ fp, FpOk X pins H' b) ∧ R J H'
def PI (X : Cx) (tg iter : Expr) (wi : TI) : Prop :=
  ∀ (pins : List (Addr × Obj)) (s : Shared) (σ : St) (H : Hp) (R : It → Hp → Prop), Inv X pins σ H s → wi σ H R →
    wpAny (model X.prog X.w) X.A (eval iter X.env) (fun v s1 => wpAny (model X.prog X.w) X.A (pyIter v) (PIE X pins σ tg R) X.xe s1) X.xe s


theorem go_of {M : Model} {A : Around} {E : Value → Shared → Prop} {s : Shared} {tg : Expr} {it : Addr} {u : Value} {o : Obj} {n : String} {vs : Array Value} {Q : Unit → Shared → Prop} (ho : s.heap.get? it = some o) (hc : o.cls = .type n) (hd : o.data = .fields vs)
    (hn : ["enumerate", "zip", "dict_itemiterator", "dict_reverseitemiterator", "odict_iterator", "itertools.zip_longest", "itertools.pairwise"].contains n = false) (hQ : Q () s) : wpAny M A (letOwnedTupleGo tg (.ref it) u) Q E s := by
  unfold letOwnedTupleGo
  cases tg <;> first
    | exact wpAny_pure hQ
    | (cases u <;> first
        | exact wpAny_pure hQ
        | (refine wpAny_bind (wpAny_load ho ?_)
           rw [hc, hd]
           show wpAny M A (if (["enumerate", "zip", "dict_itemiterator", "dict_reverseitemiterator", "odict_iterator", "itertools.zip_longest", "itertools.pairwise"].contains n && vs[0]? == some (rawInt _)) = true then _ else _) Q E s
           rw [if_neg (by intro h; rw [hn, Bool.false_and] at h; cases h)]
           exact wpAny_pure hQ))


def Itl (K : PySem.W.Frag) (a : Addr) : It :=
  ⟨fun i H => ∃ xs x, SqL K H a xs ∧ xs[i]? = some x, fun i H x H' => H' = H ∧ ∀ xs, SqL K H a xs → xs[i]? = some x, fun i H => ∃ xs, SqL K H a xs ∧ xs.length ≤ i⟩
def Itt (K : PySem.W.Frag) (a : Addr) : It :=
  ⟨fun i H => ∃ xs x, SqT K H a xs ∧ xs[i]? = some x, fun i H x H' => H' = H ∧ ∀ xs, SqT K H a xs → xs[i]? = some x, fun i H => ∃ xs, SqT K H a xs ∧ xs.length ≤ i⟩

def Itr (lo : Int) (n : Nat) : It := ⟨fun i _ => i < n, fun i H x H' => H' = H ∧ x = .int (lo + i), fun i _ => n ≤ i⟩
theorem turn_list {P : Program} {w : World} {K : PySem.W.Frag} {tg : Expr} (a it : Addr) : Turn P w K tg (Itl K a) [it] it (fun i h => h.IsListIter it a i) where
  mem := by simp
  obj := fun i h st b hb => by
    have e : b = it := by simpa using hb
    subst e
    obtain ⟨o, e, c, d⟩ := st
    exact ⟨o, e, fun v z => by rw [d] at z; cases z⟩
  keep := fun i h h' st k => st.at fun o e => k it (by simp) o e
  item := by
    intro X hP hw hK hc i pins s σ H E I hf st hg
    subst hP hw hK
    obtain ⟨xs, x, hq, hx⟩ := hg
    obtain ⟨its, rv, p, hz⟩ := I.list hq
    obtain ⟨u, hu, ru⟩ := rv.get hx
    obtain ⟨f0, f1, f2, f3, f4, f5⟩ := hf it (by simp)
    refine wpAny_pyNext_list_item st p.isList (x := u) (by simpa using hu) fun h' st' sb => ?_
    have I1 : Inv X pins σ H { s with heap := h' } := I.turned (t' := s.toks) (fun b o hb e => (sb.2 b hb).trans e) f0 f1 f3 f4 f5
    obtain ⟨o, e, c, d⟩ := id st'
    exact ⟨u, rfl, go_of (s := { s with heap := h' }) e c d (by decide) ⟨x, H, I1, ru, ⟨rfl, fun ys hy => by rw [I.list_inj hy hq]; exact hx⟩, st', fun b hb => (hf b hb).1⟩⟩
  done := by
    intro X hP hw hK hc i pins s σ H E I hf st hg
    subst hP hw hK
    obtain ⟨xs, hq, hx⟩ := hg
    obtain ⟨its, rv, p, hz⟩ := I.list hq
    obtain ⟨f0, f1, f2, f3, f4, f5⟩ := hf it (by simp)
    have hl := rv.length
    exact wpAny_pyNext_list_end (I.ok.hd hc) st p.isList (by simp; omega) fun h' eb => ⟨rfl, I.turned (t' := s.toks) (fun b o hb e => eb b o hb e) f0 f1 f3 f4 f5⟩
  self := fun _ _ _ _ _ st h => wpAny_pyIter_listiter st h
theorem turn_tuple {P : Program} {w : World} {K : PySem.W.Frag} {tg : Expr} (a it : Addr) : Turn P w K tg (Itt K a) [it] it (fun i h => h.IsTupleIter it a i) where
  mem := by simp
  obj := fun i h st b hb => by
    have e : b = it := by simpa using hb
    subst e
    obtain ⟨o, e, c, d⟩ := st
    exact ⟨o, e, fun v z => by rw [d] at z; cases z⟩
  keep := fun i h h' st k => st.at fun o e => k it (by simp) o e
  item := by
    intro X hP hw hK hc i pins s σ H E I hf st hg
    subst hP hw hK
    obtain ⟨xs, x, hq, hx⟩ := hg
    obtain ⟨its, rv, p, hz⟩ := I.tuple hq
    obtain ⟨u, hu, ru⟩ := rv.get hx
    obtain ⟨f0, f1, f2, f3, f4, f5⟩ := hf it (by simp)
    refine wpAny_pyNext_tuple_item st (show s.heap.IsTuple a its.toArray from p) (x := u) (by simpa using hu) fun h' st' sb => ?_
    have I1 : Inv X pins σ H { s with heap := h' } := I.turned (t' := s.toks) (fun b o hb e => (sb.2 b hb).trans e) f0 f1 f3 f4 f5
    obtain ⟨o, e, c, d⟩ := id st'
    exact ⟨u, rfl, go_of (s := { s with heap := h' }) e c d (by decide) ⟨x, H, I1, ru, ⟨rfl, fun ys hy => by rw [I.tuple_inj hy hq]; exact hx⟩, st', fun b hb => (hf b hb).1⟩⟩
  done := by
    intro X hP hw hK hc i pins s σ H E I hf st hg
    subst hP hw hK
    obtain ⟨xs, hq, hx⟩ := hg
    obtain ⟨its, rv, p, hz⟩ := I.tuple hq
    obtain ⟨f0, f1, f2, f3, f4, f5⟩ := hf it (by simp)
    have hl := rv.length
    exact wpAny_pyNext_tuple_end (I.ok.hd hc) st (show s.heap.IsTuple a its.toArray from p) (by simp; omega) fun h' eb => ⟨rfl, I.turned (t' := s.toks) (fun b o hb e => eb b o hb e) f0 f1 f3 f4 f5⟩
  self := fun _ _ _ _ _ st h => wpAny_pyIter_tupleiter st h
theorem turn_range {P : Program} {w : World} {K : PySem.W.Frag} {tg : Expr} (it : Addr) (lo : Int) (n : Nat) : Turn P w K tg (Itr lo n) [it] it (fun i h => IsRangeIter h it (lo + (i : Nat) * 1) ((n : Int) - (i : Nat)) 1) where
  mem := by simp
  obj := fun i h st b hb => by
    have e : b = it := by simpa using hb
    subst e
    exact ⟨_, st, fun v z => by
      have z' : Data.fields _ = Data.cell v := z
      cases z'⟩
  keep := fun i h h' st k => k it (by simp) _ st
  item := by
    intro X hP hw hK hc i pins s σ H E I hf st hg
    subst hP hw hK
    obtain ⟨f0, f1, f2, f3, f4, f5⟩ := hf it (by simp)
    have W := Walks.range (prog := X.prog) (w := X.w) (I.ok.hd hc) it lo 1 n
    refine W.item i s _ _ hg st fun v h' tk hv st' kk => ?_
    obtain ⟨t, rfl⟩ := hv
    have I1 : Inv X pins σ H { s with heap := h', toks := tk } := I.turned (fun b o hb e => kk b o (by simpa using hb) e) f0 f1 f3 f4 f5
    refine ⟨_, rfl, go_of (s := { s with heap := h', toks := tk }) (n := "range_iterator") st' rfl rfl (by decide) ⟨.int (lo + i), H, I1, ⟨t, ?_⟩, ⟨rfl, rfl⟩, st', fun b hb => (hf b hb).1⟩⟩
    rw [Int.mul_one]
  done := by
    intro X hP hw hK hc i pins s σ H E I hf st hg
    subst hP hw hK
    obtain ⟨f0, f1, f2, f3, f4, f5⟩ := hf it (by simp)
    exact wpAny_pyNext_range_end (I.ok.hd hc) st (by have : n ≤ i := hg; omega) fun h' eb => ⟨rfl, I.turned (t' := s.toks) (fun b o hb e => eb b o hb e) f0 f1 f3 f4 f5⟩
  self := fun _ _ _ _ _ st h => wpAny_pyIter_rangeiter st h
end L2

namespace L2
open PySem PySem.Spec PyProof.Rows
section
variable {X : Cx} {tg : Expr}
theorem range_it {pins : List (Addr × Obj)} {σ : St} {H : Hp} {s : Shared} {R : It → Hp → Prop} {E : Value → Shared → Prop} {lo hi : Int} {t u v : Tok} {tk : Nat} (I : Inv X pins σ H s) (h1 : -(2 ^ 62) ≤ lo) (h2 : lo < 2 ^ 62) (h3 : -(2 ^ 62) ≤ hi) (h4 : hi < 2 ^ 62)
    (q : R (Itr lo (hi - lo).toNat) H) : wpAny (model X.prog X.w) X.A (pyIter (.ref s.heap.objs.size)) (PIE X pins σ tg R) E { s with heap := s.heap.push { cls := .type "range", data := .fields #[.int lo t, .int hi u, .int 1 v] }, toks := tk } := by
  refine wpAny_pyIter_range (IsRange.new ..) (small_one h1 h2 h3 h4) ?_
  have I1 : Inv X pins σ H { s with heap := s.heap.push { cls := .type "range", data := .fields #[.int lo t, .int hi u, .int 1 v] }, toks := tk } := I.kept fun b o e => Heap.get?_push_of_some _ e
  refine ⟨(s.heap.push { cls := .type "range", data := .fields #[.int lo t, .int hi u, .int 1 v] }).objs.size, [(s.heap.push { cls := .type "range", data := .fields #[.int lo t, .int hi u, .int 1 v] }).objs.size], _, _, H, rfl,
    I1.kept (t' := tk) fun b o e => Heap.get?_push_of_some _ e, turn_range _ lo (hi - lo).toNat, ?_, fun b hb => ?_, q⟩
  · have e1 : lo + ((0 : Nat) : Int) * 1 = lo := by simp
    have e2 : (((hi - lo).toNat : Nat) : Int) - ((0 : Nat) : Int) = Builtin.Range.rangeSize lo hi 1 := by rw [rangeSize_one]; split <;> omega
    show IsRangeIter _ _ (lo + ((0 : Nat) : Int) * 1) ((((hi - lo).toNat : Nat) : Int) - ((0 : Nat) : Int)) 1
    rw [e1, e2]
    exact Heap.get?_push_size _ rfl
  · have e : b = (s.heap.push { cls := .type "range", data := .fields #[.int lo t, .int hi u, .int 1 v] }).objs.size := by simpa using hb
    subst e
    exact I1.fpOk (Nat.le_refl _) (I1.hok.fresh (Nat.le_refl _))
def iRng1 (ta : TA) : TI := fun σ H R => ta σ H fun vs H1 => ∃ j : Int, vs = [.int j] ∧ -(2 ^ 62) ≤ j ∧ j < 2 ^ 62 ∧ R (Itr 0 j.toNat) H1
def iRng2 (ta : TA) : TI := fun σ H R => ta σ H fun vs H1 => ∃ i j : Int, vs = [.int i, .int j] ∧ (-(2 ^ 62) ≤ i ∧ i < 2 ^ 62 ∧ -(2 ^ 62) ≤ j ∧ j < 2 ^ 62) ∧ R (Itr i (j - i).toNat) H1
theorem pi_range1 {a : Expr} {ta : TA} {p pos : Pos} (hg : Gl X "range") (hm : X.mg "range" = none) (ha : PA X [a] ta) (hs : starEach [a] X.env = [(false, eval a X.env)] := by rfl) : PI X tg (.Call (.Name "range" p) [a] [] pos) (iRng1 ta) := by
  intro pins s σ H R I h
  refine Call_ (ld_blt I hg hm boot_range (PyProof.Rows.callWith_type1 (thn (ha pos pins s σ H _ I h) fun us s1 ⟨vs, H1, I1, r1, q1⟩ => ?_) hs rfl))
  obtain ⟨j, e, q1, q2, q⟩ := q1
  subst e
  cases r1 with
  | cons r rr =>
    cases rr
    obtain ⟨t, rfl⟩ := r
    exact call_range_1 (range_it I1 (by omega) (by omega) q1 q2 (by simpa using q))
theorem pi_range2 {a b : Expr} {ta : TA} {p pos : Pos} (hg : Gl X "range") (hm : X.mg "range" = none) (ha : PA X [a, b] ta) (hs : starEach [a, b] X.env = [(false, eval a X.env), (false, eval b X.env)] := by rfl) (hs2 : starEach [b] X.env = [(false, eval b X.env)] := by rfl) :
    PI X tg (.Call (.Name "range" p) [a, b] [] pos) (iRng2 ta) := by
  intro pins s σ H R I h
  refine Call_ (ld_blt I hg hm boot_range (PyProof.Rows.callWith_type1 (thn (ha pos pins s σ H _ I h) fun us s1 ⟨vs, H1, I1, r1, q1⟩ => ?_) (by rw [hs, hs2]) (by rw [hs2]; rfl)))
  obtain ⟨i, j, e, ⟨q1, q2, q3, q4⟩, q⟩ := q1
  subst e
  cases r1 with
  | cons r rr =>
    cases rr with
    | cons r' rr =>
      cases rr
      obtain ⟨t, rfl⟩ := r
      obtain ⟨t', rfl⟩ := r'
      exact call_range_2 (range_it I1 q1 q2 q3 q4 q)



def tFor (wi : TI) (g : TG) (tb : TS) : TS := fun D σ H => wi σ H fun J H1 => ∃ W : Nat → Nat → St → Hp → Prop, (∃ m, W 0 m σ H1) ∧ ∀ i m σ H, W i m σ H →
  (J.stop i H ∧ D.nx σ H) ∨ (J.go i H ∧ ∃ N : St → Hp → Prop, (∀ σ' H', N σ' H' → ∃ m', m' < m ∧ W (i + 1) m' σ' H') ∧ ∀ x H', J.yld i H x H' → g x σ H' fun σ2 H2 => tb { D with nx := N, ct := N, bk := D.nx } σ2 H2)

def pinsAt (fp : List Addr) (h : Heap) : List (Addr × Obj) := fp.filterMap fun b => (h.get? b).map fun o => (b, o)
theorem mem_pinsAt {fp : List Addr} {h : Heap} {b : Addr} {o : Obj} (hb : b ∈ fp) (e : h.get? b = some o) : (b, o) ∈ pinsAt fp h := List.mem_filterMap.mpr ⟨b, hb, by rw [e]; rfl⟩
theorem of_pinsAt {fp : List Addr} {h : Heap} {p : Addr × Obj} (hp : p ∈ pinsAt fp h) : p.1 ∈ fp ∧ h.get? p.1 = some p.2 := by
  obtain ⟨b, hb, e⟩ := List.mem_filterMap.mp hp
  cases q : h.get? b with
  | none => rw [q] at e; cases e
  | some o =>
    rw [q] at e
    have e' : (b, o) = p := Option.some.inj e
    subst e'
    exact ⟨hb, q⟩
theorem Inv.pinned {pins : List (Addr × Obj)} {σ : St} {H : Hp} {s : Shared} {fp : List Addr} (I : Inv X pins σ H s) (hf : ∀ b ∈ fp, FpOk X pins H b) (ho : ∀ b ∈ fp, ∃ o, s.heap.get? b = some o ∧ ∀ v, o.data ≠ .cell v) : Inv X (pins ++ pinsAt fp s.heap) σ H s :=
  I.pins_of fun p hp => (List.mem_append.mp hp).elim (fun z => I.pin p (List.mem_append_right _ z)) fun z => by
    obtain ⟨hb, e⟩ := of_pinsAt z
    obtain ⟨f0, f1, f2, _⟩ := hf p.1 hb
    obtain ⟨o, e', d⟩ := ho p.1 hb
    rw [e] at e'; cases e'
    exact ⟨e, f0, f1, f2, d⟩
theorem Inv.unpinned {pins pl : List (Addr × Obj)} {σ : St} {H : Hp} {s : Shared} (I : Inv X (pins ++ pl) σ H s) : Inv X pins σ H s := I.pins_of fun p hp => I.pin p (List.mem_append_right _ (List.mem_append_left _ hp))
theorem ps_for {iter : Expr} {body : List Stmt} {wi : TI} {g : TG} {tb : TS} {pos : Pos} (hp : PassesOwn (model X.prog X.w) X.A X.env X.xe) (hc : X.calm = true) (hi : PI X tg iter wi) (hg : PG X tg g) (hb : PSs X body tb)
    (hs : ∀ x, foldedSetIterable iter X.env x = pure x := by intro _; rfl) : PS X (.For tg iter body [] pos) (tFor wi g tb) := by
  intro pins s σ H D I h
  refine wpAny_For (thn (hi pins s σ H _ I h) fun v s1 h1 => thn h1 fun itv s2 h2 => ?_) hs
  obtain ⟨it, fp, tn, J, H2, e, I2, T, st2, f2, W, ⟨m0, w0⟩, turn⟩ := h2
  subst e
  -- what stays true of the iterator's objects through the loop
  have stat : ∀ {H' : Hp}, (∀ b ∈ fp, H' b = none) → ∀ b ∈ fp, FpOk X pins H' b := fun hn b hb => ⟨hn b hb, (f2 b hb).2⟩
  refine codeAny_forLoop_any (fun n s' => ∃ i σ' H', Inv X pins σ' H' s' ∧ tn i s'.heap ∧ (∀ b ∈ fp, H' b = none) ∧ W i n σ' H') ?_ m0 ⟨0, σ, H2, I2, st2, fun b hb => (f2 b hb).1, w0⟩
  rintro n s3 ⟨i, σ3, H3, I3, st3, fr3, w3⟩
  rcases turn i n σ3 H3 w3 with ⟨stop, qn⟩ | ⟨go, N, hN, step⟩
  · refine wpAny_passesOwn hp (thn (T.done X rfl rfl rfl hc i pins s3 σ3 H3 X.xe I3 (stat fr3) st3 stop) fun r s4 ⟨hr, I4⟩ => ?_)
    subst hr
    exact wpAny_execs_nil ⟨σ3, H3, I4, qn⟩
  · refine wpAny_passesOwn hp (thn (T.item X rfl rfl rfl hc i pins s3 σ3 H3 X.xe I3 (stat fr3) st3 go) fun r s4 ⟨u, hr, h4⟩ => ?_)
    subst hr
    refine wpAny_passesOwn hp (thn h4 fun _ s5 ⟨x, H5, I5, r5, y5, st5, fr5⟩ => ?_)
    have I5' := I5.pinned (stat fr5) (T.obj _ _ st5)
    refine wpAny_passesOwn hp (thn (hg _ s5 σ3 H5 x u _ I5' r5 (step x H5 y5)) fun _ s6 ⟨σ6, H6, I6, q6⟩ => ?_)
    refine wpAny_passesOwn hp (thn (hb _ s6 σ6 H6 _ I6 q6) fun f s7 q7 => ?_)
    have again : ∀ {σ7 : St} {H7 : Hp}, Inv X (pins ++ pinsAt fp s5.heap) σ7 H7 s7 → N σ7 H7 → ∃ m, m < n ∧ ∃ i σ' H', Inv X pins σ' H' s7 ∧ tn i s7.heap ∧ (∀ b ∈ fp, H' b = none) ∧ W i m σ' H' := fun {σ7 H7} I7 n7 => by
      obtain ⟨m', hm, w7⟩ := hN σ7 H7 n7
      refine ⟨m', hm, i + 1, σ7, H7, I7.unpinned, T.keep _ _ _ st5 fun b hb o e => (I7.pin (b, o) (List.mem_append_right _ (List.mem_append_right _ (mem_pinsAt hb e)))).1, fun b hb => ?_, w7⟩
      obtain ⟨o, e, d⟩ := T.obj _ _ st5 b hb
      exact (I7.pin (b, o) (List.mem_append_right _ (List.mem_append_right _ (mem_pinsAt hb e)))).2.1
    cases f with
    | next => obtain ⟨σ7, H7, I7, n7⟩ := q7; exact again I7 n7
    | cont => obtain ⟨σ7, H7, I7, n7⟩ := q7; exact again I7 n7
    | brk => obtain ⟨σ7, H7, I7, q7⟩ := q7; exact ⟨σ7, H7, I7.unpinned, q7⟩
    | ret v => obtain ⟨x7, σ7, H7, I7, r7, q7⟩ := q7; exact ⟨x7, σ7, H7, I7.unpinned, r7, q7⟩
end



theorem for_list {K : PySem.W.Frag} {a : Addr} {xs : List V} {g : TG} {tb : TS} {D : Ends} {σ : St} {H : Hp} (Pv : Nat → St → Hp → Prop) (h0 : Pv 0 σ H) (hl : ∀ i σ H, i ≤ xs.length → Pv i σ H → SqL K H a xs)
    (hs : ∀ i x σ H, xs[i]? = some x → Pv i σ H → g x σ H fun σ2 H2 => tb { D with nx := Pv (i + 1), ct := Pv (i + 1), bk := D.nx } σ2 H2) (hd : ∀ σ H, Pv xs.length σ H → D.nx σ H) :
    ∃ W : Nat → Nat → St → Hp → Prop, (∃ m, W 0 m σ H) ∧ ∀ i m σ H, W i m σ H →
      ((Itl K a).stop i H ∧ D.nx σ H) ∨ ((Itl K a).go i H ∧ ∃ N : St → Hp → Prop, (∀ σ' H', N σ' H' → ∃ m', m' < m ∧ W (i + 1) m' σ' H') ∧ ∀ x H', (Itl K a).yld i H x H' → g x σ H' fun σ2 H2 => tb { D with nx := N, ct := N, bk := D.nx } σ2 H2) := by
  refine ⟨fun i m σ H => m = xs.length - i ∧ i ≤ xs.length ∧ Pv i σ H, ⟨xs.length, by simp, Nat.zero_le _, h0⟩, ?_⟩
  rintro i m σ H ⟨rfl, hi, p⟩
  have q := hl i σ H hi p
  by_cases hlt : i < xs.length
  · refine .inr ⟨⟨xs, xs[i], q, by simp [hlt]⟩, Pv (i + 1), fun σ' H' p' => ⟨xs.length - (i + 1), by omega, rfl, hlt, p'⟩, fun x H' y => ?_⟩
    obtain ⟨e, y⟩ := y
    subst e
    exact hs i x σ _ (y xs q) p
  · have e : i = xs.length := by omega
    subst e
    exact .inl ⟨⟨xs, q, Nat.le_refl _⟩, hd σ H p⟩
end L2

namespace L2
open PySem PySem.Spec PyProof.Rows

abbrev R2 := V → V → Hp → VK → Prop

def OpR (X : Cx) (f : Value → Value → Sem Value) (r : R2) : Prop :=
  ∀ (pins : List (Addr × Obj)) (s : Shared) (σ : St) (H : Hp) (x y : V) (v u : Value) (Q : VK), Inv X pins σ H s → RelV x v → RelV y u → r x y H Q →
    wpAny (model X.prog X.w) X.A (f v u) (EP X pins σ Q) X.xe s

def UnR (X : Cx) (f : Value → Sem Value) (r : V → Hp → VK → Prop) : Prop :=
  ∀ (pins : List (Addr × Obj)) (s : Shared) (σ : St) (H : Hp) (x : V) (v : Value) (Q : VK), Inv X pins σ H s → RelV x v → r x H Q →
    wpAny (model X.prog X.w) X.A (f v) (EP X pins σ Q) X.xe s

def CallR (X : Cx) (f : Value) (r : List V → Hp → VK → Prop) : Prop :=
  ∀ (pins : List (Addr × Obj)) (s : Shared) (σ : St) (H : Hp) (xs : List V) (us : List Value) (Q : VK), Inv X pins σ H s → Vals xs us → r xs H Q →
    wpAny (model X.prog X.w) X.A (call f us) (EP X pins σ Q) X.xe s

def TruR (X : Cx) (r : V → Hp → (Bool → Hp → Prop) → Prop) : Prop :=
  ∀ (pins : List (Addr × Obj)) (s : Shared) (σ : St) (H : Hp) (x : V) (v : Value) (Q : Bool → Hp → Prop), Inv X pins σ H s → RelV x v → r x H Q →
    wpAny (model X.prog X.w) X.A (truthy v) (TP X pins σ Q) X.xe s

def tOp (r : R2) (ta tb : TE) : TE := fun σ H Q => ta σ H fun x H1 => tb σ H1 fun y H2 => r x y H2 Q
def tUn (r : V → Hp → VK → Prop) (ta : TE) : TE := fun σ H Q => ta σ H fun x H1 => r x H1 Q

def rI (C : Int → Int → Prop) (g : Int → Int → V) : R2 := fun x y H Q => ∃ i j, x = .int i ∧ y = .int j ∧ C i j ∧ Q (g i j) H
def rI0 (g : Int → Int → V) : R2 := fun x y H Q => ∃ i j, x = .int i ∧ y = .int j ∧ Q (g i j) H
def rU (g : Int → V) : V → Hp → VK → Prop := fun x H Q => ∃ i, x = .int i ∧ Q (g i) H

section
variable {X : Cx} {a b c : Expr} {ta tb tc : TE} {pos : Pos}

theorem binT (ha : PE X a ta) (hb : PE X b tb) {pins : List (Addr × Obj)} {s : Shared} {σ : St} {H : Hp} {R : V → V → Hp → Prop} (I : Inv X pins σ H s)
    (h : ta σ H fun x H1 => tb σ H1 fun y H2 => R x y H2) {Q : Value → Shared → Prop} {f : Value → Value → Sem Value}
    (hf : ∀ v u s2 x y H2, Inv X pins σ H2 s2 → RelV x v → RelV y u → R x y H2 → wpAny (model X.prog X.w) X.A (f v u) Q X.xe s2) :
    wpAny (model X.prog X.w) X.A (eval a X.env) (fun v s₁ => wpAny (model X.prog X.w) X.A (eval b X.env) (fun u s₂ => wpAny (model X.prog X.w) X.A (f v u) Q X.xe s₂) X.xe s₁) X.xe s := by
  refine thn (ha pins s σ H _ I h) fun v s1 ⟨x, H1, I1, r1, q1⟩ => ?_
  refine thn (hb pins s1 σ H1 _ I1 q1) fun u s2 ⟨y, H2, I2, r2, q2⟩ => ?_
  exact hf v u s2 x y H2 I2 r1 r2 q2

theorem pe_op {op : Operator} {r : R2} (ho : OpR X (binaryOp op) r) (ha : PE X a ta) (hb : PE X b tb) : PE X (.BinOp a op b pos) (tOp r ta tb) := by
  intro pins s σ H Q I h
  exact wpAny_BinOp (binT ha hb I h fun v u s2 x y H2 I2 rx ry q => ho pins s2 σ H2 x y v u Q I2 rx ry q)
theorem pe_un {op : UnaryOp} {r : V → Hp → VK → Prop} (ho : UnR X (unaryOp op) r) (ha : PE X a ta) : PE X (.UnaryOp op a pos) (tUn r ta) := by
  intro pins s σ H Q I h
  exact UnaryOp_ (thn (ha pins s σ H _ I h) fun v s1 ⟨x, H1, I1, r1, q1⟩ => ho pins s1 σ H1 x v Q I1 r1 q1)

theorem opI {f : Value → Value → Sem Value} {C : Int → Int → Prop} {g : Int → Int → Int}
    (rule : ∀ (i j : Int) (t u : Tok) (s : Shared) (Q : Value → Shared → Prop) (E : Value → Shared → Prop), C i j → Q (.int (g i j) s.toks) { s with toks := s.toks + 1 } → wpAny (model X.prog X.w) X.A (f (.int i t) (.int j u)) Q E s) :
    OpR X f (rI C fun i j => .int (g i j)) := by
  intro pins s σ H x y v u Q I rx ry h
  obtain ⟨i, j, rfl, rfl, hc, q⟩ := h
  obtain ⟨t, rfl⟩ := rx
  obtain ⟨t', rfl⟩ := ry
  exact rule i j t t' s _ _ hc ⟨.int (g i j), H, I.tok _, ⟨_, rfl⟩, q⟩
theorem opI0 {f : Value → Value → Sem Value} {g : Int → Int → Int}
    (rule : ∀ (i j : Int) (t u : Tok) (s : Shared) (Q : Value → Shared → Prop) (E : Value → Shared → Prop), Q (.int (g i j) s.toks) { s with toks := s.toks + 1 } → wpAny (model X.prog X.w) X.A (f (.int i t) (.int j u)) Q E s) :
    OpR X f (rI0 fun i j => .int (g i j)) := by
  intro pins s σ H x y v u Q I rx ry h
  obtain ⟨i, j, rfl, rfl, q⟩ := h
  obtain ⟨t, rfl⟩ := rx
  obtain ⟨t', rfl⟩ := ry
  exact rule i j t t' s _ _ ⟨.int (g i j), H, I.tok _, ⟨_, rfl⟩, q⟩
theorem opB0 {f : Value → Value → Sem Value} {g : Int → Int → Bool}
    (rule : ∀ (i j : Int) (t u : Tok) (s : Shared) (Q : Value → Shared → Prop) (E : Value → Shared → Prop), Q (.bool (g i j)) s → wpAny (model X.prog X.w) X.A (f (.int i t) (.int j u)) Q E s) :
    OpR X f (rI0 fun i j => .bl (g i j)) := by
  intro pins s σ H x y v u Q I rx ry h
  obtain ⟨i, j, rfl, rfl, q⟩ := h
  obtain ⟨t, rfl⟩ := rx
  obtain ⟨t', rfl⟩ := ry
  exact rule i j t t' s _ _ ⟨.bl (g i j), H, I, rfl, q⟩

def CDiv (i j : Int) : Prop := 0 < j ∧ j < 1073741824
def CMul (i j : Int) : Prop := (-(2 ^ 64) < i ∧ i < 2 ^ 64) ∨ (-(2 ^ 64) < j ∧ j < 2 ^ 64)
theorem CMul.ok {i j : Int} (h : CMul i j) : IntMulOk i j := by
  rcases h with ⟨h1, h2⟩ | ⟨h1, h2⟩
  · exact .of_left (intBits_le_64 h1 h2)
  · exact .of_right (intBits_le_64 h1 h2)
theorem op_add : OpR X (binaryOp .Add) (rI0 fun i j => .int (i + j)) := opI0 fun _ _ _ _ _ _ _ q => add_int q
theorem op_sub : OpR X (binaryOp .Sub) (rI0 fun i j => .int (i - j)) := opI0 fun _ _ _ _ _ _ _ q => sub_int q
theorem op_mul : OpR X (binaryOp .Mult) (rI CMul fun i j => .int (i * j)) := opI fun _ _ _ _ _ _ _ hc q => mul_int q hc.ok

theorem op_fdiv : OpR X (binaryOp .FloorDiv) (rI CDiv fun i j => .int (i / j)) := opI fun i j _ _ _ _ _ hc q => by
  have h1 : (0 : Int) < j := hc.1
  have h2 : j < 1073741824 := hc.2
  exact floordiv_int (by omega) (by rw [Int.fdiv_eq_ediv_of_nonneg i (by omega)]; exact q) (.inl (PyProof.noPylong_small (by omega)))
theorem op_mod : OpR X (binaryOp .Mod) (rI (fun _ j => 0 < j) fun i j => .int (i % j)) := opI fun i j _ _ _ _ _ hc q => by
  have h1 : (0 : Int) < j := hc
  exact mod_int' (by omega) (by rw [Int.fmod_eq_emod_of_nonneg i (by omega)]; exact q)
theorem unI {f : Value → Sem Value} {g : Int → Int}
    (rule : ∀ (i : Int) (t : Tok) (s : Shared) (Q : Value → Shared → Prop) (E : Value → Shared → Prop), Q (.int (g i) s.toks) { s with toks := s.toks + 1 } → wpAny (model X.prog X.w) X.A (f (.int i t)) Q E s) :
    UnR X f (rU fun i => .int (g i)) := by
  intro pins s σ H x v Q I rx h
  obtain ⟨i, rfl, q⟩ := h
  obtain ⟨t, rfl⟩ := rx
  exact rule i t s _ _ ⟨.int (g i), H, I.tok _, ⟨_, rfl⟩, q⟩
theorem un_neg : UnR X (unaryOp .USub) (rU fun i => .int (-i)) := unI fun _ _ _ _ _ q => neg_int q
end



def scal : V → V → Bool
  | .non, .non => true | .non, .int _ => true | .int _, .non => true | .non, .bl _ => true | .bl _, .non => true | .non, .str _ => true | .str _, .non => true
  | .int _, .int _ => true | .bl _, .bl _ => true | .str _, .str _ => true | .byt _, .byt _ => true
  | .int _, .str _ => true | .str _, .int _ => true | .bl _, .str _ => true | .str _, .bl _ => true
  | _, _ => false
def rEq : R2 := fun x y H Q => scal x y = true ∧ Q (.bl (decide (x = y))) H
def rNe : R2 := fun x y H Q => scal x y = true ∧ Q (.bl (!decide (x = y))) H

theorem dec_int {i j : Int} : decide (V.int i = V.int j) = (i == j) := by
  rw [Bool.eq_iff_iff]
  simp
theorem dec_bl {i j : Bool} : decide (V.bl i = V.bl j) = (i == j) := by
  rw [Bool.eq_iff_iff]
  simp
theorem dec_str {i j : Str} : decide (V.str i = V.str j) = (i == j) := by
  rw [Bool.eq_iff_iff]
  simp
theorem dec_byt {i j : Array UInt8} : decide (V.byt i = V.byt j) = (i.toList == j.toList) := by
  rw [Bool.eq_iff_iff]
  cases i
  cases j
  simp

section
variable {X : Cx} {a b c : Expr} {ta tb tc : TE} {pos : Pos}
theorem fin_bl {pins : List (Addr × Obj)} {σ : St} {H : Hp} {s : Shared} {Q : VK} {k k' : Bool} (I : Inv X pins σ H s) (q : Q (.bl k) H) (e : k = k') : EP X pins σ Q (.bool k') s := by
  subst e
  exact ⟨.bl k, H, I, rfl, q⟩
theorem op_eq : OpR X (compareOp .Eq) rEq := by
  intro pins s σ H x y v u Q I rx ry h
  obtain ⟨hs, q⟩ := h
  cases x with
  | non =>
    cases rx
    cases y with
    | non => cases ry; exact PySem.EqNone.eq_none_none (fin_bl I q (by simp))
    | bl j => cases ry; exact PySem.EqNone.eq_none_bool (fin_bl I q (by simp))
    | int j => obtain ⟨t', rfl⟩ := ry; exact PySem.EqNone.eq_none_int (fin_bl I q (by simp))
    | str j => obtain ⟨t', rfl⟩ := ry; exact PySem.EqNone.eq_none_str (fin_bl I q (by simp))
    | _ => exact absurd (show false = true from hs) Bool.false_ne_true
  | bl i =>
    cases rx
    cases y with
    | non => cases ry; exact PySem.EqNone.eq_bool_none (fin_bl I q (by simp))
    | bl j => cases ry; exact eq_bool (fin_bl I q dec_bl)
    | str j => obtain ⟨t', rfl⟩ := ry; exact PySem.EqMixed.eq_bool_str (fin_bl I q (by simp))
    | _ => exact absurd (show false = true from hs) Bool.false_ne_true
  | int i =>
    obtain ⟨t, rfl⟩ := rx
    cases y with
    | non => cases ry; exact PySem.EqNone.eq_int_none (fin_bl I q (by simp))
    | int j => obtain ⟨t', rfl⟩ := ry; exact eq_int (fin_bl I q dec_int)
    | str j => obtain ⟨t', rfl⟩ := ry; exact PySem.EqMixed.eq_int_str (fin_bl I q (by simp))
    | _ => exact absurd (show false = true from hs) Bool.false_ne_true
  | str i =>
    obtain ⟨t, rfl⟩ := rx
    cases y with
    | non => cases ry; exact PySem.EqNone.eq_str_none (fin_bl I q (by simp))
    | bl j => cases ry; exact PySem.EqMixed.eq_str_bool (fin_bl I q (by simp))
    | int j => obtain ⟨t', rfl⟩ := ry; exact PySem.EqMixed.eq_str_int (fin_bl I q (by simp))
    | str j => obtain ⟨t', rfl⟩ := ry; exact eq_str (fin_bl I q dec_str)
    | _ => exact absurd (show false = true from hs) Bool.false_ne_true
  | byt i =>
    obtain ⟨t, rfl⟩ := rx
    cases y with
    | byt j => obtain ⟨t', rfl⟩ := ry; exact PySem.W.eq_bytes (fin_bl I q dec_byt)
    | _ => exact absurd (show false = true from hs) Bool.false_ne_true
  | _ => cases y <;> exact absurd (show false = true from hs) Bool.false_ne_true
theorem op_ne : OpR X (compareOp .NotEq) rNe := by
  intro pins s σ H x y v u Q I rx ry h
  obtain ⟨hs, q⟩ := h
  cases x with
  | non =>
    cases rx
    cases y with
    | non => cases ry; exact PySem.EqNone.ne_none_none (fin_bl I q (by simp))
    | bl j => cases ry; exact PySem.EqNone.ne_none_bool (fin_bl I q (by simp))
    | int j => obtain ⟨t', rfl⟩ := ry; exact PySem.EqNone.ne_none_int (fin_bl I q (by simp))
    | str j => obtain ⟨t', rfl⟩ := ry; exact PySem.EqNone.ne_none_str (fin_bl I q (by simp))
    | _ => exact absurd (show false = true from hs) Bool.false_ne_true
  | bl i =>
    cases rx
    cases y with
    | non => cases ry; exact PySem.EqNone.ne_bool_none (fin_bl I q (by simp))
    | bl j => cases ry; exact ne_bool (fin_bl I q (congrArg not dec_bl))
    | str j => obtain ⟨t', rfl⟩ := ry; exact PySem.EqMixed.ne_bool_str (fin_bl I q (by simp))
    | _ => exact absurd (show false = true from hs) Bool.false_ne_true
  | int i =>
    obtain ⟨t, rfl⟩ := rx
    cases y with
    | non => cases ry; exact PySem.EqNone.ne_int_none (fin_bl I q (by simp))
    | int j => obtain ⟨t', rfl⟩ := ry; exact ne_int (fin_bl I q (congrArg not dec_int))
    | str j => obtain ⟨t', rfl⟩ := ry; exact PySem.EqMixed.ne_int_str (fin_bl I q (by simp))
    | _ => exact absurd (show false = true from hs) Bool.false_ne_true
  | str i =>
    obtain ⟨t, rfl⟩ := rx
    cases y with
    | non => cases ry; exact PySem.EqNone.ne_str_none (fin_bl I q (by simp))
    | bl j => cases ry; exact PySem.EqMixed.ne_str_bool (fin_bl I q (by simp))
    | int j => obtain ⟨t', rfl⟩ := ry; exact PySem.EqMixed.ne_str_int (fin_bl I q (by simp))
    | str j => obtain ⟨t', rfl⟩ := ry; exact ne_str (fin_bl I q (congrArg not dec_str))
    | _ => exact absurd (show false = true from hs) Bool.false_ne_true
  | byt i =>
    obtain ⟨t, rfl⟩ := rx
    cases y with
    | byt j => obtain ⟨t', rfl⟩ := ry; exact PySem.W.ne_bytes (fin_bl I q (congrArg not dec_byt))
    | _ => exact absurd (show false = true from hs) Bool.false_ne_true
  | _ => cases y <;> exact absurd (show false = true from hs) Bool.false_ne_true

theorem op_lt : OpR X (compareOp .Lt) (rI0 fun i j => .bl (decide (i < j))) := opB0 fun _ _ _ _ _ _ _ q => lt_int q
theorem op_le : OpR X (compareOp .LtE) (rI0 fun i j => .bl (decide (i ≤ j))) := opB0 fun _ _ _ _ _ _ _ q => le_int q
theorem op_gt : OpR X (compareOp .Gt) (rI0 fun i j => .bl (decide (j < i))) := opB0 fun _ _ _ _ _ _ _ q => gt_int q
theorem op_ge : OpR X (compareOp .GtE) (rI0 fun i j => .bl (decide (j ≤ i))) := opB0 fun _ _ _ _ _ _ _ q => ge_int q
theorem op_isN : OpR X (compareOp .Is) (fun x y H Q => y = .non ∧ Q (.bl (decide (x = .non))) H) := by
  intro pins s σ H x y v u Q I rx ry h
  obtain ⟨rfl, q⟩ := h
  cases ry
  refine is_none_gen (fin_bl I q ?_)
  cases x <;> first
    | (cases rx; rfl)
    | (obtain ⟨t, rfl⟩ := rx; rfl)
theorem OpR.or {f : Value → Value → Sem Value} {r r' : R2} (h : OpR X f r) (h' : OpR X f r') : OpR X f (fun x y H Q => r x y H Q ∨ r' x y H Q) := by
  intro pins s σ H x y v u Q I rx ry q
  rcases q with q | q
  · exact h pins s σ H x y v u Q I rx ry q
  · exact h' pins s σ H x y v u Q I rx ry q

theorem nomark (b : Expr) {op : CmpOp} (h : op ≠ .In := by decide) (h2 : op ≠ .NotIn := by decide) : behindInMarks op b = false := by
  have e1 : (op == CmpOp.In) = false := by cases op <;> first | rfl | exact absurd rfl h
  have e2 : (op == CmpOp.NotIn) = false := by cases op <;> first | rfl | exact absurd rfl h2
  cases b <;> simp [behindInMarks, e1, e2]

theorem pe_cmpR {op : CmpOp} {r : R2} (ho : OpR X (compareOp op) r) (ha : PE X a ta) (hb : PE X b tb) (hm : behindInMarks op b = false) : PE X (.Compare a [op] [b] pos) (tOp r ta tb) := by
  intro pins s σ H Q I h
  exact wpAny_Compare1 (binT ha hb I h fun v u s2 x y H2 I2 rx ry q => ho pins s2 σ H2 x y v u Q I2 rx ry q) hm

def tTest (t : TE) : TT := fun σ H Q => t σ H fun x H' => ∃ k, x = .bl k ∧ Q k H'
theorem pt_cmpR {op : CmpOp} {r : R2} (ho : OpR X (compareOp op) r) (ha : PE X a ta) (hb : PE X b tb) (hm : behindInMarks op b = false) : PT X (.Compare a [op] [b] pos) (tTest (tOp r ta tb)) := by
  intro pins s σ H Q I h
  refine wpAny_isTrue_Compare1 (thn (ha pins s σ H _ I h) fun v s1 ⟨x, H1, I1, r1, q1⟩ => thn (hb pins s1 σ H1 _ I1 q1) fun u s2 ⟨y, H2, I2, r2, q2⟩ =>
    thn (ho pins s2 σ H2 x y v u _ I2 r1 r2 q2) fun c s3 ⟨z, H3, I3, r3, k, e, q3⟩ => ?_) hm
  subst e
  cases r3
  exact wpAny_truthy_bool ⟨H3, I3, q3⟩

def tChain (r r' : R2) (ta tb tc : TE) : TE := fun σ H Q => ta σ H fun x H1 => tb σ H1 fun y H2 => r x y H2 fun z H3 => ∃ k, z = .bl k ∧
  (if k = true then tc σ H3 fun w' H4 => r' y w' H4 Q else Q (.bl false) H3)
theorem pt_chain {op op' : CmpOp} {r r' : R2} (ho : OpR X (compareOp op) r) (ho' : OpR X (compareOp op') r') (ha : PE X a ta) (hb : PE X b tb) (hc : PE X c tc)
    (hm : lastMarks [op, op'] [b, c] = false := by with_unfolding_all rfl) : PT X (.Compare a [op, op'] [b, c] pos) (tTest (tChain r r' ta tb tc)) := by
  intro pins s σ H Q I h
  refine isTrue_chain (thn (ha pins s σ H _ I h) fun v s1 ⟨x, H1, I1, r1, q1⟩ => test_link (thn (hb pins s1 σ H1 _ I1 q1) fun u s2 ⟨y, H2, I2, r2, q2⟩ =>
    thn (ho pins s2 σ H2 x y v u _ I2 r1 r2 q2) fun d s3 ⟨z, H3, I3, r3, k, e, q3⟩ => ?_)) hm
  subst e
  cases r3
  refine wpAny_truthy_bool ?_
  cases k with
  | false =>
    obtain ⟨k', e', q'⟩ := q3
    cases e'
    exact ite_ff ⟨H3, I3, q'⟩
  | true =>
    refine ite_tt (test_last (thn (hc pins s3 σ H3 _ I3 q3) fun w' s4 ⟨z', H4, I4, r4, q4⟩ => thn (ho' pins s4 σ H4 y z' u w' _ I4 r2 r4 q4) fun d' s5 ⟨z2, H5, I5, r5, k2, e2, q5⟩ => ?_))
    subst e2
    cases r5
    exact wpAny_truthy_bool ⟨H5, I5, q5⟩



def TruV (K : PySem.W.Frag) (x : V) (H : Hp) (k : Bool) : Prop :=
  match x with
  | .non => k = false
  | .bl b => k = b
  | .int i => k = (i != 0)
  | .str y => y.length ≤ sizeLine ∧ k = ((y.length : Int) != 0)
  | .byt y => y.size ≤ sizeLine ∧ k = ((y.size : Int) != 0)
  | .ref p => (∃ xs, SqL K H p xs ∧ k = !xs.isEmpty) ∨ (∃ xs, SqT K H p xs ∧ k = !xs.isEmpty) ∨ ∃ kvs, H p = some (.dK kvs) ∧ k = !kvs.isEmpty
  | _ => False
theorem isEmpty_kv {κ : Type} {kvs : List (κ × V)} {vs : List (κ × Value)} (r : KV kvs vs) : (!vs.isEmpty) = !kvs.isEmpty := by
  cases r <;> rfl
theorem isEmpty_of {xs : List V} {its : List Value} (r : Vals xs its) : (!its.toArray.isEmpty) = !xs.isEmpty := by
  cases r <;> simp
theorem line63 : (sizeLine : Nat) < 2 ^ 63 := by rw [sizeLine_eq]; decide
theorem tru_ok : TruR X (fun x H Q => ∃ k, TruV X.K x H k ∧ Q k H) := by
  intro pins s σ H x v Q I rx h
  obtain ⟨k, e, q⟩ := h
  have hl := line63
  have hs : sizeLine = 16777216 := sizeLine_eq
  cases x with
  | non =>
    cases rx
    have e' : k = false := e
    subst e'
    exact truthy_none ⟨H, I, q⟩
  | bl b =>
    cases rx
    have e' : k = b := e
    subst e'
    exact wpAny_truthy_bool ⟨H, I, q⟩
  | int i =>
    obtain ⟨t, rfl⟩ := rx
    have e' : k = (i != 0) := e
    subst e'
    exact PySem.P.truthy_int ⟨H, I, q⟩
  | str y =>
    obtain ⟨t, rfl⟩ := rx
    obtain ⟨hy, e'⟩ : y.length ≤ sizeLine ∧ k = ((y.length : Int) != 0) := e
    subst e'
    exact PySem.P.truthy_str (by omega) ⟨H, I.tok _, q⟩
  | byt y =>
    obtain ⟨t, rfl⟩ := rx
    obtain ⟨hy, e'⟩ : y.size ≤ sizeLine ∧ k = ((y.size : Int) != 0) := e
    subst e'
    exact PySem.W.truthy_bytes (by omega) ⟨H, I.tok _, q⟩
  | ref p =>
    cases rx
    have e' : (∃ xs, SqL X.K H p xs ∧ k = !xs.isEmpty) ∨ (∃ xs, SqT X.K H p xs ∧ k = !xs.isEmpty) ∨ ∃ kvs, H p = some (.dK kvs) ∧ k = !kvs.isEmpty := e
    rcases e' with ⟨xs, hx, e'⟩ | ⟨xs, hx, e'⟩ | ⟨kvs, hx, e'⟩
    · subst e'
      obtain ⟨its, r, pl, hz⟩ := I.list hx
      have hlen := r.length
      exact wpAny_truthy_list pl.isList (by simp only [List.size_toArray]; omega) ⟨H, I.tok _, by rw [isEmpty_of r]; exact q⟩
    · subst e'
      obtain ⟨its, r, pl, hz⟩ := I.tuple hx
      have hlen := r.length
      exact truthy_tuple pl (by simp only [List.size_toArray]; omega) ⟨H, I.tok _, by rw [isEmpty_of r]; exact q⟩
    · subst e'
      obtain ⟨hz, hS, vs, r, m⟩ : kvs.length ≤ sizeLine ∧ (p == sysModules) = false ∧ ∃ vs, KV kvs vs ∧ s.heap.DictOf (mixKind X.prog X.w) p vs := I.hok p _ hx
      have hlen : kvs.length = vs.length := Paired.length r
      exact wpAny_truthy_dict hS m (by omega) ⟨H, I.tok _, by rw [isEmpty_kv r]; exact q⟩
  | _ => exact (show False from e).elim

theorem pt_truth (ha : PE X a ta) (he : ∀ whole, isTrue a X.env whole = (do let v ← whole; standAt a.pos; holding [v] (truthy v))) :
    PT X a (fun σ H Q => ta σ H fun x H' => ∃ k, TruV X.K x H' k ∧ Q k H') := by
  intro pins s σ H Q I h
  exact isTrue_plain (thn (ha pins s σ H _ I h) fun v s1 ⟨x, H1, I1, r1, q1⟩ => tru_ok pins s1 σ H1 x v Q I1 r1 q1) (he _)


theorem op_add_str : OpR X (binaryOp .Add) (fun x y H Q => ∃ i j, x = .str i ∧ y = .str j ∧ i.length + j.length ≤ sizeLine ∧ Q (.str (i ++ j)) H) := by
  intro pins s σ H x y v u Q I rx ry h
  obtain ⟨i, j, rfl, rfl, hz, q⟩ := h
  obtain ⟨t, rfl⟩ := rx
  obtain ⟨t', rfl⟩ := ry
  exact add_str (fun t' tk => ⟨.str (i ++ j), H, I.tok _, ⟨_, rfl⟩, q⟩) hz
theorem vals1 {x : V} {us : List Value} (r : Vals [x] us) : ∃ u, us = [u] ∧ RelV x u := by
  cases r with
  | cons r1 r2 => cases r2; exact ⟨_, rfl, r1⟩
theorem vals2 {x y : V} {us : List Value} (r : Vals [x, y] us) : ∃ u w', us = [u, w'] ∧ RelV x u ∧ RelV y w' := by
  cases r with
  | cons r1 r2 =>
    cases r2 with
    | cons r3 r4 => cases r4; exact ⟨_, _, rfl, r1, r3⟩
theorem call_min2 (hc : X.calm = true) : CallR X (.builtin "min") (fun xs H Q => ∃ i j, xs = [.int i, .int j] ∧ Q (.int (if j < i then j else i)) H) := by
  intro pins s σ H xs us Q I r h
  obtain ⟨i, j, rfl, q⟩ := h
  obtain ⟨u, w', rfl, ⟨t, rfl⟩, ⟨t', rfl⟩⟩ := vals2 r
  refine min_two_ints (I.ok.hd hc) fun h' tk k => ⟨_, H, I.kept k, ?_, q⟩
  by_cases hj : j < i
  · rw [if_pos hj, if_pos hj]; exact ⟨_, rfl⟩
  · rw [if_neg hj, if_neg hj]; exact ⟨_, rfl⟩
theorem call_int1 : CallR X (.type "int") (fun xs H Q => (∃ i, xs = [.int i] ∧ Q (.int i) H) ∨ ∃ k, xs = [.bl k] ∧ Q (.int (if k then 1 else 0)) H) := by
  intro pins s σ H xs us Q I r h
  rcases h with ⟨i, rfl, q⟩ | ⟨k, rfl, q⟩
  · obtain ⟨u, rfl, t, rfl⟩ := vals1 r
    exact call_int_int ⟨.int i, H, I, ⟨_, rfl⟩, q⟩
  · obtain ⟨u, rfl, r1⟩ := vals1 r
    cases r1
    exact call_int_bool ⟨.int (if k then 1 else 0), H, I.tok _, ⟨_, rfl⟩, q⟩
def LenV (K : PySem.W.Frag) (x : V) (H : Hp) (n : Nat) : Prop :=
  match x with
  | .str y => y.length ≤ sizeLine ∧ n = y.length
  | .byt y => y.size ≤ sizeLine ∧ n = y.size
  | .ref p => (∃ xs, SqL K H p xs ∧ n = xs.length) ∨ ∃ xs, SqT K H p xs ∧ n = xs.length
  | _ => False
theorem call_len : CallR X (.builtin "len") (fun xs H Q => ∃ x n, xs = [x] ∧ LenV X.K x H n ∧ Q (.int n) H) := by
  intro pins s σ H xs us Q I r h
  obtain ⟨x, n, rfl, e, q⟩ := h
  obtain ⟨u, rfl, rx⟩ := vals1 r
  have hl := line63
  have hs : sizeLine = 16777216 := sizeLine_eq
  cases x with
  | str y =>
    obtain ⟨t, rfl⟩ := rx
    obtain ⟨hy, e'⟩ : y.length ≤ sizeLine ∧ n = y.length := e
    subst e'
    exact len_str (by omega) ⟨.int _, H, I.tok _, ⟨_, rfl⟩, q⟩
  | byt y =>
    obtain ⟨t, rfl⟩ := rx
    obtain ⟨hy, e'⟩ : y.size ≤ sizeLine ∧ n = y.size := e
    subst e'
    exact PySem.W.len_bytes (by omega) ⟨.int _, H, I.tok _, ⟨_, rfl⟩, q⟩
  | ref p =>
    cases rx
    have e' : (∃ xs, SqL X.K H p xs ∧ n = xs.length) ∨ ∃ xs, SqT X.K H p xs ∧ n = xs.length := e
    rcases e' with ⟨xs, hx, e'⟩ | ⟨xs, hx, e'⟩
    · subst e'
      obtain ⟨its, r', pl, hz⟩ := I.list hx
      have hlen := r'.length
      exact Calls.call_len_list pl.isList (by simp only [List.size_toArray]; omega) ⟨.int xs.length, H, I.tok _, ⟨_, by simp only [List.size_toArray]; rw [hlen]⟩, q⟩
    · subst e'
      obtain ⟨its, r', pl, hz⟩ := I.tuple hx
      have hlen := r'.length
      exact len_tuple pl (by simp only [List.size_toArray]; omega) ⟨.int xs.length, H, I.tok _, ⟨_, by simp only [List.size_toArray]; rw [hlen]⟩, q⟩
  | _ => exact (show False from e).elim

end
end L2

namespace L2
open PySem PySem.Spec PyProof.Rows


structure ObjM (h : Heap) (x dx C : Addr) (mA : Str → Option Value) : Prop where
  obj : h.get? x = some (PySem.W.instObj C dx)
  ns : h.Ns1 dx mA
  ne : dx ≠ x

theorem lookIn_ns {h : Heap} {dx : Addr} {mA : Str → Option Value} (n : h.Ns1 dx mA) : ∃ od, h.get? dx = some od ∧ ∀ name, PySem.W.lookIn name od = some (mA name) := by
  obtain ⟨o, es, ep, ho, hd, hk, _, hm⟩ := n
  refine ⟨o, ho, fun name => ?_⟩
  have e := hm name
  unfold nsFind findBy at e
  rw [← Array.find?_toList] at e
  unfold PySem.W.lookIn
  rw [hd]
  dsimp only
  split
  · rename_i y q
    rw [q] at e
    exact congrArg some e
  · rename_i q
    rw [q] at e
    have a : es.toList.any (·.refKey) = false := by
      rw [List.any_eq_false]
      intro y hy
      obtain ⟨z, t, hkey⟩ := hk y (Array.mem_toList_iff.mp hy)
      simp [DictEntry.refKey, hkey]
    have a' : ¬ es.toList.any (·.refKey) = true := by rw [a]; exact Bool.false_ne_true
    rw [if_neg a']
    exact congrArg some e

theorem ObjM.look {h : Heap} {x dx C : Addr} {mA : Str → Option Value} (I : ObjM h x dx C mA) : ∃ od, PySem.W.InstAt h x (PySem.W.instObj C dx) C (some od) ∧ ∀ name, PySem.W.lookIn name od = some (mA name) :=
  let ⟨od, ho, hl⟩ := lookIn_ns I.ns
  ⟨od, ⟨I.obj, rfl, rfl, ho⟩, hl⟩

section
variable {prog : Program} {w : World} {A : Around} {E : Value → Shared → Prop} {s : Shared} {K : PySem.W.Frag} {x dx C f : Addr} {mA : Str → Option Value} {name : Str} {v : Value}

theorem get_map {expr : Bool} {Q : Value → Shared → Prop} (X : K.In s.heap) (I : ObjM s.heap x dx C mA) (hg : PySem.W.plainGet K C name = true) (hh : PySem.W.hasDictIn K C = true)
    (ha : PySem.W.findIn K (.ref C) name = some none) (hv : mA name = some v) (hv' : PySem.W.handedIn v = true) (h : Q v { s with toks := s.toks + 1 }) :
    wpAny (model prog w) A (getAttr (.ref x) name expr) Q E s := by
  obtain ⟨od, J, hl⟩ := I.look
  exact PySem.W.get_value X J (PySem.W.plainGet_of hg).1 (PySem.W.findObj_own hh ha rfl (by rw [hl, hv])) hv' h

theorem get_meth {pl : Sem Bool} {Q : Value × List Value → Shared → Prop} (X : K.In s.heap) (I : ObjM s.heap x dx C mA) (hg : PySem.W.plainGet K C name = true)
    (hf : PySem.W.findIn K (.ref C) name = some (some (.ref f))) (ht : PySem.W.isFn K (.ref f) = true) (hv : mA name = none) (h : Q (.ref f, [.ref x]) s) :
    wpAny (model prog w) A (getMethod (.ref x) name pl) Q E s := by
  obtain ⟨od, J, hl⟩ := I.look
  exact PySem.W.method_fn X J (PySem.W.plainGet_of hg).1 (PySem.W.plainGet_of hg).2 hf (beq_iff_eq.mp ht) (by show (PySem.W.lookIn name od).map (·.isSome) = some false; rw [hl, hv]; rfl) h

theorem set_map {ns : List Str} {Q : Unit → Shared → Prop} (X : K.In s.heap) (I : ObjM s.heap x dx C mA)
    (hs : PySem.W.findIn K (.ref C) "__setattr__" = some (some (.builtin "object.__setattr__"))) (hp : PySem.W.plainOver K C = true) (ht : PySem.W.takerIn K C name = some none) (hh : PySem.W.hasDictIn K C = true)
    (hw : PySem.Within mA ns) (hsz : ns.length ≤ sizeLine)
    (h : ∀ h', ObjM h' x dx C (fun y => if y = name then some v else mA y) → Heap.SameBut dx s.heap h' → Q () { s with heap := h', toks := s.toks + 2 }) :
    wpAny (model prog w) A (setAttr (.ref x) name v) Q E s := by
  obtain ⟨od, J, hl⟩ := I.look
  refine PySem.W.set_plain X J hs (PySem.W.osa_open (s := { s with toks := s.toks + 1 }) (r := none) X J hp ht fun b => ?_)
  obtain ⟨cd, hc, hd'⟩ := PySem.W.any_some hh
  have hx : s.heap.get? x = some ⟨.ref C, some dx, .plain, #[]⟩ := I.obj
  refine wpAny_bind (wpAny_pure (wpAny_bind (wpAny_bind (wpAny_loadPart hx (wpAny_bind (PySem.W.Looks.here (s := { s with toks := s.toks + 1 }) (PySem.W.looks_clsIn X hc) ?_))))))
  rw [hd']
  refine wpAny_pure (a := some dx) (wpAny_bind (wpAny_pure (wpAny_bind ?_)))
  refine wpAny_nsSet1 (s := { s with toks := s.toks + 1 }) I.ns fun h' hn2 hs2 => ?_
  obtain ⟨oD, esD, epD, hoD, hdD, hcD⟩ := hn2.count (PySem.Within.cons name v hw)
  refine wpAny_bind (wpAny_lookBehind hoD (by rw [hdD]; exact pastItsLine_dict (Nat.le_trans hcD (by rw [List.length_cons]; omega))) ?_)
  exact wpAny_pure (h _ ⟨(hs2.2 _ (Ne.symm I.ne)).trans I.obj, hn2, I.ne⟩ hs2)


theorem make_map {R : Result → Shared → Prop} {vs : List Value} {kw : List (Str × Value)} (X : K.In s.heap) (hm : PySem.W.makesIn K C = true)
    (hi : PySem.W.findIn K (.ref C) "__init__" = some (some (.ref f))) (hf : PySem.W.typeIn K (.ref f) = some (.type "function"))
    (h : codeAny (model prog w) (A.under (.builtin "type.__call__" ⟨.ref C :: vs, kw⟩)) (.call (.ref f) ⟨.ref (s.heap.objs.size + 1) :: vs, kw⟩) (PySem.W.InitBack (s.heap.objs.size + 1) R)
      { s with heap := (s.heap.push PySem.W.emptyDict).push (PySem.W.instObj C s.heap.objs.size) }) :
    codeAny (model prog w) A (.call (.ref C) ⟨vs, kw⟩) R s := by
  obtain ⟨hh, g, d, t, os⟩ := s
  exact PySem.W.make_core (PySem.W.makes_of X hm) (PySem.W.looks_findIn X hi) (fun self => PySem.W.bind_fn X self hf) (.inl rfl) h

end


def putF (f : Str) (v : V) : List (Str × V) → List (Str × V)
  | [] => [(f, v)]
  | (g, x) :: r => if g = f then (g, v) :: r else (g, x) :: putF f v r
theorem lookup_putF (f g : Str) (v : V) : ∀ fs : List (Str × V), (putF f v fs).lookup g = if g = f then some v else fs.lookup g
  | [] => by
    show List.lookup g [(f, v)] = _
    by_cases h : g = f
    · have hb : (g == f) = true := beq_iff_eq.mpr h
      simp only [List.lookup, hb, if_pos h]
    · have hb : (g == f) = false := beq_eq_false_iff_ne.mpr h
      simp only [List.lookup, hb, if_neg h]
  | (k, x) :: r => by
    have ih := lookup_putF f g v r
    rw [show putF f v ((k, x) :: r) = (if k = f then (k, v) :: r else (k, x) :: putF f v r) from rfl]
    by_cases hk : k = f
    · rw [if_pos hk]
      by_cases h : g = k
      · have hb : (g == k) = true := beq_iff_eq.mpr h
        simp only [List.lookup, hb, if_pos (h.trans hk)]
      · have hb : (g == k) = false := beq_eq_false_iff_ne.mpr h
        simp only [List.lookup, hb, if_neg (fun e : g = f => h (e.trans hk.symm))]
    · rw [if_neg hk]
      by_cases h : g = k
      · have hb : (g == k) = true := beq_iff_eq.mpr h
        simp only [List.lookup, hb, if_neg (fun e : g = f => hk (h.symm.trans e))]
      · have hb : (g == k) = false := beq_eq_false_iff_ne.mpr h
        simp only [List.lookup, hb]
        exact ih
theorem keys_putF (f : Str) (v : V) : ∀ fs : List (Str × V), f ∈ (putF f v fs).map (·.1) ∧ ∀ g, g ∈ fs.map (·.1) → g ∈ (putF f v fs).map (·.1)
  | [] => ⟨by simp [putF], fun g h => by simp at h⟩
  | (k, x) :: r => by
    obtain ⟨i1, i2⟩ := keys_putF f v r
    rw [show putF f v ((k, x) :: r) = (if k = f then (k, v) :: r else (k, x) :: putF f v r) from rfl]
    by_cases hk : k = f
    · rw [if_pos hk]
      subst hk
      exact ⟨by simp, fun g h => by simpa using h⟩
    · rw [if_neg hk]
      refine ⟨?_, fun g h => ?_⟩
      · rw [List.map_cons]
        exact List.mem_cons_of_mem _ i1
      · rw [List.map_cons] at h ⊢
        rcases List.mem_cons.mp h with e | e
        · exact List.mem_cons.mpr (.inl e)
        · exact List.mem_cons_of_mem _ (i2 g e)
theorem length_putF (f : Str) (v : V) : ∀ fs : List (Str × V), (putF f v fs).length ≤ fs.length + 1
  | [] => by simp [putF]
  | (k, x) :: r => by
    have ih := length_putF f v r
    rw [show putF f v ((k, x) :: r) = (if k = f then (k, v) :: r else (k, x) :: putF f v r) from rfl]
    by_cases hk : k = f
    · rw [if_pos hk, List.length_cons, List.length_cons]; omega
    · rw [if_neg hk, List.length_cons, List.length_cons]; omega

theorem RelO.some_of {v : V} {o : Option Value} (r : RelO (some v) o) : ∃ u, o = some u ∧ RelV v u := by
  cases o with
  | none => exact (show False from r).elim
  | some u => exact ⟨u, rfl, r⟩
theorem RelO.none_of {o : Option Value} (r : RelO none o) : o = none := by
  cases o with
  | none => rfl
  | some u => exact (show False from r).elim
theorem handed_of {v : V} {u : Value} (r : RelV v u) : PySem.W.handedIn u = true := by
  cases v with
  | non => cases (show u = Value.none from r); rfl
  | bl b => cases (show u = Value.bool b from r); rfl
  | int i => obtain ⟨t, e⟩ := (show ∃ t, u = Value.int i t from r); cases e; rfl
  | str x => obtain ⟨t, e⟩ := (show ∃ t, u = Value.str x t from r); cases e; rfl
  | byt b => obtain ⟨t, e⟩ := (show ∃ t, u = Value.bytes b t from r); cases e; rfl
  | flt b => obtain ⟨t, e⟩ := (show ∃ t, u = Value.float b t from r); cases e; rfl
  | ref a => cases (show u = Value.ref a from r); rfl
  | ty n => cases (show u = Value.type n from r); rfl

section
variable {P : Program} {w : World} {H H' : Hp} {h h' : Heap} {a C dx : Addr} {fs fs' : List (Str × V)}
theorem ins_get (hok : HOk P w H h) (e : H a = some (.ins C dx fs)) : ∃ mA, ObjM h a dx C mA ∧ (∀ f, RelO (fs.lookup f) (mA f)) ∧ PySem.Within mA (fs.map (·.1)) ∧ fs.length ≤ 1000 ∧ H dx = some (.own a) := by
  obtain ⟨d, z, ne, ob, mA, n, r, q⟩ := (show ObjOk P w H h a (.ins C dx fs) from hok a _ e)
  exact ⟨mA, ⟨ob, n, ne⟩, r, q, z, d⟩
end


structure Cls (K : PySem.W.Frag) (C : Addr) : Prop where
  pg : PySem.W.plainGet K C Str.empty = true
  hd : PySem.W.hasDictIn K C = true
  po : PySem.W.plainOver K C = true
  sa : PySem.W.findIn K (.ref C) "__setattr__" = some (some (.builtin "object.__setattr__"))
theorem Cls.get {K : PySem.W.Frag} {C : Addr} (c : Cls K C) (f : Str) : PySem.W.plainGet K C f = true := c.pg

def NoAttr (K : PySem.W.Frag) (C : Addr) (f : Str) : Prop := PySem.W.findIn K (.ref C) f = some none
theorem NoAttr.taker {K : PySem.W.Frag} {C : Addr} {f : Str} (n : NoAttr K C f) : PySem.W.takerIn K C f = some none := by
  unfold PySem.W.takerIn
  rw [show PySem.W.findIn K (.ref C) f = some none from n]
  rfl

structure Meth (K : PySem.W.Frag) (C : Addr) (m : Str) (f : Addr) : Prop where
  at_ : PySem.W.findIn K (.ref C) m = some (some (.ref f))
  fn : PySem.W.isFn K (.ref f) = true
  kp : PySem.W.keepIn K (.ref f) = true

section
variable {X : Cx} {pins : List (Addr × Obj)} {σ : St} {H : Hp} {s : Shared} {a C dx : Addr} {fs : List (Str × V)} {f : Str} {v : V} {A : Around} {E : Value → Shared → Prop}

theorem getattr_ok {b : Bool} {Q : Value → Shared → Prop} (I : Inv X pins σ H s) (e : H a = some (.ins C dx fs)) (c : Cls X.K C) (n : NoAttr X.K C f) (l : fs.lookup f = some v)
    (h : ∀ u s', Inv X pins σ H s' → RelV v u → Q u s') : wpAny (model X.prog X.w) A (getAttr (.ref a) f b) Q E s := by
  obtain ⟨mA, O, r, _, _, _⟩ := ins_get I.hok e
  obtain ⟨u, hu, ru⟩ := RelO.some_of (v := v) (o := mA f) (by rw [← l]; exact r f)
  exact get_map I.kIn O (c.get f) c.hd n hu (handed_of ru) (h u _ (I.tok _) ru)

theorem getmeth_ok {m : Str} {g : Addr} {pl : Sem Bool} {Q : Value × List Value → Shared → Prop} (I : Inv X pins σ H s) (e : H a = some (.ins C dx fs)) (c : Cls X.K C) (k : Meth X.K C m g) (l : fs.lookup m = none)
    (h : Q (.ref g, [.ref a]) s) : wpAny (model X.prog X.w) A (getMethod (.ref a) m pl) Q E s := by
  obtain ⟨mA, O, r, _, _, _⟩ := ins_get I.hok e
  have hn : mA m = none := RelO.none_of (by rw [← l]; exact r m)
  exact get_meth I.kIn O (c.get m) k.at_ k.fn hn h

theorem setattr_ok {y : V} {u : Value} {Q : Unit → Shared → Prop} (I : Inv X pins σ H s) (e : H a = some (.ins C dx fs)) (c : Cls X.K C) (n : NoAttr X.K C f) (hl : fs.length < 1000) (ry : RelV y u)
    (h : ∀ s', Inv X pins σ (upd H a (.ins C dx (putF f y fs))) s' → Q () s') : wpAny (model X.prog X.w) A (setAttr (.ref a) f u) Q E s := by
  obtain ⟨mA, O, r, wi, _, ho⟩ := ins_get I.hok e
  have hz : (fs.map (·.1)).length ≤ sizeLine := by rw [List.length_map, sizeLine_eq]; omega
  refine set_map I.kIn O c.sa c.po n.taker c.hd wi hz fun h' O' sb => h _ ?_
  have hd : ∃ o, h'.get? dx = some o := let ⟨o, _, _, e', _⟩ := O'.ns; ⟨o, e'⟩
  refine I.write (x := a) (e := dx) (by rw [e]; exact True.intro) (.inr ho) (fun b q hb z => (sb.2 b hb).trans z) hd ?_
  refine ⟨by rw [upd_ne O.ne]; exact ho, ?_, O.ne, O'.obj, _, O'.ns, fun g => ?_, fun g hg => ?_⟩
  · have := length_putF f y fs; omega
  · show RelO ((putF f y fs).lookup g) (if g = f then some u else mA g)
    rw [lookup_putF]
    by_cases q : g = f
    · rw [if_pos q, if_pos q]; exact ry
    · rw [if_neg q, if_neg q]; exact r g
  · by_cases q : g = f
    · rw [q]; exact (keys_putF f y fs).1
    · refine (keys_putF f y fs).2 g (wi g fun z => hg ?_)
      show (if g = f then some u else mA g) = none
      rw [if_neg q]; exact z


theorem Inv.made (I : Inv X pins σ H s) : Inv X pins σ (upd (upd H s.heap.objs.size (.own (s.heap.objs.size + 1))) (s.heap.objs.size + 1) (.ins C s.heap.objs.size []))
    { s with heap := (s.heap.push PySem.W.emptyDict).push (PySem.W.instObj C s.heap.objs.size) } := by
  have e1 : (s.heap.push PySem.W.emptyDict).get? s.heap.objs.size = some PySem.W.emptyDict := Heap.get?_push_size s.heap rfl
  have e2 : ((s.heap.push PySem.W.emptyDict).push (PySem.W.instObj C s.heap.objs.size)).get? (s.heap.objs.size + 1) = some (PySem.W.instObj C s.heap.objs.size) := by
    have := Heap.get?_push_size (s.heap.push PySem.W.emptyDict) (o := PySem.W.instObj C s.heap.objs.size) rfl
    rwa [Heap.size_push] at this
  have e3 : (s.heap.push PySem.W.emptyDict).Ns s.heap.objs.size (fun _ => none) := ⟨PySem.W.emptyDict, #[], _, e1, rfl, (fun e he => absurd he (by simp)), fun _ => rfl⟩
  have I1 := I.laid (a := s.heap.objs.size) (o := .own (s.heap.objs.size + 1)) (h' := s.heap.push PySem.W.emptyDict) (t' := s.toks) (fun b u q => Heap.get?_push_of_some _ q) (Nat.le_refl _) ⟨_, e1⟩
  refine I1.laid (a := s.heap.objs.size + 1) (o := .ins C s.heap.objs.size []) (t' := s.toks) (fun b u q => Heap.get?_push_of_some _ q) (Nat.le_of_eq (Heap.size_push _ _)) ?_
  have ne : s.heap.objs.size ≠ s.heap.objs.size + 1 := Nat.ne_of_lt (Nat.lt_succ_self _)
  refine ⟨by rw [upd_ne ne, upd_same], Nat.zero_le _, ne, e2, fun _ => none, (Heap.Ns1.of_empty e3).at fun o q => Heap.get?_push_of_some _ q, fun _ => True.intro, fun y hy => absurd rfl hy⟩


theorem attr_of {prog : Program} {w : World} {env : Env} {e : Expr} {f : Str} {pos : Pos} {s : Shared} {Q : Value → Shared → Prop} (hb : attributeBase e f env (eval e env) = eval e env)
    (h : wpAny (model prog w) A (eval e env) (fun o s₁ => wpAny (model prog w) A (getAttr o f true) Q E s₁) E s) : wpAny (model prog w) A (eval (.Attribute e f pos) env) Q E s :=
  Attribute_any_ h (by rw [arm_eval_Attribute, hb])
end



def tFld (K : PySem.W.Frag) (ta : TE) (f : Str) : TE := fun σ H Q => ta σ H fun x H1 => ∃ a C dx fs v, x = .ref a ∧ H1 a = some (.ins C dx fs) ∧ Cls K C ∧ NoAttr K C f ∧ fs.lookup f = some v ∧ Q v H1

def sFld (K : PySem.W.Frag) (ta tv : TE) (f : Str) : TS := fun D σ H => tv σ H fun y H1 => ta σ H1 fun x H2 => ∃ a C dx fs, x = .ref a ∧ H2 a = some (.ins C dx fs) ∧ Cls K C ∧ NoAttr K C f ∧ fs.length < 1000 ∧
  D.nx σ (upd H2 a (.ins C dx (putF f y fs)))

section
variable {X : Cx} {o e value : Expr} {f : Str} {pos pos' tpos : Pos} {ta tv : TE}
theorem pe_fld (he : PE X e ta) (hb : attributeBase e f X.env (eval e X.env) = eval e X.env) : PE X (.Attribute e f pos) (tFld X.K ta f) := by
  intro pins s σ H Q I h
  refine attr_of hb (thn (he pins s σ H _ I h) fun u s1 ⟨x, H1, I1, rx, a, C, dx, fs, v, ex, ea, c, n, l, q⟩ => ?_)
  subst ex
  obtain rfl : u = Value.ref a := rx
  exact getattr_ok I1 ea c n l fun u' s2 I2 ru => ⟨v, H1, I2, ru, q⟩
theorem ps_fld (ha : PE X o ta) (hv : PE X value tv) (hs : swapsWith value (some (.Attribute o f pos')) pos.line X.env = pure false) : PS X (.Assign [.Attribute o f pos'] value pos) (sFld X.K ta tv f) := by
  intro pins s σ H D I h
  refine plainObj_wpAny_Assign_Attribute (thn (hv pins s σ H _ I h) fun u s1 ⟨y, H1, I1, ry, q⟩ => thn (ha pins s1 σ H1 _ I1 q) fun ov s2 ⟨x, H2, I2, rx, a, C, dx, fs, ex, ea, c, n, l, q2⟩ => ?_) hs
  subst ex
  obtain rfl : ov = Value.ref a := rx
  exact setattr_ok I2 ea c n l ry fun s3 I3 => ⟨σ, _, I3, q2⟩
end


section
variable {X : Cx} {pins : List (Addr × Obj)} {σ : St} {H : Hp} {s : Shared} {A : Around} {E : Value → Shared → Prop} {Q : Value → Shared → Prop} {c : Value} {b : Bool}

inductive TyOf (K : PySem.W.Frag) (H : Hp) : V → Value → Prop where
  | non : TyOf K H .non (.type "NoneType")
  | bl (x : Bool) : TyOf K H (.bl x) (.type "bool")
  | int (i : Int) : TyOf K H (.int i) (.type "int")
  | str (x : Str) : TyOf K H (.str x) (.type "str")
  | flt (x : UInt64) : TyOf K H (.flt x) (.type "float")
  | lst {a : Addr} {xs : List V} (e : H a = some (.lst xs)) : TyOf K H (.ref a) (.type "list")
  | frz {a : Addr} {o : Obj} {xs : List V} (e : H a = some (.frz o (.lst xs))) : TyOf K H (.ref a) (.type "list")
  | tup {a : Addr} {xs : List V} (e : H a = some (.tup xs)) : TyOf K H (.ref a) (.type "tuple")
  | dK {a : Addr} {kvs : List (Key × V)} (e : H a = some (.dK kvs)) : TyOf K H (.ref a) (.type "dict")
  | dT {a : Addr} {kvs : List (List Key × V)} (e : H a = some (.dT kvs)) : TyOf K H (.ref a) (.type "dict")
  | ins {a C dx : Addr} {fs : List (Str × V)} (e : H a = some (.ins C dx fs)) (cl : Cls K C) (ha : PySem.W.findIn K (.ref C) "__class__" = some (some (.builtin "object.__class__")))
      (hn : PySem.W.specialIn K (.builtin "object.__class__") "__get__" = some (some (.builtin "getset_descriptor.__get__"))) (htk : PySem.W.takesIn K (.builtin "object.__class__") = some true)
      (hm : PySem.W.mroIn K C (.type "object") = some true) : TyOf K H (.ref a) (.ref C)

theorem isinst_ok {x : V} {u t : Value} (I : Inv X pins σ H s) (rx : RelV x u) (ty : TyOf X.K H x t) (e : PySem.W.kitOne X.K t c = some b) (h : ∀ tk, Q (.bool b) { s with toks := tk }) :
    wpAny (model X.prog X.w) A (call (.builtin "isinstance") [u, c]) Q E s := by
  cases ty with
  | non => cases (show u = Value.none from rx); exact PySem.W.kia_one PySem.W.kitx_none I.kIn True.intro e (fun z => nomatch z) h
  | bl y => cases (show u = Value.bool y from rx); exact PySem.W.kia_one PySem.W.kitx_bool I.kIn True.intro e (fun z => nomatch z) h
  | int i => obtain ⟨t, q⟩ := (show ∃ t, u = Value.int i t from rx); cases q; exact PySem.W.kia_one PySem.W.kitx_int I.kIn True.intro e (fun z => nomatch z) h
  | str y => obtain ⟨t, q⟩ := (show ∃ t, u = Value.str y t from rx); cases q; exact PySem.W.kia_one PySem.W.kitx_str I.kIn True.intro e (fun z => nomatch z) h
  | flt y => obtain ⟨t, q⟩ := (show ∃ t, u = Value.float y t from rx); cases q; exact PySem.W.kia_one PySem.W.kitx_float I.kIn True.intro e (fun z => nomatch z) h
  | @lst a xs ea =>
    cases (show u = Value.ref a from rx)
    obtain ⟨_, _, n, _, h1⟩ := (show ObjOk X.prog X.w H s.heap a (.lst xs) from I.hok a _ ea)
    exact PySem.W.kia_one PySem.W.kitx_list I.kIn ⟨_, h1, rfl⟩ e (fun z => nomatch z) h
  | @frz a ob xs ea =>
    cases (show u = Value.ref a from rx)
    obtain ⟨_, _, _, n, _, h1⟩ := (show ObjOk X.prog X.w H s.heap a (.frz ob (.lst xs)) from I.hok a _ ea)
    exact PySem.W.kia_one PySem.W.kitx_list I.kIn ⟨_, h1, rfl⟩ e (fun z => nomatch z) h
  | @tup a xs ea =>
    cases (show u = Value.ref a from rx)
    obtain ⟨_, _, _, p⟩ := (show ObjOk X.prog X.w H s.heap a (.tup xs) from I.hok a _ ea)
    obtain ⟨o, h1, h2, _⟩ := p
    exact PySem.W.kia_one PySem.W.kitx_tuple I.kIn ⟨o, h1, h2⟩ e (fun z => nomatch z) h
  | @dK a kvs ea =>
    cases (show u = Value.ref a from rx)
    obtain ⟨_, _, vs, _, p⟩ := (show ObjOk X.prog X.w H s.heap a (.dK kvs) from I.hok a _ ea)
    obtain ⟨o, es, ep, h1, h2, _⟩ := p
    exact PySem.W.kia_one PySem.W.kitx_dict I.kIn ⟨o, h1, h2.1⟩ e (fun z => nomatch z) h
  | @dT a kvs ea =>
    cases (show u = Value.ref a from rx)
    obtain ⟨_, _, xs, _, o, es, ep, h1, h2, _⟩ := (show ObjOk X.prog X.w H s.heap a (.dT kvs) from I.hok a _ ea)
    exact PySem.W.kia_one PySem.W.kitx_dict I.kIn ⟨o, h1, h2.1⟩ e (fun z => nomatch z) h
  | @ins a C dx fs ea cl ha hn htk hm =>
    cases (show u = Value.ref a from rx)
    obtain ⟨mA, O, _⟩ := ins_get I.hok ea
    obtain ⟨od, J, _⟩ := O.look
    exact PySem.W.kia_one (PySem.W.kitx_own (cl.get _) cl.hd ha hn htk hm) I.kIn J e (fun z => nomatch z) h
end
end L2

namespace L2
open PySem PySem.Spec PyProof.Rows


structure Room (k : Nat) (A : Around) : Prop where
  hd : A.handled = none
  dp : A.depth + 3 * k + 5 < recursionLimit
  un : A.units + 16 * k + 200 < cLine
theorem Room.mono {j k : Nat} {A : Around} (r : Room k A) (h : j ≤ k) : Room j A := ⟨r.hd, by have := r.dp; omega, by have := r.un; omega⟩
theorem Room.deeper {k : Nat} {A : Around} (r : Room (k + 1) A) (env : Env) : Room k (A.deeper env) :=
  ⟨r.hd, by have := r.dp; show A.depth + 1 + 3 * k + 5 < _; omega, by have := r.un; show A.units + 3 + 16 * k + 200 < _; omega⟩
theorem make_depth {A : Around} {C : Addr} {us : List Value} {kw : List (Str × Value)} : (A.under (.builtin "type.__call__" ⟨.ref C :: us, kw⟩)).depth = A.depth + 1 := by
  first | rfl | simp [Around.under, Code.weight, Code.isCreation, Code.isGuard, Code.isCaller, Code.frames, Code.isFrame, guardIds]
theorem make_units {A : Around} {C : Addr} {us : List Value} {kw : List (Str × Value)} : (A.under (.builtin "type.__call__" ⟨.ref C :: us, kw⟩)).units = A.units + 1 := by
  first | rfl | simp [Around.under, Code.cUnits, Code.frames, Code.isFrame]
theorem Room.make {k : Nat} {A : Around} (r : Room (k + 1) A) (C : Addr) (us : List Value) (kw : List (Str × Value)) : Room k (A.under (.builtin "type.__call__" ⟨.ref C :: us, kw⟩)) :=
  ⟨r.hd, by have := r.dp; rw [make_depth]; omega, by have := r.un; rw [make_units]; omega⟩
theorem Room.depth {k : Nat} {A : Around} (r : Room k A) : A.depth < recursionLimit := by have := r.dp; omega
theorem Room.units {k : Nat} {A : Around} (r : Room k A) : A.units + 64 < cLine := by have := r.un; omega
def tNil : TA := fun _ H Q => Q [] H
def tCons (ta : TE) (tr : TA) : TA := fun σ H Q => ta σ H fun x H1 => tr σ H1 fun xs H2 => Q (x :: xs) H2
section
variable {X : Cx} {e : Expr} {es : List Expr} {te : TE} {t : TA} {pos : Pos}
theorem pa_nil : PA X [] tNil := fun _ _ _ _ H Q I h => Calls.spliced_nil ⟨[], H, I, .nil, h⟩
theorem pa_cons (ha : PE X e te) (hr : PA X es t) (hs : starEach (e :: es) X.env = (false, eval e X.env) :: starEach es X.env := by rfl) : PA X (e :: es) (tCons te t) := by
  intro pos pins s σ H Q I h
  rw [hs]
  show wpAny _ _ (spliced ((false, eval e X.env) :: backTo pos (starEach es X.env))) _ _ s
  refine Calls.spliced_cons (thn (ha pins s σ H _ I h) fun u s1 ⟨x, H1, I1, r1, q1⟩ => ?_)
  exact thn (hr pos pins s1 σ H1 _ I1 q1) fun us s2 ⟨xs, H2, I2, r2, q2⟩ => ⟨x :: xs, H2, I2, .cons r1 r2, q2⟩


def tTup (t : TA) : TE := fun σ H Q => t σ H fun xs H1 => xs.length ≤ sizeLine ∧ ∀ p, H1 p = none → Q (.ref p) (upd H1 p (.tup xs))
def tLst (t : TA) : TE := fun σ H Q => t σ H fun xs H1 => xs.length ≤ sizeLine ∧ ∀ p, H1 p = none → Q (.ref p) (upd H1 p (.lst xs))
theorem pe_tup {x1} (h : PA X es t) : PE X (.Tuple es x1 pos) (tTup t) := by
  intro pins s σ H Q I hq
  refine wpAny_Tuple_spliced (thn (h pos pins s σ H _ I hq) fun us s1 ⟨xs, H1, I1, r, z, q⟩ => ⟨by rw [← r.length]; exact z, ?_⟩)
  have hf : H1 s1.heap.objs.size = none := I1.hok.fresh (Nat.le_refl _)
  refine ⟨.ref s1.heap.objs.size, upd H1 s1.heap.objs.size (.tup xs), I1.laid (t' := s1.toks) (fun b u e => Heap.get?_push_of_some _ e) (Nat.le_refl _) ?_, rfl, q _ hf⟩
  exact ⟨z, us, r, ⟨_, Heap.get?_push_size _ rfl, rfl, _, rfl⟩⟩
theorem pe_lst (h : PA X es t) : PE X (.List es pos) (tLst t) := by
  intro pins s σ H Q I hq
  refine wpAny_List_spliced (thn (h pos pins s σ H _ I hq) fun us s1 ⟨xs, H1, I1, r, z, q⟩ => ⟨by rw [← r.length]; exact z, ?_⟩)
  have hf : H1 s1.heap.objs.size = none := I1.hok.fresh (Nat.le_refl _)
  refine ⟨.ref s1.heap.objs.size, upd H1 s1.heap.objs.size (.lst xs), I1.laid (t' := s1.toks) (fun b u e => Heap.get?_push_of_some _ e) (Nat.le_refl _) ?_, rfl, q _ hf⟩
  exact ⟨z, us, 0, r, Heap.get?_push_size _ rfl⟩
end



abbrev Sp := List V → Hp → VK → XK → Prop

abbrev CXT := List Env → Hp → Shared → XK → Value → Shared → Prop


structure Env0 (P : Program) (w : World) (K : PySem.W.Frag) (mg : Str → Option Value) (base : Heap) (A : Around) (outer : List Env) (s : Shared) (H : Hp) : Prop where
  frames : A.frames = some outer
  mod : Mod K mg base
  bs : ∀ b o, base.get? b = some o → s.heap.get? b = some o ∧ H b = none
  bsz : base.objs.size ≤ s.heap.objs.size
  funs : s.heap.FunFrames base outer
  frf : ∀ b ∈ frs outer, H b = none
  hok : HOk P w H s.heap
  bare : AllBare s.gens

def CE (outer : List Env) (P : Program) (w : World) (H : Hp) (s : Shared) (Q : VK) (u : Value) (s' : Shared) : Prop :=
  ∃ v H', s'.os = s.os ∧ AllBare s'.gens ∧ Un (frs outer) [] H H' s.heap s'.heap ∧ HOk P w H' s'.heap ∧ RelV v u ∧ Q v H'
def CR (CX : CXT) (outer : List Env) (P : Program) (w : World) (H : Hp) (s : Shared) (Q : VK) (E : XK) (r : Result) (s' : Shared) : Prop :=
  match r with
  | .ok (.ret u) => CE outer P w H s Q u s'
  | .ok _ => False
  | .error e => CX outer H s E e s'
structure FnOk (P : Program) (w : World) (K : PySem.W.Frag) (mg : Str → Option Value) (base : Heap) (CX : CXT) (k : Nat) (f : Addr) (fd : FuncData) (ps : List Str) (sp : Sp) : Prop where
  len : ∀ vs H Q E, sp vs H Q E → vs.length = ps.length
  run : ∀ (A : Around) (outer : List Env) (s : Shared) (H : Hp) (args : Args) (us : List Value) (vs : List V) (Q : VK) (E : XK), Room k A → Env0 P w K mg base A outer s H → BindsTo s fd args (ps.zip us) → Vals vs us → sp vs H Q E →
    codeAny (model P w) A (.call (.ref f) args) (CR CX outer P w H s Q E) s
theorem FnOk.mono {P : Program} {w : World} {K : PySem.W.Frag} {mg : Str → Option Value} {base : Heap} {CX : CXT} {j k : Nat} {f : Addr} {fd : FuncData} {ps : List Str} {sp : Sp} (F : FnOk P w K mg base CX j f fd ps sp) (h : j ≤ k) :
    FnOk P w K mg base CX k f fd ps sp := ⟨F.len, fun A outer s H args us vs Q E hr => F.run A outer s H args us vs Q E (hr.mono h)⟩

theorem Env0.make {P : Program} {w : World} {K : PySem.W.Frag} {mg : Str → Option Value} {base : Heap} {A : Around} {outer : List Env} {s : Shared} {H : Hp} (e : Env0 P w K mg base A outer s H) (C : Addr) (us : List Value) (kw : List (Str × Value)) :
    Env0 P w K mg base (A.under (.builtin "type.__call__" ⟨.ref C :: us, kw⟩)) outer s H := ⟨by first | exact e.frames | (simpa [Around.under, Code.envs, Code.isFrame, pushEnvs] using e.frames), e.mod, e.bs, e.bsz, e.funs, e.frf, e.hok, e.bare⟩
section
variable {X : Cx} {pins : List (Addr × Obj)} {σ : St} {H : Hp} {s s' : Shared}

theorem Inv.env0 (I : Inv X pins σ H s) : Env0 X.prog X.w X.K X.mg X.base X.A X.stack s H :=
  ⟨I.ok.frames, I.ok.mod, I.bs, Nat.le_trans I.ok.bsz I.sz, I.stack, I.stkFree, I.hok, I.bare⟩

theorem Inv.after {Q : VK} {u : Value} (I : Inv X pins σ H s) (h : CE X.stack X.prog X.w H s Q u s') : EP X pins σ Q u s' := by
  obtain ⟨v, H', os, bare, un, hok, r, q⟩ := h
  obtain ⟨hh, g, d, t, os'⟩ := s'
  obtain rfl : os' = s.os := os
  exact ⟨v, H', I.call (h' := hh) (g' := g) (d' := d) (t' := t) (ch := []) un hok bare (fun b z => absurd z (by simp)), r, q⟩
end



def tCall (sp : Sp) (dvs : List V) (E : XK) (t : TA) : TE := fun σ H Q => t σ H fun vs H1 => sp (vs ++ dvs) H1 Q E

def tMake (C : Addr) (sp : Sp) (dvs : List V) (E : XK) (t : TA) : TE := fun σ H Q => t σ H fun vs H1 => ∀ x dx, H1 x = none → H1 dx = none → dx ≠ x →
  sp (.ref x :: (vs ++ dvs)) (upd (upd H1 dx (.own x)) x (.ins C dx [])) (fun v H2 => v = .non ∧ Q (.ref x) H2) E


def Binds (K : PySem.W.Frag) (fd : FuncData) (ps : List Str) (ds : List Value) : Prop :=
  ∀ (s : Shared) (us : List Value), K.In s.heap → (us ++ ds).length = ps.length → BindsTo s fd ⟨us, []⟩ (ps.zip (us ++ ds))

theorem Binds.all {K : PySem.W.Frag} {fd : FuncData} {ps : List Str} (h : ∀ us : List Value, us.length = ps.length → bindArgs fd ⟨us, []⟩ = pure (ps.zip us)) : Binds K fd ps [] := fun s us _ hl => by
  rw [List.append_nil] at hl ⊢
  exact .of_eq (h us hl)


def Passes (CX : CXT) (X : Cx) (E : XK) : Prop := ∀ (pins : List (Addr × Obj)) (σ : St) (H : Hp) (s : Shared) (e : Value) (s' : Shared), Inv X pins σ H s → CX X.stack H s E e s' → X.xe e s'

section
variable {X : Cx} {CX : CXT} {k : Nat} {f C : Addr} {fd : FuncData} {ps : List Str} {sp : Sp} {dvs : List V} {ds : List Value} {E : XK} {x m : Str} {p pos apos : Pos} {e o : Expr} {es : List Expr} {ta : TE} {t : TA}


theorem run_fn {pins : List (Addr × Obj)} {σ : St} {H : Hp} {s : Shared} {Q : VK} {us : List Value} {vs : List V} (F : FnOk X.prog X.w X.K X.mg X.base CX k f fd ps sp) (hr : Room k X.A) (hb : Binds X.K fd ps ds) (hd : Vals dvs ds) (hx : Passes CX X E)
    (I : Inv X pins σ H s) (r : Vals vs us) (h : sp (vs ++ dvs) H Q E) : wpAny (model X.prog X.w) X.A (call (.ref f) us) (EP X pins σ Q) X.xe s := by
  have r2 : Vals (vs ++ dvs) (us ++ ds) := r.append hd
  have hl : (us ++ ds).length = ps.length := by rw [← r2.length]; exact F.len _ _ _ _ h
  refine wpAny_call (codeAny_mono (F.run X.A X.stack s H ⟨us, []⟩ (us ++ ds) (vs ++ dvs) Q E hr I.env0 (hb s us I.kIn hl) r2 h) fun r s' hq => ?_)
  cases r with
  | error e => exact hx pins σ H s e s' I hq
  | ok fl =>
    cases fl with
    | ret u => exact I.after hq
    | next => exact False.elim hq
    | brk => exact False.elim hq
    | cont => exact False.elim hq

theorem pe_call (F : FnOk X.prog X.w X.K X.mg X.base CX k f fd ps sp) (hr : Room k X.A) (hg : Gl X x) (hm : X.mg x = some (.ref f)) (hk : PySem.W.keepIn X.K (.ref f) = true) (hb : Binds X.K fd ps ds) (hd : Vals dvs ds) (hx : Passes CX X E)
    (ha : PA X (e :: es) t) (hdb : (x == ("__debug__" : Str)) = false := by decide) (he : starEach (e :: es) X.env = (false, eval e X.env) :: starEach es X.env := by rfl) (hpl : (backTo pos (starEach es X.env)).any (·.1) = false := by rfl) :
    PE X (.Call (.Name x p) (e :: es) [] pos) (tCall sp dvs E t) := by
  intro pins s σ H Q I h
  refine wpAny_Call_Name_kw (ld_glob I hg hm ?_ hdb)
  refine PySem.W.callWith_K (h₀ := X.base) I.ok.mod.kin hk (thn (ha pos pins s σ H _ I h) fun us s1 ⟨vs, H1, I1, r, q⟩ => ⟨I1.kIn, ?_⟩) he hpl
  exact run_fn F hr hb hd hx I1 r q
structure Mk (K : PySem.W.Frag) (C f : Addr) : Prop where
  makes : PySem.W.makesIn K C = true
  init : PySem.W.findIn K (.ref C) "__init__" = some (some (.ref f))
  fn : PySem.W.isFn K (.ref f) = true
  kp : PySem.W.keepIn K (.ref C) = true

theorem run_make {pins : List (Addr × Obj)} {σ : St} {H : Hp} {s : Shared} {Q : VK} {us : List Value} {vs : List V} (M : Mk X.K C f) (F : FnOk X.prog X.w X.K X.mg X.base CX k f fd ps sp) (hr : Room (k + 1) X.A) (hb : Binds X.K fd ps ds) (hd : Vals dvs ds)
    (hx : Passes CX X E) (I : Inv X pins σ H s) (r : Vals vs us)
    (h : ∀ x dx, H x = none → H dx = none → dx ≠ x → sp (.ref x :: (vs ++ dvs)) (upd (upd H dx (.own x)) x (.ins C dx [])) (fun v H2 => v = .non ∧ Q (.ref x) H2) E) :
    wpAny (model X.prog X.w) X.A (call (.ref C) us) (EP X pins σ Q) X.xe s := by
  have hq := h (s.heap.objs.size + 1) s.heap.objs.size (I.hok.fresh (Nat.le_succ _)) (I.hok.fresh (Nat.le_refl _)) (Nat.ne_of_lt (Nat.lt_succ_self _))
  have I2 := Inv.made (C := C) I
  have r2 : Vals (V.ref (s.heap.objs.size + 1) :: (vs ++ dvs)) (Value.ref (s.heap.objs.size + 1) :: (us ++ ds)) := .cons rfl (r.append hd)
  have hl : (Value.ref (s.heap.objs.size + 1) :: us ++ ds).length = ps.length := by
    have e := r2.length
    rw [F.len _ _ _ _ hq] at e
    exact e.symm
  refine wpAny_call (make_map (f := f) I.kIn M.makes M.init (beq_iff_eq.mp M.fn) (codeAny_mono (F.run _ X.stack _ _ ⟨Value.ref (s.heap.objs.size + 1) :: us, []⟩ (Value.ref (s.heap.objs.size + 1) :: (us ++ ds)) _ _ E (hr.make C us [])
    (I2.env0.make C us []) (hb _ (Value.ref (s.heap.objs.size + 1) :: us) I2.kIn hl) r2 hq) fun r s' hq' => ?_))
  cases r with
  | error e => exact hx pins σ _ _ e s' I2 hq'
  | ok fl =>
    cases fl with
    | ret u =>
      obtain ⟨v, H', I3, rv, ev, q3⟩ := I2.after hq'
      subst ev
      exact ⟨rv, ⟨V.ref (s.heap.objs.size + 1), H', I3, rfl, q3⟩⟩
    | next => exact False.elim hq'
    | brk => exact False.elim hq'
    | cont => exact False.elim hq'
theorem pe_make (M : Mk X.K C f) (F : FnOk X.prog X.w X.K X.mg X.base CX k f fd ps sp) (hr : Room (k + 1) X.A) (hg : Gl X x) (hm : X.mg x = some (.ref C)) (hb : Binds X.K fd ps ds) (hd : Vals dvs ds) (hx : Passes CX X E)
    (ha : PA X (e :: es) t) (hdb : (x == ("__debug__" : Str)) = false := by decide) (he : starEach (e :: es) X.env = (false, eval e X.env) :: starEach es X.env := by rfl) (hpl : (backTo pos (starEach es X.env)).any (·.1) = false := by rfl) :
    PE X (.Call (.Name x p) (e :: es) [] pos) (tMake C sp dvs E t) := by
  intro pins s σ H Q I h
  refine wpAny_Call_Name_kw (ld_glob I hg hm ?_ hdb)
  refine PySem.W.callWith_K (h₀ := X.base) I.ok.mod.kin M.kp (thn (ha pos pins s σ H _ I h) fun us s1 ⟨vs, H1, I1, r, q⟩ => ⟨I1.kIn, ?_⟩) he hpl
  exact run_make M F hr hb hd hx I1 r q
end



section
variable {X : Cx} {CX : CXT} {k : Nat} {f C : Addr} {fd : FuncData} {ps ks : List Str} {sp : Sp} {E : XK} {x m : Str} {p pos apos kpos : Pos} {e o : Expr} {es : List Expr} {kws : List Keyword} {te ta : TE} {t tk : TA} {nm : Option Str}
variable {g : List Value → List Value → List Value} {gV : List V → List V → List V}
end



structure FnScope (N P : List Str) (sc : Scope) : Prop where
  kind : sc.kind = .function
  co : sc.isCoroutine = false
  gen : sc.isGenerator = false
  nd : N.Nodup
  pre : N.take P.length = P
  par : ∀ x ∈ P, sc.names.lookup x = some .local ∨ sc.names.lookup x = some .cell
  nofree : ∀ y ∈ sc.names, y.2 ≠ .free

theorem bindL_out {kindOf : Str → Option NameKind} {x : Str} : ∀ {binds : List (Str × Value)} {m : Str → Option Value}, (∀ v, (x, v) ∉ binds) → bindL kindOf binds m x = m x
  | [], _, _ => rfl
  | (n, v) :: r, m, h => by
    unfold bindL
    rw [bindL_out fun w hw => h w (List.mem_cons_of_mem _ hw)]
    split
    · have : x ≠ n := by rintro rfl; exact h v List.mem_cons_self
      simp [this]
    · rfl
theorem bindC_out {kindOf : Str → Option NameKind} {x : Str} : ∀ {binds : List (Str × Value)} {m : Str → Option Value}, (∀ v, (x, v) ∉ binds) → bindC kindOf binds m x = m x
  | [], _, _ => rfl
  | (n, v) :: r, m, h => by
    unfold bindC
    rw [bindC_out fun w hw => h w (List.mem_cons_of_mem _ hw)]
    split
    · rfl
    · have : x ≠ n := by rintro rfl; exact h v List.mem_cons_self
      simp [this]
theorem bindL_get {kindOf : Str → Option NameKind} {x : Str} {v : Value} : ∀ {P : List Str} {vs : List Value} {i : Nat} {m : Str → Option Value}, P.Nodup → P[i]? = some x → vs[i]? = some v → kindOf x = some .local →
    bindL kindOf (P.zip vs) m x = some v
  | [], _, _, _, _, h, _, _ => by simp at h
  | _ :: _, [], _, _, _, _, h, _ => by simp at h
  | p :: P, w :: vs, 0, m, nd, h1, h2, hk => by
    simp at h1 h2; subst h1; subst h2
    show bindL kindOf ((p, w) :: P.zip vs) m p = _
    unfold bindL
    rw [bindL_out fun v hv => (List.nodup_cons.mp nd).1 (List.of_mem_zip hv).1, if_pos hk]
    simp
  | p :: P, w :: vs, i + 1, m, nd, h1, h2, hk => by
    show bindL kindOf ((p, w) :: P.zip vs) m x = _
    unfold bindL
    exact bindL_get (i := i) (List.nodup_cons.mp nd).2 (by simpa using h1) (by simpa using h2) hk
theorem bindC_get {kindOf : Str → Option NameKind} {x : Str} {v : Value} : ∀ {P : List Str} {vs : List Value} {i : Nat} {m : Str → Option Value}, P.Nodup → P[i]? = some x → vs[i]? = some v → kindOf x ≠ some .local →
    bindC kindOf (P.zip vs) m x = some v
  | [], _, _, _, _, h, _, _ => by simp at h
  | _ :: _, [], _, _, _, _, h, _ => by simp at h
  | p :: P, w :: vs, 0, m, nd, h1, h2, hk => by
    simp at h1 h2; subst h1; subst h2
    show bindC kindOf ((p, w) :: P.zip vs) m p = _
    unfold bindC
    rw [bindC_out fun v hv => (List.nodup_cons.mp nd).1 (List.of_mem_zip hv).1, if_neg hk]
    simp
  | p :: P, w :: vs, i + 1, m, nd, h1, h2, hk => by
    show bindC kindOf ((p, w) :: P.zip vs) m x = _
    unfold bindC
    exact bindC_get (i := i) (List.nodup_cons.mp nd).2 (by simpa using h1) (by simpa using h2) hk


def start (N : List Str) (vs : List V) : St := vs.map some ++ List.replicate (N.length - vs.length) none


def cxOf (CX : CXT) (P : Program) (w : World) (K : PySem.W.Frag) (mg : Str → Option Value) (base : Heap) (N : List Str) (qual : Str) (scope : Scope) (f : Addr) (cd : Value) (A : Around) (outer : List Env) (s : Shared) (H : Hp) (E : XK) : Cx where
  prog := P
  w := w
  K := K
  mg := mg
  base := base
  A := A.deeper (envOfC qual scope s.heap.objs.size f cd)
  N := N
  s₀ := s
  H₀ := H
  env := envOfC qual scope s.heap.objs.size f cd
  outer := outer
  stack := envOfC qual scope s.heap.objs.size f cd :: outer
  ex := []
  calm := true
  fn := fun _ => true
  pn := []
  xe := fun e s' => wpAny (model P w) (A.deeper (envOfC qual scope s.heap.objs.size f cd)) (leaving (envOfC qual scope s.heap.objs.size f cd) e) (fun _ s'' => CX outer H s E e s'') (fun e' s'' => CX outer H s E e' s'') s'

theorem cell_has {sc : Scope} {n : Nat} {x : Str} (h : sc.names.lookup x = some .cell) : ∃ c, (cellsFrom n sc.names []).lookup x = some c := by
  have q := PySem.W.cellsFrom_some sc.names n [] (.inl h)
  exact Option.isSome_iff_exists.mp q

theorem inv_start {CX : CXT} {P : Program} {w : World} {K : PySem.W.Frag} {mg : Str → Option Value} {base : Heap} {N ps : List Str} {qual : Str} {scope : Scope} {f : Addr} {cd : Value} {A : Around} {outer : List Env} {s s1 : Shared} {H : Hp} {E : XK} {us : List Value} {vs : List V}
    (S : FnScope N ps scope) (hd : A.handled = none) (e0 : Env0 P w K mg base A outer s H) (hl : vs.length = ps.length) (r : Vals vs us)
    (x : InCallC s s.heap.objs.size (bindL (envOfC qual scope s.heap.objs.size f cd).kindOf (ps.zip us) fun _ => none) (cellsFrom (s.heap.objs.size + 1) scope.names []) (bindC (envOfC qual scope s.heap.objs.size f cd).kindOf (ps.zip us) fun _ => none) s1) :
    Inv (cxOf CX P w K mg base N qual scope f cd A outer s H E) [] (start N vs) H s1 := by
  have hpl : ps.length ≤ N.length := by have := congrArg List.length S.pre; rw [List.length_take] at this; omega
  obtain ⟨h1, tk, rfl, hk⟩ := x.done
  have noA : ∀ b : Addr, b ∉ (cxOf CX P w K mg base N qual scope f cd A outer s H E).ex := fun b z => absurd (show b ∈ ([] : List Addr) from z) (by simp)
  refine ⟨⟨e0.mod, S.kind, rfl, rfl, Nat.le_refl _, fun y z c h1 h2 => ?_, fun y hy => ?_, fun y c _ h => ?_, fun _ => hd, Around.frames_deeper e0.frames, .inr ⟨rfl, rfl⟩, fun b z => absurd z (noA b), e0.bs, e0.bsz, fun b _ _ => noA b, fun b z => absurd z (noA b), e0.funs, e0.frf⟩,
    rfl, e0.bare, Un.kept hk, ⟨_, x.toInCall.ns, fun i y v h1 h2 h3 => ?_⟩, fun y c h => ⟨_, x.cell y c h⟩, e0.hok.fresh (Nat.le_refl _), fun y c h => ?_, fun p hp => absurd (show p ∈ ([] : List (Addr × Obj)) from hp) (by simp), e0.hok.kept hk, ?_⟩
  · exact name_of_addr x.apart (PySem.mem_of_lookup h1) (PySem.mem_of_lookup h2)
  · have hy : scope.names.lookup y = some .cell ∨ scope.names.lookup y = some .free := hy
    rcases hy with hy | hy
    · exact cell_has hy
    · exact absurd rfl (S.nofree _ (PySem.mem_of_lookup hy))
  · exact Nat.le_of_lt (x.above y c (PySem.mem_of_lookup h))
  · have hi : i < vs.length := by
      unfold start at h2
      by_cases hi : i < vs.length
      · exact hi
      · rw [List.getElem?_append_right (by simpa using hi)] at h2
        rw [List.getElem?_replicate] at h2
        split at h2 <;> cases h2
    have ha : vs[i]? = some v := by
      unfold start at h2
      rw [List.getElem?_append_left (by simpa using hi), List.getElem?_map] at h2
      cases e : vs[i]? with
      | none => rw [e] at h2; cases h2
      | some a => rw [e] at h2; cases h2; rfl
    obtain ⟨u, hu, rv⟩ := r.get ha
    have hp : ps[i]? = some y := by
      rw [← S.pre, List.getElem?_take_of_lt (by omega)]; exact h1
    have ndP : ps.Nodup := by rw [← S.pre]; exact S.nd.sublist (List.take_sublist _ _)
    refine ⟨u, rv, ?_⟩
    rcases S.par y (List.mem_of_getElem? hp) with k | k
    · exact .inl ⟨k, bindL_get ndP hp hu k⟩
    · obtain ⟨c, e⟩ := cell_has (n := s.heap.objs.size + 1) k
      refine .inr ⟨.inl k, c, e, ?_⟩
      have q := x.cell y c e
      rw [bindC_get ndP hp hu (by show scope.names.lookup y ≠ _; rw [k]; decide)] at q
      exact q
  · exact e0.hok.fresh (Nat.le_of_lt (x.above y c (PySem.mem_of_lookup h)))
  · unfold start
    show _ = N.length
    rw [List.length_append, List.length_map, List.length_replicate]
    omega


theorem fn_of {CX : CXT} {P : Program} {w : World} {K : PySem.W.Frag} {mg : Str → Option Value} {base : Heap} {k : Nat} {f : Addr} {name qual : Str} {params : Arguments} {body : List Stmt} {scope : Scope} {dV kV doc pm cdv ct oc : Value} {an od : Option Addr}
    {osl : Array (Option Value)} {N ps : List Str} {sp : Sp} (lk : K.lookup f = some ⟨oc, od, .func (PySem.W.fnOf name qual params body scope dV kV doc pm an cdv ct), osl⟩) (hcd : PySem.W.codeIn K cdv qual = true) (S : FnScope N ps scope)
    (len : ∀ vs H Q E, sp vs H Q E → vs.length = ps.length)
    (hbody : ∀ (A : Around) (outer : List Env) (s : Shared) (H : Hp) (vs : List V) (Q : VK) (E : XK), Room k (A.deeper (envOfC qual scope s.heap.objs.size f cdv)) → sp vs H Q E →
      ∃ t, PSs (cxOf CX P w K mg base N qual scope f cdv A outer s H E) body t ∧ t { nx := fun _ H' => Q .non H', rt := Q } (start N vs) H) :
    FnOk P w K mg base CX (k + 1) f (PySem.W.fnOf name qual params body scope dV kV doc pm an cdv ct) ps sp := by
  refine ⟨len, fun A outer s H args us vs Q E hr e0 hb r hsp => ?_⟩
  have hl := len _ _ _ _ hsp
  have KX : K.In s.heap := e0.mod.kin.keeps fun b o e => (e0.bs b o e).1
  have lim : s.heap.NoLimit := e0.mod.nolimit.keeps fun b o e => (e0.bs b o e).1
  have hkind : ∀ y ∈ ps.zip us, scope.names.lookup y.1 = some .local ∨ (scope.names.lookup y.1 = some .cell ∧ ((cellsFrom (s.heap.objs.size + 1) scope.names []).lookup y.1).isSome = true) := fun ⟨n, v⟩ hy => by
    rcases S.par n (List.of_mem_zip hy).1 with q | q
    · exact .inl q
    · exact .inr ⟨q, PySem.W.cellsFrom_some _ _ _ (.inl q)⟩
  refine codeAny_call_function hr.depth (KX _ _ lk) rfl S.co S.gen rfl (PySem.W.codeRec_of KX hcd) (hb _ _ _ _ ?_)
  refine wpAny_newFunctionEnv_cells S.kind hkind fun env he s1 x => ?_
  subst he
  refine ⟨lim.keeps x.toInCall.keep, codeAny_func ?_⟩
  obtain ⟨t, ht, hq⟩ := hbody A outer s H vs Q E (hr.deeper _) hsp
  have I : Inv (cxOf CX P w K mg base N qual scope f cdv A outer s H E) [] (start N vs) H s1 := inv_start S hr.hd e0 hl r x
  refine wpAny_mono (ht [] s1 (start N vs) H _ I hq) (fun fl s' hs => ?_) fun e s' hs => hs
  have fin : ∀ {σ' : St} {H' : Hp} {v : V} {u : Value}, Inv (cxOf CX P w K mg base N qual scope f cdv A outer s H E) [] σ' H' s' → RelV v u → Q v H' → CE outer P w H s Q u s' :=
    fun {σ' H' v u} J rv q => ⟨v, H', J.os, J.bare, J.base, J.hok, rv, q⟩
  cases fl with
  | ret u =>
    obtain ⟨v, σ', H', J, rv, q⟩ := hs
    exact fin J rv q
  | next =>
    obtain ⟨σ', H', J, q⟩ := hs
    exact fin (v := V.non) (u := Value.none) J rfl q
  | brk =>
    obtain ⟨_, _, _, q⟩ := hs
    exact False.elim q
  | cont =>
    obtain ⟨_, _, _, q⟩ := hs
    exact False.elim q
end L2

namespace L2
open PySem PySem.Spec PyProof.Rows
section
variable {X : Cx} {x : Str} {p pos : Pos} {e : Expr} {es : List Expr} {t : TA} {id T : String} {r : List V → Hp → VK → Prop}

def tCB (r : List V → Hp → VK → Prop) (t : TA) : TE := fun σ H Q => t σ H fun vs H1 => r vs H1 Q

theorem pe_callB (hc : CallR X (.builtin id) r) (hg : Gl X x) (hm : X.mg x = none) (hv : bootBuiltins x = some (.builtin id)) (ha : PA X (e :: es) t) (hn : x ≠ "__name__" := by decide) (hdb : (x == ("__debug__" : Str)) = false := by decide)
    (he : starEach (e :: es) X.env = (false, eval e X.env) :: starEach es X.env := by rfl) (hpl : (backTo pos (starEach es X.env)).any (·.1) = false := by rfl) : PE X (.Call (.Name x p) (e :: es) [] pos) (tCB r t) := by
  intro pins s σ H Q I h
  refine wpAny_Call_Name_kw (ld_blt I hg hm hv ?_ hn hdb)
  exact PyProof.Rows.callWith_builtin1 (thn (ha pos pins s σ H _ I h) fun us s1 ⟨vs, H1, I1, r1, q1⟩ => hc pins s1 σ H1 vs us Q I1 r1 q1) he hpl

theorem pe_callTy (hc : CallR X (.type T) r) (hg : Gl X x) (hm : X.mg x = none) (hv : bootBuiltins x = some (.type T)) (ha : PA X (e :: es) t) (hn : x ≠ "__name__" := by decide) (hdb : (x == ("__debug__" : Str)) = false := by decide)
    (he : starEach (e :: es) X.env = (false, eval e X.env) :: starEach es X.env := by rfl) (hpl : (backTo pos (starEach es X.env)).any (·.1) = false := by rfl) : PE X (.Call (.Name x p) (e :: es) [] pos) (tCB r t) := by
  intro pins s σ H Q I h
  refine wpAny_Call_Name_kw (ld_blt I hg hm hv ?_ hn hdb)
  exact PyProof.Rows.callWith_type1 (thn (ha pos pins s σ H _ I h) fun us s1 ⟨vs, H1, I1, r1, q1⟩ => hc pins s1 σ H1 vs us Q I1 r1 q1) he hpl

end
end L2

namespace HT
open PySem PyProof.Rows


section
open PySem.SeqAt
open PySem.AutoSeq1 (wpAny_loadPart')
open PySem.MeetsSeq PySem.MeetsSeq2 PySem.MeetsSeq3

end

section
variable {prog : Program} {w : World} {A : Around} {E : Value → Shared → Prop} {s : Shared}

theorem cat_tup {t b : Addr} {vs ws : List Value} {Q : Value → Shared → Prop} (ht : IsTup s.heap t vs.toArray) (hb : IsTup s.heap b ws.toArray) (hv : vs ≠ [])
    (h1 : ws = [] → Q (.ref t) s) (h2 : ws ≠ [] → Q (.ref s.heap.objs.size) { s with heap := s.heap.push { cls := .type "tuple", data := .seq (vs ++ ws).toArray } })
    (hsz : vs.length + ws.length ≤ sizeLine) : wpAny (model prog w) A (binaryOp .Add (.ref t) (.ref b)) Q E s := by
  obtain ⟨⟨cls, dd, data, sl⟩, ho, hc, n, hd⟩ := id ht
  obtain ⟨⟨cls2, dd2, data2, sl2⟩, ho2, hc2, n2, hd2⟩ := id hb
  simp only at hc hd hc2 hd2
  subst hc hd hc2 hd2
  have e : vs.toArray ++ ws.toArray = (vs ++ ws).toArray := by simp
  by_cases hw : ws = []
  · exact concat_meets ⟨_, ho, rfl⟩ ⟨_, ho2, rfl⟩ noFill_tuple_add seq_tuple_add PySem.F.slot_tuple_add PySem.F.entry_tuple_add (PySem.F.args_tuple_add_2 _ _)
      (tuple_addW1 t b vs.toArray ws.toArray n n2 dd dd2 sl sl2 (by simpa using hv) (by simp [hw])) ⟨ho, ho2, h1 hw⟩
  · refine concat_meets ⟨_, ho, rfl⟩ ⟨_, ho2, rfl⟩ noFill_tuple_add seq_tuple_add PySem.F.slot_tuple_add PySem.F.entry_tuple_add (PySem.F.args_tuple_add_2 _ _)
      (tuple_addW2 t b vs.toArray ws.toArray n n2 dd dd2 sl sl2 (by simpa using hv) (by simpa using hw) (by rw [List.size_toArray, List.size_toArray]; exact hsz)) ⟨ho, ho2, ?_⟩
    rw [e]
    exact h2 hw



def sIx (n d : Nat) : Option Int → Nat
  | none => d
  | some v => if v < 0 then (v + (n : Int)).toNat else min v.toNat n
theorem sIx_le (n d : Nat) (hd : d ≤ n) (o : Option Int) : sIx n d o ≤ n := by
  cases o with
  | none => exact hd
  | some v =>
    show (if v < 0 then (v + (n : Int)).toNat else min v.toNat n) ≤ n
    by_cases hv : v < 0
    · rw [if_pos hv]; omega
    · rw [if_neg hv]; exact Nat.min_le_right _ _
theorem clip_eq (v : Int) (n d : Nat) : (if v < 0 then max (v + (n : Int)) 0 else min v (n : Int)) = ((sIx n d (some v) : Nat) : Int) := by
  show (if v < 0 then max (v + (n : Int)) 0 else min v (n : Int)) = (((if v < 0 then (v + (n : Int)).toNat else min v.toNat n) : Nat) : Int)
  by_cases hv : v < 0
  · simp only [if_pos hv]; omega
  · simp only [if_neg hv]; omega
theorem adjust_gen (lo hi : Option Int) (n : Nat) : Builtin.Slice.sliceAdjust lo hi 1 (n : Int) = (((sIx n 0 lo : Nat) : Int), ((sIx n n hi : Nat) : Int)) := by
  have h1 : ¬ ((1 : Int) < 0) := by omega
  unfold Builtin.Slice.sliceAdjust
  simp only [h1, if_false]
  refine Prod.ext ?_ ?_
  · cases lo with
    | none => rfl
    | some v => exact clip_eq v n 0
  · cases hi with
    | none => rfl
    | some v => exact clip_eq v n n
theorem places_gen (i j : Nat) : Builtin.Slice.slicePlaces (i : Int) (j : Int) 1 = j - i := by
  unfold Builtin.Slice.slicePlaces
  have h1 : (1 : Int) > 0 := by omega
  simp only [h1, if_true, Int.ediv_one]
  split <;> omega
theorem slicePart_ {v : Value} {o : Option Int} {Q : Option Int → Shared → Prop} (p : IsPart v o) (h : Q o s) : wpAny (model prog w) A (Builtin.Slice.slicePartIndex v) Q E s := by
  cases p with
  | none => exact slicePart_none h
  | int i t => exact slicePart_int h
theorem sliceApplied_gen {sl : Addr} {vl vu : Value} {lo hi : Option Int} {n : Nat} {Q : Int × Int × Nat → Shared → Prop} (hs : s.heap.IsSliceOf sl vl vu .none) (pl : IsPart vl lo) (pu : IsPart vu hi)
    (h : Q (((sIx n 0 lo : Nat) : Int), 1, sIx n n hi - sIx n 0 lo) s) : wpAny (model prog w) A (Builtin.Slice.sliceApplied (.ref sl) (pure (n : Int))) Q E s := by
  obtain ⟨os, hos, hcs, hds⟩ := id hs
  unfold Builtin.Slice.sliceApplied Builtin.Slice.sliceFields
  refine wpAny_bind (wpAny_bind (wpAny_field hos hds (x := vl) rfl (wpAny_bind (wpAny_field hos hds (x := vu) rfl (wpAny_bind (wpAny_field hos hds (x := .none) rfl (wpAny_pure ?_)))))))
  refine wpAny_bind (slicePart_none ?_)
  show wpAny _ _ (if ((1 : Int) == 0) = true then _ else _) _ _ s
  rw [if_neg (by decide)]
  refine wpAny_bind (slicePart_ pl (wpAny_bind (slicePart_ pu (wpAny_bind (wpAny_pure ?_)))))
  show wpAny _ _ (match Builtin.Slice.sliceAdjust lo hi 1 (n : Int) with | (lo, hi) => pure (lo, (1 : Int), Builtin.Slice.slicePlaces lo hi 1)) _ _ s
  rw [adjust_gen lo hi n]
  show wpAny _ _ (pure (((sIx n 0 lo : Nat) : Int), (1 : Int), Builtin.Slice.slicePlaces ((sIx n 0 lo : Nat) : Int) ((sIx n n hi : Nat) : Int) 1)) _ _ s
  rw [places_gen]
  exact wpAny_pure h
theorem pick_gen (xs : Array Value) (i k : Nat) : ((List.range k).filterMap fun (m : Nat) => xs[((i : Int) + (m : Int) * 1).toNat]?).toArray = ((xs.toList.drop i).take k).toArray := by
  have e : (fun (m : Nat) => xs[((i : Int) + (m : Int) * 1).toNat]?) = fun m => xs[i + m]? := by
    funext m
    have : ((i : Int) + (m : Int) * 1).toNat = i + m := by omega
    rw [this]
  rw [e]
  have := pick_run xs i k
  rw [List.filterMap_map] at this
  have e2 : ((fun x => xs[x]?) ∘ fun x => i + x) = fun m => xs[i + m]? := rfl
  rw [e2] at this
  rw [this]

theorem getItem_tuple_cut {t sl : Addr} {items : Array Value} {vl vu : Value} {lo hi : Option Int} {Q : Value → Shared → Prop} (ht : IsTup s.heap t items) (hs : s.heap.IsSliceOf sl vl vu .none) (pl : IsPart vl lo) (pu : IsPart vu hi)
    (hw : ¬ (sIx items.size 0 lo = 0 ∧ sIx items.size items.size hi = items.size))
    (h : Q (.ref s.heap.objs.size) { s with heap := s.heap.push { cls := .type "tuple", data := .seq ((items.toList.drop (sIx items.size 0 lo)).take (sIx items.size items.size hi - sIx items.size 0 lo)).toArray } })
    (hsz : items.size ≤ sizeLine) : wpAny (model prog w) A (getItem (.ref t) (.ref sl)) Q E s := by
  have htake : sizeOk (.seq ((items.toList.drop (sIx items.size 0 lo)).take (sIx items.size items.size hi - sIx items.size 0 lo)).toArray) := by
    show ((items.toList.drop (sIx items.size 0 lo)).take (sIx items.size items.size hi - sIx items.size 0 lo)).toArray.size ≤ sizeLine
    rw [List.size_toArray, List.length_take, List.length_drop, Array.length_toList]
    omega
  have hj : sIx items.size items.size hi ≤ items.size := sIx_le _ _ (Nat.le_refl _) hi
  obtain ⟨os, hos, hcs, hds⟩ := id hs
  have hTs : s.TypeIs (.ref sl) "slice" := ⟨os, hos, hcs⟩
  unfold getItem
  try with_reducible refine wpAny_holding ?_
  first | refine wpAny_bind (wpAny_pure ?_) | skip
  refine wpAny_bind (wpAny_sequenceKey ht.typeIs (by decide) ?_)
  refine wpAny_bind (wpAny_callSpecial?_slot (name := Str.ofString "__getitem__") ht.typeIs PyProof.Rows.slot_tuple_getitem
    (wpAny_call_entry PyProof.Rows.slot_tuple_getitem ht.typeIs entry_tuple_getitem ?_ (args_tuple_getitem _ _)))
  show wpAny _ _ (Builtin.Tuple.tupleItemsOf (.ref t) >>= _) _ _ s
  refine wpAny_bind (tupleItemsOf_ ht ?_)
  refine wpAny_bind (wpAny_typeOf hTs ?_)
  rw [if_pos (by decide)]
  refine wpAny_bind (sliceApplied_gen hs pl pu ?_)
  have hno : ¬ ((((sIx items.size 0 lo : Nat) : Int) == 0 && (1 : Int) == 1 && (sIx items.size items.size hi - sIx items.size 0 lo) == items.size) = true) := by
    intro q
    rw [Bool.and_eq_true, Bool.and_eq_true] at q
    have q1 : ((sIx items.size 0 lo : Nat) : Int) = 0 := eq_of_beq q.1.1
    have q2 : sIx items.size items.size hi - sIx items.size 0 lo = items.size := eq_of_beq q.2
    exact hw ⟨by omega, by omega⟩
  show wpAny _ _ (if (((sIx items.size 0 lo : Nat) : Int) == 0 && (1 : Int) == 1 && (sIx items.size items.size hi - sIx items.size 0 lo) == items.size) = true then _ else _) _ _ s
  rw [if_neg hno, pick_gen]
  first
    | exact wpAny_bind (m := Builtin.Tuple.tupleExact _) (wpAny_newObj_type (wpAny_pure ⟨_, rfl, wpAny_pure h⟩) htake)
    | exact wpAny_bind (m := Builtin.Tuple.tupleExact _) (wpAny_newObj_type (wpAny_bind (wpAny_pure (wpAny_pure ⟨_, rfl, wpAny_pure h⟩))) htake)
    | exact wpAny_bind (wpAny_bind (m := Builtin.Tuple.tupleExact _) (wpAny_newObj_type (wpAny_pure (wpAny_pure ⟨_, rfl, wpAny_pure h⟩)) htake))
    | exact wpAny_bind (wpAny_bind (m := Builtin.Tuple.tupleExact _) (wpAny_newObj_type (wpAny_pure ⟨_, rfl, wpAny_pure h⟩) htake))
end
end HT

namespace L2
open PySem PySem.Spec PyProof.Rows


abbrev TO := St → Hp → (Option Int → Hp → Prop) → Prop

def PO (X : Cx) (e : Option Expr) (t : TO) : Prop :=
  ∀ (pins : List (Addr × Obj)) (s : Shared) (σ : St) (H : Hp) (Q : Option Int → Hp → Prop), Inv X pins σ H s → t σ H Q →
    wpAny (model X.prog X.w) X.A (evalPart e X.env) (fun u s' => ∃ o H', Inv X pins σ H' s' ∧ IsPart u o ∧ Q o H') X.xe s
def tNoPart : TO := fun _ H Q => Q none H
def tPart (t : TE) : TO := fun σ H Q => t σ H fun x H1 => ∃ i, x = .int i ∧ Q (some i) H1

section
variable {X : Cx} {e : Expr} {te : TE} {lo hi : Option Expr} {tl th : TO} {pos p2 : Pos}

theorem po_none : PO X none tNoPart := by
  intro pins s σ H Q I h
  rw [evalPart_none]
  exact wpAny_pure ⟨none, H, I, .none, h⟩
theorem po_some (h : PE X e te) : PO X (some e) (tPart te) := by
  intro pins s σ H Q I hw
  rw [evalPart_some]
  refine thn (h pins s σ H _ I hw) fun u s1 ⟨x, H1, I1, r1, q1⟩ => ?_
  obtain ⟨i, rfl, q⟩ := q1
  obtain ⟨t, rfl⟩ := r1
  exact ⟨some i, H1, I1, .int i t, q⟩


def SlR (X : Cx) (r : V → Option Int → Option Int → Hp → VK → Prop) : Prop :=
  ∀ (pins : List (Addr × Obj)) (s : Shared) (σ : St) (H : Hp) (x : V) (v vl vu : Value) (lo hi : Option Int) (sl : Addr) (Q : VK), Inv X pins σ H s → RelV x v → s.heap.IsSliceOf sl vl vu .none → IsPart vl lo → IsPart vu hi → r x lo hi H Q →
    ∃ T id, typeLookup (.type T) "__getitem__" = pure (some (.builtin id)) ∧ s.TypeIs v T ∧ wpAny (model X.prog X.w) X.A (getItem v (.ref sl)) (EP X pins σ Q) X.xe s
theorem SlR.or {r r' : V → Option Int → Option Int → Hp → VK → Prop} (h : SlR X r) (h' : SlR X r') : SlR X (fun x lo hi H Q => r x lo hi H Q ∨ r' x lo hi H Q) := by
  intro pins s σ H x v vl vu lo hi sl Q I rx hs pl pu q
  rcases q with q | q
  · exact h pins s σ H x v vl vu lo hi sl Q I rx hs pl pu q
  · exact h' pins s σ H x v vl vu lo hi sl Q I rx hs pl pu q
def tSl (r : V → Option Int → Option Int → Hp → VK → Prop) (te : TE) (tl th : TO) : TE := fun σ H Q => te σ H fun x H1 => tl σ H1 fun l H2 => th σ H2 fun u H3 => r x l u H3 Q

theorem pe_slice {r : V → Option Int → Option Int → Hp → VK → Prop} (hr : SlR X r) (he : PE X e te) (hl : PO X lo tl) (hu : PO X hi th) : PE X (.Subscript e (.Slice lo hi none p2) pos) (tSl r te tl th) := by
  intro pins s σ H Q I h
  refine Subscript_ (thn (he pins s σ H _ I h) fun v s1 ⟨x, H1, I1, r1, q1⟩ => ?_)
  refine wpAny_Slice (thn (hl pins s1 σ H1 _ I1 q1) fun vl s2 ⟨l, H2, I2, pl, q2⟩ => thn (hu pins s2 σ H2 _ I2 q2) fun vu s3 ⟨u, H3, I3, pu, q3⟩ => ?_)
  rw [evalPart_none]
  refine wpAny_pure ?_
  have I4 : Inv X pins σ H3 { s3 with heap := s3.heap.push { cls := .type "slice", data := .fields #[vl, vu, .none] } } := I3.kept (t' := s3.toks) fun b ob q => Heap.get?_push_of_some _ q
  obtain ⟨T, id, hT, ht, hg⟩ := hr pins { s3 with heap := s3.heap.push { cls := .type "slice", data := .fields #[vl, vu, .none] } } σ H3 x v vl vu l u s3.heap.objs.size Q I4 r1 (Heap.IsSliceOf.new ..) pl pu q3
  show wpAny (model X.prog X.w) X.A (subscriptTail e (.Slice lo hi none p2) v (.ref s3.heap.objs.size)) (EP X pins σ Q) X.xe { s3 with heap := s3.heap.push { cls := .type "slice", data := .fields #[vl, vu, .none] } }
  exact tail_any (ops := [.ref s3.heap.objs.size, v]) ht hT hg (by with_unfolding_all rfl)


def cutV (xs : List V) (lo hi : Option Int) : List V := (xs.drop (HT.sIx xs.length 0 lo)).take (HT.sIx xs.length xs.length hi - HT.sIx xs.length 0 lo)
theorem cutV_length (xs : List V) (lo hi : Option Int) : (cutV xs lo hi).length ≤ xs.length := by
  unfold cutV
  rw [List.length_take, List.length_drop]
  omega

def rSlT (K : PySem.W.Frag) : V → Option Int → Option Int → Hp → VK → Prop := fun x lo hi H Q => ∃ a xs, x = .ref a ∧ SqT K H a xs ∧
  ¬ (HT.sIx xs.length 0 lo = 0 ∧ HT.sIx xs.length xs.length hi = xs.length) ∧ ∀ p, H p = none → Q (.ref p) (upd H p (.tup (cutV xs lo hi)))
theorem sl_tup : SlR X (rSlT X.K) := by
  intro pins s σ H x v vl vu lo hi sl Q I rx hs pl pu h
  obtain ⟨a, xs, rfl, hx, hw, q⟩ := h
  cases rx
  obtain ⟨its, r, ht, hz⟩ := I.tuple hx
  have hlen : its.toArray.size = xs.length := by rw [List.size_toArray]; exact r.length.symm
  refine ⟨"tuple", _, PyProof.Rows.slot_tuple_getitem.lookup, ht.typeIs, ?_⟩
  refine HT.getItem_tuple_cut ht hs pl pu (by rw [hlen]; exact hw) ?_ (by rw [hlen]; exact hz)
  rw [hlen]
  refine ⟨.ref s.heap.objs.size, _, I.laid (t' := s.toks) (o := .tup (cutV xs lo hi)) (fun b ob q => Heap.get?_push_of_some _ q) (Nat.le_refl _) ?_, rfl, q _ (I.hok.fresh (Nat.le_refl _))⟩
  exact ⟨Nat.le_trans (cutV_length xs lo hi) hz, _, (r.drop (HT.sIx xs.length 0 lo)).take (HT.sIx xs.length xs.length hi - HT.sIx xs.length 0 lo), IsTup.new _ _⟩


def rCatT (K : PySem.W.Frag) : R2 := fun x y H Q => ∃ a b xs ys, x = .ref a ∧ y = .ref b ∧ SqT K H a xs ∧ SqT K H b ys ∧ xs ≠ [] ∧ xs.length + ys.length ≤ sizeLine ∧
  (ys = [] → Q (.ref a) H) ∧ (ys ≠ [] → ∀ p, H p = none → Q (.ref p) (upd H p (.tup (xs ++ ys))))
theorem Vals.nil_iff {xs : List V} {us : List Value} (r : Vals xs us) : us = [] ↔ xs = [] := by
  cases r with
  | nil => simp
  | cons _ _ => simp
theorem op_catT : OpR X (binaryOp .Add) (rCatT X.K) := by
  intro pins s σ H x y v u Q I rx ry h
  obtain ⟨a, b, xs, ys, rfl, rfl, ha, hb, hx, hz, q1, q2⟩ := h
  cases rx
  cases ry
  obtain ⟨its, r1, p1, _⟩ := I.tuple ha
  obtain ⟨its2, r2, p2, _⟩ := I.tuple hb
  refine HT.cat_tup p1 p2 (fun z => hx (r1.nil_iff.mp z)) (fun z => ⟨.ref a, H, I, rfl, q1 (r2.nil_iff.mp z)⟩) (fun z => ?_) (by rw [← r1.length, ← r2.length]; exact hz)
  refine ⟨.ref s.heap.objs.size, _, I.laid (t' := s.toks) (o := .tup (xs ++ ys)) (fun b ob q => Heap.get?_push_of_some _ q) (Nat.le_refl _) ?_, rfl, q2 (fun w => z (r2.nil_iff.mpr w)) _ (I.hok.fresh (Nat.le_refl _))⟩
  exact ⟨by rw [List.length_append]; exact hz, _, r1.append r2, IsTup.new _ _⟩

end
end L2

namespace L2
open PySem PySem.Spec PyProof.Rows



def ixN (n : Nat) (i : Int) : Option Nat := if 0 ≤ i then (if i < n then some i.toNat else none) else if -(n : Int) ≤ i then some (i + n).toNat else none
def atI {α : Type} (xs : List α) (i : Int) : Option α := (ixN xs.length i).bind fun j => xs[j]?
theorem ixN_seq {n : Nat} {i : Int} {j : Nat} (h : ixN n i = some j) : seqIndex? i n = some j ∧ j < n ∧ -(n : Int) ≤ i ∧ i < n := by
  unfold ixN at h
  by_cases h0 : 0 ≤ i
  · rw [if_pos h0] at h
    by_cases h1 : i < n
    · rw [if_pos h1] at h
      have e : i.toNat = j := Option.some.inj h
      exact ⟨by rw [seqIndex_of h0 h1, e], by omega, by omega, h1⟩
    · rw [if_neg h1] at h; cases h
  · rw [if_neg h0] at h
    by_cases h1 : -(n : Int) ≤ i
    · rw [if_pos h1] at h
      have e : (i + n).toNat = j := Option.some.inj h
      exact ⟨by rw [seqIndex_neg (by omega) h1, e], by omega, h1, by omega⟩
    · rw [if_neg h1] at h; cases h
theorem atI_get {α : Type} {xs : List α} {i : Int} {v : α} (h : atI xs i = some v) : ∃ j, seqIndex? i xs.length = some j ∧ xs[j]? = some v ∧ j < xs.length ∧ -(xs.length : Int) ≤ i ∧ i < xs.length := by
  unfold atI at h
  cases e : ixN xs.length i with
  | none => rw [e] at h; cases h
  | some j =>
    rw [e] at h
    obtain ⟨h1, h2, h3, h4⟩ := ixN_seq e
    exact ⟨j, h1, h, h2, h3, h4⟩
theorem atI_nat {α : Type} {xs : List α} {j : Nat} {v : α} (h : xs[j]? = some v) : atI xs (j : Int) = some v := by
  have hj : j < xs.length := (List.getElem?_eq_some_iff.mp h).1
  have e : ixN xs.length (j : Int) = some j := by
    unfold ixN
    rw [if_pos (by omega), if_pos (by omega)]; simp
  unfold atI; rw [e]; exact h
def PlainIx (b : Expr) : Prop := ∀ o i, subscripted b false o i = operate [o, i] (getItem o i)

def IxR (X : Cx) (r : R2) : Prop :=
  ∀ (value slice : Expr) (pins : List (Addr × Obj)) (s : Shared) (σ : St) (H : Hp) (x y : V) (v u : Value) (Q : VK), Inv X pins σ H s → RelV x v → RelV y u → r x y H Q →
    subscripted slice false v u = operate [v, u] (getItem v u) → wpAny (model X.prog X.w) X.A (subscriptTail value slice v u) (EP X pins σ Q) X.xe s

def MtR (X : Cx) (id : String) (r : V → List V → Hp → VK → Prop) : Prop :=
  ∀ (pins : List (Addr × Obj)) (s : Shared) (σ : St) (H : Hp) (x : V) (xs : List V) (v : Value) (us : List Value) (Q : VK), Inv X pins σ H s → RelV x v → Vals xs us → r x xs H Q →
    wpAny (model X.prog X.w) X.A (call (.builtin id) (v :: us)) (EP X pins σ Q) X.xe s
section
variable {X : Cx} {a b : Expr} {ta tb : TE} {pos : Pos}
theorem IxR.or {r r' : R2} (h : IxR X r) (h' : IxR X r') : IxR X (fun x y H Q => r x y H Q ∨ r' x y H Q) := by
  intro value slice pins s σ H x y v u Q I rx ry q hs
  rcases q with q | q
  · exact h value slice pins s σ H x y v u Q I rx ry q hs
  · exact h' value slice pins s σ H x y v u Q I rx ry q hs
theorem pe_ix {r : R2} (hr : IxR X r) (ha : PE X a ta) (hb : PE X b tb) (hs : PlainIx b) : PE X (.Subscript a b pos) (tOp r ta tb) := by
  intro pins s σ H Q I h
  exact Subscript_ (binT ha hb I h fun v u s2 x y H2 I2 rx ry q => hr a b pins s2 σ H2 x y v u Q I2 rx ry q (hs _ _))

def rIxL (K : PySem.W.Frag) : R2 := fun x y H Q => ∃ p xs i v, x = .ref p ∧ y = .int i ∧ SqL K H p xs ∧ atI xs i = some v ∧ Q v H
def rIxT (K : PySem.W.Frag) : R2 := fun x y H Q => ∃ p xs i v, x = .ref p ∧ y = .int i ∧ SqT K H p xs ∧ atI xs i = some v ∧ Q v H
def rIxS : R2 := fun x y H Q => ∃ z i c, x = .str z ∧ y = .int i ∧ z.length ≤ sizeLine ∧ atI z.cps.toList i = some c ∧ Q (.str ⟨#[c]⟩) H
theorem ix_list : IxR X (rIxL X.K) := by
  intro value slice pins s σ H x y v u Q I rx ry h hs
  obtain ⟨p, xs, i, z, rfl, rfl, hq, he, q⟩ := h
  cases rx
  obtain ⟨t, rfl⟩ := ry
  obtain ⟨its, r, pl, hz⟩ := I.list hq
  obtain ⟨j, h1, h2, h3, h4, h5⟩ := atI_get he
  obtain ⟨w, ew, rw'⟩ := r.get h2
  have hl := r.length
  have hn := line63
  have fin : EP X pins σ Q w s := ⟨z, H, I, rw', q⟩
  by_cases h0 : 0 ≤ i
  · have hj : i.toNat = j := by
      rw [seqIndex_of h0 h5] at h1
      exact Option.some.inj h1
    exact item_listR pl.isList h0 (by omega) (by rw [hj]; simpa using ew) fin hs
  · have hj : (i + (its.toArray.size : Int)).toNat = j := by
      rw [seqIndex_neg (by omega) h4] at h1
      rw [List.size_toArray, ← hl]
      exact Option.some.inj h1
    exact subscriptTail_builtinR (x := w) pl.isList.typeIs slot_list_getitem.lookup
      (wpAny_getItem_list_neg (Q := fun r s' => r = w ∧ EP X pins σ Q r s') pl.isList (by omega) (by rw [List.size_toArray] <;> omega) (by omega) (by rw [hj]; simpa using ew) ⟨rfl, fin⟩) hs
theorem ix_tup : IxR X (rIxT X.K) := by
  intro value slice pins s σ H x y v u Q I rx ry h hs
  obtain ⟨p, xs, i, z, rfl, rfl, hq, he, q⟩ := h
  cases rx
  obtain ⟨t, rfl⟩ := ry
  obtain ⟨its, r, pl, hz⟩ := I.tuple hq
  obtain ⟨j, h1, h2, h3, h4, h5⟩ := atI_get he
  obtain ⟨w, ew, rw'⟩ := r.get h2
  have hl := r.length
  have hn := line63
  have fin : EP X pins σ Q w s := ⟨z, H, I, rw', q⟩
  exact subscriptTail_builtinR (x := w) pl.typeIs slot_tuple_getitem.lookup
    (getItem_tuple (j := j) (Q := fun r s' => r = w ∧ EP X pins σ Q r s') pl (by omega) (by omega) (by rw [List.size_toArray, ← hl]; exact h1) (by simpa using ew) ⟨rfl, fin⟩) hs
theorem ix_str : IxR X rIxS := by
  intro value slice pins s σ H x y v u Q I rx ry h hs
  obtain ⟨z, i, c, rfl, rfl, hz, he, q⟩ := h
  obtain ⟨t, rfl⟩ := rx
  obtain ⟨t', rfl⟩ := ry
  obtain ⟨j, h1, h2, h3, h4, h5⟩ := atI_get he
  have hl : z.cps.toList.length = z.length := by simp [Str.length]
  rw [hl] at h1 h4 h5
  have hn := line63
  exact tail_any (typeIs_str s z t) slot_str_getitem.lookup (getItem_str (c := c) (by
    have e1 : decide (i < -(2 ^ 63 : Int)) = false := decide_eq_false (by omega)
    have e2 : decide (i ≥ 2 ^ 63) = false := decide_eq_false (by omega)
    rw [e1, e2, Bool.or_false]) (by rw [h1]; simpa using h2) ⟨.str ⟨#[c]⟩, H, I.tok _, ⟨_, rfl⟩, q⟩) hs

def rIx (K : PySem.W.Frag) : R2 := fun x y H Q => rIxL K x y H Q ∨ rIxT K x y H Q ∨ rIxS x y H Q
theorem ix_seq : IxR X (rIx X.K) := ix_list.or (ix_tup.or ix_str)



theorem mapSeq_set (its : List Value) (n j : Nat) (u : Value) : Obj.mapSeq (·.setIfInBounds j u) { cls := .type "list", data := .seq its.toArray n } = { cls := .type "list", data := .seq (its.set j u).toArray n } := by
  simp [Obj.mapSeq]
theorem Inv.lst {pins : List (Addr × Obj)} {σ : St} {H : Hp} {s : Shared} {p : Addr} {xs : List V} (I : Inv X pins σ H s) (h : H p = some (.lst xs)) :
    ∃ (its : List Value) (n : Nat), Vals xs its ∧ s.heap.get? p = some { cls := .type "list", data := .seq its.toArray n } ∧ xs.length ≤ sizeLine := by
  obtain ⟨z, its, n, r, e⟩ := I.hok p _ h
  exact ⟨its, n, r, e, z⟩

theorem Inv.lstUpd {pins : List (Addr × Obj)} {σ : St} {H : Hp} {s : Shared} {p : Addr} {xs ys : List V} {its its' : List Value} {n n' : Nat} {f : Obj → Obj} (I : Inv X pins σ H s) (h : H p = some (.lst xs))
    (ho : s.heap.get? p = some { cls := .type "list", data := .seq its.toArray n }) (hf : f { cls := .type "list", data := .seq its.toArray n } = { cls := .type "list", data := .seq its'.toArray n' }) (r : Vals ys its') (hz : ys.length ≤ sizeLine) (t : Nat) :
    Inv X pins σ (upd H p (.lst ys)) { s with heap := s.heap.update p f, toks := t } := by
  have e : (s.heap.update p f).get? p = some { cls := .type "list", data := .seq its'.toArray n' } := by
    rw [Heap.get?_update_self f ho (by rw [hf] <;> rfl), hf]
  refine I.write (x := p) (e := p) (by rw [h]; trivial) (.inl rfl) (fun b u hb q => (Heap.get?_update_other _ _ (Ne.symm hb)).trans q) ⟨_, e⟩ ?_
  exact ⟨hz, its', n', r, e⟩
def rSetL : V → V → V → Hp → (Hp → Prop) → Prop := fun o i v H Q => ∃ p xs k j, o = .ref p ∧ i = .int k ∧ H p = some (.lst xs) ∧ ixN xs.length k = some j ∧ Q (upd H p (.lst (xs.set j v)))
theorem set_list : PSet X rSetL := by
  intro pins s σ H o i v ov iv u Q I ro ri rv h
  obtain ⟨p, xs, k, j, rfl, rfl, hp, hj, q⟩ := h
  cases ro
  obtain ⟨t, rfl⟩ := ri
  obtain ⟨its, n, r, ho, hz⟩ := I.lst hp
  obtain ⟨h1, h2, h3, h4⟩ := ixN_seq hj
  have hl := r.length
  have hn := line63
  have I' : Inv X pins σ (upd H p (.lst (xs.set j v))) { s with heap := s.heap.update p (Obj.mapSeq (·.setIfInBounds j u)) } :=
    I.lstUpd hp ho (mapSeq_set its n j u) (r.set rv j) (by rw [List.length_set]; exact hz) s.toks
  by_cases h0 : 0 ≤ k
  · have hk : k.toNat = j := by
      rw [seqIndex_of h0 h4] at h1
      exact Option.some.inj h1
    exact PySem.W.ki_setAt ho h0 (by omega) (by rw [List.size_toArray, ← hl]; exact h4) (by rw [hk]; exact ⟨_, I', q⟩)
  · have hk : (k + (its.toArray.size : Int)).toNat = j := by
      rw [seqIndex_neg (by omega) h3] at h1
      rw [List.size_toArray, ← hl]
      exact Option.some.inj h1
    exact PySem.W.ki_setBack ho (by omega) (by rw [List.size_toArray, ← hl]; exact h3) (by omega) (by rw [hk]; exact ⟨_, I', q⟩)


theorem slice_bounds (lo hi : Option Int) (n : Nat) : (sliceBounds lo hi none n).1 = ((HT.sIx n 0 lo : Nat) : Int) ∧ (sliceBounds lo hi none n).2.1 = ((HT.sIx n n hi : Nat) : Int) ∧ (sliceBounds lo hi none n).2.2 = 1 := by
  refine ⟨?_, ?_, rfl⟩
  · cases lo with
    | none => simp [sliceBounds, HT.sIx]
    | some i =>
      simp only [sliceBounds, HT.sIx, Option.getD_none, show (1 : Int) > 0 by decide, if_true]
      by_cases h : i < 0
      · simp only [h, if_true] <;> omega
      · simp only [h, if_false] <;> omega
  · cases hi with
    | none => simp [sliceBounds, HT.sIx]
    | some i =>
      simp only [sliceBounds, HT.sIx, Option.getD_none, show (1 : Int) > 0 by decide, if_true]
      by_cases h : i < 0
      · simp only [h, if_true] <;> omega
      · simp only [h, if_false] <;> omega
theorem slicePick_cut (its : List Value) (lo hi : Option Int) : slicePick its.toArray lo hi none = ((its.drop (HT.sIx its.length 0 lo)).take (HT.sIx its.length its.length hi - HT.sIx its.length 0 lo)).toArray := by
  obtain ⟨h1, h2, h3⟩ := slice_bounds lo hi its.toArray.size
  unfold slicePick
  rw [h1, h2, h3]
  simp only [sliceRange_one, pick_run, List.size_toArray] <;> rfl

def rSlL (K : PySem.W.Frag) : V → Option Int → Option Int → Hp → VK → Prop := fun x lo hi H Q => ∃ a xs, x = .ref a ∧ SqL K H a xs ∧ ∀ p, H p = none → Q (.ref p) (upd H p (.lst (cutV xs lo hi)))
theorem sl_list : SlR X (rSlL X.K) := by
  intro pins s σ H x v vl vu lo hi sl Q I rx hs pl pu h
  obtain ⟨a, xs, rfl, hx, q⟩ := h
  cases rx
  obtain ⟨its, r, ht, hz⟩ := I.list hx
  have hlen := r.length
  refine ⟨"list", _, slot_list_getitem.lookup, ht.isList.typeIs, ?_⟩
  refine wpAny_getItem_list_slice ht.isList hs pl pu .none (by simp) ?_ (by rw [List.size_toArray] <;> omega)
  rw [slicePick_cut, ← hlen]
  refine ⟨.ref s.heap.objs.size, _, I.laid (t' := s.toks) (o := .lst (cutV xs lo hi)) (fun b ob q => Heap.get?_push_of_some _ q) (Nat.le_refl _) ?_, rfl, q _ (I.hok.fresh (Nat.le_refl _))⟩
  exact ⟨Nat.le_trans (cutV_length xs lo hi) hz, _, 0, (r.drop (HT.sIx xs.length 0 lo)).take (HT.sIx xs.length xs.length hi - HT.sIx xs.length 0 lo), Heap.get?_push_size _ rfl⟩


def flatV : V → Bool
  | .non => true
  | .bl _ => true
  | .int _ => true
  | .str _ => true
  | _ => false

def eqV : V → V → Bool
  | .non, .non => true
  | .bl a, .bl b => a == b
  | .bl a, .int b => (if a then 1 else 0) == b
  | .int a, .bl b => a == (if b then 1 else 0)
  | .int a, .int b => a == b
  | .str a, .str b => a == b
  | _, _ => false
theorem eqAt_V {A : Around} {s : Shared} {y x : V} {u v : Value} (ry : RelV y u) (rx : RelV x v) (fy : flatV y = true) (fx : flatV x = true) : SeqAt.EqAt A s u v (eqV y x) := by
  cases y with
  | non =>
    cases ry
    cases x with
    | non => cases rx; exact SeqAt.EqAt.same _
    | bl b => cases rx; exact SeqAt.EqAt.none_bool b
    | int b => obtain ⟨t, rfl⟩ := rx; exact SeqAt.EqAt.none_int b t
    | str b => obtain ⟨t, rfl⟩ := rx; exact SeqAt.EqAt.none_str b t
    | _ => exact absurd (show false = true from fx) Bool.false_ne_true
  | bl a =>
    cases ry
    cases x with
    | non => cases rx; exact SeqAt.EqAt.bool_none a
    | bl b => cases rx; exact SeqAt.EqAt.bool_bool a b
    | int b => obtain ⟨t, rfl⟩ := rx; exact SeqAt.EqAt.bool_int a b t
    | str b => obtain ⟨t, rfl⟩ := rx; exact SeqAt.EqAt.bool_str a b t
    | _ => exact absurd (show false = true from fx) Bool.false_ne_true
  | int a =>
    obtain ⟨t', rfl⟩ := ry
    cases x with
    | non => cases rx; exact SeqAt.EqAt.int_none a t'
    | bl b => cases rx; exact SeqAt.EqAt.int_bool a t' b
    | int b => obtain ⟨t, rfl⟩ := rx; exact SeqAt.EqAt.int_int a t' b t
    | str b => obtain ⟨t, rfl⟩ := rx; exact SeqAt.EqAt.int_str a t' b t
    | _ => exact absurd (show false = true from fx) Bool.false_ne_true
  | str a =>
    obtain ⟨t', rfl⟩ := ry
    cases x with
    | non => cases rx; exact SeqAt.EqAt.str_none a t'
    | bl b => cases rx; exact SeqAt.EqAt.str_bool a t' b
    | int b => obtain ⟨t, rfl⟩ := rx; exact SeqAt.EqAt.str_int a t' b t
    | str b => obtain ⟨t, rfl⟩ := rx; exact SeqAt.EqAt.str_str a t' b t
    | _ => exact absurd (show false = true from fx) Bool.false_ne_true
  | _ => exact absurd (show false = true from fy) Bool.false_ne_true

def eqU (x : V) (u : Value) : Bool := match u with
  | .none => eqV .non x
  | .bool b => eqV (.bl b) x
  | .int i _ => eqV (.int i) x
  | .str z _ => eqV (.str z) x
  | _ => false
theorem eqU_of {x y : V} {u : Value} (r : RelV y u) (f : flatV y = true) : eqU x u = eqV y x := by
  cases y with
  | non => cases r; rfl
  | bl b => cases r; rfl
  | int i => obtain ⟨t, rfl⟩ := r; rfl
  | str z => obtain ⟨t, rfl⟩ := r; rfl
  | _ => exact absurd (show false = true from f) Bool.false_ne_true
theorem any_eqU {x : V} : ∀ {xs : List V} {us : List Value}, Vals xs us → xs.all flatV = true → us.any (eqU x) = xs.any fun y => eqV y x
  | _, _, .nil, _ => rfl
  | y :: xs, u :: us, .cons r t, f => by
    rw [List.all_cons, Bool.and_eq_true] at f
    rw [List.any_cons, List.any_cons, eqU_of r f.1, any_eqU t f.2]
theorem mem_eqAt {A : Around} {s : Shared} {x : V} {v : Value} (rx : RelV x v) (fx : flatV x = true) : ∀ {xs : List V} {us : List Value}, Vals xs us → xs.all flatV = true → ∀ u ∈ us, SeqAt.EqAt A s u v (eqU x u)
  | _, _, .nil, _ => fun u hu => by cases hu
  | y :: xs, u :: us, .cons r t, f => fun u' hu => by
    rw [List.all_cons, Bool.and_eq_true] at f
    rcases List.mem_cons.mp hu with rfl | hu
    · rw [eqU_of r f.1]; exact eqAt_V r rx f.1 fx
    · exact mem_eqAt rx fx t f.2 u' hu
def inV (x : V) (xs : List V) : Bool := xs.any fun y => eqV y x

def rIn (K : PySem.W.Frag) (neg : Bool) : R2 := fun x y H Q => ∃ p xs, y = .ref p ∧ (SqL K H p xs ∨ SqT K H p xs) ∧ flatV x = true ∧ xs.all flatV = true ∧ Q (.bl (if neg then !inV x xs else inV x xs)) H
theorem op_notIn_seq : OpR X (compareOp .NotIn) (rIn X.K true) := by
  intro pins s σ H x y v u Q I rx ry h
  obtain ⟨p, xs, rfl, hq, fx, fs, q⟩ := h
  cases ry
  rcases hq with hq | hq
  · obtain ⟨its, r, pl, hz⟩ := I.list hq
    refine SeqAt.notIn_listAt (eqU x) pl.isList (fun w hw => mem_eqAt rx fx r fs w (by simpa using hw)) ⟨.bl _, H, I, rfl, ?_⟩
    rw [show its.toArray.any (eqU x) = its.any (eqU x) by simp, any_eqU r fs]
    exact q
  · obtain ⟨its, r, pl, hz⟩ := I.tuple hq
    refine SeqAt.notIn_tupleAt (eqU x) pl (fun w hw => mem_eqAt rx fx r fs w (by simpa using hw)) ⟨.bl _, H, I, rfl, ?_⟩
    rw [show its.toArray.any (eqU x) = its.any (eqU x) by simp, any_eqU r fs]
    exact q
theorem call_list_of : CallR X (.type "list") (fun xs H Q => ∃ p ys, xs = [.ref p] ∧ (SqL X.K H p ys ∨ SqT X.K H p ys) ∧ ∀ l, H l = none → Q (.ref l) (upd H l (.lst ys))) := by
  intro pins s σ H xs us Q I r h
  obtain ⟨p, ys, rfl, hq, q⟩ := h
  obtain ⟨u, rfl, rx⟩ := vals1 r
  cases rx
  have fin : ∀ (its : List Value), Vals ys its → ys.length ≤ sizeLine → ∀ (h' : Heap) (c' : Nat), (∀ b o', s.heap.get? b = some o' → h'.get? b = some o') →
      h'.get? s.heap.objs.size = some { cls := .type "list", dict := none, data := .seq its.toArray c', slots := #[] } → EP X pins σ Q (.ref s.heap.objs.size) { s with heap := h' } := fun its r' hz h' c' kp e =>
    ⟨.ref s.heap.objs.size, _, I.laid (t' := s.toks) kp (Nat.le_refl _) (show ObjOk X.prog X.w _ h' _ (.lst ys) from ⟨hz, its, c', r', e⟩), rfl, q _ (I.hok.fresh (Nat.le_refl _))⟩
  rcases hq with hq | hq
  · obtain ⟨its, r', pl, hz⟩ := I.list hq
    have hlen := r'.length
    obtain ⟨o, ho, hc, n, hd⟩ := pl.isList
    exact call_list_seq p (.inl rfl) ho hc hd (fun h' c' kp e => fin its r' hz h' c' kp e) (by simp only [List.size_toArray] <;> omega)
  · obtain ⟨its, r', pl, hz⟩ := I.tuple hq
    have hlen := r'.length
    obtain ⟨o, ho, hc, n, hd⟩ := pl
    exact call_list_seq p (.inr rfl) ho hc hd (fun h' c' kp e => fin its r' hz h' c' kp e) (by simp only [List.size_toArray] <;> omega)
def tyV (K : PySem.W.Frag) (T : String) (x : V) (H : Hp) : Prop := match x with
  | .str _ => T = "str"
  | .int _ => T = "int"
  | .ref p => (T = "list" ∧ ∃ xs, SqL K H p xs) ∨ (T = "tuple" ∧ ∃ o, K.lookup p = some o ∧ o.cls = .type "tuple" ∧ o.dict = none) ∨
      (T = "dict" ∧ ((∃ kvs, H p = some (.dK kvs)) ∨ ∃ kvs, H p = some (.dT kvs))) ∨ (T = "set" ∧ ∃ S n, H p = some (.set S n))
  | _ => False
theorem tyV_is {pins : List (Addr × Obj)} {σ : St} {H : Hp} {s : Shared} {T : String} {x : V} {v : Value} (I : Inv X pins σ H s) (r : RelV x v) (ty : tyV X.K T x H) :
    s.TypeIs v T ∧ ∀ a, v = .ref a → ∃ ob, s.heap.get? a = some ob ∧ ob.dict = none := by
  cases x with
  | str z =>
    obtain ⟨t, rfl⟩ := r
    cases (show T = "str" from ty)
    exact ⟨typeIs_str s z t, fun _ e => nomatch e⟩
  | int i =>
    obtain ⟨t, rfl⟩ := r
    cases (show T = "int" from ty)
    exact ⟨typeIs_int s i t, fun _ e => nomatch e⟩
  | ref p =>
    cases r
    rcases ty with ⟨rfl, xs, hq⟩ | ⟨rfl, o, hk, hc, hd⟩ | ⟨rfl, hk⟩ | ⟨rfl, S, n, hk⟩
    · obtain ⟨its, _, pl, _⟩ := I.list hq
      refine ⟨pl.isList.typeIs, fun a e => ?_⟩
      cases e
      obtain ⟨o, n, e, c, hd, _⟩ := pl
      exact ⟨o, e, hd⟩
    · refine ⟨⟨o, I.kIn p o hk, hc⟩, fun a e => ?_⟩
      cases e
      exact ⟨o, I.kIn _ o hk, hd⟩
    · have z : ∃ o, s.heap.get? p = some o ∧ o.ExactDict := by
        rcases hk with ⟨kvs, hk⟩ | ⟨kvs, hk⟩
        · obtain ⟨_, _, _, _, o, _, _, e, ex, _⟩ := I.hok p _ hk
          exact ⟨o, e, ex⟩
        · obtain ⟨_, _, _, _, o, _, _, e, ex, _⟩ := I.hok p _ hk
          exact ⟨o, e, ex⟩
      obtain ⟨o, e, ex⟩ := z
      refine ⟨⟨o, e, ex.1⟩, fun a e2 => ?_⟩
      cases e2
      exact ⟨o, e, ex.2.1⟩
    · obtain ⟨o, _, _, _, e, ex, _⟩ := I.hok p _ hk
      refine ⟨⟨o, e, ex.1⟩, fun a e2 => ?_⟩
      cases e2
      exact ⟨o, e, ex.2.1⟩
  | _ => exact False.elim ty
def tBM0 (K : PySem.W.Frag) (T : String) (r : V → List V → Hp → VK → Prop) (to : TE) : TE := fun σ H Q => to σ H fun x H1 => tyV K T x H1 ∧ r x [] H1 Q
def tBM (K : PySem.W.Frag) (T : String) (r : V → List V → Hp → VK → Prop) (to : TE) (t : TA) : TE := fun σ H Q => to σ H fun x H1 => tyV K T x H1 ∧ t σ H1 fun xs H2 => r x xs H2 Q
variable {o e : Expr} {es : List Expr} {to : TE} {t : TA} {name : Str} {apos cpos : Pos} {T id : String} {r : V → List V → Hp → VK → Prop}
theorem pe_bm0 (pa : PlainAttrs T) (slot : Slot T name id) (hty : typeOf (.builtin id) = pure (.type "method_descriptor")) (hm : MtR X id r) (ho : PE X o to)
    (hbase : attributeBase o name X.env (eval o X.env) = eval o X.env := by rfl) (hline : (apos.endLine == cpos.line) = true := by rfl) : PE X (.Call (.Attribute o name apos) [] [] cpos) (tBM0 X.K T r to) := by
  intro pins s σ H Q I h
  refine wpAny_Call_method0_late hbase hline (thn (ho pins s σ H _ I h) fun v s1 ⟨x, H1, I1, r1, ty, q1⟩ => ?_)
  obtain ⟨h1, h2⟩ := tyV_is I1 r1 ty
  exact ⟨T, id, pa, slot, hty, h1, h2, Calls.callWith_builtin rfl (PySem.evalArgs_none (hm pins s1 σ H1 x [] v [] Q I1 r1 .nil q1))⟩
theorem pe_bm (pa : PlainAttrs T) (slot : Slot T name id) (hty : typeOf (.builtin id) = pure (.type "method_descriptor")) (hm : MtR X id r) (ho : PE X o to) (ha : PA X (e :: es) t)
    (hbase : attributeBase o name X.env (eval o X.env) = eval o X.env := by rfl)
    (hfew : ((backTo cpos (starEach (e :: es) X.env)).all (fun x => !x.1) && (backToKw cpos (keywordEach [] X.env)).all (fun x => x.1.isSome)
      && decide ((e :: es).length + ([] : List Keyword).length + (if ([] : List Keyword).isEmpty then 0 else 1) < 30)) = true := by rfl)
    (hline : (apos.endLine == cpos.line) = true := by rfl) (hs : starEach (e :: es) X.env = (false, eval e X.env) :: starEach es X.env := by rfl) (hplain : (backTo cpos (starEach es X.env)).any (·.1) = false := by rfl) :
    PE X (.Call (.Attribute o name apos) (e :: es) [] cpos) (tBM X.K T r to t) := by
  intro pins s σ H Q I h
  refine wpAny_Call_method_late hbase hfew hline rfl (thn (ho pins s σ H _ I h) fun v s1 ⟨x, H1, I1, r1, ty, q1⟩ => ?_)
  obtain ⟨h1, h2⟩ := tyV_is I1 r1 ty
  refine ⟨T, id, pa, slot, hty, h1, h2, ?_⟩
  have hA := ha cpos pins s1 σ H1 _ I1 q1
  rw [hs] at hA ⊢
  refine Calls.callWith_builtin (by show (false || (backTo cpos (starEach es X.env)).any (·.1)) = false; rw [hplain] <;> rfl) (Calls.evalArgs_plain ?_)
  exact thn hA fun us s2 ⟨vs, H2, I2, r2, q2⟩ => hm pins s2 σ H2 x vs v us Q I2 r1 r2 q2

end
end L2

namespace L2
open PySem PySem.Spec PyProof.Rows

def MtM (X : Cx) (id : String) (r : V → List V → Hp → VK → Prop) : Prop :=
  ∀ (pins : List (Addr × Obj)) (s : Shared) (σ : St) (H : Hp) (x : V) (xs : List V) (v : Value) (us : List Value) (Q : VK), Inv X pins σ H s → RelV x v → Vals xs us → r x xs H Q →
    wpAny (model X.prog X.w) X.A (call (.builtin id) (v :: us)) (EP X pins σ Q) X.xe s


theorem Vals.one : ∀ {x : V} {us : List Value}, Vals [x] us → ∃ u, us = [u] ∧ RelV x u
  | _, _, .cons r .nil => ⟨_, rfl, r⟩
theorem Vals.zero : ∀ {us : List Value}, Vals [] us → us = []
  | _, .nil => rfl
theorem Vals.dropLast {xs : List V} {us : List Value} (h : Vals xs us) : Vals xs.dropLast us.dropLast := by
  induction h with
  | nil => exact .nil
  | cons r t ih =>
    cases t with
    | nil => exact .nil
    | cons q t' => exact .cons r ih
theorem Vals.rep {xs : List V} {us : List Value} (h : Vals xs us) : ∀ k : Nat, Vals (List.replicate k xs).flatten (List.replicate k us).flatten
  | 0 => .nil
  | k + 1 => by
    rw [List.replicate_succ, List.replicate_succ, List.flatten_cons, List.flatten_cons]
    exact Vals.append h (Vals.rep h k)
theorem erase_last {α : Type} (l : List α) : l.eraseIdx (l.length - 1) = l.dropLast := by
  induction l with
  | nil => rfl
  | cons a r ih =>
    cases r with
    | nil => rfl
    | cons b r =>
      have e : (a :: b :: r).length - 1 = ((b :: r).length - 1) + 1 := by
        have h1 : (a :: b :: r).length = r.length + 2 := rfl
        have h2 : (b :: r).length = r.length + 1 := rfl
        omega
      rw [e, List.eraseIdx_cons_succ, ih]
      all_goals rfl
theorem foldl_rep (its : List Value) : ∀ (k : Nat) (acc : List Value),
    List.foldl (fun x1 x2 => x1 ++ x2) acc.toArray (List.replicate k its.toArray) = (acc ++ (List.replicate k its).flatten).toArray
  | 0, acc => by simp
  | k + 1, acc => by
    have e : acc.toArray ++ its.toArray = (acc ++ its).toArray := by simp
    have e2 : (acc ++ its) ++ (List.replicate k its).flatten = acc ++ (List.replicate (k + 1) its).flatten := by
      rw [List.replicate_succ, List.flatten_cons, List.append_assoc]
    rw [← e2, ← foldl_rep its k (acc ++ its), ← e, List.replicate_succ, List.foldl_cons]

section
variable {X : Cx} {pins : List (Addr × Obj)} {σ : St} {H : Hp} {s : Shared} {l b : Addr} {xs ys zs : List V}


theorem Inv.lset {its its' : List Value} {n : Nat} {f : Array Value → Array Value} {t' : Nat} (I : Inv X pins σ H s) (hH : H l = some (.lst xs))
    (e : s.heap.get? l = some { cls := .type "list", data := .seq its.toArray n }) (hf : f its.toArray = its'.toArray) (hv : Vals ys its') (hz : ys.length ≤ sizeLine) :
    Inv X pins σ (upd H l (.lst ys)) { s with heap := s.heap.update l (Obj.mapSeq f), toks := t' } := by
  have q := PySem.IsL.update e f
  rw [hf] at q
  refine I.write (x := l) (e := l) (by rw [hH]; exact trivial) (.inl rfl) (fun b' u hb hu => (Heap.get?_update_other s.heap (Obj.mapSeq f) (Ne.symm hb)).trans hu) ⟨_, q⟩ ?_
  exact ⟨hz, its', _, hv, q⟩
theorem Inv.lnew {its : List Value} {t' : Nat} (I : Inv X pins σ H s) (hv : Vals ys its) (hz : ys.length ≤ sizeLine) :
    Inv X pins σ (upd H s.heap.objs.size (.lst ys)) { s with heap := s.heap.push { cls := .type "list", data := .seq its.toArray }, toks := t' } :=
  I.laid (fun _ _ q => Heap.get?_push_of_some _ q) (Nat.le_refl _) ⟨hz, its, 0, hv, Heap.get?_push_size _ rfl⟩
theorem Inv.fresh (I : Inv X pins σ H s) : H s.heap.objs.size = none := I.hok.fresh (Nat.le_refl _)
theorem Inv.lstM (I : Inv X pins σ H s) (hH : H l = some (.lst xs)) : xs.length ≤ sizeLine ∧ ∃ (its : List Value) (n : Nat), Vals xs its ∧ xs.length = its.length ∧ s.heap.get? l = some { cls := .type "list", data := .seq its.toArray n } := by
  obtain ⟨z, its, n, r, e⟩ := I.hok l _ hH
  exact ⟨z, its, n, r, r.length, e⟩

theorem notLongL {n : Nat} (h : n ≤ sizeLine) : Builtin.List.listTooLong n = false := by
  unfold Builtin.List.listTooLong
  exact decide_eq_false (by omega)
end

section
variable {X : Cx}


def rAppend : V → List V → Hp → VK → Prop := fun x vs H Q => ∃ l xs y, x = .ref l ∧ vs = [y] ∧ H l = some (.lst xs) ∧ xs.length < sizeLine ∧ Q .non (upd H l (.lst (xs ++ [y])))
theorem mt_append : MtM X "list.append" rAppend := by
  intro pins s σ H x vs v us Q I rx rv h
  obtain ⟨l, xs, y, rfl, rfl, hH, hz, q⟩ := h
  cases rx
  obtain ⟨u, rfl, ru⟩ := rv.one
  obtain ⟨z, its, n, r, hl, e⟩ := I.lstM hH
  refine call_meets F.slot_list_append ⟨_, e, rfl⟩ F.entry_list_append (F.args_list_append_2 _ _) (PySem.list_append l its.toArray n u (by rw [List.size_toArray]; omega)) ⟨e, ?_⟩
  refine ⟨.non, _, I.lset (its' := its ++ [u]) hH e (by simp) (r.append (.cons ru .nil)) ?_, rfl, q⟩
  rw [List.length_append, List.length_singleton]
  omega

def rExtend : V → List V → Hp → VK → Prop := fun x vs H Q => ∃ l b xs zs, x = .ref l ∧ vs = [.ref b] ∧ H l = some (.lst xs) ∧ H b = some (.lst zs) ∧ xs.length + zs.length ≤ sizeLine ∧ Q .non (upd H l (.lst (xs ++ zs)))
theorem mt_extend : MtM X "list.extend" rExtend := by
  intro pins s σ H x vs v us Q I rx rv h
  obtain ⟨l, b, xs, zs, rfl, rfl, hH, hB, hz, q⟩ := h
  cases rx
  obtain ⟨u, rfl, ru⟩ := rv.one
  cases ru
  obtain ⟨z, its, n, r, hl, e⟩ := I.lstM hH
  obtain ⟨z2, its2, n2, r2, hl2, e2⟩ := I.lstM hB
  have hsz : its.toArray.size + its2.toArray.size ≤ sizeLine := by rw [List.size_toArray, List.size_toArray]; omega
  have hlong : ¬ (!its.toArray.isEmpty && Builtin.List.listTooLong (its.toArray.size + its2.toArray.size)) = true := by
    rw [notLongL hsz, Bool.and_false]
    exact Bool.false_ne_true
  refine call_meets F.slot_list_extend ⟨_, e, rfl⟩ F.entry_list_extend (F.args_list_extend_2 _ _)
    (AutoSeq1.list_extend_list_list_0 l its.toArray n b its2.toArray n2 hlong (by rw [List.size_toArray]; omega) (by omega)) ⟨e, e2, ?_⟩
  refine ⟨.non, _, I.lset (its' := its ++ its2) hH e (by simp) (r.append r2) ?_, rfl, q⟩
  rw [List.length_append]
  omega

def rPop : V → List V → Hp → VK → Prop := fun x vs H Q => ∃ l xs y, x = .ref l ∧ vs = [] ∧ H l = some (.lst xs) ∧ xs[xs.length - 1]? = some y ∧ Q y (upd H l (.lst xs.dropLast))
theorem mt_pop : MtM X "list.pop" rPop := by
  intro pins s σ H x vs v us Q I rx rv h
  obtain ⟨l, xs, y, rfl, rfl, hH, hy, q⟩ := h
  cases rx
  have hus := rv.zero
  subst hus
  obtain ⟨z, its, n, r, hl, e⟩ := I.lstM hH
  obtain ⟨u, hu, ru⟩ := r.get hy
  have hy' : its.toArray[its.toArray.size - 1]? = some u := by
    show its.toArray[its.length - 1]? = some u
    rw [← Array.getElem?_toList, ← hl]
    exact hu
  refine call_meets F.slot_list_pop ⟨_, e, rfl⟩ F.entry_list_pop (F.args_list_pop_1 _) (MeetsSeq.list_pop_last l its.toArray n u hy' (by rw [List.size_toArray]; omega)) ⟨e, ?_⟩
  refine ⟨y, _, I.lset (its' := its.dropLast) hH e ?_ r.dropLast ?_, ru, q⟩
  · show its.toArray.eraseIdxIfInBounds (its.toArray.size - 1) = its.dropLast.toArray
    rw [List.size_toArray, List.eraseIdxIfInBounds_toArray, erase_last]
  · rw [List.length_dropLast]
    omega

def rCat : R2 := fun x y H Q => ∃ l b xs zs, x = .ref l ∧ y = .ref b ∧ H l = some (.lst xs) ∧ H b = some (.lst zs) ∧ xs.length + zs.length ≤ sizeLine ∧ ∀ p, H p = none → Q (.ref p) (upd H p (.lst (xs ++ zs)))
theorem op_cat : OpR X (binaryOp .Add) rCat := by
  intro pins s σ H x y v u Q I rx ry h
  obtain ⟨l, b, xs, zs, rfl, rfl, hH, hB, hz, q⟩ := h
  cases rx
  cases ry
  obtain ⟨z, its, n, r, hl, e⟩ := I.lstM hH
  obtain ⟨z2, its2, n2, r2, hl2, e2⟩ := I.lstM hB
  refine PySem.P.add_list e e2 ?_ (by rw [List.size_toArray, List.size_toArray]; omega)
  have ea : its.toArray ++ its2.toArray = (its ++ its2).toArray := by simp
  rw [ea]
  exact ⟨.ref _, _, I.lnew (t' := s.toks) (r.append r2) (by rw [List.length_append]; omega), rfl, q _ I.fresh⟩

def rRep : R2 := fun x y H Q => ∃ l k xs, x = .ref l ∧ y = .int k ∧ H l = some (.lst xs) ∧ -(2 ^ 63) ≤ k ∧ k < 2 ^ 63 ∧ xs.length * k.toNat ≤ sizeLine ∧
  ∀ p, H p = none → Q (.ref p) (upd H p (.lst (List.replicate k.toNat xs).flatten))
theorem len_rep {α : Type} (xs : List α) (k : Nat) : (List.replicate k xs).flatten.length = k * xs.length := by
  induction k with
  | zero => simp
  | succ k ih => rw [List.replicate_succ, List.flatten_cons, List.length_append, ih, Nat.succ_mul, Nat.add_comm]
theorem op_rep : OpR X (binaryOp .Mult) rRep := by
  intro pins s σ H x y v u Q I rx ry h
  obtain ⟨l, k, xs, rfl, rfl, hH, h1, h2, hz, q⟩ := h
  cases rx
  obtain ⟨t, rfl⟩ := ry
  obtain ⟨z, its, n, r, hl, e⟩ := I.lstM hH
  have hlen : its.toArray.size * k.toNat ≤ sizeLine := by rw [List.size_toArray, ← hl]; exact hz
  have hcap : ¬ its.toArray.size * k.toNat > (2 ^ 63 - 1) / 8 := by
    have : (sizeLine : Nat) ≤ (2 ^ 63 - 1) / 8 := by decide
    omega
  have hfit : ¬ (!Builtin.List.listFitsIndex k) = true := by
    rw [fitsIndex_both h1 h2]
    exact Bool.false_ne_true
  have hlong : ¬ Builtin.List.listTooLong (its.toArray.size * k.toNat) = true := by
    rw [notLongL hlen]
    exact Bool.false_ne_true
  have hnew : List.foldl (fun x1 x2 => x1 ++ x2) #[] (List.replicate (if its.toArray.isEmpty = true then 0 else k.toNat) its.toArray) = (List.replicate k.toNat its).flatten.toArray := by
    have f0 : ∀ m : Nat, List.foldl (fun x1 x2 => x1 ++ x2) #[] (List.replicate m its.toArray) = (List.replicate m its).flatten.toArray := fun m => by
      have := foldl_rep its m []
      rw [List.nil_append] at this
      exact this
    rw [f0]
    cases its with
    | nil => simp
    | cons a r' => rw [if_neg (by simp)]
  refine wpAny_binaryOp_repeat_ref (T := "list") (U := "int") (by decide) ⟨_, e, rfl⟩ (fun s' => typeIs_int s' k t) noFill_list_mul F.fills_int_mul F.slot_int_rmul repeat_list F.slot_int_index.lookup
    (call_meets F.slot_int_rmul (typeIs_int s k t) F.entry_int_rmul (F.args_int_rmul_2 _ _) (int___rmul___int_list k t l its.toArray n)
      ⟨e, rfl, ⟨_, e, rfl⟩, call_meets F.slot_list_mul ⟨_, e, rfl⟩ F.entry_list_mul (F.args_list_mul_2 _ _) (AutoListH.list___mul___list_int_3 l its.toArray n k t hfit hcap hlong) ⟨e, ?_⟩⟩)
  rw [hnew]
  exact ⟨.ref _, _, I.lnew (t' := s.toks) (r.rep k.toNat) (by rw [len_rep, Nat.mul_comm]; exact hz), rfl, q _ I.fresh⟩


end


section
variable {prog : Program} {w : World} {A : Around} {E : Value → Shared → Prop} {s : Shared}
end

section
variable {X : Cx}

end
end L2

namespace L2
open PySem PySem.Spec PyProof.Rows


section
variable {κ : Type} [DecidableEq κ]
def valV (kvs : List (κ × V)) (k : κ) : Option V := (kvs.find? fun kv => decide (kv.1 = k)).map (·.2)

def putK (kvs : List (κ × V)) (k : κ) (v : V) : List (κ × V) :=
  if (kvs.any fun kv => decide (kv.1 = k)) = true then kvs.map (fun kv => if kv.1 = k then (kv.1, v) else kv) else kvs ++ [(k, v)]
theorem valV_pos {p : κ × V} {r : List (κ × V)} {k : κ} (e : p.1 = k) : valV (p :: r) k = some p.2 := by simp [valV, List.find?_cons, e]
theorem valV_neg {p : κ × V} {r : List (κ × V)} {k : κ} (e : ¬ p.1 = k) : valV (p :: r) k = valV r k := by simp [valV, List.find?_cons, e]
theorem length_putK (kvs : List (κ × V)) (k : κ) (v : V) : (putK kvs k v).length ≤ kvs.length + 1 := by
  unfold putK
  split
  · rw [List.length_map]; omega
  · rw [List.length_append, List.length_cons, List.length_nil]; omega
theorem RelO.getD {o : Option V} {u : Option Value} {d : V} {d' : Value} (r : RelO o u) (rd : RelV d d') : RelV (o.getD d) (u.getD d') := by
  cases o with
  | none => cases u with
    | none => exact rd
    | some _ => exact (show False from r).elim
  | some _ => cases u with
    | none => exact (show False from r).elim
    | some _ => exact r


theorem KV.val {kvs : List (κ × V)} {vs : List (κ × Value)} (r : KV kvs vs) (k : κ) : RelO (valV kvs k) (valueAt vs k) := by
  unfold KV at r
  induction r with
  | nil => exact True.intro
  | @cons p q ps qs h t ih =>
    obtain ⟨h1, h2⟩ := h
    by_cases e : p.1 = k
    · have e' : q.1 = k := h1.symm.trans e
      have b : valueAt (q :: qs) k = some q.2 := by simp [valueAt, List.find?_cons, e']
      rw [valV_pos e, b]; exact h2
    · have e' : ¬ q.1 = k := fun z => e (h1.trans z)
      have b : valueAt (q :: qs) k = valueAt qs k := by simp [valueAt, List.find?_cons, e']
      rw [valV_neg e, b]; exact ih
theorem KV.any {kvs : List (κ × V)} {vs : List (κ × Value)} (r : KV kvs vs) (k : κ) : (kvs.any fun kv => decide (kv.1 = k)) = vs.any fun kv => decide (kv.1 = k) := by
  unfold KV at r
  induction r with
  | nil => rfl
  | cons h t ih => rw [List.any_cons, List.any_cons, ih, h.1]
theorem KV.repl {kvs : List (κ × V)} {vs : List (κ × Value)} (r : KV kvs vs) (k : κ) {y : V} {u : Value} (ry : RelV y u) :
    KV (kvs.map fun kv => if kv.1 = k then (kv.1, y) else kv) (vs.map fun kv => if kv.1 = k then (kv.1, u) else kv) := by
  unfold KV at r ⊢
  induction r with
  | nil => exact .nil
  | @cons p q ps qs h t ih =>
    rw [List.map_cons, List.map_cons]
    refine .cons ?_ ih
    obtain ⟨h1, h2⟩ := h
    by_cases e : p.1 = k
    · rw [if_pos e, if_pos (h1.symm.trans e)]; exact ⟨h1, ry⟩
    · rw [if_neg e, if_neg (fun z => e (h1.trans z))]; exact ⟨h1, h2⟩
theorem KV.put {kvs : List (κ × V)} {vs : List (κ × Value)} (r : KV kvs vs) (k : κ) {y : V} {u : Value} (ry : RelV y u) : KV (putK kvs k y) (stored vs k u) := by
  unfold putK stored
  rw [r.any k]
  by_cases e : (vs.any fun kv => decide (kv.1 = k)) = true
  · rw [if_pos e, if_pos e]; exact r.repl k ry
  · rw [if_neg e, if_neg e]; exact Paired.snoc r ⟨rfl, ry⟩
theorem KV.keys {kvs : List (κ × V)} {vs : List (κ × Value)} (r : KV kvs vs) : kvs.map (·.1) = vs.map (·.1) := by
  unfold KV at r
  induction r with
  | nil => rfl
  | cons h t ih => rw [List.map_cons, List.map_cons, ih, h.1]
end



theorem kV_is {P : Program} {w : World} {k : Key} {u : Value} (r : RelV (kV k) u) : (mixKind P w).is k u = true := by
  cases k with
  | inl i => obtain ⟨t, e⟩ := (show ∃ t, u = Value.int i t from r); subst e; exact mixKind_int P w i t
  | inr x => obtain ⟨t, e⟩ := (show ∃ t, u = Value.str x t from r); subst e; exact mixKind_str P w x t
theorem items_are {P : Program} {w : World} : ∀ {ks : List Key} {us : List Value}, Vals (ks.map kV) us → ItemsAre (mixKind P w) ks us
  | [], _, r => by rw [List.map_nil] at r; cases r; exact .nil
  | k :: ks, _, r => by
    rw [List.map_cons] at r
    cases r with
    | cons h t => exact .cons (kV_is h) (items_are t)


abbrev KT (H : Hp) : List (List Key × V) → List (List Key × Addr × Value) → Prop := Paired fun p q => p.1 = q.1 ∧ H q.2.1 = some (.tup (p.1.map kV)) ∧ RelV p.2 q.2.2
theorem KT.val {H : Hp} {kvs : List (List Key × V)} {xs : List (List Key × Addr × Value)} (r : KT H kvs xs) (k : List Key) : RelO (valV kvs k) ((atKey xs k).map (·.2)) := by
  induction r with
  | nil => exact True.intro
  | @cons p q ps qs h t ih =>
    obtain ⟨h1, _, h2⟩ := h
    by_cases e : p.1 = k
    · have e' : q.1 = k := h1.symm.trans e
      have b : atKey (q :: qs) k = some q.2 := by simp [atKey, List.find?_cons, e']
      rw [valV_pos e, b]; exact h2
    · have e' : ¬ q.1 = k := fun z => e (h1.trans z)
      have b : atKey (q :: qs) k = atKey qs k := by simp [atKey, List.find?_cons, e']
      rw [valV_neg e, b]; exact ih
section
variable {P : Program} {w : World} {H : Hp} {h : Heap} {a : Addr}
theorem rd_of {u : HO} (ok : HOk P w H h) (e : Rd H a u) : ObjOk P w H h a u := e.ok ok
theorem dk_rd {kvs : List (Key × V)} (ok : HOk P w H h) (e : Rd H a (.dK kvs)) : kvs.length ≤ sizeLine ∧ (a == sysModules) = false ∧ ∃ vs, KV kvs vs ∧ h.DictOf (mixKind P w) a vs :=
  show ObjOk P w H h a (.dK kvs) from rd_of ok e
theorem dk_of {kvs : List (Key × V)} (ok : HOk P w H h) (e : H a = some (.dK kvs)) : kvs.length ≤ sizeLine ∧ (a == sysModules) = false ∧ ∃ vs, KV kvs vs ∧ h.DictOf (mixKind P w) a vs := dk_rd ok (.inl e)

theorem key_of {ks : List Key} (ok : HOk P w H h) (e : H a = some (.tup (ks.map kV))) : (tupleKind (mixKind P w)).is h ks a := by
  obtain ⟨_, its, r, o, h1, h2, n, h3⟩ := (show ObjOk P w H h a (.tup (ks.map kV)) from ok a _ e)
  exact ⟨o, its.toArray, n, h1, h2, h3, by simpa using items_are r⟩
theorem dt_rd {kvs : List (List Key × V)} (ok : HOk P w H h) (e : Rd H a (.dT kvs)) : kvs.length ≤ sizeLine ∧ (a == sysModules) = false ∧
    ∃ xs, KT H kvs xs ∧ h.DictOfH (tupleKind (mixKind P w)) a xs := by
  obtain ⟨z, y, xs, r, o, es, ep, h1, h2, h3, h4, h5⟩ := (show ObjOk P w H h a (.dT kvs) from rd_of ok e)
  refine ⟨z, y, xs, r, o, es, ep, h1, h2, h3, h4, fun x hx => ?_, h5⟩
  have all : ∀ {l : List (List Key × V)} {m : List (List Key × Addr × Value)}, KT H l m → ∀ x ∈ m, (tupleKind (mixKind P w)).is h x.1 x.2.1 := by
    intro l m q
    induction q with
    | nil => intro x hx; exact nomatch hx
    | @cons p q ps qs hq t ih =>
      intro x hx
      rcases List.mem_cons.mp hx with e | hx
      · subst e
        exact key_of ok (by rw [← hq.1]; exact hq.2.1)
      · exact ih x hx
  exact all r x hx
end


def DGet (H : Hp) (a : Addr) (y : V) (r : Option V) : Prop :=
  (∃ kvs k, Rd H a (.dK kvs) ∧ y = kV k ∧ r = valV kvs k) ∨ ∃ kvs k b, Rd H a (.dT kvs) ∧ y = .ref b ∧ H b = some (.tup (k.map kV)) ∧ r = valV kvs k

section
variable {X : Cx} {pins : List (Addr × Obj)} {σ : St} {H : Hp} {s : Shared} {a : Addr} {y v : V} {u r : Value} {o : Option V} {A : Around} {E : Value → Shared → Prop}

theorem Inv.big (I : Inv X pins σ H s) : sysModules < s.heap.objs.size := by
  have h : mainGlobals < s.heap.objs.size := (I.mod.glob.keeps I.bk).lt
  exact Nat.lt_trans (by decide) h


theorem d_getItem {Q : Value → Shared → Prop} (hu : A.units + 1 < cLine) (I : Inv X pins σ H s) (g : DGet H a y (some v)) (ry : RelV y u) (h : ∀ w' s', Inv X pins σ H s' → RelV v w' → Q w' s') :
    wpAny (model X.prog X.w) A (getItem (.ref a) u) Q E s := by
  rcases g with ⟨kvs, k, e, ey, l⟩ | ⟨kvs, k, b, e, ey, eb, l⟩
  · subst ey
    obtain ⟨z, hd, vs, rel, dd⟩ := dk_rd I.hok e
    obtain ⟨w', hw, rw'⟩ := RelO.some_of (v := v) (o := valueAt vs k) (by rw [l]; exact rel.val k)
    exact wpAny_getItem_of (kV_is ry) dd.mapOf hw (h w' _ (I.tok _) rw')
  · subst ey
    cases (show u = Value.ref b from ry)
    obtain ⟨z, hd, xs, rel, dd⟩ := dt_rd I.hok e
    obtain ⟨w', hw, rw'⟩ := RelO.some_of (v := v) (o := (atKey xs k).map (·.2)) (by rw [l]; exact rel.val k)
    obtain ⟨p, hp, hp2⟩ := Option.map_eq_some_iff.mp hw
    refine wpAny_getItem_heap (tupleKind_room_in1 hu) (key_of I.hok eb) dd hp ?_
    rw [hp2]
    exact h w' _ (I.tok _) rw'

theorem d_write {h' : Heap} {t' : Nat} {ob : HO} (I : Inv X pins σ H s) (mu : Mut (H a)) (hs : Heap.SameBut a s.heap h') (he : ∃ q, h'.get? a = some q) (new : ObjOk X.prog X.w (upd H a ob) h' a ob) :
    Inv X pins σ (upd H a ob) { s with heap := h', toks := t' } :=
  I.write (x := a) (e := a) mu (.inl rfl) (fun b q hb z => (hs.2 b hb).trans z) he new
theorem dk_new {P : Program} {w : World} {H' : Hp} {h' : Heap} {kvs : List (Key × V)} {vs : List (Key × Value)} (z : kvs.length ≤ sizeLine) (hd : (a == sysModules) = false) (rel : KV kvs vs) (dd : h'.DictOf (mixKind P w) a vs) :
    ObjOk P w H' h' a (.dK kvs) := ⟨z, hd, vs, rel, dd⟩

end

section
variable {X : Cx} {pins : List (Addr × Obj)} {σ : St} {H : Hp} {s : Shared} {a : Addr} {kvs : List (Key × V)} {k : Key} {u : Value} {A : Around} {E : Value → Shared → Prop}

end




def NoSl (i : Expr) : Prop := ∀ ov iv, subscripted i false ov iv = operate [ov, iv] (getItem ov iv)
theorem subD_of {prog : Program} {w : World} {A : Around} {E : Value → Shared → Prop} {s : Shared} {env : Env} {value slice : Expr} {pos : Pos} {T id : String} {Q : Value → Shared → Prop}
    (hl : typeLookup (.type T) "__getitem__" = pure (some (.builtin id))) (hs : NoSl slice)
    (h : wpAny (model prog w) A (eval value env) (fun o s₁ => wpAny (model prog w) A (eval slice env) (fun i s₂ => s₂.TypeIs o T ∧ wpAny (model prog w) A (getItem o i) Q E s₂) E s₁) E s) :
    wpAny (model prog w) A (eval (.Subscript value slice pos) env) Q E s := by
  refine Subscript_ (wpAny_mono h (fun o s₁ h₁ => wpAny_mono h₁ (fun i s₂ h₂ => ?_) fun _ _ x => x) fun _ _ x => x)
  obtain ⟨hT, h₂⟩ := h₂
  unfold subscriptTail
  refine wpAny_bind ?_
  rw [getitemInPython_of_ne hT.not_modules]
  refine wpAny_bind (wpAny_specialOf hT hl ?_)
  have fin : wpAny (model prog w) A (subscripted slice false o i) (fun r s₃ => wpAny (model prog w) A (letTemporaryGo value o r >>= fun _ => pure r) Q E s₃) E s₂ := by
    rw [hs o i]
    exact wpAny_operating (wpAny_mono h₂ (fun r s₃ h₃ => wpAny_bind (wpAny_letTemporaryGo (wpAny_pure h₃))) fun _ _ x => x)
  first
    | exact wpAny_pure (wpAny_bind fin)
    | exact wpAny_bind (wpAny_pure (wpAny_bind fin))
    | exact wpAny_bind fin

theorem dict_typeIs {X : Cx} {pins : List (Addr × Obj)} {σ : St} {H : Hp} {s : Shared} {a : Addr} {y : V} {o : Option V} (I : Inv X pins σ H s) (g : DGet H a y o) : s.TypeIs (.ref a) "dict" := by
  rcases g with ⟨kvs, k, e, _, _⟩ | ⟨kvs, k, b, e, _, _, _⟩
  · obtain ⟨_, _, vs, _, dd⟩ := dk_rd I.hok e
    exact dd.typeIs
  · obtain ⟨_, _, xs, _, dd⟩ := dt_rd I.hok e
    exact dd.typeIs
def tDGet (td ty : TE) : TE := fun σ H Q => td σ H fun x H1 => ty σ H1 fun y H2 => ∃ a v, x = .ref a ∧ DGet H2 a y (some v) ∧ Q v H2

section
variable {X : Cx} {o i e value : Expr} {pos pos' tpos : Pos} {td ty tv : TE}
theorem pe_dget (hu : X.A.units + 1 < cLine) (ho : PE X o td) (hi : PE X i ty) (hs : NoSl i) : PE X (.Subscript o i pos) (tDGet td ty) := by
  intro pins s σ H Q I h
  refine subD_of PySem.F.slot_dict_getitem.lookup hs (thn (ho pins s σ H _ I h) fun u s1 ⟨x, H1, I1, rx, q1⟩ => thn (hi pins s1 σ H1 _ I1 q1) fun iv s2 ⟨y, H2, I2, ry, a, v, ex, g, q2⟩ => ?_)
  subst ex
  obtain rfl : u = Value.ref a := rx
  exact ⟨dict_typeIs I2 g, d_getItem hu I2 g ry fun w' s3 I3 rw' => ⟨v, H2, I3, rw', q2⟩⟩
end



theorem dk_empty {P : Program} {w : World} {H : Hp} (h : Heap) (hb : sysModules < h.objs.size) : ObjOk P w H (h.push { cls := .type "dict", data := .dict #[] }) h.objs.size (.dK []) :=
  ⟨Nat.zero_le _, beq_eq_false_iff_ne.mpr (Ne.symm (Nat.ne_of_lt hb)), [], .nil, Heap.DictOf.new h⟩
section
variable {X : Cx} {pos : Pos}
end


def tPairs : List (TE × TE) → St → Hp → (List (V × V) → Hp → Prop) → Prop
  | [], _, H, Q => Q [] H
  | (tk, tv) :: r, σ, H, Q => tk σ H fun x H1 => tv σ H1 fun y H2 => tPairs r σ H2 fun ps H3 => Q ((x, y) :: ps) H3
abbrev VV : List (V × V) → List (Value × Value) → Prop := Paired fun p q => RelV p.1 q.1 ∧ RelV p.2 q.2
def PPs (X : Cx) (pos : Pos) (keys : List (Option Expr)) (values : List Expr) (trs : List (TE × TE)) : Prop :=
  ∀ (pins : List (Addr × Obj)) (s : Shared) (σ : St) (H : Hp) (Q : List (V × V) → Hp → Prop), Inv X pins σ H s → tPairs trs σ H Q →
    wpAny (model X.prog X.w) X.A (evalPairs (pairTrees keys values X.env pos)) (fun vs s' => ∃ ps H', Inv X pins σ H' s' ∧ VV ps vs ∧ Q ps H') X.xe s
theorem pps_nil {X : Cx} {pos : Pos} : PPs X pos [] [] [] := fun pins s σ H Q I h => pairTrees_nil_walk ⟨[], H, I, .nil, h⟩
theorem pps_cons {X : Cx} {pos : Pos} {k v : Expr} {ks : List (Option Expr)} {vs : List Expr} {tk tv : TE} {trs : List (TE × TE)} (hk : PE X k tk) (hv : PE X v tv) (hr : PPs X pos ks vs trs) :
    PPs X pos (some k :: ks) (v :: vs) ((tk, tv) :: trs) := fun pins s σ H Q I h =>
  pairTrees_cons_walk (thn (hk pins s σ H _ I h) fun u s1 ⟨x, H1, I1, rx, q1⟩ => thn (hv pins s1 σ H1 _ I1 q1) fun w2 s2 ⟨y, H2, I2, ry, q2⟩ =>
    thn (hr pins s2 σ H2 _ I2 q2) fun ws s3 ⟨ps, H3, I3, rel, q3⟩ => ⟨(x, y) :: ps, H3, I3, .cons ⟨rx, ry⟩ rel, q3⟩)

def mergeK (kvs more : List (Key × V)) : List (Key × V) := more.foldl (fun acc kv => putK acc kv.1 kv.2) kvs
theorem KV.merge : ∀ {more : List (Key × V)} {rs : List (Key × Value)} {kvs : List (Key × V)} {vs : List (Key × Value)}, KV more rs → KV kvs vs → KV (mergeK kvs more) (merged vs rs) := by
  intro more rs kvs vs r
  unfold KV at r
  induction r generalizing kvs vs with
  | nil => intro q; exact q
  | @cons p q ps qs h t ih =>
    intro r0
    have e : KV (putK kvs p.1 p.2) (stored vs q.1 q.2) := by
      have := r0.put p.1 h.2
      rw [← h.1]; exact this
    exact ih e
theorem length_mergeK : ∀ (more kvs : List (Key × V)), (mergeK kvs more).length ≤ kvs.length + more.length
  | [], kvs => by show kvs.length ≤ kvs.length + 0; omega
  | p :: r, kvs => by
    have h1 := length_mergeK r (putK kvs p.1 p.2)
    have h2 := length_putK kvs p.1 p.2
    show (mergeK (putK kvs p.1 p.2) r).length ≤ _
    rw [List.length_cons]; omega
theorem carries_of {P : Program} {w : World} : ∀ {kvs : List (Key × V)} {ws : List (Value × Value)}, VV (kvs.map fun kv => (kV kv.1, kv.2)) ws → ∃ rs, Carries (mixKind P w) ws rs ∧ KV kvs rs
  | [], _, r => by rw [List.map_nil] at r; cases r; exact ⟨[], True.intro, .nil⟩
  | p :: kvs, _, r => by
    rw [List.map_cons] at r
    cases r with
    | @cons a b as bs h t =>
      obtain ⟨rs, c, q⟩ := carries_of (P := P) (w := w) t
      obtain ⟨b1, b2⟩ := b
      exact ⟨(p.1, b2) :: rs, ⟨kV_is h.1, rfl, c⟩, .cons ⟨rfl, h.2⟩ q⟩

def tDisp (trs : List (TE × TE)) : TE := fun σ H Q => ∀ p, H p = none → tPairs trs σ (upd H p (.dK [])) fun ps H2 => H2 p = some (.dK []) ∧ ∃ kvs : List (Key × V), ps = kvs.map (fun kv => (kV kv.1, kv.2)) ∧ kvs.length ≤ 15 ∧ Q (.ref p) (upd H2 p (.dK (mergeK [] kvs)))
theorem pe_disp {X : Cx} {pos : Pos} {keys : List (Option Expr)} {values : List Expr} {trs : List (TE × TE)} (h : PPs X pos keys values trs) (hall : keys.all (·.isSome) = true) (hl : keys.length = values.length) (h0 : keys ≠ [])
    (h15 : keys.length ≤ 15) : PE X (.Dict keys values pos) (tDisp trs) := by
  intro pins s σ H Q I q
  have hn := I.hok.fresh (Nat.le_refl s.heap.objs.size)
  have I1 := I.laid (a := s.heap.objs.size) (o := .dK []) (h' := s.heap.push { cls := .type "dict", data := .dict #[] }) (t' := s.toks) (fun _ _ q => Heap.get?_push_of_some _ q) (Nat.le_refl _) (dk_empty s.heap I.big)
  refine wpAny_Dict_walk (knd := mixKind X.prog X.w) hall hl h0 h15 (thn (h pins _ σ _ _ I1 (q _ hn)) fun ws s2 ⟨ps, H2, I2, rel, e, kvs, ep, lk, q2⟩ => ?_)
  subst ep
  obtain ⟨rs, c, rk⟩ := carries_of (P := X.prog) (w := X.w) rel
  obtain ⟨z, hd, vs0, r0, dd⟩ := dk_of I2.hok e
  cases r0
  refine ⟨rs, c, dd, fun h' dd' hs => ⟨.ref s.heap.objs.size, _, ?_, rfl, q2⟩⟩
  have hz : (mergeK [] kvs).length ≤ sizeLine := by
    have h1 := length_mergeK kvs []
    rw [List.length_nil] at h1
    rw [sizeLine_eq]; omega
  have he : ∃ q, h'.get? s.heap.objs.size = some q := let ⟨q, _, _, hq, _⟩ := dd'; ⟨q, hq⟩
  exact d_write I2 (by rw [e]; exact True.intro) hs he (dk_new hz hd (rk.merge .nil) dd')




structure M1 (X : Cx) (o : Expr) (m : Str) (apos : Pos) (e : Expr) (cpos : Pos) : Prop where
  base : attributeBase o m X.env (eval o X.env) = eval o X.env
  few : ((backTo cpos (starEach [e] X.env)).all (fun x => !x.1) && (backToKw cpos (keywordEach [] X.env)).all (fun x => x.1.isSome)
    && decide (([e] : List Expr).length + ([] : List Keyword).length + (if ([] : List Keyword).isEmpty then 0 else 1) < 30)) = true
  line : (apos.endLine == cpos.line) = true
  trees : backTo cpos (starEach [e] X.env) = [(false, eval e X.env)]
section
variable {X : Cx} {pins : List (Addr × Obj)} {σ : St} {H : Hp} {s : Shared} {a : Addr} {y d : V} {u r : Value} {o : Option V} {A : Around} {E : Value → Shared → Prop}

end

section
variable {X : Cx} {o e f : Expr} {apos cpos : Pos} {td ty tx : TE}
end


section
variable {X : Cx} {pins : List (Addr × Obj)} {σ : St} {H : Hp} {s : Shared} {a : Addr} {kvs : List (Key × V)} {A : Around} {E : Value → Shared → Prop}
end


section
variable {X : Cx} {pins : List (Addr × Obj)} {σ : St} {H : Hp} {s : Shared} {a : Addr} {y : V} {u : Value} {A : Around} {E : Value → Shared → Prop}

end
end L2

namespace Att
open PySem PySem.W PySem.Calls PyProof.Rows


theorem ints_of_wellAll {P : Params} {h : Heap} : ∀ (ns : List Int) (vs : List Value), WellAll P h vs (ns.map WData.int) → IntsAre vs ns := by
  intro ns
  induction ns with
  | nil =>
    intro vs w
    rw [List.map_nil] at w
    cases w
    exact .nil
  | cons n ns ih =>
    intro vs w
    rw [List.map_cons] at w
    cases w with
    | cons a b =>
      cases a
      exact .cons _ _ (ih _ b)

theorem script_of {l : OpenLaw} {n : Nat} (hn : l.most = some n) {P : Params} {h : Heap} {args : List WData} {vals : List Value}
    (hpre : l.row.toRowW.claim.pre args = true) (hwl : WellAll P h vals args) :
    ∃ a vs ns, vals = [Value.ref a] ∧ args = [WData.list (ns.map WData.int)] ∧ h.get? a = some { cls := .type "list", data := .seq vs.toArray } ∧ IntsAre vs ns ∧ ns.length ≤ n := by
  have hsh : WShape.hasAll [] args [.list .int] = true := (pre_splitW hpre).1
  have hc : l.pre.holds [] { args := args } = true := (pre_splitW hpre).2
  obtain ⟨d, r, rfl, h1, h2⟩ := hasAllW_cons hsh
  obtain rfl := hasAllW_nil h2
  obtain ⟨xs, rfl, h3⟩ := hasW_list h1
  obtain ⟨ns, rfl⟩ := items_int h3
  have hlen : ns.length ≤ n := by
    unfold OpenLaw.pre at hc
    have h4 : (WTm.not (.lt (.lit (.int (n : Int))) (.len (.arg 0)))).holds [] { args := [.list (ns.map .int)] } = true := by
      have h4 := (holds_andW hc).1
      rw [hn] at h4
      exact h4
    have h5 := condW_of h4 (w_not (w_lt w_lit (w_len_list (w_arg rfl))))
    rw [List.length_map] at h5
    refine Nat.le_of_not_lt fun q => ?_
    have q' : (n : Int) < ((ns.length : Nat) : Int) := by omega
    first
      | (rw [decide_eq_true q'] at h5; exact absurd h5 (by decide))
      | (simp at h5; omega)
  cases hwl with
  | cons w1 w2 =>
    cases w2
    cases w1 with
    | list ho hall => exact ⟨_, _, ns, rfl, rfl, ho, ints_of_wellAll ns _ hall, hlen⟩

theorem post_true (l : OpenLaw) (args : List WData) : l.row.toRowW.claim.post args (.bool true) args = true :=
  postW_of (r := l.row.toRowW) (X := (true == true))
    (show WShape.has [] (.bool true) .bool = true by first | rfl | decide | simp [WShape.has, WShape.arms, WShape.armsAll])
    (show (WTm.eq .res (.lit (.bool true))).value [] { args := args, res := some (.bool true), after := args } = some (.bool (true == true)) from w_eq_bool (w_res rfl) w_lit) rfl


theorem attach_call {l : OpenLaw} {n : Nat} {q : Program} {loose : List Str} {XP : (Str → Option Value) → Heap → Prop} {YP : World → Heap → Prop} {d : DefRec}
    (hn : l.most = some n) (hdf : d.params.defaults = [])
    (call : ∀ (w : World) (s₀ s₁ : Shared) (mg mb : Str → Option Value) (fa : Addr) (o : Obj) (pm cd doc : Value) (a : Addr) (vs : List Value) (ns : List Int),
      Ground q loose [] XP w s₀ mg mb s₁.heap → YP w s₁.heap →
      s₁.heap.get? fa = some o → o.data = .func (docDef d.name d.params d.body d.scope pm cd doc) → s₁.heap.CodeRec cd d.name → mg d.name = some (.ref fa) →
      s₁.heap.get? a = some { cls := .type "list", data := .seq vs.toArray } → IntsAre vs ns → ns.length ≤ n → s₁.gens = #[] →
      codeAny (model l.prog w) callerA (.call (.ref fa) ⟨[.ref a], []⟩) (fun r s' => r = .ok (.ret (.bool true)) ∧ OldK s₁.heap s'.heap ∧ s'.os = s₁.os ∧ AllBare s'.gens) s₁) :
    WalkO q loose XP YP l.row.toRowW d [] (fun f vs => PySem.call f vs) := by
  intro w s₀ s₁ mg mb G Y fa o pm cd doc dV kV ho hd hcd hD hmg hg args vals as hpre hlay hrd hwl hlo
  obtain rfl : dV = .none := Dflts.none hD hdf
  obtain rfl : kV = .none := Dflts.noKw hD
  obtain ⟨a, vs, ns, rfl, rfl, hobj, hints, hlen⟩ := script_of hn hpre hwl
  refine enter_call (codeAny_mono (call w s₀ s₁ mg mb fa o pm cd doc a vs ns G Y ho (fd_plain hd) hcd hmg hobj hints hlen hg) fun r s' hq => ?_)
  obtain ⟨rfl, h2, h3, h4⟩ := hq
  exact ⟨.inl ⟨.bool true, .bool true, [], rfl, fun _ => rfl, .bool true, post_true l _, fun _ => ⟨List.Pairwise.nil, fun _ hm => (nomatch hm)⟩⟩, h2, h3, h4⟩


section
variable {prog : Program} {w : World} {A : Around} {E : Value → Shared → Prop} {s : Shared} {K : Frag}


end
end Att

namespace L2
open PySem PySem.Spec PyProof.Rows

theorem vals_ints : ∀ {vs : List Value} {ns : List Int}, IntsAre vs ns → Vals (ns.map V.int) vs
  | _, _, .nil => .nil
  | _, _, .cons n t h => .cons ⟨t, rfl⟩ (vals_ints h)


def Only (H : Hp) : Prop := ∀ b, H b = none ∨ ∃ o xs, H b = some (.frz o (.lst xs))


theorem law_call {P : Program} {w : World} {K : PySem.W.Frag} {mg mb : Str → Option Value} {CX : CXT} {k : Nat} {fa a : Addr} {fd : FuncData} {x : Str} {sp : Sp} {s₁ : Shared} {vs : List Value} {ns : List Int}
    (KX : K.In s₁.heap) (hns : s₁.heap.Ns mainGlobals mg) (hb : s₁.heap.Ns builtinsNs mb) (hbb : ∀ x : Str, x ≠ "__name__" → mb x = bootBuiltins x) (hlim : s₁.heap.NoLimit) (hg : s₁.gens = #[])
    (ha : s₁.heap.get? a = some { cls := .type "list", data := .seq vs.toArray }) (hi : IntsAre vs ns) (hl : ns.length ≤ sizeLine) (hr : Room k callerA)
    (F : ∀ base : Heap, K.In base → base.Ns mainGlobals mg → FnOk P w K mg base CX k fa fd [x] sp) (hbind : ∀ (s : Shared) (u : Value), BindsTo s fd ⟨[u], []⟩ [(x, u)])
    (hsp : ∀ H : Hp, Only H → SqL K H a (ns.map V.int) → sp [.ref a] H (fun v _ => v = .bl true) fun _ _ _ => False)
    (hCX : ∀ H e s', CX [] H s₁ (fun _ _ _ => False) e s' → False) :
    codeAny (model P w) callerA (.call (.ref fa) ⟨[.ref a], []⟩) (fun r s' => r = .ok (.ret (.bool true)) ∧ OldK s₁.heap s'.heap ∧ s'.os = s₁.os ∧ AllBare s'.gens) s₁ := by
  have rv := vals_ints hi
  have lenV := hi.length
  -- from an abstract heap in which nothing but the script may be tracked
  have core : ∀ H : Hp, Only H → SqL K H a (ns.map V.int) → HOk P w H s₁.heap → (∀ b, H b ≠ none → b = a) → (H a ≠ none → K.lookup a = none) →
      codeAny (model P w) callerA (.call (.ref fa) ⟨[.ref a], []⟩) (fun r s' => r = .ok (.ret (.bool true)) ∧ OldK s₁.heap s'.heap ∧ s'.os = s₁.os ∧ AllBare s'.gens) s₁ := by
    intro H hO hS hok hA hK
    have base_of : ∀ {b : Addr} {o : Obj}, s₁.heap.get? b = some o → H b = none → (hidT s₁.heap H).get? b = some o := fun e n => hidT_get e n
    have noA : ∀ {b : Addr} {o : Obj} {es : Array DictEntry} {ep : Nat}, s₁.heap.get? b = some o → o.data = .dict es ep → H b = none := fun {b o es ep} e d => by
      cases q : H b with
      | none => rfl
      | some u =>
        have e' : b = a := hA b (by rw [q]; simp)
        subst e'
        rw [ha] at e; cases e
        have d' : Data.seq vs.toArray _ = Data.dict es ep := d
        cases d'
    have nsK : ∀ {b : Addr} {m : Str → Option Value}, s₁.heap.Ns b m → (hidT s₁.heap H).Ns b m := fun {b m} ⟨o, es, ep, e, d, r⟩ => ⟨o, es, ep, base_of e (noA e d), d, r⟩
    have hKb : K.In (hidT s₁.heap H) := fun b o e => base_of (KX b o e) (by
      cases q : H b with
      | none => rfl
      | some u =>
        have e' : b = a := hA b (by rw [q]; simp)
        subst e'
        rw [hK (by rw [q]; simp)] at e; cases e)
    have hM : Mod K mg (hidT s₁.heap H) := ⟨hKb, nsK hns, ⟨mb, nsK hb, hbb⟩, let ⟨mc, h1, h2⟩ := hlim; ⟨mc, nsK h1, h2⟩⟩
    have e0 : Env0 P w K mg (hidT s₁.heap H) callerA [] s₁ H := ⟨rfl, hM, fun b o e => of_hidT e, Nat.le_of_eq (hidT_size _ _), trivial, fun b hb => absurd (show b ∈ ([] : List Addr) from hb) (by simp), hok, .of_eq hg⟩
    refine codeAny_mono ((F _ hKb (nsK hns)).run callerA [] s₁ H ⟨[.ref a], []⟩ [.ref a] [.ref a] _ _ hr e0 (hbind s₁ (.ref a)) (.cons rfl .nil) (hsp H hO hS)) fun r s' h => ?_
    cases r with
    | error e => exact (hCX H e s' h).elim
    | ok fl =>
      cases fl with
      | next => exact False.elim h
      | brk => exact False.elim h
      | cont => exact False.elim h
      | ret u =>
        obtain ⟨v, H', os, bare, un, hok', r', q⟩ := h
        have q' : v = .bl true := q
        subst q'
        obtain rfl : u = Value.bool true := r'
        refine ⟨rfl, OldK.of_keep fun b o e => ?_, os, bare⟩
        cases q : H b with
        | none => exact un.keep b o e q (by intro z; exact absurd (show b ∈ ([] : List Addr) from z) (by simp)) (by simp)
        | some u =>
          rcases hO b with z | ⟨ob, xs, z⟩
          · rw [q] at z; cases z
          · have z2 := un.frzs b ob _ z
            obtain ⟨e1, _⟩ := hok b _ z
            obtain ⟨e2, _⟩ := hok' b _ z2
            rw [e] at e1; cases e1
            exact e2
  cases hk : K.lookup a with
  | some o =>
    -- the script is one of the module's own objects
    have e := KX a o hk
    rw [ha] at e
    cases e
    refine core (fun _ => none) (fun _ => .inl rfl) (.inr ⟨_, vs.toArray, _, hk, rfl, rfl, rfl, by rw [List.size_toArray, lenV]; exact hl, by simpa using rv⟩) (fun b u z => by have z' : (none : Option HO) = some u := z; cases z') (fun b z => absurd rfl z) fun z => absurd rfl z
  | none =>
    refine core (fun b => if b = a then some (.frz { cls := .type "list", data := .seq vs.toArray } (.lst (ns.map V.int))) else none) (fun b => ?_) (.inl (.inr ⟨{ cls := .type "list", data := .seq vs.toArray }, if_pos rfl⟩)) (fun b u z => ?_) (fun b z => ?_) fun _ => hk
    · by_cases hb : b = a
      · exact .inr ⟨_, _, if_pos hb⟩
      · exact .inl (if_neg hb)
    · by_cases hb : b = a
      · have z' := (if_pos hb).symm.trans z
        cases z'
        subst hb
        exact ⟨ha, by rw [List.length_map]; exact hl, vs, _, rv, ha⟩
      · have z' := (if_neg hb).symm.trans z
        cases z'
    · by_cases hb : b = a
      · exact hb
      · exact absurd (if_neg hb) z
end L2

namespace L2
open PySem PySem.Spec PyProof.Rows

abbrev KOf {K : PySem.W.Frag} {h : Heap} (_ : K.In h) : PySem.W.Frag := K


theorem walk_of {l : PySem.W.OpenLaw} {n k : Nat} {q : Program} {loose : List Str} {XP : (Str → Option Value) → Heap → Prop} {YP : World → Heap → Prop} {d : DefRec} {K : Params → PySem.W.Frag} {CX : World → CXT} {sp : World → Sp} {x : Str}
    (hn : l.most = some n) (hn2 : n ≤ sizeLine) (hdf : d.params.defaults = []) (hr : Room k callerA)
    (hY : ∀ (w : World) (h : Heap), YP w h → (K w.params).In h)
    (F : ∀ (w : World) (mg : Str → Option Value) (fa : Addr) (h : Heap), (K w.params).In h → h.Ns mainGlobals mg → mg d.name = some (.ref fa) →
      ∃ fd : FuncData, (∀ (s : Shared) (u : Value), BindsTo s fd ⟨[u], []⟩ [(x, u)]) ∧
        ∀ base : Heap, (K w.params).In base → base.Ns mainGlobals mg → FnOk l.prog w (K w.params) mg base (CX w) k fa fd [x] (sp w))
    (hsp : ∀ (w : World) (H : Hp) (a : Addr) (ns : List Int), ns.length ≤ n → Only H → SqL (K w.params) H a (ns.map V.int) → sp w [.ref a] H (fun v _ => v = .bl true) fun _ _ _ => False)
    (hCX : ∀ (w : World) (H : Hp) (s : Shared) (e : Value) (s' : Shared), CX w [] H s (fun _ _ _ => False) e s' → False) :
    PySem.W.WalkO q loose XP YP l.row.toRowW d [] (fun f vs => PySem.call f vs) := by
  refine Att.attach_call hn hdf fun w s₀ s₁ mg mb fa o pm cd doc a vs ns G Y ho hd hcd hmg hobj hints hlen hg => ?_
  have KX := hY w _ Y
  obtain ⟨fd, hb, hF⟩ := F w mg fa _ KX G.T.g hmg
  exact law_call KX G.T.g G.T.b G.T.builtins G.T.nolimit hg hobj hints (Nat.le_trans hlen hn2) hr hF hb (fun H hO hS => hsp w H a ns hlen hO hS) fun H e s' => hCX w H s₁ e s'

end L2




namespace L2
open PySem PySem.Spec PyProof.Rows



def inClass (s : Stmt) (j : Nat) : Stmt := match s with
  | .ClassDef _ _ _ body _ _ _ _ _ _ _ => body.getD j (.Pass ⟨0, 0, 0, 0⟩)
  | _ => .Pass ⟨0, 0, 0, 0⟩
def defArgs (s : Stmt) : Arguments := match s with
  | .FunctionDef _ a _ _ _ _ _ _ _ _ => a
  | _ => { posonlyargs := [], args := [], vararg := none, kwonlyargs := [], kw_defaults := [], kwarg := none, defaults := [] }
def defBody (s : Stmt) : List Stmt := match s with
  | .FunctionDef _ _ b _ _ _ _ _ _ _ => b
  | _ => []
def defScope (s : Stmt) : Scope := match s with
  | .FunctionDef _ _ _ _ _ _ sc _ _ _ => sc
  | _ => { kind := .function, names := [], isGenerator := false, isCoroutine := false }


abbrev CX0 : CXT := fun _ _ _ _ _ _ => False
abbrev E0 : XK := fun _ _ _ => False
theorem pass0 {X : Cx} : Passes CX0 X E0 := fun _ _ _ _ _ _ _ h => h.elim


structure Fun (K : PySem.W.Frag) (x qual : Str) (st : Stmt) (f : Addr) (fd : FuncData) : Prop where
  ex : ∃ (oc : Value) (od : Option Addr) (kV doc pm : Value) (an : Option Addr) (cdv ct : Value) (osl : Array (Option Value)),
    fd = PySem.W.fnOf x qual (defArgs st) (defBody st) (defScope st) .none kV doc pm an cdv ct ∧ K.lookup f = some ⟨oc, od, .func fd, osl⟩ ∧ PySem.W.codeIn K cdv qual = true
  kp : PySem.W.keepIn K (.ref f) = true
section
variable {P : Program} {w : World} {K : PySem.W.Frag} {mg : Str → Option Value} {base : Heap}

theorem Fun.ok {x qual : Str} {st : Stmt} {f : Addr} {fd : FuncData} {N ps : List Str} {k : Nat} {sp : Sp} (F : Fun K x qual st f fd) (S : FnScope N ps (defScope st)) (len : ∀ vs H Q E, sp vs H Q E → vs.length = ps.length)
    (hbody : ∀ (cdv : Value) (A : Around) (outer : List Env) (s : Shared) (H : Hp) (vs : List V) (Q : VK) (E : XK), Room k (A.deeper (envOfC qual (defScope st) s.heap.objs.size f cdv)) → sp vs H Q E →
      ∃ t, PSs (cxOf CX0 P w K mg base N qual (defScope st) f cdv A outer s H E).nox (defBody st) t ∧ t { nx := fun _ H' => Q .non H', rt := Q } (start N vs) H) : FnOk P w K mg base CX0 (k + 1) f fd ps sp := by
  obtain ⟨oc, od, kV, doc, pm, an, cdv, ct, osl, rfl, lk, hcd⟩ := F.ex
  refine fn_of lk hcd S len fun A outer s H vs Q E hr hsp => ?_
  obtain ⟨t, h, q⟩ := hbody cdv A outer s H vs Q E hr hsp
  exact ⟨t, h.nox, q⟩

theorem Fun.binds {x qual : Str} {st : Stmt} {f : Addr} {fd : FuncData} {ps : List Str} (F : Fun K x qual st f fd)
    (h : ∀ (kV doc pm : Value) (an : Option Addr) (cdv ct : Value) (us : List Value), us.length = ps.length → bindArgs (PySem.W.fnOf x qual (defArgs st) (defBody st) (defScope st) .none kV doc pm an cdv ct) ⟨us, []⟩ = pure (ps.zip us)) : Binds K fd ps [] := by
  obtain ⟨oc, od, kV, doc, pm, an, cdv, ct, osl, rfl, lk, hcd⟩ := F.ex
  exact .all (h kV doc pm an cdv ct)
theorem fun_mk {x qual : Str} {st : Stmt} {f : Addr} {oc : Value} {od an : Option Addr} {osl : Array (Option Value)} {kV doc pm cdv ct : Value} (l : K.lookup f = some ⟨oc, od, .func (PySem.W.fnOf x qual (defArgs st) (defBody st) (defScope st) .none kV doc pm an cdv ct), osl⟩)
    (c : PySem.W.codeIn K cdv qual = true) (k : PySem.W.keepIn K (.ref f) = true) : Fun K x qual st f (PySem.W.fnOf x qual (defArgs st) (defBody st) (defScope st) .none kV doc pm an cdv ct) := ⟨⟨oc, od, kV, doc, pm, an, cdv, ct, osl, rfl, l, c⟩, k⟩
end
theorem hu_of {A : Around} {k : Nat} (hr : Room k A) : A.units + 1 < cLine := Nat.lt_of_le_of_lt (Nat.add_le_add_left (by decide : 1 ≤ 64) _) hr.units
section
variable {X : Cx}
theorem pv (i : Nat) {x : Str} {pos : Pos} (hN : X.N[i]? = some x := by rfl) (hv : Vis X.env.scope x := by first | exact Or.inl rfl | exact Or.inr (Or.inl rfl) | exact Or.inr (Or.inr rfl)) (hd : (x == ("__debug__" : Str)) = false := by decide)
    (hcd : (x == ("__classdict__" : Str)) = false := by decide) : PE X (.Name x pos) (tVar i) := pe_var hN hv hd hcd

end


theorem iteF {A B : Prop} (h : B) : if false = true then A else B := by
  rw [if_neg Bool.false_ne_true]
  exact h
theorem iteT {A B : Prop} (h : A) : if true = true then A else B := by
  rw [if_pos rfl]
  exact h
def Same (H H' : Hp) : Prop := ∀ b o, H b = some o → H' b = some o
theorem Same.refl (H : Hp) : Same H H := fun _ _ h => h
theorem Same.trans {H H1 H2 : Hp} (a : Same H H1) (b : Same H1 H2) : Same H H2 := fun c o h => b c o (a c o h)
theorem Same.seq {K : PySem.W.Frag} {H H' : Hp} {a : Addr} {xs : List V} (e : Same H H') (h : SqL K H a xs) : SqL K H' a xs := by
  rcases h with (h | ⟨o, h⟩) | h
  · exact .inl (.inl (e _ _ h))
  · exact .inl (.inr ⟨o, e _ _ h⟩)
  · exact .inr h


section
variable {κ : Type} [DecidableEq κ]
end
end L2

namespace Bt
end Bt
namespace L3
open PySem PySem.Spec PyProof.Rows L2
abbrev St := L2.St


def lstO (its : List Value) : Obj := { cls := .type "list", data := .seq its.toArray its.length }
theorem lstO_snoc (its : List Value) (y : Value) : ({ cls := .type "list", data := .seq (its.toArray.push y) (its.length + 1) } : Obj) = lstO (its ++ [y]) := by
  show ({ cls := .type "list", data := .seq (its.toArray.push y) (its.length + 1) } : Obj) = { cls := .type "list", data := .seq (its ++ [y]).toArray (its ++ [y]).length }
  rw [List.length_append, List.length_singleton, List.push_toArray]

section
variable {prog : Program} {w : World} {A : Around} {R : Result → Shared → Prop} {s : Shared}

theorem compLoop_go {elt target iter : Expr} {ifs : List Expr} {scope : Scope} {pos : Pos} {it acc : Value} {env : Env} (I : Nat → Shared → Prop)
    (turn : ∀ n s, I n s → wpAny (model prog w) A (pyNext it) (fun r s1 => match r with
      | none => R (.ok .next) s1
      | some v => wpAny (model prog w) A (letOwnedTupleGo target it v) (fun _ s2 => wpAny (model prog w) A (assign target env v) (fun _ s3 =>
          wpAny (model prog w) A (forIn ifs true fun c r => if r = true then do let ok ← isTrue c env (eval c env); pure (ForInStep.yield ok) else pure (ForInStep.yield r)) (fun ok s4 =>
            if ok = true then wpAny (model prog w) A (eval elt env) (fun x s5 =>
              wpAny (model prog w) A (call (.builtin "list.append") [acc, x]) (fun _ s6 => ∃ m, m < n ∧ I m s6) (notedBy (model prog w) A env fun e s' => R (.error e) s') s5) (notedBy (model prog w) A env fun e s' => R (.error e) s') s4
            else ∃ m, m < n ∧ I m s4) (notedBy (model prog w) A env fun e s' => R (.error e) s') s3) (notedBy (model prog w) A env fun e s' => R (.error e) s') s2)
          (notedBy (model prog w) A env fun e s' => R (.error e) s') s1) (notedBy (model prog w) A env fun e s' => R (.error e) s') s)
    (n : Nat) (h : I n s) :
    codeAny (model prog w) A (.compLoop (.ListComp elt [⟨target, iter, ifs, 0⟩] scope pos) 0 it acc env) R s := by
  refine codeAny_loop rfl I (fun n s hI => ?_) n h
  show wpAny _ A ((compTurn (.ListComp elt [⟨target, iter, ifs, 0⟩] scope pos) 0 it acc env).onRaise (fun x => do noteFrame x env; theTreesLotGoes x)) _ _ s
  refine wpAny_noted ?_
  rw [compTurn_list]
  refine wpAny_bind (wpAny_standAt (wpAny_bind (wpAny_mono (turn n s hI) (fun r s1 h1 => ?_) fun _ _ h' => h')))
  cases r with
  | none => exact wpAny_pure h1
  | some v =>
    refine wpAny_bind (wpAny_mono h1 (fun _ s2 h2 => ?_) fun _ _ h' => h')
    refine wpAny_bind (wpAny_mono h2 (fun _ s3 h3 => wpAny_bind (wpAny_mono h3 (fun ok s4 h4 => ?_) fun _ _ h' => h')) fun _ _ h' => h')
    cases ok with
    | false => exact wpAny_pure ⟨rfl, h4⟩
    | true =>
      exact wpAny_bind (wpAny_bind (wpAny_mono h4 (fun x s5 h5 => wpAny_bind (wpAny_mono h5 (fun _ s6 h6 => wpAny_pure (wpAny_pure ⟨rfl, h6⟩)) fun _ _ h' => h')) fun _ _ h' => h'))
end


def cxComp (X : Cx) (scope : Scope) (cl : List (Str × Addr)) (own : List Str) (fr : List (Str × Nat)) (C : Addr) (s2 : Shared) (H2 : Hp) (fp : List Addr) : Cx :=
  { prog := X.prog, w := X.w, K := X.K, mg := X.mg, base := X.base, A := X.A, N := own ++ fr.map (·.1), s₀ := s2, H₀ := H2, env := compEnvC scope cl C X.env, outer := X.stack, stack := X.stack,
    ex := fp, fn := fun _ => false, calm := X.calm, pn := [], xe := fun _ _ => False }

def innerS (own : List Str) (fr : List (Str × Nat)) (σ : St) : St := own.map (fun _ => none) ++ fr.map fun p => (σ[p.2]?).join
def ClOk (env : Env) : List (Str × Addr) → Prop
  | [] => True
  | (n, c) :: r => env.cells.lookup n = some c ∧ ClOk env r
theorem ClOk.get {env : Env} : ∀ {cl : List (Str × Addr)} {x : Str} {c : Addr}, ClOk env cl → cl.lookup x = some c → env.cells.lookup x = some c
  | [], _, _, _, h => by simp at h
  | (n, d) :: r, x, c, ok, h => by
    rw [List.lookup_cons] at h
    cases e : x == n with
    | true =>
      rw [e] at h
      have e' : x = n := by simpa using e
      cases h
      rw [e']
      exact ok.1
    | false =>
      rw [e] at h
      exact ClOk.get ok.2 h
def CellK (sc : Scope) (x : Str) : Prop := sc.names.lookup x = some .cell ∨ sc.names.lookup x = some .free
def FrOk (X : Cx) (scope : Scope) (cl : List (Str × Addr)) : List (Str × Nat) → Prop
  | [] => True
  | (x, j) :: r => (X.N[j]? = some x ∧ CellK X.env.scope x ∧ CellK (relabel scope X.env) x ∧ (cl.lookup x).isSome = true) ∧ FrOk X scope cl r
theorem FrOk.get {X : Cx} {scope : Scope} {cl : List (Str × Addr)} : ∀ {fr : List (Str × Nat)} {i : Nat} {p : Str × Nat}, FrOk X scope cl fr → fr[i]? = some p →
    X.N[p.2]? = some p.1 ∧ CellK X.env.scope p.1 ∧ CellK (relabel scope X.env) p.1 ∧ (cl.lookup p.1).isSome = true
  | [], _, _, _, h => by simp at h
  | (x, j) :: r, 0, p, ok, h => by
    simp at h
    subst h
    exact ok.1
  | (x, j) :: r, i + 1, p, ok, h => FrOk.get (i := i) ok.2 (by simpa using h)
structure CompSc (X : Cx) (scope : Scope) (cl : List (Str × Addr)) (own : List Str) (fr : List (Str × Nat)) : Prop where
  clos : closureFor scope X.env = pure cl
  cells : ClOk X.env cl
  frs : FrOk X scope cl fr
  kind : scope.kind = .function
  nocell : ∀ y ∈ scope.names, y.2 ≠ .cell
  names : ∀ y ∈ scope.names, y.2 = .local → scope.names.lookup y.1 = some .local
  has : (scope.names.all fun y => y.2 != .free || (cl.lookup y.1).isSome) = true

theorem lookup_relabel_has {env : Env} {cl : List (Str × Addr)} : ∀ {names : List (Str × NameKind)} {x : Str}, (∀ y ∈ names, y.2 ≠ .cell) → (names.all fun y => y.2 != .free || (cl.lookup y.1).isSome) = true →
    ((names.map fun (n, k) => if (k == NameKind.free && env.scope.kind == .function && env.kindOf n == some .cell) then (n, NameKind.cell) else (n, k)).lookup x = some .cell ∨
     (names.map fun (n, k) => if (k == NameKind.free && env.scope.kind == .function && env.kindOf n == some .cell) then (n, NameKind.cell) else (n, k)).lookup x = some .free) → ∃ c, cl.lookup x = some c
  | [], _, _, _, h => by rcases h with h | h <;> simp at h
  | (n, k) :: r, x, nc, ha, h => by
    rw [List.all_cons, Bool.and_eq_true] at ha
    have ih := @lookup_relabel_has env cl r x (fun y hy => nc y (List.mem_cons_of_mem _ hy)) ha.2
    have nk : k ≠ .cell := nc (n, k) List.mem_cons_self
    have hk := ha.1
    cases hx : x == n with
    | true =>
      have ex : x = n := by simpa using hx
      subst ex
      by_cases hf : k = .free
      · subst hf
        have z : (cl.lookup x).isSome = true := by simpa using hk
        exact Option.isSome_iff_exists.mp z
      · exfalso
        have hb : (k == NameKind.free) = false := by simpa using hf
        rcases h with h | h
        · rw [List.map_cons] at h
          simp only [hb, Bool.false_and, Bool.false_eq_true, if_false, List.lookup_cons, beq_self_eq_true] at h
          exact nk (Option.some.inj h)
        · rw [List.map_cons] at h
          simp only [hb, Bool.false_and, Bool.false_eq_true, if_false, List.lookup_cons, beq_self_eq_true] at h
          exact hf (Option.some.inj h)
    | false =>
      refine ih ?_
      rcases h with h | h
      · left
        rw [List.map_cons] at h
        by_cases hc : (k == NameKind.free && env.scope.kind == .function && env.kindOf n == some .cell) = true
        · simp only [hc, if_true, List.lookup_cons, hx] at h; exact h
        · simp only [hc, Bool.false_eq_true, if_false, List.lookup_cons, hx] at h; exact h
      · right
        rw [List.map_cons] at h
        by_cases hc : (k == NameKind.free && env.scope.kind == .function && env.kindOf n == some .cell) = true
        · simp only [hc, if_true, List.lookup_cons, hx] at h; exact h
        · simp only [hc, Bool.false_eq_true, if_false, List.lookup_cons, hx] at h; exact h


def PTs (Y : Cx) (ifs : List Expr) (t : TT) : Prop :=
  ∀ (pins : List (Addr × Obj)) (s : Shared) (σ : St) (H : Hp) (Q : Bool → Hp → Prop), Inv Y pins σ H s → t σ H Q →
    wpAny (model Y.prog Y.w) Y.A (forIn ifs true fun c r => if r = true then do let ok ← isTrue c Y.env (eval c Y.env); pure (ForInStep.yield ok) else pure (ForInStep.yield r)) (TP Y pins σ Q) Y.xe s
def tTrue : TT := fun _ H Q => Q true H
theorem pts_nil {Y : Cx} : PTs Y [] tTrue := fun _ _ _ H _ I h => wpAny_tests_nil ⟨H, I, h⟩
theorem pts_one {Y : Cx} {c : Expr} {t : TT} (h : PT Y c t) : PTs Y [c] t := fun pins s σ H Q I hw => wpAny_tests_one (h pins s σ H Q I hw)


def tComp (own : List Str) (fr : List (Str × Nat)) (wi : TI) (g : TG) (tc : TT) (te : TE) (fin : List V → Hp → Prop) : St → Hp → Prop := fun σ H => wi σ H fun J H1 =>
  ∃ W : Nat → Nat → List V → St → Hp → Prop, (∃ m, W 0 m [] (innerS own fr σ) H1) ∧ ∀ i m ys σ' H', W i m ys σ' H' →
    (J.stop i H' ∧ ys.length ≤ sizeLine ∧ fin ys H') ∨
    (J.go i H' ∧ ∃ N : List V → St → Hp → Prop, (∀ ys2 σ2 H2, N ys2 σ2 H2 → ys2.length ≤ sizeLine ∧ ∃ m', m' < m ∧ W (i + 1) m' ys2 σ2 H2) ∧
      ∀ x H2, J.yld i H' x H2 → g x σ' H2 fun σ3 H3 => tc σ3 H3 fun b H4 => if b = true then te σ3 H4 fun y H5 => N (ys ++ [y]) σ3 H5 else N ys σ3 H4)


structure Off (X : Cx) (pins : List (Addr × Obj)) (H : Hp) (C : Addr) : Prop where
  none : H C = none
  loc : C ≠ X.env.locals
  above : X.s₀.heap.objs.size ≤ C
  cell : ∀ x c, X.env.cells.lookup x = some c → c ≠ C
  pin : ∀ p ∈ X.pn ++ pins, p.1 ≠ C

section
variable {X : Cx} {tg elt iter : Expr} {ifs : List Expr} {scope : Scope} {cl : List (Str × Addr)} {own : List Str} {fr : List (Str × Nat)} {wi : TI} {g : TG} {tc : TT} {te : TE} {pos : Pos}

theorem comp_core (hc : X.calm = true) (S : CompSc X scope cl own fr) (hi : PI X tg iter wi) (hg : ∀ C s2 H2 fp, PG (cxComp X scope cl own fr C s2 H2 fp) tg g)
    (ht : ∀ C s2 H2 fp, PTs (cxComp X scope cl own fr C s2 H2 fp) ifs tc) (he : ∀ C s2 H2 fp, PE (cxComp X scope cl own fr C s2 H2 fp) elt te)
    {pins : List (Addr × Obj)} {s : Shared} {σ : St} {H : Hp} {fin : List V → Hp → Prop} (I : Inv X pins σ H s) (h : tComp own fr wi g tc te fin σ H)
    {RR : Value → Addr → Result → Shared → Prop}
    (hR : ∀ (D C : Addr) (s4 : Shared) (H3 : Hp) (ys : List V) (m : Str → Option Value), H3 D = none → Inv X pins σ (upd H3 D (.lst ys)) s4 → s4.heap.Ns C m → Off X pins (upd H3 D (.lst ys)) C → fin ys H3 → RR (.ref D) C (.ok .next) s4) :
    wpAny (model X.prog X.w) X.A (eval iter X.env) (fun x s1 => wpAny (model X.prog X.w) X.A (pyIter x) (fun itv s2 => wpAny (model X.prog X.w) X.A (newList []) (fun acc s3 =>
      wpAny (model X.prog X.w) X.A (newFunctionEnv scope X.env.globals cl [] X.env.qual none .none (some X.env)) (fun cenv s4 =>
        codeAny (model X.prog X.w) X.A (.compStart (.ListComp elt [⟨tg, iter, ifs, 0⟩] scope pos) 0 itv acc { cenv with scope := relabel scope X.env }) (RR acc cenv.locals) s4) X.xe s3) X.xe s2) X.xe s1) X.xe s := by
  refine thn (hi pins s σ H _ I h) fun v s1 h1 => thn h1 fun itv s2 h2 => ?_
  obtain ⟨it, fp, tn, J, H2, rfl, I2, T, st2, f2, W, ⟨m0, w0⟩, turn⟩ := h2
  refine wpAny_newObj_type (wpAny_newFunctionEnv S.nocell (by intro y hy; simp at hy) (fun h1 hns1 hsb1 => ?_) S.kind)
  dsimp only at hns1 hsb1 ⊢
  generalize hHP : s2.heap.push { cls := .type "list", dict := none, data := .seq ([] : List Value).toArray } = HP at hns1 hsb1 ⊢
  have hC : HP.objs.size = s2.heap.objs.size + 1 := by rw [← hHP, Heap.size_push]
  have hDC : s2.heap.objs.size ≠ HP.objs.size := by rw [hC]; exact Nat.ne_of_lt (Nat.lt_succ_self _)
  have below : ∀ b, b < s2.heap.objs.size → b ≠ HP.objs.size ∧ b ≠ s2.heap.objs.size := fun b hb => ⟨by rw [hC]; exact Nat.ne_of_lt (Nat.lt_succ_of_lt hb), Nat.ne_of_lt hb⟩
  have old : ∀ b o, s2.heap.get? b = some o → h1.get? b = some o := fun b o e => hsb1.extBut b o (below b (Heap.lt_size e)).1 (Heap.get?_push_of_some _ (hHP ▸ Heap.get?_push_of_some _ e))
  have hacc : h1.get? s2.heap.objs.size = some (lstO []) := hsb1.extBut _ _ hDC (Heap.get?_push_of_some _ (hHP ▸ Heap.get?_push_size _ rfl))
  have hfpo : ∀ b ∈ fp, b < s2.heap.objs.size := fun b hb => by obtain ⟨o, e, _⟩ := T.obj 0 _ st2 b hb; exact Heap.lt_size e
  have hcells : ∀ x c, cl.lookup x = some c → X.env.cells.lookup x = some c := fun x c e => S.cells.get e
  have hcD : ∀ x c, X.env.cells.lookup x = some c → c < s2.heap.objs.size := fun x c e => by obtain ⟨v, q⟩ := I2.cell x c e; exact q.lt
  have st1 : tn 0 h1 := T.keep _ _ _ st2 fun b _ o e => old b o e
  have hDfree : H2 s2.heap.objs.size = none := I2.hok.fresh (Nat.le_refl _)
  have hCfree : H2 HP.objs.size = none := I2.hok.fresh (by rw [hC]; exact Nat.le_succ _)
  have nostk : ∀ b, s2.heap.objs.size ≤ b → b ∉ L2.frs X.stack := fun b hb hm => by
    rcases List.mem_cons.mp (I2.stkSub b hm) with e | e
    · exact absurd I2.lt (by rw [← e]; exact Nat.not_lt.mpr hb)
    · exact I2.nofs hb e
  have hDlt : s2.heap.objs.size < h1.objs.size := Heap.lt_size hacc
  -- the block's context
  have YOk : (cxComp X scope cl own fr HP.objs.size s2 H2 fp).Ok := by
    refine ⟨I2.ok.mod, S.kind, I2.ok.glob, I2.ok.blt, ?_, fun x y c e1 e2 => I2.ok.inj x y c (hcells _ _ e1) (hcells _ _ e2), fun x hx => ?_, fun x c hf => ?_, I2.ok.hd, I2.ok.frames, .inl rfl, fun b hb => ⟨?_, fun x c e => ?_⟩,
      I2.bs, Nat.le_trans I2.ok.bsz I2.sz, fun b o e hb => ?_, fun b hb hm => ?_, I2.stack, I2.stkFree⟩
    · show s2.heap.objs.size ≤ HP.objs.size
      rw [hC]; exact Nat.le_succ _
    · exact lookup_relabel_has (env := X.env) S.nocell S.has hx
    · cases hf
    · exact (below b (hfpo b hb)).1
    · exact (f2 b hb).2.2.2.2.1 x c (hcells _ _ e)
    · rcases (f2 b hb).2.2.2.1 with z | z
      · exact I2.ok.noex b o e z
      · exact absurd (Heap.lt_size (I2.ok.bs b o e).1) (Nat.not_lt.mpr z)
    · rcases List.mem_cons.mp (I2.stkSub b hm) with e | e
      · exact (f2 b hb).2.1 e
      · exact (f2 b hb).2.2.1 e
  have hpinD : ∀ {h' : Heap} {its : List Value} {H' : Hp}, h'.get? s2.heap.objs.size = some (lstO its) → H' s2.heap.objs.size = none → ∀ p ∈ ([(s2.heap.objs.size, lstO its)] : List (Addr × Obj)),
      h'.get? p.1 = some p.2 ∧ H' p.1 = none ∧ p.1 ≠ HP.objs.size ∧ p.1 ∉ L2.frs X.stack ∧ ∀ v, p.2.data ≠ .cell v := fun {h' its H'} e n p hp => by
    have e1 : p = (s2.heap.objs.size, lstO its) := by simpa using hp
    subst e1
    exact ⟨e, n, hDC, nostk _ (Nat.le_refl _), fun v z => by cases z⟩
  have IY : Inv (cxComp X scope cl own fr HP.objs.size s2 H2 fp) [(s2.heap.objs.size, lstO [])] (innerS own fr σ) H2 { s2 with heap := h1, toks := s2.toks + ([] : List (Str × Value)).length } := by
    refine ⟨YOk, rfl, I2.bare, Un.kept old, ⟨_, hns1, fun i x v e1 e2 e3 => ?_⟩, fun x c e => ?_, hCfree, fun x c e => I2.freeC x c (hcells _ _ e), hpinD hacc hDfree, I2.hok.kept old, ?_⟩
    · have e1' : (own ++ fr.map (·.1))[i]? = some x := e1
      have e2' : (own.map (fun _ => (none : Option V)) ++ fr.map fun p => (σ[p.2]?).join)[i]? = some (some v) := e2
      by_cases hi' : i < own.length
      · rw [List.getElem?_append_left (by simpa using hi'), List.getElem?_map] at e2'
        rw [List.getElem?_eq_getElem hi'] at e2'
        cases e2'
      · rw [List.getElem?_append_right (by simpa using hi'), List.getElem?_map] at e2'
        rw [List.getElem?_append_right (Nat.not_lt.mp hi'), List.getElem?_map] at e1'
        rw [List.length_map] at e2'
        cases ef : fr[i - own.length]? with
        | none => rw [ef] at e1'; cases e1'
        | some p =>
          rw [ef] at e1' e2'
          have ex : p.1 = x := Option.some.inj e1'
          have ev : (σ[p.2]?).join = some v := Option.some.inj e2'
          obtain ⟨hN, hk, hk2, hs⟩ := S.frs.get ef
          have eσ : σ[p.2]? = some (some v) := by
            cases q : σ[p.2]? with
            | none => rw [q] at ev; cases ev
            | some o => rw [q] at ev; exact congrArg some ev
          obtain ⟨m, hn, hl⟩ := I2.loc
          obtain ⟨u, r, l⟩ := hl p.2 p.1 v hN eσ (by rcases hk with k | k; exact .inr (.inl k); exact .inr (.inr k))
          subst ex
          obtain ⟨c, ec⟩ := Option.isSome_iff_exists.mp hs
          refine ⟨u, r, .inr ⟨hk2, c, ec, ?_⟩⟩
          rcases l with ⟨hl1, _⟩ | ⟨_, c', ec', z⟩
          · have hl1' : X.env.scope.names.lookup p.1 = some .local := hl1
            rcases hk with z | z
            · rw [z] at hl1'; cases hl1'
            · rw [z] at hl1'; cases hl1'
          · have := hcells _ _ ec
            rw [ec'] at this
            cases this
            exact z.keeps old
    · obtain ⟨v, z⟩ := I2.cell x c (hcells _ _ e)
      exact ⟨v, z.keeps old⟩
    · show (own.map (fun _ => (none : Option V)) ++ fr.map fun p => (σ[p.2]?).join).length = (own ++ fr.map (·.1)).length
      simp
  have stat : ∀ {its : List Value} {H' : Hp}, (∀ b ∈ fp, H' b = none) → ∀ b ∈ fp, FpOk (cxComp X scope cl own fr HP.objs.size s2 H2 fp) [(s2.heap.objs.size, lstO its)] H' b := fun {its H'} hn b hb =>
    ⟨hn b hb, (below b (hfpo b hb)).1, fun hm => by
        rcases List.mem_cons.mp (I2.stkSub b hm) with e | e
        · exact (f2 b hb).2.1 e
        · exact (f2 b hb).2.2.1 e, .inl hb, fun x c e => (f2 b hb).2.2.2.2.1 x c (hcells _ _ e), fun p hp => by
        have e1 : p = (s2.heap.objs.size, lstO its) := by
          have hp' : p ∈ ([] : List (Addr × Obj)) ++ [(s2.heap.objs.size, lstO its)] := hp
          simpa using hp'
        subst e1
        exact (below b (hfpo b hb)).2.symm⟩
  have loop : ∀ s3 : Shared, s3 = { s2 with heap := h1, toks := s2.toks + ([] : List (Str × Value)).length } →
      codeAny (model X.prog X.w) X.A (.compLoop (.ListComp elt [⟨tg, iter, ifs, 0⟩] scope pos) 0 (.ref it) (.ref s2.heap.objs.size) (compEnvC scope cl HP.objs.size X.env)) (RR (.ref s2.heap.objs.size) HP.objs.size) s3 := by
    rintro s3 rfl
    refine compLoop_go (fun n s' => ∃ i ys its σ' H', Inv (cxComp X scope cl own fr HP.objs.size s2 H2 fp) [(s2.heap.objs.size, lstO its)] σ' H' s' ∧ Vals ys its ∧ tn i s'.heap ∧ (∀ b ∈ fp, H' b = none) ∧ W i n ys σ' H') ?_ m0
      ⟨0, [], [], innerS own fr σ, H2, IY, .nil, st1, fun b hb => (f2 b hb).1, w0⟩
    rintro n s3 ⟨i, ys, its, σ3, H3, I3, rv, st3, fr3, w3⟩
    rcases turn i n ys σ3 H3 w3 with ⟨stop, hz, qn⟩ | ⟨go, N, hN, step⟩
    · refine wpAny_mono (T.done (cxComp X scope cl own fr HP.objs.size s2 H2 fp) rfl rfl rfl hc i _ s3 σ3 H3 (fun _ _ => False) I3 (stat fr3) st3 stop) (fun r s4 h4 => ?_) fun _ _ f => f.elim
      obtain ⟨hr, I4⟩ := h4
      subst hr
      obtain ⟨eD, nD, _⟩ := I4.pin (s2.heap.objs.size, lstO its) (by simp [cxComp])
      obtain ⟨m, hn, _⟩ := id I4.loc
      have nC : H3 HP.objs.size = none := I4.free
      have bu := I4.base
      have J4 : Inv X pins σ (upd H3 s2.heap.objs.size (.lst ys)) s4 := by
        refine I2.call' (ch := fp) I4.os ⟨fun b o e n hb hx => bu.keep b o e n hb hx, fun b o e n hb hx => bu.slot b o e n hb hx, fun b o e n hx => ?_, fun b o e hx => bu.there b o e hx, fun b xs e => ?_, fun b o u e => ?_, fun b ps e => ?_⟩ ?_ I4.bare ?_
        · rw [upd_ne (below b (Heap.lt_size e)).2]; exact bu.free b o e n hx
        · have z := bu.tups b xs e
          rw [upd_ne (ne_of_none z nD)]; exact z
        · have z := bu.frzs b o u e
          rw [upd_ne (ne_of_none z nD)]; exact z
        · obtain ⟨more, z⟩ := bu.tbls b ps e
          exact ⟨more, by rw [upd_ne (ne_of_none z nD)]; exact z⟩
        · intro b o e
          by_cases hb : b = s2.heap.objs.size
          · subst hb
            rw [upd_same] at e
            cases e
            exact ⟨hz, its, its.length, rv, eD⟩
          · rw [upd_ne hb] at e
            exact (I4.hok b o e).stay (fun c u _ q => q) (fun c q => by rw [upd_ne (ne_of_none q nD)]; exact q) fun c xs q => by rw [upd_ne (ne_of_none q nD)]; exact q
        · intro b hb
          exact ⟨(f2 b hb).2.2.2.1, (f2 b hb).2.1, (f2 b hb).2.2.2.2.1, (f2 b hb).2.2.2.2.2⟩
      refine hR _ _ s4 H3 ys m nD J4 hn ⟨?_, ?_, ?_, ?_, ?_⟩ qn
      · rw [upd_ne hDC.symm]; exact nC
      · exact Nat.ne_of_gt (Nat.lt_of_lt_of_le I2.lt (by rw [hC]; exact Nat.le_succ _))
      · exact Nat.le_trans I2.sz (by rw [hC]; exact Nat.le_succ _)
      · exact fun x c e => (below c (hcD x c e)).1
      · exact fun p hp => (below p.1 (Heap.lt_size (I2.pin p hp).1)).1
    · refine wpAny_mono (T.item (cxComp X scope cl own fr HP.objs.size s2 H2 fp) rfl rfl rfl hc i _ s3 σ3 H3 (fun _ _ => False) I3 (stat fr3) st3 go) (fun r s4 h4 => ?_) fun _ _ f => f.elim
      obtain ⟨u, hr, h4⟩ := h4
      subst hr
      refine wpAny_mono h4 (fun _ s5 h5 => ?_) fun _ _ f => f.elim
      obtain ⟨x, H5, I5, r5, y5, st5, fr5⟩ := h5
      have I5' := I5.pinned (stat fr5) (T.obj _ _ st5)
      refine wpAny_mono (hg _ _ _ _ _ s5 σ3 H5 x u _ I5' r5 (step x H5 y5)) (fun _ s6 h6 => ?_) fun _ _ f => f.elim
      obtain ⟨σ6, H6, I6, q6⟩ := h6
      refine wpAny_mono (ht _ _ _ _ _ s6 σ6 H6 _ I6 q6) (fun ok s7 h7 => ?_) fun _ _ f => f.elim
      obtain ⟨H7, I7, q7⟩ := h7
      have keepT : ∀ {σ8 : St} {H8 : Hp} {s8 : Shared} {l : List (Addr × Obj)}, Inv (cxComp X scope cl own fr HP.objs.size s2 H2 fp) (l ++ pinsAt fp s5.heap) σ8 H8 s8 → tn (i + 1) s8.heap ∧ ∀ b ∈ fp, H8 b = none := fun {σ8 H8 s8 l} I8 => by
        refine ⟨T.keep _ _ _ st5 fun b hb o e => (I8.pin (b, o) (List.mem_append_right _ (List.mem_append_right _ (mem_pinsAt hb e)))).1, fun b hb => ?_⟩
        obtain ⟨o, e, _⟩ := T.obj _ _ st5 b hb
        exact (I8.pin (b, o) (List.mem_append_right _ (List.mem_append_right _ (mem_pinsAt hb e)))).2.1
      cases ok with
      | false =>
        rw [if_neg Bool.false_ne_true] at q7 ⊢
        obtain ⟨_, m', hm, w7⟩ := hN _ _ _ q7
        exact ⟨m', hm, i + 1, ys, its, σ6, H7, I7.unpinned, rv, (keepT I7).1, (keepT I7).2, w7⟩
      | true =>
        rw [if_pos rfl] at q7 ⊢
        refine wpAny_mono (he _ _ _ _ _ s7 σ6 H7 _ I7 q7) (fun y s8 h8 => ?_) fun _ _ f => f.elim
        obtain ⟨yv, H8, I8, r8, n8⟩ := h8
        obtain ⟨hlt', m', hm, w8⟩ := hN _ _ _ n8
        have hlt : ys.length < sizeLine := by rw [List.length_append] at hlt'; exact hlt'
        obtain ⟨eD, nD, nL, _, _⟩ := I8.pin (s2.heap.objs.size, lstO its) (by simp [cxComp])
        refine append_at (its := its.toArray) (n := its.length) (hsz := by rw [List.size_toArray, ← rv.length]; exact Nat.le_of_lt hlt) eD fun h9 sb9 eD9 => ?_
        have I8p : Inv (cxComp X scope cl own fr HP.objs.size s2 H2 fp) (pinsAt fp s5.heap) σ6 H8 s8 := I8.pins_of fun p hp => I8.pin p (List.mem_append_right _ (List.mem_append_right _ hp))
        have I9p : Inv (cxComp X scope cl own fr HP.objs.size s2 H2 fp) (pinsAt fp s5.heap) σ6 H8 { s8 with heap := h9 } :=
          I8p.turned (t' := s8.toks) (fun b o hb e => (sb9.2 b hb).trans e) nD nL (.inr (Nat.le_refl _)) (fun x c e => (below c (hcD x c (hcells _ _ e))).2) fun p hp => by
            have hp' : p ∈ pinsAt fp s5.heap := by simpa [cxComp] using hp
            exact (below p.1 (hfpo _ (of_pinsAt hp').1)).2
        have eD9' : h9.get? s2.heap.objs.size = some (lstO (its ++ [y])) := eD9.trans (congrArg some (lstO_snoc its y))
        have I9 : Inv (cxComp X scope cl own fr HP.objs.size s2 H2 fp) [(s2.heap.objs.size, lstO (its ++ [y]))] σ6 H8 { s8 with heap := h9 } := I9p.pins_of (hpinD eD9' nD)
        have K9 := keepT (l := []) (by simpa using I9p)
        exact ⟨m', hm, i + 1, ys ++ [yv], its ++ [y], σ6, H8, I9, rv.append (.cons r8 .nil), K9.1, K9.2, w8⟩
  exact codeAny_compStart_list (loop _ rfl) (T.self _ 0 _ _ _ st1 (loop _ rfl))


def tCompE (own : List Str) (fr : List (Str × Nat)) (wi : TI) (g : TG) (tc : TT) (te : TE) : TE := fun σ H Q => tComp own fr wi g tc te (fun ys H3 => ∀ p, H3 p = none → Q (.ref p) (upd H3 p (.lst ys))) σ H
theorem pe_comp (hc : X.calm = true) (S : CompSc X scope cl own fr) (hi : PI X tg iter wi) (hg : ∀ C s2 H2 fp, PG (cxComp X scope cl own fr C s2 H2 fp) tg g)
    (ht : ∀ C s2 H2 fp, PTs (cxComp X scope cl own fr C s2 H2 fp) ifs tc) (he : ∀ C s2 H2 fp, PE (cxComp X scope cl own fr C s2 H2 fp) elt te)
    (hs : ∀ x, foldedSetIterable iter X.env x = pure x := by intro _; rfl) : PE X (.ListComp elt [⟨tg, iter, ifs, 0⟩] scope pos) (tCompE own fr wi g tc te) := by
  intro pins s σ H Q I h
  rw [eval_ListComp]
  refine wpAny_comprehension_free (use := none) rfl hs S.clos S.kind S.names ?_
  refine comp_core hc S hi hg ht he I h fun D C s4 H3 ys m nD J hn off q => ?_
  refine ⟨m, hn, fun h' sb => ⟨.ref D, _, J.turned (t' := s4.toks) (fun b o hb e => (sb.2 b hb).trans e) off.none off.loc (.inr off.above) off.cell off.pin, rfl, q D nD⟩⟩

def tCompS (i : Nat) (own : List Str) (fr : List (Str × Nat)) (wi : TI) (g : TG) (tc : TT) (te : TE) : TS := fun D σ H => tComp own fr wi g tc te (fun ys H3 => ∀ p, H3 p = none → D.nx (σ.set i (some (.ref p))) (upd H3 p (.lst ys))) σ H
theorem ps_setC {i : Nat} {y : Str} {py spos : Pos} (hN : X.N.Nodup) (hi' : X.N[i]? = some y) (hx : X.env.scope.names.lookup y = some .local) (hc : X.calm = true) (S : CompSc X scope cl own fr) (hi : PI X tg iter wi) (hg : ∀ C s2 H2 fp, PG (cxComp X scope cl own fr C s2 H2 fp) tg g)
    (ht : ∀ C s2 H2 fp, PTs (cxComp X scope cl own fr C s2 H2 fp) ifs tc) (he : ∀ C s2 H2 fp, PE (cxComp X scope cl own fr C s2 H2 fp) elt te)
    (hsw : swapsWith (.ListComp elt [⟨tg, iter, ifs, 0⟩] scope pos) (some (.Name y py)) spos.line X.env = pure true := by rfl)
    (hs : ∀ x, foldedSetIterable iter X.env x = pure x := by intro _; rfl) : PS X (.Assign [.Name y py] (.ListComp elt [⟨tg, iter, ifs, 0⟩] scope pos) spos) (tCompS i own fr wi g tc te) := by
  intro pins s σ H D I h
  rw [exec_Assign_Name_used _ _ _ _ hsw]
  refine wpAny_bind (wpAny_standAt (wpAny_bind ?_))
  show wpAny _ X.A (do let _ ← comprehension (.ListComp elt [⟨tg, iter, ifs, 0⟩] scope pos) scope X.env _ (newList []) false (eval iter X.env) (some (assign (.Name y py) X.env))) _ _ s
  refine wpAny_bind (wpAny_mono (wpAny_comprehension_free (use := some (assign (.Name y py) X.env)) (Q := fun _ s' => SP X pins D .next s') rfl hs S.clos S.kind S.names ?_) (fun _ s' hq => wpAny_pure (wpAny_pure hq)) fun _ _ e => e)
  refine comp_core hc S hi hg ht he I h fun Da C s4 H3 ys m nD J hn off q => ?_
  show wpAny _ X.A (assign (.Name y py) X.env (.ref Da)) _ _ _
  refine wpAny_assign_Name (store_ok2 J hN hi' (.inl hx) (v := .ref Da) rfl (fun s5 I5 hsb => ?_) (.inr hx))
  obtain ⟨a, sb, ha⟩ := hsb
  have nCa : C ≠ a := by
    rcases ha with z | z
    · rw [z]; exact off.loc
    · exact (off.cell _ _ z).symm
  refine ⟨m, hn.sameBut sb nCa, fun h' sb' => ⟨_, _, I5.turned (t' := s5.toks) (fun b o hb e => (sb'.2 b hb).trans e) off.none off.loc (.inr off.above) off.cell off.pin, q Da nD⟩⟩
end
section
variable {K : PySem.W.Frag} {a : Addr} {xs : List V} {own : List Str} {fr : List (Str × Nat)} {g : TG} {tc : TT} {te : TE} {fin : List V → Hp → Prop} {σ : St} {H : Hp}

def CompW (J : It) (g : TG) (tc : TT) (te : TE) (fin : List V → Hp → Prop) (σ0 : St) (H1 : Hp) : Prop :=
  ∃ W : Nat → Nat → List V → St → Hp → Prop, (∃ m, W 0 m [] σ0 H1) ∧ ∀ i m ys σ' H', W i m ys σ' H' →
    (J.stop i H' ∧ ys.length ≤ sizeLine ∧ fin ys H') ∨
    (J.go i H' ∧ ∃ N : List V → St → Hp → Prop, (∀ ys2 σ2 H2, N ys2 σ2 H2 → ys2.length ≤ sizeLine ∧ ∃ m', m' < m ∧ W (i + 1) m' ys2 σ2 H2) ∧
      ∀ x H2, J.yld i H' x H2 → g x σ' H2 fun σ3 H3 => tc σ3 H3 fun b H4 => if b = true then te σ3 H4 fun y H5 => N (ys ++ [y]) σ3 H5 else N ys σ3 H4)
theorem comp_list {σ0 : St} (Pv : Nat → List V → St → Hp → Prop) (h0 : Pv 0 [] σ0 H) (hl : ∀ i ys σ H, i ≤ xs.length → Pv i ys σ H → SqL K H a xs ∧ ys.length ≤ sizeLine)
    (hs : ∀ i x ys σ H, xs[i]? = some x → Pv i ys σ H → g x σ H fun σ3 H3 => tc σ3 H3 fun b H4 => if b = true then te σ3 H4 fun y H5 => Pv (i + 1) (ys ++ [y]) σ3 H5 else Pv (i + 1) ys σ3 H4)
    (hd : ∀ ys σ H, Pv xs.length ys σ H → fin ys H) : CompW (Itl K a) g tc te fin σ0 H := by
  refine ⟨fun i m ys σ H => m = xs.length - i ∧ i ≤ xs.length ∧ Pv i ys σ H, ⟨xs.length, by simp, Nat.zero_le _, h0⟩, ?_⟩
  rintro i m ys σ H ⟨rfl, hi, p⟩
  obtain ⟨q, hz⟩ := hl i ys σ H hi p
  by_cases hlt : i < xs.length
  · refine .inr ⟨⟨xs, xs[i], q, by simp [hlt]⟩, Pv (i + 1), fun ys2 σ2 H2 p' => ⟨(hl (i + 1) ys2 σ2 H2 hlt p').2, xs.length - (i + 1), by omega, rfl, hlt, p'⟩, fun x H2 y => ?_⟩
    obtain ⟨e, y⟩ := y
    subst e
    exact hs i x ys σ _ (y xs q) p
  · have e : i = xs.length := by omega
    subst e
    exact .inl ⟨⟨xs, q, Nat.le_refl _⟩, hz, hd ys σ H p⟩
theorem comp_range {σ0 : St} {lo : Int} {n : Nat} (Pv : Nat → List V → St → Hp → Prop) (h0 : Pv 0 [] σ0 H) (hl : ∀ i ys σ H, i ≤ n → Pv i ys σ H → ys.length ≤ sizeLine)
    (hs : ∀ i ys σ H, i < n → Pv i ys σ H → g (.int (lo + i)) σ H fun σ3 H3 => tc σ3 H3 fun b H4 => if b = true then te σ3 H4 fun y H5 => Pv (i + 1) (ys ++ [y]) σ3 H5 else Pv (i + 1) ys σ3 H4)
    (hd : ∀ ys σ H, Pv n ys σ H → fin ys H) : CompW (Itr lo n) g tc te fin σ0 H := by
  refine ⟨fun i m ys σ H => m = n - i ∧ i ≤ n ∧ Pv i ys σ H, ⟨n, by simp, Nat.zero_le _, h0⟩, ?_⟩
  rintro i m ys σ H ⟨rfl, hi, p⟩
  by_cases hlt : i < n
  · refine .inr ⟨hlt, Pv (i + 1), fun ys2 σ2 H2 p' => ⟨hl (i + 1) ys2 σ2 H2 hlt p', n - (i + 1), by omega, rfl, hlt, p'⟩, fun x H2 y => ?_⟩
    obtain ⟨e, y⟩ := y
    subst e y
    exact hs i ys σ _ hlt p
  · have e : i = n := by omega
    subst e
    exact .inl ⟨Nat.le_refl _, hl _ ys σ H hi p, hd ys σ H p⟩
end
end L3
namespace L3
open PySem PySem.Spec PyProof.Rows L2 PySem.SeqAt


theorem look_new {H : Hp} {p q : Addr} {o u : HO} (hq : H q = some u) (hp : H p = none) : upd H p o q = some u := by
  rw [upd_ne (ne_of_none hq hp)]; exact hq
theorem look_ne {H : Hp} {p q : Addr} {o : HO} {u : Option HO} (hne : q ≠ p) (hq : H q = u) : upd H p o q = u := by
  rw [upd_ne hne]; exact hq
theorem none_upd {H : Hp} {p q : Addr} {o : HO} (h : upd H p o q = none) : H q = none ∧ q ≠ p := by
  by_cases e : q = p
  · subst e; rw [upd_same] at h; cases h
  · rw [upd_ne e] at h; exact ⟨h, e⟩
theorem same_new {H : Hp} {p : Addr} {o : HO} (h : H p = none) : Same H (upd H p o) := fun b u q => look_new q h
theorem SqT_same {K : PySem.W.Frag} {H H' : Hp} {a : Addr} {xs : List V} (e : Same H H') (h : SqT K H a xs) : SqT K H' a xs := by
  rcases h with (h | ⟨o, h⟩) | h
  · exact .inl (.inl (e _ _ h))
  · exact .inl (.inr ⟨o, e _ _ h⟩)
  · exact .inr h


mutual
def Dp (K : PySem.W.Frag) (H : Hp) : PyData → V → Prop
  | .none, v => v = .non
  | .bool b, v => v = .bl b
  | .int i, v => v = .int i
  | .str x, v => v = .str x
  | .list ds, v => ∃ a xs, v = .ref a ∧ SqL K H a xs ∧ DpAll K H ds xs
  | .tuple ds, v => ∃ a xs, v = .ref a ∧ SqT K H a xs ∧ DpAll K H ds xs
  | .dict _, _ => False
def DpAll (K : PySem.W.Frag) (H : Hp) : List PyData → List V → Prop
  | [], vs => vs = []
  | d :: ds, vs => ∃ v r, vs = v :: r ∧ Dp K H d v ∧ DpAll K H ds r
end
theorem dpAll_ints {K : PySem.W.Frag} {H : Hp} : ∀ ns : List Int, DpAll K H (ns.map PyData.int) (ns.map V.int)
  | [] => by rw [List.map_nil, List.map_nil, DpAll]
  | n :: ns => by
    rw [List.map_cons, List.map_cons, DpAll]
    exact ⟨_, _, rfl, by rw [Dp], dpAll_ints ns⟩
theorem dp_ints {K : PySem.W.Frag} {H : Hp} {a : Addr} {ns : List Int} (h : SqL K H a (ns.map V.int)) : Dp K H (.list (ns.map PyData.int)) (.ref a) := by
  rw [Dp]; exact ⟨a, _, rfl, h, dpAll_ints ns⟩
theorem dp_int {K : PySem.W.Frag} {H : Hp} (i : Int) : Dp K H (.int i) (.int i) := by rw [Dp]
theorem dp_str {K : PySem.W.Frag} {H : Hp} (x : Str) : Dp K H (.str x) (.str x) := by rw [Dp]
theorem dp_lst {K : PySem.W.Frag} {H : Hp} {a : Addr} {xs : List V} {ds : List PyData} (h : SqL K H a xs) (q : DpAll K H ds xs) : Dp K H (.list ds) (.ref a) := by
  rw [Dp]; exact ⟨a, _, rfl, h, q⟩
theorem dp_tup {K : PySem.W.Frag} {H : Hp} {a : Addr} {xs : List V} {ds : List PyData} (h : SqT K H a xs) (q : DpAll K H ds xs) : Dp K H (.tuple ds) (.ref a) := by
  rw [Dp]; exact ⟨a, _, rfl, h, q⟩
theorem dpAll_nil {K : PySem.W.Frag} {H : Hp} : DpAll K H [] [] := by rw [DpAll]
theorem dpAll_cons {K : PySem.W.Frag} {H : Hp} {d : PyData} {ds : List PyData} {v : V} {r : List V} (h : Dp K H d v) (q : DpAll K H ds r) : DpAll K H (d :: ds) (v :: r) := by
  rw [DpAll]; exact ⟨_, _, rfl, h, q⟩
theorem canLay_ints : ∀ ns : List Int, PyData.canLayAll0 (ns.map PyData.int) = true
  | [] => rfl
  | n :: ns => by
    rw [List.map_cons, PyData.canLayAll0, canLay_ints ns]; rfl
theorem depth_ints : ∀ ns : List Int, PyData.depthAll (ns.map PyData.int) = 0
  | [] => rfl
  | n :: ns => by
    rw [List.map_cons, PyData.depthAll, depth_ints ns]; rfl
theorem shaped_ints (ns : List Int) : shaped (.list (ns.map PyData.int)) = true := by
  unfold shaped
  rw [PyData.canLay0, canLay_ints, PyData.depth, depth_ints]; rfl

section
variable {X : Cx} {pins : List (Addr × Obj)} {σ : St} {H : Hp} {s : Shared}
mutual
theorem dp_reads (I : Inv X pins σ H s) : ∀ (d : PyData) (v : V) (u : Value), Dp X.K H d v → RelV v u → ∃ as, Reads s.heap u d as
  | .none, v, u, h, r => by
    rw [Dp] at h; subst h; cases (show u = Value.none from r); exact ⟨_, .none⟩
  | .bool b, v, u, h, r => by
    rw [Dp] at h; subst h; cases (show u = Value.bool b from r); exact ⟨_, .bool b⟩
  | .int i, v, u, h, r => by
    rw [Dp] at h; subst h; obtain ⟨t, e⟩ := (show ∃ t, u = Value.int i t from r); subst e; exact ⟨_, .int i t⟩
  | .str x, v, u, h, r => by
    rw [Dp] at h; subst h; obtain ⟨t, e⟩ := (show ∃ t, u = Value.str x t from r); subst e; exact ⟨_, .str x t⟩
  | .list ds, v, u, h, r => by
    rw [Dp] at h
    obtain ⟨a, xs, e, hq, ha⟩ := h
    subst e
    cases (show u = Value.ref a from r)
    obtain ⟨its, rv, pl, hz⟩ := I.list hq
    obtain ⟨o, ho, hc, n, hd⟩ := pl.isList
    obtain ⟨as, z⟩ := dpAll_reads I ds xs its ha rv
    exact ⟨_, .list ho hc hd (by simpa using z)⟩
  | .tuple ds, v, u, h, r => by
    rw [Dp] at h
    obtain ⟨a, xs, e, hq, ha⟩ := h
    subst e
    cases (show u = Value.ref a from r)
    obtain ⟨its, rv, pl, hz⟩ := I.tuple hq
    obtain ⟨o, ho, hc, n, hd⟩ := pl
    obtain ⟨as, z⟩ := dpAll_reads I ds xs its ha rv
    exact ⟨_, .tuple ho hc hd (by simpa using z)⟩
  | .dict _, v, u, h, r => by rw [Dp] at h; exact h.elim
theorem dpAll_reads (I : Inv X pins σ H s) : ∀ (ds : List PyData) (vs : List V) (us : List Value), DpAll X.K H ds vs → Vals vs us → ∃ as, ReadsAll s.heap us ds as
  | [], vs, us, h, r => by
    rw [DpAll] at h; subst h; cases r; exact ⟨_, .nil⟩
  | d :: ds, vs, us, h, r => by
    rw [DpAll] at h
    obtain ⟨v, rr, e, h1, h2⟩ := h
    subst e
    cases r with
    | cons r1 r2 =>
      obtain ⟨as, z1⟩ := dp_reads I d _ _ h1 r1
      obtain ⟨bs, z2⟩ := dpAll_reads I ds _ _ h2 r2
      exact ⟨_, .cons z1 z2⟩
end
end
def rEqD (K : PySem.W.Frag) : R2 := fun x y H Q => ∃ dx dy, Dp K H dx x ∧ Dp K H dy y ∧ shaped dx = true ∧ shaped dy = true ∧ Q (.bl (PyData.eqv dx dy)) H
def rNeD (K : PySem.W.Frag) : R2 := fun x y H Q => ∃ dx dy, Dp K H dx x ∧ Dp K H dy y ∧ shaped dx = true ∧ shaped dy = true ∧ Q (.bl (!PyData.eqv dx dy)) H

def rEqA (K : PySem.W.Frag) : R2 := fun x y H Q => rEq x y H Q ∨ rEqD K x y H Q
def rNeA (K : PySem.W.Frag) : R2 := fun x y H Q => rNe x y H Q ∨ rNeD K x y H Q
section
variable {X : Cx}
theorem op_eqD (hu : X.A.units + 64 < cLine) : OpR X (compareOp .Eq) (rEqD X.K) := by
  intro pins s σ H x y v u Q I rx ry h
  obtain ⟨dx, dy, hx, hy, sx, sy, q⟩ := h
  obtain ⟨as, ra⟩ := dp_reads I dx x v hx rx
  obtain ⟨bs, rb⟩ := dp_reads I dy y u hy ry
  exact eq_dataH ra rb sx sy hu ⟨.bl _, H, I, rfl, q⟩
theorem op_neD (hu : X.A.units + 64 < cLine) : OpR X (compareOp .NotEq) (rNeD X.K) := by
  intro pins s σ H x y v u Q I rx ry h
  obtain ⟨dx, dy, hx, hy, sx, sy, q⟩ := h
  obtain ⟨as, ra⟩ := dp_reads I dx x v hx rx
  obtain ⟨bs, rb⟩ := dp_reads I dy y u hy ry
  exact ne_dataH ra rb sx sy hu ⟨.bl _, H, I, rfl, q⟩
theorem op_eqA (hu : X.A.units + 64 < cLine) : OpR X (compareOp .Eq) (rEqA X.K) := op_eq.or (op_eqD hu)
theorem op_neA (hu : X.A.units + 64 < cLine) : OpR X (compareOp .NotEq) (rNeA X.K) := op_ne.or (op_neD hu)
end
theorem canLay_of (d : PyData) (h : shaped d = true) : d.canLay0 = true := (Bool.and_eq_true_iff.mp h).1
theorem r_eqS {K : PySem.W.Frag} {x y : V} {H : Hp} {Q : VK} (h : scal x y = true) (q : Q (.bl (decide (x = y))) H) : rEqA K x y H Q := .inl ⟨h, q⟩
theorem r_neS {K : PySem.W.Frag} {x y : V} {H : Hp} {Q : VK} (h : scal x y = true) (q : Q (.bl (!decide (x = y))) H) : rNeA K x y H Q := .inl ⟨h, q⟩
theorem r_neT {K : PySem.W.Frag} {x y : V} {H : Hp} {Q : VK} (d : PyData) (hx : Dp K H d x) (hy : Dp K H d y) (hs : shaped d = true) (q : Q (.bl false) H) : rNeA K x y H Q :=
  .inr ⟨d, d, hx, hy, hs, hs, by rw [eqv_refl d (canLay_of d hs)]; exact q⟩


def clsOf : V → Value
  | .ty n => .type n
  | .ref a => .ref a
  | _ => .none
theorem clsOf_eq {c : V} {u : Value} (r : RelV c u) (h : clsOf c ≠ .none) : u = clsOf c := by
  cases c <;> first | exact r | exact (h rfl).elim
def rIsi (K : PySem.W.Frag) : List V → Hp → VK → Prop := fun xs H Q => ∃ x c t b, xs = [x, c] ∧ clsOf c ≠ .none ∧ TyOf K H x t ∧ PySem.W.kitOne K t (clsOf c) = some b ∧ Q (.bl b) H
theorem call_isi {X : Cx} : CallR X (.builtin "isinstance") (rIsi X.K) := by
  intro pins s σ H xs us Q I r h
  obtain ⟨x, c, t, b, rfl, hc, ty, e, q⟩ := h
  obtain ⟨u, w', rfl, rx, rc⟩ := vals2 r
  cases clsOf_eq rc hc
  exact isinst_ok I rx ty e fun tk => ⟨.bl b, H, I.tok _, rfl, q⟩
theorem r_isi {K : PySem.W.Frag} {x c : V} {H : Hp} {Q : VK} {t : Value} {b : Bool} (hc : clsOf c ≠ .none) (ty : TyOf K H x t) (e : PySem.W.kitOne K t (clsOf c) = some b) (q : Q (.bl b) H) : rIsi K [x, c] H Q := ⟨x, c, t, b, rfl, hc, ty, e, q⟩


def rAll (K : PySem.W.Frag) : List V → Hp → VK → Prop := fun xs H Q => ∃ (p : Addr) (bs : List Bool), xs = [.ref p] ∧ SqL K H p (bs.map V.bl) ∧ Q (.bl (bs.all id)) H
theorem all_range (bs : List Bool) : (List.range bs.length).all (fun i => bs.getD i false) = bs.all id := by
  induction bs with
  | nil => rfl
  | cons b r ih =>
    rw [List.length_cons, List.range_succ_eq_map, List.all_cons, List.all_cons, List.all_map]
    rw [← ih]
    rfl
theorem call_all {X : Cx} (hc : X.calm = true) : CallR X (.builtin "all") (rAll X.K) := by
  intro pins s σ H xs us Q I r h
  obtain ⟨p, bs, rfl, hq, q⟩ := h
  obtain ⟨u, rfl, rx⟩ := vals1 r
  cases rx
  obtain ⟨its, rv, pl, hz⟩ := I.list hq
  have hlen := rv.length
  rw [List.length_map] at hlen
  have hlt : p < s.heap.objs.size := by obtain ⟨o, e, _⟩ := pl.isList; exact Heap.lt_size e
  refine call_all_walk (wpAny_pyIter_list pl.isList ?_)
  refine ⟨s.heap.objs.size, _, _, _, _, _, fun i => bs.getD i false, rfl, Walks.list (by exact I.ok.hd hc) s.heap.objs.size p (Nat.ne_of_lt hlt) its.toArray, ⟨⟨_, Heap.get?_push_size _ rfl, rfl, rfl⟩, pl.isList.push _⟩, ?_, ?_⟩
  · intro i v s' Q' E' hP hQ'
    have hP' : its[i]? = some v := by simpa using hP
    have hi : i < its.length := (List.getElem?_eq_some_iff.mp hP').1
    have hb : (bs.map V.bl)[i]? = some (V.bl (bs.getD i false)) := by
      rw [List.getElem?_map, List.getElem?_eq_getElem (by omega)]
      simp [List.getD, List.getElem?_eq_getElem (show i < bs.length by omega)]
    obtain ⟨u', hu', ru'⟩ := rv.get hb
    rw [hP'] at hu'
    cases hu'
    cases (show v = Value.bool _ from ru')
    exact wpAny_truthy_bool hQ'
  · intro h' tk kk
    have e : (List.range its.toArray.size).all (fun i => bs.getD i false) = bs.all id := by
      rw [List.size_toArray, ← hlen]; exact all_range bs
    rw [e]
    refine ⟨.bl _, H, ?_, rfl, q⟩
    have I1 : Inv X pins σ H { s with heap := s.heap.push { cls := .type "list_iterator", data := .fields #[.ref p, .int 0 0] } } := I.kept (t' := s.toks) fun b o e => Heap.get?_push_of_some _ e
    have f := I.fpOk (H' := H) (Nat.le_refl _) I.fresh
    exact I1.turned (it := s.heap.objs.size) (h' := h') (t' := tk) (fun b o hb e => kk b o (by simpa using hb) e) f.1 f.2.1 f.2.2.2.1 f.2.2.2.2.1 f.2.2.2.2.2


theorem bool_index : typeLookup (.type "bool") "__index__" = pure (some (.builtin "int.__index__")) := by rw [typeLookup_type, builtinLookup_eq_fast]; kernel_rfl
theorem listSubscript_bool {M : Model} {A : Around} {E : Value → Shared → Prop} {s : Shared} {b : Bool} {Q : Option Int → Shared → Prop} (h : Q (some (if b then 1 else 0)) s) :
    wpAny M A (Builtin.List.listSubscript? (.bool b)) Q E s := by
  unfold Builtin.List.listSubscript?
  refine wpAny_bind (wpAny_specialOf (T := "bool") (show s.TypeIs (.bool b) "bool" from rfl) bool_index ?_)
  show wpAny M A (asIndex (.bool b) >>= _) Q E s
  refine wpAny_bind (wpAny_of_eq (a := if b then 1 else 0) rfl ?_)
  show wpAny M A (if (!Builtin.List.listFitsIndex (if b then 1 else 0)) = true then _ else _) Q E s
  rw [if_neg (by cases b <;> decide)]
  exact wpAny_pure h
theorem getItem_list_bool {prog : Program} {w : World} {A : Around} {E : Value → Shared → Prop} {s : Shared} {l : Addr} {items : Array Value} {b : Bool} {x : Value} {Q : Value → Shared → Prop} (hl : s.heap.IsList l items)
    (hx : items[if b then 1 else 0]? = some x) (h : Q x s) : wpAny (model prog w) A (getItem (.ref l) (.bool b)) Q E s := by
  obtain ⟨o, ho, hc, ne, hd⟩ := id hl
  unfold getItem
  try with_reducible refine wpAny_holding ?_
  first | refine wpAny_bind (wpAny_pure ?_) | skip
  refine wpAny_bind (wpAny_sequenceKey hl.typeIs (by decide) ?_)
  refine wpAny_bind (wpAny_callSpecial?_slot (name := Str.ofString "__getitem__") hl.typeIs slot_list_getitem
    (wpAny_call_entry slot_list_getitem hl.typeIs entry_list_getitem ?_ (args_list_getitem _ _)))
  show wpAny _ _ (Builtin.List.listSubscript? (.bool b) >>= _) _ _ s
  refine wpAny_bind (listSubscript_bool ?_)
  cases b with
  | true =>
    have hx' : items[1]? = some x := hx
    show wpAny _ _ ((seqItemAt l 1 >>= fun r => pure (r.map (1, ·))) >>= _) _ _ s
    refine wpAny_bind (wpAny_bind (wpAny_seqItemAt ho hd (wpAny_pure ?_)))
    rw [hx']
    first
      | exact wpAny_bind (wpAny_pure (wpAny_pure ⟨x, rfl, wpAny_pure h⟩))
      | exact wpAny_pure ⟨x, rfl, wpAny_pure h⟩
  | false =>
    have hx' : items[0]? = some x := hx
    show wpAny _ _ ((seqItemAt l 0 >>= fun r => pure (r.map (0, ·))) >>= _) _ _ s
    refine wpAny_bind (wpAny_bind (wpAny_seqItemAt ho hd (wpAny_pure ?_)))
    rw [hx']
    first
      | exact wpAny_bind (wpAny_pure (wpAny_pure ⟨x, rfl, wpAny_pure h⟩))
      | exact wpAny_pure ⟨x, rfl, wpAny_pure h⟩
def rIxB (K : PySem.W.Frag) : R2 := fun x y H Q => ∃ p xs b v, x = .ref p ∧ y = .bl b ∧ SqL K H p xs ∧ xs[if b then 1 else 0]? = some v ∧ Q v H
theorem ix_bool {X : Cx} : IxR X (rIxB X.K) := by
  intro value slice pins s σ H x y v u Q I rx ry h hs
  obtain ⟨p, xs, b, z, rfl, rfl, hq, he, q⟩ := h
  cases rx
  cases ry
  obtain ⟨its, r, pl, hz⟩ := I.list hq
  obtain ⟨w, ew, rw'⟩ := r.get he
  exact subscriptTail_builtinR (x := w) pl.isList.typeIs slot_list_getitem.lookup
    (getItem_list_bool (Q := fun r s' => r = w ∧ EP X pins σ Q r s') pl.isList (by simpa using ew) ⟨rfl, z, H, I, rw', q⟩) hs

def rIxA (K : PySem.W.Frag) : R2 := fun x y H Q => rIx K x y H Q ∨ rIxB K x y H Q
theorem ix_any {X : Cx} : IxR X (rIxA X.K) := ix_seq.or ix_bool
theorem r_ixL {K : PySem.W.Frag} {p : Addr} {xs : List V} {i : Int} {v : V} {H : Hp} {Q : VK} (h : SqL K H p xs) (e : atI xs i = some v) (q : Q v H) : rIxA K (.ref p) (.int i) H Q := .inl (.inl ⟨p, xs, i, v, rfl, rfl, h, e, q⟩)
theorem r_ixT {K : PySem.W.Frag} {p : Addr} {xs : List V} {i : Int} {v : V} {H : Hp} {Q : VK} (h : SqT K H p xs) (e : atI xs i = some v) (q : Q v H) : rIxA K (.ref p) (.int i) H Q := .inl (.inr (.inl ⟨p, xs, i, v, rfl, rfl, h, e, q⟩))
def rStr : R2 := fun x y H Q => ∃ i j, x = .str i ∧ y = .str j ∧ i.length + j.length ≤ sizeLine ∧ Q (.str (i ++ j)) H
def rPlus (K : PySem.W.Frag) : R2 := fun x y H Q => rI0 (fun i j => .int (i + j)) x y H Q ∨ rCat x y H Q ∨ rCatT K x y H Q ∨ rStr x y H Q
theorem op_plus {X : Cx} : OpR X (binaryOp .Add) (rPlus X.K) := op_add.or (op_cat.or (op_catT.or op_add_str))
theorem r_plusI {K : PySem.W.Frag} {i j : Int} {H : Hp} {Q : VK} (q : Q (.int (i + j)) H) : rPlus K (.int i) (.int j) H Q := .inl ⟨i, j, rfl, rfl, q⟩
theorem r_plusL {K : PySem.W.Frag} {a b : Addr} {xs ys : List V} {H : Hp} {Q : VK} (ha : H a = some (.lst xs)) (hb : H b = some (.lst ys)) (hz : xs.length + ys.length ≤ sizeLine) (q : ∀ p, H p = none → Q (.ref p) (upd H p (.lst (xs ++ ys)))) :
    rPlus K (.ref a) (.ref b) H Q := .inr (.inl ⟨a, b, xs, ys, rfl, rfl, ha, hb, hz, q⟩)
def rTimes : R2 := fun x y H Q => rI CMul (fun i j => .int (i * j)) x y H Q ∨ rRep x y H Q
theorem op_times {X : Cx} : OpR X (binaryOp .Mult) rTimes := op_mul.or op_rep
theorem r_timesI {i j : Int} {H : Hp} {Q : VK} (h : CMul i j) (q : Q (.int (i * j)) H) : rTimes (.int i) (.int j) H Q := .inl ⟨i, j, rfl, rfl, h, q⟩
def rSlA (K : PySem.W.Frag) : V → Option Int → Option Int → Hp → VK → Prop := fun x lo hi H Q => rSlL K x lo hi H Q ∨ rSlT K x lo hi H Q
theorem sl_any {X : Cx} : SlR X (rSlA X.K) := sl_list.or sl_tup


structure FnE (P : Program) (w : World) (K : PySem.W.Frag) (mg : Str → Option Value) (base : Heap) (CX : CXT) (k : Nat) (x : Str) (sp : Sp) : Prop where
  ex : ∃ (f : Addr) (fd : FuncData) (ps : List Str), FnOk P w K mg base CX k f fd ps sp ∧ mg x = some (.ref f) ∧ PySem.W.keepIn K (.ref f) = true ∧ Binds K fd ps []
structure MethE (P : Program) (w : World) (K : PySem.W.Frag) (mg : Str → Option Value) (base : Heap) (CX : CXT) (k : Nat) (C : Addr) (m : Str) (sp : Sp) : Prop where
  cl : Cls K C
  ex : ∃ (f : Addr) (fd : FuncData) (ps : List Str), Meth K C m f ∧ FnOk P w K mg base CX k f fd ps sp ∧ Binds K fd ps []
structure MkE (P : Program) (w : World) (K : PySem.W.Frag) (mg : Str → Option Value) (base : Heap) (CX : CXT) (k : Nat) (x : Str) (C : Addr) (sp : Sp) : Prop where
  ex : ∃ (f : Addr) (fd : FuncData) (ps : List Str), Mk K C f ∧ FnOk P w K mg base CX k f fd ps sp ∧ mg x = some (.ref C) ∧ Binds K fd ps []
theorem MethE.mono {P : Program} {w : World} {K : PySem.W.Frag} {mg : Str → Option Value} {base : Heap} {CX : CXT} {j k : Nat} {C : Addr} {m : Str} {sp : Sp} (M : MethE P w K mg base CX j C m sp) (h : j ≤ k) : MethE P w K mg base CX k C m sp := by
  obtain ⟨f, fd, ps, a, b, c⟩ := M.ex
  exact ⟨M.cl, f, fd, ps, a, b.mono h, c⟩
def tCallE (sp : Sp) (E : XK) (t : TA) : TE := fun σ H Q => t σ H fun vs H1 => sp vs H1 Q E
def tMakeE (C : Addr) (sp : Sp) (E : XK) (t : TA) : TE := fun σ H Q => t σ H fun vs H1 => ∀ x dx, H1 x = none → H1 dx = none → dx ≠ x →
  sp (.ref x :: vs) (upd (upd H1 dx (.own x)) x (.ins C dx [])) (fun v H2 => v = .non ∧ Q (.ref x) H2) E
def tMethE (P : Program) (w : World) (K : PySem.W.Frag) (mg : Str → Option Value) (base : Heap) (CX : CXT) (k : Nat) (m : Str) (E : XK) (ta : TE) (t : TA) : TE := fun σ H Q => ta σ H fun x H1 =>
  ∃ a C dx fs sp, x = .ref a ∧ H1 a = some (.ins C dx fs) ∧ fs.lookup m = none ∧ MethE P w K mg base CX k C m sp ∧ t σ H1 fun vs H2 => sp (.ref a :: vs) H2 Q E
section
variable {X : Cx} {CX : CXT} {k : Nat} {C : Addr} {sp : Sp} {E : XK} {x m : Str} {p pos apos : Pos} {e o : Expr} {es : List Expr} {ta : TE} {t : TA}
theorem pe_callE (G : FnE X.prog X.w X.K X.mg X.base CX k x sp) (hr : Room k X.A) (hx : Passes CX X E) (hg : Gl X x) (ha : PA X (e :: es) t) (hdb : (x == ("__debug__" : Str)) = false := by decide)
    (he : starEach (e :: es) X.env = (false, eval e X.env) :: starEach es X.env := by rfl) (hpl : (backTo pos (starEach es X.env)).any (·.1) = false := by rfl) : PE X (.Call (.Name x p) (e :: es) [] pos) (tCallE sp E t) := by
  obtain ⟨f, fd, ps, F, hm, hk, hb⟩ := G.ex
  have z := pe_call (p := p) (pos := pos) F hr hg hm hk hb .nil hx ha hdb he hpl
  intro pins s σ H Q I h
  refine z pins s σ H Q I ?_
  have e1 : tCall sp [] E t = tCallE sp E t := by
    funext σ H Q
    show t σ H (fun vs H1 => sp (vs ++ []) H1 Q E) = t σ H (fun vs H1 => sp vs H1 Q E)
    simp only [List.append_nil]
  rw [e1]; exact h
theorem pe_makeE (G : MkE X.prog X.w X.K X.mg X.base CX k x C sp) (hr : Room (k + 1) X.A) (hx : Passes CX X E) (hg : Gl X x) (ha : PA X (e :: es) t) (hdb : (x == ("__debug__" : Str)) = false := by decide)
    (he : starEach (e :: es) X.env = (false, eval e X.env) :: starEach es X.env := by rfl) (hpl : (backTo pos (starEach es X.env)).any (·.1) = false := by rfl) : PE X (.Call (.Name x p) (e :: es) [] pos) (tMakeE C sp E t) := by
  obtain ⟨f, fd, ps, M, F, hm, hb⟩ := G.ex
  have z := pe_make (p := p) (pos := pos) M F hr hg hm hb .nil hx ha hdb he hpl
  intro pins s σ H Q I h
  refine z pins s σ H Q I ?_
  have e1 : tMake C sp [] E t = tMakeE C sp E t := by
    funext σ H Q
    show t σ H (fun vs H1 => ∀ x dx, H1 x = none → H1 dx = none → dx ≠ x → sp (.ref x :: (vs ++ [])) _ _ E) = t σ H (fun vs H1 => ∀ x dx, H1 x = none → H1 dx = none → dx ≠ x → sp (.ref x :: vs) _ _ E)
    simp only [List.append_nil]
  rw [e1]; exact h
theorem pe_methE {pl : Sem Bool} (he : PE X o ta) (hr : Room k X.A) (hx : Passes CX X E) (ha : PA X (e :: es) t)
    (hst : starEach (e :: es) X.env = (false, eval e X.env) :: starEach es X.env := by rfl) (hpl : (backTo pos (starEach es X.env)).any (·.1) = false := by rfl)
    (ht : eval (.Call (.Attribute o m apos) (e :: es) [] pos) X.env = (do
      let ov ← eval o X.env
      standAt apos.atName
      let (f, first) ← holding [ov] (getMethod ov m pl)
      callWith pos f first (backTo pos (starEach (e :: es) X.env)) (backToKw pos (keywordEach [] X.env))) := by rfl) :
    PE X (.Call (.Attribute o m apos) (e :: es) [] pos) (tMethE X.prog X.w X.K X.mg X.base CX k m E ta t) := by
  intro pins s σ H Q I h
  refine PySem.W.methodCall_KW (pl := pl) (thn (he pins s σ H _ I h) fun u s1 ⟨x, H1, I1, rx, a, C, dx, fs, sp, ex, ea, l, M, q⟩ => ?_) ht
  subst ex
  obtain rfl : u = Value.ref a := rx
  obtain ⟨f, fd, ps, hm, F, hb⟩ := M.ex
  refine getmeth_ok I1 ea M.cl hm l ?_
  refine PySem.W.callWith_K (first := [.ref a]) (h₀ := X.base) I.ok.mod.kin hm.kp (thn (ha pos pins s1 σ H1 _ I1 q) fun us s2 ⟨vs, H2, I2, r, q2⟩ => ⟨I2.kIn, ?_⟩) hst hpl
  exact run_fn (us := .ref a :: us) (vs := .ref a :: vs) F hr hb .nil hx I2 (.cons rfl r) (by rw [List.append_nil]; exact q2)
theorem pe_methE0 {pl : Sem Bool} (he : PE X o ta) (hr : Room k X.A) (hx : Passes CX X E)
    (ht : eval (.Call (.Attribute o m apos) [] [] pos) X.env = (do
      let ov ← eval o X.env
      standAt apos.atName
      let (f, first) ← holding [ov] (getMethod ov m pl)
      callWith pos f first (backTo pos (starEach [] X.env)) (backToKw pos (keywordEach [] X.env))) := by rfl) :
    PE X (.Call (.Attribute o m apos) [] [] pos) (tMethE X.prog X.w X.K X.mg X.base CX k m E ta tNil) := by
  intro pins s σ H Q I h
  refine PySem.W.methodCall_KW (pl := pl) (thn (he pins s σ H _ I h) fun u s1 ⟨x, H1, I1, rx, a, C, dx, fs, sp, ex, ea, l, M, q⟩ => ?_) ht
  subst ex
  obtain rfl : u = Value.ref a := rx
  obtain ⟨f, fd, ps, hm, F, hb⟩ := M.ex
  refine getmeth_ok I1 ea M.cl hm l ?_
  exact PySem.W.callWith_K0 (first := [.ref a]) I1.kIn hm.kp (run_fn (us := [.ref a]) (vs := [.ref a]) F hr hb .nil hx I1 (.cons rfl .nil) q)
end


theorem b_len : bootBuiltins "len" = some (.builtin "len") := by decide +kernel
theorem b_all : bootBuiltins "all" = some (.builtin "all") := by decide +kernel
theorem b_isinstance : bootBuiltins "isinstance" = some (.builtin "isinstance") := by decide +kernel
theorem b_min : bootBuiltins "min" = some (.builtin "min") := by decide +kernel
theorem b_int : bootBuiltins "int" = some (.type "int") := by decide +kernel
theorem b_bool : bootBuiltins "bool" = some (.type "bool") := by decide +kernel
theorem b_list : bootBuiltins "list" = some (.type "list") := by decide +kernel
theorem b_tuple : bootBuiltins "tuple" = some (.type "tuple") := by decide +kernel
theorem b_str : bootBuiltins "str" = some (.type "str") := by decide +kernel


def rFld (K : PySem.W.Frag) (f : Str) : V → Hp → VK → Prop := fun x H1 Q => ∃ a C dx fs v, x = .ref a ∧ H1 a = some (.ins C dx fs) ∧ Cls K C ∧ NoAttr K C f ∧ fs.lookup f = some v ∧ Q v H1
def rMeth (P : Program) (w : World) (K : PySem.W.Frag) (mg : Str → Option Value) (base : Heap) (CX : CXT) (k : Nat) (m : Str) (E : XK) (σ : St) (t : TA) : V → Hp → VK → Prop := fun x H1 Q =>
  ∃ a C dx fs sp, x = .ref a ∧ H1 a = some (.ins C dx fs) ∧ fs.lookup m = none ∧ MethE P w K mg base CX k C m sp ∧ t σ H1 fun vs H2 => sp (.ref a :: vs) H2 Q E
def sFldV (K : PySem.W.Frag) (f : Str) (y : V) (D : Ends) (σ : St) : V → Hp → Prop := fun x H2 => ∃ a C dx fs, x = .ref a ∧ H2 a = some (.ins C dx fs) ∧ Cls K C ∧ NoAttr K C f ∧ fs.length < 1000 ∧ D.nx σ (upd H2 a (.ins C dx (putF f y fs)))
def rLen (K : PySem.W.Frag) : List V → Hp → VK → Prop := fun xs H Q => ∃ x n, xs = [x] ∧ LenV K x H n ∧ Q (.int n) H
theorem call_lenA {X : Cx} : CallR X (.builtin "len") (rLen X.K) := call_len
theorem r_lenL {K : PySem.W.Frag} {p : Addr} {xs : List V} {H : Hp} {Q : VK} (h : SqL K H p xs) (q : Q (.int xs.length) H) : rLen K [.ref p] H Q := ⟨.ref p, xs.length, rfl, .inl ⟨xs, h, rfl⟩, q⟩
theorem r_lenT {K : PySem.W.Frag} {p : Addr} {xs : List V} {H : Hp} {Q : VK} (h : SqT K H p xs) (q : Q (.int xs.length) H) : rLen K [.ref p] H Q := ⟨.ref p, xs.length, rfl, .inr ⟨xs, h, rfl⟩, q⟩
def rLst (K : PySem.W.Frag) : List V → Hp → VK → Prop := fun xs H Q => ∃ p ys, xs = [.ref p] ∧ (SqL K H p ys ∨ SqT K H p ys) ∧ ∀ l, H l = none → Q (.ref l) (upd H l (.lst ys))
theorem call_listA {X : Cx} : CallR X (.type "list") (rLst X.K) := call_list_of
theorem r_listL {K : PySem.W.Frag} {p : Addr} {xs : List V} {H : Hp} {Q : VK} (h : SqL K H p xs) (q : ∀ l, H l = none → Q (.ref l) (upd H l (.lst xs))) : rLst K [.ref p] H Q := ⟨p, xs, rfl, .inl h, q⟩
def rTwo (g : Int → Int → Int) : List V → Hp → VK → Prop := fun xs H Q => ∃ i j, xs = [.int i, .int j] ∧ Q (.int (g i j)) H
theorem call_minA {X : Cx} (hc : X.calm = true) : CallR X (.builtin "min") (rTwo fun i j => if j < i then j else i) := call_min2 hc
theorem r_two {g : Int → Int → Int} {i j : Int} {H : Hp} {Q : VK} (q : Q (.int (g i j)) H) : rTwo g [.int i, .int j] H Q := ⟨i, j, rfl, q⟩
theorem r_all {K : PySem.W.Frag} {p : Addr} {bs : List Bool} {H : Hp} {Q : VK} (h : SqL K H p (bs.map V.bl)) (q : Q (.bl (bs.all id)) H) : rAll K [.ref p] H Q := ⟨p, bs, rfl, h, q⟩
theorem r_slL {K : PySem.W.Frag} {p : Addr} {xs : List V} {lo hi : Option Int} {H : Hp} {Q : VK} (h : SqL K H p xs) (q : ∀ l, H l = none → Q (.ref l) (upd H l (.lst (cutV xs lo hi)))) : rSlA K (.ref p) lo hi H Q := .inl ⟨p, xs, rfl, h, q⟩
theorem r_slT {K : PySem.W.Frag} {p : Addr} {xs : List V} {lo hi : Option Int} {H : Hp} {Q : VK} (h : SqT K H p xs) (hn : ¬ (HT.sIx xs.length 0 lo = 0 ∧ HT.sIx xs.length xs.length hi = xs.length)) (q : ∀ l, H l = none → Q (.ref l) (upd H l (.tup (cutV xs lo hi)))) :
    rSlA K (.ref p) lo hi H Q := .inr ⟨p, xs, rfl, h, hn, q⟩
def rTru (K : PySem.W.Frag) (x : V) (H : Hp) (Q : Bool → Hp → Prop) : Prop := ∃ k, TruV K x H k ∧ Q k H
theorem r_truB {K : PySem.W.Frag} {b : Bool} {H : Hp} {Q : Bool → Hp → Prop} (q : Q b H) : rTru K (.bl b) H Q := ⟨b, rfl, q⟩
theorem iteNT {A B : Prop} (h : B) : if (!true) = true then A else B := h
theorem iteNF {A B : Prop} (h : A) : if (!false) = true then A else B := h
theorem sql_new {K : PySem.W.Frag} {H : Hp} {a p : Addr} {xs : List V} {o : HO} (h : SqL K H a xs) (hp : H p = none) : SqL K (upd H p o) a xs := Same.seq (same_new hp) h
theorem sqt_new {K : PySem.W.Frag} {H : Hp} {a p : Addr} {xs : List V} {o : HO} (h : SqT K H a xs) (hp : H p = none) : SqT K (upd H p o) a xs := SqT_same (same_new hp) h
theorem r_gSub {to ti : TE} {t : TSet} {v : V} {σ : St} {H : Hp} {Q : St → Hp → Prop} (q : to σ H fun o H1 => ti σ H1 fun i H2 => t o i v H2 fun H3 => Q σ H3) : gSub to ti t v σ H Q := q
theorem r_setL {p : Addr} {xs : List V} {k : Int} {j : Nat} {v : V} {H : Hp} {Q : Hp → Prop} (h : H p = some (.lst xs)) (e : ixN xs.length k = some j) (q : Q (upd H p (.lst (xs.set j v)))) : rSetL (.ref p) (.int k) v H Q := ⟨p, xs, k, j, rfl, rfl, h, e, q⟩
theorem r_append {l : Addr} {xs : List V} {y : V} {H : Hp} {Q : VK} (h : H l = some (.lst xs)) (z : xs.length < sizeLine) (q : Q .non (upd H l (.lst (xs ++ [y])))) : rAppend (.ref l) [y] H Q := ⟨l, xs, y, rfl, rfl, h, z, q⟩
theorem ty_list {K : PySem.W.Frag} {H : Hp} {p : Addr} {xs : List V} (h : H p = some (.lst xs)) : tyV K "list" (.ref p) H := .inl ⟨rfl, xs, SqL.of h⟩

def ForW (J : It) (g : TG) (tb : TS) (D : Ends) (σ : St) (H1 : Hp) : Prop := ∃ W : Nat → Nat → St → Hp → Prop, (∃ m, W 0 m σ H1) ∧ ∀ i m σ H, W i m σ H →
  (J.stop i H ∧ D.nx σ H) ∨ (J.go i H ∧ ∃ N : St → Hp → Prop, (∀ σ' H', N σ' H' → ∃ m', m' < m ∧ W (i + 1) m' σ' H') ∧ ∀ x H', J.yld i H x H' → g x σ H' fun σ2 H2 => tb { D with nx := N, ct := N, bk := D.nx } σ2 H2)
theorem r_for {wi : TI} {g : TG} {tb : TS} {D : Ends} {σ : St} {H : Hp} (q : wi σ H fun J H1 => ForW J g tb D σ H1) : tFor wi g tb D σ H := q

def iSeq (K : PySem.W.Frag) (tl : TE) : TI := fun σ H R => tl σ H fun x H1 => ∃ a, x = .ref a ∧ (((∃ xs, SqL K H1 a xs) ∧ R (Itl K a) H1) ∨ ((∃ xs, SqT K H1 a xs) ∧ R (Itt K a) H1))
theorem r_iSeq {K : PySem.W.Frag} {tl : TE} {σ : St} {H : Hp} {R : It → Hp → Prop} (q : tl σ H fun x H1 => ∃ a, x = .ref a ∧ (((∃ xs, SqL K H1 a xs) ∧ R (Itl K a) H1) ∨ ((∃ xs, SqT K H1 a xs) ∧ R (Itt K a) H1))) : iSeq K tl σ H R := q
theorem r_rng1 {ta : TA} {σ : St} {H : Hp} {R : It → Hp → Prop} (q : ta σ H fun vs H1 => ∃ j : Int, vs = [.int j] ∧ -(2 ^ 62) ≤ j ∧ j < 2 ^ 62 ∧ R (Itr 0 j.toNat) H1) : iRng1 ta σ H R := q
theorem r_rng2 {ta : TA} {σ : St} {H : Hp} {R : It → Hp → Prop} (q : ta σ H fun vs H1 => ∃ i j : Int, vs = [.int i, .int j] ∧ (-(2 ^ 62) ≤ i ∧ i < 2 ^ 62 ∧ -(2 ^ 62) ≤ j ∧ j < 2 ^ 62) ∧ R (Itr i (j - i).toNat) H1) : iRng2 ta σ H R := q
theorem pi_seq {X : Cx} {tg l : Expr} {tl : TE} (hl : PE X l tl) : PI X tg l (iSeq X.K tl) := by
  intro pins s σ H R I h
  refine thn (hl pins s σ H _ I h) fun v s1 ⟨x, H1, I1, r1, q1⟩ => ?_
  obtain ⟨a, e, hq⟩ := q1
  subst e
  cases r1
  rcases hq with ⟨⟨xs, hq⟩, q⟩ | ⟨⟨xs, hq⟩, q⟩
  · obtain ⟨its, rv, p, hz⟩ := I1.list hq
    refine wpAny_pyIter_list p.isList ?_
    refine ⟨s1.heap.objs.size, [s1.heap.objs.size], _, _, H1, rfl, I1.kept (t' := s1.toks) fun b o e => Heap.get?_push_of_some _ e, turn_list a _, ⟨_, Heap.get?_push_size _ rfl, rfl, rfl⟩, fun b hb => ?_, q⟩
    have e : b = s1.heap.objs.size := by simpa using hb
    subst e
    exact I1.fpOk (Nat.le_refl _) (I1.hok.fresh (Nat.le_refl _))
  · obtain ⟨its, rv, p, hz⟩ := I1.tuple hq
    refine wpAny_pyIter_tuple (show s1.heap.IsTuple a its.toArray from p) ?_
    refine ⟨s1.heap.objs.size, [s1.heap.objs.size], _, _, H1, rfl, I1.kept (t' := s1.toks) fun b o e => Heap.get?_push_of_some _ e, turn_tuple a _, ⟨_, Heap.get?_push_size _ rfl, rfl, rfl⟩, fun b hb => ?_, q⟩
    have e : b = s1.heap.objs.size := by simpa using hb
    subst e
    exact I1.fpOk (Nat.le_refl _) (I1.hok.fresh (Nat.le_refl _))
section
variable {σ : St} {H : Hp} {Q : VK}
theorem r_var {i : Nat} {v : V} (h : σ[i]? = some (some v)) (q : Q v H) : tVar i σ H Q := ⟨v, h, q⟩
theorem r_c {v : V} (q : Q v H) : tC v σ H Q := q
theorem r_op {r : R2} {ta tb : TE} (q : ta σ H fun x H1 => tb σ H1 fun y H2 => r x y H2 Q) : tOp r ta tb σ H Q := q
theorem r_un {r : V → Hp → VK → Prop} {ta : TE} (q : ta σ H fun x H1 => r x H1 Q) : tUn r ta σ H Q := q
theorem r_U {g : Int → V} {i : Int} (q : Q (g i) H) : rU g (.int i) H Q := ⟨i, rfl, q⟩
theorem r_I0 {g : Int → Int → V} {i j : Int} (q : Q (g i j) H) : rI0 g (.int i) (.int j) H Q := ⟨i, j, rfl, rfl, q⟩
theorem r_I {C : Int → Int → Prop} {g : Int → Int → V} {i j : Int} (h : C i j) (q : Q (g i j) H) : rI C g (.int i) (.int j) H Q := ⟨i, j, rfl, rfl, h, q⟩
theorem r_cb {r : List V → Hp → VK → Prop} {t : TA} (q : t σ H fun vs H1 => r vs H1 Q) : tCB r t σ H Q := q
theorem r_callE {sp : Sp} {E : XK} {t : TA} (q : t σ H fun vs H1 => sp vs H1 Q E) : tCallE sp E t σ H Q := q
theorem r_makeE {C : Addr} {sp : Sp} {E : XK} {t : TA} (q : t σ H fun vs H1 => ∀ x dx, H1 x = none → H1 dx = none → dx ≠ x → sp (.ref x :: vs) (upd (upd H1 dx (.own x)) x (.ins C dx [])) (fun v H2 => v = .non ∧ Q (.ref x) H2) E) : tMakeE C sp E t σ H Q := q
theorem r_methE {P : Program} {w : World} {K : PySem.W.Frag} {mg : Str → Option Value} {base : Heap} {CX : CXT} {k : Nat} {m : Str} {E : XK} {ta : TE} {t : TA} (q : ta σ H fun x H1 => rMeth P w K mg base CX k m E σ t x H1 Q) : tMethE P w K mg base CX k m E ta t σ H Q := q
theorem r_methV {P : Program} {w : World} {K : PySem.W.Frag} {mg : Str → Option Value} {base : Heap} {CX : CXT} {k : Nat} {m : Str} {E : XK} {t : TA} {p C dx : Addr} {fs : List (Str × V)} {sp : Sp} (h : H p = some (.ins C dx fs)) (l : fs.lookup m = none) (M : MethE P w K mg base CX k C m sp)
    (q : t σ H fun vs H2 => sp (.ref p :: vs) H2 Q E) : rMeth P w K mg base CX k m E σ t (.ref p) H Q := ⟨p, C, dx, fs, sp, rfl, h, l, M, q⟩
theorem r_fld {K : PySem.W.Frag} {ta : TE} {f : Str} (q : ta σ H fun x H1 => rFld K f x H1 Q) : tFld K ta f σ H Q := q
theorem r_fldV {K : PySem.W.Frag} {f : Str} {p C dx : Addr} {fs : List (Str × V)} {v : V} (h : H p = some (.ins C dx fs)) (c : Cls K C) (n : NoAttr K C f) (l : fs.lookup f = some v) (q : Q v H) : rFld K f (.ref p) H Q := ⟨p, C, dx, fs, v, rfl, h, c, n, l, q⟩
theorem r_tup {t : TA} (q : t σ H fun xs H1 => xs.length ≤ sizeLine ∧ ∀ p, H1 p = none → Q (.ref p) (upd H1 p (.tup xs))) : tTup t σ H Q := q
theorem r_lst {t : TA} (q : t σ H fun xs H1 => xs.length ≤ sizeLine ∧ ∀ p, H1 p = none → Q (.ref p) (upd H1 p (.lst xs))) : tLst t σ H Q := q
theorem r_andV {ta tb : TE} (q : ta σ H fun x H1 => ∃ c, x = .bl c ∧ if c = true then tb σ H1 Q else Q (.bl false) H1) : tAndV ta tb σ H Q := q
theorem r_orV {ta tb : TE} (q : ta σ H fun x H1 => ∃ c, x = .bl c ∧ if c = true then Q (.bl true) H1 else tb σ H1 Q) : tOrV ta tb σ H Q := q
theorem r_notV {ta : TE} (q : ta σ H fun x H1 => ∃ c, x = .bl c ∧ Q (.bl (!c)) H1) : tNotV ta σ H Q := q
theorem r_if {t : TT} {ta tb : TE} (q : t σ H fun c H1 => if c = true then ta σ H1 Q else tb σ H1 Q) : tIf t ta tb σ H Q := q
theorem r_sl {r : V → Option Int → Option Int → Hp → VK → Prop} {te : TE} {tl th : TO} (q : te σ H fun x H1 => tl σ H1 fun l H2 => th σ H2 fun u H3 => r x l u H3 Q) : tSl r te tl th σ H Q := q
theorem r_bm {K : PySem.W.Frag} {T : String} {r : V → List V → Hp → VK → Prop} {to : TE} {t : TA} (q : to σ H fun x H1 => tyV K T x H1 ∧ t σ H1 fun xs H2 => r x xs H2 Q) : tBM K T r to t σ H Q := q
theorem r_bm0 {K : PySem.W.Frag} {T : String} {r : V → List V → Hp → VK → Prop} {to : TE} (q : to σ H fun x H1 => tyV K T x H1 ∧ r x [] H1 Q) : tBM0 K T r to σ H Q := q
end
section
variable {σ : St} {H : Hp} {Q : List V → Hp → Prop}
theorem r_nil (q : Q [] H) : tNil σ H Q := q
theorem r_cons {ta : TE} {tr : TA} (q : ta σ H fun x H1 => tr σ H1 fun xs H2 => Q (x :: xs) H2) : tCons ta tr σ H Q := q
end
section
variable {σ : St} {H : Hp} {Q : Option Int → Hp → Prop}
theorem r_noPart (q : Q none H) : tNoPart σ H Q := q
theorem r_part {t : TE} (q : t σ H fun x H1 => ∃ i, x = .int i ∧ Q (some i) H1) : tPart t σ H Q := q
end
section
variable {σ : St} {H : Hp} {Q : Bool → Hp → Prop}
theorem r_test {t : TE} (q : t σ H fun x H' => ∃ k, x = .bl k ∧ Q k H') : tTest t σ H Q := q
theorem r_and {t u : TT} (q : t σ H fun c H1 => if c = true then u σ H1 Q else Q false H1) : tAnd t u σ H Q := q
theorem r_or {t u : TT} (q : t σ H fun c H1 => if c = true then Q true H1 else u σ H1 Q) : tOr t u σ H Q := q
theorem r_not {t : TT} (q : t σ H fun c H1 => Q (!c) H1) : tNot t σ H Q := q
theorem r_true (q : Q true H) : tTrue σ H Q := q
def tTru (K : PySem.W.Frag) (ta : TE) : TT := fun σ H Q => ta σ H fun x H' => rTru K x H' Q
theorem pt_tru {X : Cx} {a : Expr} {ta : TE} (ha : PE X a ta) (he : ∀ whole, isTrue a X.env whole = (do let v ← whole; standAt a.pos; holding [v] (truthy v)) := by intro _; rfl) : PT X a (tTru X.K ta) := pt_truth ha he
theorem r_tru {K : PySem.W.Frag} {ta : TE} (q : ta σ H fun x H' => rTru K x H' Q) : tTru K ta σ H Q := q
end
section
variable {D : Ends} {σ : St} {H : Hp}
theorem r_next (q : D.nx σ H) : tNext D σ H := q
theorem r_seq {t u : TS} (q : t { D with nx := u D } σ H) : tSeq t u D σ H := q
theorem r_ret {te : TE} (q : te σ H D.rt) : tRet te D σ H := q
theorem r_retN (q : D.rt .non H) : tRetN D σ H := q
theorem r_ifS {c : TT} {t u : TS} (q : c σ H fun b H1 => if b = true then t D σ H1 else u D σ H1) : tIfS c t u D σ H := q
theorem r_asg {te : TE} {g : TG} (q : te σ H fun x H1 => g x σ H1 D.nx) : tAsg te g D σ H := q
theorem r_drop {te : TE} (q : te σ H fun _ H1 => D.nx σ H1) : tDrop te D σ H := q
theorem r_sFld {K : PySem.W.Frag} {ta tv : TE} {f : Str} (q : tv σ H fun y H1 => ta σ H1 fun x H2 => sFldV K f y D σ x H2) : sFld K ta tv f D σ H := q
theorem r_sFldV {K : PySem.W.Frag} {f : Str} {y : V} {p C dx : Addr} {fs : List (Str × V)} (h : H p = some (.ins C dx fs)) (c : Cls K C) (n : NoAttr K C f) (l : fs.length < 1000) (q : D.nx σ (upd H p (.ins C dx (putF f y fs)))) : sFldV K f y D σ (.ref p) H := ⟨p, C, dx, fs, rfl, h, c, n, l, q⟩
end
theorem ifDec {c A B : Prop} [Decidable c] (h1 : c → A) (h2 : ¬ c → B) : if decide c = true then A else B := by
  by_cases h : c
  · rw [if_pos (decide_eq_true h)]; exact h1 h
  · rw [if_neg (by rw [decide_eq_false h]; exact Bool.false_ne_true)]; exact h2 h
theorem ifDecN {c A B : Prop} [Decidable c] (h1 : ¬ c → A) (h2 : c → B) : if (!decide c) = true then A else B := by
  by_cases h : c
  · rw [if_neg (by rw [decide_eq_true h]; decide)]; exact h2 h
  · rw [if_pos (by rw [decide_eq_false h]; rfl)]; exact h1 h
theorem ifInt {a b : Int} {A B : Prop} (h1 : a = b → A) (h2 : a ≠ b → B) : if decide (V.int a = V.int b) = true then A else B :=
  ifDec (fun e => h1 (by cases e; rfl)) fun e => h2 fun z => e (by rw [z])
theorem ifIntN {a b : Int} {A B : Prop} (h1 : a ≠ b → A) (h2 : a = b → B) : if (!decide (V.int a = V.int b)) = true then A else B :=
  ifDecN (fun e => h1 fun z => e (by rw [z])) fun e => h2 (by cases e; rfl)
end L3
namespace L3
open PySem PySem.Spec PyProof.Rows L2
section
variable {P : Program} {w : World} {K : PySem.W.Frag} {mg : Str → Option Value} {base : Heap} {x qual : Str} {st : Stmt} {N ps : List Str} {sp : Sp} {C : Addr}

def BodyOk (P : Program) (w : World) (K : PySem.W.Frag) (mg : Str → Option Value) (base : Heap) (k : Nat) (qual : Str) (st : Stmt) (N : List Str) (sp : Sp) : Prop :=
  ∀ (f : Addr) (cdv : Value) (A : Around) (outer : List Env) (s : Shared) (H : Hp) (vs : List V) (Q : VK) (E : XK), Room k (A.deeper (envOfC qual (defScope st) s.heap.objs.size f cdv)) → sp vs H Q E →
    ∃ t, PSs (cxOf CX0 P w K mg base N qual (defScope st) f cdv A outer s H E).nox (defBody st) t ∧ t { nx := fun _ H' => Q .non H', rt := Q } (start N vs) H
theorem fnE_of (k : Nat) (h : ∃ f fd, Fun K x qual st f fd ∧ mg x = some (.ref f) ∧ Binds K fd ps []) (S : FnScope N ps (defScope st)) (len : ∀ vs H Q E, sp vs H Q E → vs.length = ps.length)
    (hbody : BodyOk P w K mg base k qual st N sp) : FnE P w K mg base CX0 (k + 1) x sp := by
  obtain ⟨f, fd, F, hm, hb⟩ := h
  exact ⟨f, fd, ps, F.ok S len (hbody f), hm, F.kp, hb⟩
theorem methE_of (k : Nat) (c : Cls K C) (h : ∃ f fd, Fun K x qual st f fd ∧ Meth K C x f ∧ Binds K fd ps []) (S : FnScope N ps (defScope st)) (len : ∀ vs H Q E, sp vs H Q E → vs.length = ps.length)
    (hbody : BodyOk P w K mg base k qual st N sp) : MethE P w K mg base CX0 (k + 1) C x sp := by
  obtain ⟨f, fd, F, hm, hb⟩ := h
  exact ⟨c, f, fd, ps, hm, F.ok S len (hbody f), hb⟩
theorem mkE_of {y : Str} (k : Nat) (hy : mg y = some (.ref C)) (h : ∃ f fd, Fun K "__init__" qual st f fd ∧ Mk K C f ∧ Binds K fd ps []) (S : FnScope N ps (defScope st)) (len : ∀ vs H Q E, sp vs H Q E → vs.length = ps.length)
    (hbody : BodyOk P w K mg base k qual st N sp) : MkE P w K mg base CX0 (k + 1) y C sp := by
  obtain ⟨f, fd, F, hm, hb⟩ := h
  exact ⟨f, fd, ps, hm, F.ok S len (hbody f), hy, hb⟩
end
end L3

namespace L3
open PySem PySem.Spec PyProof.Rows L2 PySem.SeqAt

section
variable {X : Cx} {K : PySem.W.Frag}
theorem op_plusK (h : X.K = K) : OpR X (binaryOp .Add) (rPlus K) := by subst h; exact op_plus
theorem op_eqK (h : X.K = K) (hu : X.A.units + 64 < cLine) : OpR X (compareOp .Eq) (rEqA K) := by subst h; exact op_eqA hu
theorem op_neK (h : X.K = K) (hu : X.A.units + 64 < cLine) : OpR X (compareOp .NotEq) (rNeA K) := by subst h; exact op_neA hu
theorem op_notInK (h : X.K = K) : OpR X (compareOp .NotIn) (rIn K true) := by subst h; exact op_notIn_seq
theorem ix_K (h : X.K = K) : IxR X (rIxA K) := by subst h; exact ix_any
theorem sl_K (h : X.K = K) : SlR X (rSlA K) := by subst h; exact sl_any
theorem pi_seqK {tg l : Expr} {tl : TE} (h : X.K = K) (hl : PE X l tl) : PI X tg l (iSeq K tl) := by subst h; exact pi_seq hl
theorem call_lenK (h : X.K = K) : CallR X (.builtin "len") (rLen K) := by subst h; exact call_lenA
theorem call_listK (h : X.K = K) : CallR X (.type "list") (rLst K) := by subst h; exact call_listA
theorem call_isiK (h : X.K = K) : CallR X (.builtin "isinstance") (rIsi K) := by subst h; exact call_isi
theorem call_allK (h : X.K = K) (hc : X.calm = true) : CallR X (.builtin "all") (rAll K) := by subst h; exact call_all hc
theorem pe_fldK {e : Expr} {f : Str} {pos : Pos} {ta : TE} (h : X.K = K) (he : PE X e ta) (hb : attributeBase e f X.env (eval e X.env) = eval e X.env := by rfl) : PE X (.Attribute e f pos) (tFld K ta f) := by subst h; exact pe_fld he hb
theorem ps_fldK {o value : Expr} {f : Str} {pos pos' : Pos} {ta tv : TE} (h : X.K = K) (ha : PE X o ta) (hv : PE X value tv) (hs : swapsWith value (some (.Attribute o f pos')) pos.line X.env = pure false := by rfl) :
    PS X (.Assign [.Attribute o f pos'] value pos) (sFld K ta tv f) := by subst h; exact ps_fld ha hv hs
theorem pt_truK {a : Expr} {ta : TE} (h : X.K = K) (ha : PE X a ta) (he : ∀ whole, isTrue a X.env whole = (do let v ← whole; standAt a.pos; holding [v] (truthy v)) := by intro _; rfl) : PT X a (tTru K ta) := by subst h; exact pt_tru ha he
theorem pg_tupK {es : List Expr} {k : Nat} {t : TGs} {n : Nat} {pos : Pos} (hK : X.K = K) (hc : X.calm = true) (h : PGs X es t)
    (hn : (assignEach es X.env).length = n := by rfl) (hst : (assignEach es X.env).findIdx? (·.1) = none := by rfl) : PG X (.Tuple es k pos) (gTup K n t) := by subst hK; exact pg_tup hc h hn hst
theorem pe_bm0K {o : Expr} {to : TE} {name : Str} {apos cpos : Pos} {T id : String} {r : V → List V → Hp → VK → Prop} (h : X.K = K) (pa : PlainAttrs T) (slot : Slot T name id) (hty : typeOf (.builtin id) = pure (.type "method_descriptor")) (hm : MtR X id r) (ho : PE X o to)
    (hbase : attributeBase o name X.env (eval o X.env) = eval o X.env := by rfl) (hline : (apos.endLine == cpos.line) = true := by rfl) : PE X (.Call (.Attribute o name apos) [] [] cpos) (tBM0 K T r to) := by subst h; exact pe_bm0 pa slot hty hm ho hbase hline
theorem pe_bmK {o e : Expr} {es : List Expr} {to : TE} {t : TA} {name : Str} {apos cpos : Pos} {T id : String} {r : V → List V → Hp → VK → Prop} (h : X.K = K) (pa : PlainAttrs T) (slot : Slot T name id) (hty : typeOf (.builtin id) = pure (.type "method_descriptor")) (hm : MtR X id r) (ho : PE X o to) (ha : PA X (e :: es) t)
    (hbase : attributeBase o name X.env (eval o X.env) = eval o X.env := by rfl)
    (hfew : ((backTo cpos (starEach (e :: es) X.env)).all (fun x => !x.1) && (backToKw cpos (keywordEach [] X.env)).all (fun x => x.1.isSome)
      && decide ((e :: es).length + ([] : List Keyword).length + (if ([] : List Keyword).isEmpty then 0 else 1) < 30)) = true := by rfl)
    (hline : (apos.endLine == cpos.line) = true := by rfl) (hs : starEach (e :: es) X.env = (false, eval e X.env) :: starEach es X.env := by rfl) (hplain : (backTo cpos (starEach es X.env)).any (·.1) = false := by rfl) :
    PE X (.Call (.Attribute o name apos) (e :: es) [] cpos) (tBM K T r to t) := by subst h; exact pe_bm pa slot hty hm ho ha hbase hfew hline hs hplain
end
section
variable {X : Cx} {P : Program} {w : World} {K : PySem.W.Frag} {mg : Str → Option Value} {base : Heap} {CX : CXT} {k : Nat} {E : XK} {m : Str} {pos apos : Pos} {e o : Expr} {es : List Expr} {ta : TE} {t : TA}
theorem pe_methK {pl : Sem Bool} (hP : X.prog = P ∧ X.w = w ∧ X.K = K ∧ X.mg = mg ∧ X.base = base) (he : PE X o ta) (hr : Room k X.A) (hx : Passes CX X E) (ha : PA X (e :: es) t)
    (hst : starEach (e :: es) X.env = (false, eval e X.env) :: starEach es X.env := by rfl) (hpl : (backTo pos (starEach es X.env)).any (·.1) = false := by rfl)
    (ht : eval (.Call (.Attribute o m apos) (e :: es) [] pos) X.env = (do
      let ov ← eval o X.env
      standAt apos.atName
      let (f, first) ← holding [ov] (getMethod ov m pl)
      callWith pos f first (backTo pos (starEach (e :: es) X.env)) (backToKw pos (keywordEach [] X.env))) := by rfl) :
    PE X (.Call (.Attribute o m apos) (e :: es) [] pos) (tMethE P w K mg base CX k m E ta t) := by
  obtain ⟨rfl, rfl, rfl, rfl, rfl⟩ := hP
  exact pe_methE (pl := pl) he hr hx ha hst hpl ht
theorem pe_methK0 {pl : Sem Bool} (hP : X.prog = P ∧ X.w = w ∧ X.K = K ∧ X.mg = mg ∧ X.base = base) (he : PE X o ta) (hr : Room k X.A) (hx : Passes CX X E)
    (ht : eval (.Call (.Attribute o m apos) [] [] pos) X.env = (do
      let ov ← eval o X.env
      standAt apos.atName
      let (f, first) ← holding [ov] (getMethod ov m pl)
      callWith pos f first (backTo pos (starEach [] X.env)) (backToKw pos (keywordEach [] X.env))) := by rfl) :
    PE X (.Call (.Attribute o m apos) [] [] pos) (tMethE P w K mg base CX k m E ta tNil) := by
  obtain ⟨rfl, rfl, rfl, rfl, rfl⟩ := hP
  exact pe_methE0 (pl := pl) he hr hx ht
end
end L3
namespace L3
open PySem PySem.Spec PyProof.Rows L2 PySem.SeqAt

theorem r_alloc {H : Hp} {R : Addr → Prop} (q : ∀ p, H p = none → R p) : ∀ p, H p = none → R p := q
theorem r_small {n : Nat} {R : Prop} (h : n ≤ sizeLine) (q : R) : n ≤ sizeLine ∧ R := ⟨h, q⟩
theorem none_upd1 {H : Hp} {p q : Addr} {o : HO} (h : upd H p o q = none) : H q = none := (none_upd h).1
theorem none_same {H H' : Hp} {q : Addr} (s : Same H H') (h : H' q = none) : H q = none := by
  cases e : H q with
  | none => rfl
  | some u => rw [s _ _ e] at h; cases h
theorem same_none {H H1 : Hp} {p : Addr} {o : HO} (s : Same H H1) (h : H1 p = none) : Same H (upd H1 p o) := s.trans (same_new h)

def CInv {α : Type} (xs : List α) (f : α → V) (Sg : St → Prop) (H : Hp) (i : Nat) (ys : List V) (σ : St) (H1 : Hp) : Prop := Same H H1 ∧ Sg σ ∧ ys = (xs.take i).map f
theorem CInv.next {α : Type} {xs : List α} {f : α → V} {Sg : St → Prop} {H H1 H5 : Hp} {i : Nat} {ys : List V} {σ σ3 : St} {x : α} {y : V} (c : CInv xs f Sg H i ys σ H1) (hx : xs[i]? = some x) (e : y = f x) (s : Same H H5) (sg : Sg σ3) : CInv xs f Sg H (i + 1) (ys ++ [y]) σ3 H5 := by
  obtain ⟨_, _, rfl⟩ := c
  refine ⟨s, sg, ?_⟩
  subst e
  rw [List.take_add_one, hx, Option.toList_some, List.map_append]; rfl
theorem comp_mapL {K : PySem.W.Frag} {a : Addr} {α : Type} {xs : List α} {emb : α → V} {g : TG} {tc : TT} {te : TE} {fin : List V → Hp → Prop} {σ0 : St} {H : Hp} (f : α → V) (Sg : St → Prop) (hl : SqL K H a (xs.map emb)) (hz : xs.length ≤ sizeLine) (h0 : Sg σ0)
    (hs : ∀ (i : Nat) (x : α) (ys : List V) (σ : St) (H1 : Hp), xs[i]? = some x → CInv xs f Sg H i ys σ H1 → Same H H1 → Sg σ →
      g (emb x) σ H1 fun σ3 H3 => tc σ3 H3 fun b H4 => if b = true then te σ3 H4 fun y H5 => CInv xs f Sg H (i + 1) (ys ++ [y]) σ3 H5 else CInv xs f Sg H (i + 1) ys σ3 H4)
    (hd : ∀ H1, Same H H1 → fin (xs.map f) H1) : CompW (Itl K a) g tc te fin σ0 H := by
  refine comp_list (xs := xs.map emb) (CInv xs f Sg H) ⟨Same.refl _, h0, rfl⟩ ?_ ?_ ?_
  · rintro i ys σ H1 hi ⟨s, _, rfl⟩
    refine ⟨s.seq hl, ?_⟩
    rw [List.length_map, List.length_take]; omega
  · intro i x ys σ H1 hx c
    rw [List.getElem?_map] at hx
    obtain ⟨z, hz, rfl⟩ := Option.map_eq_some_iff.mp hx
    exact hs i z ys σ H1 hz c c.1 c.2.1
  · rintro ys σ H1 ⟨s, _, rfl⟩
    rw [List.length_map, List.take_length]
    exact hd H1 s
theorem comp_mapR {g : TG} {tc : TT} {te : TE} {fin : List V → Hp → Prop} {σ0 : St} {H : Hp} {lo : Int} {n : Nat} (f : Nat → V) (Sg : St → Prop) (hz : n ≤ sizeLine) (h0 : Sg σ0)
    (hs : ∀ (i : Nat) (ys : List V) (σ : St) (H1 : Hp), i < n → CInv (List.range n) f Sg H i ys σ H1 → Same H H1 → Sg σ →
      g (.int (lo + i)) σ H1 fun σ3 H3 => tc σ3 H3 fun b H4 => if b = true then te σ3 H4 fun y H5 => CInv (List.range n) f Sg H (i + 1) (ys ++ [y]) σ3 H5 else CInv (List.range n) f Sg H (i + 1) ys σ3 H4)
    (hd : ∀ H1, Same H H1 → fin ((List.range n).map f) H1) : CompW (Itr lo n) g tc te fin σ0 H := by
  refine comp_range (CInv (List.range n) f Sg H) ⟨Same.refl _, h0, rfl⟩ ?_ ?_ ?_
  · rintro i ys σ H1 hi ⟨s, _, rfl⟩
    rw [List.length_map, List.length_take, List.length_range]; omega
  · intro i ys σ H1 hi c
    exact hs i ys σ H1 hi c c.1 c.2.1
  · rintro ys σ H1 ⟨s, _, rfl⟩
    rw [List.take_of_length_le (by rw [List.length_range]; exact Nat.le_refl _)]
    exact hd H1 s
theorem range_get {n i : Nat} (h : i < n) : (List.range n)[i]? = some i := by rw [List.getElem?_range h]

theorem r_ifB {b : Bool} {A B : Prop} (h1 : b = true → A) (h2 : b = false → B) : if b = true then A else B := by
  cases b with
  | true => exact h1 rfl
  | false => exact h2 rfl
theorem r_62 {j : Int} {R : Prop} (h1 : -(2 ^ 62) ≤ j) (h2 : j < 2 ^ 62) (q : R) : -(2 ^ 62) ≤ j ∧ j < 2 ^ 62 ∧ R := ⟨h1, h2, q⟩
theorem r_itL {K : PySem.W.Frag} {H : Hp} {a : Addr} {xs : List V} {A B : Prop} (h : SqL K H a xs) (q : A) : ((∃ xs, SqL K H a xs) ∧ A) ∨ ((∃ xs, SqT K H a xs) ∧ B) := .inl ⟨⟨xs, h⟩, q⟩
theorem r_tyL {K : PySem.W.Frag} {H : Hp} {p : Addr} {xs : List V} {R : Prop} (h : H p = some (.lst xs)) (q : R) : tyV K "list" (.ref p) H ∧ R := ⟨ty_list h, q⟩
theorem map_int {α : Type} (l : List α) (f : α → Int) : l.map (fun k => V.int (f k)) = (l.map f).map V.int := by rw [List.map_map]; rfl
theorem upd_again {H : Hp} {p : Addr} {o1 o2 : HO} : upd (upd H p o1) p o2 = upd H p o2 := upd_upd ..
theorem r_gN {i : Nat} {v : V} {σ σ' : St} {H : Hp} {Q : St → Hp → Prop} (h : σ.set i (some v) = σ') (q : Q σ' H) : gName i v σ H Q := by subst h; exact q
theorem r_st {N : List Str} {vs : List V} {σ' : St} {t : TS} {D : Ends} {H : Hp} (h : start N vs = σ') (q : t D σ' H) : t D (start N vs) H := by subst h; exact q
theorem r_compS' {i : Nat} {own : List Str} {fr : List (Str × Nat)} {wi : TI} {g : TG} {tc : TT} {te : TE} {D : Ends} {σ σi : St} {H : Hp} (h : innerS own fr σ = σi) (q : wi σ H fun J H1 => CompW J g tc te (fun ys H3 => ∀ p, H3 p = none → gName i (.ref p) σ (upd H3 p (.lst ys)) D.nx) σi H1) : tCompS i own fr wi g tc te D σ H := by subst h; exact q
theorem r_compE' {own : List Str} {fr : List (Str × Nat)} {wi : TI} {g : TG} {tc : TT} {te : TE} {σ σi : St} {H : Hp} {Q : VK} (h : innerS own fr σ = σi) (q : wi σ H fun J H1 => CompW J g tc te (fun ys H3 => ∀ p, H3 p = none → Q (.ref p) (upd H3 p (.lst ys))) σi H1) : tCompE own fr wi g tc te σ H Q := by subst h; exact q
def rIsN : R2 := fun x y H Q => y = .non ∧ Q (.bl (decide (x = .non))) H
theorem op_isNA {X : Cx} : OpR X (compareOp .Is) rIsN := op_isN
theorem r_isNr {p : Addr} {H : Hp} {Q : VK} (q : Q (.bl false) H) : rIsN (.ref p) .non H Q := ⟨rfl, q⟩
theorem r_isNn {H : Hp} {Q : VK} (q : Q (.bl true) H) : rIsN .non .non H Q := ⟨rfl, q⟩
def FInv {α : Type} (xs : List α) (f : α → V) (pr : α → Bool) (Sg : St → Prop) (H : Hp) (i : Nat) (ys : List V) (σ : St) (H1 : Hp) : Prop := Same H H1 ∧ Sg σ ∧ ys = ((xs.take i).filter pr).map f
theorem FInv.no {α : Type} {xs : List α} {f : α → V} {pr : α → Bool} {Sg : St → Prop} {H H1 H5 : Hp} {i : Nat} {ys : List V} {σ σ3 : St} {x : α} (c : FInv xs f pr Sg H i ys σ H1) (hx : xs[i]? = some x) (hp : pr x = false) (s : Same H H5) (sg : Sg σ3) : FInv xs f pr Sg H (i + 1) ys σ3 H5 := by
  obtain ⟨_, _, rfl⟩ := c
  refine ⟨s, sg, ?_⟩
  rw [List.take_add_one, hx, Option.toList_some, List.filter_append, List.map_append, List.filter_cons, if_neg (by rw [hp]; decide)]
  simp
end L3
namespace L3
open PySem PySem.Spec PyProof.Rows L2 PySem.SeqAt

theorem r_dGet {td ty : TE} {σ : St} {H : Hp} {Q : VK} (q : td σ H fun x H1 => ty σ H1 fun y H2 => ∃ a v, x = .ref a ∧ DGet H2 a y (some v) ∧ Q v H2) : tDGet td ty σ H Q := q
section
variable {P : Program} {w : World} {K : PySem.W.Frag} {mg : Str → Option Value} {base : Heap}
end
section
variable {X : Cx} {CX : CXT} {k : Nat} {C : Addr} {sp : Sp} {E : XK} {x m : Str} {p pos apos : Pos} {e o : Expr} {es : List Expr} {ta : TE} {t : TA}
end
section
variable {P : Program} {w : World} {K : PySem.W.Frag} {mg : Str → Option Value} {base : Heap} {x qual : Str} {st : Stmt} {N ps : List Str} {sp : Sp} {C : Addr}
end

section
variable {K : PySem.W.Frag} {a : Addr} {xs : List V} {g : TG} {tc : TT} {te : TE} {fin : List V → Hp → Prop} {H : Hp}
end
theorem eqv_nil (xs : List Int) : PyData.eqv (.list (xs.map PyData.int)) (.list []) = xs.isEmpty := by
  cases xs <;> simp [PyData.eqv, PyData.eqvAll]
theorem shaped_nil : shaped (.list []) = true := shaped_ints []
theorem r_eqNil {K : PySem.W.Frag} {a b : Addr} {xs : List Int} {H : Hp} {Q : VK} (ha : SqL K H a (xs.map V.int)) (hb : SqL K H b []) (q : Q (.bl xs.isEmpty) H) : rEqA K (.ref a) (.ref b) H Q :=
  .inr ⟨_, .list [], dp_ints ha, dp_lst hb dpAll_nil, shaped_ints xs, shaped_nil, by rw [eqv_nil]; exact q⟩
end L3
namespace L3
open PySem PySem.Spec PyProof.Rows

section
variable {prog : Program} {w : World} {A : Around} {E : Value → Shared → Prop} {s : Shared}

theorem drawT0 {it t : Addr} {i : Nat} {its : Array Value} {Q : Value → Shared → Prop} (hi : s.heap.IsTupleIter it t i) (ht : s.heap.IsTuple t its)
    (q1 : ∀ x, its[i]? = some x → ∀ h', h'.IsTupleIter it t (i + 1) → Heap.SameBut it s.heap h' → Q x { s with heap := h' })
    (q2 : its[i]? = none → A.handled = none ∧ ∀ h' e, Heap.ExtBut it s.heap h' → (∃ o, h'.get? e = some o ∧ o.cls = .type "StopIteration") → E (.ref e) { s with heap := h' }) :
    wpAny (model prog w) A (Builtin.SmallTypes.nextOf (.ref it)) Q E s := by
  obtain ⟨o, ho, hc, hd⟩ := id hi
  obtain ⟨ot, hot, _, nt, hdt⟩ := ht
  unfold Builtin.SmallTypes.nextOf
  refine wpAny_bind (wpAny_callSpecial?_slot (name := Str.ofString "__next__") hi.typeIs F.slot_tuple_iterator_next (wpAny_call_entry F.slot_tuple_iterator_next hi.typeIs F.entry_tuple_iterator_next ?_ (F.args_tuple_iterator_next_1 _)))
  show wpAny _ _ (field (.ref it) 0 >>= _) _ _ _; refine wpAny_bind (wpAny_field ho hd (x := .ref t) rfl ?_)
  show wpAny _ _ (if (Value.ref t == Value.none) = true then _ else _) _ _ _; rw [if_neg (show ¬ (Value.ref t == Value.none) = true from fun z => Bool.false_ne_true z)]
  show wpAny _ _ (field (.ref it) 1 >>= _) _ _ _; refine wpAny_bind (wpAny_field ho hd (x := .int i 0) rfl ?_)
  show wpAny _ _ (seqItems? (.ref t) >>= _) _ _ _; refine wpAny_bind (wpAny_seqItems hot hdt ?_)
  cases hx : its[i]? with
  | some x =>
    simp only [Int.toNat_natCast, hx]; refine wpAny_bind (wpAny_setField ho hd (by simp) (wpAny_pure ⟨x, rfl, wpAny_pure (q1 x hx _ ?_ (Heap.SameBut.update ..))⟩))
    refine ⟨_, Heap.get?_update_self _ ho (Obj.isFreed_of_fields (Obj.data_mapFields hd _)), (Obj.cls_mapFields ..).trans hc, ?_⟩
    rw [Obj.data_mapFields hd]; simp [rawInt]
  | none =>
    obtain ⟨hh, q2⟩ := q2 hx
    simp only [Int.toNat_natCast, hx]; refine wpAny_bind (wpAny_rule (wpAny_bind (wpAny_setField ho hd (by simp) ?_)))
    show wpAny _ _ (newExc (.type "StopIteration") [] >>= _) _ _ _; refine wpAny_bind ?_
    simp only [newExc, newTuple]; refine wpAny_bind (wpAny_newObj_type ?_ (by size_fits))
    refine wpAny_bind (m := firstArgMember _ _) (wpAny_of_eq (a := Value.none) (by first | rfl | (simp only [firstArgMember]; rfl)) (wpAny_newObj_type ?_ (by size_fits)))
    simp only [raiseNew]; refine wpAny_bind (wpAny_handled ?_)
    rw [show A.in1.handled = none from hh]; refine wpAny_bind (wpAny_pure (wpAny_throw ?_))
    exact q2 _ _ (((Heap.SameBut.update ..).extBut.push _).push _) ⟨_, Heap.get?_push_size _ rfl, rfl⟩

theorem zipT {z TI TO i1 i2 t1 t2 : Addr} {k : Nat} {xs ys : Array Value} {a b : Value} {Q : Fin → Shared → Prop} (D : ZipApart z TI TO i1 i2 t1 t2) (hz : IsZip s.heap z TI TO .none) (hTI : IsPair s.heap TI (.ref i1) (.ref i2)) (hTO : IsPair s.heap TO a b)
    (h1 : s.heap.IsTupleIter i1 t1 k) (h2 : s.heap.IsTupleIter i2 t2 k) (ht1 : s.heap.IsTuple t1 xs) (ht2 : s.heap.IsTuple t2 ys)
    (q1 : ∀ x y, xs[k]? = some x → ys[k]? = some y → ∀ h', IsZip h' z TI TO (rawInt s.heap.objs.size) → IsPair h' TO x y → h'.IsTupleIter i1 t1 (k + 1) → h'.IsTupleIter i2 t2 (k + 1) → IsPair h' s.heap.objs.size x y →
      (∀ c o, c ≠ z → c ≠ TO → c ≠ i1 → c ≠ i2 → s.heap.get? c = some o → h'.get? c = some o) → Q (.done (.ret (.ref s.heap.objs.size))) { s with heap := h' })
    (q2 : (xs[k]? = none ∨ ys[k]? = none) → A.handled = none ∧ ∀ h' e, (∀ c o, c ≠ z → c ≠ TO → c ≠ i1 → c ≠ i2 → s.heap.get? c = some o → h'.get? c = some o) → (∃ o, h'.get? e = some o ∧ o.cls = .type "StopIteration") → E (.ref e) { s with heap := h' }) :
    wpAny (model prog w) A (Builtin.«zip.__next__» ⟨[.ref z], []⟩) Q E s := by
  show wpAny _ _ (field (.ref z) 2 >>= _) _ _ _; refine wpAny_bind (wpAny_field hz rfl (x := .bool false) rfl ?_)
  show wpAny _ _ (field (.ref z) 3 >>= _) _ _ _; refine wpAny_bind (wpAny_field hz rfl (x := .ref TI) rfl (wpAny_bind (wpAny_seqItems hTI rfl ?_)))
  show wpAny _ _ (Builtin.SmallTypes.ownedTupleIsFree (.ref z) >>= _) _ _ _; refine wpAny_bind ?_
  unfold Builtin.SmallTypes.ownedTupleIsFree; refine wpAny_bind (wpAny_field hz rfl (x := .none) rfl (wpAny_pure ?_))
  simp only [if_true]; refine wpAny_bind (wpAny_rule (wpAny_bind (wpAny_field hz rfl (x := .ref TO) rfl ?_)))
  refine wpAny_bind (wpAny_setField_rec hz (by simp) fun g1 hz1 s1 => ?_); replace hz1 : IsZip g1 z TI TO .ellipsis := hz1
  refine wpAny_bind ?_; simp only [List.zipIdx_cons, List.zipIdx_nil, List.forIn_cons, List.forIn_nil]
  refine wpAny_bind (wpAny_bind (wpAny_onRaise ?_)); show wpAny _ _ (Builtin.SmallTypes.nextOf (.ref i1) >>= _) _ _ _
  refine wpAny_bind (drawT0 (h1.at fun o e => s1.extBut _ o D.i1z e) (ht1.extBut s1.extBut D.l1z) (fun x hx g2 h12 s2 => wpAny_pure ?_) fun hx => ?_)
  · have hO2 : IsPair g2 TO a b := s2.extBut _ _ D.TOi1 (s1.extBut _ _ D.TOz hTO)
    refine wpAny_bind (wpAny_seqItems hO2 rfl (wpAny_bind (wpAny_updateSeq_pair hO2 fun g3 hO3 s3 => ?_))); replace hO3 : IsPair g3 TO x b := hO3
    refine wpAny_bind (wpAny_letGo (wpAny_pure ?_)); refine wpAny_bind (wpAny_bind (wpAny_onRaise ?_))
    show wpAny _ _ (Builtin.SmallTypes.nextOf (.ref i2) >>= _) _ _ _
    have k3 : ∀ c o, c ≠ z → c ≠ TO → c ≠ i1 → s.heap.get? c = some o → g3.get? c = some o := fun c o c1 c2 c3 e => s3.extBut _ _ c2 (s2.extBut _ _ c3 (s1.extBut _ _ c1 e))
    have hz3 : IsZip g3 z TI TO .ellipsis := s3.extBut _ _ D.TOz.symm (s2.extBut _ _ D.i1z.symm hz1)
    refine wpAny_bind (drawT0 (h2.at fun o e => k3 _ o D.i2z D.TOi2.symm D.i12.symm e) (ht2.at fun o e => k3 _ o D.l2z D.l2TO D.l2i1 e) (fun y hy g4 h24 s4 => wpAny_pure ?_) fun hy => ?_)
    · have hO4 : IsPair g4 TO x b := s4.extBut _ _ D.TOi2 hO3
      refine wpAny_bind (wpAny_seqItems hO4 rfl (wpAny_bind (wpAny_updateSeq_pair hO4 fun g5 hO5 s5 => ?_))); replace hO5 : IsPair g5 TO x y := hO5
      refine wpAny_bind (wpAny_letGo (wpAny_pure (wpAny_pure ?_))); refine wpAny_bind (wpAny_seqItems hO5 rfl (wpAny_bind (wpAny_newTuple ?_)))
      have z5 : g5.objs.size = s.heap.objs.size := by rw [s5.1, s4.1, s3.1, s2.1, s1.1]
      have hz5 : IsZip g5 z TI TO .ellipsis := s5.extBut _ _ D.TOz.symm (s4.extBut _ _ D.i2z.symm hz3)
      have k5 : ∀ c o, c ≠ z → c ≠ TO → c ≠ i1 → c ≠ i2 → s.heap.get? c = some o → g5.get? c = some o := fun c o c1 c2 c3 c4 e => s5.extBut _ _ c2 (s4.extBut _ _ c4 (k3 c o c1 c2 c3 e))
      have h15 : g5.IsTupleIter i1 t1 (k + 1) := h12.at fun o e => s5.extBut _ _ D.TOi1.symm (s4.extBut _ _ D.i12 (s3.extBut _ _ D.TOi1.symm e))
      have h25 : g5.IsTupleIter i2 t2 (k + 1) := h24.at fun o e => s5.extBut _ _ D.TOi2.symm e
      have zlt : z < g5.objs.size := Heap.lt_size hz5
      show wpAny _ _ (Builtin.SmallTypes.ownedTupleHandOut (.ref z) (.ref g5.objs.size) >>= _) _ _ _; refine wpAny_bind ?_
      unfold Builtin.SmallTypes.ownedTupleHandOut
      have hz6 : IsZip (g5.push { cls := .type "tuple", data := .seq #[x, y] }) z TI TO .ellipsis := Heap.get?_push_of_some _ hz5
      refine wpAny_bind (wpAny_setField_rec hz6 (by simp) fun g7 hz7 s7 => ?_); replace hz7 : IsZip g7 z TI TO (rawInt g5.objs.size) := hz7
      refine wpAny_setField_rec hz7 (by simp) fun g8 hz8 s8 => ?_; replace hz8 : IsZip g8 z TI TO (rawInt g5.objs.size) := hz8
      have up : ∀ c o, c ≠ z → g5.get? c = some o → g8.get? c = some o := fun c o c1 e => s8.extBut _ _ c1 (s7.extBut _ _ c1 (Heap.get?_push_of_some _ e))
      have hT8 : IsPair g8 g5.objs.size x y := s8.extBut _ _ (Nat.ne_of_gt zlt) (s7.extBut _ _ (Nat.ne_of_gt zlt) (Heap.get?_push_size _ rfl))
      rw [z5] at hz8 hT8; refine wpAny_pure ?_
      show Q (.done (.ret (.ref g5.objs.size))) _; rw [z5]
      exact q1 x y hx hy g8 hz8 (up _ _ D.TOz hO5) (h15.at fun o e => up _ o D.i1z e) (h25.at fun o e => up _ o D.i2z e) hT8 fun c o c1 c2 c3 c4 e => up c o c1 (k5 c o c1 c2 c3 c4 e)
    · obtain ⟨hh, q2⟩ := q2 (.inr hy)
      refine ⟨hh, fun g4 e s4 he => ?_⟩
      obtain ⟨oe, hoe, hce⟩ := he
      have hz4 : IsZip g4 z TI TO .ellipsis := s4 _ _ D.i2z.symm hz3
      have hez : e ≠ z := fun v => by subst v; rw [hz4] at hoe; cases hoe; simp at hce
      exact wpAny_setField_rec hz4 (by simp) fun g5 _ s5 => q2 g5 e (fun c o c1 c2 c3 c4 v => s5.extBut _ _ c1 (s4 _ _ c4 (k3 c o c1 c2 c3 v))) ⟨oe, s5.extBut _ _ hez hoe, hce⟩
  · obtain ⟨hh, q2⟩ := q2 (.inl hx)
    refine ⟨hh, fun g2 e s2 he => ?_⟩
    obtain ⟨oe, hoe, hce⟩ := he
    have hz2 : IsZip g2 z TI TO .ellipsis := s2 _ _ D.i1z.symm hz1
    have hez : e ≠ z := fun v => by subst v; rw [hz2] at hoe; cases hoe; simp at hce
    exact wpAny_setField_rec hz2 (by simp) fun g3 _ s3 => q2 g3 e (fun c o c1 _ c3 _ v => s3.extBut _ _ c1 (s2 _ _ c3 (s1.extBut _ _ c1 v))) ⟨oe, s3.extBut _ _ hez hoe, hce⟩
end
abbrev itO (t : Addr) : Obj := { cls := .type "tuple_iterator", data := .fields #[.ref t, .int 0 0] }
abbrev prO (a b : Value) : Obj := { cls := .type "tuple", data := .seq #[a, b] }
abbrev zG1 (h : Heap) (t : Addr) : Heap := h.push (itO t)
abbrev zG2 (h : Heap) (t u : Addr) : Heap := (zG1 h t).push (itO u)
abbrev zG3 (h : Heap) (t u : Addr) : Heap := (zG2 h t u).push (prO (.ref h.objs.size) (.ref (zG1 h t).objs.size))
abbrev zG4 (h : Heap) (t u : Addr) : Heap := (zG3 h t u).push (prO .none .none)
abbrev zG5 (h : Heap) (t u : Addr) : Heap := (zG4 h t u).push { cls := .type "zip", data := .fields #[.none, .bool false, .bool false, .ref (zG2 h t u).objs.size, .ref (zG3 h t u).objs.size] }
theorem zipT_new (t u : Addr) (xs ys : Array Value) : Meets (Builtin.«zip.__new__» ⟨[.type "zip", .ref t, .ref u], []⟩) (fun _ R s => s.heap.IsTuple t xs ∧ s.heap.IsTuple u ys ∧ R (.ok (.ret (.ref (zG4 s.heap t u).objs.size))) { s with heap := zG5 s.heap t u }) :=
  .of_wp fun prog w A R s h => by
    obtain ⟨hp, g, d, tk, os⟩ := s; obtain ⟨hl1, hl2, h⟩ := h
    have hsub := sub_zip; have hL1 : Heap.IsTuple (Shared.heap ⟨hp, g, d, tk, os⟩) t xs := hl1
    have hL2 : Heap.IsTuple (Shared.heap ⟨hp.push (itO t), g, d, tk, os⟩) u ys := hl2.at fun o e => Heap.get?_push_of_some _ e
    wp_walk using wpAny_pyIter_tuple hL1, wpAny_pyIter_tuple hL2
    exact ⟨_, rfl, h⟩
section
variable {prog : Program} {w : World} {A : Around} {E : Value → Shared → Prop} {s : Shared}
theorem callZip {t u : Addr} {xs ys : Array Value} {Q : Value → Shared → Prop} (h1 : s.heap.IsTuple t xs) (h2 : s.heap.IsTuple u ys)
    (q : ∀ h' n, n = s.heap.objs.size → IsZip h' (n + 4) (n + 2) (n + 3) .none → IsPair h' (n + 2) (.ref n) (.ref (n + 1)) → IsPair h' (n + 3) .none .none → h'.IsTupleIter n t 0 → h'.IsTupleIter (n + 1) u 0 →
      (∀ c o, s.heap.get? c = some o → h'.get? c = some o) → Q (.ref (n + 4)) { s with heap := h' }) : wpAny (model prog w) A (call (.type "zip") [.ref t, .ref u]) Q E s := by
  refine callType_new F.called_zip (by decide) (F.typeCall_zip_2 _ _) (F.newCall_zip_2 _ _) (fun obj => F.args_object_init_3 obj _ _) F.entry_zip_new (zipT_new t u xs ys) ⟨h1, h2, ?_⟩
  have z1 : (zG1 s.heap t).objs.size = s.heap.objs.size + 1 := Heap.size_push ..
  have z2 : (zG2 s.heap t u).objs.size = s.heap.objs.size + 2 := by rw [Heap.size_push, z1]
  have z3 : (zG3 s.heap t u).objs.size = s.heap.objs.size + 3 := by rw [Heap.size_push, z2]
  have z4 : (zG4 s.heap t u).objs.size = s.heap.objs.size + 4 := by rw [Heap.size_push, z3]
  have p5 : ∀ c o, (zG4 s.heap t u).get? c = some o → (zG5 s.heap t u).get? c = some o := fun c o e => Heap.get?_push_of_some _ e
  have p4 : ∀ c o, (zG3 s.heap t u).get? c = some o → (zG5 s.heap t u).get? c = some o := fun c o e => p5 c o (Heap.get?_push_of_some _ e)
  have p3 : ∀ c o, (zG2 s.heap t u).get? c = some o → (zG5 s.heap t u).get? c = some o := fun c o e => p4 c o (Heap.get?_push_of_some _ e)
  have p2 : ∀ c o, (zG1 s.heap t).get? c = some o → (zG5 s.heap t u).get? c = some o := fun c o e => p3 c o (Heap.get?_push_of_some _ e)
  have e5 : (zG5 s.heap t u).get? (zG4 s.heap t u).objs.size = some _ := Heap.get?_push_size _ rfl
  have e4 := p5 _ _ (show (zG4 s.heap t u).get? (zG3 s.heap t u).objs.size = some _ from Heap.get?_push_size _ rfl)
  have e3 := p4 _ _ (show (zG3 s.heap t u).get? (zG2 s.heap t u).objs.size = some _ from Heap.get?_push_size _ rfl)
  have e2 := p3 _ _ (show (zG2 s.heap t u).get? (zG1 s.heap t).objs.size = some _ from Heap.get?_push_size _ rfl)
  have e1 := p2 _ _ (show (zG1 s.heap t).get? s.heap.objs.size = some _ from Heap.get?_push_size _ rfl)
  rw [z2, z3, z4] at e5
  rw [z2, z1] at e3
  rw [z3] at e4
  rw [z1] at e2
  show _ ∧ _
  rw [z4]
  exact ⟨⟨_, e5, rfl⟩, q _ _ rfl e5 e3 e4 ⟨_, e1, rfl, rfl⟩ ⟨_, e2, rfl, rfl⟩ fun c o x => p2 c o (Heap.get?_push_of_some _ x)⟩
theorem nextZip {z TI TO i1 i2 t1 t2 : Addr} {k : Nat} {xs ys : Array Value} {a b : Value} {Q : Option Value → Shared → Prop} (D : ZipApart z TI TO i1 i2 t1 t2) (hz : IsZip s.heap z TI TO .none) (hTI : IsPair s.heap TI (.ref i1) (.ref i2)) (hTO : IsPair s.heap TO a b)
    (h1 : s.heap.IsTupleIter i1 t1 k) (h2 : s.heap.IsTupleIter i2 t2 k) (ht1 : s.heap.IsTuple t1 xs) (ht2 : s.heap.IsTuple t2 ys)
    (q1 : ∀ x y, xs[k]? = some x → ys[k]? = some y → ∀ h', IsZip h' z TI TO (rawInt s.heap.objs.size) → IsPair h' TO x y → h'.IsTupleIter i1 t1 (k + 1) → h'.IsTupleIter i2 t2 (k + 1) → IsPair h' s.heap.objs.size x y →
      (∀ c o, c ≠ z → c ≠ TO → c ≠ i1 → c ≠ i2 → s.heap.get? c = some o → h'.get? c = some o) → Q (some (.ref s.heap.objs.size)) { s with heap := h' })
    (q2 : (xs[k]? = none ∨ ys[k]? = none) → A.handled = none ∧ ∀ h', (∀ c o, c ≠ z → c ≠ TO → c ≠ i1 → c ≠ i2 → s.heap.get? c = some o → h'.get? c = some o) → Q none { s with heap := h' }) :
    wpAny (model prog w) A (pyNext (.ref z)) Q E s := by
  have hT : s.TypeIs (.ref z) "zip" := ⟨_, hz, rfl⟩; unfold pyNext
  refine wpAny_bind (wpAny_attempt (wpAny_callSpecial?_slot (name := Str.ofString "__next__") hT F.slot_zip_next (wpAny_call_entry F.slot_zip_next hT F.entry_zip_next ?_ (F.args_zip_next_1 _))))
  refine zipT D hz hTI hTO h1 h2 ht1 ht2 (fun x y hx hy h' a1 a2 a3 a4 a5 a6 => ⟨_, rfl, wpAny_pure (q1 x y hx hy h' a1 a2 a3 a4 a5 a6)⟩) fun he => ⟨(q2 he).1, fun h' e kk ho => ?_⟩
  obtain ⟨o, ho, hc⟩ := ho
  exact wpAny_bind (wpAny_isInstance (T := "StopIteration") (b := true) ⟨o, ho, hc⟩ isSubtype_stop (wpAny_pure ((q2 he).2 _ kk)))
end
end L3
namespace L3
open PySem PySem.Spec PyProof.Rows L2

def Itz (K : PySem.W.Frag) (a b : Addr) : It :=
  ⟨fun i H => ∃ xs ys x y, SqT K H a xs ∧ SqT K H b ys ∧ xs[i]? = some x ∧ ys[i]? = some y,
   fun i H v H' => ∃ T x y, v = .ref T ∧ H T = none ∧ H' = upd H T (.tup [x, y]) ∧ ∀ xs ys, SqT K H a xs → SqT K H b ys → xs[i]? = some x ∧ ys[i]? = some y,
   fun i H => ∃ xs ys, SqT K H a xs ∧ SqT K H b ys ∧ (xs.length ≤ i ∨ ys.length ≤ i)⟩

theorem inv_turns {X : Cx} {pins : List (Addr × Obj)} {σ : St} {H : Hp} {s : Shared} {h' : Heap} {ch : List Addr} {T : Addr} {xs : List V} (I : Inv X pins σ H s) (hf : ∀ b ∈ ch, FpOk X pins H b) (hT : s.heap.objs.size ≤ T)
    (k : ∀ b o, b ∉ ch → s.heap.get? b = some o → h'.get? b = some o) (kc : ∀ b ∈ ch, ∃ o, h'.get? b = some o) (new : ObjOk X.prog X.w (upd H T (.tup xs)) h' T (.tup xs)) : Inv X pins σ (upd H T (.tup xs)) { s with heap := h' } := by
  have hn : H T = none := I.hok.fresh hT
  have nc : ∀ b u, H b = some u → b ∉ ch := fun b u e hb => by rw [(hf b hb).1] at e; cases e
  have nT : ∀ b o, s.heap.get? b = some o → b ≠ T := fun b o e z => absurd (Heap.lt_size e) (by rw [z]; exact Nat.not_lt.mpr hT)
  refine I.call' (ch := ch) rfl ⟨fun b o e _ _ hc => k b o hc e, fun b o e _ _ hc => ⟨o.slots, k b o hc e⟩, fun b o e n _ => by rw [upd_ne (nT b o e)]; exact n, fun b o e hc => ⟨o, k b o hc e⟩, fun b xs e => ?_, fun b o u e => ?_, fun b ps e => ⟨#[], ?_⟩⟩ ?_ I.bare ?_
  · rw [upd_ne (ne_of_none e hn)]; exact e
  · rw [upd_ne (ne_of_none e hn)]; exact e
  · rw [upd_ne (ne_of_none e hn), e]; simp
  · intro b u e
    by_cases hb : b = T
    · subst hb
      rw [upd_same] at e
      cases e
      exact new
    · rw [upd_ne hb] at e
      refine (I.hok b u e).stay (fun c v hc q => k c v ?_ q) (fun c q => by rw [upd_ne (ne_of_none q hn)]; exact q) fun c ys q => by rw [upd_ne (ne_of_none q hn)]; exact q
      rcases hc with z | z
      · rw [z]; exact nc b u e
      · exact nc c _ z
  · intro b hb
    obtain ⟨f0, f1, f2, f3, f4, f5⟩ := hf b hb
    exact ⟨f3, f1, f4, f5⟩
theorem turn_zip {P : Program} {w : World} {K : PySem.W.Frag} {es : List Expr} {n : Nat} {pos : Pos} {a b z TI TO i1 i2 : Addr} (D : ZipApart z TI TO i1 i2 a b) :
    Turn P w K (.Tuple es n pos) (Itz K a b) [z, TI, TO, i1, i2] z (fun i h => IsZip h z TI TO .none ∧ IsPair h TI (.ref i1) (.ref i2) ∧ (∃ x y, IsPair h TO x y) ∧ h.IsTupleIter i1 a i ∧ h.IsTupleIter i2 b i) where
  mem := by simp
  obj := fun i h st c hc => by
    obtain ⟨hz, hI, ⟨x, y, hO⟩, ⟨o1, e1, _, d1⟩, ⟨o2, e2, _, d2⟩⟩ := st
    have hc : c = z ∨ c = TI ∨ c = TO ∨ c = i1 ∨ c = i2 := by simpa using hc
    rcases hc with rfl | rfl | rfl | rfl | rfl
    · exact ⟨_, hz, fun v e => by cases e⟩
    · exact ⟨_, hI, fun v e => by cases e⟩
    · exact ⟨_, hO, fun v e => by cases e⟩
    · exact ⟨_, e1, fun v e => by rw [d1] at e; cases e⟩
    · exact ⟨_, e2, fun v e => by rw [d2] at e; cases e⟩
  keep := fun i h h' st k => by
    obtain ⟨hz, hI, ⟨x, y, hO⟩, h1, h2⟩ := st
    exact ⟨k z (by simp) _ hz, k TI (by simp) _ hI, ⟨x, y, k TO (by simp) _ hO⟩, h1.at fun o e => k i1 (by simp) o e, h2.at fun o e => k i2 (by simp) o e⟩
  item := by
    intro X hP hw hK hc i pins s σ H E I hf st hg
    subst hP hw hK
    obtain ⟨hz, hI, ⟨x0, y0, hO⟩, h1, h2⟩ := st
    obtain ⟨xs, ys, x, y, hq1, hq2, hx, hy⟩ := hg
    obtain ⟨its1, rv1, p1, _⟩ := I.tuple hq1
    obtain ⟨its2, rv2, p2, _⟩ := I.tuple hq2
    obtain ⟨u, hu, ru⟩ := rv1.get hx
    obtain ⟨v, hv, rv⟩ := rv2.get hy
    refine nextZip D hz hI hO h1 h2 (show s.heap.IsTuple a its1.toArray from p1) (show s.heap.IsTuple b its2.toArray from p2) (fun u' v' hu' hv' h' z1 z2 z3 z4 z5 kk => ?_) fun he => ?_
    · have e1 : u' = u := by simpa [hu] using hu'.symm
      have e2 : v' = v := by simpa [hv] using hv'.symm
      subst e1 e2
      refine ⟨_, rfl, wpAny_letOwnedTupleGo_zip z1 fun h2' hz2 s2 => ?_⟩
      have T0 : H s.heap.objs.size = none := I.hok.fresh (Nat.le_refl _)
      have tz : s.heap.objs.size ≠ z := Nat.ne_of_gt (Heap.lt_size hz)
      have J : Inv X pins σ (upd H s.heap.objs.size (.tup [x, y])) { s with heap := h2' } := by
        refine inv_turns (ch := [z, TI, TO, i1, i2]) I hf (Nat.le_refl _) (fun c o hc e => ?_) (fun c hc => ?_) ?_
        · have c1 : c ≠ z := fun q => hc (by simp [q])
          exact s2.extBut _ _ c1 (kk c o c1 (fun q => hc (by simp [q])) (fun q => hc (by simp [q])) (fun q => hc (by simp [q])) e)
        · have hc : c = z ∨ c = TI ∨ c = TO ∨ c = i1 ∨ c = i2 := by simpa using hc
          rcases hc with rfl | rfl | rfl | rfl | rfl
          · exact ⟨_, hz2⟩
          · exact ⟨_, s2.extBut _ _ D.TIz (kk _ _ D.TIz D.TITO D.TIi1 D.TIi2 hI)⟩
          · exact ⟨_, s2.extBut _ _ D.TOz z2⟩
          · obtain ⟨o, e, _⟩ := z3; exact ⟨o, s2.extBut _ _ D.i1z e⟩
          · obtain ⟨o, e, _⟩ := z4; exact ⟨o, s2.extBut _ _ D.i2z e⟩
        · exact ⟨by show 2 ≤ sizeLine; decide, [u', v'], .cons ru (.cons rv .nil), ⟨_, s2.extBut _ _ tz z5, rfl, _, rfl⟩⟩
      refine ⟨.ref s.heap.objs.size, _, J, rfl, ⟨_, x, y, rfl, T0, rfl, fun xs' ys' q1 q2 => ?_⟩, ⟨hz2, s2.extBut _ _ D.TIz (kk _ _ D.TIz D.TITO D.TIi1 D.TIi2 hI), ⟨_, _, s2.extBut _ _ D.TOz z2⟩, z3.at fun o e => s2.extBut _ _ D.i1z e, z4.at fun o e => s2.extBut _ _ D.i2z e⟩, fun c hc => ?_⟩
      · rw [I.tuple_inj q1 hq1, I.tuple_inj q2 hq2]; exact ⟨hx, hy⟩
      · have hlt : c < s.heap.objs.size := by
          have hc : c = z ∨ c = TI ∨ c = TO ∨ c = i1 ∨ c = i2 := by simpa using hc
          rcases hc with e | e | e | e | e <;> rw [e]
          · exact Heap.lt_size hz
          · exact Heap.lt_size hI
          · exact Heap.lt_size hO
          · obtain ⟨o, e, _⟩ := h1; exact Heap.lt_size e
          · obtain ⟨o, e, _⟩ := h2; exact Heap.lt_size e
        rw [upd_ne (Nat.ne_of_lt hlt)]; exact (hf c hc).1
    · exfalso
      rcases he with he | he
      · simp [hu] at he
      · simp [hv] at he
  done := by
    intro X hP hw hK hc i pins s σ H E I hf st hg
    subst hP hw hK
    obtain ⟨hz, hI, ⟨x0, y0, hO⟩, h1, h2⟩ := st
    obtain ⟨xs, ys, hq1, hq2, hl⟩ := hg
    obtain ⟨its1, rv1, p1, _⟩ := I.tuple hq1
    obtain ⟨its2, rv2, p2, _⟩ := I.tuple hq2
    have l1 := rv1.length
    have l2 := rv2.length
    refine nextZip D hz hI hO h1 h2 (show s.heap.IsTuple a its1.toArray from p1) (show s.heap.IsTuple b its2.toArray from p2) (fun u' v' hu' hv' h' z1 z2 z3 z4 z5 kk => ?_) fun he => ⟨I.ok.hd hc, fun h' kk => ⟨rfl, ?_⟩⟩
    · exfalso
      have g1 : i < its1.length := by simpa using (Array.getElem?_eq_some_iff.mp hu').1
      have g2 : i < its2.length := by simpa using (Array.getElem?_eq_some_iff.mp hv').1
      omega
    · have hnc : ∀ c o, c ∉ [z, TI, TO, i1, i2] → s.heap.get? c = some o → h'.get? c = some o := fun c o hc e => kk c o (fun q => hc (by simp [q])) (fun q => hc (by simp [q])) (fun q => hc (by simp [q])) (fun q => hc (by simp [q])) e
      refine I.call' (s' := { s with heap := h' }) (ch := [z, TI, TO, i1, i2]) rfl ⟨fun b o e _ _ hc => hnc b o hc e, fun b o e _ _ hc => ⟨o.slots, hnc b o hc e⟩, fun b o e n _ => n, fun b o e hc => ⟨o, hnc b o hc e⟩, fun _ _ e => e, fun _ _ _ e => e, fun b ps e => ⟨#[], by rw [e]; simp⟩⟩ (fun b u e => ?_) I.bare ?_
      · have nc : ∀ b u, H b = some u → b ∉ [z, TI, TO, i1, i2] := fun b u e hb => by rw [(hf b hb).1] at e; cases e
        refine (I.hok b u e).stay (fun c v hc q => hnc c v ?_ q) (fun _ q => q) fun _ _ q => q
        rcases hc with q | q
        · rw [q]; exact nc b u e
        · exact nc c _ q
      · intro b hb
        obtain ⟨f0, f1, f2, f3, f4, f5⟩ := hf b hb
        exact ⟨f3, f1, f4, f5⟩
  self := fun _ _ _ _ _ st h => wpAny_pyIter_zip st.1 h
theorem b_zip : bootBuiltins "zip" = some (.type "zip") := by decide +kernel
def iZip (K : PySem.W.Frag) (ta : TA) : TI := fun σ H R => ta σ H fun vs H1 => ∃ a b xs ys, vs = [.ref a, .ref b] ∧ SqT K H1 a xs ∧ SqT K H1 b ys ∧ R (Itz K a b) H1
theorem pi_zip2 {X : Cx} {K : PySem.W.Frag} {es : List Expr} {n : Nat} {tpos : Pos} {a b : Expr} {ta : TA} {p pos : Pos} (hK : X.K = K) (hg : Gl X "zip") (hm : X.mg "zip" = none) (ha : PA X [a, b] ta) (hs : starEach [a, b] X.env = [(false, eval a X.env), (false, eval b X.env)] := by rfl) (hs2 : starEach [b] X.env = [(false, eval b X.env)] := by rfl) :
    PI X (.Tuple es n tpos) (.Call (.Name "zip" p) [a, b] [] pos) (iZip K ta) := by
  subst hK
  intro pins s σ H R I h
  refine Call_ (ld_blt I hg hm b_zip (PyProof.Rows.callWith_type1 (thn (ha pos pins s σ H _ I h) fun us s1 ⟨vs, H1, I1, r1, q1⟩ => ?_) (by rw [hs, hs2]) (by rw [hs2]; rfl)))
  obtain ⟨x, y, xs, ys, e, hx, hy, q⟩ := q1
  subst e
  cases r1 with
  | cons r rr =>
    cases rr with
    | cons r' rr =>
      cases rr
      cases r
      cases r'
      obtain ⟨its1, rv1, p1, _⟩ := I1.tuple hx
      obtain ⟨its2, rv2, p2, _⟩ := I1.tuple hy
      have lx : x < s1.heap.objs.size := p1.lt
      have ly : y < s1.heap.objs.size := p2.lt
      refine callZip (show s1.heap.IsTuple x its1.toArray from p1) (show s1.heap.IsTuple y its2.toArray from p2) fun h' m hm' z1 z2 z3 z4 z5 kk => ?_
      subst hm'
      refine wpAny_pyIter_zip z1 ⟨_, [s1.heap.objs.size + 4, s1.heap.objs.size + 2, s1.heap.objs.size + 3, s1.heap.objs.size, s1.heap.objs.size + 1], _, _, H1, rfl, I1.kept (t' := s1.toks) kk, turn_zip ⟨?_, ?_, ?_, ?_, ?_, ?_, ?_, ?_, ?_, ?_, ?_, ?_, ?_, ?_, ?_, ?_, ?_, ?_⟩, ⟨z1, z2, ⟨_, _, z3⟩, z4, z5⟩, fun c hc => ?last, q⟩
      case last =>
        have hc : c = s1.heap.objs.size + 4 ∨ c = s1.heap.objs.size + 2 ∨ c = s1.heap.objs.size + 3 ∨ c = s1.heap.objs.size ∨ c = s1.heap.objs.size + 1 := by simpa using hc
        have hge : s1.heap.objs.size ≤ c := by rcases hc with e | e | e | e | e <;> rw [e] <;> first | exact Nat.le_add_right _ _ | exact Nat.le_refl _
        exact I1.fpOk hge (I1.hok.fresh hge)
      all_goals (intro e; have e' : @Eq Nat _ _ := e; have lx' : @LT.lt Nat _ _ _ := lx; have ly' : @LT.lt Nat _ _ _ := ly; omega)
theorem r_zip {K : PySem.W.Frag} {ta : TA} {σ : St} {H : Hp} {R : It → Hp → Prop} (q : ta σ H fun vs H1 => ∃ a b xs ys, vs = [.ref a, .ref b] ∧ SqT K H1 a xs ∧ SqT K H1 b ys ∧ R (Itz K a b) H1) : iZip K ta σ H R := q

theorem comp_mapZ {K : PySem.W.Frag} {a b : Addr} {α : Type} {xs : List α} {e1 e2 : α → V} {g : TG} {tc : TT} {te : TE} {fin : List V → Hp → Prop} {σ0 : St} {H : Hp} (f : α → V) (Sg : St → Prop) (ha : SqT K H a (xs.map e1)) (hb : SqT K H b (xs.map e2)) (hz : xs.length ≤ sizeLine) (h0 : Sg σ0)
    (hs : ∀ (i : Nat) (x : α) (ys : List V) (σ : St) (H1 : Hp) (T : Addr), xs[i]? = some x → CInv xs f Sg H i ys σ H1 → Same H H1 → Sg σ → H1 T = none →
      g (.ref T) σ (upd H1 T (.tup [e1 x, e2 x])) fun σ3 H3 => tc σ3 H3 fun b H4 => if b = true then te σ3 H4 fun y H5 => CInv xs f Sg H (i + 1) (ys ++ [y]) σ3 H5 else CInv xs f Sg H (i + 1) ys σ3 H4)
    (hd : ∀ H1, Same H H1 → fin (xs.map f) H1) : CompW (Itz K a b) g tc te fin σ0 H := by
  refine ⟨fun i m ys σ H1 => m = xs.length - i ∧ i ≤ xs.length ∧ CInv xs f Sg H i ys σ H1, ⟨xs.length, by simp, Nat.zero_le _, Same.refl _, h0, rfl⟩, ?_⟩
  rintro i m ys σ H1 ⟨rfl, hi, c⟩
  obtain ⟨s, sg, rfl⟩ := id c
  by_cases hlt : i < xs.length
  · refine .inr ⟨⟨_, _, e1 xs[i], e2 xs[i], SqT_same s ha, SqT_same s hb, by simp [hlt], by simp [hlt]⟩, CInv xs f Sg H (i + 1), fun ys2 σ2 H2 p' => ⟨?_, xs.length - (i + 1), by omega, rfl, hlt, p'⟩, fun v H2 y => ?_⟩
    · obtain ⟨_, _, rfl⟩ := p'
      rw [List.length_map, List.length_take]; omega
    · obtain ⟨T, x, y', rfl, hT, rfl, hxy⟩ := y
      obtain ⟨q1, q2⟩ := hxy _ _ (SqT_same s ha) (SqT_same s hb)
      have e1' : e1 xs[i] = x := by simpa [hlt] using q1
      have e2' : e2 xs[i] = y' := by simpa [hlt] using q2
      rw [← e1', ← e2']
      exact hs i xs[i] _ σ H1 T (by simp [hlt]) c s sg hT
  · have e : i = xs.length := by omega
    subst e
    refine .inl ⟨⟨_, _, SqT_same s ha, SqT_same s hb, .inl (by simp)⟩, ?_, ?_⟩
    · rw [List.length_map, List.length_take]; omega
    · rw [List.take_length]; exact hd H1 s
end L3
namespace L3
open PySem PySem.Spec PyProof.Rows L2

theorem sqtK {K : PySem.W.Frag} {a : Addr} {xs : List V} {its : Array Value} {n : Nat} {od : Option Addr} {sl : Array (Option Value)} (l : K.lookup a = some ⟨.type "tuple", od, .seq its n, sl⟩) (hz : its.size ≤ sizeLine) (v : Vals xs its.toList) : ∀ H, SqT K H a xs := fun H => .inr ⟨_, its, n, l, rfl, rfl, hz, v⟩

theorem r_pop {l : Addr} {xs : List V} {y : V} {H : Hp} {Q : VK} (h : H l = some (.lst (xs ++ [y]))) (q : Q y (upd H l (.lst xs))) : rPop (.ref l) [] H Q := by
  refine ⟨l, xs ++ [y], y, rfl, rfl, h, ?_, ?_⟩
  · simp
  · simpa using q
theorem r_extend {l b : Addr} {xs zs : List V} {H : Hp} {Q : VK} (h : H l = some (.lst xs)) (hb : H b = some (.lst zs)) (hz : xs.length + zs.length ≤ sizeLine) (q : Q .non (upd H l (.lst (xs ++ zs)))) : rExtend (.ref l) [.ref b] H Q := ⟨l, b, xs, zs, rfl, rfl, h, hb, hz, q⟩
end L3

namespace L3
open PySem PySem.Spec PyProof.Rows L2 PySem.SeqAt

theorem PS.nox {X : Cx} {st : Stmt} {t : TS} (h : PS X.nox st t) : PS X st t := fun pins s σ H D I hw =>
  wpAny_mono (h pins s σ H D (I.wish _) hw) (fun _ _ q => q.unwish) fun _ _ z => z.elim
theorem PA.nox {X : Cx} {es : List Expr} {t : TA} (h : PA X.nox es t) : PA X es t := fun pos pins s σ H Q I hw =>
  wpAny_mono (h pos pins s σ H Q (I.wish _) hw) (fun _ _ ⟨v, H', I', r, q⟩ => ⟨v, H', I'.unwish, r, q⟩) fun _ _ z => z.elim


theorem hok_stays {P : Program} {w : World} {H : Hp} {h0 h5 : Heap} {l : List Addr} (x : HOk P w H h0) (hl : ∀ b ∈ l, H b = none) (k : (PySem.W.hideAll h0 l).StaysIn h5) : HOk P w H h5 := fun a o e => by
  refine (x a o e).stay (fun b u hb q => k b u (PySem.W.hideAll_get _ q fun hm => ?_)) (fun _ q => q) fun _ _ q => q
  have hn := hl b hm
  rcases hb with rfl | hb
  · rw [e] at hn; cases hn
  · rw [hb] at hn; cases hn
theorem un_stays {fs : List Addr} {H H' : Hp} {h h0 h5 : Heap} {l : List Addr} (u : Un fs [] H H' h h0) (hl : ∀ b ∈ l, b ∈ fs ∨ h.objs.size ≤ b) (k : (PySem.W.hideAll h0 l).StaysIn h5) (up : h0.UpToSlots h5)
    (hf : ∀ b ∈ fs, H b = none ∧ ∀ o, h.get? b = some o → ∀ vs, o.data ≠ .fields vs) : Un fs [] H H' h h5 := by
  have nl : ∀ b o, h.get? b = some o → b ∉ fs → b ∉ l := fun b o q hb hm => by
    rcases hl b hm with z | z
    · exact hb z
    · exact absurd (Nat.lt_of_lt_of_le (Heap.lt_size q) z) (Nat.lt_irrefl _)
  have sl : ∀ b o, h.get? b = some o → b ∈ fs → ∃ sl, h5.get? b = some { o with slots := sl } := fun b o q hb => by
    obtain ⟨s1, e1⟩ := u.slot b o q (hf b hb).1 hb (by simp)
    obtain ⟨s2, e2⟩ := up b _ e1 ((hf b hb).2 o q)
    exact ⟨s2, e2⟩
  refine ⟨fun b o q n hb hx => k b o (PySem.W.hideAll_get _ (u.keep b o q n hb hx) (nl b o q hb)), fun b o q _ hb _ => sl b o q hb, u.free, fun b o q hx => ?_, u.tups, u.frzs, u.tbls⟩
  by_cases hb : b ∈ fs
  · obtain ⟨s2, e2⟩ := sl b o q hb
    exact ⟨_, e2⟩
  · obtain ⟨o', e'⟩ := u.there b o q hx
    exact ⟨o', k b o' (PySem.W.hideAll_get _ e' (nl b o q hb))⟩


structure Thrown (P : Program) (w : World) (outer : List Env) (H : Hp) (s : Shared) (ea C : Addr) (H' : Hp) (s' : Shared) : Prop where
  os : s'.os = s.os
  bare : AllBare s'.gens
  ex : ∃ (h0 : Heap) (l : List Addr) (a0 : Value), Un (frs outer) [] H H' s.heap h0 ∧ HOk P w H' h0 ∧ (∀ b ∈ l, H' b = none ∧ (b ∈ frs outer ∨ s.heap.objs.size ≤ b)) ∧ h0.get? ea = none ∧
    Heap.FlyingW (PySem.W.hideAll h0 l) outer ea (.ref C) a0 s'.heap ∧ h0.UpToSlots s'.heap
def CXR (P : Program) (w : World) : CXT := fun outer H s E e s' => ∃ (ea C : Addr) (H' : Hp), e = .ref ea ∧ Thrown P w outer H s ea C H' s' ∧ E (.ref C) none H'


structure ExcC (K : PySem.W.Frag) (mg : Str → Option Value) (x : Str) (C : Addr) : Prop where
  glob : mg x = some (.ref C)
  ex : PySem.W.excIn K C [.type "ValueError", .type "Exception", .type "BaseException", .type "object"] "ValueError.__new__" = true
theorem ExcC.obj {K : PySem.W.Frag} {mg : Str → Option Value} {x : Str} {C : Addr} {h : Heap} (c : ExcC K mg x C) (X : K.In h) :
    ∃ (bm : List Value) (N : Addr) (nm qn : Str) (bs : List Value) (hd : Bool) (sn : List Str) (sub : List Value) (ab : Bool) (col : Option Bool) (dd : Option Addr) (k0 k1 k2 k3 k5 : Option Value) (mN : Str → Option Value),
      h.get? C = some (excClassObj nm qn C N bs bm hd sn sub ab col dd k0 k1 k2 k3 k5 "ValueError.__new__") ∧ h.Ns N mN ∧ mN "__init__" = none ∧
      OwnTail h [.type "ValueError", .type "Exception", .type "BaseException", .type "object"] bm := by
  have hq := c.ex
  unfold PySem.W.excIn at hq
  split at hq
  · rename_i dd cd sl hlk
    split at hq
    · rename_i C' bm k0 k1 k2 k3 id k5 hmro hsl
      simp only [Bool.and_eq_true, Bool.not_eq_true', beq_iff_eq] at hq
      obtain ⟨⟨⟨⟨⟨e1, e2⟩, e3⟩, e4⟩, e5⟩, e6⟩ := hq
      subst e1 e2
      obtain ⟨nm, bs, mro, ns, qn, hd, sn, sub, ab, col, del⟩ := cd
      dsimp only at hmro e3 e5 e6
      subst hmro e3
      obtain ⟨sl⟩ := sl
      dsimp only at hsl
      subst hsl
      exact ⟨bm, ns, nm, qn, bs, hd, sn, sub, ab, col, dd, k0, k1, k2, k3, k5, _, X _ _ hlk, .of_isNs (PySem.W.isNs_of_in X e5), PySem.W.nsMap_none_of_in X e5 e6, PySem.W.tail_of_in X e4⟩
    · cases hq
  · cases hq
end L3
namespace L3
open PySem PySem.Spec PyProof.Rows L2 PySem.SeqAt

def tRaise (C : Addr) (E : XK) (t : TA) : TS := fun _ σ H => t σ H fun vs H1 => vs.length ≤ 1000 ∧ E (.ref C) none H1

theorem frs_body {X : Cx} (hst : X.stack = X.env :: X.outer) (hfr : X.env.frame = some X.env.locals) : frs X.stack = X.env.locals :: frs X.outer := by
  rw [hst]; unfold frs; rw [List.filterMap_cons, hfr]

theorem raise_leaves {X : Cx} {pins : List (Addr × Obj)} {σ : St} {H : Hp} {s : Shared} {h' : Heap} {e C : Addr} {args : List Value} {Q : Unit → Shared → Prop} {Ex : Value → Shared → Prop} (I : Inv X pins σ H s)
    (hst : X.stack = X.env :: X.outer) (hfr : X.env.frame = some X.env.locals) (hex : X.ex = []) (hx : Heap.MadeExcOf s.heap h' e (.ref C) args)
    (hQ : ∀ s', Thrown X.prog X.w X.outer X.H₀ X.s₀ e C H s' → Q () s') : wpAny (model X.prog X.w) X.A (leaving X.env (.ref e)) Q Ex { s with heap := h' } := by
  have hfs := frs_body hst hfr
  have hin : ∀ env ∈ X.stack, ∀ a, env.frame = some a → a ∈ frs X.stack := fun env he b hb => List.mem_filterMap.mpr ⟨env, he, hb⟩
  have hl : s.heap.FunFrames (PySem.W.hideAll s.heap (frs X.stack)) (X.env :: X.outer) := by
    have z := PySem.W.funFrames_hide I.stack hin
    rw [hst] at z ⊢; exact z
  refine wpAny_leaves_madeW (s := { s with heap := h' }) (by rw [← hst]; exact I.ok.frames) hfr (fun b o q => PySem.W.of_hideAll _ q) hl hx fun h2 t x1 _ _ x4 => hQ _ ⟨I.os, I.bare, ?_⟩
  have hb := I.base
  rw [hex] at hb
  refine ⟨s.heap, frs X.stack, .ref t, hb, I.hok, fun b hm => ⟨I.stkFree b hm, ?_⟩, hx.new, x1, (Heap.UpToSlots.of_keeps hx.keeps).trans x4⟩
  rw [hfs] at hm
  rcases List.mem_cons.mp hm with rfl | hm
  · exact .inr I.ok.above
  · exact .inl hm
theorem ps_raise {P : Program} {w : World} {K : PySem.W.Frag} {mg : Str → Option Value} {base : Heap} {N : List Str} {qual : Str} {scope : Scope} {f : Addr} {cd : Value} {A : Around} {outer : List Env} {s0 : Shared} {H0 : Hp} {E : XK}
    {C : Addr} {x : Str} {np cpos pos : Pos} {e0 : Expr} {es : List Expr} {t : TA} (c : ExcC K mg x C) (hg : Gl (cxOf (CXR P w) P w K mg base N qual scope f cd A outer s0 H0 E) x)
    (ha : PA (cxOf (CXR P w) P w K mg base N qual scope f cd A outer s0 H0 E).nox (e0 :: es) t) (hdb : (x == ("__debug__" : Str)) = false := by decide)
    (he : starEach (e0 :: es) (cxOf (CXR P w) P w K mg base N qual scope f cd A outer s0 H0 E).env = (false, eval e0 (cxOf (CXR P w) P w K mg base N qual scope f cd A outer s0 H0 E).env) :: starEach es (cxOf (CXR P w) P w K mg base N qual scope f cd A outer s0 H0 E).env := by rfl)
    (hpl : (backTo cpos (starEach es (cxOf (CXR P w) P w K mg base N qual scope f cd A outer s0 H0 E).env)).any (·.1) = false := by rfl) :
    PS (cxOf (CXR P w) P w K mg base N qual scope f cd A outer s0 H0 E) (.Raise (some (.Call (.Name x np) (e0 :: es) [] cpos)) none pos) (tRaise C E t) := by
  intro pins s σ H D I h
  obtain ⟨bm, N', nm, qn, bs, hd, sn, sub, ab, col, dd, k0, k1, k2, k3, k5, mN, hC, hN, hni, TL⟩ := c.obj I.ok.mod.kin
  refine wpAny_Raise_call_subU (C := C) (mN := mN) (N := N') (nm := nm) (q := qn) (bs := bs) (bm := bm) (hdct := hd) (sn := sn) (sub := sub) (ab := ab) (col := col) (dd := dd) (k0 := k0) (k1 := k1) (k2 := k2) (k3 := k3) (k5 := k5)
    PySem.F.excBase_ValueError (by decide +kernel) PySem.F.excBase_ValueError (TL.hasType (by decide +kernel)) (I.ok.hd rfl) (by rw [he]; show (false || (backTo cpos (starEach es _)).any (·.1)) = false; rw [hpl]; rfl) hni ?_
  refine ld_glob I hg c.glob ⟨rfl, ?_⟩ hdb
  have hargs := (L3.PA.nox ha) cpos pins s σ H _ I h
  rw [he] at hargs ⊢
  refine Calls.evalArgs_plain (thn hargs fun us s1 ⟨vs, H1, I1, r, hlen, q⟩ => ?_)
  refine ⟨rfl, ?_, I1.bk _ _ hC, hN.keeps I1.bk, TL.keeps I1.bk, fun h' e hm => ?_⟩
  · show us.length ≤ sizeLine
    rw [← r.length]
    exact Nat.le_trans hlen (by decide +kernel)
  · exact raise_leaves (X := cxOf (CXR P w) P w K mg base N qual scope f cd A outer s0 H0 E) I1 rfl rfl rfl hm fun s' th => ⟨e, C, H1, rfl, th, q⟩

end L3
namespace L3
open PySem PySem.Spec PyProof.Rows L2 PySem.SeqAt
section
variable {P : Program} {w : World} {K : PySem.W.Frag} {mg : Str → Option Value} {base : Heap} {x qual : Str} {st : Stmt} {N ps : List Str} {sp : Sp} {C : Addr} {k : Nat}

def BodyX (P : Program) (w : World) (K : PySem.W.Frag) (mg : Str → Option Value) (base : Heap) (k : Nat) (qual : Str) (st : Stmt) (N : List Str) (sp : Sp) : Prop :=
  ∀ (f : Addr) (cdv : Value) (A : Around) (outer : List Env) (s : Shared) (H : Hp) (vs : List V) (Q : VK) (E : XK), Room k (A.deeper (envOfC qual (defScope st) s.heap.objs.size f cdv)) → sp vs H Q E →
    ∃ t, PSs (cxOf (CXR P w) P w K mg base N qual (defScope st) f cdv A outer s H E) (defBody st) t ∧ t { nx := fun _ H' => Q .non H', rt := Q } (start N vs) H
theorem Fun.okX {f : Addr} {fd : FuncData} (F : Fun K x qual st f fd) (S : FnScope N ps (defScope st)) (len : ∀ vs H Q E, sp vs H Q E → vs.length = ps.length) (hbody : BodyX P w K mg base k qual st N sp) : FnOk P w K mg base (CXR P w) (k + 1) f fd ps sp := by
  obtain ⟨oc, od, kV, doc, pm, an, cdv, ct, osl, rfl, lk, hcd⟩ := F.ex
  exact fn_of lk hcd S len fun A outer s H vs Q E hr hsp => hbody f cdv A outer s H vs Q E hr hsp
theorem fnX_of (k : Nat) (h : ∃ f fd, Fun K x qual st f fd ∧ mg x = some (.ref f) ∧ Binds K fd ps []) (S : FnScope N ps (defScope st)) (len : ∀ vs H Q E, sp vs H Q E → vs.length = ps.length)
    (hbody : BodyX P w K mg base k qual st N sp) : FnE P w K mg base (CXR P w) (k + 1) x sp := by
  obtain ⟨f, fd, F, hm, hb⟩ := h
  exact ⟨f, fd, ps, Fun.okX F S len hbody, hm, F.kp, hb⟩
end

section
variable {X : Cx} {pins : List (Addr × Obj)} {σ : St} {H : Hp} {s : Shared}

abbrev Cx.sup (X : Cx) (e : Addr) (pl : List (Addr × Obj)) : Cx := { X with A := X.A.mark (some (.ref e)), calm := false, xe := fun _ _ => False, pn := X.pn ++ pl }
theorem Cx.Ok.sup {e : Addr} {pl : List (Addr × Obj)} (ok : X.Ok) : (Cx.sup X e pl).Ok :=
  ⟨ok.mod, ok.kind, ok.glob, ok.blt, ok.above, ok.inj, ok.has, ok.cab, (fun z => by cases z), ok.frames, ok.stk, ok.exf, ok.bs, ok.bsz, ok.noex, ok.exfs, ok.funs, ok.frf⟩
theorem Cx.Ok.unsup {e : Addr} {pl : List (Addr × Obj)} (ok : (Cx.sup X e pl).Ok) (h : X.calm = true → X.A.handled = none) : X.Ok :=
  ⟨ok.mod, ok.kind, ok.glob, ok.blt, ok.above, ok.inj, ok.has, ok.cab, h, ok.frames, ok.stk, ok.exf, ok.bs, ok.bsz, ok.noex, ok.exfs, ok.funs, ok.frf⟩
theorem Inv.sup {e : Addr} {pl : List (Addr × Obj)} (I : Inv X pins σ H s) (h : ∀ p ∈ pl, s.heap.get? p.1 = some p.2 ∧ H p.1 = none ∧ p.1 ≠ X.env.locals ∧ p.1 ∉ X.fs ∧ ∀ v, p.2.data ≠ .cell v) : Inv (Cx.sup X e pl) pins σ H s :=
  ⟨Cx.Ok.sup I.ok, I.os, I.bare, I.base, I.loc, I.cell, I.free, I.freeC, fun p hp => by
    rcases List.mem_append.mp hp with hp | hp
    · rcases List.mem_append.mp hp with hp | hp
      · exact I.pin p (List.mem_append_left _ hp)
      · exact h p hp
    · exact I.pin p (List.mem_append_right _ hp), I.hok, I.len⟩
theorem Inv.unsup {e : Addr} {pl : List (Addr × Obj)} (I : Inv (Cx.sup X e pl) pins σ H s) (h : X.calm = true → X.A.handled = none) : Inv X pins σ H s :=
  ⟨Cx.Ok.unsup I.ok h, I.os, I.bare, I.base, I.loc, I.cell, I.free, I.freeC, fun p hp => by
    rcases List.mem_append.mp hp with hp | hp
    · exact I.pin p (List.mem_append_left _ (List.mem_append_left _ hp))
    · exact I.pin p (List.mem_append_right _ hp), I.hok, I.len⟩
end
end L3
namespace L3
open PySem PySem.Spec PyProof.Rows L2 PySem.SeqAt


def Threw (X : Cx) (pins : List (Addr × Obj)) (σ : St) (Ew : XK) (ex : Value) (s' : Shared) : Prop :=
  ∃ (ea C : Addr) (H1 : Hp) (s1 : Shared) (H' : Hp), ex = .ref ea ∧ Inv X pins σ H1 s1 ∧ Thrown X.prog X.w X.stack H1 s1 ea C H' s' ∧ Ew (.ref C) none H'
abbrev TB := Ends → XK → St → Hp → Prop
def PB (X : Cx) (body : List Stmt) (tb : TB) : Prop :=
  ∀ (pins : List (Addr × Obj)) (s : Shared) (σ : St) (H : Hp) (D : Ends) (Ew : XK), Inv X pins σ H s → tb D Ew σ H → wpAny (model X.prog X.w) X.A (execs body X.env) (SP X pins D) (Threw X pins σ Ew) s
section
variable {X : Cx} {pins : List (Addr × Obj)} {σ : St} {H : Hp} {s : Shared} {k : Nat} {g x n : Str} {sp : Sp} {e : Expr} {es : List Expr} {t : TA} {gp cpos pos py : Pos}

theorem call_throws {Q : VK} {Ew : XK} (G : FnE X.prog X.w X.K X.mg X.base (CXR X.prog X.w) k g sp) (hr : Room k X.A) (hg : Gl X g) (ha : PA X.nox (e :: es) t) (I : Inv X pins σ H s) (h : t σ H fun vs H1 => sp vs H1 Q Ew)
    (hdb : (g == ("__debug__" : Str)) = false) (he : starEach (e :: es) X.env = (false, eval e X.env) :: starEach es X.env) (hpl : (backTo cpos (starEach es X.env)).any (·.1) = false) :
    wpAny (model X.prog X.w) X.A (eval (.Call (.Name g gp) (e :: es) [] cpos) X.env) (EP X pins σ Q) (Threw X pins σ Ew) s := by
  obtain ⟨f, fd, ps, F, hm, hk, hb⟩ := G.ex
  refine wpAny_Call_Name_kw (ld_glob I hg hm ?_ hdb)
  refine PySem.W.callWith_K (h₀ := X.base) I.ok.mod.kin hk (wpAny_mono (ha cpos pins s σ H _ (I.wish _) h) (fun us s1 ⟨vs, H1, I1, r, q⟩ => ⟨I1.kIn, ?_⟩) fun _ _ z => z.elim) he hpl
  have J : Inv X pins σ H1 s1 := I1.unwish
  have hl : us.length = ps.length := by rw [← r.length]; exact F.len _ _ _ _ q
  have hbd := hb s1 us J.kIn (by rw [List.append_nil]; exact hl)
  rw [List.append_nil] at hbd
  refine wpAny_call (codeAny_mono (F.run X.A X.stack s1 H1 ⟨us, []⟩ us vs Q Ew hr J.env0 hbd r q) fun r2 s' hq => ?_)
  cases r2 with
  | error ex =>
    obtain ⟨ea, C, H', rfl, th, q2⟩ := (show CXR X.prog X.w X.stack H1 s1 Ew ex s' from hq)
    exact ⟨ea, C, H1, s1, H', rfl, J, th, q2⟩
  | ok fl =>
    cases fl with
    | ret u => exact J.after hq
    | next => exact False.elim hq
    | brk => exact False.elim hq
    | cont => exact False.elim hq
end
end L3
namespace L3
open PySem PySem.Spec PyProof.Rows L2 PySem.SeqAt
section
variable {X : Cx} {pins : List (Addr × Obj)} {σ : St} {H H1 H' : Hp} {s s1 s' : Shared} {ea C : Addr}

theorem landed_at {h0 h5 : Heap} {l : List Addr} (I : Inv X pins σ H1 s1) (os : s'.os = s1.os) (bare : AllBare s'.gens) (u : Un (frs X.stack) [] H1 H' s1.heap h0) (hok : HOk X.prog X.w H' h0)
    (hl : ∀ b ∈ l, H' b = none ∧ (b ∈ frs X.stack ∨ s1.heap.objs.size ≤ b)) (k : (PySem.W.hideAll h0 l).StaysIn h5) (up : h0.UpToSlots h5) : Inv X pins σ H' { s' with heap := h5 } :=
  I.call' (s' := { s' with heap := h5 }) os (un_stays u (fun b hb => (hl b hb).2) k up fun b hb => ⟨I.stkFree b hb, fun o q => by
    obtain ⟨_, o', q', d⟩ := I.stack.mem hb
    rw [q] at q'; cases q'; exact d⟩) (hok_stays hok (fun b hb => (hl b hb).1) k) bare (fun b z => absurd z (by simp))

end
end L3
namespace L3
open PySem PySem.Spec PyProof.Rows L2 PySem.SeqAt PySem.W Builtin Builtin.ObjectAttr Builtin.Getset_descriptor

structure ExcK (K : PySem.W.Frag) (C : Addr) : Prop where
  cl : (PySem.W.clsIn K C).isSome = true
  ga : PySem.W.findIn K (.ref C) "__getattribute__" = some (some (.builtin "BaseException.__getattribute__"))
  gt : PySem.W.findIn K (.ref C) "__getattr__" = some none
  co : PySem.W.findIn K (.ref C) "__class__" = some (some (.builtin "object.__class__"))
  gs : PySem.W.specialIn K (.builtin "object.__class__") "__get__" = some (some (.builtin "getset_descriptor.__get__"))
  tk : PySem.W.takesIn K (.builtin "object.__class__") = some true
  mo : PySem.W.mroIn K C (.type "object") = some true
  mb : PySem.W.mroIn K C (.type "BaseException") = some true
section
variable {prog : Program} {w : World} {A : Around} {E : Value → Shared → Prop} {s : Shared} {K : PySem.W.Frag} {x C : Addr} {ox : Obj}
end
end L3
namespace L3
open PySem PySem.Spec PyProof.Rows L2 PySem.SeqAt PySem.W Builtin Builtin.ObjectAttr Builtin.Getset_descriptor
section
variable {prog : Program} {w : World} {A : Around} {E : Value → Shared → Prop} {s : Shared} {K : PySem.W.Frag} {x C : Addr} {ox : Obj}
theorem r_raise {C : Addr} {E : XK} {t : TA} {D : Ends} {σ : L2.St} {H : Hp} (h : t σ H fun vs H1 => vs.length ≤ 1000 ∧ E (.ref C) none H1) : tRaise C E t D σ H := h
end
end L3
namespace L3
open PySem PySem.Spec PyProof.Rows L2 PySem.SeqAt

section
variable {X : Cx} {k : Nat} {g : Str} {sp : Sp} {e c : Expr} {es : List Expr} {t : TA} {gp cpos pos : Pos} {b1 b2 : List Stmt} {tc : TT} {t1 t2 : TB}
def bExpr (sp : Sp) (t : TA) : TB := fun D Ew σ H => t σ H fun vs H1 => sp vs H1 (fun _ H2 => D.nx σ H2) Ew
theorem pb_expr (G : FnE X.prog X.w X.K X.mg X.base (CXR X.prog X.w) k g sp) (hr : Room k X.A) (hg : Gl X g) (ha : PA X.nox (e :: es) t) (hdb : (g == ("__debug__" : Str)) = false := by decide)
    (he : starEach (e :: es) X.env = (false, eval e X.env) :: starEach es X.env := by rfl) (hpl : (backTo cpos (starEach es X.env)).any (·.1) = false := by rfl) (hi : interactive X.env = false := by rfl) :
    PB X [.Expr (.Call (.Name g gp) (e :: es) [] cpos) pos] (bExpr sp t) := by
  intro pins s σ H D Ew I h
  refine wpAny_execs_cons (wpAny_Expr_any (wpAny_mono (call_throws G hr hg ha I h hdb he hpl) (fun v s1 ⟨y, H1, I1, r1, q1⟩ => wpAny_execs_nil ⟨σ, H1, I1, q1⟩) fun _ _ z => z) hi rfl)
end
section
variable {X : Cx} {v : Expr} {tv : TE} {x y : Str} {j1 j2 : Nat} {p0 p1 p2 p3 : Pos}
end
end L3
namespace L3
open PySem PySem.Spec PyProof.Rows

section
variable {prog : Program} {w : World} {A : Around} {E : Value → Shared → Prop} {s : Shared}
end
section
variable {prog : Program} {w : World} {A : Around} {E : Value → Shared → Prop} {s : Shared}
end
end L3
namespace L3
open PySem PySem.Spec PyProof.Rows L2

end L3
namespace L3
open PySem PySem.Spec PyProof.Rows L2 PySem.SeqAt

end L3
namespace L3
open PySem PySem.Spec PyProof.Rows L2 PySem.SeqAt

section
variable {P : Program} {w : World} {K : PySem.W.Frag} {mg : Str → Option Value} {base : Heap} {dv : Value}
end
section
variable {X : Cx} {CX : CXT} {k : Nat} {C : Addr} {dV : V} {sp : Sp} {E : XK} {x m : Str} {p pos apos : Pos} {e o : Expr} {es : List Expr} {ta : TE} {t : TA}
end
section
variable {P : Program} {w : World} {K : PySem.W.Frag} {mg : Str → Option Value} {base : Heap} {x qual : Str} {st : Stmt} {N ps : List Str} {sp : Sp} {C : Addr}
end

theorem pass_no {P : Program} {w : World} {X : Cx} : Passes (CXR P w) X (fun _ _ _ => False) := fun _ _ _ _ _ _ _ h => by
  obtain ⟨ea, C, H', _, _, z⟩ := h
  exact z.elim

def tDead : TS := fun _ _ _ => False
theorem ps_dead {X : Cx} {st : Stmt} : PS X st tDead := fun _ _ _ _ _ _ h => h.elim
end L3
namespace FB
open PySem PySem.Spec PyProof.Rows L2 L3 PySem.SeqAt


def isVal (n : Int) : Prop := 0 ≤ n ∧ n ≤ 4294967295
def gI (xs : List Int) (i : Int) : Int := xs.getD i.toNat 0
def sI (xs : List Int) (i v : Int) : List Int := xs.set i.toNat v
theorem sI_len (xs : List Int) (i v : Int) : (sI xs i v).length = xs.length := by unfold sI; exact List.length_set ..
theorem gI_at {xs : List Int} {i : Int} (h0 : 0 ≤ i) (h1 : i < xs.length) : atI (xs.map V.int) i = some (.int (gI xs i)) := by
  have e : i = ((i.toNat : Nat) : Int) := by omega
  have hl : i.toNat < xs.length := by omega
  have z : atI (xs.map V.int) ((i.toNat : Nat) : Int) = some (.int (gI xs i)) := atI_nat (by
    rw [List.getElem?_map, List.getElem?_eq_getElem hl]
    simp [gI, List.getD, List.getElem?_eq_getElem hl])
  rw [← e] at z; exact z
theorem ixN_at {xs : List V} {i : Int} (h0 : 0 ≤ i) (h1 : i < xs.length) : ixN xs.length i = some i.toNat := by
  unfold ixN; rw [if_pos h0, if_pos h1]
theorem map_sI (xs : List Int) (i v : Int) : (xs.map V.int).set i.toNat (.int v) = (sI xs i v).map V.int := by
  unfold sI; rw [List.map_set]
theorem r_setI {p : Addr} {xs : List Int} {k v : Int} {H : Hp} {Q : Hp → Prop} (h : H p = some (.lst (xs.map V.int))) (h0 : 0 ≤ k) (h1 : k < xs.length) (q : Q (upd H p (.lst ((sI xs k v).map V.int)))) : rSetL (.ref p) (.int k) (.int v) H Q :=
  r_setL h (ixN_at h0 (by rw [List.length_map]; exact h1)) (by rw [map_sI]; exact q)
theorem r_lenI {K : PySem.W.Frag} {p : Addr} {xs : List Int} {H : Hp} {Q : VK} (h : SqL K H p (xs.map V.int)) (q : Q (.int xs.length) H) : rLen K [.ref p] H Q := r_lenL h (by rw [List.length_map]; exact q)
theorem r_timesZ {l : Addr} {n k : Int} {H : Hp} {Q : VK} (h : H l = some (.lst [.int n])) (h0 : 0 ≤ k) (h1 : k ≤ 4001) (q : ∀ p, H p = none → Q (.ref p) (upd H p (.lst ((List.replicate k.toNat n).map V.int)))) : rTimes (.ref l) (.int k) H Q := by
  refine .inr ⟨l, k, _, rfl, rfl, h, by omega, by omega, ?_, fun p hp => ?_⟩
  · show 1 * k.toNat ≤ sizeLine
    rw [sizeLine_eq]; omega
  · have e : (List.replicate k.toNat [V.int n]).flatten = (List.replicate k.toNat n).map V.int := by
      generalize k.toNat = j
      induction j with
      | zero => rfl
      | succ j ih => rw [List.replicate_succ, List.flatten_cons, ih, List.replicate_succ]; rfl
    rw [e]; exact q p hp
theorem r_plusII {K : PySem.W.Frag} {a b : Addr} {xs ys : List Int} {H : Hp} {Q : VK} (ha : H a = some (.lst (xs.map V.int))) (hb : H b = some (.lst (ys.map V.int))) (hz : xs.length + ys.length ≤ sizeLine) (q : ∀ p, H p = none → Q (.ref p) (upd H p (.lst ((xs ++ ys).map V.int)))) :
    rPlus K (.ref a) (.ref b) H Q := r_plusL ha hb (by rw [List.length_map, List.length_map]; exact hz) (by rw [← List.map_append]; exact q)
def cutI (xs : List Int) (lo hi : Option Int) : List Int := (xs.drop (HT.sIx xs.length 0 lo)).take (HT.sIx xs.length xs.length hi - HT.sIx xs.length 0 lo)
theorem cutV_map (xs : List Int) (lo hi : Option Int) : cutV (xs.map V.int) lo hi = (cutI xs lo hi).map V.int := by
  unfold cutV cutI; rw [List.length_map, List.map_take, List.map_drop]
theorem r_slI {K : PySem.W.Frag} {p : Addr} {xs : List Int} {lo hi : Option Int} {H : Hp} {Q : VK} (h : SqL K H p (xs.map V.int)) (q : ∀ l, H l = none → Q (.ref l) (upd H l (.lst ((cutI xs lo hi).map V.int)))) : rSlA K (.ref p) lo hi H Q :=
  r_slL h (by rw [cutV_map]; exact q)
structure Adr where
  C_Row : Addr
  C_Set : Addr
  C_Copy : Addr
  C_Add : Addr
  C_Sub : Addr
  C_Mul : Addr
  C_Less : Addr
  C_Grow : Addr
  C_Shrink : Addr
  C_Put : Addr
  C_Get : Addr
  C_Jump : Addr
  C_Branch : Addr
  C_Call : Addr
  C_Back : Addr
  C_Drop : Addr
  C_Reckoning : Addr
  C_Reaching : Addr
  C_FrameError : Addr
  C_NoRow : Addr
  C_NoTable : Addr
  C_NoText : Addr
  C_Table : Addr
  C_Reading : Addr
  C_Machine : Addr
  C_Astray : Addr
  C_NoProgram : Addr
  C_NoLine : Addr
  C_NoName : Addr
  G_START : Addr
  G_WHICH : Addr
  G_COUNTS : Addr
  G_KEPT_BOXES : Addr
  G_SET_NAMES : Addr
  G_PARTS : Addr
  G_UNCOUNTED : Addr
def cellAt (ns : List Int) (k : Int) : Int := ns.getD k.toNat 0
def spCellAt (K : PySem.W.Frag) : Sp := fun vs H Q _ => ∃ (p : Addr) (ns : List Int) (k : Int), vs = [.ref p, .int k] ∧ SqL K H p (ns.map V.int) ∧ 0 ≤ k ∧ Q (.int (cellAt ns k)) H
theorem r_cellAt {K : PySem.W.Frag} {p : Addr} {ns : List Int} {k : Int} {H : Hp} {Q : VK} {E : XK} (h : SqL K H p (ns.map V.int)) (h0 : 0 ≤ k) (q : Q (.int (cellAt ns k)) H) : spCellAt K [.ref p, .int k] H Q E := ⟨p, ns, k, rfl, h, h0, q⟩
theorem cellAt_out {ns : List Int} {k : Int} (h0 : 0 ≤ k) (h : ¬ k < ns.length) : cellAt ns k = 0 := by
  unfold cellAt
  rw [List.getD_eq_getElem?_getD, List.getElem?_eq_none (by omega)]
  rfl
def spLaw (K : PySem.W.Frag) : Sp := fun vs H Q _ => ∃ (a : Addr) (ns : List Int), vs = [.ref a] ∧ SqL K H a (ns.map V.int) ∧ ns.length ≤ 63 ∧ ∀ H', Q (.bl true) H'
theorem look_of {fs : List (Str × V)} {f g : Str} {v w : V} (h : f ≠ g) (e : fs.lookup f = some w) : (putF g v fs).lookup f = some w := by rw [lookup_putF, if_neg h]; exact e
theorem look_hit {fs : List (Str × V)} {f : Str} {v : V} : (putF f v fs).lookup f = some v := by rw [lookup_putF, if_pos rfl]
theorem look_no {fs : List (Str × V)} {f g : Str} {v : V} (h : f ≠ g) (e : fs.lookup f = none) : (putF g v fs).lookup f = none := by rw [lookup_putF, if_neg h]; exact e
theorem len_of {fs : List (Str × V)} {f : Str} {v : V} {n : Nat} (e : fs.length ≤ n) : (putF f v fs).length ≤ n + 1 := Nat.le_trans (length_putF _ _ _) (Nat.succ_le_succ e)
end FB
namespace L3
open PySem PySem.Spec PyProof.Rows L2 PySem.SeqAt

section
variable {prog : Program} {w : World} {A : Around} {E : Value → Shared → Prop} {h : Heap} {g : Array GenState} {d : Drawn} {t : Nat} {os : OsState}
variable {nm q : Str} {C N : Addr} {bs bm bmB : List Value} {hdct : Bool} {sn : List Str} {sub : List Value} {ab : Bool} {col : Option Bool} {dd : Option Addr} {k0 k1 k2 k3 k5 : Option Value} {B Bn newId nid initId inN : String} {bmN : List Value}
end
end L3
namespace L3
open PySem PySem.Spec PyProof.Rows L2 PySem.SeqAt

end L3
namespace L3
open PySem PySem.Spec PyProof.Rows L2 PySem.SeqAt PySem.W Builtin Builtin.ObjectAttr

section
variable {prog : Program} {w : World} {A : Around} {E : Value → Shared → Prop} {s : Shared} {K : PySem.W.Frag} {x C t : Addr} {name : Str} {v : Value}
end
end L3
namespace L3
open PySem PySem.Spec PyProof.Rows L2 PySem.SeqAt
section
variable {X : Cx} {pins : List (Addr × Obj)} {σ : L2.St} {H : Hp} {s : Shared} {a C : Addr} {f : Str} {A : Around} {E : Value → Shared → Prop}
end

end L3
namespace L3
open PySem PySem.Spec PyProof.Rows L2 PySem.SeqAt

section
variable {M : Model} {A : Around} {E : Value → Shared → Prop} {s : Shared}

end
end L3
namespace L3
open PySem PySem.Spec PyProof.Rows L2 PySem.SeqAt
section
variable {M : Model} {A : Around} {E : Value → Shared → Prop} {env : Env}
variable {nm q : Str} {C N : Addr} {bs bm : List Value} {hdct : Bool} {sn : List Str} {sub : List Value} {ab : Bool} {col : Option Bool} {dd : Option Addr} {k0 k1 k2 k3 k5 : Option Value} {newId : String}
end
section
variable {prog : Program} {w : World} {A : Around} {E : Value → Shared → Prop} {s : Shared} {env : Env}
variable {nm q : Str} {C N : Addr} {bs bm bmB : List Value} {hdct : Bool} {sn : List Str} {sub : List Value} {ab : Bool} {col : Option Bool} {dd : Option Addr} {k0 k1 k2 k3 k5 : Option Value} {B Bn newId nid initId inN : String} {bmN : List Value}
end

end L3
namespace L3
open PySem PySem.Spec PyProof.Rows L2 PySem.SeqAt

section
variable {P : Program} {w : World} {K : PySem.W.Frag} {mg : Str → Option Value} {base : Heap} {x qual : Str} {st : Stmt} {N ps : List Str} {sp : Sp} {C : Addr} {k : Nat}
end

section
variable {X : Cx} {pins : List (Addr × Obj)} {σ : L2.St} {H : Hp} {s : Shared} {k : Nat} {g x n : Str} {sp : Sp} {e : Expr} {es : List Expr} {t : TA} {tx : TEX} {ta : TAX} {te : TE} {gp cpos pos py : Pos}
end
end L3
namespace L3
open PySem PySem.Spec PyProof.Rows L2 PySem.SeqAt PySem.W Builtin Builtin.ObjectAttr
section
variable {prog : Program} {w : World} {A : Around} {E : Value → Shared → Prop} {s : Shared} {K : PySem.W.Frag} {x C dx : Addr} {ox od : Obj} {name : Str} {v : Value}
end

section
variable {X : Cx} {pins : List (Addr × Obj)} {σ : L2.St} {C fI : Addr}
end
end L3
namespace L3
open PySem PySem.Spec PyProof.Rows L2 PySem.SeqAt

end L3
namespace L3
open PySem PySem.Spec PyProof.Rows L2 PySem.SeqAt
end L3
namespace L3
open PySem PySem.Spec PyProof.Rows L2 PySem.SeqAt

section
variable {prog : Program} {w : World} {A : Around} {E : Value → Shared → Prop} {s : Shared}
end
end L3
namespace L3
open PySem PySem.Spec PyProof.Rows L2 PySem.SeqAt
section
variable {M : Model} {A : Around} {E : Value → Shared → Prop}
variable {nm q : Str} {D N : Addr} {bs bm : List Value} {hdct : Bool} {sn : List Str} {sub : List Value} {ab : Bool} {col : Option Bool} {dd : Option Addr} {k0 k1 k2 k3 k5 : Option Value} {newId : String}

end
section
variable {X : Cx} {pins : List (Addr × Obj)} {σ : St} {H H1 H' : Hp} {s s1 s' : Shared} {ea C : Addr}
end
end L3
namespace L3
open PySem PySem.Spec PyProof.Rows L2

section
variable {prog : Program} {w : World} {A : Around} {E : Value → Shared → Prop} {s : Shared}
end
end L3
namespace L3
open PySem PySem.Spec PyProof.Rows L2
theorem r_chain {r r' : R2} {ta tb tc : TE} {σ : L2.St} {H : Hp} {Q : VK} (h : ta σ H fun x H1 => tb σ H1 fun y H2 => r x y H2 fun z H3 => ∃ k, z = .bl k ∧ (if k then tc σ H3 fun u H4 => r' y u H4 Q else Q (.bl false) H3)) : tChain r r' ta tb tc σ H Q := h
end L3
namespace L3
open PySem PySem.Spec PyProof.Rows L2 PySem.SeqAt

section
variable {X : Cx} {k : Nat} {x m : Str} {e o : Expr} {es : List Expr} {ta : TE} {t : TA} {apos cpos pos py : Pos}
end
end L3
namespace L3
open PySem PySem.Spec PyProof.Rows L2 PySem.SeqAt

section
variable {X : Cx} {pins : List (Addr × Obj)} {σ : L2.St} {C fI : Addr}
end
end L3
namespace L3
open PySem PySem.Spec PyProof.Rows L2 PySem.SeqAt

section
variable {prog : Program} {w : World} {A : Around} {E : Value → Shared → Prop} {s : Shared}
end

section
variable {M : Model} {A : Around} {E : Value → Shared → Prop} {s : Shared}
end
end L3
namespace L3
open PySem PySem.Spec PyProof.Rows L2 PySem.SeqAt

section
variable {X : Cx} {pins : List (Addr × Obj)} {σ : L2.St} {H : Hp} {s : Shared}

end
end L3
namespace L3
open PySem PySem.Spec PyProof.Rows L2 PySem.SeqAt

end L3
namespace L3
open PySem PySem.Spec PyProof.Rows L2 PySem.SeqAt

end L3
namespace L3
open PySem PySem.Spec PyProof.Rows L2 PySem.SeqAt

end L3
namespace L3
open PySem PySem.Spec PyProof.Rows L2 PySem.SeqAt

end L3
namespace L3
open PySem PySem.Spec PyProof.Rows L2 PySem.SeqAt

def rNeLen (K : PySem.W.Frag) : R2 := fun x y H Q => ∃ p q xs ys, x = .ref p ∧ y = .ref q ∧ SqL K H p xs ∧ SqL K H q ys ∧ xs.length ≠ ys.length ∧ Q (.bl true) H
theorem op_neLen {X : Cx} (hu : X.A.units + 64 < cLine) : OpR X (compareOp .NotEq) (rNeLen X.K) := by
  intro pins s σ H x y v u Q I rx ry h
  obtain ⟨p, q, xs, ys, rfl, rfl, h1, h2, hn, k⟩ := h
  cases rx; cases ry
  obtain ⟨its, r1, pl1, _⟩ := I.list h1
  obtain ⟨jts, r2, pl2, _⟩ := I.list h2
  have l1 := r1.length
  have l2 := r2.length
  refine RcNeAt.lists_lengths pl1.isList pl2.isList ?_ (by omega) _ _ _ _ ⟨.bl true, H, I, rfl, k⟩
  simp only [List.size_toArray, bne_iff_ne]
  omega
theorem op_neLA {X : Cx} {K : PySem.W.Frag} (h : X.K = K) (hu : X.A.units + 64 < cLine) : OpR X (compareOp .NotEq) (fun x y H Q => rNeA K x y H Q ∨ rNeLen K x y H Q) := by subst h; exact (op_neA hu).or (op_neLen hu)
end L3
namespace L3
open PySem PySem.Spec PyProof.Rows L2 PySem.SeqAt

def conRE (w : World) (l : List (Str × Tok × Value)) : List DictEntry := l.map fun p => { hash := PyData.keyHash w.params p.1, key := .str p.1 p.2.1, val := p.2.2 }
def conRV (kvs : List (Str × V)) : List (Key × V) := kvs.map fun p => ((Sum.inr p.1 : Key), p.2)
inductive ConL : List (Str × V) → List (Str × Tok × Value) → Prop
  | nil : ConL [] []
  | cons {t : Str} {v : V} {u : Value} {tk : Tok} {kvs : List (Str × V)} {l : List (Str × Tok × Value)} (r : RelV v u) (h : ConL kvs l) : ConL ((t, v) :: kvs) ((t, tk, u) :: l)
structure ConR (w : World) (K : PySem.W.Frag) (a : Addr) (kvs : List (Str × V)) : Prop where
  sys : (a == sysModules) = false
  nd : ((conRV kvs).map (·.1)).Nodup
  ex : ∃ (l : List (Str × Tok × Value)) (ep : Nat), ConL kvs l ∧ K.lookup a = some { cls := .type "dict", dict := none, data := .dict (conRE w l).toArray ep, slots := #[] }
theorem conR_kv {kvs : List (Str × V)} {l : List (Str × Tok × Value)} (h : ConL kvs l) : KV (conRV kvs) (l.map fun p => ((Sum.inr p.1 : Key), p.2.2)) := by
  induction h with
  | nil => exact .nil
  | cons r _ ih => exact .cons ⟨rfl, r⟩ ih
theorem conR_pairs {P : Program} {w : World} : ∀ l : List (Str × Tok × Value), Pairs (mixKind P w) (conRE w l) (l.map fun p => ((Sum.inr p.1 : Key), p.2.2))
  | [] => .nil
  | p :: l => .cons (kV_is (k := .inr p.1) ⟨_, rfl⟩) rfl (conR_pairs l)
theorem ConR.dict {P : Program} {w : World} {K : PySem.W.Frag} {a : Addr} {kvs : List (Str × V)} {h : Heap} (c : ConR w K a kvs) (x : K.In h) : ∃ vs, KV (conRV kvs) vs ∧ h.DictOf (mixKind P w) a vs := by
  obtain ⟨l, ep, hl, lk⟩ := c.ex
  refine ⟨_, conR_kv hl, _, (conRE w l).toArray, ep, x _ _ lk, ⟨rfl, rfl, rfl⟩, rfl, fun e he => ?_, by rw [List.toList_toArray]; exact conR_pairs l, ?_⟩
  · have he : e ∈ conRE w l := by simpa using he
    obtain ⟨p, _, rfl⟩ := List.mem_map.mp he
    exact ⟨.inr p.1, kV_is (k := .inr p.1) ⟨_, rfl⟩, rfl⟩
  · rw [← (conR_kv hl).keys]; exact c.nd
def tRGet (w : World) (K : PySem.W.Frag) (td ty : TE) : TE := fun σ H Q => td σ H fun x H1 => ∃ a kvs, x = .ref a ∧ ConR w K a kvs ∧ ty σ H1 fun y H2 => ∃ t v, y = .str t ∧ valV (conRV kvs) (.inr t) = some v ∧ Q v H2
theorem pe_rget {X : Cx} {w : World} {K : PySem.W.Frag} {o i : Expr} {td ty : TE} {pos : Pos} (hw : X.w = w) (hK : X.K = K) (ho : PE X o td) (hi : PE X i ty) (hs : NoSl i) : PE X (.Subscript o i pos) (tRGet w K td ty) := by
  subst hw hK
  intro pins s σ H Q I h
  refine subD_of PySem.F.slot_dict_getitem.lookup hs (thn (ho pins s σ H _ I h) fun u s1 ⟨x, H1, I1, rx, a, kvs, ex, c, q1⟩ => thn (hi pins s1 σ H1 _ I1 q1) fun iv s2 ⟨y, H2, I2, ry, t, v, ey, e, q2⟩ => ?_)
  subst ex ey
  obtain rfl : u = Value.ref a := rx
  obtain ⟨vs, rel, dd⟩ := c.dict (P := X.prog) I2.kIn
  obtain ⟨w', hw, rw'⟩ := RelO.some_of (v := v) (o := valueAt vs (.inr t)) (by rw [← e]; exact rel.val (.inr t))
  exact ⟨dd.typeIs, wpAny_getItem_of (kV_is (k := .inr t) ry) dd.mapOf hw ⟨v, H2, I2.tok _, rw', q2⟩⟩
theorem pe_rget1 {X : Cx} {w : World} {K : PySem.W.Frag} {o e : Expr} {td ty : TE} {apos cpos : Pos} (hw : X.w = w) (hK : X.K = K) (ho : PE X o td) (he : PE X e ty) (m : M1 X o "get" apos e cpos) : PE X (.Call (.Attribute o "get" apos) [e] [] cpos) (tRGet w K td ty) := by
  subst hw hK
  intro pins s σ H Q I h
  refine wpAny_Call_method m.base m.few m.line PySem.F.plainAttrs_dict PySem.F.slot_dict_get PySem.F.type_dict_get (thn (ho pins s σ H _ I h) fun u s1 ⟨x, H1, I1, rx, a, kvs, ex, c, q1⟩ => ?_)
  subst ex
  obtain rfl : u = Value.ref a := rx
  obtain ⟨vs0, _, dd0⟩ := c.dict (P := X.prog) I1.kIn
  refine ⟨dd0.typeIs, fun b q => ?_, ?_⟩
  · cases q
    obtain ⟨ob, _, _, h1, h2, _⟩ := dd0
    exact ⟨ob, h1, h2.2.1⟩
  rw [m.trees]
  refine Calls.callWith_builtin rfl (Calls.evalArgs_plain (Calls.spliced_cons (thn (he pins s1 σ H1 _ I1 q1) fun iv s2 ⟨y, H2, I2, ry, t, v, ey, ev, q2⟩ => Calls.spliced_nil ?_)))
  subst ey
  obtain ⟨vs, rel, dd⟩ := c.dict (P := X.prog) I2.kIn
  refine call_meetsIn PySem.F.slot_dict_get dd.typeIs PySem.F.entry_dict_get (PySem.F.args_dict_get_2 _ _) (meets_dict_get (mixKind X.prog X.w) a (kV_is (k := .inr t) ry) c.sys) ⟨_, dd.mapOf, ⟨v, H2, I2.tok _, ?_, q2⟩⟩
  have := (rel.val (.inr t)).getD (d := .non) (d' := .none) rfl
  rw [ev] at this
  exact this
theorem r_rGet {w : World} {K : PySem.W.Frag} {td ty : TE} {σ : L2.St} {H : Hp} {Q : VK} (q : td σ H fun x H1 => ∃ a kvs, x = .ref a ∧ ConR w K a kvs ∧ ty σ H1 fun y H2 => ∃ t v, y = .str t ∧ valV (conRV kvs) (.inr t) = some v ∧ Q v H2) : tRGet w K td ty σ H Q := q

theorem comp_filZ {K : PySem.W.Frag} {a b : Addr} {α : Type} {xs : List α} {e1 e2 : α → V} {g : TG} {tc : TT} {te : TE} {fin : List V → Hp → Prop} {σ0 : L2.St} {H : Hp} (f : α → V) (pr : α → Bool) (Sg : L2.St → Prop) (ha : SqT K H a (xs.map e1)) (hb : SqT K H b (xs.map e2)) (hz : xs.length ≤ sizeLine) (h0 : Sg σ0)
    (hs : ∀ (i : Nat) (x : α) (ys : List V) (σ : L2.St) (H1 : Hp) (T : Addr), xs[i]? = some x → FInv xs f pr Sg H i ys σ H1 → Same H H1 → Sg σ → H1 T = none →
      g (.ref T) σ (upd H1 T (.tup [e1 x, e2 x])) fun σ3 H3 => tc σ3 H3 fun b H4 => if b = true then te σ3 H4 fun y H5 => FInv xs f pr Sg H (i + 1) (ys ++ [y]) σ3 H5 else FInv xs f pr Sg H (i + 1) ys σ3 H4)
    (hd : ∀ H1, Same H H1 → fin ((xs.filter pr).map f) H1) : CompW (Itz K a b) g tc te fin σ0 H := by
  have hlen : ∀ i, (((xs.take i).filter pr).map f).length ≤ sizeLine := fun i => by
    have h1 := List.length_filter_le pr (xs.take i)
    have h2 : (xs.take i).length ≤ xs.length := by rw [List.length_take]; omega
    rw [List.length_map]; omega
  refine ⟨fun i m ys σ H1 => m = xs.length - i ∧ i ≤ xs.length ∧ FInv xs f pr Sg H i ys σ H1, ⟨xs.length, by simp, Nat.zero_le _, Same.refl _, h0, rfl⟩, ?_⟩
  rintro i m ys σ H1 ⟨rfl, hi, c⟩
  obtain ⟨s, sg, rfl⟩ := id c
  by_cases hlt : i < xs.length
  · refine .inr ⟨⟨_, _, e1 xs[i], e2 xs[i], SqT_same s ha, SqT_same s hb, by simp [hlt], by simp [hlt]⟩, FInv xs f pr Sg H (i + 1), fun ys2 σ2 H2 p' => ⟨?_, xs.length - (i + 1), by omega, rfl, hlt, p'⟩, fun v H2 y => ?_⟩
    · obtain ⟨_, _, rfl⟩ := p'
      exact hlen _
    · obtain ⟨T, x, y', rfl, hT, rfl, hxy⟩ := y
      obtain ⟨q1, q2⟩ := hxy _ _ (SqT_same s ha) (SqT_same s hb)
      have e1' : e1 xs[i] = x := by simpa [hlt] using q1
      have e2' : e2 xs[i] = y' := by simpa [hlt] using q2
      rw [← e1', ← e2']
      exact hs i xs[i] _ σ H1 T (by simp [hlt]) c s sg hT
  · have e : i = xs.length := by omega
    subst e
    refine .inl ⟨⟨_, _, SqT_same s ha, SqT_same s hb, .inl (by simp)⟩, hlen _, ?_⟩
    rw [List.take_length]; exact hd H1 s

section
variable {X : Cx} {C : Addr}
def tTryN (tb : TB) (C : Addr) (th : TS) : TS := fun D σ H => tb D (fun c _ H2 => c = .ref C ∧ th { nx := fun σ' H' => D.nx σ' H', rt := fun _ _ => False } σ H2) σ H
theorem ps_tryN {body : List Stmt} {tb : TB} {x : Str} {np hpos pos : Pos} {b0 : Stmt} {suite : List Stmt} {th : TS} (hst : X.stack = X.env :: X.outer) (hfr : X.env.frame = some X.env.locals) (hc : X.calm = true)
    (hb : PB X body tb) (c : ExcC X.K X.mg x C) (hg : Gl X x) (hs : ∀ ea, PSs (Cx.sup X ea []) (b0 :: suite) th) (hdb : (x == ("__debug__" : Str)) = false := by decide) :
    PS X (.Try body [.ExceptHandler (some (.Name x np)) none (b0 :: suite) hpos] [] [] pos) (tTryN tb C th) := by
  intro pins s σ H D I0 h
  refine wpAny_Try_except (wpAny_mono (hb pins s σ H D _ I0 h) (fun f s1 q => ?_) fun ex s' q => ?_)
  · cases f with
    | next => exact wpAny_execs_nil q
    | brk => exact q
    | cont => exact q
    | ret u => exact q
  obtain ⟨ea, C', H1, s1, H', rfl, I, ⟨os, bare, h0, l, a0, u, hok, hl, hnew, fl, up⟩, ec, q⟩ := q
  cases ec
  have hh : X.calm = true → X.A.handled = none := I.ok.hd
  have fl' : Heap.FlyingW (PySem.W.hideAll h0 l) (X.env :: X.outer) ea (.ref C) a0 s'.heap := by rw [← hst]; exact fl
  refine wpAny_looks_onW (by rw [← hst]; exact I.ok.frames) hfr fl' fun h4 held4 up4 => ?_
  refine wpAny_landsW held4 fun h5 fl5 up5 => ?_
  have I5 : Inv X pins σ H' { s' with heap := h5 } := landed_at I os bare u hok hl fl5.1 ((up.trans up4).trans up5)
  obtain ⟨oe, hoe, hoec⟩ := fl5.there
  refine wpAny_handleBy_cons (codeAny_handlers_test (ld_glob (X := Cx.sup X ea []) (Inv.sup I5 (fun p hp => nomatch hp)) hg c.glob ?_ hdb)) (by intro z; cases z)
  obtain ⟨bm, N', nm, qn, bs, hd, sn, sub, ab, col, dd, k0, k1, k2, k3, k5, mN, hC, hNs, hni, TL⟩ := c.obj I5.kIn
  refine wpAny_excMatches_sub_self hC hoe hoec (TL.hasType (by decide +kernel)) (codeAny_handlers_suite ?_)
  refine lands_againW fl5 fun h6 fl6 up6 => ?_
  have I6 : Inv (Cx.sup X ea []) pins σ H' { s' with heap := h6 } := Inv.sup (landed_at I os bare u hok hl fl6.1 (((up.trans up4).trans up5).trans up6)) fun p hp => nomatch hp
  refine wpAny_mono (hs ea pins _ σ H' _ I6 q) (fun f s8 q8 => ?_) fun _ _ z => z.elim
  cases f with
  | next =>
    obtain ⟨σ', H'', I8, q9⟩ := q8
    exact ⟨σ', H'', Inv.unsup I8 hh, q9⟩
  | brk => obtain ⟨_, _, _, z⟩ := q8; exact z.elim
  | cont => obtain ⟨_, _, _, z⟩ := q8; exact z.elim
  | ret v => obtain ⟨_, _, _, _, _, z⟩ := q8; exact z.elim
theorem r_tryN {sp : Sp} {t : TA} {C : Addr} {th : TS} {D : Ends} {σ : L2.St} {H : Hp}
    (h : t σ H fun vs H1 => sp vs H1 (fun _ H2 => D.nx σ H2) fun c _ H2 => c = .ref C ∧ th { nx := fun σ' H' => D.nx σ' H', rt := fun _ _ => False } σ H2) : tTryN (bExpr sp t) C th D σ H := h
end
end L3

namespace FB
open PySem PySem.Spec PyProof.Rows L2 L3 PySem.SeqAt
local macro_rules | `(tactic| walk_at "clok") => `(tactic| repeat (first | exact True.intro | refine ⟨rfl, ?_⟩))
local macro_rules | `(tactic| walk_at "frok") => `(tactic| repeat (first | exact True.intro | refine ⟨⟨rfl, (by first | exact Or.inl rfl | exact Or.inr rfl), (by first | exact Or.inl rfl | exact Or.inr rfl), rfl⟩, ?_⟩))
local macro_rules | `(tactic| walk_at "hlk") => `(tactic| first | (with_reducible assumption) | (exact upd_same) | ((with_reducible refine' look_new ?x ?y); (case y => with_reducible assumption); (case x => walk_at "hlk")) | ((fail_if_success (((with_reducible refine' look_new ?x ?y); (case y => with_reducible assumption)))); (with_reducible refine' look_ne ?x ?y); (case x => walk_at "ne"); (case y => walk_at "hlk")) | ((with_reducible refine' same_at ?x ?y); (case x => with_reducible assumption); (case y => walk_at "hlk")))
local macro_rules | `(tactic| walk_at "ne") => `(tactic| first | (with_reducible assumption) | (apply Ne.symm; (with_reducible assumption)) | ((with_reducible refine' ne_of_none ?x ?y); (case y => with_reducible assumption); (case x => walk_at "hlk")) | (apply Ne.symm; (with_reducible refine' ne_of_none ?x ?y); (case y => with_reducible assumption); (case x => walk_at "hlk")))
local macro_rules | `(tactic| walk_at "sql") => `(tactic| first | (with_reducible assumption) | (refine' SqL.of ?x; (case x => first | (with_reducible assumption) | (exact upd_same))) | ((with_reducible refine' sql_new ?x ?y); (case y => with_reducible assumption); (case x => walk_at "sql")) | ((fail_if_success (((with_reducible refine' sql_new ?x ?y); (case y => with_reducible assumption)))); first | ((with_reducible refine' sql_upd ?s ?h ?q); (case h => with_reducible assumption); (case s => walk_at "same"); (case q => walk_at "sql")) | (refine' SqL.of ?x; (case x => (with_reducible refine' look_ne ?x2 ?y2); (case x2 => walk_at "ne"); (case y2 => walk_at "hlk")))) | ((with_reducible refine' Same.seq ?x ?y); (case x => with_reducible assumption); (case y => walk_at "sql")))
local macro_rules | `(tactic| walk_at "sqt") => `(tactic| first | (with_reducible assumption) | (refine' SqT.of ?x; (case x => first | (with_reducible assumption) | (exact upd_same))) | ((with_reducible refine' sqt_new ?x ?y); (case y => with_reducible assumption); (case x => walk_at "sqt")) | ((fail_if_success (((with_reducible refine' sqt_new ?x ?y); (case y => with_reducible assumption)))); first | ((with_reducible refine' sqt_upd ?s ?h ?q); (case h => with_reducible assumption); (case s => walk_at "same"); (case q => walk_at "sqt")) | (refine' SqT.of ?x; (case x => (with_reducible refine' look_ne ?x2 ?y2); (case x2 => walk_at "ne"); (case y2 => walk_at "hlk")))) | ((with_reducible refine' SqT_same ?x ?y); (case x => with_reducible assumption); (case y => walk_at "sqt")))
local macro_rules | `(tactic| walk_at "lk") => `(tactic| first | (with_reducible exact look_hit) | (refine' look_of ?x ?y; (case x => decide +kernel); (case y => walk_at "lk")) | exact look_hit)
local macro_rules | `(tactic| walk_at "nolk") => `(tactic| first | (with_reducible rfl) | (refine' look_no ?x ?y; (case x => decide +kernel); (case y => walk_at "nolk")) | rfl)
local macro_rules | `(tactic| walk_at "fewf") => `(tactic| first | exact Nat.lt_of_le_of_lt (Nat.le_refl 0) (by decide) | exact Nat.lt_of_le_of_lt (len_of (Nat.le_refl 0)) (by decide) | exact Nat.lt_of_le_of_lt (len_of (len_of (Nat.le_refl 0))) (by decide) | exact Nat.lt_of_le_of_lt (len_of (len_of (len_of (Nat.le_refl 0)))) (by decide))
local macro_rules | `(tactic| walk_at "small") => `(tactic| first | exact Nat.le_of_ble_eq_true rfl | (show _ ≤ sizeLine; rw [sizeLine_eq]; first | omega | (simp only [List.length_map, List.length_cons, List.length_nil, List.length_append, List.length_replicate, List.length_set, List.length_range]; omega)))
local macro_rules | `(tactic| walk_at "r1") => `(tactic| with_reducible first
  | refine r_var (by with_unfolding_all rfl) ?_
  | refine r_c ?_ | refine r_op ?_ | refine r_I0 ?_ | refine r_plusI ?_ | refine r_seq ?_ | refine r_asg ?_ | (refine' r_gN ?x ?_; (case x => simp only [List.set_cons_succ, List.set_cons_zero]; rfl)) | refine r_ret ?_ | refine r_ifS ?_ | refine r_test ?_
  | refine r_cons ?_ | refine r_nil ?_ | refine r_cb ?_ | refine r_callE ?_ | refine r_makeE ?_ | refine r_methE ?_ | refine r_fld ?_ | refine r_tru ?_ | refine r_truB ?_ | refine r_truI ?_
  | refine r_not ?_ | refine r_and ?_ | refine r_or ?_ | refine r_next ?_ | refine r_drop ?_ | refine r_sFld ?_ | refine r_retN ?_ | refine r_un ?_ | refine r_U ?_ | refine r_if ?_
  | refine r_andV ?_ | refine r_orV ?_ | refine r_notV ?_ | refine r_sl ?_ | refine r_part ?_ | refine r_noPart ?_ | refine r_bm ?_ | refine r_bm0 ?_ | refine r_tup ?_ | refine r_lst ?_ | refine r_two ?_
  | (refine' r_compE' ?x ?_; (case x => with_unfolding_all rfl)) | (refine' r_compS' ?x ?_; (case x => with_unfolding_all rfl)) | refine r_for ?_ | refine r_iSeq ?_ | refine r_rng1 ?_ | refine r_rng2 ?_ | refine r_true ?_
  | refine r_isNr ?_ | refine r_isNn ?_ | refine r_isNi ?_ | refine r_notNr ?_ | refine r_notNn ?_ | refine r_notNi ?_
  | refine iteT ?_ | refine iteF ?_ | refine iteNT ?_ | refine iteNF ?_
  | refine ⟨_, rfl, ?_⟩)
local macro_rules | `(tactic| walk_at "r2") => `(tactic| first
  | ((with_reducible refine' r_fldV ?h ?c ?n ?l ?_); (case h => walk_at "hlk"); (case c => walk_at "cls"); (case n => walk_at "noat"); (case l => walk_at "lk"))
  | ((with_reducible refine' r_sFldV ?h ?c ?n ?l ?_); (case h => walk_at "hlk"); (case c => walk_at "cls"); (case n => walk_at "noat"); (case l => walk_at "fewf"))
  | ((with_reducible refine' r_lenI ?h ?_); (case h => walk_at "sql"))
  | ((with_reducible refine' r_lenL ?h ?_); (case h => walk_at "sql"))
  | ((with_reducible refine' r_lenT ?h ?_); (case h => walk_at "sqt"))
  | ((with_reducible refine' r_listL ?h ?_); (case h => walk_at "sql"))
  | ((with_reducible refine' r_listT ?h ?_); (case h => walk_at "sqt"))
  | ((with_reducible refine' r_eqS ?h ?_); (case h => rfl))
  | ((with_reducible refine' r_neS ?h ?_); (case h => rfl)))
local macro_rules | `(tactic| walk_at "none") => `(tactic| first | (with_reducible assumption) | ((with_reducible refine' none_same ?x ?y); (case y => with_reducible assumption); (case x => walk_at "same")))
local macro_rules | `(tactic| walk_at "same") => `(tactic| first | (with_reducible assumption) | (with_reducible exact Same.refl _) | ((with_reducible refine' same_none ?x ?y); (case y => with_reducible assumption); (case x => walk_at "same")) | ((fail_if_success (((with_reducible refine' same_none ?x ?y); (case y => with_reducible assumption)))); (with_reducible refine' same_upd ?x ?y); (case y => walk_at "none"); (case x => walk_at "same")) | ((with_reducible refine' Same.trans ?x ?y); (case y => with_reducible assumption); (case x => walk_at "same")))
local macro_rules | `(tactic| walk_at "tt") => `(tactic| first | assumption | omega | with_unfolding_all rfl | decide | (simp only [List.length_map, List.length_cons, List.length_nil, List.length_append, List.length_replicate, List.length_set, sI_len]; omega))
local macro_rules | `(tactic| walk_at "nn") => `(tactic| first | assumption | omega | decide | (simp only [List.length_map, List.length_cons, List.length_nil, List.length_append, List.length_replicate, List.length_set, sI_len]; omega))
local macro_rules | `(tactic| walk_at "cond") => `(tactic| first
  | ((with_reducible refine' r_I ?h ?_); (case h => first | exact ⟨by decide, by decide⟩ | (show (0 : Int) < _; first | decide | omega) | (show (0 : Int) ≤ _; first | decide | omega)))
  | ((with_reducible refine' r_ifB ?x ?_); (case x => intro hh; exact absurd hh (by decide)); intro _)
  | ((with_reducible refine' r_ifB ?_ ?x); (case x => intro hh; exact absurd hh (by decide)); intro _)
  | ((with_reducible refine' ifInt ?x ?_); (case x => intro hh; exact absurd hh (by walk_at "nn")); intro _)
  | ((with_reducible refine' ifInt ?_ ?x); (case x => intro hh; exact absurd (by walk_at "tt") hh); intro _)
  | ((with_reducible refine' ifIntN ?x ?_); (case x => intro hh; exact absurd (by walk_at "tt") hh); intro _)
  | ((with_reducible refine' ifIntN ?_ ?x); (case x => intro hh; exact absurd hh (by walk_at "nn")); intro _)
  | ((with_reducible refine' ifDec ?x ?_); (case x => intro hh; exact absurd hh (by walk_at "nn")); intro _)
  | ((with_reducible refine' ifDec ?_ ?x); (case x => intro hh; exact absurd (by walk_at "tt") hh); intro _)
  | ((with_reducible refine' ifDecN ?x ?_); (case x => intro hh; exact absurd (by walk_at "tt") hh); intro _)
  | ((with_reducible refine' ifDecN ?_ ?x); (case x => intro hh; exact absurd hh (by walk_at "nn")); intro _))
local macro_rules | `(tactic| walk_at "at") => `(tactic| first | assumption | ((with_reducible refine' gI_at ?x ?y); (case x => walk_at "tt"); (case y => walk_at "tt")) | ((with_reducible refine' gI_neg ?x ?y); (case x => walk_at "tt"); (case y => walk_at "tt")) | rfl)
local macro_rules | `(tactic| walk_at "calls") => `(tactic| first
  | ((with_reducible refine' r_bounded ?a ?b ?_); (case a => omega); (case b => omega))
  | ((with_reducible refine' r_withBox ?h ?a ?b ?_); (case h => walk_at "sql"); (case a => omega); (case b => omega))
  | ((with_reducible refine' r_cellAt ?h ?a ?_); (case h => walk_at "sql"); (case a => omega))
  | (with_reducible refine r_whole ?_) | (with_reducible refine r_without ?_) | (with_reducible refine r_filled ?_)
  | ((with_reducible refine' r_boxPl ?a ?b ?_); (case a => omega); (case b => omega))
  | ((with_reducible refine' r_cellPl ?a ?b ?c ?_); (case a => omega); (case b => omega); (case c => omega))
  | ((with_reducible refine' r_setI ?x ?y ?z ?_); (case x => walk_at "hlk"); (case y => walk_at "tt"); (case z => walk_at "tt"))
  | ((with_reducible refine' r_setIN ?x ?y ?z ?_); (case x => walk_at "hlk"); (case y => walk_at "tt"); (case z => walk_at "tt"))
  | ((with_reducible refine' r_ixT ?h ?e ?_); (case h => walk_at "sqt"); (case e => walk_at "at"))
  | ((with_reducible refine' r_ixL ?h ?e ?_); (case h => walk_at "sql"); (case e => walk_at "at"))
  | (with_reducible refine r_gSub ?_))
local macro_rules | `(tactic| walk_at "ty") => `(tactic| first | (with_reducible exact TyOf.int _) | (with_reducible exact TyOf.bl _) | (with_reducible exact TyOf.str _) | (with_reducible exact TyOf.non) | (refine' TyOf.lst ?x; (case x => walk_at "hlk")) | (refine' TyOf.tup ?x; (case x => walk_at "hlk")))
local macro_rules | `(tactic| walk_at "dp") => `(tactic| first | (with_reducible exact dp_int _) | (with_reducible exact dp_str _) | (with_reducible exact dp_bool _) | (with_reducible exact dp_none) | ((with_reducible refine' dp_ints ?x); (case x => walk_at "sql")) | ((with_reducible refine' dp_lst ?x ?y); (case x => walk_at "sql"); (case y => walk_at "dps")) | ((with_reducible refine' dp_tup ?x ?y); (case x => walk_at "sqt"); (case y => walk_at "dps")))
local macro_rules | `(tactic| walk_at "dps") => `(tactic| first | (with_reducible exact dpAll_nil) | ((with_reducible refine' dpAll_cons ?x ?y); (case x => walk_at "dp"); (case y => walk_at "dps")))
local macro_rules | `(tactic| walk_at "shaped") => `(tactic| first | exact shaped_ints _ | (unfold shaped; simp [PyData.canLay0, PyData.canLayAll0, canLay_ints, PyData.depth, PyData.depthAll, depth_ints]))
local macro_rules | `(tactic| walk_at "eqd") => `(tactic| first
  | ((with_reducible refine' r_eqT ?d ?x ?y ?s ?_); (case x => walk_at "dp"); (case y => walk_at "dp"); (case s => walk_at "shaped"))
  | ((with_reducible refine' r_neT ?d ?x ?y ?s ?_); (case x => walk_at "dp"); (case y => walk_at "dp"); (case s => walk_at "shaped")))
local macro_rules | `(tactic| walk_at "r3") => `(tactic| first
  | (with_reducible refine r_alloc (fun _ _ => ?_))
  | ((with_reducible refine' r_small ?x ?_); (case x => walk_at "small"))
  | ((with_reducible refine' r_62 ?x ?y ?_); (case x => walk_at "tt"); (case y => walk_at "tt"))
  | ((with_reducible refine' r_62b ?x ?y ?z ?u ?_); (case x => walk_at "tt"); (case y => walk_at "tt"); (case z => walk_at "tt"); (case u => walk_at "tt"))
  | ((with_reducible refine' r_itL ?x ?_); (case x => walk_at "sql"))
  | ((with_reducible refine' r_itT ?x ?_); (case x => walk_at "sqt"))
  | ((with_reducible refine' r_slI ?x ?_); (case x => walk_at "sql"))
  | ((with_reducible refine' r_slL ?x ?_); (case x => walk_at "sql"))
  | ((with_reducible refine' r_timesZ ?x ?y ?z ?_); (case x => walk_at "hlk"); (case y => walk_at "tt"); (case z => walk_at "tt"))
  | ((with_reducible refine' r_plusII ?x ?y ?z ?_); (case x => walk_at "hlk"); (case y => walk_at "hlk"); (case z => walk_at "small"))
  | ((with_reducible refine' r_tyL ?x ?_); (case x => walk_at "hlk"))
  | ((with_reducible refine' r_timesI ?h ?_); (case h => walk_at "cmul"))
  | ((with_reducible refine' r_sum ?h ?_); (case h => walk_at "sql"))
  | ((with_reducible refine' r_inT ?h ?x ?y ?_); (case h => walk_at "sqt"); (case x => rfl); (case y => rfl))
  | ((with_reducible refine' r_clear ?x ?_); (case x => walk_at "hlk"))
  | ((with_reducible refine' r_append ?x ?y ?_); (case x => walk_at "hlk"); (case y => walk_at "small"))
  | ((with_reducible refine' r_isi ?c ?t ?e ?_); (case c => exact fun z => nomatch z); (case t => walk_at "ty"); (case e => walk_at "kit")))
local macro_rules | `(tactic| walk_at "rd") => `(tactic| repeat (first | walk_at "r1" | walk_at "r3" | walk_at "r2" | walk_at "cond" | walk_at "calls" | walk_at "mine"))
local macro_rules | `(tactic| walk_at "rds") => `(tactic| repeat' (first | walk_at "r1" | walk_at "r3" | walk_at "r2" | walk_at "cond" | walk_at "calls" | walk_at "mine" | walk_at "cs"))
local macro_rules | `(tactic| walk_at "sp") => `(tactic| (repeat' split) <;> first | assumption | rfl | (exfalso; omega))
local macro_rules | `(tactic| walk_at "rok") => `(tactic| first | assumption | exact ⟨by omega, by omega⟩)
local macro_rules | `(tactic| walk_at "cmul") => `(tactic| first | exact Or.inl ⟨by decide, by decide⟩ | exact Or.inr ⟨by decide, by decide⟩ | exact Or.inl ⟨by omega, by omega⟩ | exact Or.inr ⟨by omega, by omega⟩)

set_option hygiene false
local macro_rules | `(tactic| walk_at "cs") => `(tactic| with_reducible first | refine ifInt (fun hh => ?_) (fun hh => ?_) | refine ifIntN (fun hh => ?_) (fun hh => ?_) | refine ifDec (fun hh => ?_) (fun hh => ?_) | refine ifDecN (fun hh => ?_) (fun hh => ?_) | (refine' r_ixDi ?h (fun hh => ?_) (fun hh => ?_); (case h => walk_at "sql")) | (refine' r_ixD ?h (fun hh => ?_) (fun hh => ?_); (case h => walk_at "sql")))
local macro_rules | `(tactic| walk_at "tf") => `(tactic| (show Q _ _; refine' q _ _ _ _ ?zs ?znt ?znb ?znp ?ze1 ?ze2 ?ze3 ?zt ?zb ?zp; (case zt => walk_at "hlk"); (case zb => walk_at "hlk"); (case zp => walk_at "hlk"); (case zs => walk_at "same"); (case znt => walk_at "none"); (case znb => walk_at "none"); (case znp => walk_at "none"); (case ze1 => walk_at "ne"); (case ze2 => walk_at "ne"); (case ze3 => walk_at "ne")))

local macro_rules | `(tactic| walk_at "cls") => `(tactic| first | assumption | exact T.cl_Doing | exact T.cl_Run)
local macro_rules | `(tactic| walk_at "noat") => `(tactic| first | assumption | exact T.n_Doing_moves | exact T.n_Doing_mark | exact T.n_Doing_names | exact T.n_Run_bodies | exact T.n_Run_steps_left | exact T.n_Run_doings | exact T.n_Run_answer | exact T.n_Run_mark)
local macro_rules | `(tactic| walk_at "kit") => `(tactic| first | assumption | exact T.k_int_int | exact T.k_int_bool | exact T.k_tuple_tuple | exact T.k_str_str | exact T.k_list_list)
set_option hygiene true
abbrev Adr.C_Doing (a : Adr) : Addr := a.C_Table
abbrev Adr.C_Run (a : Adr) : Addr := a.C_Machine
def top (i : Nat) : Stmt := PySem.Challenge.pw_frameback_k52_names_filled.main.body.getD i (.Pass ⟨0, 0, 0, 0⟩)
abbrev s_is_whole : Stmt := top 6
theorem sc_is_whole : FnScope ["number"] ["number"] (defScope s_is_whole) := ⟨rfl, rfl, rfl, by decide +kernel, rfl, by decide +kernel, by decide +kernel⟩
abbrev s_add_all : Stmt := top 14
theorem sc_add_all : FnScope ["moves", "statements", "landing", "statement"] ["moves", "statements", "landing"] (defScope s_add_all) := ⟨rfl, rfl, rfl, by decide +kernel, rfl, by decide +kernel, by decide +kernel⟩
abbrev s_moves_of : Stmt := top 15
theorem sc_moves_of : FnScope ["body", "moves"] ["body"] (defScope s_moves_of) := ⟨rfl, rfl, rfl, by decide +kernel, rfl, by decide +kernel, by decide +kernel⟩
abbrev s_is_up_to : Stmt := top 23
theorem sc_is_up_to : FnScope ["thing", "top"] ["thing", "top"] (defScope s_is_up_to) := ⟨rfl, rfl, rfl, by decide +kernel, rfl, by decide +kernel, by decide +kernel⟩
abbrev s_is_name : Stmt := top 24
theorem sc_is_name : FnScope ["thing"] ["thing"] (defScope s_is_name) := ⟨rfl, rfl, rfl, by decide +kernel, rfl, by decide +kernel, by decide +kernel⟩
abbrev s_is_part : Stmt := top 26
theorem sc_is_part : FnScope ["part", "kind", "functions"] ["part", "kind", "functions"] (defScope s_is_part) := ⟨rfl, rfl, rfl, by decide +kernel, rfl, by decide +kernel, by decide +kernel⟩
abbrev s_is_statement : Stmt := top 27
theorem sc_is_statement : FnScope ["statement", "handed", "kinds"] ["statement", "handed"] (defScope s_is_statement) := ⟨rfl, rfl, rfl, by decide +kernel, rfl, by decide +kernel, by decide +kernel⟩
abbrev s_lists_within : Stmt := top 28
theorem sc_lists_within : FnScope ["statement"] ["statement"] (defScope s_lists_within) := ⟨rfl, rfl, rfl, by decide +kernel, rfl, by decide +kernel, by decide +kernel⟩
abbrev s_are_statements : Stmt := top 29
theorem sc_are_statements : FnScope ["bodies", "handed", "waiting", "many", "found", "statement", "inner"] ["bodies", "handed"] (defScope s_are_statements) := ⟨rfl, rfl, rfl, by decide +kernel, rfl, by decide +kernel, by decide +kernel⟩
abbrev s_is_function : Stmt := top 30
theorem sc_is_function : FnScope ["function"] ["function"] (defScope s_is_function) := ⟨rfl, rfl, rfl, by decide +kernel, rfl, by decide +kernel, by decide +kernel⟩
abbrev s_is_program : Stmt := top 31
theorem sc_is_program : FnScope ["program"] ["program"] (defScope s_is_program) := ⟨rfl, rfl, rfl, by decide +kernel, rfl, by decide +kernel, by decide +kernel⟩
abbrev s_asked_for_program : Stmt := top 32
theorem sc_asked_for_program : FnScope ["program"] ["program"] (defScope s_asked_for_program) := ⟨rfl, rfl, rfl, by decide +kernel, rfl, by decide +kernel, by decide +kernel⟩
abbrev s_reckoned : Stmt := top 36
theorem sc_reckoned : FnScope ["move", "names", "word", "one", "other"] ["move", "names"] (defScope s_reckoned) := ⟨rfl, rfl, rfl, by decide +kernel, rfl, by decide +kernel, by decide +kernel⟩
abbrev s_Doing_init : Stmt := inClass (top 37) 0
theorem sc_Doing_init : FnScope ["self", "moves", "values"] ["self", "moves", "values"] (defScope s_Doing_init) := ⟨rfl, rfl, rfl, by decide +kernel, rfl, by decide +kernel, by decide +kernel⟩
abbrev s_Doing_last_move : Stmt := inClass (top 37) 1
theorem sc_Doing_last_move : FnScope ["self"] ["self"] (defScope s_Doing_last_move) := ⟨rfl, rfl, rfl, by decide +kernel, rfl, by decide +kernel, by decide +kernel⟩
abbrev s_Run_init : Stmt := inClass (top 38) 0
theorem sc_Run_init : FnScope ["self", "program", "steps"] ["self", "program", "steps"] (defScope s_Run_init) := ⟨rfl, rfl, rfl, by decide +kernel, rfl, by decide +kernel, by decide +kernel⟩
abbrev s_Run_begin : Stmt := inClass (top 38) 1
theorem sc_Run_begin : FnScope ["self", "function", "values"] ["self", "function", "values"] (defScope s_Run_begin) := ⟨rfl, rfl, rfl, by decide +kernel, rfl, by decide +kernel, by decide +kernel⟩
abbrev s_Run_step : Stmt := inClass (top 38) 2
theorem sc_Run_step : FnScope ["self", "doing", "move"] ["self"] (defScope s_Run_step) := ⟨rfl, rfl, rfl, by decide +kernel, rfl, by decide +kernel, by decide +kernel⟩
abbrev s_Run_make : Stmt := inClass (top 38) 3
theorem sc_Run_make : FnScope ["self", "doing", "move", "word"] ["self", "doing", "move"] (defScope s_Run_make) := ⟨rfl, rfl, rfl, by decide +kernel, rfl, by decide +kernel, by decide +kernel⟩
abbrev s_Run_leave : Stmt := inClass (top 38) 5
theorem sc_Run_leave : FnScope ["self", "value", "caller"] ["self", "value"] (defScope s_Run_leave) := ⟨rfl, rfl, rfl, by decide +kernel, rfl, by decide +kernel, by decide +kernel⟩
abbrev s_run : Stmt := top 39
theorem sc_run : FnScope ["program", "values", "steps", "running"] ["program", "values", "steps"] (defScope s_run) := ⟨rfl, rfl, rfl, by decide +kernel, rfl, by decide +kernel, by decide +kernel⟩
abbrev s_law_cell_at : Stmt := top 41
theorem sc_law_cell_at : FnScope ["_law_script", "_law_k"] ["_law_script", "_law_k"] (defScope s_law_cell_at) := ⟨rfl, rfl, rfl, by decide +kernel, rfl, by decide +kernel, by decide +kernel⟩
abbrev s_law_statement : Stmt := top 42
theorem sc_law_statement : FnScope ["_law_cell", "_law_k", "_law_n", "_law_word", "_law_x", "_law_y"] ["_law_cell", "_law_k"] (defScope s_law_statement) := ⟨rfl, rfl, rfl, by decide +kernel, rfl, by decide +kernel, by decide +kernel⟩
abbrev s_law_done : Stmt := top 43
theorem sc_law_done : FnScope ["_law_names", "_law_told", "_law_found", "_law_here", "_law_there", "_law_every"] ["_law_names", "_law_told"] (defScope s_law_done) := ⟨rfl, rfl, rfl, by decide +kernel, rfl, by decide +kernel, by decide +kernel⟩
abbrev s_law_alike : Stmt := top 44
theorem sc_law_alike : FnScope ["_law_found", "_law_due"] ["_law_found", "_law_due"] (defScope s_law_alike) := ⟨rfl, rfl, rfl, by decide +kernel, rfl, by decide +kernel, by decide +kernel⟩
abbrev s_law_refused : Stmt := top 45
theorem sc_law_refused : FnScope ["_law_program", "_law_values", "_law_refused_here"] ["_law_program", "_law_values"] (defScope s_law_refused) := ⟨rfl, rfl, rfl, by decide +kernel, rfl, by decide +kernel, by decide +kernel⟩
abbrev s_law : Stmt := top 46
theorem sc_law : FnScope ["_law_script", "_law_values", "_law_body", "_law_names", "_law_told", "_law_due", "_law_program", "_law_handed"] ["_law_script"] (defScope s_law) := ⟨rfl, rfl, rfl, by decide +kernel, rfl, by decide +kernel, by decide +kernel⟩
structure Txt (w : World) (K : PySem.W.Frag) (mg : Str → Option Value) (a : Adr) : Prop where
  z_all : mg "all" = none
  z_bool : mg "bool" = none
  z_int : mg "int" = none
  z_isinstance : mg "isinstance" = none
  z_len : mg "len" = none
  z_list : mg "list" = none
  z_min : mg "min" = none
  z_range : mg "range" = none
  z_str : mg "str" = none
  z_tuple : mg "tuple" = none
  z_zip : mg "zip" = none
  g_NOUGHT : ∃ t, mg "NOUGHT" = some (Value.int 7 t)
  s_PARTS : mg "PARTS" = some (.ref a.G_PARTS)
  d_PARTS : ∃ q0 q1 q2 q3 q4 q5 q6 q7 q8 q9 q10 q11 q12 : Addr, ConR w K a.G_PARTS [("set", .ref q0), ("copy", .ref q1), ("sum", .ref q2), ("minus", .ref q3), ("product", .ref q4), ("less", .ref q5), ("call", .ref q6), ("if", .ref q7), ("while", .ref q8), ("try", .ref q9), ("drop", .ref q10), ("give", .ref q11), ("hand", .ref q12)] ∧ (∀ H, SqT K H q0 [.str "name", .str "value"]) ∧ (∀ H, SqT K H q1 [.str "name", .str "name"]) ∧ (∀ H, SqT K H q2 [.str "name", .str "name", .str "name"]) ∧ (∀ H, SqT K H q3 [.str "name", .str "name", .str "name"]) ∧ (∀ H, SqT K H q4 [.str "name", .str "name", .str "name"]) ∧ (∀ H, SqT K H q5 [.str "name", .str "name", .str "name"]) ∧ (∀ H, SqT K H q6 [.str "name", .str "function", .str "names"]) ∧ (∀ H, SqT K H q7 [.str "name", .str "statements", .str "statements"]) ∧ (∀ H, SqT K H q8 [.str "name", .str "statements"]) ∧ (∀ H, SqT K H q9 [.str "statements", .str "name", .str "statements"]) ∧ (∀ H, SqT K H q10 [.str "name"]) ∧ (∀ H, SqT K H q11 [.str "name"]) ∧ (∀ H, SqT K H q12 [.str "function", .str "names"])
  g_TOP_FUNCTIONS : ∃ t, mg "TOP_FUNCTIONS" = some (Value.int 8 t)
  g_TOP_HANDED : ∃ t, mg "TOP_HANDED" = some (Value.int 3 t)
  g_TOP_NAME : ∃ t, mg "TOP_NAME" = some (Value.int 5 t)
  g_TOP_STATEMENTS : ∃ t, mg "TOP_STATEMENTS" = some (Value.int 80 t)
  g_TOP_VALUE : ∃ t, mg "TOP_VALUE" = some (Value.int 4294967295 t)
  g_TOP_WITHIN : ∃ t, mg "TOP_WITHIN" = some (Value.int 4 t)
  s_UNCOUNTED : mg "UNCOUNTED" = some (.ref a.G_UNCOUNTED)
  t_UNCOUNTED : (∀ H, SqT K H a.G_UNCOUNTED [.str "go", .str "leave"])
  g_VALUES : ∃ t, mg "VALUES" = some (Value.int 4294967296 t)
  c_Doing : mg "Doing" = some (.ref a.C_Doing)
  c_NoProgram : mg "NoProgram" = some (.ref a.C_NoProgram)
  c_Run : mg "Run" = some (.ref a.C_Run)
  cl_Doing : Cls K a.C_Doing
  n_Doing_moves : NoAttr K a.C_Doing "moves"
  n_Doing_mark : NoAttr K a.C_Doing "mark"
  n_Doing_names : NoAttr K a.C_Doing "names"
  i_Doing : ∃ f fd, Fun K "__init__" "Doing.__init__" s_Doing_init f fd ∧ Mk K a.C_Doing f ∧ Binds K fd ["self", "moves", "values"] []
  m_Doing_last_move : ∃ f fd, Fun K "last_move" "Doing.last_move" s_Doing_last_move f fd ∧ Meth K a.C_Doing "last_move" f ∧ Binds K fd ["self"] []
  cl_Run : Cls K a.C_Run
  n_Run_bodies : NoAttr K a.C_Run "bodies"
  n_Run_steps_left : NoAttr K a.C_Run "steps_left"
  n_Run_doings : NoAttr K a.C_Run "doings"
  n_Run_answer : NoAttr K a.C_Run "answer"
  n_Run_mark : NoAttr K a.C_Run "mark"
  i_Run : ∃ f fd, Fun K "__init__" "Run.__init__" s_Run_init f fd ∧ Mk K a.C_Run f ∧ Binds K fd ["self", "program", "steps"] []
  m_Run_begin : ∃ f fd, Fun K "begin" "Run.begin" s_Run_begin f fd ∧ Meth K a.C_Run "begin" f ∧ Binds K fd ["self", "function", "values"] []
  m_Run_leave : ∃ f fd, Fun K "leave" "Run.leave" s_Run_leave f fd ∧ Meth K a.C_Run "leave" f ∧ Binds K fd ["self", "value"] []
  m_Run_make : ∃ f fd, Fun K "make" "Run.make" s_Run_make f fd ∧ Meth K a.C_Run "make" f ∧ Binds K fd ["self", "doing", "move"] []
  m_Run_step : ∃ f fd, Fun K "step" "Run.step" s_Run_step f fd ∧ Meth K a.C_Run "step" f ∧ Binds K fd ["self"] []
  x_NoProgram : ExcC K mg "NoProgram" a.C_NoProgram
  xk_NoProgram : ExcK K a.C_NoProgram
  k_int_int : PySem.W.kitOne K (.type "int") (.type "int") = some true
  k_int_bool : PySem.W.kitOne K (.type "int") (.type "bool") = some false
  k_tuple_tuple : PySem.W.kitOne K (.type "tuple") (.type "tuple") = some true
  k_str_str : PySem.W.kitOne K (.type "str") (.type "str") = some true
  k_list_list : PySem.W.kitOne K (.type "list") (.type "list") = some true
  fn_is_whole : ∃ f fd, Fun K "is_whole" "is_whole" s_is_whole f fd ∧ mg "is_whole" = some (.ref f) ∧ Binds K fd ["number"] []
  fn_add_all : ∃ f fd, Fun K "add_all" "add_all" s_add_all f fd ∧ mg "add_all" = some (.ref f) ∧ Binds K fd ["moves", "statements", "landing"] []
  fn_moves_of : ∃ f fd, Fun K "moves_of" "moves_of" s_moves_of f fd ∧ mg "moves_of" = some (.ref f) ∧ Binds K fd ["body"] []
  fn_is_up_to : ∃ f fd, Fun K "is_up_to" "is_up_to" s_is_up_to f fd ∧ mg "is_up_to" = some (.ref f) ∧ Binds K fd ["thing", "top"] []
  fn_is_name : ∃ f fd, Fun K "is_name" "is_name" s_is_name f fd ∧ mg "is_name" = some (.ref f) ∧ Binds K fd ["thing"] []
  fn_is_part : ∃ f fd, Fun K "is_part" "is_part" s_is_part f fd ∧ mg "is_part" = some (.ref f) ∧ Binds K fd ["part", "kind", "functions"] []
  fn_is_statement : ∃ f fd, Fun K "is_statement" "is_statement" s_is_statement f fd ∧ mg "is_statement" = some (.ref f) ∧ Binds K fd ["statement", "handed"] []
  fn_lists_within : ∃ f fd, Fun K "lists_within" "lists_within" s_lists_within f fd ∧ mg "lists_within" = some (.ref f) ∧ Binds K fd ["statement"] []
  fn_are_statements : ∃ f fd, Fun K "are_statements" "are_statements" s_are_statements f fd ∧ mg "are_statements" = some (.ref f) ∧ Binds K fd ["bodies", "handed"] []
  fn_is_function : ∃ f fd, Fun K "is_function" "is_function" s_is_function f fd ∧ mg "is_function" = some (.ref f) ∧ Binds K fd ["function"] []
  fn_is_program : ∃ f fd, Fun K "is_program" "is_program" s_is_program f fd ∧ mg "is_program" = some (.ref f) ∧ Binds K fd ["program"] []
  fn_asked_for_program : ∃ f fd, Fun K "asked_for_program" "asked_for_program" s_asked_for_program f fd ∧ mg "asked_for_program" = some (.ref f) ∧ Binds K fd ["program"] []
  fn_reckoned : ∃ f fd, Fun K "reckoned" "reckoned" s_reckoned f fd ∧ mg "reckoned" = some (.ref f) ∧ Binds K fd ["move", "names"] []
  fn_run : ∃ f fd, Fun K "run" "run" s_run f fd ∧ mg "run" = some (.ref f) ∧ Binds K fd ["program", "values", "steps"] []
  fn_law_cell_at : ∃ f fd, Fun K "_law_cell_at" "_law_cell_at" s_law_cell_at f fd ∧ mg "_law_cell_at" = some (.ref f) ∧ Binds K fd ["_law_script", "_law_k"] []
  fn_law_statement : ∃ f fd, Fun K "_law_statement" "_law_statement" s_law_statement f fd ∧ mg "_law_statement" = some (.ref f) ∧ Binds K fd ["_law_cell", "_law_k"] []
  fn_law_done : ∃ f fd, Fun K "_law_done" "_law_done" s_law_done f fd ∧ mg "_law_done" = some (.ref f) ∧ Binds K fd ["_law_names", "_law_told"] []
  fn_law_alike : ∃ f fd, Fun K "_law_alike" "_law_alike" s_law_alike f fd ∧ mg "_law_alike" = some (.ref f) ∧ Binds K fd ["_law_found", "_law_due"] []
  fn_law_refused : ∃ f fd, Fun K "_law_refused" "_law_refused" s_law_refused f fd ∧ mg "_law_refused" = some (.ref f) ∧ Binds K fd ["_law_program", "_law_values"] []
  fn_law : ∃ f fd, Fun K "law" "law" s_law f fd ∧ mg "law" = some (.ref f) ∧ Binds K fd ["_law_script"] []
theorem putF_len {f : Str} {v w : V} : ∀ {fs : List (Str × V)}, fs.lookup f = some w → (putF f v fs).length = fs.length
  | [], h => by cases h
  | (g, x) :: r, h => by
    by_cases e : g = f
    · show (if g = f then (g, v) :: r else (g, x) :: putF f v r).length = _
      rw [if_pos e]; rfl
    · have hb : (f == g) = false := beq_eq_false_iff_ne.mpr (fun z => e z.symm)
      rw [List.lookup_cons, hb] at h
      show (if g = f then (g, v) :: r else (g, x) :: putF f v r).length = _
      rw [if_neg e, List.length_cons, putF_len h]; rfl
theorem r_gTup {K : PySem.W.Frag} {p : Addr} {xs : List V} {n : Nat} {t : TGs} {σ : L2.St} {H : Hp} {Q : L2.St → Hp → Prop} (h : SqT K H p xs) (hl : xs.length = n) (q : t xs σ H Q) : gTup K n t (.ref p) σ H Q := ⟨p, xs, rfl, h, hl, q⟩
theorem r_gCons {t : TG} {u : TGs} {v : V} {r : List V} {σ : L2.St} {H : Hp} {Q : L2.St → Hp → Prop} (q : t v σ H fun σ' H' => u r σ' H' Q) : gCons t u (v :: r) σ H Q := ⟨v, r, rfl, q⟩
theorem r_gNil {σ : L2.St} {H : Hp} {Q : L2.St → Hp → Prop} (q : Q σ H) : gNil [] σ H Q := ⟨rfl, q⟩
theorem mem_sI {xs : List Int} {i v x : Int} (h : x ∈ sI xs i v) : x ∈ xs ∨ x = v := by
  unfold sI at h
  exact List.mem_or_eq_of_mem_set h
theorem gI_any {xs : List Int} (hv : ∀ x ∈ xs, isVal x) (i : Int) : isVal (gI xs i) := by
  unfold gI
  rw [List.getD_eq_getElem?_getD]
  cases e : xs[i.toNat]? with
  | none => exact ⟨by decide, by decide⟩
  | some y => exact hv y (List.mem_of_getElem? e)
theorem sI_vals {xs : List Int} {i v : Int} (hv : ∀ x ∈ xs, isVal x) (h : isVal v) : ∀ x ∈ sI xs i v, isVal x := fun x hx => by
  rcases mem_sI hx with z | z
  · exact hv x z
  · rw [z]; exact h


inductive Sm where
  | set (x v : Int) | copy (x y : Int) | sum (x y z : Int) | minus (x y z : Int) | product (x y z : Int) | less (x y z : Int) | give (x : Int) | leave (x : Int)
def Sm.vs : Sm → List V
  | .set x v => [.str "set", .int x, .int v]
  | .copy x y => [.str "copy", .int x, .int y]
  | .sum x y z => [.str "sum", .int x, .int y, .int z]
  | .minus x y z => [.str "minus", .int x, .int y, .int z]
  | .product x y z => [.str "product", .int x, .int y, .int z]
  | .less x y z => [.str "less", .int x, .int y, .int z]
  | .give x => [.str "give", .int x]
  | .leave x => [.str "leave", .int x]
def isN (x : Int) : Prop := 0 ≤ x ∧ x ≤ 5
def Sm.ok : Sm → Prop
  | .set x v => isN x ∧ isVal v
  | .copy x y => isN x ∧ isN y
  | .sum x y z | .minus x y z | .product x y z | .less x y z => isN x ∧ isN y ∧ isN z
  | .give x => isN x
  | .leave _ => False
def Sm.fills : Sm → Prop
  | .give _ | .leave _ => False
  | _ => True
def Sm.tgt : Sm → Int
  | .set x _ | .copy x _ | .sum x _ _ | .minus x _ _ | .product x _ _ | .less x _ _ | .give x | .leave x => x
def Sm.val (ns : List Int) : Sm → Int
  | .set _ v => v
  | .copy _ y => gI ns y
  | .sum _ y z => (gI ns y + gI ns z) % 4294967296
  | .minus _ y z => (gI ns y - gI ns z) % 4294967296
  | .product _ y z => (gI ns y * gI ns z) % 4294967296
  | .less _ y z => if gI ns y < gI ns z then 1 else 0
  | .give _ | .leave _ => 0
def Sm.done (ns : List Int) (s : Sm) : List Int := sI ns s.tgt (s.val ns)
inductive An where
  | gave (v : Int) | tired
def An.vs : An → List V
  | .gave v => [.str "gave", .int v]
  | .tired => [.str "tired"]
def runP : List Sm → List Int → Int → An
  | [], ns, _ => .gave (gI ns 7)
  | s :: r, ns, k => if k ≤ 0 then .tired else match s with
    | .give x => .gave (gI ns x)
    | s => runP r (s.done ns) (k - 1)
def SmsAt (H : Hp) (ps : List Addr) (ss : List Sm) : Prop := ps.length = ss.length ∧ ∀ (i : Nat) (p : Addr) (s : Sm), ps[i]? = some p → ss[i]? = some s → H p = some (.tup s.vs)
theorem SmsAt.same {H H' : Hp} {ps : List Addr} {ss : List Sm} (h : SmsAt H ps ss) (s : Same H H') : SmsAt H' ps ss := ⟨h.1, fun i p r e1 e2 => s _ _ (h.2 i p r e1 e2)⟩
theorem SmsAt.to {H H' : Hp} {ps : List Addr} {ss : List Sm} (h : SmsAt H ps ss) (s : ∀ b xs, H b = some (.tup xs) → H' b = some (.tup xs)) : SmsAt H' ps ss := ⟨h.1, fun i p r e1 e2 => s _ _ (h.2 i p r e1 e2)⟩
theorem SmsAt.nil {H : Hp} : SmsAt H [] [] := ⟨rfl, fun i p r e => by simp at e⟩
theorem SmsAt.snoc {H : Hp} {ps : List Addr} {ss : List Sm} {p : Addr} {s : Sm} (h : SmsAt H ps ss) (q : H p = some (.tup s.vs)) : SmsAt H (ps ++ [p]) (ss ++ [s]) := by
  refine ⟨by rw [List.length_append, List.length_append, h.1]; rfl, fun i p' r' e1 e2 => ?_⟩
  by_cases hi : i < ss.length
  · rw [List.getElem?_append_left (by rw [h.1]; exact hi)] at e1
    rw [List.getElem?_append_left hi] at e2
    exact h.2 i p' r' e1 e2
  · rw [List.getElem?_append_right (by rw [h.1]; omega), h.1] at e1
    rw [List.getElem?_append_right (by omega)] at e2
    cases hj : i - ss.length with
    | zero => rw [hj] at e1 e2; simp at e1 e2; subst e1 e2; exact q
    | succ j => rw [hj] at e1; simp at e1
def MvAt (H : Hp) (q : Addr) (s : Sm) : Prop := ∃ p, H q = some (.tup [.ref p, .non]) ∧ H p = some (.tup s.vs)
def MvsAt (H : Hp) (qs : List Addr) (ss : List Sm) : Prop := qs.length = ss.length ∧ ∀ (i : Nat) (q : Addr) (s : Sm), qs[i]? = some q → ss[i]? = some s → MvAt H q s
theorem MvsAt.to {H H' : Hp} {ps : List Addr} {ss : List Sm} (h : MvsAt H ps ss) (s : ∀ b xs, H b = some (.tup xs) → H' b = some (.tup xs)) : MvsAt H' ps ss := ⟨h.1, fun i p r e1 e2 => let ⟨q, k1, k2⟩ := h.2 i p r e1 e2; ⟨q, s _ _ k1, s _ _ k2⟩⟩
theorem MvsAt.same {H H' : Hp} {ps : List Addr} {ss : List Sm} (h : MvsAt H ps ss) (s : Same H H') : MvsAt H' ps ss := h.to fun b xs e => s _ _ e
theorem MvsAt.nil {H : Hp} : MvsAt H [] [] := ⟨rfl, fun i p r e => by simp at e⟩
theorem MvsAt.snoc {H : Hp} {ps : List Addr} {ss : List Sm} {p : Addr} {s : Sm} (h : MvsAt H ps ss) (q : MvAt H p s) : MvsAt H (ps ++ [p]) (ss ++ [s]) := by
  refine ⟨by rw [List.length_append, List.length_append, h.1]; rfl, fun i p' r' e1 e2 => ?_⟩
  by_cases hi : i < ss.length
  · rw [List.getElem?_append_left (by rw [h.1]; exact hi)] at e1
    rw [List.getElem?_append_left hi] at e2
    exact h.2 i p' r' e1 e2
  · rw [List.getElem?_append_right (by rw [h.1]; omega), h.1] at e1
    rw [List.getElem?_append_right (by omega)] at e2
    cases hj : i - ss.length with
    | zero => rw [hj] at e1 e2; simp at e1 e2; subst e1 e2; exact q
    | succ j => rw [hj] at e1; simp at e1
theorem tup_upd {H : Hp} {l : Addr} {ys : List V} {o : HO} (h : H l = some (.lst ys)) (b : Addr) (xs : List V) (e : H b = some (.tup xs)) : (upd H l o) b = some (.tup xs) := by
  rw [upd_ne (fun z => by subst z; rw [h] at e; cases e)]; exact e
def ProgAt (H : Hp) (pr : Addr) (n : Int) (ss : List Sm) : Prop := ∃ (f l : Addr) (ps : List Addr), H pr = some (.lst [.ref f]) ∧ H f = some (.tup [.int n, .ref l]) ∧ H l = some (.lst (ps.map V.ref)) ∧ SmsAt H ps ss ∧ (∀ s ∈ ss, s.ok) ∧ ss.length ≤ 80 ∧ 0 ≤ n ∧ n ≤ 3
theorem ProgAt.same {H H' : Hp} {pr : Addr} {n : Int} {ss : List Sm} (h : ProgAt H pr n ss) (s : Same H H') : ProgAt H' pr n ss := by
  obtain ⟨f, l, ps, h1, h2, h3, h4, h5⟩ := h
  exact ⟨f, l, ps, s _ _ h1, s _ _ h2, s _ _ h3, h4.same s, h5⟩

def spWhI : Sp := fun vs H Q _ => ∃ i : Int, vs = [.int i] ∧ 0 ≤ i ∧ Q (.bl true) H
def spUpTo : Sp := fun vs H Q _ => ∃ i t : Int, vs = [.int i, .int t] ∧ 0 ≤ i ∧ i ≤ t ∧ Q (.bl true) H
def spNm : Sp := fun vs H Q _ => ∃ i : Int, vs = [.int i] ∧ isN i ∧ Q (.bl true) H
def spPart : Sp := fun vs H Q _ => ∃ (i n : Int) (k : Str), vs = [.int i, .str k, .int n] ∧ ((k = "name" ∧ isN i) ∨ (k = "value" ∧ isVal i)) ∧ Q (.bl true) H
def spStm : Sp := fun vs H Q _ => ∃ (p h : Addr) (s : Sm) (n : Int), vs = [.ref p, .ref h] ∧ H p = some (.tup s.vs) ∧ s.ok ∧ H h = some (.lst [.int n]) ∧ ∀ H', Same H H' → Q (.bl true) H'
def spWithin : Sp := fun vs H Q _ => ∃ (p : Addr) (s : Sm), vs = [.ref p] ∧ H p = some (.tup s.vs) ∧ s.ok ∧ ∀ l H', Same H H' → H' l = some (.lst []) → H l = none → Q (.ref l) H'
def spAreS : Sp := fun vs H Q _ => ∃ (b h l : Addr) (ps : List Addr) (ss : List Sm) (n : Int), vs = [.ref b, .ref h] ∧ H b = some (.lst [.ref l]) ∧ H l = some (.lst (ps.map V.ref)) ∧ SmsAt H ps ss ∧ (∀ s ∈ ss, s.ok) ∧ ss.length ≤ 80 ∧ H h = some (.lst [.int n]) ∧ ∀ H', Same H H' → Q (.bl true) H'
def spIsFn : Sp := fun vs H Q _ => ∃ (f l : Addr) (n : Int) (us : List V), vs = [.ref f] ∧ H f = some (.tup [.int n, .ref l]) ∧ 0 ≤ n ∧ n ≤ 3 ∧ H l = some (.lst us) ∧ Q (.bl true) H
def spIsP : Sp := fun vs H Q _ => ∃ (pr : Addr) (n : Int) (ss : List Sm), vs = [.ref pr] ∧ ProgAt H pr n ss ∧ ∀ H', Same H H' → Q (.bl true) H'
def spAsk : Sp := fun vs H Q _ => ∃ (pr : Addr) (n : Int) (ss : List Sm), vs = [.ref pr] ∧ ProgAt H pr n ss ∧ ∀ H', Same H H' → Q .non H'
def spReck : Sp := fun vs H Q _ => ∃ (m l : Addr) (s : Sm) (ns : List Int), vs = [.ref m, .ref l] ∧ H m = some (.tup s.vs) ∧ s.fills ∧ s.ok ∧ H l = some (.lst (ns.map V.int)) ∧ ns.length = 8 ∧ (∀ x ∈ ns, isVal x) ∧ Q (.int (s.val ns)) H
def spAddAll : Sp := fun vs H Q _ => ∃ (m l : Addr) (ps : List Addr) (ss : List Sm), vs = [.ref m, .ref l, .non] ∧ H m = some (.lst []) ∧ H l = some (.lst (ps.map V.ref)) ∧ m ≠ l ∧ SmsAt H ps ss ∧ (∀ s ∈ ss, s.ok) ∧ ss.length ≤ 80 ∧ ∀ qs H', (∀ b o, H b = some o → b ≠ m → H' b = some o) → H' m = some (.lst (qs.map V.ref)) → MvsAt H' qs ss → Q .non H'
def spMovesOf : Sp := fun vs H Q _ => ∃ (l : Addr) (ps : List Addr) (ss : List Sm), vs = [.ref l] ∧ H l = some (.lst (ps.map V.ref)) ∧ SmsAt H ps ss ∧ (∀ s ∈ ss, s.ok) ∧ ss.length ≤ 80 ∧ ∀ m qs H', Same H H' → H m = none → H' m = some (.lst (qs.map V.ref)) → MvsAt H' qs (ss ++ [.leave 7]) → Q (.ref m) H'
def padN (ns : List Int) : List Int := ns ++ List.replicate (8 - ns.length) 0

structure DF (fs : List (Str × V)) (m l : Addr) (k : Int) : Prop where
  moves : fs.lookup ("moves" : Str) = some (.ref m)
  mark : fs.lookup ("mark" : Str) = some (.int k)
  names : fs.lookup ("names" : Str) = some (.ref l)
  len : fs.length ≤ 9
  no : fs.lookup ("last_move" : Str) = none

structure RF (fs : List (Str × V)) (bo dg : Addr) (st : Int) (an : V) : Prop where
  bodies : fs.lookup ("bodies" : Str) = some (.ref bo)
  steps : fs.lookup ("steps_left" : Str) = some (.int st)
  doings : fs.lookup ("doings" : Str) = some (.ref dg)
  answer : fs.lookup ("answer" : Str) = some an
  len : fs.length ≤ 9
  no : ∀ x : Str, x ∈ (["begin", "step", "make", "leave"] : List Str) → fs.lookup x = none
def spDoing (a : Adr) : Sp := fun vs H Q _ => ∃ (x dx m v : Addr) (ns : List Int), vs = [.ref x, .ref m, .ref v] ∧ H x = some (.ins a.C_Doing dx []) ∧ H v = some (.lst (ns.map V.int)) ∧ ns.length ≤ 3 ∧
  ∀ l fs H', H l = none → (∀ b o, H b = some o → b ≠ x → H' b = some o) → H' x = some (.ins a.C_Doing dx fs) → DF fs m l 0 → H' l = some (.lst ((padN ns).map V.int)) → Q .non H'
def spLast (a : Adr) : Sp := fun vs H Q _ => ∃ (x dx m l q p : Addr) (fs : List (Str × V)) (k : Nat) (qs : List Addr), vs = [.ref x] ∧ H x = some (.ins a.C_Doing dx fs) ∧ DF fs m l ((k : Int) + 1) ∧ H m = some (.lst (qs.map V.ref)) ∧ qs[k]? = some q ∧ H q = some (.tup [.ref p, .non]) ∧ Q (.ref p) H
def spRunI (a : Adr) : Sp := fun vs H Q _ => ∃ (x dx pr : Addr) (st n : Int) (ss : List Sm), vs = [.ref x, .ref pr, .int st] ∧ H x = some (.ins a.C_Run dx []) ∧ ProgAt H pr n ss ∧
  ∀ bo dg m qs fs H', H bo = none → H dg = none → H m = none → bo ≠ dg → m ≠ dg → bo ≠ m → (∀ b o, H b = some o → b ≠ x → H' b = some o) → H' x = some (.ins a.C_Run dx fs) → RF fs bo dg st .non → H' bo = some (.lst [.ref m]) → H' m = some (.lst (qs.map V.ref)) → MvsAt H' qs (ss ++ [.leave 7]) → H' dg = some (.lst []) → Q .non H'
def spBegin (a : Adr) : Sp := fun vs H Q _ => ∃ (r dr bo dg m v : Addr) (fs : List (Str × V)) (st : Int) (ns : List Int), vs = [.ref r, .int 0, .ref v] ∧ H r = some (.ins a.C_Run dr fs) ∧ RF fs bo dg st .non ∧ H bo = some (.lst [.ref m]) ∧ H dg = some (.lst []) ∧ H v = some (.lst (ns.map V.int)) ∧ ns.length ≤ 3 ∧ v ≠ dg ∧
  ∀ x dx l fs' H', H x = none → H l = none → (∀ b o, H b = some o → b ≠ dg → H' b = some o) → H' dg = some (.lst [.ref x]) → H' x = some (.ins a.C_Doing dx fs') → DF fs' m l 0 → H' l = some (.lst ((padN ns).map V.int)) → Q .non H'

structure RSt (a : Adr) (H : Hp) (r dr d dd bo dg m ln : Addr) (qs : List Addr) (ms : List Sm) (k : Nat) (st : Int) (ns : List Int) : Prop where
  hr : ∃ fs, H r = some (.ins a.C_Run dr fs) ∧ RF fs bo dg st .non
  hd : ∃ fs, H d = some (.ins a.C_Doing dd fs) ∧ DF fs m ln k
  hg : H dg = some (.lst [.ref d])
  hm : H m = some (.lst (qs.map V.ref))
  mv : MvsAt H qs ms
  hn : H ln = some (.lst (ns.map V.int))
  n8 : ns.length = 8
  hv : ∀ x ∈ ns, isVal x
  n1 : r ≠ d
  n2 : m ≠ dg
  n3 : m ≠ ln
  n4 : dg ≠ ln

def RDone (a : Adr) (H : Hp) (r dr : Addr) (an : An) : Prop := ∃ fs t, H r = some (.ins a.C_Run dr fs) ∧ fs.lookup ("answer" : Str) = some (.ref t) ∧ H t = some (.tup an.vs)
def Kept4 (r d dg ln : Addr) (H H' : Hp) : Prop := ∀ b o, H b = some o → b ≠ r → b ≠ d → b ≠ dg → b ≠ ln → H' b = some o
def spLeave (a : Adr) : Sp := fun vs H Q _ => ∃ (r dr d bo dg : Addr) (fs : List (Str × V)) (st v : Int), vs = [.ref r, .int v] ∧ H r = some (.ins a.C_Run dr fs) ∧ RF fs bo dg st .non ∧ H dg = some (.lst [.ref d]) ∧ ∀ H', (∀ b o, H b = some o → b ≠ r → b ≠ dg → H' b = some o) → RDone a H' r dr (.gave v) → Q .non H'
def spMake (a : Adr) : Sp := fun vs H Q _ => ∃ (r dr d dd bo dg m ln p : Addr) (qs : List Addr) (ms : List Sm) (k : Nat) (st : Int) (ns : List Int) (s : Sm), vs = [.ref r, .ref d, .ref p] ∧ RSt a H r dr d dd bo dg m ln qs ms k st ns ∧ H p = some (.tup s.vs) ∧ (s.ok ∨ s = .leave 7) ∧
  ((s.fills ∧ ∀ H', Kept4 r d dg ln H H' → RSt a H' r dr d dd bo dg m ln qs ms k st (s.done ns) → Q .non H') ∨ (¬ s.fills ∧ ∀ H', Kept4 r d dg ln H H' → RDone a H' r dr (.gave (gI ns s.tgt)) → Q .non H'))
def Sm.counted : Sm → Prop
  | .leave _ => False
  | _ => True
def spStepR (a : Adr) : Sp := fun vs H Q _ => ∃ (r dr d dd bo dg m ln : Addr) (qs : List Addr) (ms : List Sm) (k : Nat) (st : Int) (ns : List Int) (s : Sm), vs = [.ref r] ∧ RSt a H r dr d dd bo dg m ln qs ms k st ns ∧ ms[k]? = some s ∧ (s.ok ∨ s = .leave 7) ∧
  ((s.counted ∧ st ≤ 0 ∧ ∀ H', Kept4 r d dg ln H H' → RDone a H' r dr .tired → Q .non H') ∨ (s.fills ∧ 0 < st ∧ ∀ H', Kept4 r d dg ln H H' → RSt a H' r dr d dd bo dg m ln qs ms (k + 1) (st - 1) (s.done ns) → Q .non H') ∨
   (¬ s.fills ∧ (s.counted → 0 < st) ∧ ∀ H', Kept4 r d dg ln H H' → RDone a H' r dr (.gave (gI ns s.tgt)) → Q .non H'))
def spRun (a : Adr) : Sp := fun vs H Q E => ∃ (pr v : Addr) (st n : Int) (ss : List Sm) (xs : List Int), vs = [.ref pr, .ref v, .int st] ∧ ProgAt H pr n ss ∧ H v = some (.lst (xs.map V.int)) ∧ xs.length ≤ 4 ∧
  (((xs.length : Int) = n ∧ (∀ x ∈ xs, isVal x) ∧ ∀ t H', Same H H' → H' t = some (.tup (runP ss (padN xs) st).vs) → Q (.ref t) H') ∨ ((xs.length : Int) ≠ n ∧ ∀ H', Same H H' → E (.ref a.C_NoProgram) none H'))
def spStmt : Sp := fun vs H Q _ => ∃ c k : Int, vs = [.int c, .int k] ∧ 0 ≤ k ∧ k ≤ 63 ∧ ∀ p s H', Same H H' → H' p = some (.tup (Sm.vs s)) → s.ok → s.fills → Q (.ref p) H'
def spDone : Sp := fun vs H Q _ => ∃ (l p : Addr) (ns : List Int) (s : Sm), vs = [.ref l, .ref p] ∧ H l = some (.lst (ns.map V.int)) ∧ ns.length = 6 ∧ (∀ x ∈ ns, isVal x) ∧ H p = some (.tup s.vs) ∧ s.ok ∧ s.fills ∧ ∀ q H', Same H H' → H' q = some (.lst ((s.done ns).map V.int)) → Q (.ref q) H'
def spAlike : Sp := fun vs H Q _ => ∃ (t u : Addr) (an : An), vs = [.ref t, .ref u] ∧ H t = some (.tup an.vs) ∧ H u = some (.tup an.vs) ∧ ∀ H', Same H H' → Q (.bl true) H'
def spRefused : Sp := fun vs H Q _ => ∃ (pr v : Addr) (n : Int) (ss : List Sm) (xs : List Int), vs = [.ref pr, .ref v] ∧ ProgAt H pr n ss ∧ H v = some (.lst (xs.map V.int)) ∧ xs.length ≤ 4 ∧ (xs.length : Int) ≠ n ∧ ∀ H', Same H H' → Q (.bl true) H'

theorem DF.setMark {fs : List (Str × V)} {m l : Addr} {k : Int} (F : DF fs m l k) (n : Int) : DF (putF "mark" (.int n) fs) m l n :=
  ⟨look_of (by decide +kernel) F.moves, look_hit, look_of (by decide +kernel) F.names, by rw [putF_len F.mark]; exact F.len, look_no (by decide +kernel) F.no⟩
theorem RF.noPut {fs : List (Str × V)} {f : Str} {v : V} (h : ∀ x : Str, x ∈ (["begin", "step", "make", "leave"] : List Str) → fs.lookup x = none) (hf : f ∉ (["begin", "step", "make", "leave"] : List Str)) : ∀ x : Str, x ∈ (["begin", "step", "make", "leave"] : List Str) → (putF f v fs).lookup x = none := fun x hx => look_no (fun e => hf (e ▸ hx)) (h x hx)
theorem RF.setSteps {fs : List (Str × V)} {bo dg : Addr} {st : Int} {an : V} (F : RF fs bo dg st an) (n : Int) : RF (putF "steps_left" (.int n) fs) bo dg n an :=
  ⟨look_of (by decide +kernel) F.bodies, look_hit, look_of (by decide +kernel) F.doings, look_of (by decide +kernel) F.answer, by rw [putF_len F.steps]; exact F.len, RF.noPut F.no (by decide +kernel)⟩
section
variable {a : Adr} {H : Hp} {r dr d dd bo dg m ln : Addr} {qs : List Addr} {ms : List Sm} {k : Nat} {st : Int} {ns : List Int}
theorem RSt.put (R : RSt a H r dr d dd bo dg m ln qs ms k st ns) {i v : Int} (hv : isVal v) : RSt a (upd H ln (.lst ((sI ns i v).map V.int))) r dr d dd bo dg m ln qs ms k st (sI ns i v) := by
  have hn := R.hn
  refine ⟨?_, ?_, ?_, ?_, R.mv.to (tup_upd hn), upd_same, by rw [sI_len]; exact R.n8, sI_vals R.hv hv, R.n1, R.n2, R.n3, R.n4⟩
  · obtain ⟨fs, e, F⟩ := R.hr
    exact ⟨fs, by rw [upd_ne (fun z => by rw [z, hn] at e; cases e)]; exact e, F⟩
  · obtain ⟨fs, e, F⟩ := R.hd
    exact ⟨fs, by rw [upd_ne (fun z => by rw [z, hn] at e; cases e)]; exact e, F⟩
  · rw [upd_ne R.n4]; exact R.hg
  · rw [upd_ne R.n3]; exact R.hm
theorem RSt.mark (R : RSt a H r dr d dd bo dg m ln qs ms k st ns) {fs : List (Str × V)} (F : DF fs m ln ((k : Int) + 1)) : RSt a (upd H d (.ins a.C_Doing dd fs)) r dr d dd bo dg m ln qs ms (k + 1) st ns := by
  obtain ⟨fs0, hd, F0⟩ := R.hd
  have no : ∀ {b : Addr} {xs : List V}, H b = some (.lst xs) → b ≠ d := fun e z => by rw [z, hd] at e; cases e
  refine ⟨?_, ⟨fs, upd_same, F⟩, ?_, ?_, R.mv.to (fun b xs e => by rw [upd_ne (fun z => by rw [z, hd] at e; cases e)]; exact e), ?_, R.n8, R.hv, R.n1, R.n2, R.n3, R.n4⟩
  · obtain ⟨fs, e, F⟩ := R.hr
    exact ⟨fs, by rw [upd_ne R.n1]; exact e, F⟩
  · rw [upd_ne (no R.hg)]; exact R.hg
  · rw [upd_ne (no R.hm)]; exact R.hm
  · rw [upd_ne (no R.hn)]; exact R.hn
theorem RSt.left (R : RSt a H r dr d dd bo dg m ln qs ms k st ns) {fs : List (Str × V)} {n : Int} (F : RF fs bo dg n .non) : RSt a (upd H r (.ins a.C_Run dr fs)) r dr d dd bo dg m ln qs ms k n ns := by
  obtain ⟨fs0, hr, F0⟩ := R.hr
  have no : ∀ {b : Addr} {xs : List V}, H b = some (.lst xs) → b ≠ r := fun e z => by rw [z, hr] at e; cases e
  refine ⟨⟨fs, upd_same, F⟩, ?_, ?_, ?_, R.mv.to (fun b xs e => by rw [upd_ne (fun z => by rw [z, hr] at e; cases e)]; exact e), ?_, R.n8, R.hv, R.n1, R.n2, R.n3, R.n4⟩
  · obtain ⟨fs, e, F⟩ := R.hd
    exact ⟨fs, by rw [upd_ne R.n1.symm]; exact e, F⟩
  · rw [upd_ne (no R.hg)]; exact R.hg
  · rw [upd_ne (no R.hm)]; exact R.hm
  · rw [upd_ne (no R.hn)]; exact R.hn
end
theorem val_mod (x : Int) : isVal (x % 4294967296) := ⟨by omega, by omega⟩
theorem Sm.isval {s : Sm} {ns : List Int} (hv : ∀ x ∈ ns, isVal x) (ok : s.ok) : isVal (s.val ns) := by
  cases s with
  | set x v => exact ok.2
  | copy x y => exact gI_any hv y
  | sum x y z => exact val_mod _
  | minus x y z => exact val_mod _
  | product x y z => exact val_mod _
  | less x y z =>
    show isVal (if gI ns y < gI ns z then 1 else 0)
    split <;> exact ⟨by decide, by decide⟩
  | give x => exact (show isVal 0 from ⟨by decide, by decide⟩)
  | leave x => exact (show isVal 0 from ⟨by decide, by decide⟩)
def Sm.word : Sm → Str
  | .set .. => "set" | .copy .. => "copy" | .sum .. => "sum" | .minus .. => "minus" | .product .. => "product" | .less .. => "less" | .give .. => "give" | .leave .. => "leave"
def Sm.cnt : Sm → Bool
  | .leave _ => false
  | _ => true
theorem Sm.at0 (s : Sm) : atI s.vs 0 = some (.str s.word) := by cases s <;> rfl
theorem Sm.inU (s : Sm) : inV (.str s.word) [.str "go", .str "leave"] = !s.cnt := by cases s <;> rfl
theorem Sm.cnt_iff (s : Sm) : s.counted ↔ s.cnt = true := by cases s <;> simp [Sm.counted, Sm.cnt]

local macro_rules | `(tactic| walk_at "mine") => `(tactic| first | (with_reducible refine r_rGet ?_) | (with_reducible refine r_gCons ?_) | (with_reducible refine r_gNil ?_) | (with_reducible refine r_zip ?_) | (with_reducible refine r_chain ?_) | (with_reducible refine r_dGet ?_) | (with_reducible refine r_raise ?_))
local macro_rules | `(tactic| walk_at "lk") => `(tactic| first | with_reducible assumption | (with_reducible exact look_hit) | (refine' look_of ?x ?y; (case x => decide +kernel); (case y => walk_at "lk")) | exact look_hit)
local macro_rules | `(tactic| walk_at "nolk") => `(tactic| first | with_reducible assumption | (with_reducible rfl) | (refine' look_no ?x ?y; (case x => decide +kernel); (case y => walk_at "nolk")) | rfl)
local macro_rules | `(tactic| walk_at "fewf") => `(tactic| first | exact Nat.lt_of_le_of_lt (by assumption) (by decide : 9 < 1000) | exact Nat.lt_of_le_of_lt (len_of (by assumption)) (by decide : 9 + 1 < 1000) | exact Nat.lt_of_le_of_lt (len_of (len_of (by assumption))) (by decide : 9 + 1 + 1 < 1000) | exact Nat.lt_of_le_of_lt (Nat.le_refl 0) (by decide) | exact Nat.lt_of_le_of_lt (len_of (Nat.le_refl 0)) (by decide) | exact Nat.lt_of_le_of_lt (len_of (len_of (Nat.le_refl 0))) (by decide) | exact Nat.lt_of_le_of_lt (len_of (len_of (len_of (Nat.le_refl 0)))) (by decide) | exact Nat.lt_of_le_of_lt (len_of (len_of (len_of (len_of (Nat.le_refl 0))))) (by decide))

section
variable {P : Program} {w : World} {K : PySem.W.Frag} {mg : Str → Option Value} {base : Heap} {a : Adr}

def OneP (D : List V → Hp → Prop) (σ0 : L2.St) (H : Hp) : Nat → List V → L2.St → Hp → Prop
  | 0, ys, σ, H1 => ys = [] ∧ σ = σ0 ∧ H1 = H
  | _ + 1, ys, _, H1 => D ys H1
theorem comp_one {K : PySem.W.Frag} {a : Addr} {x : V} {g : TG} {tc : TT} {te : TE} {fin : List V → Hp → Prop} {σ0 : L2.St} {H : Hp} (D : List V → Hp → Prop) (hl : SqL K H a [x])
    (hs : g x σ0 H fun σ3 H3 => tc σ3 H3 fun b H4 => if b = true then te σ3 H4 fun y H5 => D [y] H5 else D [] H4) (hD : ∀ ys H1, D ys H1 → SqL K H1 a [x] ∧ ys.length ≤ sizeLine) (hd : ∀ ys H1, D ys H1 → fin ys H1) : CompW (Itl K a) g tc te fin σ0 H := by
  refine comp_list (xs := [x]) (OneP D σ0 H) ⟨rfl, rfl, rfl⟩ ?_ ?_ ?_
  · intro i ys σ H1 _ h
    cases i with
    | zero => obtain ⟨rfl, rfl, rfl⟩ := h; exact ⟨hl, Nat.zero_le _⟩
    | succ i => exact hD ys H1 h
  · intro i y ys σ H1 e h
    cases i with
    | zero => obtain ⟨rfl, rfl, rfl⟩ := h; simp at e; subst e; exact hs
    | succ i => simp at e
  · exact fun ys σ H1 h => hd ys H1 h
theorem comp_none {K : PySem.W.Frag} {a : Addr} {g : TG} {tc : TT} {te : TE} {fin : List V → Hp → Prop} {σ0 : L2.St} {H : Hp} (hl : SqL K H a []) (hd : fin [] H) : CompW (Itl K a) g tc te fin σ0 H := by
  refine comp_list (xs := []) (fun i ys σ H1 => ys = [] ∧ σ = σ0 ∧ H1 = H) ⟨rfl, rfl, rfl⟩ ?_ ?_ ?_
  · rintro i ys σ H1 _ ⟨rfl, rfl, rfl⟩
    exact ⟨hl, Nat.zero_le _⟩
  · intro i y ys σ H1 e h
    simp at e
  · rintro ys σ H1 ⟨rfl, rfl, rfl⟩
    exact hd
end
section
variable {P : Program} {w : World} {K : PySem.W.Frag} {mg : Str → Option Value} {base : Heap} {a : Adr}

theorem padN_len {xs : List Int} (h : xs.length ≤ 8) : (padN xs).length = 8 := by unfold padN; rw [List.length_append, List.length_replicate]; omega
theorem padN_val {xs : List Int} (h : ∀ x ∈ xs, isVal x) : ∀ x ∈ padN xs, isVal x := fun x hx => by
  rcases List.mem_append.mp hx with z | z
  · exact h x z
  · rw [List.eq_of_mem_replicate z]; exact ⟨by decide, by decide⟩
theorem runP_step (s : Sm) (r : List Sm) (ns : List Int) (k : Int) : (k ≤ 0 → runP (s :: r) ns k = .tired) ∧ (0 < k → s.fills → runP (s :: r) ns k = runP r (s.done ns) (k - 1)) ∧ (0 < k → ¬ s.fills → s.ok → runP (s :: r) ns k = .gave (gI ns s.tgt)) := by
  refine ⟨fun h => ?_, fun h hf => ?_, fun h hf ok => ?_⟩
  · cases s <;> simp [runP, h]
  · have h' : ¬ k ≤ 0 := by omega
    cases s <;> first | (exact hf.elim) | (simp [runP, h'])
  · have h' : ¬ k ≤ 0 := by omega
    cases s <;> first | (exact absurd True.intro hf) | (exact ok.elim) | (simp [runP, h', Sm.tgt])
end
section
variable {P : Program} {w : World} {K : PySem.W.Frag} {mg : Str → Option Value} {base : Heap} {a : Adr}
set_option maxHeartbeats 4000000 in
theorem ok_is_whole (T : Txt w K mg a) : FnE P w K mg base CX0 1 "is_whole" spWhI := by
  refine fnE_of (sp := spWhI) 0 T.fn_is_whole sc_is_whole (fun vs H Q E h => ?_) (fun f cdv A outer s H vs Q E hr h => ?_)
  · obtain ⟨i, rfl, _⟩ := h
    rfl
  · obtain ⟨i, rfl, h0, q⟩ := h
    refine ⟨_, (pss_one (ps_ret (pe_and (pe_callB (call_isiK (K := K) rfl) rfl T.z_isinstance b_isinstance (pa_cons (pv 0) (pa_cons (pe_bltn (v := .ty "int") rfl T.z_int b_int rfl) pa_nil))) (pe_and (pe_not (pe_callB (call_isiK (K := K) rfl) rfl T.z_isinstance b_isinstance (pa_cons (pv 0) (pa_cons (pe_bltn (v := .ty "bool") rfl T.z_bool b_bool rfl) pa_nil)))) (pe_one (pe_cmpR op_ge (pv 0) pe_int (nomark _))))))), ?_⟩
    refine r_st (σ' := [some _]) rfl ?_
    walk_at "rd"
    rw [decide_eq_true h0]
    exact q
end
section
variable {P : Program} {w : World} {K : PySem.W.Frag} {mg : Str → Option Value} {base : Heap} {a : Adr}
set_option maxHeartbeats 4000000 in
theorem ok_add_all (T : Txt w K mg a) : FnE P w K mg base CX0 1 "add_all" spAddAll := by
  refine fnE_of (sp := spAddAll) 0 T.fn_add_all sc_add_all (fun vs H Q E h => ?_) (fun f cdv A outer s H vs Q E hr h => ?_)
  · obtain ⟨m, l, ps, ss, rfl, _⟩ := h
    rfl
  · obtain ⟨m, l, ps, ss, rfl, hm, hl, nml, hs, hok, h80, q⟩ := h
    have hsl := hs.1
    refine ⟨_, (pss_one (ps_for PassesOwn.never rfl (pi_seqK (K := K) rfl (pv 1)) (pg_name (i := 3) sc_add_all.nd rfl (Or.inl rfl)) (pss_one (ps_if (pt_cmpR (op_eqK (K := K) rfl hr.units) (pe_ix (ix_K (K := K) rfl) (pv 3) pe_int (fun _ _ => rfl)) pe_str (nomark _)) (pss_one ps_dead) (pss_one (ps_if (pt_cmpR (op_eqK (K := K) rfl hr.units) (pe_ix (ix_K (K := K) rfl) (pv 3) pe_int (fun _ _ => rfl)) pe_str (nomark _)) (pss_one ps_dead) (pss_one (ps_if (pt_cmpR (op_eqK (K := K) rfl hr.units) (pe_ix (ix_K (K := K) rfl) (pv 3) pe_int (fun _ _ => rfl)) pe_str (nomark _)) (pss_one ps_dead) (pss_one (ps_if (pt_cmpR (op_eqK (K := K) rfl hr.units) (pe_ix (ix_K (K := K) rfl) (pv 3) pe_int (fun _ _ => rfl)) pe_str (nomark _)) (pss_one ps_dead) (pss_one (ps_expr (pe_bmK (K := K) rfl PySem.F.plainAttrs_list PySem.F.slot_list_append PySem.F.type_list_append mt_append (pv 0) (pa_cons (pe_tup (pa_cons (pv 3) (pa_cons (pv 2) pa_nil))) pa_nil)))))))))))))), ?_⟩
    refine r_st (σ' := [some _, some _, some _, none]) rfl ?_
    walk_at "rd"
    refine for_list (K := K) (a := l) (xs := ps.map V.ref) (fun i σ H1 => (∃ u, σ = [some (.ref m), some (.ref l), some .non, u]) ∧ (∀ b o, H b = some o → b ≠ m → H1 b = some o) ∧ ∃ qs, H1 m = some (.lst (qs.map V.ref)) ∧ MvsAt H1 qs (ss.take i)) ⟨⟨_, rfl⟩, (fun b o e _ => e), [], hm, MvsAt.nil⟩ (fun i σ H1 _ ⟨_, k1, _⟩ => SqL.of (k1 _ _ hl nml.symm)) ?_ ?_
    · rintro i v σ H1 hv ⟨⟨u, rfl⟩, k1, qs, hm1, hq1⟩
      obtain ⟨p, hx, rfl⟩ : ∃ p, ps[i]? = some p ∧ v = .ref p := by
        rw [List.getElem?_map] at hv
        obtain ⟨p, hp, e⟩ := Option.map_eq_some_iff.mp hv
        exact ⟨p, hp, e.symm⟩
      have hi : i < ss.length := by rw [← hsl]; exact (List.getElem?_eq_some_iff.mp hx).1
      have hsi : ss[i]? = some ss[i] := List.getElem?_eq_getElem hi
      have hp0 := hs.2 i p _ hx hsi
      have npm : p ≠ m := fun z => by rw [z, hm] at hp0; cases hp0
      have hp1 := k1 _ _ hp0 npm
      have hql := hq1.1
      rw [List.length_take] at hql
      have ok := hok _ (List.mem_of_getElem? hsi)
      have fin : ∀ t, H1 t = none → ∃ qs', (upd (upd H1 t (.tup [.ref p, .non])) m (.lst (qs.map V.ref ++ [.ref t]))) m = some (.lst (qs'.map V.ref)) ∧ MvsAt (upd (upd H1 t (.tup [.ref p, .non])) m (.lst (qs.map V.ref ++ [.ref t]))) qs' (ss.take (i + 1)) := fun t nt => by
        refine ⟨qs ++ [t], by rw [upd_same, List.map_append]; rfl, ?_⟩
        rw [List.take_add_one, hsi, Option.toList_some]
        exact ((hq1.same (same_new nt)).snoc ⟨p, upd_same, look_new hp1 nt⟩).to (tup_upd (look_new hm1 nt))
      generalize ss[i] = s at hsi hp0 hp1 ok
      clear hv hx hp0
      have kk : ∀ t, H1 t = none → ∀ b o, H b = some o → b ≠ m → (upd (upd H1 t (.tup [.ref p, .non])) m (.lst (qs.map V.ref ++ [.ref t]))) b = some o := fun t nt b o e ne => by rw [upd_ne ne]; exact look_new (k1 b o e ne) nt
      cases s with
      | set x v =>
        have hp1 : H1 p = some (.tup [.str "set", .int x, .int v]) := hp1
        walk_at "rd"
        rename_i t nt
        exact ⟨⟨_, rfl⟩, kk t nt, fin t nt⟩
      | copy x y =>
        have hp1 : H1 p = some (.tup [.str "copy", .int x, .int y]) := hp1
        walk_at "rd"
        rename_i t nt
        exact ⟨⟨_, rfl⟩, kk t nt, fin t nt⟩
      | sum x y z =>
        have hp1 : H1 p = some (.tup [.str "sum", .int x, .int y, .int z]) := hp1
        walk_at "rd"
        rename_i t nt
        exact ⟨⟨_, rfl⟩, kk t nt, fin t nt⟩
      | minus x y z =>
        have hp1 : H1 p = some (.tup [.str "minus", .int x, .int y, .int z]) := hp1
        walk_at "rd"
        rename_i t nt
        exact ⟨⟨_, rfl⟩, kk t nt, fin t nt⟩
      | product x y z =>
        have hp1 : H1 p = some (.tup [.str "product", .int x, .int y, .int z]) := hp1
        walk_at "rd"
        rename_i t nt
        exact ⟨⟨_, rfl⟩, kk t nt, fin t nt⟩
      | less x y z =>
        have hp1 : H1 p = some (.tup [.str "less", .int x, .int y, .int z]) := hp1
        walk_at "rd"
        rename_i t nt
        exact ⟨⟨_, rfl⟩, kk t nt, fin t nt⟩
      | give x =>
        have hp1 : H1 p = some (.tup [.str "give", .int x]) := hp1
        walk_at "rd"
        rename_i t nt
        exact ⟨⟨_, rfl⟩, kk t nt, fin t nt⟩
      | leave x => exact ok.elim
    · rintro σ H1 ⟨⟨u, rfl⟩, k1, qs, hm1, hq1⟩
      rw [List.length_map, hsl, List.take_length] at hq1
      walk_at "rd"
      exact q qs H1 k1 hm1 hq1
end
section
variable {P : Program} {w : World} {K : PySem.W.Frag} {mg : Str → Option Value} {base : Heap} {a : Adr}
set_option maxHeartbeats 4000000 in
theorem ok_lists_within (T : Txt w K mg a) : FnE P w K mg base CX0 1 "lists_within" spWithin := by
  refine fnE_of (sp := spWithin) 0 T.fn_lists_within sc_lists_within (fun vs H Q E h => ?_) (fun f cdv A outer s H vs Q E hr h => ?_)
  · obtain ⟨p, s, rfl, _⟩ := h
    rfl
  · obtain ⟨p, s, rfl, hp, ok, q⟩ := h
    obtain ⟨q0, q1, q2, q3, q4, q5, q6, q7, q8, q9, q10, q11, q12, C, t0, t1, t2, t3, t4, t5, t6, t7, t8, t9, t10, t11, t12⟩ := T.d_PARTS
    refine ⟨_, (pss_one (ps_ret (pe_comp (own := ["part", "kind"]) (fr := []) rfl ⟨rfl, (by walk_at "clok"), (by walk_at "frok"), rfl, (by decide +kernel), (by decide +kernel), rfl⟩ (pi_zip2 (K := K) rfl rfl T.z_zip (pa_cons (pe_slice (sl_K (K := K) rfl) (pv 0) (po_some pe_int) po_none) (pa_cons (pe_rget (w := w) (K := K) rfl rfl (pe_glob (v := .ref a.G_PARTS) rfl T.s_PARTS rfl) (pe_ix (ix_K (K := K) rfl) (pv 0) pe_int (fun _ _ => rfl)) (fun _ _ => rfl)) pa_nil))) (fun _ _ _ _ => (pg_tupK (K := K) (n := 2) rfl rfl (pgs_cons (pg_name (i := 0) (show List.Nodup [("part" : Str), ("kind" : Str)] from by decide +kernel) rfl (Or.inl rfl)) (pgs_cons (pg_name (i := 1) (show List.Nodup [("part" : Str), ("kind" : Str)] from by decide +kernel) rfl (Or.inl rfl)) pgs_nil)))) (fun _ _ _ _ => (pts_one (pt_cmpR (op_eqK (K := K) rfl hr.units) (pv 1) pe_str (nomark _)))) (fun _ _ _ _ => (pv 0))))), ?_⟩
    refine r_st (σ' := [some _]) rfl ?_
    cases s with
    | set x v =>
      have hp : H p = some (.tup [.str "set", .int x, .int v]) := hp
      walk_at "rd"
      refine r_slT (SqT.of hp) (fun z => Nat.noConfusion (show (1 : Nat) = 0 from z.1)) fun ls nls => ?_
      rw [show cutV [.str "set", .int x, .int v] (some 1) none = [V.int x, V.int v] from rfl]
      walk_at "rd"
      refine ⟨_, _, rfl, C, ?_⟩
      walk_at "rd"
      refine ⟨_, .ref q0, rfl, rfl, ?_⟩
      walk_at "rd"
      refine ⟨ls, q0, _, _, rfl, SqT.of upd_same, t0 _, ?_⟩
      refine comp_filZ (α := Int × Str) (xs := [(x, ("name" : Str)), (v, ("value" : Str))]) (e1 := fun p => .int p.1) (e2 := fun p => .str p.2) (fun _ => .non) (fun _ => false) (fun σ => ∃ u v, σ = [u, v]) (SqT.of upd_same) (t0 _) (by walk_at "small") ⟨_, _, rfl⟩ ?_ ?_
      · rintro i ⟨zz, k⟩ ys σ H1 T hx cc s1 ⟨u, v', rfl⟩ nT
        have hok : k = "name" ∨ k = "value" := by
          have hm := List.mem_of_getElem? hx
          simp only [List.mem_cons, List.not_mem_nil, or_false, Prod.mk.injEq] at hm
          rcases hm with ⟨rfl, rfl⟩ | ⟨rfl, rfl⟩
          · exact .inl rfl
          · exact .inr rfl
        refine r_gTup (SqT.of upd_same) rfl ?_
        rcases hok with rfl | rfl
        · walk_at "rd"
          exact cc.no hx rfl (by walk_at "same") ⟨_, _, rfl⟩
        · walk_at "rd"
          exact cc.no hx rfl (by walk_at "same") ⟨_, _, rfl⟩
      intro H1 s1 l2 nl2
      exact q l2 _ ((same_new nls).trans (s1.trans (same_new nl2))) upd_same (none_same ((same_new (o := .tup [V.int x, V.int v]) nls).trans s1) nl2)
    | copy x y =>
      have hp : H p = some (.tup [.str "copy", .int x, .int y]) := hp
      walk_at "rd"
      refine r_slT (SqT.of hp) (fun z => Nat.noConfusion (show (1 : Nat) = 0 from z.1)) fun ls nls => ?_
      rw [show cutV [.str "copy", .int x, .int y] (some 1) none = [V.int x, V.int y] from rfl]
      walk_at "rd"
      refine ⟨_, _, rfl, C, ?_⟩
      walk_at "rd"
      refine ⟨_, .ref q1, rfl, rfl, ?_⟩
      walk_at "rd"
      refine ⟨ls, q1, _, _, rfl, SqT.of upd_same, t1 _, ?_⟩
      refine comp_filZ (α := Int × Str) (xs := [(x, ("name" : Str)), (y, ("name" : Str))]) (e1 := fun p => .int p.1) (e2 := fun p => .str p.2) (fun _ => .non) (fun _ => false) (fun σ => ∃ u v, σ = [u, v]) (SqT.of upd_same) (t1 _) (by walk_at "small") ⟨_, _, rfl⟩ ?_ ?_
      · rintro i ⟨zz, k⟩ ys σ H1 T hx cc s1 ⟨u, v', rfl⟩ nT
        have hok : k = "name" ∨ k = "value" := by
          have hm := List.mem_of_getElem? hx
          simp only [List.mem_cons, List.not_mem_nil, or_false, Prod.mk.injEq] at hm
          rcases hm with ⟨rfl, rfl⟩ | ⟨rfl, rfl⟩
          · exact .inl rfl
          · exact .inl rfl
        refine r_gTup (SqT.of upd_same) rfl ?_
        rcases hok with rfl | rfl
        · walk_at "rd"
          exact cc.no hx rfl (by walk_at "same") ⟨_, _, rfl⟩
        · walk_at "rd"
          exact cc.no hx rfl (by walk_at "same") ⟨_, _, rfl⟩
      intro H1 s1 l2 nl2
      exact q l2 _ ((same_new nls).trans (s1.trans (same_new nl2))) upd_same (none_same ((same_new (o := .tup [V.int x, V.int y]) nls).trans s1) nl2)
    | sum x y z =>
      have hp : H p = some (.tup [.str "sum", .int x, .int y, .int z]) := hp
      walk_at "rd"
      refine r_slT (SqT.of hp) (fun z => Nat.noConfusion (show (1 : Nat) = 0 from z.1)) fun ls nls => ?_
      rw [show cutV [.str "sum", .int x, .int y, .int z] (some 1) none = [V.int x, V.int y, V.int z] from rfl]
      walk_at "rd"
      refine ⟨_, _, rfl, C, ?_⟩
      walk_at "rd"
      refine ⟨_, .ref q2, rfl, rfl, ?_⟩
      walk_at "rd"
      refine ⟨ls, q2, _, _, rfl, SqT.of upd_same, t2 _, ?_⟩
      refine comp_filZ (α := Int × Str) (xs := [(x, ("name" : Str)), (y, ("name" : Str)), (z, ("name" : Str))]) (e1 := fun p => .int p.1) (e2 := fun p => .str p.2) (fun _ => .non) (fun _ => false) (fun σ => ∃ u v, σ = [u, v]) (SqT.of upd_same) (t2 _) (by walk_at "small") ⟨_, _, rfl⟩ ?_ ?_
      · rintro i ⟨zz, k⟩ ys σ H1 T hx cc s1 ⟨u, v', rfl⟩ nT
        have hok : k = "name" ∨ k = "value" := by
          have hm := List.mem_of_getElem? hx
          simp only [List.mem_cons, List.not_mem_nil, or_false, Prod.mk.injEq] at hm
          rcases hm with ⟨rfl, rfl⟩ | ⟨rfl, rfl⟩ | ⟨rfl, rfl⟩
          · exact .inl rfl
          · exact .inl rfl
          · exact .inl rfl
        refine r_gTup (SqT.of upd_same) rfl ?_
        rcases hok with rfl | rfl
        · walk_at "rd"
          exact cc.no hx rfl (by walk_at "same") ⟨_, _, rfl⟩
        · walk_at "rd"
          exact cc.no hx rfl (by walk_at "same") ⟨_, _, rfl⟩
      intro H1 s1 l2 nl2
      exact q l2 _ ((same_new nls).trans (s1.trans (same_new nl2))) upd_same (none_same ((same_new (o := .tup [V.int x, V.int y, V.int z]) nls).trans s1) nl2)
    | minus x y z =>
      have hp : H p = some (.tup [.str "minus", .int x, .int y, .int z]) := hp
      walk_at "rd"
      refine r_slT (SqT.of hp) (fun z => Nat.noConfusion (show (1 : Nat) = 0 from z.1)) fun ls nls => ?_
      rw [show cutV [.str "minus", .int x, .int y, .int z] (some 1) none = [V.int x, V.int y, V.int z] from rfl]
      walk_at "rd"
      refine ⟨_, _, rfl, C, ?_⟩
      walk_at "rd"
      refine ⟨_, .ref q3, rfl, rfl, ?_⟩
      walk_at "rd"
      refine ⟨ls, q3, _, _, rfl, SqT.of upd_same, t3 _, ?_⟩
      refine comp_filZ (α := Int × Str) (xs := [(x, ("name" : Str)), (y, ("name" : Str)), (z, ("name" : Str))]) (e1 := fun p => .int p.1) (e2 := fun p => .str p.2) (fun _ => .non) (fun _ => false) (fun σ => ∃ u v, σ = [u, v]) (SqT.of upd_same) (t3 _) (by walk_at "small") ⟨_, _, rfl⟩ ?_ ?_
      · rintro i ⟨zz, k⟩ ys σ H1 T hx cc s1 ⟨u, v', rfl⟩ nT
        have hok : k = "name" ∨ k = "value" := by
          have hm := List.mem_of_getElem? hx
          simp only [List.mem_cons, List.not_mem_nil, or_false, Prod.mk.injEq] at hm
          rcases hm with ⟨rfl, rfl⟩ | ⟨rfl, rfl⟩ | ⟨rfl, rfl⟩
          · exact .inl rfl
          · exact .inl rfl
          · exact .inl rfl
        refine r_gTup (SqT.of upd_same) rfl ?_
        rcases hok with rfl | rfl
        · walk_at "rd"
          exact cc.no hx rfl (by walk_at "same") ⟨_, _, rfl⟩
        · walk_at "rd"
          exact cc.no hx rfl (by walk_at "same") ⟨_, _, rfl⟩
      intro H1 s1 l2 nl2
      exact q l2 _ ((same_new nls).trans (s1.trans (same_new nl2))) upd_same (none_same ((same_new (o := .tup [V.int x, V.int y, V.int z]) nls).trans s1) nl2)
    | product x y z =>
      have hp : H p = some (.tup [.str "product", .int x, .int y, .int z]) := hp
      walk_at "rd"
      refine r_slT (SqT.of hp) (fun z => Nat.noConfusion (show (1 : Nat) = 0 from z.1)) fun ls nls => ?_
      rw [show cutV [.str "product", .int x, .int y, .int z] (some 1) none = [V.int x, V.int y, V.int z] from rfl]
      walk_at "rd"
      refine ⟨_, _, rfl, C, ?_⟩
      walk_at "rd"
      refine ⟨_, .ref q4, rfl, rfl, ?_⟩
      walk_at "rd"
      refine ⟨ls, q4, _, _, rfl, SqT.of upd_same, t4 _, ?_⟩
      refine comp_filZ (α := Int × Str) (xs := [(x, ("name" : Str)), (y, ("name" : Str)), (z, ("name" : Str))]) (e1 := fun p => .int p.1) (e2 := fun p => .str p.2) (fun _ => .non) (fun _ => false) (fun σ => ∃ u v, σ = [u, v]) (SqT.of upd_same) (t4 _) (by walk_at "small") ⟨_, _, rfl⟩ ?_ ?_
      · rintro i ⟨zz, k⟩ ys σ H1 T hx cc s1 ⟨u, v', rfl⟩ nT
        have hok : k = "name" ∨ k = "value" := by
          have hm := List.mem_of_getElem? hx
          simp only [List.mem_cons, List.not_mem_nil, or_false, Prod.mk.injEq] at hm
          rcases hm with ⟨rfl, rfl⟩ | ⟨rfl, rfl⟩ | ⟨rfl, rfl⟩
          · exact .inl rfl
          · exact .inl rfl
          · exact .inl rfl
        refine r_gTup (SqT.of upd_same) rfl ?_
        rcases hok with rfl | rfl
        · walk_at "rd"
          exact cc.no hx rfl (by walk_at "same") ⟨_, _, rfl⟩
        · walk_at "rd"
          exact cc.no hx rfl (by walk_at "same") ⟨_, _, rfl⟩
      intro H1 s1 l2 nl2
      exact q l2 _ ((same_new nls).trans (s1.trans (same_new nl2))) upd_same (none_same ((same_new (o := .tup [V.int x, V.int y, V.int z]) nls).trans s1) nl2)
    | less x y z =>
      have hp : H p = some (.tup [.str "less", .int x, .int y, .int z]) := hp
      walk_at "rd"
      refine r_slT (SqT.of hp) (fun z => Nat.noConfusion (show (1 : Nat) = 0 from z.1)) fun ls nls => ?_
      rw [show cutV [.str "less", .int x, .int y, .int z] (some 1) none = [V.int x, V.int y, V.int z] from rfl]
      walk_at "rd"
      refine ⟨_, _, rfl, C, ?_⟩
      walk_at "rd"
      refine ⟨_, .ref q5, rfl, rfl, ?_⟩
      walk_at "rd"
      refine ⟨ls, q5, _, _, rfl, SqT.of upd_same, t5 _, ?_⟩
      refine comp_filZ (α := Int × Str) (xs := [(x, ("name" : Str)), (y, ("name" : Str)), (z, ("name" : Str))]) (e1 := fun p => .int p.1) (e2 := fun p => .str p.2) (fun _ => .non) (fun _ => false) (fun σ => ∃ u v, σ = [u, v]) (SqT.of upd_same) (t5 _) (by walk_at "small") ⟨_, _, rfl⟩ ?_ ?_
      · rintro i ⟨zz, k⟩ ys σ H1 T hx cc s1 ⟨u, v', rfl⟩ nT
        have hok : k = "name" ∨ k = "value" := by
          have hm := List.mem_of_getElem? hx
          simp only [List.mem_cons, List.not_mem_nil, or_false, Prod.mk.injEq] at hm
          rcases hm with ⟨rfl, rfl⟩ | ⟨rfl, rfl⟩ | ⟨rfl, rfl⟩
          · exact .inl rfl
          · exact .inl rfl
          · exact .inl rfl
        refine r_gTup (SqT.of upd_same) rfl ?_
        rcases hok with rfl | rfl
        · walk_at "rd"
          exact cc.no hx rfl (by walk_at "same") ⟨_, _, rfl⟩
        · walk_at "rd"
          exact cc.no hx rfl (by walk_at "same") ⟨_, _, rfl⟩
      intro H1 s1 l2 nl2
      exact q l2 _ ((same_new nls).trans (s1.trans (same_new nl2))) upd_same (none_same ((same_new (o := .tup [V.int x, V.int y, V.int z]) nls).trans s1) nl2)
    | give x =>
      have hp : H p = some (.tup [.str "give", .int x]) := hp
      walk_at "rd"
      refine r_slT (SqT.of hp) (fun z => Nat.noConfusion (show (1 : Nat) = 0 from z.1)) fun ls nls => ?_
      rw [show cutV [.str "give", .int x] (some 1) none = [V.int x] from rfl]
      walk_at "rd"
      refine ⟨_, _, rfl, C, ?_⟩
      walk_at "rd"
      refine ⟨_, .ref q11, rfl, rfl, ?_⟩
      walk_at "rd"
      refine ⟨ls, q11, _, _, rfl, SqT.of upd_same, t11 _, ?_⟩
      refine comp_filZ (α := Int × Str) (xs := [(x, ("name" : Str))]) (e1 := fun p => .int p.1) (e2 := fun p => .str p.2) (fun _ => .non) (fun _ => false) (fun σ => ∃ u v, σ = [u, v]) (SqT.of upd_same) (t11 _) (by walk_at "small") ⟨_, _, rfl⟩ ?_ ?_
      · rintro i ⟨zz, k⟩ ys σ H1 T hx cc s1 ⟨u, v', rfl⟩ nT
        have hok : k = "name" ∨ k = "value" := by
          have hm := List.mem_of_getElem? hx
          simp only [List.mem_cons, List.not_mem_nil, or_false, Prod.mk.injEq] at hm
          rcases hm with ⟨rfl, rfl⟩
          · exact .inl rfl
        refine r_gTup (SqT.of upd_same) rfl ?_
        rcases hok with rfl | rfl
        · walk_at "rd"
          exact cc.no hx rfl (by walk_at "same") ⟨_, _, rfl⟩
        · walk_at "rd"
          exact cc.no hx rfl (by walk_at "same") ⟨_, _, rfl⟩
      intro H1 s1 l2 nl2
      exact q l2 _ ((same_new nls).trans (s1.trans (same_new nl2))) upd_same (none_same ((same_new (o := .tup [V.int x]) nls).trans s1) nl2)
    | leave x => exact ok.elim
end
section
variable {P : Program} {w : World} {K : PySem.W.Frag} {mg : Str → Option Value} {base : Heap} {a : Adr}
set_option maxHeartbeats 4000000 in
theorem ok_reckoned (T : Txt w K mg a) : FnE P w K mg base CX0 1 "reckoned" spReck := by
  refine fnE_of (sp := spReck) 0 T.fn_reckoned sc_reckoned (fun vs H Q E h => ?_) (fun f cdv A outer s H vs Q E hr h => ?_)
  · obtain ⟨m, l, s, ns, rfl, _⟩ := h
    rfl
  · obtain ⟨m, l, s, ns, rfl, hm, hf, ok, hl, h8, hv, q⟩ := h
    refine ⟨_, (pss_cons (ps_set (i := 2) sc_reckoned.nd rfl (Or.inl rfl) (pe_ix (ix_K (K := K) rfl) (pv 0) pe_int (fun _ _ => rfl)))
      (pss_cons (ps_if (pt_cmpR (op_eqK (K := K) rfl hr.units) (pv 2) pe_str (nomark _)) (pss_one (ps_ret (pe_ix (ix_K (K := K) rfl) (pv 0) pe_int (fun _ _ => rfl)))) pss_nil)
      (pss_cons (ps_set (i := 3) sc_reckoned.nd rfl (Or.inl rfl) (pe_ix (ix_K (K := K) rfl) (pv 1) (pe_ix (ix_K (K := K) rfl) (pv 0) pe_int (fun _ _ => rfl)) (fun _ _ => rfl)))
      (pss_cons (ps_if (pt_cmpR (op_eqK (K := K) rfl hr.units) (pv 2) pe_str (nomark _)) (pss_one (ps_ret (pv 3))) pss_nil)
      (pss_cons (ps_set (i := 4) sc_reckoned.nd rfl (Or.inl rfl) (pe_ix (ix_K (K := K) rfl) (pv 1) (pe_ix (ix_K (K := K) rfl) (pv 0) pe_int (fun _ _ => rfl)) (fun _ _ => rfl)))
      (pss_cons (ps_if (pt_cmpR (op_eqK (K := K) rfl hr.units) (pv 2) pe_str (nomark _)) (pss_one (ps_ret (pe_ifExp (pt_cmpR op_lt (pv 3) (pv 4) (nomark _)) pe_int pe_int))) pss_nil)
      (pss_cons (ps_if (pt_cmpR (op_eqK (K := K) rfl hr.units) (pv 2) pe_str (nomark _)) (pss_one (ps_ret (pe_op op_mod (pe_op (op_plusK (K := K) rfl) (pv 3) (pv 4)) (pe_glob (v := .int 4294967296) rfl T.g_VALUES.choose_spec ⟨_, rfl⟩)))) pss_nil)
      (pss_cons (ps_if (pt_cmpR (op_eqK (K := K) rfl hr.units) (pv 2) pe_str (nomark _)) (pss_one (ps_ret (pe_op op_mod (pe_op op_sub (pv 3) (pv 4)) (pe_glob (v := .int 4294967296) rfl T.g_VALUES.choose_spec ⟨_, rfl⟩)))) pss_nil)
      (pss_one (ps_ret (pe_op op_mod (pe_op op_times (pv 3) (pv 4)) (pe_glob (v := .int 4294967296) rfl T.g_VALUES.choose_spec ⟨_, rfl⟩)))))))))))), ?_⟩
    refine r_st (σ' := [some _, some _, none, none, none]) rfl ?_
    cases s with
    | set x v =>
      have hm : H m = some (.tup [.str "set", .int x, .int v]) := hm
      obtain ⟨⟨o0, o1⟩, o2, o3⟩ := ok
      walk_at "rd"
      exact q
    | copy x y =>
      have hm : H m = some (.tup [.str "copy", .int x, .int y]) := hm
      obtain ⟨⟨o0, o1⟩, o2, o3⟩ := ok
      walk_at "rd"
      exact q
    | sum x y z =>
      have hm : H m = some (.tup [.str "sum", .int x, .int y, .int z]) := hm
      obtain ⟨⟨o0, o1⟩, ⟨o2, o3⟩, o4, o5⟩ := ok
      walk_at "rd"
      exact q
    | minus x y z =>
      have hm : H m = some (.tup [.str "minus", .int x, .int y, .int z]) := hm
      obtain ⟨⟨o0, o1⟩, ⟨o2, o3⟩, o4, o5⟩ := ok
      walk_at "rd"
      exact q
    | product x y z =>
      have hm : H m = some (.tup [.str "product", .int x, .int y, .int z]) := hm
      obtain ⟨⟨o0, o1⟩, ⟨o2, o3⟩, o4, o5⟩ := ok
      obtain ⟨b1, b2⟩ : 0 ≤ gI ns y ∧ gI ns y ≤ 4294967295 := gI_any hv y
      walk_at "rd"
      exact q
    | less x y z =>
      have hm : H m = some (.tup [.str "less", .int x, .int y, .int z]) := hm
      obtain ⟨⟨o0, o1⟩, ⟨o2, o3⟩, o4, o5⟩ := ok
      have q : Q (.int (if gI ns y < gI ns z then 1 else 0)) H := q
      walk_at "rd"
      refine ifDec (fun hh => ?_) (fun hh => ?_)
      · rw [if_pos hh] at q
        walk_at "rd"
        exact q
      · rw [if_neg hh] at q
        walk_at "rd"
        exact q
    | give x => exact hf.elim
    | leave x => exact ok.elim
end
section
variable {P : Program} {w : World} {K : PySem.W.Frag} {mg : Str → Option Value} {base : Heap} {a : Adr}
set_option maxHeartbeats 4000000 in
theorem mk_Doing (T : Txt w K mg a) : MkE P w K mg base CX0 1 "Doing" a.C_Doing (spDoing a) := by
  refine mkE_of (sp := (spDoing a)) 0 T.c_Doing T.i_Doing sc_Doing_init (fun vs H Q E h => ?_) (fun f cdv A outer s H vs Q E hr h => ?_)
  · obtain ⟨x, dx, m, v, ns, rfl, _⟩ := h
    rfl
  · obtain ⟨x, dx, m, v, ns, rfl, hx, hv, h3, q⟩ := h
    have nvx : v ≠ x := fun z => by rw [z, hx] at hv; cases hv
    refine ⟨_, (pss_cons (ps_fldK (K := K) rfl (pv 0) (pv 1))
      (pss_cons (ps_fldK (K := K) rfl (pv 0) pe_int)
      (pss_one (ps_fldK (K := K) rfl (pv 0) (pe_op (op_plusK (K := K) rfl) (pe_callTy (call_listK (K := K) rfl) rfl T.z_list b_list (pa_cons (pv 2) pa_nil)) (pe_op op_times (pe_lst (pa_cons pe_int pa_nil)) (pe_op op_sub (pe_op (op_plusK (K := K) rfl) (pe_glob (v := .int 7) rfl T.g_NOUGHT.choose_spec ⟨_, rfl⟩) pe_int) (pe_callB (call_lenK (K := K) rfl) rfl T.z_len b_len (pa_cons (pv 2) pa_nil))))))))), ?_⟩
    refine r_st (σ' := [some _, some _, some _]) rfl ?_
    walk_at "rd"
    rename_i l1 n1 l2 n2 l3 n3 l4 n4
    have e : (7 + 1 - (ns.length : Int)).toNat = 8 - ns.length := by omega
    rw [e] at n4 ⊢
    refine q l4 _ _ (none_upd1 (none_upd1 (none_upd1 (none_upd1 (none_upd1 n4))))) (fun b o h1 h2 => ?_) upd_same ⟨by walk_at "lk", by walk_at "lk", by walk_at "lk", ?_, by walk_at "nolk"⟩ ?_
    · walk_at "hlk"
    · exact Nat.le_of_lt_succ (by walk_at "fewf")
    · show _ = some (HO.lst ((ns ++ List.replicate (8 - ns.length) 0).map V.int))
      have nx4 : l4 ≠ x := (none_upd (none_upd1 (none_upd1 (none_upd1 n4)))).2
      exact look_ne nx4 upd_same
end
section
variable {P : Program} {w : World} {K : PySem.W.Frag} {mg : Str → Option Value} {base : Heap} {a : Adr}
set_option maxHeartbeats 4000000 in
theorem me_Doing_last_move (T : Txt w K mg a)  : MethE P w K mg base CX0 1 a.C_Doing "last_move" (spLast a) := by
  refine methE_of (sp := (spLast a)) 0 T.cl_Doing T.m_Doing_last_move sc_Doing_last_move (fun vs H Q E h => ?_) (fun f cdv A outer s H vs Q E hr h => ?_)
  · obtain ⟨x, dx, m, l, q', p, fs, k, qs, rfl, _⟩ := h
    rfl
  · obtain ⟨x, dx, m, l, q', p, fs, k, qs, rfl, hx, F, hm, hq, hq', q⟩ := h
    have f1 := F.moves
    have f2 := F.mark
    have hat : atI (qs.map V.ref) ((k : Int) + 1 - 1) = some (.ref q') := by
      rw [show (k : Int) + 1 - 1 = (k : Int) by omega]
      exact atI_nat (by rw [List.getElem?_map, hq]; rfl)
    refine ⟨_, (pss_one (ps_ret (pe_ix (ix_K (K := K) rfl) (pe_ix (ix_K (K := K) rfl) (pe_fldK (K := K) rfl (pv 0)) (pe_op op_sub (pe_fldK (K := K) rfl (pv 0)) pe_int) (fun _ _ => rfl)) pe_int (fun _ _ => rfl)))), ?_⟩
    refine r_st (σ' := [some _]) rfl ?_
    walk_at "rd"
    exact q
end
section
variable {P : Program} {w : World} {K : PySem.W.Frag} {mg : Str → Option Value} {base : Heap} {a : Adr}
set_option maxHeartbeats 4000000 in
theorem ok_law_cell_at (T : Txt w K mg a) : FnE P w K mg base CX0 1 "_law_cell_at" (spCellAt K) := by
  refine fnE_of (sp := (spCellAt K)) 0 T.fn_law_cell_at sc_law_cell_at (fun vs H Q E h => ?_) (fun f cdv A outer s H vs Q E hr h => ?_)
  · obtain ⟨p, ns, k, rfl, _⟩ := h
    rfl
  · obtain ⟨p, ns, k, rfl, hS, h0, q⟩ := h
    refine ⟨_, (pss_cons (ps_if (pt_cmpR op_lt (pv 1) (pe_callB (call_lenK (K := K) rfl) rfl T.z_len b_len (pa_cons (pv 0) pa_nil)) (nomark _)) (pss_one (ps_ret (pe_ix (ix_K (K := K) rfl) (pv 0) (pv 1) (fun _ _ => rfl)))) pss_nil)
      (pss_one (ps_ret pe_int))), ?_⟩
    refine r_st (σ' := [some _, some _]) rfl ?_
    walk_at "rd"
    refine ifDec (fun hh => ?_) (fun hh => ?_)
    · walk_at "rd"
      exact q
    · walk_at "rd"
      have e := cellAt_out h0 hh
      rw [e] at q
      exact q
end
section
variable {P : Program} {w : World} {K : PySem.W.Frag} {mg : Str → Option Value} {base : Heap} {a : Adr}
set_option maxHeartbeats 4000000 in
theorem ok_law_statement (T : Txt w K mg a) : FnE P w K mg base CX0 1 "_law_statement" spStmt := by
  refine fnE_of (sp := spStmt) 0 T.fn_law_statement sc_law_statement (fun vs H Q E h => ?_) (fun f cdv A outer s H vs Q E hr h => ?_)
  · obtain ⟨c, k, rfl, _⟩ := h
    rfl
  · obtain ⟨c, k, rfl, k0, k63, q⟩ := h
    refine ⟨_, (pss_cons (ps_set (i := 2) sc_law_statement.nd rfl (Or.inl rfl) (pe_op (op_plusK (K := K) rfl) (pv 0) (pe_op op_times pe_int (pv 1))))
      (pss_cons (ps_set (i := 3) sc_law_statement.nd rfl (Or.inl rfl) (pe_ix (ix_K (K := K) rfl) (pe_lst (pa_cons pe_str (pa_cons pe_str (pa_cons pe_str (pa_cons pe_str (pa_cons pe_str (pa_cons pe_str pa_nil))))))) (pe_op op_mod (pv 2) pe_int) (fun _ _ => rfl)))
      (pss_cons (ps_set (i := 4) sc_law_statement.nd rfl (Or.inl rfl) (pe_op op_mod (pe_op op_fdiv (pv 2) pe_int) pe_int))
      (pss_cons (ps_set (i := 5) sc_law_statement.nd rfl (Or.inl rfl) (pe_op op_mod (pe_op op_fdiv (pv 2) pe_int) pe_int))
      (pss_cons (ps_if (pt_cmpR (op_eqK (K := K) rfl hr.units) (pv 3) pe_str (nomark _)) (pss_one (ps_ret (pe_tup (pa_cons (pv 3) (pa_cons (pv 4) (pa_cons (pe_op op_mod (pe_op (op_plusK (K := K) rfl) (pe_op op_fdiv (pv 0) pe_int) (pe_op op_times pe_int (pv 1))) pe_int) pa_nil)))))) pss_nil)
      (pss_cons (ps_if (pt_cmpR (op_eqK (K := K) rfl hr.units) (pv 3) pe_str (nomark _)) (pss_one (ps_ret (pe_tup (pa_cons (pv 3) (pa_cons (pv 4) (pa_cons (pv 5) pa_nil)))))) pss_nil)
      (pss_one (ps_ret (pe_tup (pa_cons (pv 3) (pa_cons (pv 4) (pa_cons (pv 5) (pa_cons (pe_op op_mod (pe_op op_fdiv (pv 2) pe_int) pe_int) pa_nil))))))))))))), ?_⟩
    refine r_st (σ' := [some _, some _, none, none, none, none]) rfl ?_
    walk_at "rd"
    rename_i l nl
    rcases (show (c + 31 * k) % 6 = 0 ∨ (c + 31 * k) % 6 = 1 ∨ (c + 31 * k) % 6 = 2 ∨ (c + 31 * k) % 6 = 3 ∨ (c + 31 * k) % 6 = 4 ∨ (c + 31 * k) % 6 = 5 by omega) with h | h | h | h | h | h
    · rw [h]
      refine r_ixL (SqL.of upd_same) (v := .str "set") rfl ?_
      clear h
      walk_at "rd"
      rename_i t nt
      exact q t (.set ((c + 31 * k) / 6 % 6) ((c / 36 + 48271 * k) % 4294967296)) _ ((same_new nl).trans (same_new nt)) upd_same ⟨⟨by omega, by omega⟩, by omega, by omega⟩ True.intro
    · rw [h]
      refine r_ixL (SqL.of upd_same) (v := .str "sum") rfl ?_
      clear h
      walk_at "rd"
      rename_i t nt
      exact q t (.sum ((c + 31 * k) / 6 % 6) ((c + 31 * k) / 36 % 6) ((c + 31 * k) / 216 % 6)) _ ((same_new nl).trans (same_new nt)) upd_same ⟨⟨by omega, by omega⟩, ⟨by omega, by omega⟩, by omega, by omega⟩ True.intro
    · rw [h]
      refine r_ixL (SqL.of upd_same) (v := .str "copy") rfl ?_
      clear h
      walk_at "rd"
      rename_i t nt
      exact q t (.copy ((c + 31 * k) / 6 % 6) ((c + 31 * k) / 36 % 6)) _ ((same_new nl).trans (same_new nt)) upd_same ⟨⟨by omega, by omega⟩, by omega, by omega⟩ True.intro
    · rw [h]
      refine r_ixL (SqL.of upd_same) (v := .str "minus") rfl ?_
      clear h
      walk_at "rd"
      rename_i t nt
      exact q t (.minus ((c + 31 * k) / 6 % 6) ((c + 31 * k) / 36 % 6) ((c + 31 * k) / 216 % 6)) _ ((same_new nl).trans (same_new nt)) upd_same ⟨⟨by omega, by omega⟩, ⟨by omega, by omega⟩, by omega, by omega⟩ True.intro
    · rw [h]
      refine r_ixL (SqL.of upd_same) (v := .str "product") rfl ?_
      clear h
      walk_at "rd"
      rename_i t nt
      exact q t (.product ((c + 31 * k) / 6 % 6) ((c + 31 * k) / 36 % 6) ((c + 31 * k) / 216 % 6)) _ ((same_new nl).trans (same_new nt)) upd_same ⟨⟨by omega, by omega⟩, ⟨by omega, by omega⟩, by omega, by omega⟩ True.intro
    · rw [h]
      refine r_ixL (SqL.of upd_same) (v := .str "less") rfl ?_
      clear h
      walk_at "rd"
      rename_i t nt
      exact q t (.less ((c + 31 * k) / 6 % 6) ((c + 31 * k) / 36 % 6) ((c + 31 * k) / 216 % 6)) _ ((same_new nl).trans (same_new nt)) upd_same ⟨⟨by omega, by omega⟩, ⟨by omega, by omega⟩, by omega, by omega⟩ True.intro
end
section
variable {P : Program} {w : World} {K : PySem.W.Frag} {mg : Str → Option Value} {base : Heap} {a : Adr}
set_option maxHeartbeats 4000000 in
theorem ok_law_done (T : Txt w K mg a) : FnE P w K mg base CX0 1 "_law_done" spDone := by
  refine fnE_of (sp := spDone) 0 T.fn_law_done sc_law_done (fun vs H Q E h => ?_) (fun f cdv A outer s H vs Q E hr h => ?_)
  · obtain ⟨l, p, ns, s, rfl, _⟩ := h
    rfl
  · obtain ⟨l, p, ns, s, rfl, hl, h6, hv, hp, ok, hf, q⟩ := h
    refine ⟨_, (pss_cons (ps_set (i := 2) sc_law_done.nd rfl (Or.inl rfl) (pe_callTy (call_listK (K := K) rfl) rfl T.z_list b_list (pa_cons (pv 0) pa_nil)))
      (pss_cons (ps_if (pt_cmpR (op_eqK (K := K) rfl hr.units) (pe_ix (ix_K (K := K) rfl) (pv 1) pe_int (fun _ _ => rfl)) pe_str (nomark _)) (pss_one (ps_asg (pe_ix (ix_K (K := K) rfl) (pv 1) pe_int (fun _ _ => rfl)) (pg_sub (pv 2) (pe_ix (ix_K (K := K) rfl) (pv 1) pe_int (fun _ _ => rfl)) set_list))) (pss_one (ps_if (pt_cmpR (op_eqK (K := K) rfl hr.units) (pe_ix (ix_K (K := K) rfl) (pv 1) pe_int (fun _ _ => rfl)) pe_str (nomark _)) (pss_one (ps_asg (pe_ix (ix_K (K := K) rfl) (pv 0) (pe_ix (ix_K (K := K) rfl) (pv 1) pe_int (fun _ _ => rfl)) (fun _ _ => rfl)) (pg_sub (pv 2) (pe_ix (ix_K (K := K) rfl) (pv 1) pe_int (fun _ _ => rfl)) set_list))) (pss_cons (ps_set (i := 3) sc_law_done.nd rfl (Or.inl rfl) (pe_ix (ix_K (K := K) rfl) (pv 0) (pe_ix (ix_K (K := K) rfl) (pv 1) pe_int (fun _ _ => rfl)) (fun _ _ => rfl)))
      (pss_cons (ps_set (i := 4) sc_law_done.nd rfl (Or.inl rfl) (pe_ix (ix_K (K := K) rfl) (pv 0) (pe_ix (ix_K (K := K) rfl) (pv 1) pe_int (fun _ _ => rfl)) (fun _ _ => rfl)))
      (pss_cons (ps_set (i := 5) sc_law_done.nd rfl (Or.inl rfl) (pe_disp (pps_cons pe_str (pe_op (op_plusK (K := K) rfl) (pv 3) (pv 4)) (pps_cons pe_str (pe_op op_sub (pv 3) (pv 4)) (pps_cons pe_str (pe_op op_times (pv 3) (pv 4)) (pps_cons pe_str (pe_callTy call_int1 rfl T.z_int b_int (pa_cons (pe_cmpR op_lt (pv 3) (pv 4) (nomark _)) pa_nil)) pps_nil)))) rfl rfl (by decide) (by decide)))
      (pss_one (ps_asg (pe_op op_mod (pe_dget (hu_of hr) (pv 5) (pe_ix (ix_K (K := K) rfl) (pv 1) pe_int (fun _ _ => rfl)) (fun _ _ => rfl)) pe_int) (pg_sub (pv 2) (pe_ix (ix_K (K := K) rfl) (pv 1) pe_int (fun _ _ => rfl)) set_list)))))))))
      (pss_one (ps_ret (pv 2))))), ?_⟩
    refine r_st (σ' := [some _, some _, none, none, none, none]) rfl ?_
    cases s with
    | set x v =>
      have hp : H p = some (.tup [.str "set", .int x, .int v]) := hp
      obtain ⟨⟨o0, o1⟩, o2, o3⟩ := ok
      walk_at "rd"
      rename_i lf nlf _
      rw [upd_again]
      exact q lf _ (same_new nlf) upd_same
    | copy x y =>
      have hp : H p = some (.tup [.str "copy", .int x, .int y]) := hp
      obtain ⟨⟨o0, o1⟩, o2, o3⟩ := ok
      walk_at "rd"
      rename_i lf nlf _ _
      rw [upd_again]
      exact q lf _ (same_new nlf) upd_same
    | sum x y z =>
      have hp : H p = some (.tup [.str "sum", .int x, .int y, .int z]) := hp
      obtain ⟨⟨o0, o1⟩, ⟨o2, o3⟩, o4, o5⟩ := ok
      obtain ⟨b1, b2⟩ : 0 ≤ gI ns y ∧ gI ns y ≤ 4294967295 := gI_any hv y
      walk_at "rd"
      rename_i lf nlf _ _
      intro pd npd
      simp only [tPairs]
      walk_at "rd"
      refine .inr ⟨_, rfl, ?_⟩
      refine ⟨upd_same, [(.inr "sum", .int (gI ns y + gI ns z)), (.inr "minus", .int (gI ns y - gI ns z)), (.inr "product", .int (gI ns y * gI ns z)), (.inr "less", .int (if decide (gI ns y < gI ns z) = true then 1 else 0))], rfl, Nat.le_of_ble_eq_true rfl, ?_⟩
      rw [upd_upd]
      have hpd : (upd (upd H lf (.lst (ns.map V.int))) pd (.dK (mergeK [] [(.inr "sum", .int (gI ns y + gI ns z)), (.inr "minus", .int (gI ns y - gI ns z)), (.inr "product", .int (gI ns y * gI ns z)), (.inr "less", .int (if decide (gI ns y < gI ns z) = true then 1 else 0))]))) pd = some (.dK [(.inr "sum", .int (gI ns y + gI ns z)), (.inr "minus", .int (gI ns y - gI ns z)), (.inr "product", .int (gI ns y * gI ns z)), (.inr "less", .int (if decide (gI ns y < gI ns z) = true then 1 else 0))]) := upd_same
      have hlf : (upd (upd H lf (.lst (ns.map V.int))) pd (.dK (mergeK [] [(.inr "sum", .int (gI ns y + gI ns z)), (.inr "minus", .int (gI ns y - gI ns z)), (.inr "product", .int (gI ns y * gI ns z)), (.inr "less", .int (if decide (gI ns y < gI ns z) = true then 1 else 0))]))) lf = some (.lst (ns.map V.int)) := look_new upd_same npd
      have s2 : Same H (upd (upd H lf (.lst (ns.map V.int))) pd (.dK (mergeK [] [(.inr "sum", .int (gI ns y + gI ns z)), (.inr "minus", .int (gI ns y - gI ns z)), (.inr "product", .int (gI ns y * gI ns z)), (.inr "less", .int (if decide (gI ns y < gI ns z) = true then 1 else 0))]))) := (same_new nlf).trans (same_new npd)
      generalize (upd (upd H lf (.lst (ns.map V.int))) pd (.dK (mergeK [] [(.inr "sum", .int (gI ns y + gI ns z)), (.inr "minus", .int (gI ns y - gI ns z)), (.inr "product", .int (gI ns y * gI ns z)), (.inr "less", .int (if decide (gI ns y < gI ns z) = true then 1 else 0))]))) = H2 at hpd hlf s2 ⊢
      have hp2 := s2 _ _ hp
      have nlf0 := nlf
      clear npd nlf
      walk_at "rd"
      refine ⟨pd, .int (gI ns y + gI ns z), rfl, .inl ⟨_, .inr "sum", .inl hpd, rfl, rfl⟩, ?_⟩
      walk_at "rd"
      exact q lf _ (fun b o e => by rw [upd_ne (ne_of_none e nlf0)]; exact s2 b o e) upd_same
    | minus x y z =>
      have hp : H p = some (.tup [.str "minus", .int x, .int y, .int z]) := hp
      obtain ⟨⟨o0, o1⟩, ⟨o2, o3⟩, o4, o5⟩ := ok
      obtain ⟨b1, b2⟩ : 0 ≤ gI ns y ∧ gI ns y ≤ 4294967295 := gI_any hv y
      walk_at "rd"
      rename_i lf nlf _ _
      intro pd npd
      simp only [tPairs]
      walk_at "rd"
      refine .inr ⟨_, rfl, ?_⟩
      refine ⟨upd_same, [(.inr "sum", .int (gI ns y + gI ns z)), (.inr "minus", .int (gI ns y - gI ns z)), (.inr "product", .int (gI ns y * gI ns z)), (.inr "less", .int (if decide (gI ns y < gI ns z) = true then 1 else 0))], rfl, Nat.le_of_ble_eq_true rfl, ?_⟩
      rw [upd_upd]
      have hpd : (upd (upd H lf (.lst (ns.map V.int))) pd (.dK (mergeK [] [(.inr "sum", .int (gI ns y + gI ns z)), (.inr "minus", .int (gI ns y - gI ns z)), (.inr "product", .int (gI ns y * gI ns z)), (.inr "less", .int (if decide (gI ns y < gI ns z) = true then 1 else 0))]))) pd = some (.dK [(.inr "sum", .int (gI ns y + gI ns z)), (.inr "minus", .int (gI ns y - gI ns z)), (.inr "product", .int (gI ns y * gI ns z)), (.inr "less", .int (if decide (gI ns y < gI ns z) = true then 1 else 0))]) := upd_same
      have hlf : (upd (upd H lf (.lst (ns.map V.int))) pd (.dK (mergeK [] [(.inr "sum", .int (gI ns y + gI ns z)), (.inr "minus", .int (gI ns y - gI ns z)), (.inr "product", .int (gI ns y * gI ns z)), (.inr "less", .int (if decide (gI ns y < gI ns z) = true then 1 else 0))]))) lf = some (.lst (ns.map V.int)) := look_new upd_same npd
      have s2 : Same H (upd (upd H lf (.lst (ns.map V.int))) pd (.dK (mergeK [] [(.inr "sum", .int (gI ns y + gI ns z)), (.inr "minus", .int (gI ns y - gI ns z)), (.inr "product", .int (gI ns y * gI ns z)), (.inr "less", .int (if decide (gI ns y < gI ns z) = true then 1 else 0))]))) := (same_new nlf).trans (same_new npd)
      generalize (upd (upd H lf (.lst (ns.map V.int))) pd (.dK (mergeK [] [(.inr "sum", .int (gI ns y + gI ns z)), (.inr "minus", .int (gI ns y - gI ns z)), (.inr "product", .int (gI ns y * gI ns z)), (.inr "less", .int (if decide (gI ns y < gI ns z) = true then 1 else 0))]))) = H2 at hpd hlf s2 ⊢
      have hp2 := s2 _ _ hp
      have nlf0 := nlf
      clear npd nlf
      walk_at "rd"
      refine ⟨pd, .int (gI ns y - gI ns z), rfl, .inl ⟨_, .inr "minus", .inl hpd, rfl, rfl⟩, ?_⟩
      walk_at "rd"
      exact q lf _ (fun b o e => by rw [upd_ne (ne_of_none e nlf0)]; exact s2 b o e) upd_same
    | product x y z =>
      have hp : H p = some (.tup [.str "product", .int x, .int y, .int z]) := hp
      obtain ⟨⟨o0, o1⟩, ⟨o2, o3⟩, o4, o5⟩ := ok
      obtain ⟨b1, b2⟩ : 0 ≤ gI ns y ∧ gI ns y ≤ 4294967295 := gI_any hv y
      walk_at "rd"
      rename_i lf nlf _ _
      intro pd npd
      simp only [tPairs]
      walk_at "rd"
      refine .inr ⟨_, rfl, ?_⟩
      refine ⟨upd_same, [(.inr "sum", .int (gI ns y + gI ns z)), (.inr "minus", .int (gI ns y - gI ns z)), (.inr "product", .int (gI ns y * gI ns z)), (.inr "less", .int (if decide (gI ns y < gI ns z) = true then 1 else 0))], rfl, Nat.le_of_ble_eq_true rfl, ?_⟩
      rw [upd_upd]
      have hpd : (upd (upd H lf (.lst (ns.map V.int))) pd (.dK (mergeK [] [(.inr "sum", .int (gI ns y + gI ns z)), (.inr "minus", .int (gI ns y - gI ns z)), (.inr "product", .int (gI ns y * gI ns z)), (.inr "less", .int (if decide (gI ns y < gI ns z) = true then 1 else 0))]))) pd = some (.dK [(.inr "sum", .int (gI ns y + gI ns z)), (.inr "minus", .int (gI ns y - gI ns z)), (.inr "product", .int (gI ns y * gI ns z)), (.inr "less", .int (if decide (gI ns y < gI ns z) = true then 1 else 0))]) := upd_same
      have hlf : (upd (upd H lf (.lst (ns.map V.int))) pd (.dK (mergeK [] [(.inr "sum", .int (gI ns y + gI ns z)), (.inr "minus", .int (gI ns y - gI ns z)), (.inr "product", .int (gI ns y * gI ns z)), (.inr "less", .int (if decide (gI ns y < gI ns z) = true then 1 else 0))]))) lf = some (.lst (ns.map V.int)) := look_new upd_same npd
      have s2 : Same H (upd (upd H lf (.lst (ns.map V.int))) pd (.dK (mergeK [] [(.inr "sum", .int (gI ns y + gI ns z)), (.inr "minus", .int (gI ns y - gI ns z)), (.inr "product", .int (gI ns y * gI ns z)), (.inr "less", .int (if decide (gI ns y < gI ns z) = true then 1 else 0))]))) := (same_new nlf).trans (same_new npd)
      generalize (upd (upd H lf (.lst (ns.map V.int))) pd (.dK (mergeK [] [(.inr "sum", .int (gI ns y + gI ns z)), (.inr "minus", .int (gI ns y - gI ns z)), (.inr "product", .int (gI ns y * gI ns z)), (.inr "less", .int (if decide (gI ns y < gI ns z) = true then 1 else 0))]))) = H2 at hpd hlf s2 ⊢
      have hp2 := s2 _ _ hp
      have nlf0 := nlf
      clear npd nlf
      walk_at "rd"
      refine ⟨pd, .int (gI ns y * gI ns z), rfl, .inl ⟨_, .inr "product", .inl hpd, rfl, rfl⟩, ?_⟩
      walk_at "rd"
      exact q lf _ (fun b o e => by rw [upd_ne (ne_of_none e nlf0)]; exact s2 b o e) upd_same
    | less x y z =>
      have hp : H p = some (.tup [.str "less", .int x, .int y, .int z]) := hp
      obtain ⟨⟨o0, o1⟩, ⟨o2, o3⟩, o4, o5⟩ := ok
      obtain ⟨b1, b2⟩ : 0 ≤ gI ns y ∧ gI ns y ≤ 4294967295 := gI_any hv y
      walk_at "rd"
      rename_i lf nlf _ _
      intro pd npd
      simp only [tPairs]
      walk_at "rd"
      refine .inr ⟨_, rfl, ?_⟩
      refine ⟨upd_same, [(.inr "sum", .int (gI ns y + gI ns z)), (.inr "minus", .int (gI ns y - gI ns z)), (.inr "product", .int (gI ns y * gI ns z)), (.inr "less", .int (if decide (gI ns y < gI ns z) = true then 1 else 0))], rfl, Nat.le_of_ble_eq_true rfl, ?_⟩
      rw [upd_upd]
      have hpd : (upd (upd H lf (.lst (ns.map V.int))) pd (.dK (mergeK [] [(.inr "sum", .int (gI ns y + gI ns z)), (.inr "minus", .int (gI ns y - gI ns z)), (.inr "product", .int (gI ns y * gI ns z)), (.inr "less", .int (if decide (gI ns y < gI ns z) = true then 1 else 0))]))) pd = some (.dK [(.inr "sum", .int (gI ns y + gI ns z)), (.inr "minus", .int (gI ns y - gI ns z)), (.inr "product", .int (gI ns y * gI ns z)), (.inr "less", .int (if decide (gI ns y < gI ns z) = true then 1 else 0))]) := upd_same
      have hlf : (upd (upd H lf (.lst (ns.map V.int))) pd (.dK (mergeK [] [(.inr "sum", .int (gI ns y + gI ns z)), (.inr "minus", .int (gI ns y - gI ns z)), (.inr "product", .int (gI ns y * gI ns z)), (.inr "less", .int (if decide (gI ns y < gI ns z) = true then 1 else 0))]))) lf = some (.lst (ns.map V.int)) := look_new upd_same npd
      have s2 : Same H (upd (upd H lf (.lst (ns.map V.int))) pd (.dK (mergeK [] [(.inr "sum", .int (gI ns y + gI ns z)), (.inr "minus", .int (gI ns y - gI ns z)), (.inr "product", .int (gI ns y * gI ns z)), (.inr "less", .int (if decide (gI ns y < gI ns z) = true then 1 else 0))]))) := (same_new nlf).trans (same_new npd)
      generalize (upd (upd H lf (.lst (ns.map V.int))) pd (.dK (mergeK [] [(.inr "sum", .int (gI ns y + gI ns z)), (.inr "minus", .int (gI ns y - gI ns z)), (.inr "product", .int (gI ns y * gI ns z)), (.inr "less", .int (if decide (gI ns y < gI ns z) = true then 1 else 0))]))) = H2 at hpd hlf s2 ⊢
      have hp2 := s2 _ _ hp
      have nlf0 := nlf
      clear npd nlf
      walk_at "rd"
      refine ⟨pd, .int (if decide (gI ns y < gI ns z) = true then 1 else 0), rfl, .inl ⟨_, .inr "less", .inl hpd, rfl, rfl⟩, ?_⟩
      walk_at "rd"
      rw [show (if decide (gI ns y < gI ns z) = true then (1 : Int) else 0) % 4294967296 = (if gI ns y < gI ns z then 1 else 0) from by by_cases hh : gI ns y < gI ns z <;> simp [hh]]
      exact q lf _ (fun b o e => by rw [upd_ne (ne_of_none e nlf0)]; exact s2 b o e) upd_same
    | give x => exact hf.elim
    | leave x => exact hf.elim
end
section
variable {P : Program} {w : World} {K : PySem.W.Frag} {mg : Str → Option Value} {base : Heap} {a : Adr}
theorem sh_gave {v : Int} : shaped (.tuple [.str "gave", .int v]) = true := by
  unfold shaped; simp [PyData.canLay0, PyData.canLayAll0, PyData.depth, PyData.depthAll]; decide +kernel
theorem sh_tired : shaped (.tuple [.str "tired"]) = true := by decide +kernel
set_option maxHeartbeats 4000000 in
theorem ok_law_alike (T : Txt w K mg a) : FnE P w K mg base CX0 1 "_law_alike" spAlike := by
  refine fnE_of (sp := spAlike) 0 T.fn_law_alike sc_law_alike (fun vs H Q E h => ?_) (fun f cdv A outer s H vs Q E hr h => ?_)
  · obtain ⟨t, u, an, rfl, _⟩ := h
    rfl
  · obtain ⟨t, u, an, rfl, ht, hu, q⟩ := h
    refine ⟨_, (pss_cons (ps_if (PW.pt (pw_or (pt_not (pt_truK (K := K) rfl (pe_callB (call_isiK (K := K) rfl) rfl T.z_isinstance b_isinstance (pa_cons (pv 0) (pa_cons (pe_bltn (v := .ty "tuple") rfl T.z_tuple b_tuple rfl) pa_nil))))) (pw_or1 (pt_cmpR (op_neK (K := K) rfl hr.units) (pv 0) (pv 1) (nomark _))))) (pss_one ps_dead) pss_nil)
      (pss_one (ps_ret (pe_or (pe_cmpR (op_eqK (K := K) rfl hr.units) (pe_callB (call_lenK (K := K) rfl) rfl T.z_len b_len (pa_cons (pv 1) pa_nil)) pe_int (nomark _)) (pe_one (pe_and (pe_callB (call_isiK (K := K) rfl) rfl T.z_isinstance b_isinstance (pa_cons (pe_ix (ix_K (K := K) rfl) (pv 0) pe_int (fun _ _ => rfl)) (pa_cons (pe_bltn (v := .ty "int") rfl T.z_int b_int rfl) pa_nil))) (pe_one (pe_not (pe_callB (call_isiK (K := K) rfl) rfl T.z_isinstance b_isinstance (pa_cons (pe_ix (ix_K (K := K) rfl) (pv 0) pe_int (fun _ _ => rfl)) (pa_cons (pe_bltn (v := .ty "bool") rfl T.z_bool b_bool rfl) pa_nil))))))))))), ?_⟩
    refine r_st (σ' := [some _, some _]) rfl ?_
    cases an with
    | gave v =>
      have ht : H t = some (.tup [.str "gave", .int v]) := ht
      have hu : H u = some (.tup [.str "gave", .int v]) := hu
      walk_at "rd"
      refine r_neT (.tuple [.str "gave", .int v]) (dp_tup (SqT.of ht) (dpAll_cons (dp_str _) (dpAll_cons (dp_int _) dpAll_nil))) (dp_tup (SqT.of hu) (dpAll_cons (dp_str _) (dpAll_cons (dp_int _) dpAll_nil))) sh_gave ?_
      walk_at "rd"
      exact q _ (Same.refl _)
    | tired =>
      have ht : H t = some (.tup [.str "tired"]) := ht
      have hu : H u = some (.tup [.str "tired"]) := hu
      walk_at "rd"
      refine r_neT (.tuple [.str "tired"]) (dp_tup (SqT.of ht) (dpAll_cons (dp_str _) dpAll_nil)) (dp_tup (SqT.of hu) (dpAll_cons (dp_str _) dpAll_nil)) sh_tired ?_
      walk_at "rd"
      exact q _ (Same.refl _)
end
section
variable {P : Program} {w : World} {K : PySem.W.Frag} {mg : Str → Option Value} {base : Heap} {a : Adr}
set_option maxHeartbeats 4000000 in
theorem ok_moves_of (T : Txt w K mg a) : FnE P w K mg base CX0 2 "moves_of" spMovesOf := by
  refine fnE_of (sp := spMovesOf) 1 T.fn_moves_of sc_moves_of (fun vs H Q E h => ?_) (fun f cdv A outer s H vs Q E hr h => ?_)
  · obtain ⟨l, ps, ss, rfl, _⟩ := h
    rfl
  · obtain ⟨l, ps, ss, rfl, hl, hs, hok, h80, q⟩ := h
    refine ⟨_, (pss_cons (ps_set (i := 1) sc_moves_of.nd rfl (Or.inl rfl) (pe_lst pa_nil))
      (pss_cons (ps_expr (pe_callE (ok_add_all (K := K) T) (hr.mono (by decide)) pass0 rfl (pa_cons (pv 1) (pa_cons (pv 0) (pa_cons pe_non pa_nil)))))
      (pss_cons (ps_expr (pe_bmK (K := K) rfl PySem.F.plainAttrs_list PySem.F.slot_list_append PySem.F.type_list_append mt_append (pv 1) (pa_cons (pe_tup (pa_cons (pe_tup (pa_cons pe_str (pa_cons (pe_glob (v := .int 7) rfl T.g_NOUGHT.choose_spec ⟨_, rfl⟩) pa_nil))) (pa_cons pe_non pa_nil))) pa_nil)))
      (pss_one (ps_ret (pv 1)))))), ?_⟩
    refine r_st (σ' := [some _, none]) rfl ?_
    walk_at "rd"
    rename_i m nm
    refine ⟨m, l, ps, ss, rfl, upd_same, look_new hl nm, (ne_of_none hl nm).symm, hs.same (same_new nm), hok, h80, fun qs H1 k1 hm1 hq1 => ?_⟩
    have s1 : Same H H1 := fun b o e => k1 b o (look_new e nm) (ne_of_none e nm)
    have hql := hq1.1
    clear k1
    walk_at "rd"
    rename_i t1 nt1 t2 nt2
    refine q m (qs ++ [t2]) _ (fun b o e => by rw [upd_ne (ne_of_none e nm)]; exact (s1.trans ((same_new nt1).trans (same_new nt2))) b o e) nm (by rw [upd_same, List.map_append]; rfl) ?_
    exact ((hq1.same ((same_new nt1).trans (same_new nt2))).snoc ⟨t1, upd_same, look_new upd_same nt2⟩).to (tup_upd (look_new (look_new hm1 nt1) nt2))
end
section
variable {P : Program} {w : World} {K : PySem.W.Frag} {mg : Str → Option Value} {base : Heap} {a : Adr}
set_option maxHeartbeats 4000000 in
theorem ok_is_up_to (T : Txt w K mg a) : FnE P w K mg base CX0 2 "is_up_to" spUpTo := by
  refine fnE_of (sp := spUpTo) 1 T.fn_is_up_to sc_is_up_to (fun vs H Q E h => ?_) (fun f cdv A outer s H vs Q E hr h => ?_)
  · obtain ⟨i, t, rfl, _⟩ := h
    rfl
  · obtain ⟨i, t, rfl, h0, h1, q⟩ := h
    refine ⟨_, (pss_one (ps_ret (pe_and (pe_callE (ok_is_whole (K := K) T) (hr.mono (by decide)) pass0 rfl (pa_cons (pv 0) pa_nil)) (pe_one (pe_cmpR op_le (pv 0) (pv 1) (nomark _)))))), ?_⟩
    refine r_st (σ' := [some _, some _]) rfl ?_
    walk_at "rd"
    refine ⟨_, rfl, h0, ?_⟩
    walk_at "rd"
    rw [decide_eq_true h1]
    exact q
end
section
variable {P : Program} {w : World} {K : PySem.W.Frag} {mg : Str → Option Value} {base : Heap} {a : Adr}
set_option maxHeartbeats 4000000 in
theorem me_Run_leave (T : Txt w K mg a)  : MethE P w K mg base CX0 2 a.C_Run "leave" (spLeave a) := by
  refine methE_of (sp := (spLeave a)) 1 T.cl_Run T.m_Run_leave sc_Run_leave (fun vs H Q E h => ?_) (fun f cdv A outer s H vs Q E hr h => ?_)
  · obtain ⟨r, dr, d, bo, dg, fs, st, v, rfl, _⟩ := h
    rfl
  · obtain ⟨r, dr, d, bo, dg, fs, st, v, rfl, hr', F, hdg, q⟩ := h
    have f2 := F.doings
    have fl := F.len
    have nrd : r ≠ dg := fun z => by rw [z, hdg] at hr'; cases hr'
    refine ⟨_, (pss_cons (ps_expr (pe_bm0K (K := K) rfl PySem.F.plainAttrs_list PySem.F.slot_list_pop PySem.F.type_list_pop mt_pop (pe_fldK (K := K) rfl (pv 0))))
      (pss_one (ps_if (pt_cmpR (op_eqK (K := K) rfl hr.units) (pe_callB (call_lenK (K := K) rfl) rfl T.z_len b_len (pa_cons (pe_fldK (K := K) rfl (pv 0)) pa_nil)) pe_int (nomark _)) (pss_one (ps_fldK (K := K) rfl (pv 0) (pe_tup (pa_cons pe_str (pa_cons (pv 1) pa_nil))))) (pss_cons (ps_set (i := 2) sc_Run_leave.nd rfl (Or.inl rfl) (pe_ix (ix_K (K := K) rfl) (pe_fldK (K := K) rfl (pv 0)) (pe_un un_neg pe_int) (fun _ _ => rfl)))
      (pss_one (ps_asg (pv 1) (pg_sub (pe_fldK (K := K) rfl (pv 2)) (pe_ix (ix_K (K := K) rfl) (pe_methK0 (P := P) (w := w) (K := K) (mg := mg) (base := base) (k := 1) ⟨rfl, rfl, rfl, rfl, rfl⟩ (pv 2) (hr.mono (by decide)) pass0) pe_int (fun _ _ => rfl)) set_list))))))), ?_⟩
    refine r_st (σ' := [some _, some _, none]) rfl ?_
    walk_at "rd"
    refine r_pop (xs := []) hdg ?_
    walk_at "rd"
    rename_i t nt
    have ntr : t ≠ r := (ne_of_none (show (upd H dg (.lst [])) r = some _ from by rw [upd_ne nrd]; exact hr') nt).symm
    exact q _ (fun b o e n1 n2 => by rw [upd_ne n1]; exact look_new (by rw [upd_ne n2]; exact e) nt) ⟨_, t, upd_same, look_hit, by rw [upd_ne ntr]; exact upd_same⟩
end
section
variable {P : Program} {w : World} {K : PySem.W.Frag} {mg : Str → Option Value} {base : Heap} {a : Adr}
set_option maxHeartbeats 4000000 in
theorem ok_is_name (T : Txt w K mg a) : FnE P w K mg base CX0 3 "is_name" spNm := by
  refine fnE_of (sp := spNm) 2 T.fn_is_name sc_is_name (fun vs H Q E h => ?_) (fun f cdv A outer s H vs Q E hr h => ?_)
  · obtain ⟨i, rfl, _⟩ := h
    rfl
  · obtain ⟨i, rfl, ⟨h0, h1⟩, q⟩ := h
    refine ⟨_, (pss_one (ps_ret (pe_callE (ok_is_up_to (K := K) T) (hr.mono (by decide)) pass0 rfl (pa_cons (pv 0) (pa_cons (pe_glob (v := .int 5) rfl T.g_TOP_NAME.choose_spec ⟨_, rfl⟩) pa_nil))))), ?_⟩
    refine r_st (σ' := [some _]) rfl ?_
    walk_at "rd"
    refine ⟨_, _, rfl, h0, h1, ?_⟩
    walk_at "rd"
    exact q
end
section
variable {P : Program} {w : World} {K : PySem.W.Frag} {mg : Str → Option Value} {base : Heap} {a : Adr}
set_option maxHeartbeats 4000000 in
theorem ok_is_function (T : Txt w K mg a) : FnE P w K mg base CX0 3 "is_function" spIsFn := by
  refine fnE_of (sp := spIsFn) 2 T.fn_is_function sc_is_function (fun vs H Q E h => ?_) (fun f cdv A outer s H vs Q E hr h => ?_)
  · obtain ⟨f', l, n, us, rfl, _⟩ := h
    rfl
  · obtain ⟨f', l, n, us, rfl, hf, h0, h3, hl, q⟩ := h
    refine ⟨_, (pss_cons (ps_if (PW.pt (pw_or (pt_not (pt_truK (K := K) rfl (pe_callB (call_isiK (K := K) rfl) rfl T.z_isinstance b_isinstance (pa_cons (pv 0) (pa_cons (pe_bltn (v := .ty "tuple") rfl T.z_tuple b_tuple rfl) pa_nil))))) (pw_or1 (pt_cmpR (op_neK (K := K) rfl hr.units) (pe_callB (call_lenK (K := K) rfl) rfl T.z_len b_len (pa_cons (pv 0) pa_nil)) pe_int (nomark _))))) (pss_one ps_dead) pss_nil)
      (pss_one (ps_ret (pe_and (pe_callE (ok_is_up_to (K := K) T) (hr.mono (by decide)) pass0 rfl (pa_cons (pe_ix (ix_K (K := K) rfl) (pv 0) pe_int (fun _ _ => rfl)) (pa_cons (pe_glob (v := .int 3) rfl T.g_TOP_HANDED.choose_spec ⟨_, rfl⟩) pa_nil))) (pe_one (pe_callB (call_isiK (K := K) rfl) rfl T.z_isinstance b_isinstance (pa_cons (pe_ix (ix_K (K := K) rfl) (pv 0) pe_int (fun _ _ => rfl)) (pa_cons (pe_bltn (v := .ty "list") rfl T.z_list b_list rfl) pa_nil)))))))), ?_⟩
    refine r_st (σ' := [some _]) rfl ?_
    walk_at "rd"
    refine ⟨_, _, rfl, h0, h3, ?_⟩
    walk_at "rd"
    exact q
end
section
variable {P : Program} {w : World} {K : PySem.W.Frag} {mg : Str → Option Value} {base : Heap} {a : Adr}
set_option maxHeartbeats 4000000 in
theorem mk_Run (T : Txt w K mg a) : MkE P w K mg base CX0 3 "Run" a.C_Run (spRunI a) := by
  refine mkE_of (sp := (spRunI a)) 2 T.c_Run T.i_Run sc_Run_init (fun vs H Q E h => ?_) (fun f cdv A outer s H vs Q E hr h => ?_)
  · obtain ⟨x, dx, pr, st, n, ss, rfl, _⟩ := h
    rfl
  · obtain ⟨x, dx, pr, st, n, ss, rfl, hx, ⟨f', l, ps, hpr, hf, hl, hs, hok, h80, n0, n3⟩, q⟩ := h
    have fr : ∀ {y : Addr} {H1 : Hp}, Same H H1 → H1 y = none → y ≠ x := fun s e z => by rw [z] at e; rw [s _ _ hx] at e; cases e
    refine ⟨_, (pss_cons (ps_fldK (K := K) rfl (pv 0) (pe_comp (own := ["function"]) (fr := []) rfl ⟨rfl, (by walk_at "clok"), (by walk_at "frok"), rfl, (by decide +kernel), (by decide +kernel), rfl⟩ (pi_seqK (K := K) rfl (pv 1)) (fun _ _ _ _ => (pg_name (i := 0) (show List.Nodup [("function" : Str)] from by decide +kernel) rfl (Or.inl rfl))) (fun _ _ _ _ => pts_nil) (fun _ _ _ _ => (pe_callE (ok_moves_of (K := K) T) (hr.mono (by decide)) pass0 rfl (pa_cons (pe_ix (ix_K (K := K) rfl) (pv 0) pe_int (fun _ _ => rfl)) pa_nil)))))
      (pss_cons (ps_fldK (K := K) rfl (pv 0) (pv 2))
      (pss_cons (ps_fldK (K := K) rfl (pv 0) (pe_lst pa_nil))
      (pss_one (ps_fldK (K := K) rfl (pv 0) pe_non))))), ?_⟩
    refine r_st (σ' := [some _, some _, some _]) rfl ?_
    walk_at "rd"
    refine comp_one (σ0 := [none]) (fun ys H1 => Same H H1 ∧ ∃ m qs, ys = [.ref m] ∧ H m = none ∧ H1 m = some (.lst (qs.map V.ref)) ∧ MvsAt H1 qs (ss ++ [.leave 7])) (SqL.of hpr) ?_ (fun ys H1 h => ⟨SqL.of (h.1 _ _ hpr), by obtain ⟨_, m, qs, e, _⟩ := h; rw [e]; exact Nat.le_of_ble_eq_true rfl⟩) ?_
    · walk_at "rd"
      refine ⟨l, ps, ss, rfl, hl, hs, hok, h80, fun m qs H1 s1 nm hm hq => ?_⟩
      exact ⟨s1, m, qs, rfl, nm, hm, hq⟩
    rintro ys H1 ⟨s1, m, qs, rfl, nm, hm, hq⟩ bo nbo
    have hx1 := s1 _ _ hx
    have nbx : bo ≠ x := fr s1 nbo
    have nmx : m ≠ x := fun z => by rw [z, hx] at nm; cases nm
    have nbm : bo ≠ m := (ne_of_none hm nbo).symm
    walk_at "rd"
    rename_i dg ndg
    have a1 := none_upd ndg
    have a2 := none_upd a1.1
    have a3 := none_upd a2.1
    refine q bo dg m qs _ _ (none_same s1 nbo) (none_same s1 a3.1) nm a3.2.symm (ne_of_none hm a3.1) nbm (fun b o e ne => ?_) upd_same ⟨by walk_at "lk", by walk_at "lk", by walk_at "lk", by walk_at "lk", ?_, ?_⟩ ?_ ?_ ?_ ?_
    · exact look_ne ne (look_ne ne (look_new (look_ne ne (look_ne ne (look_new (s1 _ _ e) nbo))) ndg))
    · exact Nat.le_of_lt_succ (by walk_at "fewf")
    · intro y hy
      simp only [List.mem_cons, List.not_mem_nil, or_false] at hy
      rcases hy with rfl | rfl | rfl | rfl <;> walk_at "nolk"
    · exact look_ne nbx (look_ne nbx (look_new (look_ne nbx (look_ne nbx upd_same)) ndg))
    · exact look_ne nmx (look_ne nmx (look_new (look_ne nmx (look_ne nmx (look_new hm nbo))) ndg))
    · refine hq.to fun b xs e => ?_
      have ne : b ≠ x := fun z => by rw [z, hx1] at e; cases e
      exact look_ne ne (look_ne ne (look_new (look_ne ne (look_ne ne (look_new e nbo))) ndg))
    · exact look_ne a2.2 (look_ne a2.2 upd_same)
end
section
variable {P : Program} {w : World} {K : PySem.W.Frag} {mg : Str → Option Value} {base : Heap} {a : Adr}
set_option maxHeartbeats 4000000 in
theorem me_Run_begin (T : Txt w K mg a)  : MethE P w K mg base CX0 3 a.C_Run "begin" (spBegin a) := by
  refine methE_of (sp := (spBegin a)) 2 T.cl_Run T.m_Run_begin sc_Run_begin (fun vs H Q E h => ?_) (fun f cdv A outer s H vs Q E hr h => ?_)
  · obtain ⟨r, dr, bo, dg, m, v, fs, st, ns, rfl, _⟩ := h
    rfl
  · obtain ⟨r, dr, bo, dg, m, v, fs, st, ns, rfl, hr', F, hbo, hdg, hv, h3, nvd, q⟩ := h
    have f1 := F.bodies
    have f2 := F.doings
    refine ⟨_, (pss_one (ps_expr (pe_bmK (K := K) rfl PySem.F.plainAttrs_list PySem.F.slot_list_append PySem.F.type_list_append mt_append (pe_fldK (K := K) rfl (pv 0)) (pa_cons (pe_makeE (mk_Doing (K := K) T) (hr.mono (by decide)) pass0 rfl (pa_cons (pe_ix (ix_K (K := K) rfl) (pe_fldK (K := K) rfl (pv 0)) (pv 1) (fun _ _ => rfl)) (pa_cons (pv 2) pa_nil))) pa_nil)))), ?_⟩
    refine r_st (σ' := [some _, some _, some _]) rfl ?_
    walk_at "rd"
    intro x dx nx ndx nne
    have s0 : Same H (upd (upd H dx (.own x)) x (.ins a.C_Doing dx [])) := fun b o e => by rw [upd_ne (ne_of_none e nx), upd_ne (ne_of_none e ndx)]; exact e
    refine ⟨x, dx, m, v, ns, rfl, upd_same, s0 _ _ hv, h3, fun l fs' H1 nl kp hx F' hl => ⟨rfl, ?_⟩⟩
    have nl' := none_same s0 nl
    have k0 : ∀ b o, H b = some o → H1 b = some o := fun b o e => kp b o (s0 b o e) (ne_of_none e nx)
    have hdg1 := k0 _ _ hdg
    clear kp s0 nl
    walk_at "rd"
    exact q x dx l fs' _ nx nl' (fun b o e ne => by rw [upd_ne ne]; exact k0 b o e) upd_same (by rw [upd_ne (ne_of_none hdg nx).symm]; exact hx) F' (by rw [upd_ne (ne_of_none hdg nl').symm]; exact hl)
end
section
variable {P : Program} {w : World} {K : PySem.W.Frag} {mg : Str → Option Value} {base : Heap} {a : Adr}
set_option maxHeartbeats 4000000 in
theorem me_Run_make (T : Txt w K mg a)  : MethE P w K mg base CX0 3 a.C_Run "make" (spMake a) := by
  refine methE_of (sp := (spMake a)) 2 T.cl_Run T.m_Run_make sc_Run_make (fun vs H Q E h => ?_) (fun f cdv A outer s H vs Q E hr h => ?_)
  · obtain ⟨r, dr, d, dd, bo, dg, m, ln, p, qs, ms, k, st, ns, s, rfl, _⟩ := h
    rfl
  · obtain ⟨r, dr, d, dd, bo, dg, m, ln, p, qs, ms, k, st, ns, s, rfl, R, hp, hok, q⟩ := h
    obtain ⟨fr, hr', Fr⟩ := R.hr
    obtain ⟨fd, hd, Fd⟩ := R.hd
    have g1 := Fd.names
    have hn := R.hn
    have n8 := R.n8
    have hv := R.hv
    refine ⟨_, (pss_cons (ps_set (i := 3) sc_Run_make.nd rfl (Or.inl rfl) (pe_ix (ix_K (K := K) rfl) (pv 2) pe_int (fun _ _ => rfl)))
      (pss_one (ps_if (pt_cmpR (op_eqK (K := K) rfl hr.units) (pv 3) pe_str (nomark _)) (pss_one (ps_if (pt_cmpR (op_eqK (K := K) rfl hr.units) (pe_ix (ix_K (K := K) rfl) (pe_fldK (K := K) rfl (pv 1)) (pe_ix (ix_K (K := K) rfl) (pv 2) pe_int (fun _ _ => rfl)) (fun _ _ => rfl)) pe_int (nomark _)) (pss_one (ps_fldK (K := K) rfl (pv 1) (pe_ix (ix_K (K := K) rfl) (pv 2) pe_int (fun _ _ => rfl)))) pss_nil)) (pss_one (ps_if (PW.pt (pw_or (pt_cmpR (op_eqK (K := K) rfl hr.units) (pv 3) pe_str (nomark _)) (pw_or1 (pt_cmpR (op_eqK (K := K) rfl hr.units) (pv 3) pe_str (nomark _))))) (pss_one (ps_fldK (K := K) rfl (pv 1) (pe_ix (ix_K (K := K) rfl) (pv 2) pe_int (fun _ _ => rfl)))) (pss_one (ps_if (pt_cmpR (op_eqK (K := K) rfl hr.units) (pv 3) pe_str (nomark _)) (pss_one ps_dead) (pss_one (ps_if (pt_cmpR (op_eqK (K := K) rfl hr.units) (pv 3) pe_str (nomark _)) (pss_cons (ps_expr (pe_bm0K (K := K) rfl PySem.F.plainAttrs_list PySem.F.slot_list_pop PySem.F.type_list_pop mt_pop (pe_fldK (K := K) rfl (pv 0))))
      (pss_one ps_dead)) (pss_one (ps_if (PW.pt (pw_or (pt_cmpR (op_eqK (K := K) rfl hr.units) (pv 3) pe_str (nomark _)) (pw_or1 (pt_cmpR (op_eqK (K := K) rfl hr.units) (pv 3) pe_str (nomark _))))) (pss_one (ps_expr (pe_methK (P := P) (w := w) (K := K) (mg := mg) (base := base) (k := 2) ⟨rfl, rfl, rfl, rfl, rfl⟩ (pv 0) (hr.mono (by decide)) pass0 (pa_cons (pe_ix (ix_K (K := K) rfl) (pe_fldK (K := K) rfl (pv 1)) (pe_ix (ix_K (K := K) rfl) (pv 2) pe_int (fun _ _ => rfl)) (fun _ _ => rfl)) pa_nil)))) (pss_one (ps_if (pt_cmpR (op_eqK (K := K) rfl hr.units) (pv 3) pe_str (nomark _)) (pss_one ps_dead) (pss_one (ps_asg (pe_callE (ok_reckoned (K := K) T) (hr.mono (by decide)) pass0 rfl (pa_cons (pv 2) (pa_cons (pe_fldK (K := K) rfl (pv 1)) pa_nil))) (pg_sub (pe_fldK (K := K) rfl (pv 1)) (pe_ix (ix_K (K := K) rfl) (pv 2) pe_int (fun _ _ => rfl)) set_list)))))))))))))))), ?_⟩
    refine r_st (σ' := [some _, some _, some _, none]) rfl ?_
    rcases q with ⟨hf, q⟩ | ⟨hf, q⟩
    · have ok : s.ok := by
        rcases hok with h | rfl
        · exact h
        · exact hf.elim
      cases s with
      | set x v =>
        have hp : H p = some (.tup [.str "set", .int x, .int v]) := hp
        obtain ⟨⟨o0, o1⟩, o2, o3⟩ := id ok
        walk_at "rd"
        refine ⟨p, ln, .set x v, ns, rfl, hp, True.intro, ok, hn, n8, hv, ?_⟩
        walk_at "rd"
        exact q _ (fun b o e _ _ _ n4 => by rw [upd_ne n4]; exact e) (R.put (Sm.isval hv ok))
      | copy x y =>
        have hp : H p = some (.tup [.str "copy", .int x, .int y]) := hp
        obtain ⟨⟨o0, o1⟩, o2, o3⟩ := id ok
        walk_at "rd"
        refine ⟨p, ln, .copy x y, ns, rfl, hp, True.intro, ok, hn, n8, hv, ?_⟩
        walk_at "rd"
        exact q _ (fun b o e _ _ _ n4 => by rw [upd_ne n4]; exact e) (R.put (Sm.isval hv ok))
      | sum x y z =>
        have hp : H p = some (.tup [.str "sum", .int x, .int y, .int z]) := hp
        obtain ⟨⟨o0, o1⟩, ⟨o2, o3⟩, o4, o5⟩ := id ok
        walk_at "rd"
        refine ⟨p, ln, .sum x y z, ns, rfl, hp, True.intro, ok, hn, n8, hv, ?_⟩
        walk_at "rd"
        exact q _ (fun b o e _ _ _ n4 => by rw [upd_ne n4]; exact e) (R.put (Sm.isval hv ok))
      | minus x y z =>
        have hp : H p = some (.tup [.str "minus", .int x, .int y, .int z]) := hp
        obtain ⟨⟨o0, o1⟩, ⟨o2, o3⟩, o4, o5⟩ := id ok
        walk_at "rd"
        refine ⟨p, ln, .minus x y z, ns, rfl, hp, True.intro, ok, hn, n8, hv, ?_⟩
        walk_at "rd"
        exact q _ (fun b o e _ _ _ n4 => by rw [upd_ne n4]; exact e) (R.put (Sm.isval hv ok))
      | product x y z =>
        have hp : H p = some (.tup [.str "product", .int x, .int y, .int z]) := hp
        obtain ⟨⟨o0, o1⟩, ⟨o2, o3⟩, o4, o5⟩ := id ok
        walk_at "rd"
        refine ⟨p, ln, .product x y z, ns, rfl, hp, True.intro, ok, hn, n8, hv, ?_⟩
        walk_at "rd"
        exact q _ (fun b o e _ _ _ n4 => by rw [upd_ne n4]; exact e) (R.put (Sm.isval hv ok))
      | less x y z =>
        have hp : H p = some (.tup [.str "less", .int x, .int y, .int z]) := hp
        obtain ⟨⟨o0, o1⟩, ⟨o2, o3⟩, o4, o5⟩ := id ok
        walk_at "rd"
        refine ⟨p, ln, .less x y z, ns, rfl, hp, True.intro, ok, hn, n8, hv, ?_⟩
        walk_at "rd"
        exact q _ (fun b o e _ _ _ n4 => by rw [upd_ne n4]; exact e) (R.put (Sm.isval hv ok))
      | give x => exact hf.elim
      | leave x => exact hf.elim
    · rcases hok with ok | rfl
      · cases s with
        | give x =>
          obtain ⟨o0, o1⟩ : isN x := ok
          have hp : H p = some (.tup [.str "give", .int x]) := hp
          walk_at "rd"
          refine r_methV hr' (Fr.no _ (by decide +kernel)) ((me_Run_leave T).mono (by decide)) ?_
          walk_at "rd"
          refine ⟨r, dr, d, bo, dg, fr, st, _, rfl, hr', Fr, R.hg, fun H1 k1 D1 => ?_⟩
          walk_at "rd"
          exact q H1 (fun b o e n1 _ n3 _ => k1 b o e n1 n3) D1
        | leave x => exact ok.elim
        | _ => exact absurd True.intro hf
      · skip
        have hp : H p = some (.tup [.str "leave", .int 7]) := hp
        walk_at "rd"
        refine r_methV hr' (Fr.no _ (by decide +kernel)) ((me_Run_leave T).mono (by decide)) ?_
        walk_at "rd"
        refine ⟨r, dr, d, bo, dg, fr, st, _, rfl, hr', Fr, R.hg, fun H1 k1 D1 => ?_⟩
        walk_at "rd"
        exact q H1 (fun b o e n1 _ n3 _ => k1 b o e n1 n3) D1
end
section
variable {P : Program} {w : World} {K : PySem.W.Frag} {mg : Str → Option Value} {base : Heap} {a : Adr}
set_option maxHeartbeats 4000000 in
theorem ok_is_part (T : Txt w K mg a) : FnE P w K mg base CX0 4 "is_part" spPart := by
  refine fnE_of (sp := spPart) 3 T.fn_is_part sc_is_part (fun vs H Q E h => ?_) (fun f cdv A outer s H vs Q E hr h => ?_)
  · obtain ⟨i, n, k, rfl, _⟩ := h
    rfl
  · obtain ⟨i, n, k, rfl, h, q⟩ := h
    refine ⟨_, (pss_cons (ps_if (pt_cmpR (op_eqK (K := K) rfl hr.units) (pv 1) pe_str (nomark _)) (pss_one (ps_ret (pe_callE (ok_is_name (K := K) T) (hr.mono (by decide)) pass0 rfl (pa_cons (pv 0) pa_nil)))) pss_nil)
      (pss_cons (ps_if (pt_cmpR (op_eqK (K := K) rfl hr.units) (pv 1) pe_str (nomark _)) (pss_one (ps_ret (pe_callE (ok_is_up_to (K := K) T) (hr.mono (by decide)) pass0 rfl (pa_cons (pv 0) (pa_cons (pe_glob (v := .int 4294967295) rfl T.g_TOP_VALUE.choose_spec ⟨_, rfl⟩) pa_nil))))) pss_nil)
      (pss_cons (ps_if (pt_cmpR (op_eqK (K := K) rfl hr.units) (pv 1) pe_str (nomark _)) (pss_one ps_dead) pss_nil)
      (pss_cons (ps_if (pt_cmpR (op_eqK (K := K) rfl hr.units) (pv 1) pe_str (nomark _)) (pss_one ps_dead) pss_nil)
      (pss_one ps_dead))))), ?_⟩
    refine r_st (σ' := [some _, some _, some _]) rfl ?_
    rcases h with ⟨rfl, hn⟩ | ⟨rfl, hv⟩
    · walk_at "rd"
      refine ⟨_, rfl, hn, ?_⟩
      walk_at "rd"
      exact q
    · walk_at "rd"
      refine ⟨_, _, rfl, hv.1, hv.2, ?_⟩
      walk_at "rd"
      exact q
end
section
variable {P : Program} {w : World} {K : PySem.W.Frag} {mg : Str → Option Value} {base : Heap} {a : Adr}
set_option maxHeartbeats 4000000 in
theorem me_Run_step (T : Txt w K mg a)  : MethE P w K mg base CX0 4 a.C_Run "step" (spStepR a) := by
  refine methE_of (sp := (spStepR a)) 3 T.cl_Run T.m_Run_step sc_Run_step (fun vs H Q E h => ?_) (fun f cdv A outer s H vs Q E hr h => ?_)
  · obtain ⟨r, dr, d, dd, bo, dg, m, ln, qs, ms, k, st, ns, s, rfl, _⟩ := h
    rfl
  · obtain ⟨r, dr, d, dd, bo, dg, m, ln, qs, ms, k, st, ns, s, rfl, R, hk, hok, q⟩ := h
    obtain ⟨fr, hr', Fr⟩ := R.hr
    obtain ⟨fd, hd, Fd⟩ := R.hd
    have f1 := Fr.doings
    have hg := R.hg
    have g1 := Fd.mark
    have g2 := Fd.len
    have hkl : k < ms.length := (List.getElem?_eq_some_iff.mp hk).1
    have hkq : k < qs.length := by rw [R.mv.1]; exact hkl
    have hq : qs[k]? = some qs[k] := List.getElem?_eq_getElem hkq
    generalize qs[k] = q' at hq
    obtain ⟨p, hq', hp⟩ := R.mv.2 k q' s hq hk
    refine ⟨_, (pss_cons (ps_set (i := 1) sc_Run_step.nd rfl (Or.inl rfl) (pe_ix (ix_K (K := K) rfl) (pe_fldK (K := K) rfl (pv 0)) (pe_un un_neg pe_int) (fun _ _ => rfl)))
      (pss_cons (ps_fldK (K := K) rfl (pv 1) (pe_op (op_plusK (K := K) rfl) (pe_fldK (K := K) rfl (pv 1)) pe_int))
      (pss_cons (ps_set (i := 2) sc_Run_step.nd rfl (Or.inl rfl) (pe_methK0 (P := P) (w := w) (K := K) (mg := mg) (base := base) (k := 1) ⟨rfl, rfl, rfl, rfl, rfl⟩ (pv 1) (hr.mono (by decide)) pass0))
      (pss_cons (ps_if (pt_cmpR (op_notInK (K := K) rfl) (pe_ix (ix_K (K := K) rfl) (pv 2) pe_int (fun _ _ => rfl)) (pe_glob (v := .ref a.G_UNCOUNTED) rfl T.s_UNCOUNTED rfl) rfl) (pss_cons (ps_if (pt_cmpR op_le (pe_fldK (K := K) rfl (pv 0)) pe_int (nomark _)) (pss_cons (ps_fldK (K := K) rfl (pv 0) (pe_tup (pa_cons pe_str pa_nil)))
      (pss_one ps_retN)) pss_nil)
      (pss_one (ps_fldK (K := K) rfl (pv 0) (pe_op op_sub (pe_fldK (K := K) rfl (pv 0)) pe_int)))) pss_nil)
      (pss_one (ps_expr (pe_methK (P := P) (w := w) (K := K) (mg := mg) (base := base) (k := 3) ⟨rfl, rfl, rfl, rfl, rfl⟩ (pv 0) (hr.mono (by decide)) pass0 (pa_cons (pv 1) (pa_cons (pv 2) pa_nil))))))))), ?_⟩
    refine r_st (σ' := [some _, none, none]) rfl ?_
    walk_at "rd"
    have F1 := Fd.setMark ((k : Int) + 1)
    have R1 := R.mark F1
    have nq : q' ≠ d := fun z => by rw [z, hd] at hq'; cases hq'
    have np : p ≠ d := fun z => by rw [z, hd] at hp; cases hp
    refine r_methV upd_same (look_no (by decide +kernel) Fd.no) ((me_Doing_last_move T).mono (by decide)) ?_
    walk_at "rd"
    refine ⟨d, dd, m, ln, q', p, _, k, qs, rfl, upd_same, F1, R1.hm, hq, look_ne nq hq', ?_⟩
    have hp1 : (upd H d (.ins a.C_Doing dd (putF "mark" (.int ((k : Int) + 1)) fd))) p = some (.tup s.vs) := look_ne np hp
    have k1 : Kept4 r d dg ln H (upd H d (.ins a.C_Doing dd (putF "mark" (.int ((k : Int) + 1)) fd))) := fun b o e _ n2 _ _ => by rw [upd_ne n2]; exact e
    generalize (upd H d (.ins a.C_Doing dd (putF "mark" (.int ((k : Int) + 1)) fd))) = H1 at R1 hp1 k1 ⊢
    clear R hr' Fr hd Fd hg f1 g1 g2 hp hq' F1
    obtain ⟨fr, hr', Fr⟩ := R1.hr
    have f2 := Fr.steps
    have f3 := Fr.len
    have hat0 := s.at0
    have npr : p ≠ r := fun z => by rw [z, hr'] at hp1; cases hp1
    walk_at "rd"
    refine ⟨_, _, rfl, .inr (T.t_UNCOUNTED _), rfl, rfl, ?_⟩
    rw [if_pos rfl, Sm.inU, Bool.not_not]
    have cc := s.cnt_iff
    cases hc : s.cnt with
    | true =>
      have hcn : s.counted := cc.mpr hc
      walk_at "rd"
      refine ifDec (fun hh => ?_) (fun hh => ?_)
      · walk_at "rd"
        rename_i t nt
        rcases q with ⟨_, _, q⟩ | ⟨_, h0, _⟩ | ⟨_, h0, _⟩
        · exact q _ (fun b o e n1 n2 n3 n4 => by rw [upd_ne n1]; exact look_new (k1 b o e n1 n2 n3 n4) nt) ⟨_, t, upd_same, look_hit, by rw [upd_ne (ne_of_none hr' nt).symm]; exact upd_same⟩
        · omega
        · exact absurd (h0 hcn) (by omega)
      · walk_at "rd"
        have F2 := Fr.setSteps (st - 1)
        have R2 := R1.left F2
        refine r_methV upd_same (F2.no _ (by decide +kernel)) ((me_Run_make T).mono (by decide)) ?_
        walk_at "rd"
        refine ⟨r, dr, d, dd, bo, dg, m, ln, p, qs, ms, k + 1, st - 1, ns, s, rfl, R2, look_ne npr hp1, hok, ?_⟩
        have k2 : Kept4 r d dg ln H (upd H1 r (.ins a.C_Run dr (putF "steps_left" (.int (st - 1)) fr))) := fun b o e n1 n2 n3 n4 => by rw [upd_ne n1]; exact k1 b o e n1 n2 n3 n4
        rcases q with ⟨_, h0, _⟩ | ⟨hf, _, q⟩ | ⟨hf, _, q⟩
        · omega
        · refine .inl ⟨hf, fun H3 k3 R3 => ?_⟩
          walk_at "rd"
          exact q H3 (fun b o e n1 n2 n3 n4 => k3 b o (k2 b o e n1 n2 n3 n4) n1 n2 n3 n4) R3
        · refine .inr ⟨hf, fun H3 k3 R3 => ?_⟩
          walk_at "rd"
          exact q H3 (fun b o e n1 n2 n3 n4 => k3 b o (k2 b o e n1 n2 n3 n4) n1 n2 n3 n4) R3
    | false =>
      have hcn : ¬ s.counted := fun z => by rw [cc.mp z] at hc; cases hc
      walk_at "rd"
      refine r_methV hr' (Fr.no _ (by decide +kernel)) ((me_Run_make T).mono (by decide)) ?_
      walk_at "rd"
      refine ⟨r, dr, d, dd, bo, dg, m, ln, p, qs, ms, k + 1, st, ns, s, rfl, R1, hp1, hok, ?_⟩
      rcases q with ⟨h0, _⟩ | ⟨hf, _⟩ | ⟨hf, _, q⟩
      · exact absurd h0 hcn
      · exact absurd (show s.counted by cases s <;> first | exact hf.elim | exact True.intro) hcn
      · refine .inr ⟨hf, fun H3 k3 R3 => ?_⟩
        walk_at "rd"
        exact q H3 (fun b o e n1 n2 n3 n4 => k3 b o (k1 b o e n1 n2 n3 n4) n1 n2 n3 n4) R3
end
section
variable {P : Program} {w : World} {K : PySem.W.Frag} {mg : Str → Option Value} {base : Heap} {a : Adr}
set_option maxHeartbeats 4000000 in
theorem ok_is_statement (T : Txt w K mg a) : FnE P w K mg base CX0 5 "is_statement" spStm := by
  refine fnE_of (sp := spStm) 4 T.fn_is_statement sc_is_statement (fun vs H Q E h => ?_) (fun f cdv A outer s H vs Q E hr h => ?_)
  · obtain ⟨p, h, s, n, rfl, _⟩ := h
    rfl
  · obtain ⟨p, h, s, n, rfl, hp, ok, hh, q⟩ := h
    obtain ⟨q0, q1, q2, q3, q4, q5, q6, q7, q8, q9, q10, q11, q12, C, t0, t1, t2, t3, t4, t5, t6, t7, t8, t9, t10, t11, t12⟩ := T.d_PARTS
    refine ⟨_, (pss_cons (ps_if (PW.pt (pw_or (pt_not (pt_truK (K := K) rfl (pe_callB (call_isiK (K := K) rfl) rfl T.z_isinstance b_isinstance (pa_cons (pv 0) (pa_cons (pe_bltn (v := .ty "tuple") rfl T.z_tuple b_tuple rfl) pa_nil))))) (pw_or (pt_cmpR (op_eqK (K := K) rfl hr.units) (pe_callB (call_lenK (K := K) rfl) rfl T.z_len b_len (pa_cons (pv 0) pa_nil)) pe_int (nomark _)) (pw_or1 (pt_not (pt_truK (K := K) rfl (pe_callB (call_isiK (K := K) rfl) rfl T.z_isinstance b_isinstance (pa_cons (pe_ix (ix_K (K := K) rfl) (pv 0) pe_int (fun _ _ => rfl)) (pa_cons (pe_bltn (v := .ty "str") rfl T.z_str b_str rfl) pa_nil))))))))) (pss_one ps_dead) pss_nil)
      (pss_cons (ps_set (i := 2) sc_is_statement.nd rfl (Or.inl rfl) (pe_rget1 (w := w) (K := K) rfl rfl (pe_glob (v := .ref a.G_PARTS) rfl T.s_PARTS rfl) (pe_ix (ix_K (K := K) rfl) (pv 0) pe_int (fun _ _ => rfl)) ⟨rfl, rfl, rfl, rfl⟩))
      (pss_cons (ps_if (PW.pt (pw_or (pt_cmpR op_isNA (pv 2) pe_non (nomark _)) (pw_or1 (pt_cmpR (op_neK (K := K) rfl hr.units) (pe_callB (call_lenK (K := K) rfl) rfl T.z_len b_len (pa_cons (pv 0) pa_nil)) (pe_op (op_plusK (K := K) rfl) pe_int (pe_callB (call_lenK (K := K) rfl) rfl T.z_len b_len (pa_cons (pv 2) pa_nil))) (nomark _))))) (pss_one ps_dead) pss_nil)
      (pss_cons (ps_if (pt_not (pt_truK (K := K) rfl (pe_callB (call_allK (K := K) rfl rfl) rfl T.z_all b_all (pa_cons (pe_comp (own := ["part", "kind"]) (fr := [("handed", 1)]) rfl ⟨rfl, (by walk_at "clok"), (by walk_at "frok"), rfl, (by decide +kernel), (by decide +kernel), rfl⟩ (pi_zip2 (K := K) rfl rfl T.z_zip (pa_cons (pe_slice (sl_K (K := K) rfl) (pv 0) (po_some pe_int) po_none) (pa_cons (pv 2) pa_nil))) (fun _ _ _ _ => (pg_tupK (K := K) (n := 2) rfl rfl (pgs_cons (pg_name (i := 0) (show List.Nodup [("part" : Str), ("kind" : Str), ("handed" : Str)] from by decide +kernel) rfl (Or.inl rfl)) (pgs_cons (pg_name (i := 1) (show List.Nodup [("part" : Str), ("kind" : Str), ("handed" : Str)] from by decide +kernel) rfl (Or.inl rfl)) pgs_nil)))) (fun _ _ _ _ => pts_nil) (fun _ _ _ _ => (pe_callE (ok_is_part (K := K) T) (hr.mono (by decide)) pass0 rfl (pa_cons (pv 0) (pa_cons (pv 1) (pa_cons (pe_callB (call_lenK (K := K) rfl) rfl T.z_len b_len (pa_cons (pv 2) pa_nil)) pa_nil)))))) pa_nil)))) (pss_one ps_dead) pss_nil)
      (pss_cons (ps_if (PW.pt (pw_or (pt_cmpR (op_eqK (K := K) rfl hr.units) (pe_ix (ix_K (K := K) rfl) (pv 0) pe_int (fun _ _ => rfl)) pe_str (nomark _)) (pw_or1 (pt_cmpR (op_eqK (K := K) rfl hr.units) (pe_ix (ix_K (K := K) rfl) (pv 0) pe_int (fun _ _ => rfl)) pe_str (nomark _))))) (pss_one ps_dead) pss_nil)
      (pss_one (ps_ret pe_bl))))))), ?_⟩
    refine r_st (σ' := [some _, some _, none]) rfl ?_
    cases s with
    | set x v =>
      have hp : H p = some (.tup [.str "set", .int x, .int v]) := hp
      walk_at "rd"
      refine ⟨_, _, rfl, C, ?_⟩
      walk_at "rd"
      refine ⟨_, .ref q0, rfl, rfl, ?_⟩
      walk_at "rd"
      refine r_lenT (t0 _) ?_
      walk_at "rd"
      refine r_slT (SqT.of hp) (fun z => Nat.noConfusion (show (1 : Nat) = 0 from z.1)) fun ls nls => ?_
      rw [show cutV [.str "set", .int x, .int v] (some 1) none = [V.int x, V.int v] from rfl]
      walk_at "rd"
      refine ⟨ls, q0, _, _, rfl, SqT.of upd_same, t0 _, ?_⟩
      refine comp_mapZ (α := Int × Str) (xs := [(x, ("name" : Str)), (v, ("value" : Str))]) (e1 := fun p => .int p.1) (e2 := fun p => .str p.2) (fun _ => .bl true) (fun σ => ∃ u v, σ = [u, v, some (.ref h)]) (SqT.of upd_same) (t0 _) (by walk_at "small") ⟨_, _, rfl⟩ ?_ ?_
      · rintro i ⟨zz, k⟩ ys σ H1 T hx cc s1 ⟨u, v', rfl⟩ nT
        have hok : (k = "name" ∧ isN zz) ∨ (k = "value" ∧ isVal zz) := by
          have hm := List.mem_of_getElem? hx
          simp only [List.mem_cons, List.not_mem_nil, or_false, Prod.mk.injEq] at hm
          rcases hm with ⟨rfl, rfl⟩ | ⟨rfl, rfl⟩
          · exact .inl ⟨rfl, ok.1⟩
          · exact .inr ⟨rfl, ok.2⟩
        refine r_gTup (SqT.of upd_same) rfl ?_
        have hh1 := s1 _ _ (look_new (o := .tup [V.int x, V.int v]) hh nls)
        walk_at "rd"
        refine ⟨zz, _, k, rfl, hok, ?_⟩
        walk_at "rd"
        exact cc.next hx rfl (by walk_at "same") ⟨_, _, rfl⟩
      intro H1 s1 l2 nl2
      have hp1 := look_new (o := .lst ([(x, ("name" : Str)), (v, ("value" : Str))].map fun _ => V.bl true)) (s1 _ _ (look_new (o := .tup [V.int x, V.int v]) hp nls)) nl2
      have s2 : Same H (upd H1 l2 (.lst ([(x, ("name" : Str)), (v, ("value" : Str))].map fun _ => V.bl true))) := (same_new nls).trans (s1.trans (same_new nl2))
      walk_at "rd"
      refine r_all (bs := [(x, ("name" : Str)), (v, ("value" : Str))].map fun _ => true) (SqL.of upd_same) ?_
      rw [show ([(x, ("name" : Str)), (v, ("value" : Str))].map fun _ => true).all id = true from rfl]
      clear nls nl2 s1
      walk_at "rd"
      exact q _ s2
    | copy x y =>
      have hp : H p = some (.tup [.str "copy", .int x, .int y]) := hp
      walk_at "rd"
      refine ⟨_, _, rfl, C, ?_⟩
      walk_at "rd"
      refine ⟨_, .ref q1, rfl, rfl, ?_⟩
      walk_at "rd"
      refine r_lenT (t1 _) ?_
      walk_at "rd"
      refine r_slT (SqT.of hp) (fun z => Nat.noConfusion (show (1 : Nat) = 0 from z.1)) fun ls nls => ?_
      rw [show cutV [.str "copy", .int x, .int y] (some 1) none = [V.int x, V.int y] from rfl]
      walk_at "rd"
      refine ⟨ls, q1, _, _, rfl, SqT.of upd_same, t1 _, ?_⟩
      refine comp_mapZ (α := Int × Str) (xs := [(x, ("name" : Str)), (y, ("name" : Str))]) (e1 := fun p => .int p.1) (e2 := fun p => .str p.2) (fun _ => .bl true) (fun σ => ∃ u v, σ = [u, v, some (.ref h)]) (SqT.of upd_same) (t1 _) (by walk_at "small") ⟨_, _, rfl⟩ ?_ ?_
      · rintro i ⟨zz, k⟩ ys σ H1 T hx cc s1 ⟨u, v', rfl⟩ nT
        have hok : (k = "name" ∧ isN zz) ∨ (k = "value" ∧ isVal zz) := by
          have hm := List.mem_of_getElem? hx
          simp only [List.mem_cons, List.not_mem_nil, or_false, Prod.mk.injEq] at hm
          rcases hm with ⟨rfl, rfl⟩ | ⟨rfl, rfl⟩
          · exact .inl ⟨rfl, ok.1⟩
          · exact .inl ⟨rfl, ok.2⟩
        refine r_gTup (SqT.of upd_same) rfl ?_
        have hh1 := s1 _ _ (look_new (o := .tup [V.int x, V.int y]) hh nls)
        walk_at "rd"
        refine ⟨zz, _, k, rfl, hok, ?_⟩
        walk_at "rd"
        exact cc.next hx rfl (by walk_at "same") ⟨_, _, rfl⟩
      intro H1 s1 l2 nl2
      have hp1 := look_new (o := .lst ([(x, ("name" : Str)), (y, ("name" : Str))].map fun _ => V.bl true)) (s1 _ _ (look_new (o := .tup [V.int x, V.int y]) hp nls)) nl2
      have s2 : Same H (upd H1 l2 (.lst ([(x, ("name" : Str)), (y, ("name" : Str))].map fun _ => V.bl true))) := (same_new nls).trans (s1.trans (same_new nl2))
      walk_at "rd"
      refine r_all (bs := [(x, ("name" : Str)), (y, ("name" : Str))].map fun _ => true) (SqL.of upd_same) ?_
      rw [show ([(x, ("name" : Str)), (y, ("name" : Str))].map fun _ => true).all id = true from rfl]
      clear nls nl2 s1
      walk_at "rd"
      exact q _ s2
    | sum x y z =>
      have hp : H p = some (.tup [.str "sum", .int x, .int y, .int z]) := hp
      walk_at "rd"
      refine ⟨_, _, rfl, C, ?_⟩
      walk_at "rd"
      refine ⟨_, .ref q2, rfl, rfl, ?_⟩
      walk_at "rd"
      refine r_lenT (t2 _) ?_
      walk_at "rd"
      refine r_slT (SqT.of hp) (fun z => Nat.noConfusion (show (1 : Nat) = 0 from z.1)) fun ls nls => ?_
      rw [show cutV [.str "sum", .int x, .int y, .int z] (some 1) none = [V.int x, V.int y, V.int z] from rfl]
      walk_at "rd"
      refine ⟨ls, q2, _, _, rfl, SqT.of upd_same, t2 _, ?_⟩
      refine comp_mapZ (α := Int × Str) (xs := [(x, ("name" : Str)), (y, ("name" : Str)), (z, ("name" : Str))]) (e1 := fun p => .int p.1) (e2 := fun p => .str p.2) (fun _ => .bl true) (fun σ => ∃ u v, σ = [u, v, some (.ref h)]) (SqT.of upd_same) (t2 _) (by walk_at "small") ⟨_, _, rfl⟩ ?_ ?_
      · rintro i ⟨zz, k⟩ ys σ H1 T hx cc s1 ⟨u, v', rfl⟩ nT
        have hok : (k = "name" ∧ isN zz) ∨ (k = "value" ∧ isVal zz) := by
          have hm := List.mem_of_getElem? hx
          simp only [List.mem_cons, List.not_mem_nil, or_false, Prod.mk.injEq] at hm
          rcases hm with ⟨rfl, rfl⟩ | ⟨rfl, rfl⟩ | ⟨rfl, rfl⟩
          · exact .inl ⟨rfl, ok.1⟩
          · exact .inl ⟨rfl, ok.2.1⟩
          · exact .inl ⟨rfl, ok.2.2⟩
        refine r_gTup (SqT.of upd_same) rfl ?_
        have hh1 := s1 _ _ (look_new (o := .tup [V.int x, V.int y, V.int z]) hh nls)
        walk_at "rd"
        refine ⟨zz, _, k, rfl, hok, ?_⟩
        walk_at "rd"
        exact cc.next hx rfl (by walk_at "same") ⟨_, _, rfl⟩
      intro H1 s1 l2 nl2
      have hp1 := look_new (o := .lst ([(x, ("name" : Str)), (y, ("name" : Str)), (z, ("name" : Str))].map fun _ => V.bl true)) (s1 _ _ (look_new (o := .tup [V.int x, V.int y, V.int z]) hp nls)) nl2
      have s2 : Same H (upd H1 l2 (.lst ([(x, ("name" : Str)), (y, ("name" : Str)), (z, ("name" : Str))].map fun _ => V.bl true))) := (same_new nls).trans (s1.trans (same_new nl2))
      walk_at "rd"
      refine r_all (bs := [(x, ("name" : Str)), (y, ("name" : Str)), (z, ("name" : Str))].map fun _ => true) (SqL.of upd_same) ?_
      rw [show ([(x, ("name" : Str)), (y, ("name" : Str)), (z, ("name" : Str))].map fun _ => true).all id = true from rfl]
      clear nls nl2 s1
      walk_at "rd"
      exact q _ s2
    | minus x y z =>
      have hp : H p = some (.tup [.str "minus", .int x, .int y, .int z]) := hp
      walk_at "rd"
      refine ⟨_, _, rfl, C, ?_⟩
      walk_at "rd"
      refine ⟨_, .ref q3, rfl, rfl, ?_⟩
      walk_at "rd"
      refine r_lenT (t3 _) ?_
      walk_at "rd"
      refine r_slT (SqT.of hp) (fun z => Nat.noConfusion (show (1 : Nat) = 0 from z.1)) fun ls nls => ?_
      rw [show cutV [.str "minus", .int x, .int y, .int z] (some 1) none = [V.int x, V.int y, V.int z] from rfl]
      walk_at "rd"
      refine ⟨ls, q3, _, _, rfl, SqT.of upd_same, t3 _, ?_⟩
      refine comp_mapZ (α := Int × Str) (xs := [(x, ("name" : Str)), (y, ("name" : Str)), (z, ("name" : Str))]) (e1 := fun p => .int p.1) (e2 := fun p => .str p.2) (fun _ => .bl true) (fun σ => ∃ u v, σ = [u, v, some (.ref h)]) (SqT.of upd_same) (t3 _) (by walk_at "small") ⟨_, _, rfl⟩ ?_ ?_
      · rintro i ⟨zz, k⟩ ys σ H1 T hx cc s1 ⟨u, v', rfl⟩ nT
        have hok : (k = "name" ∧ isN zz) ∨ (k = "value" ∧ isVal zz) := by
          have hm := List.mem_of_getElem? hx
          simp only [List.mem_cons, List.not_mem_nil, or_false, Prod.mk.injEq] at hm
          rcases hm with ⟨rfl, rfl⟩ | ⟨rfl, rfl⟩ | ⟨rfl, rfl⟩
          · exact .inl ⟨rfl, ok.1⟩
          · exact .inl ⟨rfl, ok.2.1⟩
          · exact .inl ⟨rfl, ok.2.2⟩
        refine r_gTup (SqT.of upd_same) rfl ?_
        have hh1 := s1 _ _ (look_new (o := .tup [V.int x, V.int y, V.int z]) hh nls)
        walk_at "rd"
        refine ⟨zz, _, k, rfl, hok, ?_⟩
        walk_at "rd"
        exact cc.next hx rfl (by walk_at "same") ⟨_, _, rfl⟩
      intro H1 s1 l2 nl2
      have hp1 := look_new (o := .lst ([(x, ("name" : Str)), (y, ("name" : Str)), (z, ("name" : Str))].map fun _ => V.bl true)) (s1 _ _ (look_new (o := .tup [V.int x, V.int y, V.int z]) hp nls)) nl2
      have s2 : Same H (upd H1 l2 (.lst ([(x, ("name" : Str)), (y, ("name" : Str)), (z, ("name" : Str))].map fun _ => V.bl true))) := (same_new nls).trans (s1.trans (same_new nl2))
      walk_at "rd"
      refine r_all (bs := [(x, ("name" : Str)), (y, ("name" : Str)), (z, ("name" : Str))].map fun _ => true) (SqL.of upd_same) ?_
      rw [show ([(x, ("name" : Str)), (y, ("name" : Str)), (z, ("name" : Str))].map fun _ => true).all id = true from rfl]
      clear nls nl2 s1
      walk_at "rd"
      exact q _ s2
    | product x y z =>
      have hp : H p = some (.tup [.str "product", .int x, .int y, .int z]) := hp
      walk_at "rd"
      refine ⟨_, _, rfl, C, ?_⟩
      walk_at "rd"
      refine ⟨_, .ref q4, rfl, rfl, ?_⟩
      walk_at "rd"
      refine r_lenT (t4 _) ?_
      walk_at "rd"
      refine r_slT (SqT.of hp) (fun z => Nat.noConfusion (show (1 : Nat) = 0 from z.1)) fun ls nls => ?_
      rw [show cutV [.str "product", .int x, .int y, .int z] (some 1) none = [V.int x, V.int y, V.int z] from rfl]
      walk_at "rd"
      refine ⟨ls, q4, _, _, rfl, SqT.of upd_same, t4 _, ?_⟩
      refine comp_mapZ (α := Int × Str) (xs := [(x, ("name" : Str)), (y, ("name" : Str)), (z, ("name" : Str))]) (e1 := fun p => .int p.1) (e2 := fun p => .str p.2) (fun _ => .bl true) (fun σ => ∃ u v, σ = [u, v, some (.ref h)]) (SqT.of upd_same) (t4 _) (by walk_at "small") ⟨_, _, rfl⟩ ?_ ?_
      · rintro i ⟨zz, k⟩ ys σ H1 T hx cc s1 ⟨u, v', rfl⟩ nT
        have hok : (k = "name" ∧ isN zz) ∨ (k = "value" ∧ isVal zz) := by
          have hm := List.mem_of_getElem? hx
          simp only [List.mem_cons, List.not_mem_nil, or_false, Prod.mk.injEq] at hm
          rcases hm with ⟨rfl, rfl⟩ | ⟨rfl, rfl⟩ | ⟨rfl, rfl⟩
          · exact .inl ⟨rfl, ok.1⟩
          · exact .inl ⟨rfl, ok.2.1⟩
          · exact .inl ⟨rfl, ok.2.2⟩
        refine r_gTup (SqT.of upd_same) rfl ?_
        have hh1 := s1 _ _ (look_new (o := .tup [V.int x, V.int y, V.int z]) hh nls)
        walk_at "rd"
        refine ⟨zz, _, k, rfl, hok, ?_⟩
        walk_at "rd"
        exact cc.next hx rfl (by walk_at "same") ⟨_, _, rfl⟩
      intro H1 s1 l2 nl2
      have hp1 := look_new (o := .lst ([(x, ("name" : Str)), (y, ("name" : Str)), (z, ("name" : Str))].map fun _ => V.bl true)) (s1 _ _ (look_new (o := .tup [V.int x, V.int y, V.int z]) hp nls)) nl2
      have s2 : Same H (upd H1 l2 (.lst ([(x, ("name" : Str)), (y, ("name" : Str)), (z, ("name" : Str))].map fun _ => V.bl true))) := (same_new nls).trans (s1.trans (same_new nl2))
      walk_at "rd"
      refine r_all (bs := [(x, ("name" : Str)), (y, ("name" : Str)), (z, ("name" : Str))].map fun _ => true) (SqL.of upd_same) ?_
      rw [show ([(x, ("name" : Str)), (y, ("name" : Str)), (z, ("name" : Str))].map fun _ => true).all id = true from rfl]
      clear nls nl2 s1
      walk_at "rd"
      exact q _ s2
    | less x y z =>
      have hp : H p = some (.tup [.str "less", .int x, .int y, .int z]) := hp
      walk_at "rd"
      refine ⟨_, _, rfl, C, ?_⟩
      walk_at "rd"
      refine ⟨_, .ref q5, rfl, rfl, ?_⟩
      walk_at "rd"
      refine r_lenT (t5 _) ?_
      walk_at "rd"
      refine r_slT (SqT.of hp) (fun z => Nat.noConfusion (show (1 : Nat) = 0 from z.1)) fun ls nls => ?_
      rw [show cutV [.str "less", .int x, .int y, .int z] (some 1) none = [V.int x, V.int y, V.int z] from rfl]
      walk_at "rd"
      refine ⟨ls, q5, _, _, rfl, SqT.of upd_same, t5 _, ?_⟩
      refine comp_mapZ (α := Int × Str) (xs := [(x, ("name" : Str)), (y, ("name" : Str)), (z, ("name" : Str))]) (e1 := fun p => .int p.1) (e2 := fun p => .str p.2) (fun _ => .bl true) (fun σ => ∃ u v, σ = [u, v, some (.ref h)]) (SqT.of upd_same) (t5 _) (by walk_at "small") ⟨_, _, rfl⟩ ?_ ?_
      · rintro i ⟨zz, k⟩ ys σ H1 T hx cc s1 ⟨u, v', rfl⟩ nT
        have hok : (k = "name" ∧ isN zz) ∨ (k = "value" ∧ isVal zz) := by
          have hm := List.mem_of_getElem? hx
          simp only [List.mem_cons, List.not_mem_nil, or_false, Prod.mk.injEq] at hm
          rcases hm with ⟨rfl, rfl⟩ | ⟨rfl, rfl⟩ | ⟨rfl, rfl⟩
          · exact .inl ⟨rfl, ok.1⟩
          · exact .inl ⟨rfl, ok.2.1⟩
          · exact .inl ⟨rfl, ok.2.2⟩
        refine r_gTup (SqT.of upd_same) rfl ?_
        have hh1 := s1 _ _ (look_new (o := .tup [V.int x, V.int y, V.int z]) hh nls)
        walk_at "rd"
        refine ⟨zz, _, k, rfl, hok, ?_⟩
        walk_at "rd"
        exact cc.next hx rfl (by walk_at "same") ⟨_, _, rfl⟩
      intro H1 s1 l2 nl2
      have hp1 := look_new (o := .lst ([(x, ("name" : Str)), (y, ("name" : Str)), (z, ("name" : Str))].map fun _ => V.bl true)) (s1 _ _ (look_new (o := .tup [V.int x, V.int y, V.int z]) hp nls)) nl2
      have s2 : Same H (upd H1 l2 (.lst ([(x, ("name" : Str)), (y, ("name" : Str)), (z, ("name" : Str))].map fun _ => V.bl true))) := (same_new nls).trans (s1.trans (same_new nl2))
      walk_at "rd"
      refine r_all (bs := [(x, ("name" : Str)), (y, ("name" : Str)), (z, ("name" : Str))].map fun _ => true) (SqL.of upd_same) ?_
      rw [show ([(x, ("name" : Str)), (y, ("name" : Str)), (z, ("name" : Str))].map fun _ => true).all id = true from rfl]
      clear nls nl2 s1
      walk_at "rd"
      exact q _ s2
    | give x =>
      have hp : H p = some (.tup [.str "give", .int x]) := hp
      walk_at "rd"
      refine ⟨_, _, rfl, C, ?_⟩
      walk_at "rd"
      refine ⟨_, .ref q11, rfl, rfl, ?_⟩
      walk_at "rd"
      refine r_lenT (t11 _) ?_
      walk_at "rd"
      refine r_slT (SqT.of hp) (fun z => Nat.noConfusion (show (1 : Nat) = 0 from z.1)) fun ls nls => ?_
      rw [show cutV [.str "give", .int x] (some 1) none = [V.int x] from rfl]
      walk_at "rd"
      refine ⟨ls, q11, _, _, rfl, SqT.of upd_same, t11 _, ?_⟩
      refine comp_mapZ (α := Int × Str) (xs := [(x, ("name" : Str))]) (e1 := fun p => .int p.1) (e2 := fun p => .str p.2) (fun _ => .bl true) (fun σ => ∃ u v, σ = [u, v, some (.ref h)]) (SqT.of upd_same) (t11 _) (by walk_at "small") ⟨_, _, rfl⟩ ?_ ?_
      · rintro i ⟨zz, k⟩ ys σ H1 T hx cc s1 ⟨u, v', rfl⟩ nT
        have hok : (k = "name" ∧ isN zz) ∨ (k = "value" ∧ isVal zz) := by
          have hm := List.mem_of_getElem? hx
          simp only [List.mem_cons, List.not_mem_nil, or_false, Prod.mk.injEq] at hm
          rcases hm with ⟨rfl, rfl⟩
          · exact .inl ⟨rfl, ok⟩
        refine r_gTup (SqT.of upd_same) rfl ?_
        have hh1 := s1 _ _ (look_new (o := .tup [V.int x]) hh nls)
        walk_at "rd"
        refine ⟨zz, _, k, rfl, hok, ?_⟩
        walk_at "rd"
        exact cc.next hx rfl (by walk_at "same") ⟨_, _, rfl⟩
      intro H1 s1 l2 nl2
      have hp1 := look_new (o := .lst ([(x, ("name" : Str))].map fun _ => V.bl true)) (s1 _ _ (look_new (o := .tup [V.int x]) hp nls)) nl2
      have s2 : Same H (upd H1 l2 (.lst ([(x, ("name" : Str))].map fun _ => V.bl true))) := (same_new nls).trans (s1.trans (same_new nl2))
      walk_at "rd"
      refine r_all (bs := [(x, ("name" : Str))].map fun _ => true) (SqL.of upd_same) ?_
      rw [show ([(x, ("name" : Str))].map fun _ => true).all id = true from rfl]
      clear nls nl2 s1
      walk_at "rd"
      exact q _ s2
    | leave x => exact ok.elim
end
section
variable {P : Program} {w : World} {K : PySem.W.Frag} {mg : Str → Option Value} {base : Heap} {a : Adr}
set_option maxHeartbeats 4000000 in
theorem ok_are_statements (T : Txt w K mg a) : FnE P w K mg base CX0 6 "are_statements" spAreS := by
  refine fnE_of (sp := spAreS) 5 T.fn_are_statements sc_are_statements (fun vs H Q E h => ?_) (fun f cdv A outer s H vs Q E hr h => ?_)
  · obtain ⟨b, h, l, ps, ss, n, rfl, _⟩ := h
    rfl
  · obtain ⟨b, h, l, ps, ss, n, rfl, hb, hl, hs, hok, h80, hh, q⟩ := h
    have hsl := hs.1
    refine ⟨_, (pss_cons (ps_setC (i := 2) sc_are_statements.nd rfl rfl (own := ["body"]) (fr := []) rfl ⟨rfl, (by walk_at "clok"), (by walk_at "frok"), rfl, (by decide +kernel), (by decide +kernel), rfl⟩ (pi_seqK (K := K) rfl (pv 0)) (fun _ _ _ _ => (pg_name (i := 0) (show List.Nodup [("body" : Str)] from by decide +kernel) rfl (Or.inl rfl))) (fun _ _ _ _ => pts_nil) (fun _ _ _ _ => (pe_tup (pa_cons (pv 0) (pa_cons pe_int pa_nil)))))
      (pss_cons (ps_set (i := 3) sc_are_statements.nd rfl (Or.inl rfl) pe_int)
      (pss_cons (ps_while PassesOwn.never (pt_cmpR op_gt (pe_callB (call_lenK (K := K) rfl) rfl T.z_len b_len (pa_cons (pv 2) pa_nil)) pe_int (nomark _)) (pss_cons (ps_set (i := 4) sc_are_statements.nd rfl (Or.inr rfl) (pe_bm0K (K := K) rfl PySem.F.plainAttrs_list PySem.F.slot_list_pop PySem.F.type_list_pop mt_pop (pv 2)))
      (pss_cons (ps_set (i := 3) sc_are_statements.nd rfl (Or.inl rfl) (pe_op (op_plusK (K := K) rfl) (pv 3) (pe_callB (call_lenK (K := K) rfl) rfl T.z_len b_len (pa_cons (pe_ix (ix_K (K := K) rfl) (pv 4) pe_int (fun _ _ => rfl)) pa_nil))))
      (pss_cons (ps_if (PW.pt (pw_or (pt_cmpR op_gt (pv 3) (pe_glob (v := .int 80) rfl T.g_TOP_STATEMENTS.choose_spec ⟨_, rfl⟩) (nomark _)) (pw_or1 (pt_not (pt_truK (K := K) rfl (pe_callB (call_allK (K := K) rfl rfl) rfl T.z_all b_all (pa_cons (pe_comp (own := ["statement"]) (fr := [("handed", 1)]) rfl ⟨rfl, (by walk_at "clok"), (by walk_at "frok"), rfl, (by decide +kernel), (by decide +kernel), rfl⟩ (pi_seqK (K := K) rfl (pe_ix (ix_K (K := K) rfl) (pv 4) pe_int (fun _ _ => rfl))) (fun _ _ _ _ => (pg_name (i := 0) (show List.Nodup [("statement" : Str), ("handed" : Str)] from by decide +kernel) rfl (Or.inl rfl))) (fun _ _ _ _ => pts_nil) (fun _ _ _ _ => (pe_callE (ok_is_statement (K := K) T) (hr.mono (by decide)) pass0 rfl (pa_cons (pv 0) (pa_cons (pv 1) pa_nil))))) pa_nil))))))) (pss_one ps_dead) pss_nil)
      (pss_one (ps_for PassesOwn.never rfl (pi_seqK (K := K) rfl (pe_ix (ix_K (K := K) rfl) (pv 4) pe_int (fun _ _ => rfl))) (pg_name (i := 5) sc_are_statements.nd rfl (Or.inl rfl)) (pss_cons (ps_set (i := 6) sc_are_statements.nd rfl (Or.inl rfl) (pe_callE (ok_lists_within (K := K) T) (hr.mono (by decide)) pass0 rfl (pa_cons (pv 5) pa_nil)))
      (pss_cons (ps_if (PW.pt (pw_and (pt_cmpR op_gt (pe_callB (call_lenK (K := K) rfl) rfl T.z_len b_len (pa_cons (pv 6) pa_nil)) pe_int (nomark _)) (pw_and1 (pt_cmpR (op_eqK (K := K) rfl hr.units) (pe_ix (ix_K (K := K) rfl) (pv 4) pe_int (fun _ _ => rfl)) (pe_glob (v := .int 4) rfl T.g_TOP_WITHIN.choose_spec ⟨_, rfl⟩) (nomark _))))) (pss_one ps_dead) pss_nil)
      (pss_one (ps_expr (pe_bmK (K := K) rfl PySem.F.plainAttrs_list PySem.F.slot_list_extend PySem.F.type_list_extend mt_extend (pv 2) (pa_cons (pe_comp (own := ["statements"]) (fr := [("found", 4)]) rfl ⟨rfl, (by walk_at "clok"), (by walk_at "frok"), rfl, (by decide +kernel), (by decide +kernel), rfl⟩ (pi_seqK (K := K) rfl (pv 6)) (fun _ _ _ _ => (pg_name (i := 0) (show List.Nodup [("statements" : Str), ("found" : Str)] from by decide +kernel) rfl (Or.inl rfl))) (fun _ _ _ _ => pts_nil) (fun _ _ _ _ => (pe_tup (pa_cons (pv 0) (pa_cons (pe_op (op_plusK (K := K) rfl) (pe_ix (ix_K (K := K) rfl) (pv 1) pe_int (fun _ _ => rfl)) pe_int) pa_nil))))) pa_nil))))))))))))
      (pss_one (ps_ret pe_bl))))), ?_⟩
    refine r_st (σ' := [some _, some _, none, none, none, none, none]) rfl ?_
    walk_at "rd"
    refine comp_one (σ0 := [none]) (fun ys H1 => Same H H1 ∧ ∃ t, ys = [.ref t] ∧ H1 t = some (.tup [.ref l, .int 0])) (SqL.of hb) ?_ (fun ys H1 h => ⟨SqL.of (h.1 _ _ hb), by obtain ⟨_, t, e, _⟩ := h; rw [e]; exact Nat.le_of_ble_eq_true rfl⟩) ?_
    · walk_at "rd"
      rename_i t1 nt1
      exact ⟨same_new nt1, t1, rfl, upd_same⟩
    rintro ys H1 ⟨s1, t1, rfl, ht1⟩ lw nlw
    have nlwH : H lw = none := none_same s1 nlw
    walk_at "rd"
    refine ⟨fun j σ H2 => Same H H2 ∧ ((j = 1 ∧ σ = [some (.ref b), some (.ref h), some (.ref lw), some (.int 0), none, none, none] ∧ H2 lw = some (.lst [.ref t1]) ∧ H2 t1 = some (.tup [.ref l, .int 0])) ∨ (j = 0 ∧ (∃ u v x y, σ = [some (.ref b), some (.ref h), some (.ref lw), u, v, x, y]) ∧ H2 lw = some (.lst []))), ⟨1, s1.trans (same_new nlw), .inl ⟨rfl, rfl, upd_same, look_new ht1 nlw⟩⟩, ?_⟩
    clear ht1 nlw s1
    rintro j σ H2 ⟨s2, ⟨rfl, rfl, hlw, ht⟩ | ⟨rfl, ⟨u, v, x, y, rfl⟩, hlw⟩⟩
    · walk_at "rd"
      refine ⟨_, fun σ' H' h => h, ?_⟩
      walk_at "rd"
      refine r_pop (xs := []) hlw ?_
      have s3 : Same H (upd H2 lw (.lst [])) := fun b o e => by rw [upd_ne (ne_of_none e nlwH)]; exact s2 b o e
      have ht3 : (upd H2 lw (.lst [])) t1 = some (.tup [.ref l, .int 0]) := by rw [upd_ne (fun z => by rw [z, hlw] at ht; cases ht)]; exact ht
      have hlw3 : (upd H2 lw (.lst [])) lw = some (.lst []) := upd_same
      generalize (upd H2 lw (.lst [])) = H3 at s3 ht3 hlw3 ⊢
      clear s2 hlw ht
      have hl3 := s3 _ _ hl
      have hs3 := hs.same s3
      have hh3 := s3 _ _ hh
      walk_at "rd"
      refine comp_mapL (α := Addr) (xs := ps) (emb := V.ref) (fun _ => .bl true) (fun σ => ∃ v, σ = [v, some (.ref h)]) (SqL.of hl3) (by walk_at "small") ⟨_, rfl⟩ ?_ ?_
      · rintro i p ys σ H4 hx cc s4 ⟨v, rfl⟩
        have hi : i < ss.length := by rw [← hsl]; exact (List.getElem?_eq_some_iff.mp hx).1
        have hsi : ss[i]? = some ss[i] := List.getElem?_eq_getElem hi
        walk_at "rd"
        refine ⟨p, h, ss[i], n, rfl, s4 _ _ (hs3.2 i p _ hx hsi), hok _ (List.mem_of_getElem? hsi), s4 _ _ hh3, fun H5 s5 => ?_⟩
        exact cc.next hx rfl (s4.trans s5) ⟨_, rfl⟩
      intro H4 s4 lb nlb
      have s5 := s4.trans (same_new (o := .lst (ps.map fun _ => V.bl true)) nlb)
      walk_at "rd"
      refine r_all (bs := ps.map fun _ => true) (by rw [List.map_map]; exact SqL.of upd_same) ?_
      generalize (upd H4 lb (.lst (ps.map fun _ => V.bl true))) = H5 at s5 ⊢
      rw [show (ps.map fun _ => true).all id = true from by rw [List.all_map]; exact List.all_eq_true.mpr fun _ _ => rfl]
      have hlw5 := s5 _ _ hlw3
      have ht5 := s5 _ _ ht3
      have s05 := s3.trans s5
      clear s4 nlb s5 ht3 hlw3 hl3 hs3 hh3 s3
      have hl5 := s05 _ _ hl
      walk_at "rd"
      refine for_list (K := K) (a := l) (xs := ps.map V.ref) (fun i σ H6 => (∃ u x y, σ = [some (.ref b), some (.ref h), some (.ref lw), u, some (.ref t1), x, y]) ∧ Same H H6 ∧ H6 lw = some (.lst []) ∧ H6 t1 = some (.tup [.ref l, .int 0])) ⟨⟨_, _, _, rfl⟩, s05, hlw5, ht5⟩ (fun i σ H6 _ ⟨_, s6, _⟩ => SqL.of (s6 _ _ hl)) ?_ ?_
      · clear s05 hlw5 ht5 hl5
        rintro i v σ H6 hv ⟨⟨u, x, y, rfl⟩, s6, hlw6, ht6⟩
        obtain ⟨p, hx, rfl⟩ : ∃ p, ps[i]? = some p ∧ v = .ref p := by
          rw [List.getElem?_map] at hv
          obtain ⟨p, hp, e⟩ := Option.map_eq_some_iff.mp hv
          exact ⟨p, hp, e.symm⟩
        have hi : i < ss.length := by rw [← hsl]; exact (List.getElem?_eq_some_iff.mp hx).1
        have hsi : ss[i]? = some ss[i] := List.getElem?_eq_getElem hi
        walk_at "rd"
        refine ⟨p, ss[i], rfl, s6 _ _ (hs.2 i p _ hx hsi), hok _ (List.mem_of_getElem? hsi), fun li H7 s7 hli nli => ?_⟩
        have hlw7 := s7 _ _ hlw6
        have ht7 := s7 _ _ ht6
        have s07 := s6.trans s7
        clear s6 s7 hlw6 ht6 nli
        walk_at "rd"
        refine comp_none (SqL.of hli) ?_
        intro l9 nl9
        walk_at "rd"
        refine r_extend (look_new hlw7 nl9) upd_same (by walk_at "small") ?_
        refine ⟨⟨_, _, _, rfl⟩, fun b o e => by rw [upd_ne (ne_of_none e nlwH)]; exact (s07.trans (same_new nl9)) b o e, upd_same, by rw [upd_ne (fun z => by rw [z, hlw7] at ht7; cases ht7)]; exact look_new ht7 nl9⟩
      · rintro σ H6 ⟨⟨u, x, y, rfl⟩, s6, hlw6, ht6⟩
        exact ⟨0, by decide, s6, .inr ⟨rfl, ⟨_, _, _, _, rfl⟩, hlw6⟩⟩
    · walk_at "rd"
      exact q _ s2
end
section
variable {P : Program} {w : World} {K : PySem.W.Frag} {mg : Str → Option Value} {base : Heap} {a : Adr}
set_option maxHeartbeats 4000000 in
theorem ok_is_program (T : Txt w K mg a) : FnE P w K mg base CX0 7 "is_program" spIsP := by
  refine fnE_of (sp := spIsP) 6 T.fn_is_program sc_is_program (fun vs H Q E h => ?_) (fun f cdv A outer s H vs Q E hr h => ?_)
  · obtain ⟨pr, n, ss, rfl, _⟩ := h
    rfl
  · obtain ⟨pr, n, ss, rfl, ⟨f', l, ps, hpr, hf, hl, hs, hok, h80, n0, n3⟩, q⟩ := h
    refine ⟨_, (pss_cons (ps_if (PW.pt (pw_or (pt_not (pt_truK (K := K) rfl (pe_callB (call_isiK (K := K) rfl) rfl T.z_isinstance b_isinstance (pa_cons (pv 0) (pa_cons (pe_bltn (v := .ty "list") rfl T.z_list b_list rfl) pa_nil))))) (pw_or1 (pt_not (pt_chain op_le op_le pe_int (pe_callB (call_lenK (K := K) rfl) rfl T.z_len b_len (pa_cons (pv 0) pa_nil)) (pe_glob (v := .int 8) rfl T.g_TOP_FUNCTIONS.choose_spec ⟨_, rfl⟩)))))) (pss_one ps_dead) pss_nil)
      (pss_cons (ps_if (pt_not (pt_truK (K := K) rfl (pe_callB (call_allK (K := K) rfl rfl) rfl T.z_all b_all (pa_cons (pe_comp (own := ["function"]) (fr := []) rfl ⟨rfl, (by walk_at "clok"), (by walk_at "frok"), rfl, (by decide +kernel), (by decide +kernel), rfl⟩ (pi_seqK (K := K) rfl (pv 0)) (fun _ _ _ _ => (pg_name (i := 0) (show List.Nodup [("function" : Str)] from by decide +kernel) rfl (Or.inl rfl))) (fun _ _ _ _ => pts_nil) (fun _ _ _ _ => (pe_callE (ok_is_function (K := K) T) (hr.mono (by decide)) pass0 rfl (pa_cons (pv 0) pa_nil)))) pa_nil)))) (pss_one ps_dead) pss_nil)
      (pss_one (ps_ret (pe_callE (ok_are_statements (K := K) T) (hr.mono (by decide)) pass0 rfl (pa_cons (pe_comp (own := ["function"]) (fr := []) rfl ⟨rfl, (by walk_at "clok"), (by walk_at "frok"), rfl, (by decide +kernel), (by decide +kernel), rfl⟩ (pi_seqK (K := K) rfl (pv 0)) (fun _ _ _ _ => (pg_name (i := 0) (show List.Nodup [("function" : Str)] from by decide +kernel) rfl (Or.inl rfl))) (fun _ _ _ _ => pts_nil) (fun _ _ _ _ => (pe_ix (ix_K (K := K) rfl) (pv 0) pe_int (fun _ _ => rfl)))) (pa_cons (pe_comp (own := ["function"]) (fr := []) rfl ⟨rfl, (by walk_at "clok"), (by walk_at "frok"), rfl, (by decide +kernel), (by decide +kernel), rfl⟩ (pi_seqK (K := K) rfl (pv 0)) (fun _ _ _ _ => (pg_name (i := 0) (show List.Nodup [("function" : Str)] from by decide +kernel) rfl (Or.inl rfl))) (fun _ _ _ _ => pts_nil) (fun _ _ _ _ => (pe_ix (ix_K (K := K) rfl) (pv 0) pe_int (fun _ _ => rfl)))) pa_nil))))))), ?_⟩
    refine r_st (σ' := [some _]) rfl ?_
    walk_at "rd"
    refine comp_one (σ0 := [none]) (fun ys H1 => Same H H1 ∧ ys = [.bl true]) (SqL.of hpr) ?_ (fun ys H1 h => ⟨SqL.of (h.1 _ _ hpr), by rw [h.2]; exact Nat.le_of_ble_eq_true rfl⟩) ?_
    · walk_at "rd"
      refine ⟨f', l, n, _, rfl, hf, n0, n3, hl, ?_⟩
      exact ⟨Same.refl _, rfl⟩
    rintro ys H1 ⟨s1, rfl⟩ l1 nl1
    have s2 : Same H (upd H1 l1 (.lst [.bl true])) := s1.trans (same_new nl1)
    walk_at "rd"
    refine r_all (bs := [true]) (SqL.of upd_same) ?_
    generalize (upd H1 l1 (.lst [.bl true])) = H2 at s2 ⊢
    clear nl1 s1
    rw [show ([true] : List Bool).all id = true from rfl]
    have hpr2 := s2 _ _ hpr
    have hf2 := s2 _ _ hf
    walk_at "rd"
    refine comp_one (σ0 := [none]) (fun ys H3 => Same H2 H3 ∧ ys = [.ref l]) (SqL.of hpr2) ?_ (fun ys H3 h => ⟨SqL.of (h.1 _ _ hpr2), by rw [h.2]; exact Nat.le_of_ble_eq_true rfl⟩) ?_
    · walk_at "rd"
      exact ⟨Same.refl _, rfl⟩
    rintro ys H3 ⟨s3, rfl⟩ l3 nl3
    have s4 : Same H (upd H3 l3 (.lst [.ref l])) := s2.trans (s3.trans (same_new nl3))
    have hl3 : (upd H3 l3 (.lst [.ref l])) l3 = some (.lst [.ref l]) := upd_same
    generalize (upd H3 l3 (.lst [.ref l])) = H4 at s4 hl3 ⊢
    clear nl3 s3 s2 hpr2 hf2
    have hpr4 := s4 _ _ hpr
    have hf4 := s4 _ _ hf
    walk_at "rd"
    refine comp_one (σ0 := [none]) (fun ys H5 => Same H4 H5 ∧ ys = [.int n]) (SqL.of hpr4) ?_ (fun ys H5 h => ⟨SqL.of (h.1 _ _ hpr4), by rw [h.2]; exact Nat.le_of_ble_eq_true rfl⟩) ?_
    · walk_at "rd"
      exact ⟨Same.refl _, rfl⟩
    rintro ys H5 ⟨s5, rfl⟩ l5 nl5
    have s6 : Same H (upd H5 l5 (.lst [.int n])) := s4.trans (s5.trans (same_new nl5))
    have hl5 : (upd H5 l5 (.lst [.int n])) l5 = some (.lst [.int n]) := upd_same
    have hl36 : (upd H5 l5 (.lst [.int n])) l3 = some (.lst [.ref l]) := look_new (s5 _ _ hl3) nl5
    generalize (upd H5 l5 (.lst [.int n])) = H6 at s6 hl5 hl36 ⊢
    walk_at "rd"
    refine ⟨l3, l5, l, ps, ss, n, rfl, hl36, s6 _ _ hl, hs.same s6, hok, h80, hl5, fun H7 s7 => ?_⟩
    walk_at "rd"
    exact q _ (s6.trans s7)
end
section
variable {P : Program} {w : World} {K : PySem.W.Frag} {mg : Str → Option Value} {base : Heap} {a : Adr}
set_option maxHeartbeats 4000000 in
theorem ok_asked_for_program (T : Txt w K mg a) : FnE P w K mg base CX0 8 "asked_for_program" spAsk := by
  refine fnE_of (sp := spAsk) 7 T.fn_asked_for_program sc_asked_for_program (fun vs H Q E h => ?_) (fun f cdv A outer s H vs Q E hr h => ?_)
  · obtain ⟨pr, n, ss, rfl, _⟩ := h
    rfl
  · obtain ⟨pr, n, ss, rfl, hp, q⟩ := h
    refine ⟨_, (pss_one (ps_if (pt_not (pt_truK (K := K) rfl (pe_callE (ok_is_program (K := K) T) (hr.mono (by decide)) pass0 rfl (pa_cons (pv 0) pa_nil)))) (pss_one ps_never) pss_nil)), ?_⟩
    refine r_st (σ' := [some _]) rfl ?_
    walk_at "rd"
    refine ⟨pr, n, ss, rfl, hp, fun H1 s1 => ?_⟩
    walk_at "rd"
    exact q _ s1
end
section
variable {P : Program} {w : World} {K : PySem.W.Frag} {mg : Str → Option Value} {base : Heap} {a : Adr}
set_option maxHeartbeats 4000000 in
theorem ok_run (T : Txt w K mg a) : FnE P w K mg base (CXR P w) 9 "run" (spRun a) := by
  refine fnX_of (sp := (spRun a)) 8 T.fn_run sc_run (fun vs H Q E h => ?_) (fun f cdv A outer s H vs Q E hr h => ?_)
  · obtain ⟨pr, v, st, n, ss, xs, rfl, _⟩ := h
    rfl
  · obtain ⟨pr, v, st, n, ss, xs, rfl, hp, hv, h4, q⟩ := h
    refine ⟨_, (pss_cons (PS.nox (ps_expr (pe_callE (ok_asked_for_program (K := K) T) (hr.mono (by decide)) pass0 rfl (pa_cons (pv 0) pa_nil))))
      (pss_cons (ps_if (PT.nox (pt_cmpR (op_neK (K := K) rfl hr.units) (pe_callB (call_lenK (K := K) rfl) rfl T.z_len b_len (pa_cons (pv 1) pa_nil)) (pe_ix (ix_K (K := K) rfl) (pe_ix (ix_K (K := K) rfl) (pv 0) pe_int (fun _ _ => rfl)) pe_int (fun _ _ => rfl)) (nomark _))) (pss_one (ps_raise T.x_NoProgram rfl (pa_cons pe_str pa_nil))) pss_nil)
      (pss_cons (PS.nox (ps_set (i := 3) sc_run.nd rfl (Or.inl rfl) (pe_makeE (mk_Run (K := K) T) (hr.mono (by decide)) pass0 rfl (pa_cons (pv 0) (pa_cons (pv 2) pa_nil)))))
      (pss_cons (PS.nox (ps_expr (pe_methK (P := P) (w := w) (K := K) (mg := mg) (base := base) (k := 3) ⟨rfl, rfl, rfl, rfl, rfl⟩ (pv 3) (hr.mono (by decide)) pass0 (pa_cons pe_int (pa_cons (pv 1) pa_nil)))))
      (pss_cons (PS.nox (ps_while PassesOwn.never (pt_cmpR op_isNA (pe_fldK (K := K) rfl (pv 3)) pe_non (nomark _)) (pss_one (ps_expr (pe_methK0 (P := P) (w := w) (K := K) (mg := mg) (base := base) (k := 4) ⟨rfl, rfl, rfl, rfl, rfl⟩ (pv 3) (hr.mono (by decide)) pass0)))))
      (pss_one (PS.nox (ps_ret (pe_fldK (K := K) rfl (pv 3)))))))))), ?_⟩
    refine r_st (σ' := [some _, some _, some _, none]) rfl ?_
    walk_at "rd"
    refine ⟨pr, n, ss, rfl, hp, fun H1 s1 => ?_⟩
    have hp1 := hp.same s1
    have hv1 := s1 _ _ hv
    obtain ⟨f', l, ps, hpr, hf, hl, hs, hok, h80, n0, n3⟩ := id hp1
    rcases q with ⟨hn, hxv, q⟩ | ⟨hn, q⟩
    · walk_at "rd"
      intro x dx nx ndx nne
      have s2 : Same H1 (upd (upd H1 dx (.own x)) x (.ins a.C_Run dx [])) := fun b o e => by rw [upd_ne (ne_of_none e nx), upd_ne (ne_of_none e ndx)]; exact e
      refine ⟨x, dx, pr, st, n, ss, rfl, upd_same, hp1.same s2, fun bo dg m qs fs H2 nbo ndg nm e1 e2 e3 kp hx F hbo hm hq hdg => ⟨rfl, ?_⟩⟩
      have k2 : Same H1 H2 := fun b o e => kp b o (s2 b o e) (ne_of_none e nx)
      have nx0 := none_same s1 nx
      have ndg0 := none_same (s1.trans s2) ndg
      have hv2 := k2 _ _ hv1
      have s02 := s1.trans k2
      clear kp s2
      have nvd : v ≠ dg := ne_of_none hv ndg0
      walk_at "rd"
      refine r_methV hx (F.no _ (by decide +kernel)) ((me_Run_begin T).mono (by decide)) ?_
      walk_at "rd"
      refine ⟨x, dx, bo, dg, m, v, fs, st, xs, rfl, hx, F, hbo, hdg, hv2, by omega, nvd, fun d dd ln fs' H3 nd nl kp3 hdg3 hd F' hln => ?_⟩
      have nd0 := none_same s02 nd
      have nl0 := none_same s02 nl
      have s03 : Same H H3 := fun b o e => kp3 b o (s02 b o e) (ne_of_none e ndg0)
      have R : RSt a H3 x dx d dd bo dg m ln qs (ss ++ [.leave 7]) 0 st (padN xs) := ⟨⟨fs, kp3 _ _ hx (fun z => by rw [z, hdg] at hx; cases hx), F⟩, ⟨fs', hd, F'⟩, hdg3, kp3 _ _ hm e2, hq.to (fun b xs e => kp3 b _ e (fun z => by rw [z, hdg] at e; cases e)), hln, padN_len (by omega), padN_val hxv, ne_of_none hx nd, e2, ne_of_none hm nl, ne_of_none hdg nl⟩
      have kS : ∀ H4 H5, Same H H4 → Kept4 x d dg ln H4 H5 → Same H H5 := fun H4 H5 s k b o e => k b o (s b o e) (ne_of_none e nx0) (ne_of_none e nd0) (ne_of_none e ndg0) (ne_of_none e nl0)
      clear kp3 hdg3 hd hln s02 hx hbo hm hq hdg hv2 k2 nd nl nx ndx nne nbo nm
      walk_at "rd"
      refine ⟨fun j σ H4 => σ = [some (.ref pr), some (.ref v), some (.int st), some (.ref x)] ∧ Same H H4 ∧ ((j = 0 ∧ RDone a H4 x dx (runP ss (padN xs) st)) ∨ ∃ k st' ns', j = ss.length + 1 - k ∧ k ≤ ss.length ∧ RSt a H4 x dx d dd bo dg m ln qs (ss ++ [.leave 7]) k st' ns' ∧ runP (ss.drop k) ns' st' = runP ss (padN xs) st), ⟨ss.length + 1, rfl, s03, .inr ⟨0, st, padN xs, rfl, Nat.zero_le _, R, rfl⟩⟩, ?_⟩
      clear R s03
      rintro j σ H4 ⟨rfl, s4, ⟨rfl, fs4, t, hx4, hf4, ht4⟩ | ⟨k, st', ns', rfl, hk, R, hrun⟩⟩
      · walk_at "rd"
        exact q t H4 s4 ht4
      · obtain ⟨fr, hr', Fr⟩ := R.hr
        have f1 := Fr.answer
        walk_at "rd"
        refine ⟨_, fun σ' H' h => h, ?_⟩
        walk_at "rd"
        refine r_methV hr' (Fr.no _ (by decide +kernel)) ((me_Run_step T).mono (by decide)) ?_
        walk_at "rd"
        by_cases hkl : k < ss.length
        · have hsk : ss[k]? = some ss[k] := List.getElem?_eq_getElem hkl
          have hdr : ss.drop k = ss[k] :: ss.drop (k + 1) := List.drop_eq_getElem_cons hkl
          rw [hdr] at hrun
          have ok := hok _ (List.mem_of_getElem? hsk)
          have hmk : (ss ++ [Sm.leave 7])[k]? = some ss[k] := by rw [List.getElem?_append_left hkl]; exact hsk
          generalize ss[k] = sm at hsk hdr hrun ok hmk
          obtain ⟨r1, r2, r3⟩ := runP_step sm (ss.drop (k + 1)) ns' st'
          have hcn : sm.counted := by cases sm <;> first | exact True.intro | exact ok.elim
          refine ⟨x, dx, d, dd, bo, dg, m, ln, qs, _, k, st', ns', sm, rfl, R, hmk, .inl ok, ?_⟩
          by_cases h0 : st' ≤ 0
          · refine .inl ⟨hcn, h0, fun H5 k5 D5 => ?_⟩
            rw [← r1 h0, hrun] at D5
            walk_at "rd"
            exact ⟨0, by omega, rfl, kS _ _ s4 k5, .inl ⟨rfl, D5⟩⟩
          · by_cases hf : sm.fills
            · refine .inr (.inl ⟨hf, by omega, fun H5 k5 R5 => ?_⟩)
              rw [r2 (by omega) hf] at hrun
              walk_at "rd"
              exact ⟨ss.length + 1 - (k + 1), by omega, rfl, kS _ _ s4 k5, .inr ⟨k + 1, st' - 1, _, rfl, by omega, R5, hrun⟩⟩
            · refine .inr (.inr ⟨hf, fun _ => by omega, fun H5 k5 D5 => ?_⟩)
              rw [← r3 (by omega) hf ok, hrun] at D5
              walk_at "rd"
              exact ⟨0, by omega, rfl, kS _ _ s4 k5, .inl ⟨rfl, D5⟩⟩
        · have ek : k = ss.length := by omega
          have hmk : (ss ++ [Sm.leave 7])[k]? = some (Sm.leave 7) := by rw [ek, List.getElem?_append_right (Nat.le_refl _), Nat.sub_self]; rfl
          rw [ek, List.drop_length] at hrun
          refine ⟨x, dx, d, dd, bo, dg, m, ln, qs, _, k, st', ns', Sm.leave 7, rfl, R, hmk, .inr rfl, .inr (.inr ⟨id, fun z => z.elim, fun H5 k5 D5 => ?_⟩)⟩
          have D5 : RDone a H5 x dx (runP [] ns' st') := D5
          rw [hrun] at D5
          walk_at "rd"
          exact ⟨0, by omega, rfl, kS _ _ s4 k5, .inl ⟨rfl, D5⟩⟩
    · walk_at "rd"
      exact ⟨Nat.le_of_ble_eq_true rfl, q _ s1⟩
end
section
variable {P : Program} {w : World} {K : PySem.W.Frag} {mg : Str → Option Value} {base : Heap} {a : Adr}
set_option maxHeartbeats 4000000 in
theorem ok_law_refused (T : Txt w K mg a) : FnE P w K mg base CX0 10 "_law_refused" spRefused := by
  refine fnE_of (sp := spRefused) 9 T.fn_law_refused sc_law_refused (fun vs H Q E h => ?_) (fun f cdv A outer s H vs Q E hr h => ?_)
  · obtain ⟨pr, v, n, ss, xs, rfl, _⟩ := h
    rfl
  · obtain ⟨pr, v, n, ss, xs, rfl, hp, hv, h4, hn, q⟩ := h
    refine ⟨_, (pss_cons (ps_set (i := 2) sc_law_refused.nd rfl (Or.inl rfl) pe_bl)
      (pss_cons (ps_tryN rfl rfl rfl (pb_expr (ok_run (K := K) T) (hr.mono (by decide)) rfl (pa_cons (pv 0) (pa_cons (pv 1) (pa_cons pe_int pa_nil)))) T.x_NoProgram rfl (fun ea => (pss_one (ps_set (i := 2) sc_law_refused.nd rfl (Or.inl rfl) pe_bl))))
      (pss_one (ps_ret (pv 2))))), ?_⟩
    refine r_st (σ' := [some _, some _, none]) rfl ?_
    walk_at "rd"
    refine r_tryN ?_
    walk_at "rd"
    refine ⟨pr, v, 100, n, ss, xs, rfl, hp, hv, h4, .inr ⟨hn, fun H1 s1 => ⟨rfl, ?_⟩⟩⟩
    walk_at "rd"
    exact q _ s1
end
section
variable {P : Program} {w : World} {K : PySem.W.Frag} {mg : Str → Option Value} {base : Heap} {a : Adr}
theorem cutI_drop (xs : List Int) {k : Int} (h0 : 0 ≤ k) (h1 : k ≤ xs.length) : cutI xs (some k) none = xs.drop k.toNat := by
  unfold cutI
  have e2 : HT.sIx xs.length 0 (some k) = k.toNat := by
    show (if k < 0 then _ else _) = _
    rw [if_neg (by omega)]; omega
  have e3 : HT.sIx xs.length xs.length none = xs.length := rfl
  rw [e2, e3, List.take_of_length_le (by rw [List.length_drop]; exact Nat.le_refl _)]
theorem ref_int {ps : List Addr} {F : List Int} (e : ps.map V.ref = F.map V.int) : F = [] := by
  cases F with
  | nil => rfl
  | cons x r =>
    cases ps with
    | nil => simp at e
    | cons p q => simp at e
theorem done_len (ns : List Int) (s : Sm) : (s.done ns).length = ns.length := by unfold Sm.done; rw [sI_len]
theorem fold_len : ∀ (ss : List Sm) (ns : List Int), (ss.foldl Sm.done ns).length = ns.length
  | [], _ => rfl
  | s :: r, ns => by rw [List.foldl_cons, fold_len r, done_len]
theorem fold_val : ∀ (ss : List Sm) (ns : List Int), (∀ s ∈ ss, s.ok) → (∀ x ∈ ns, isVal x) → ∀ x ∈ ss.foldl Sm.done ns, isVal x
  | [], _, _, h => h
  | s :: r, ns, ok, h => by
    rw [List.foldl_cons]
    exact fold_val r _ (fun t ht => ok t (List.mem_cons_of_mem _ ht)) (sI_vals h (Sm.isval h (ok s (List.mem_cons_self ..))))
theorem gI_pad {N : List Int} (h : N.length = 6) {i : Int} (h0 : 0 ≤ i) (h1 : i ≤ 5) : gI (N ++ [0, 0]) i = gI N i := by
  unfold gI
  rw [List.getD_eq_getElem?_getD, List.getD_eq_getElem?_getD, List.getElem?_append_left (by omega)]
theorem gI_pad7 {N : List Int} (h : N.length = 6) : gI (N ++ [0, 0]) 7 = 0 := by
  unfold gI
  rw [List.getD_eq_getElem?_getD, List.getElem?_append_right (by rw [h]; decide), h]
  rfl
theorem val_pad {N : List Int} (h : N.length = 6) {s : Sm} (ok : s.ok) : s.val (N ++ [0, 0]) = s.val N := by
  cases s with
  | set x v => rfl
  | copy x y => exact gI_pad h ok.2.1 ok.2.2
  | sum x y z => show (_ + _) % _ = (_ + _) % _; rw [gI_pad h ok.2.1.1 ok.2.1.2, gI_pad h ok.2.2.1 ok.2.2.2]
  | minus x y z => show (_ - _) % _ = (_ - _) % _; rw [gI_pad h ok.2.1.1 ok.2.1.2, gI_pad h ok.2.2.1 ok.2.2.2]
  | product x y z => show (_ * _) % _ = (_ * _) % _; rw [gI_pad h ok.2.1.1 ok.2.1.2, gI_pad h ok.2.2.1 ok.2.2.2]
  | less x y z => show (if _ < _ then (1 : Int) else 0) = (if _ < _ then (1 : Int) else 0); rw [gI_pad h ok.2.1.1 ok.2.1.2, gI_pad h ok.2.2.1 ok.2.2.2]
  | give x => rfl
  | leave x => rfl
theorem tgt_ok {s : Sm} (ok : s.ok) : 0 ≤ s.tgt ∧ s.tgt ≤ 5 := by
  cases s with
  | set x v => exact ok.1
  | copy x y => exact ok.1
  | sum x y z => exact ok.1
  | minus x y z => exact ok.1
  | product x y z => exact ok.1
  | less x y z => exact ok.1
  | give x => exact ok
  | leave x => exact ok.elim
theorem done_pad {N : List Int} (h : N.length = 6) {s : Sm} (ok : s.ok) : s.done (N ++ [0, 0]) = s.done N ++ [0, 0] := by
  unfold Sm.done
  rw [val_pad h ok]
  unfold sI
  have := tgt_ok ok
  rw [List.set_append_left _ _ (by omega)]
theorem fold_pad : ∀ (ss : List Sm) {N : List Int}, N.length = 6 → (∀ s ∈ ss, s.ok) → ss.foldl Sm.done (N ++ [0, 0]) = ss.foldl Sm.done N ++ [0, 0]
  | [], _, _, _ => rfl
  | s :: r, N, h, ok => by
    rw [List.foldl_cons, List.foldl_cons, done_pad h (ok s (List.mem_cons_self ..))]
    exact fold_pad r (by unfold Sm.done; rw [sI_len]; exact h) (fun t ht => ok t (List.mem_cons_of_mem _ ht))
theorem run_fill : ∀ (ss rest : List Sm) (ns : List Int) (k : Int), (∀ s ∈ ss, s.fills) → (ss.length : Int) ≤ k → runP (ss ++ rest) ns k = runP rest (ss.foldl Sm.done ns) (k - ss.length)
  | [], rest, ns, k, _, _ => by rw [List.nil_append, List.foldl_nil, List.length_nil]; congr 1; omega
  | s :: r, rest, ns, k, hf, hk => by
    rw [List.length_cons] at hk ⊢
    rw [List.cons_append, (runP_step s _ ns k).2.1 (by omega) (hf s (List.mem_cons_self ..)), run_fill r rest _ _ (fun t ht => hf t (List.mem_cons_of_mem _ ht)) (by omega), List.foldl_cons]
    congr 1; omega
theorem run_give {ss : List Sm} {N : List Int} {x : Int} (h : N.length = 6) (hok : ∀ s ∈ ss, s.ok ∧ s.fills) (x0 : 0 ≤ x) (x5 : x ≤ 5) : (∀ k : Int, ((ss ++ [Sm.give x]).length : Int) ≤ k → runP (ss ++ [.give x]) (N ++ [0, 0]) k = .gave (gI (ss.foldl Sm.done N) x)) ∧ runP (ss ++ [.give x]) (N ++ [0, 0]) (((ss ++ [Sm.give x]).length : Int) - 1) = .tired := by
  have e1 : (ss ++ [Sm.give x]).length = ss.length + 1 := by rw [List.length_append]; rfl
  have hl : (ss.foldl Sm.done N).length = 6 := by rw [fold_len]; exact h
  refine ⟨fun k hk => ?_, ?_⟩
  · rw [run_fill ss _ _ k (fun s hs => (hok s hs).2) (by omega), (runP_step (.give x) [] _ _).2.2 (by omega) id ⟨x0, x5⟩, fold_pad ss h (fun s hs => (hok s hs).1)]
    show An.gave (gI _ x) = _
    rw [gI_pad hl x0 x5]
  · rw [run_fill ss _ _ _ (fun s hs => (hok s hs).2) (by omega), (runP_step _ _ _ _).1 (by omega)]
theorem run_end {ss : List Sm} {N : List Int} (h : N.length = 6) (hok : ∀ s ∈ ss, s.ok ∧ s.fills) : (∀ k : Int, (ss.length : Int) ≤ k → runP ss (N ++ [0, 0]) k = .gave 0) ∧ (0 < ss.length → runP ss (N ++ [0, 0]) ((ss.length : Int) - 1) = .tired) := by
  have hl : (ss.foldl Sm.done N).length = 6 := by rw [fold_len]; exact h
  refine ⟨fun k hk => ?_, fun h0 => ?_⟩
  · have := run_fill ss [] (N ++ [0, 0]) k (fun s hs => (hok s hs).2) hk
    rw [List.append_nil] at this
    rw [this, fold_pad ss h (fun s hs => (hok s hs).1)]
    show An.gave (gI _ 7) = _
    rw [gI_pad7 hl]
  · have hne : ss ≠ [] := fun z => by rw [z] at h0; cases h0
    obtain ⟨ini, la, rfl⟩ : ∃ ini la, ss = ini ++ [la] := ⟨ss.dropLast, ss.getLast hne, (List.dropLast_concat_getLast hne).symm⟩
    have e1 : (ini ++ [la]).length = ini.length + 1 := by rw [List.length_append]; rfl
    rw [run_fill ini _ _ _ (fun s hs => (hok s (List.mem_append_left _ hs)).2) (by omega), (runP_step _ _ _ _).1 (by omega)]
theorem r_neRows {K : PySem.W.Frag} {l l2 : Addr} {ns : List Addr} {H : Hp} {Q : VK} (h : H l = some (.lst (ns.map V.ref))) (h2 : H l2 = some (.lst [])) (q : Q (.bl (decide (0 < ns.length))) H) : rNeA K (.ref l) (.ref l2) H Q ∨ rNeLen K (.ref l) (.ref l2) H Q := by
  cases ns with
  | nil => exact .inl (r_neT (.list []) (dp_lst (SqL.of h) dpAll_nil) (dp_lst (SqL.of h2) dpAll_nil) rfl q)
  | cons n ns => exact .inr ⟨l, l2, _, _, rfl, rfl, SqL.of h, SqL.of h2, (by rw [List.length_map, List.length_cons, List.length_nil]; omega), (by rw [decide_eq_true (by rw [List.length_cons]; omega)] at q; exact q)⟩
theorem join_d {D PP : Addr → Hp → Prop} {G : Prop} (key : ∀ u H, D u H → PP u H) (use : (∀ u H, D u H → PP u H) → G) : G := use key
def DueD (K : PySem.W.Frag) (a0 lb lv : Addr) (ns xs : List Int) (u5 : Addr) (H7 : Hp) : Prop := ∃ (ps' : List Addr) (ss' : List Sm) (v : Int), H7 lb = some (.lst (ps'.map V.ref)) ∧ SmsAt H7 ps' ss' ∧ (∀ s ∈ ss', s.ok) ∧ ss'.length ≤ 41 ∧ H7 lv = some (.lst (xs.map V.int)) ∧ H7 u5 = some (.tup [.str "gave", .int v]) ∧
  (∀ k : Int, (ss'.length : Int) ≤ k → runP ss' (padN xs) k = .gave v) ∧ (0 < ss'.length → runP ss' (padN xs) ((ss'.length : Int) - 1) = .tired) ∧ SqL K H7 a0 (ns.map V.int)
theorem min46 (n : Nat) : (if (46 : Int) < (n : Int) then (46 : Int) else (n : Int)) ≤ n ∧ (if (46 : Int) < (n : Int) then (46 : Int) else (n : Int)) ≤ 46 ∧ 0 ≤ (if (46 : Int) < (n : Int) then (46 : Int) else (n : Int)) := by split <;> omega
set_option maxHeartbeats 4000000 in
theorem law_fn {fa : Addr} {fd : FuncData} (T : Txt w K mg a) (F : Fun K "law" "law" s_law fa fd) : FnOk P w K mg base CX0 11 fa fd ["_law_script"] (spLaw K) := by
  refine F.ok (k := 10) sc_law (fun vs H Q E h => ?_) (fun cdv A outer s H vs Q E hr h => ?_)
  · obtain ⟨a0, ns, rfl, _⟩ := h
    rfl
  · obtain ⟨a0, ns, rfl, hS, h63, q⟩ := h
    refine ⟨_, (pss_cons (ps_setC (i := 1) sc_law.nd rfl rfl (own := ["_law_k"]) (fr := [("_law_script", 0)]) rfl ⟨rfl, (by walk_at "clok"), (by walk_at "frok"), rfl, (by decide +kernel), (by decide +kernel), rfl⟩ (pi_range1 rfl T.z_range (pa_cons (pe_op op_mod (pe_callE (ok_law_cell_at (K := K) T) (hr.mono (by decide)) pass0 rfl (pa_cons (pv 0) (pa_cons pe_int pa_nil))) pe_int) pa_nil)) (fun _ _ _ _ => (pg_name (i := 0) (show List.Nodup [("_law_k" : Str), ("_law_script" : Str)] from by decide +kernel) rfl (Or.inl rfl))) (fun _ _ _ _ => pts_nil) (fun _ _ _ _ => (pe_op op_mod (pe_callE (ok_law_cell_at (K := K) T) (hr.mono (by decide)) pass0 rfl (pa_cons (pv 1) (pa_cons (pe_op (op_plusK (K := K) rfl) pe_int (pv 0)) pa_nil))) pe_int)))
      (pss_cons (ps_setC (i := 2) sc_law.nd rfl rfl (own := ["_law_k"]) (fr := [("_law_script", 0)]) rfl ⟨rfl, (by walk_at "clok"), (by walk_at "frok"), rfl, (by decide +kernel), (by decide +kernel), rfl⟩ (pi_range2 rfl T.z_range (pa_cons pe_int (pa_cons (pe_callB (call_minA rfl) rfl T.z_min b_min (pa_cons (pe_callB (call_lenK (K := K) rfl) rfl T.z_len b_len (pa_cons (pv 0) pa_nil)) (pa_cons pe_int pa_nil))) pa_nil))) (fun _ _ _ _ => (pg_name (i := 0) (show List.Nodup [("_law_k" : Str), ("_law_script" : Str)] from by decide +kernel) rfl (Or.inl rfl))) (fun _ _ _ _ => pts_nil) (fun _ _ _ _ => (pe_callE (ok_law_statement (K := K) T) (hr.mono (by decide)) pass0 rfl (pa_cons (pe_ix (ix_K (K := K) rfl) (pv 1) (pv 0) (fun _ _ => rfl)) (pa_cons (pv 0) pa_nil)))))
      (pss_cons (ps_set (i := 3) sc_law.nd rfl (Or.inl rfl) (pe_op (op_plusK (K := K) rfl) (pv 1) (pe_op op_times (pe_lst (pa_cons pe_int pa_nil)) (pe_op op_sub pe_int (pe_callB (call_lenK (K := K) rfl) rfl T.z_len b_len (pa_cons (pv 1) pa_nil))))))
      (pss_cons (ps_for PassesOwn.never rfl (pi_seqK (K := K) rfl (pv 2)) (pg_name (i := 4) sc_law.nd rfl (Or.inl rfl)) (pss_one (ps_set (i := 3) sc_law.nd rfl (Or.inl rfl) (pe_callE (ok_law_done (K := K) T) (hr.mono (by decide)) pass0 rfl (pa_cons (pv 3) (pa_cons (pv 4) pa_nil))))))
      (pss_cons (ps_set (i := 5) sc_law.nd rfl (Or.inl rfl) (pe_tup (pa_cons pe_str (pa_cons pe_int pa_nil))))
      (pss_cons (ps_if (pt_cmpR op_gt (pe_op op_mod (pe_callE (ok_law_cell_at (K := K) T) (hr.mono (by decide)) pass0 rfl (pa_cons (pv 0) (pa_cons pe_int pa_nil))) pe_int) pe_int (nomark _)) (pss_cons (ps_expr (pe_bmK (K := K) rfl PySem.F.plainAttrs_list PySem.F.slot_list_append PySem.F.type_list_append mt_append (pv 2) (pa_cons (pe_tup (pa_cons pe_str (pa_cons (pe_op op_mod (pe_callE (ok_law_cell_at (K := K) T) (hr.mono (by decide)) pass0 rfl (pa_cons (pv 0) (pa_cons pe_int pa_nil))) pe_int) pa_nil))) pa_nil)))
      (pss_one (ps_set (i := 5) sc_law.nd rfl (Or.inl rfl) (pe_tup (pa_cons pe_str (pa_cons (pe_ix (ix_K (K := K) rfl) (pv 3) (pe_op op_mod (pe_callE (ok_law_cell_at (K := K) T) (hr.mono (by decide)) pass0 rfl (pa_cons (pv 0) (pa_cons pe_int pa_nil))) pe_int) (fun _ _ => rfl)) pa_nil)))))) pss_nil)
      (pss_cons (ps_set (i := 6) sc_law.nd rfl (Or.inl rfl) (pe_lst (pa_cons (pe_tup (pa_cons (pe_callB (call_lenK (K := K) rfl) rfl T.z_len b_len (pa_cons (pv 1) pa_nil)) (pa_cons (pv 2) pa_nil))) pa_nil)))
      (pss_cons (ps_set (i := 7) sc_law.nd rfl (Or.inl rfl) (pe_callTy (call_listK (K := K) rfl) rfl T.z_list b_list (pa_cons (pv 1) pa_nil)))
      (pss_cons (ps_if (PW.pt (pw_or (pt_not (pt_truK (K := K) rfl (pe_callE (ok_law_alike (K := K) T) (hr.mono (by decide)) pass0 rfl (pa_cons (pe_callE (ok_run (K := K) T) (hr.mono (by decide)) pass_no rfl (pa_cons (pv 6) (pa_cons (pv 7) (pa_cons (pe_callB (call_lenK (K := K) rfl) rfl T.z_len b_len (pa_cons (pv 2) pa_nil)) pa_nil)))) (pa_cons (pv 5) pa_nil))))) (pw_or1 (pt_cmpR (op_neK (K := K) rfl hr.units) (pv 7) (pv 1) (nomark _))))) (pss_one ps_dead) pss_nil)
      (pss_cons (ps_if (pt_not (pt_truK (K := K) rfl (pe_callE (ok_law_alike (K := K) T) (hr.mono (by decide)) pass0 rfl (pa_cons (pe_callE (ok_run (K := K) T) (hr.mono (by decide)) pass_no rfl (pa_cons (pv 6) (pa_cons (pv 7) (pa_cons (pe_op (op_plusK (K := K) rfl) (pe_op (op_plusK (K := K) rfl) (pe_callB (call_lenK (K := K) rfl) rfl T.z_len b_len (pa_cons (pv 2) pa_nil)) pe_int) (pe_op op_mod (pe_callE (ok_law_cell_at (K := K) T) (hr.mono (by decide)) pass0 rfl (pa_cons (pv 0) (pa_cons pe_int pa_nil))) pe_int)) pa_nil)))) (pa_cons (pv 5) pa_nil))))) (pss_one ps_dead) pss_nil)
      (pss_cons (ps_if (PW.pt (pw_and (pt_cmpR (op_neLA (K := K) rfl hr.units) (pv 2) (pe_lst pa_nil) (nomark _)) (pw_and1 (pt_not (pt_truK (K := K) rfl (pe_callE (ok_law_alike (K := K) T) (hr.mono (by decide)) pass0 rfl (pa_cons (pe_callE (ok_run (K := K) T) (hr.mono (by decide)) pass_no rfl (pa_cons (pv 6) (pa_cons (pv 7) (pa_cons (pe_op op_sub (pe_callB (call_lenK (K := K) rfl) rfl T.z_len b_len (pa_cons (pv 2) pa_nil)) pe_int) pa_nil)))) (pa_cons (pe_tup (pa_cons pe_str pa_nil)) pa_nil)))))))) (pss_one ps_dead) pss_nil)
      (pss_one (ps_ret (pe_and (pe_callE (ok_law_refused (K := K) T) (hr.mono (by decide)) pass0 rfl (pa_cons (pv 6) (pa_cons (pe_op (op_plusK (K := K) rfl) (pv 1) (pe_lst (pa_cons pe_int pa_nil))) pa_nil))) (pe_one (pe_or (pe_cmpR (op_eqK (K := K) rfl hr.units) (pv 1) (pe_lst pa_nil) (nomark _)) (pe_one (pe_callE (ok_law_refused (K := K) T) (hr.mono (by decide)) pass0 rfl (pa_cons (pv 6) (pa_cons (pe_slice (sl_K (K := K) rfl) (pv 1) (po_some pe_int) po_none) pa_nil)))))))))))))))))))), ?_⟩
    refine r_st (σ' := [some _, none, none, none, none, none, none, none]) rfl ?_
    walk_at "rd"
    have hm : (cellAt ns 0 % 4).toNat ≤ 3 := by omega
    generalize (cellAt ns 0 % 4).toNat = n at hm ⊢
    refine comp_mapR (fun k => .int (cellAt ns (1 + (0 + (k : Int))) % 4294967296)) (fun σ => ∃ v, σ = [v, some (.ref a0)]) (by walk_at "small") ⟨_, rfl⟩ ?_ ?_
    · rintro i ys σ H1 hi cc s1 ⟨v, rfl⟩
      have hS1 := Same.seq s1 hS
      walk_at "rd"
      exact cc.next (range_get hi) rfl (by walk_at "same") ⟨_, rfl⟩
    intro H1 s1 lv nlv
    rw [map_int]
    have hxl : ((List.range n).map fun k : Nat => cellAt ns (1 + (0 + (k : Int))) % 4294967296).length = n := by rw [List.length_map, List.length_range]
    have hxv : ∀ x ∈ ((List.range n).map fun k : Nat => cellAt ns (1 + (0 + (k : Int))) % 4294967296), isVal x := fun x hx => by
      obtain ⟨k, _, rfl⟩ := List.mem_map.mp hx
      exact val_mod _
    generalize ((List.range n).map fun k : Nat => cellAt ns (1 + (0 + (k : Int))) % 4294967296) = xs at hxl hxv ⊢
    subst hxl
    have s2 := s1.trans (same_new (o := .lst (xs.map V.int)) nlv)
    have hlv : (upd H1 lv (.lst (xs.map V.int))) lv = some (.lst (xs.map V.int)) := upd_same
    generalize (upd H1 lv (.lst (xs.map V.int))) = H2 at s2 hlv ⊢
    have hS2 := Same.seq s2 hS
    clear s1 nlv hS s2
    walk_at "rd"
    have hmn := min46 ns.length
    generalize (if (46 : Int) < (ns.length : Int) then (46 : Int) else (ns.length : Int)) = e at hmn ⊢
    refine ⟨6, e, rfl, ⟨by omega, by omega, by omega, by omega⟩, ?_⟩
    refine comp_range (fun i ys σ H3 => (∃ v, σ = [v, some (.ref a0)]) ∧ Same H2 H3 ∧ ∃ (ps : List Addr) (ss : List Sm), ys = ps.map V.ref ∧ ps.length = i ∧ SmsAt H3 ps ss ∧ ∀ r ∈ ss, r.ok ∧ r.fills) ⟨⟨_, rfl⟩, Same.refl _, [], [], rfl, rfl, SmsAt.nil, (fun _ z => by cases z)⟩ ?_ ?_ ?_
    · rintro i ys σ H3 hi ⟨_, _, ps, ss, rfl, e, _⟩
      rw [List.length_map, e]
      walk_at "small"
    · rintro i ys σ H3 hi ⟨⟨v, rfl⟩, s3, ps, ss, rfl, hl, hss, hok⟩
      have hS3 := Same.seq s3 hS2
      walk_at "rd"
      refine ⟨_, _, rfl, by omega, by omega, fun p sm H4 s4 hp ok hf => ?_⟩
      refine ⟨⟨_, rfl⟩, s3.trans s4, ps ++ [p], ss ++ [sm], by rw [List.map_append]; rfl, by rw [List.length_append, hl]; rfl, (hss.same s4).snoc hp, fun x hx => ?_⟩
      rcases List.mem_append.mp hx with z | z
      · exact hok x z
      · have e : x = sm := by simpa using z
        rw [e]; exact ⟨ok, hf⟩
    rintro ys σ H3 ⟨_, s3, ps, ss, rfl, hl, hss, hok⟩ lb nlb
    have hsl := hss.1
    have hn40 : ss.length ≤ 40 := by omega
    have hS3 := Same.seq s3 hS2
    have hK : ∀ H', (∀ b o, H3 b = some o → H' b = some o) → SqL K H' a0 (ns.map V.int) := fun H' s => Same.seq (show Same H3 H' from s) hS3
    have hlv3 := s3 _ _ hlv
    have s4 := same_new (o := .lst (ps.map V.ref)) nlb
    have hlb : (upd H3 lb (.lst (ps.map V.ref))) lb = some (.lst (ps.map V.ref)) := upd_same
    have nbv : lb ≠ lv := (ne_of_none hlv3 nlb).symm
    generalize (upd H3 lb (.lst (ps.map V.ref))) = H4 at s4 hlb ⊢
    have hS4 := Same.seq s4 hS3
    have hlv4 := s4 _ _ hlv3
    have hss4 := hss.same s4
    have h34 : ∀ b o, H3 b = some o → H4 b = some o := fun b o e => s4 b o e
    have nlb3 : id (H3 lb = none) := nlb
    clear s3 hss hS2 hlv nlb s4 hS3 hlv3
    walk_at "rd"
    rename_i l1 n1 l2 n2 ln nln
    have e6 : (6 - (xs.length : Int)).toNat = 6 - xs.length := by omega
    rw [e6] at nln ⊢
    have s5 := (same_new (o := .lst [.int 0]) n1).trans ((same_new (o := .lst ((List.replicate (6 - xs.length) (0 : Int)).map V.int)) n2).trans (same_new (o := .lst ((xs ++ List.replicate (6 - xs.length) 0).map V.int)) nln))
    have hln : (upd (upd (upd H4 l1 (.lst [.int 0])) l2 (.lst ((List.replicate (6 - xs.length) (0 : Int)).map V.int))) ln (.lst ((xs ++ List.replicate (6 - xs.length) 0).map V.int))) ln = some (.lst ((xs ++ List.replicate (6 - xs.length) 0).map V.int)) := upd_same
    have hN6 : (xs ++ List.replicate (6 - xs.length) (0 : Int)).length = 6 := by rw [List.length_append, List.length_replicate]; omega
    have hNv : ∀ x ∈ (xs ++ List.replicate (6 - xs.length) (0 : Int)), isVal x := fun x hx => by
      rcases List.mem_append.mp hx with z | z
      · exact hxv x z
      · rw [List.eq_of_mem_replicate z]; exact ⟨by decide, by decide⟩
    generalize (upd (upd (upd H4 l1 (.lst [.int 0])) l2 (.lst ((List.replicate (6 - xs.length) (0 : Int)).map V.int))) ln (.lst ((xs ++ List.replicate (6 - xs.length) 0).map V.int))) = H5 at s5 hln ⊢
    have hS5 := Same.seq s5 hS4
    have hlv5 := s5 _ _ hlv4
    have hlb5 := s5 _ _ hlb
    have hss5 := hss4.same s5
    have h35 : ∀ b o, H3 b = some o → H5 b = some o := fun b o e => s5 b o (h34 b o e)
    clear h34 s5 n1 n2 nln hS4 hlv4 hlb hss4
    have hN0 : padN xs = (xs ++ List.replicate (6 - xs.length) 0) ++ [0, 0] := by
      unfold padN
      rw [List.append_assoc]
      congr 1
      rw [show 8 - xs.length = (6 - xs.length) + 2 by omega, ← List.replicate_append_replicate]; rfl
    generalize (xs ++ List.replicate (6 - xs.length) (0 : Int)) = N0 at hln hN6 hNv hN0
    refine for_list (K := K) (a := lb) (xs := ps.map V.ref) (fun i σ H6 => (∃ ln u, σ = [some (.ref a0), some (.ref lv), some (.ref lb), some (.ref ln), u, none, none, none] ∧ H6 ln = some (.lst (((ss.take i).foldl Sm.done N0).map V.int))) ∧ Same H5 H6) ⟨⟨ln, _, rfl, hln⟩, Same.refl _⟩ (fun i σ H6 _ ⟨_, s6⟩ => SqL.of (s6 _ _ hlb5)) ?_ ?_
    · clear hln
      rintro i v σ H6 hv ⟨⟨ln, u, rfl, hln⟩, s6⟩
      obtain ⟨p, hx, rfl⟩ : ∃ p, ps[i]? = some p ∧ v = .ref p := by
        rw [List.getElem?_map] at hv
        obtain ⟨p, hp, e⟩ := Option.map_eq_some_iff.mp hv
        exact ⟨p, hp, e.symm⟩
      have hi : i < ss.length := by rw [← hsl]; exact (List.getElem?_eq_some_iff.mp hx).1
      have hsi : ss[i]? = some ss[i] := List.getElem?_eq_getElem hi
      have hki := hok _ (List.mem_of_getElem? hsi)
      walk_at "rd"
      refine ⟨ln, p, _, ss[i], rfl, hln, by rw [fold_len]; exact hN6, fold_val _ _ (fun s hs => (hok s (List.mem_of_mem_take hs)).1) hNv, s6 _ _ (hss5.2 i p _ hx hsi), hki.1, hki.2, fun l7 H7 s7 hl7 => ?_⟩
      walk_at "rd"
      refine ⟨⟨l7, _, rfl, ?_⟩, s6.trans s7⟩
      rw [List.take_add_one, hsi, Option.toList_some, List.foldl_append]
      exact hl7
    rintro σ H6 ⟨⟨ln', u, rfl, hln'⟩, s6⟩
    rw [List.length_map, hsl, List.take_length] at hln'
    have hF6 : (ss.foldl Sm.done N0).length = 6 := by rw [fold_len]; exact hN6
    have hS6 := Same.seq s6 hS5
    have hlv6 := s6 _ _ hlv5
    have hlb6 := s6 _ _ hlb5
    have hss6 := hss5.same s6
    have h36 : ∀ b o, H3 b = some o → H6 b = some o := fun b o e => s6 b o (h35 b o e)
    have nlnb : ln' ≠ lb := fun z => by
      rw [z, hlb6] at hln'
      have e := ref_int (HO.lst.inj (Option.some.inj hln'))
      rw [e] at hF6; cases hF6
    clear s6 hS5 hlv5 hlb5 hss5 hln h35
    refine' join_d (D := DueD K a0 lb lv ns xs) (PP := ?PP) ?key (fun kk => ?use)
    case use =>
      walk_at "rd"
      rename_i u1 nu1
      refine ifDec (fun hh => ?_) (fun hh => ?_)
      · have hx5 : 0 ≤ cellAt ns 5 % 6 ∧ cellAt ns 5 % 6 ≤ 5 := by omega
        walk_at "rd"
        rename_i tg ntg
        have hsg := (hss6.same ((same_new (o := .tup [.str "gave", .int 0]) nu1).trans (same_new (o := .tup [.str "give", .int (cellAt ns 5 % 6)]) ntg))).snoc (p := tg) (s := .give (cellAt ns 5 % 6)) upd_same
        have hsg := hsg.to (tup_upd (l := lb) (o := .lst (ps.map V.ref ++ [.ref tg])) (look_new (look_new hlb6 nu1) ntg))
        have hS7 := hK (upd (upd (upd H6 u1 (.tup [.str "gave", .int 0])) tg (.tup [.str "give", .int (cellAt ns 5 % 6)])) lb (.lst (ps.map V.ref ++ [.ref tg]))) (fun b o e => by rw [upd_ne (ne_of_none e nlb3)]; exact look_new (look_new (h36 b o e) nu1) ntg)
        have hln7 : (upd (upd (upd H6 u1 (.tup [.str "gave", .int 0])) tg (.tup [.str "give", .int (cellAt ns 5 % 6)])) lb (.lst (ps.map V.ref ++ [.ref tg]))) ln' = some (.lst ((ss.foldl Sm.done N0).map V.int)) := look_ne nlnb (look_new (look_new hln' nu1) ntg)
        have hlv7 : (upd (upd (upd H6 u1 (.tup [.str "gave", .int 0])) tg (.tup [.str "give", .int (cellAt ns 5 % 6)])) lb (.lst (ps.map V.ref ++ [.ref tg]))) lv = some (.lst (xs.map V.int)) := look_ne nbv.symm (look_new (look_new hlv6 nu1) ntg)
        have hlb7 : (upd (upd (upd H6 u1 (.tup [.str "gave", .int 0])) tg (.tup [.str "give", .int (cellAt ns 5 % 6)])) lb (.lst (ps.map V.ref ++ [.ref tg]))) lb = some (.lst ((ps ++ [tg]).map V.ref)) := by rw [upd_same, List.map_append]; rfl
        generalize (upd (upd (upd H6 u1 (.tup [.str "gave", .int 0])) tg (.tup [.str "give", .int (cellAt ns 5 % 6)])) lb (.lst (ps.map V.ref ++ [.ref tg]))) = H7 at hsg hS7 hln7 hlv7 hlb7 ⊢
        refine r_cellAt hS7 (by omega) ?_
        refine r_c ?_
        refine r_I (show (0 : Int) < 6 by decide) ?_
        refine r_ixL (SqL.of hln7) (gI_at (by omega) (by omega)) ?_
        refine r_nil ?_
        refine r_small (by walk_at "small") (r_alloc fun u8 nu8 => ?_)
        (refine' r_gN ?x5 ?_; (case x5 => simp only [List.set_cons_succ, List.set_cons_zero]; rfl))
        obtain ⟨g1, g2⟩ := run_give (ss := ss) (x := cellAt ns 5 % 6) hN6 hok hx5.1 hx5.2
        rw [← hN0] at g1 g2
        refine kk u8 _ ⟨ps ++ [tg], ss ++ [.give (cellAt ns 5 % 6)], _, look_new hlb7 nu8, hsg.same (same_new nu8), fun s hs => ?_, by rw [List.length_append]; show _ + 1 ≤ 41; omega, look_new hlv7 nu8, upd_same, g1, fun _ => g2, sql_new hS7 nu8⟩
        rcases List.mem_append.mp hs with z | z
        · exact (hok s z).1
        · have e : s = .give (cellAt ns 5 % 6) := by simpa using z
          rw [e]; exact hx5
      · refine r_next ?_
        obtain ⟨g1, g2⟩ := run_end hN6 hok
        rw [← hN0] at g1 g2
        exact kk u1 _ ⟨ps, ss, 0, look_new hlb6 nu1, hss6.same (same_new nu1), fun s hs => (hok s hs).1, by omega, look_new hlv6 nu1, upd_same, g1, g2, sql_new hS6 nu1⟩
    case key =>
      rintro u5 H7 ⟨ps', ss', v, hlb7, hss7, hok7, h41, hlv7, hu7, hr1, hr2, hS7⟩
      clear hlb6 hss6 hlv6 hln' hS6 nlnb hF6 hNv hN6 hN0 hok hn40 hsl hl hK h36 nlb3 hmn
      have hpl7 := hss7.1
      walk_at "rd"
      rename_i tp ntp lp nlp lh nlh
      have s8 := (same_new (o := .tup [.int (xs.length : Int), .ref lb]) ntp).trans ((same_new (o := .lst [.ref tp]) nlp).trans (same_new (o := .lst (xs.map V.int)) nlh))
      have hpr : ProgAt (upd (upd (upd H7 tp (.tup [.int (xs.length : Int), .ref lb])) lp (.lst [.ref tp])) lh (.lst (xs.map V.int))) lp xs.length ss' := ⟨tp, lb, ps', look_new upd_same nlh, look_new (look_new upd_same nlp) nlh, s8 _ _ hlb7, hss7.same s8, hok7, by omega, by omega, by omega⟩
      have hlh : (upd (upd (upd H7 tp (.tup [.int (xs.length : Int), .ref lb])) lp (.lst [.ref tp])) lh (.lst (xs.map V.int))) lh = some (.lst (xs.map V.int)) := upd_same
      generalize (upd (upd (upd H7 tp (.tup [.int (xs.length : Int), .ref lb])) lp (.lst [.ref tp])) lh (.lst (xs.map V.int))) = H8 at s8 hpr hlh ⊢
      have hlb8 := s8 _ _ hlb7
      have hlv8 := s8 _ _ hlv7
      have hu8 := s8 _ _ hu7
      have hS8 := Same.seq s8 hS7
      clear s8 ntp nlp nlh hlb7 hlv7 hu7 hS7 hss7
      refine ⟨lp, lh, _, xs.length, ss', xs, rfl, hpr, hlh, by omega, .inl ⟨rfl, hxv, fun t H9 s9 ht => ?_⟩⟩
      rw [hr1 _ (by rw [List.length_map]; omega)] at ht
      have hpr9 := hpr.same s9
      have hlh9 := s9 _ _ hlh
      have hlb9 := s9 _ _ hlb8
      have hlv9 := s9 _ _ hlv8
      have hu9 := s9 _ _ hu8
      have hS9 := Same.seq s9 hS8
      clear s9 hpr hlh hlb8 hlv8 hu8 hS8
      walk_at "rd"
      refine ⟨t, u5, .gave v, rfl, ht, hu9, fun HA sA => ?_⟩
      have hprA := hpr9.same sA
      have hlhA := sA _ _ hlh9
      have hlbA := sA _ _ hlb9
      have hlvA := sA _ _ hlv9
      have huA := sA _ _ hu9
      have hSA := Same.seq sA hS9
      clear sA hpr9 hlh9 hlb9 hlv9 hu9 hS9 ht
      walk_at "rd"
      refine r_neT (.list (xs.map .int)) (dp_ints (SqL.of hlhA)) (dp_ints (SqL.of hlvA)) (shaped_ints _) ?_
      walk_at "rd"
      refine ⟨lp, lh, _, xs.length, ss', xs, rfl, hprA, hlhA, by omega, .inl ⟨rfl, hxv, fun t H9 s9 ht => ?_⟩⟩
      rw [hr1 _ (by rw [List.length_map]; omega)] at ht
      have hpr9 := hprA.same s9
      have hlh9 := s9 _ _ hlhA
      have hlb9 := s9 _ _ hlbA
      have hlv9 := s9 _ _ hlvA
      have hu9 := s9 _ _ huA
      clear s9 hprA hlhA hlbA hlvA huA hSA
      walk_at "rd"
      refine ⟨t, u5, .gave v, rfl, ht, hu9, fun HA sA => ?_⟩
      have hprA := hpr9.same sA
      have hlhA := sA _ _ hlh9
      have hlbA := sA _ _ hlb9
      have hlvA := sA _ _ hlv9
      clear sA hpr9 hlh9 hlb9 hlv9 hu9 ht
      walk_at "rd"
      rename_i lz nlz
      refine r_neRows (look_new hlbA nlz) upd_same ?_
      have hprB := hprA.same (same_new (o := .lst []) nlz)
      have hlhB := look_new (o := .lst []) hlhA nlz
      have hlbB := look_new (o := .lst []) hlbA nlz
      have hlvB := look_new (o := .lst []) hlvA nlz
      generalize (upd HA lz (.lst [])) = HB at hprB hlhB hlbB hlvB ⊢
      clear hprA hlhA hlbA hlvA nlz
      by_cases h1 : 0 < ps'.length
      · rw [decide_eq_true h1]
        walk_at "rd"
        refine ⟨lp, lh, _, xs.length, ss', xs, rfl, hprB, hlhB, by omega, .inl ⟨rfl, hxv, fun t H9 s9 ht => ?_⟩⟩
        rw [List.length_map, hpl7, hr2 (by omega)] at ht
        have hpr9 := hprB.same s9
        have hlv9 := s9 _ _ hlvB
        clear s9 hprB hlhB hlbB hlvB
        walk_at "rd"
        rename_i tt ntt
        refine ⟨t, tt, .tired, rfl, look_new ht ntt, upd_same, fun HC sC => ?_⟩
        have hprC := hpr9.same ((same_new ntt).trans sC)
        have hlvC := sC _ _ (look_new hlv9 ntt)
        clear sC ntt hpr9 hlv9 ht
        walk_at "rd"
        rename_i l1 n1
        refine r_plusII (xs := xs) (ys := [1]) (look_new hlvC n1) upd_same (by walk_at "small") fun l2 n2 => ?_
        have sD := (same_new (o := .lst [.int 1]) n1).trans (same_new (o := .lst ((xs ++ [1]).map V.int)) n2)
        have hl2 : (upd (upd HC l1 (.lst [.int 1])) l2 (.lst ((xs ++ [1]).map V.int))) l2 = some (.lst ((xs ++ [1]).map V.int)) := upd_same
        generalize (upd (upd HC l1 (.lst [.int 1])) l2 (.lst ((xs ++ [1]).map V.int))) = HD at sD hl2 ⊢
        have hprD := hprC.same sD
        have hlvD := sD _ _ hlvC
        clear sD n1 n2 hprC hlvC
        walk_at "rd"
        refine ⟨lp, l2, xs.length, ss', xs ++ [1], rfl, hprD, hl2, by rw [List.length_append]; show _ + 1 ≤ 4; omega, by rw [List.length_append]; show ((_ + 1 : Nat) : Int) ≠ _; omega, fun HE sE => ?_⟩
        have hprE := hprD.same sE
        have hlvE := sE _ _ hlvD
        clear sE hprD hlvD hl2
        walk_at "rd"
        rename_i lz2 nlz2
        refine r_eqNil (xs := xs) (SqL.of (look_new hlvE nlz2)) (SqL.of upd_same) ?_
        have hprF := hprE.same (same_new (o := .lst []) nlz2)
        have hlvF := look_new (o := .lst []) hlvE nlz2
        generalize (upd HE lz2 (.lst [])) = HF at hprF hlvF ⊢
        clear nlz2 hprE hlvE
        cases hxs : xs.isEmpty with
        | true =>
          walk_at "rd"
          exact q _
        | false =>
          have hx0 : 0 < xs.length := by
            cases xs with
            | nil => cases hxs
            | cons x r => exact Nat.succ_pos _
          walk_at "rd"
          rename_i lc nlc
          rw [cutI_drop xs (by decide) (by omega)]
          refine ⟨lp, lc, xs.length, ss', xs.drop (1 : Int).toNat, rfl, hprF.same (same_new nlc), upd_same, by rw [List.length_drop]; omega, by rw [List.length_drop]; show ((xs.length - 1 : Nat) : Int) ≠ _; omega, fun HG sG => ?_⟩
          walk_at "rd"
          exact q _
      · rw [decide_eq_false h1]
        have hprC := hprB
        have hlvC := hlvB
        clear hprB hlvB hlhB hlbB
        generalize HB = HC at hprC hlvC ⊢
        walk_at "rd"
        rename_i l1 n1
        refine r_plusII (xs := xs) (ys := [1]) (look_new hlvC n1) upd_same (by walk_at "small") fun l2 n2 => ?_
        have sD := (same_new (o := .lst [.int 1]) n1).trans (same_new (o := .lst ((xs ++ [1]).map V.int)) n2)
        have hl2 : (upd (upd HC l1 (.lst [.int 1])) l2 (.lst ((xs ++ [1]).map V.int))) l2 = some (.lst ((xs ++ [1]).map V.int)) := upd_same
        generalize (upd (upd HC l1 (.lst [.int 1])) l2 (.lst ((xs ++ [1]).map V.int))) = HD at sD hl2 ⊢
        have hprD := hprC.same sD
        have hlvD := sD _ _ hlvC
        clear sD n1 n2 hprC hlvC
        walk_at "rd"
        refine ⟨lp, l2, xs.length, ss', xs ++ [1], rfl, hprD, hl2, by rw [List.length_append]; show _ + 1 ≤ 4; omega, by rw [List.length_append]; show ((_ + 1 : Nat) : Int) ≠ _; omega, fun HE sE => ?_⟩
        have hprE := hprD.same sE
        have hlvE := sE _ _ hlvD
        clear sE hprD hlvD hl2
        walk_at "rd"
        rename_i lz2 nlz2
        refine r_eqNil (xs := xs) (SqL.of (look_new hlvE nlz2)) (SqL.of upd_same) ?_
        have hprF := hprE.same (same_new (o := .lst []) nlz2)
        have hlvF := look_new (o := .lst []) hlvE nlz2
        generalize (upd HE lz2 (.lst [])) = HF at hprF hlvF ⊢
        clear nlz2 hprE hlvE
        cases hxs : xs.isEmpty with
        | true =>
          walk_at "rd"
          exact q _
        | false =>
          have hx0 : 0 < xs.length := by
            cases xs with
            | nil => cases hxs
            | cons x r => exact Nat.succ_pos _
          walk_at "rd"
          rename_i lc nlc
          rw [cutI_drop xs (by decide) (by omega)]
          refine ⟨lp, lc, xs.length, ss', xs.drop (1 : Int).toNat, rfl, hprF.same (same_new nlc), upd_same, by rw [List.length_drop]; omega, by rw [List.length_drop]; show ((xs.length - 1 : Nat) : Int) ≠ _; omega, fun HG sG => ?_⟩
          walk_at "rd"
          exact q _
end
set_option maxHeartbeats 8000000 in
theorem txt_mk {w : World} {K : PySem.W.Frag} {h : Heap} {mg : Str → Option Value} {fa : Addr} (X : K.In h) (G : h.Ns mainGlobals mg) (hfa : mg "law" = some (.ref fa))
    {t_NOUGHT : Tok}
    {G_PARTS : Addr} {ep_PARTS : Nat}
    {tk1 : Tok} {q0_PARTS : Addr}
    {tk2 : Tok}
    {tk3 : Tok}
    {od4 : Option Addr} {nn4 : Nat} {sl4 : Array (Option Value)}
    {tk5 : Tok} {q1_PARTS : Addr}
    {tk6 : Tok}
    {tk7 : Tok}
    {od8 : Option Addr} {nn8 : Nat} {sl8 : Array (Option Value)}
    {tk9 : Tok} {q2_PARTS : Addr}
    {tk10 : Tok}
    {tk11 : Tok}
    {tk12 : Tok}
    {od13 : Option Addr} {nn13 : Nat} {sl13 : Array (Option Value)}
    {tk14 : Tok} {q3_PARTS : Addr}
    {tk15 : Tok}
    {tk16 : Tok}
    {tk17 : Tok}
    {od18 : Option Addr} {nn18 : Nat} {sl18 : Array (Option Value)}
    {tk19 : Tok} {q4_PARTS : Addr}
    {tk20 : Tok}
    {tk21 : Tok}
    {tk22 : Tok}
    {od23 : Option Addr} {nn23 : Nat} {sl23 : Array (Option Value)}
    {tk24 : Tok} {q5_PARTS : Addr}
    {tk25 : Tok}
    {tk26 : Tok}
    {tk27 : Tok}
    {od28 : Option Addr} {nn28 : Nat} {sl28 : Array (Option Value)}
    {tk29 : Tok} {q6_PARTS : Addr}
    {tk30 : Tok}
    {tk31 : Tok}
    {tk32 : Tok}
    {od33 : Option Addr} {nn33 : Nat} {sl33 : Array (Option Value)}
    {tk34 : Tok} {q7_PARTS : Addr}
    {tk35 : Tok}
    {tk36 : Tok}
    {tk37 : Tok}
    {od38 : Option Addr} {nn38 : Nat} {sl38 : Array (Option Value)}
    {tk39 : Tok} {q8_PARTS : Addr}
    {tk40 : Tok}
    {tk41 : Tok}
    {od42 : Option Addr} {nn42 : Nat} {sl42 : Array (Option Value)}
    {tk43 : Tok} {q9_PARTS : Addr}
    {tk44 : Tok}
    {tk45 : Tok}
    {tk46 : Tok}
    {od47 : Option Addr} {nn47 : Nat} {sl47 : Array (Option Value)}
    {tk48 : Tok} {q10_PARTS : Addr}
    {tk49 : Tok}
    {od50 : Option Addr} {nn50 : Nat} {sl50 : Array (Option Value)}
    {tk51 : Tok} {q11_PARTS : Addr}
    {tk52 : Tok}
    {od53 : Option Addr} {nn53 : Nat} {sl53 : Array (Option Value)}
    {tk54 : Tok} {q12_PARTS : Addr}
    {tk55 : Tok}
    {tk56 : Tok}
    {od57 : Option Addr} {nn57 : Nat} {sl57 : Array (Option Value)}
    {t_TOP_FUNCTIONS : Tok}
    {t_TOP_HANDED : Tok}
    {t_TOP_NAME : Tok}
    {t_TOP_STATEMENTS : Tok}
    {t_TOP_VALUE : Tok}
    {t_TOP_WITHIN : Tok}
    {tk58 : Tok}
    {tk59 : Tok}
    {od60 : Option Addr} {nn60 : Nat} {sl60 : Array (Option Value)}
    {G_UNCOUNTED : Addr}
    {t_VALUES : Tok}
    {C_Doing : Addr}
    {C_NoProgram : Addr}
    {C_Run : Addr}
    {f61 : Addr} {od61 an61 : Option Addr} {sl61 : Array (Option Value)} {oc61 kV61 dc61 pm61 cd61 ct61 : Value}
    {f62 : Addr} {od62 an62 : Option Addr} {sl62 : Array (Option Value)} {oc62 kV62 dc62 pm62 cd62 ct62 : Value}
    {f63 : Addr} {od63 an63 : Option Addr} {sl63 : Array (Option Value)} {oc63 kV63 dc63 pm63 cd63 ct63 : Value}
    {f64 : Addr} {od64 an64 : Option Addr} {sl64 : Array (Option Value)} {oc64 kV64 dc64 pm64 cd64 ct64 : Value}
    {f65 : Addr} {od65 an65 : Option Addr} {sl65 : Array (Option Value)} {oc65 kV65 dc65 pm65 cd65 ct65 : Value}
    {f66 : Addr} {od66 an66 : Option Addr} {sl66 : Array (Option Value)} {oc66 kV66 dc66 pm66 cd66 ct66 : Value}
    {f67 : Addr} {od67 an67 : Option Addr} {sl67 : Array (Option Value)} {oc67 kV67 dc67 pm67 cd67 ct67 : Value}
    {f68 : Addr} {od68 an68 : Option Addr} {sl68 : Array (Option Value)} {oc68 kV68 dc68 pm68 cd68 ct68 : Value}
    {f69 : Addr} {od69 an69 : Option Addr} {sl69 : Array (Option Value)} {oc69 kV69 dc69 pm69 cd69 ct69 : Value}
    {f70 : Addr} {od70 an70 : Option Addr} {sl70 : Array (Option Value)} {oc70 kV70 dc70 pm70 cd70 ct70 : Value}
    {f71 : Addr} {od71 an71 : Option Addr} {sl71 : Array (Option Value)} {oc71 kV71 dc71 pm71 cd71 ct71 : Value}
    {f72 : Addr} {od72 an72 : Option Addr} {sl72 : Array (Option Value)} {oc72 kV72 dc72 pm72 cd72 ct72 : Value}
    {f73 : Addr} {od73 an73 : Option Addr} {sl73 : Array (Option Value)} {oc73 kV73 dc73 pm73 cd73 ct73 : Value}
    {f74 : Addr} {od74 an74 : Option Addr} {sl74 : Array (Option Value)} {oc74 kV74 dc74 pm74 cd74 ct74 : Value}
    {f75 : Addr} {od75 an75 : Option Addr} {sl75 : Array (Option Value)} {oc75 kV75 dc75 pm75 cd75 ct75 : Value}
    {f76 : Addr} {od76 an76 : Option Addr} {sl76 : Array (Option Value)} {oc76 kV76 dc76 pm76 cd76 ct76 : Value}
    {f77 : Addr} {od77 an77 : Option Addr} {sl77 : Array (Option Value)} {oc77 kV77 dc77 pm77 cd77 ct77 : Value}
    {f78 : Addr} {od78 an78 : Option Addr} {sl78 : Array (Option Value)} {oc78 kV78 dc78 pm78 cd78 ct78 : Value}
    {f79 : Addr} {od79 an79 : Option Addr} {sl79 : Array (Option Value)} {oc79 kV79 dc79 pm79 cd79 ct79 : Value}
    {f80 : Addr} {od80 an80 : Option Addr} {sl80 : Array (Option Value)} {oc80 kV80 dc80 pm80 cd80 ct80 : Value}
    {f81 : Addr} {od81 an81 : Option Addr} {sl81 : Array (Option Value)} {oc81 kV81 dc81 pm81 cd81 ct81 : Value}
    {f82 : Addr} {od82 an82 : Option Addr} {sl82 : Array (Option Value)} {oc82 kV82 dc82 pm82 cd82 ct82 : Value}
    {f83 : Addr} {od83 an83 : Option Addr} {sl83 : Array (Option Value)} {oc83 kV83 dc83 pm83 cd83 ct83 : Value}
    {f84 : Addr} {od84 an84 : Option Addr} {sl84 : Array (Option Value)} {oc84 kV84 dc84 pm84 cd84 ct84 : Value}
    {f85 : Addr} {od85 an85 : Option Addr} {sl85 : Array (Option Value)} {oc85 kV85 dc85 pm85 cd85 ct85 : Value}
    {f86 : Addr} {od86 an86 : Option Addr} {sl86 : Array (Option Value)} {oc86 kV86 dc86 pm86 cd86 ct86 : Value}
    {f87 : Addr} {od87 an87 : Option Addr} {sl87 : Array (Option Value)} {oc87 kV87 dc87 pm87 cd87 ct87 : Value}
    (z_all : PySem.W.nsIn K mainGlobals "all" = some none)
    (z_bool : PySem.W.nsIn K mainGlobals "bool" = some none)
    (z_int : PySem.W.nsIn K mainGlobals "int" = some none)
    (z_isinstance : PySem.W.nsIn K mainGlobals "isinstance" = some none)
    (z_len : PySem.W.nsIn K mainGlobals "len" = some none)
    (z_list : PySem.W.nsIn K mainGlobals "list" = some none)
    (z_min : PySem.W.nsIn K mainGlobals "min" = some none)
    (z_range : PySem.W.nsIn K mainGlobals "range" = some none)
    (z_str : PySem.W.nsIn K mainGlobals "str" = some none)
    (z_tuple : PySem.W.nsIn K mainGlobals "tuple" = some none)
    (z_zip : PySem.W.nsIn K mainGlobals "zip" = some none)
    (g_NOUGHT : PySem.W.nsIn K mainGlobals "NOUGHT" = some (some (Value.int 7 t_NOUGHT)))
    (g_PARTS : PySem.W.nsIn K mainGlobals "PARTS" = some (some (.ref G_PARTS)))
    (l_PARTS : K.lookup G_PARTS = some ⟨.type "dict", none, .dict #[{ hash := PyData.keyHash w.params "set", key := .str "set" tk1, val := .ref q0_PARTS }, { hash := PyData.keyHash w.params "copy", key := .str "copy" tk5, val := .ref q1_PARTS }, { hash := PyData.keyHash w.params "sum", key := .str "sum" tk9, val := .ref q2_PARTS }, { hash := PyData.keyHash w.params "minus", key := .str "minus" tk14, val := .ref q3_PARTS }, { hash := PyData.keyHash w.params "product", key := .str "product" tk19, val := .ref q4_PARTS }, { hash := PyData.keyHash w.params "less", key := .str "less" tk24, val := .ref q5_PARTS }, { hash := PyData.keyHash w.params "call", key := .str "call" tk29, val := .ref q6_PARTS }, { hash := PyData.keyHash w.params "if", key := .str "if" tk34, val := .ref q7_PARTS }, { hash := PyData.keyHash w.params "while", key := .str "while" tk39, val := .ref q8_PARTS }, { hash := PyData.keyHash w.params "try", key := .str "try" tk43, val := .ref q9_PARTS }, { hash := PyData.keyHash w.params "drop", key := .str "drop" tk48, val := .ref q10_PARTS }, { hash := PyData.keyHash w.params "give", key := .str "give" tk51, val := .ref q11_PARTS }, { hash := PyData.keyHash w.params "hand", key := .str "hand" tk54, val := .ref q12_PARTS }] ep_PARTS, #[]⟩)
    (y_PARTS : (G_PARTS == sysModules) = false)
    (t4_PARTS : K.lookup q0_PARTS = some ⟨.type "tuple", od4, .seq #[.str "name" tk2, .str "value" tk3] nn4, sl4⟩)
    (t8_PARTS : K.lookup q1_PARTS = some ⟨.type "tuple", od8, .seq #[.str "name" tk6, .str "name" tk7] nn8, sl8⟩)
    (t13_PARTS : K.lookup q2_PARTS = some ⟨.type "tuple", od13, .seq #[.str "name" tk10, .str "name" tk11, .str "name" tk12] nn13, sl13⟩)
    (t18_PARTS : K.lookup q3_PARTS = some ⟨.type "tuple", od18, .seq #[.str "name" tk15, .str "name" tk16, .str "name" tk17] nn18, sl18⟩)
    (t23_PARTS : K.lookup q4_PARTS = some ⟨.type "tuple", od23, .seq #[.str "name" tk20, .str "name" tk21, .str "name" tk22] nn23, sl23⟩)
    (t28_PARTS : K.lookup q5_PARTS = some ⟨.type "tuple", od28, .seq #[.str "name" tk25, .str "name" tk26, .str "name" tk27] nn28, sl28⟩)
    (t33_PARTS : K.lookup q6_PARTS = some ⟨.type "tuple", od33, .seq #[.str "name" tk30, .str "function" tk31, .str "names" tk32] nn33, sl33⟩)
    (t38_PARTS : K.lookup q7_PARTS = some ⟨.type "tuple", od38, .seq #[.str "name" tk35, .str "statements" tk36, .str "statements" tk37] nn38, sl38⟩)
    (t42_PARTS : K.lookup q8_PARTS = some ⟨.type "tuple", od42, .seq #[.str "name" tk40, .str "statements" tk41] nn42, sl42⟩)
    (t47_PARTS : K.lookup q9_PARTS = some ⟨.type "tuple", od47, .seq #[.str "statements" tk44, .str "name" tk45, .str "statements" tk46] nn47, sl47⟩)
    (t50_PARTS : K.lookup q10_PARTS = some ⟨.type "tuple", od50, .seq #[.str "name" tk49] nn50, sl50⟩)
    (t53_PARTS : K.lookup q11_PARTS = some ⟨.type "tuple", od53, .seq #[.str "name" tk52] nn53, sl53⟩)
    (t57_PARTS : K.lookup q12_PARTS = some ⟨.type "tuple", od57, .seq #[.str "function" tk55, .str "names" tk56] nn57, sl57⟩)
    (g_TOP_FUNCTIONS : PySem.W.nsIn K mainGlobals "TOP_FUNCTIONS" = some (some (Value.int 8 t_TOP_FUNCTIONS)))
    (g_TOP_HANDED : PySem.W.nsIn K mainGlobals "TOP_HANDED" = some (some (Value.int 3 t_TOP_HANDED)))
    (g_TOP_NAME : PySem.W.nsIn K mainGlobals "TOP_NAME" = some (some (Value.int 5 t_TOP_NAME)))
    (g_TOP_STATEMENTS : PySem.W.nsIn K mainGlobals "TOP_STATEMENTS" = some (some (Value.int 80 t_TOP_STATEMENTS)))
    (g_TOP_VALUE : PySem.W.nsIn K mainGlobals "TOP_VALUE" = some (some (Value.int 4294967295 t_TOP_VALUE)))
    (g_TOP_WITHIN : PySem.W.nsIn K mainGlobals "TOP_WITHIN" = some (some (Value.int 4 t_TOP_WITHIN)))
    (g_UNCOUNTED : PySem.W.nsIn K mainGlobals "UNCOUNTED" = some (some (.ref G_UNCOUNTED)))
    (t60_UNCOUNTED : K.lookup G_UNCOUNTED = some ⟨.type "tuple", od60, .seq #[.str "go" tk58, .str "leave" tk59] nn60, sl60⟩)
    (g_VALUES : PySem.W.nsIn K mainGlobals "VALUES" = some (some (Value.int 4294967296 t_VALUES)))
    (c_Doing : PySem.W.nsIn K mainGlobals "Doing" = some (some (.ref C_Doing)))
    (c_NoProgram : PySem.W.nsIn K mainGlobals "NoProgram" = some (some (.ref C_NoProgram)))
    (c_Run : PySem.W.nsIn K mainGlobals "Run" = some (some (.ref C_Run)))
    (pg_Doing : PySem.W.plainGet K C_Doing Str.empty = true)
    (hd_Doing : PySem.W.hasDictIn K C_Doing = true)
    (po_Doing : PySem.W.plainOver K C_Doing = true)
    (sa_Doing : PySem.W.findIn K (.ref C_Doing) "__setattr__" = some (some (.builtin "object.__setattr__")))
    (mk_Doing : PySem.W.makesIn K C_Doing = true)
    (kc_Doing : PySem.W.keepIn K (.ref C_Doing) = true)
    (n_Doing_moves : PySem.W.findIn K (.ref C_Doing) "moves" = some none)
    (n_Doing_mark : PySem.W.findIn K (.ref C_Doing) "mark" = some none)
    (n_Doing_names : PySem.W.findIn K (.ref C_Doing) "names" = some none)
    (a61 : PySem.W.findIn K (.ref C_Doing) "__init__" = some (some (.ref f61)))
    (i61 : PySem.W.isFn K (.ref f61) = true)
    (l61 : K.lookup f61 = some ⟨oc61, od61, .func (PySem.W.fnOf "__init__" "Doing.__init__" (defArgs s_Doing_init) (defBody s_Doing_init) (defScope s_Doing_init) .none kV61 dc61 pm61 an61 cd61 ct61), sl61⟩)
    (c61 : PySem.W.codeIn K cd61 "Doing.__init__" = true) (k61 : PySem.W.keepIn K (.ref f61) = true)
    (a62 : PySem.W.findIn K (.ref C_Doing) "last_move" = some (some (.ref f62)))
    (i62 : PySem.W.isFn K (.ref f62) = true)
    (l62 : K.lookup f62 = some ⟨oc62, od62, .func (PySem.W.fnOf "last_move" "Doing.last_move" (defArgs s_Doing_last_move) (defBody s_Doing_last_move) (defScope s_Doing_last_move) .none kV62 dc62 pm62 an62 cd62 ct62), sl62⟩)
    (c62 : PySem.W.codeIn K cd62 "Doing.last_move" = true) (k62 : PySem.W.keepIn K (.ref f62) = true)
    (pg_Run : PySem.W.plainGet K C_Run Str.empty = true)
    (hd_Run : PySem.W.hasDictIn K C_Run = true)
    (po_Run : PySem.W.plainOver K C_Run = true)
    (sa_Run : PySem.W.findIn K (.ref C_Run) "__setattr__" = some (some (.builtin "object.__setattr__")))
    (mk_Run : PySem.W.makesIn K C_Run = true)
    (kc_Run : PySem.W.keepIn K (.ref C_Run) = true)
    (n_Run_bodies : PySem.W.findIn K (.ref C_Run) "bodies" = some none)
    (n_Run_steps_left : PySem.W.findIn K (.ref C_Run) "steps_left" = some none)
    (n_Run_doings : PySem.W.findIn K (.ref C_Run) "doings" = some none)
    (n_Run_answer : PySem.W.findIn K (.ref C_Run) "answer" = some none)
    (n_Run_mark : PySem.W.findIn K (.ref C_Run) "mark" = some none)
    (a63 : PySem.W.findIn K (.ref C_Run) "__init__" = some (some (.ref f63)))
    (i63 : PySem.W.isFn K (.ref f63) = true)
    (l63 : K.lookup f63 = some ⟨oc63, od63, .func (PySem.W.fnOf "__init__" "Run.__init__" (defArgs s_Run_init) (defBody s_Run_init) (defScope s_Run_init) .none kV63 dc63 pm63 an63 cd63 ct63), sl63⟩)
    (c63 : PySem.W.codeIn K cd63 "Run.__init__" = true) (k63 : PySem.W.keepIn K (.ref f63) = true)
    (a64 : PySem.W.findIn K (.ref C_Run) "begin" = some (some (.ref f64)))
    (i64 : PySem.W.isFn K (.ref f64) = true)
    (l64 : K.lookup f64 = some ⟨oc64, od64, .func (PySem.W.fnOf "begin" "Run.begin" (defArgs s_Run_begin) (defBody s_Run_begin) (defScope s_Run_begin) .none kV64 dc64 pm64 an64 cd64 ct64), sl64⟩)
    (c64 : PySem.W.codeIn K cd64 "Run.begin" = true) (k64 : PySem.W.keepIn K (.ref f64) = true)
    (a65 : PySem.W.findIn K (.ref C_Run) "leave" = some (some (.ref f65)))
    (i65 : PySem.W.isFn K (.ref f65) = true)
    (l65 : K.lookup f65 = some ⟨oc65, od65, .func (PySem.W.fnOf "leave" "Run.leave" (defArgs s_Run_leave) (defBody s_Run_leave) (defScope s_Run_leave) .none kV65 dc65 pm65 an65 cd65 ct65), sl65⟩)
    (c65 : PySem.W.codeIn K cd65 "Run.leave" = true) (k65 : PySem.W.keepIn K (.ref f65) = true)
    (a66 : PySem.W.findIn K (.ref C_Run) "make" = some (some (.ref f66)))
    (i66 : PySem.W.isFn K (.ref f66) = true)
    (l66 : K.lookup f66 = some ⟨oc66, od66, .func (PySem.W.fnOf "make" "Run.make" (defArgs s_Run_make) (defBody s_Run_make) (defScope s_Run_make) .none kV66 dc66 pm66 an66 cd66 ct66), sl66⟩)
    (c66 : PySem.W.codeIn K cd66 "Run.make" = true) (k66 : PySem.W.keepIn K (.ref f66) = true)
    (a67 : PySem.W.findIn K (.ref C_Run) "step" = some (some (.ref f67)))
    (i67 : PySem.W.isFn K (.ref f67) = true)
    (l67 : K.lookup f67 = some ⟨oc67, od67, .func (PySem.W.fnOf "step" "Run.step" (defArgs s_Run_step) (defBody s_Run_step) (defScope s_Run_step) .none kV67 dc67 pm67 an67 cd67 ct67), sl67⟩)
    (c67 : PySem.W.codeIn K cd67 "Run.step" = true) (k67 : PySem.W.keepIn K (.ref f67) = true)
    (xe_NoProgram : PySem.W.excIn K C_NoProgram [.type "ValueError", .type "Exception", .type "BaseException", .type "object"] "ValueError.__new__" = true)
    (xa_NoProgram : (PySem.W.clsIn K C_NoProgram).isSome = true)
    (xb_NoProgram : PySem.W.findIn K (.ref C_NoProgram) "__getattribute__" = some (some (.builtin "BaseException.__getattribute__")))
    (xc_NoProgram : PySem.W.findIn K (.ref C_NoProgram) "__getattr__" = some none)
    (xd_NoProgram : PySem.W.findIn K (.ref C_NoProgram) "__class__" = some (some (.builtin "object.__class__")))
    (xf_NoProgram : PySem.W.specialIn K (.builtin "object.__class__") "__get__" = some (some (.builtin "getset_descriptor.__get__")))
    (xg_NoProgram : PySem.W.takesIn K (.builtin "object.__class__") = some true)
    (xh_NoProgram : PySem.W.mroIn K C_NoProgram (.type "object") = some true)
    (xi_NoProgram : PySem.W.mroIn K C_NoProgram (.type "BaseException") = some true)
    (k_int_int : PySem.W.kitOne K (.type "int") (.type "int") = some true)
    (k_int_bool : PySem.W.kitOne K (.type "int") (.type "bool") = some false)
    (k_tuple_tuple : PySem.W.kitOne K (.type "tuple") (.type "tuple") = some true)
    (k_str_str : PySem.W.kitOne K (.type "str") (.type "str") = some true)
    (k_list_list : PySem.W.kitOne K (.type "list") (.type "list") = some true)
    (a68 : PySem.W.nsIn K mainGlobals "is_whole" = some (some (.ref f68)))
    (l68 : K.lookup f68 = some ⟨oc68, od68, .func (PySem.W.fnOf "is_whole" "is_whole" (defArgs s_is_whole) (defBody s_is_whole) (defScope s_is_whole) .none kV68 dc68 pm68 an68 cd68 ct68), sl68⟩)
    (c68 : PySem.W.codeIn K cd68 "is_whole" = true) (k68 : PySem.W.keepIn K (.ref f68) = true)
    (a69 : PySem.W.nsIn K mainGlobals "add_all" = some (some (.ref f69)))
    (l69 : K.lookup f69 = some ⟨oc69, od69, .func (PySem.W.fnOf "add_all" "add_all" (defArgs s_add_all) (defBody s_add_all) (defScope s_add_all) .none kV69 dc69 pm69 an69 cd69 ct69), sl69⟩)
    (c69 : PySem.W.codeIn K cd69 "add_all" = true) (k69 : PySem.W.keepIn K (.ref f69) = true)
    (a70 : PySem.W.nsIn K mainGlobals "moves_of" = some (some (.ref f70)))
    (l70 : K.lookup f70 = some ⟨oc70, od70, .func (PySem.W.fnOf "moves_of" "moves_of" (defArgs s_moves_of) (defBody s_moves_of) (defScope s_moves_of) .none kV70 dc70 pm70 an70 cd70 ct70), sl70⟩)
    (c70 : PySem.W.codeIn K cd70 "moves_of" = true) (k70 : PySem.W.keepIn K (.ref f70) = true)
    (a71 : PySem.W.nsIn K mainGlobals "is_up_to" = some (some (.ref f71)))
    (l71 : K.lookup f71 = some ⟨oc71, od71, .func (PySem.W.fnOf "is_up_to" "is_up_to" (defArgs s_is_up_to) (defBody s_is_up_to) (defScope s_is_up_to) .none kV71 dc71 pm71 an71 cd71 ct71), sl71⟩)
    (c71 : PySem.W.codeIn K cd71 "is_up_to" = true) (k71 : PySem.W.keepIn K (.ref f71) = true)
    (a72 : PySem.W.nsIn K mainGlobals "is_name" = some (some (.ref f72)))
    (l72 : K.lookup f72 = some ⟨oc72, od72, .func (PySem.W.fnOf "is_name" "is_name" (defArgs s_is_name) (defBody s_is_name) (defScope s_is_name) .none kV72 dc72 pm72 an72 cd72 ct72), sl72⟩)
    (c72 : PySem.W.codeIn K cd72 "is_name" = true) (k72 : PySem.W.keepIn K (.ref f72) = true)
    (a73 : PySem.W.nsIn K mainGlobals "is_part" = some (some (.ref f73)))
    (l73 : K.lookup f73 = some ⟨oc73, od73, .func (PySem.W.fnOf "is_part" "is_part" (defArgs s_is_part) (defBody s_is_part) (defScope s_is_part) .none kV73 dc73 pm73 an73 cd73 ct73), sl73⟩)
    (c73 : PySem.W.codeIn K cd73 "is_part" = true) (k73 : PySem.W.keepIn K (.ref f73) = true)
    (a74 : PySem.W.nsIn K mainGlobals "is_statement" = some (some (.ref f74)))
    (l74 : K.lookup f74 = some ⟨oc74, od74, .func (PySem.W.fnOf "is_statement" "is_statement" (defArgs s_is_statement) (defBody s_is_statement) (defScope s_is_statement) .none kV74 dc74 pm74 an74 cd74 ct74), sl74⟩)
    (c74 : PySem.W.codeIn K cd74 "is_statement" = true) (k74 : PySem.W.keepIn K (.ref f74) = true)
    (a75 : PySem.W.nsIn K mainGlobals "lists_within" = some (some (.ref f75)))
    (l75 : K.lookup f75 = some ⟨oc75, od75, .func (PySem.W.fnOf "lists_within" "lists_within" (defArgs s_lists_within) (defBody s_lists_within) (defScope s_lists_within) .none kV75 dc75 pm75 an75 cd75 ct75), sl75⟩)
    (c75 : PySem.W.codeIn K cd75 "lists_within" = true) (k75 : PySem.W.keepIn K (.ref f75) = true)
    (a76 : PySem.W.nsIn K mainGlobals "are_statements" = some (some (.ref f76)))
    (l76 : K.lookup f76 = some ⟨oc76, od76, .func (PySem.W.fnOf "are_statements" "are_statements" (defArgs s_are_statements) (defBody s_are_statements) (defScope s_are_statements) .none kV76 dc76 pm76 an76 cd76 ct76), sl76⟩)
    (c76 : PySem.W.codeIn K cd76 "are_statements" = true) (k76 : PySem.W.keepIn K (.ref f76) = true)
    (a77 : PySem.W.nsIn K mainGlobals "is_function" = some (some (.ref f77)))
    (l77 : K.lookup f77 = some ⟨oc77, od77, .func (PySem.W.fnOf "is_function" "is_function" (defArgs s_is_function) (defBody s_is_function) (defScope s_is_function) .none kV77 dc77 pm77 an77 cd77 ct77), sl77⟩)
    (c77 : PySem.W.codeIn K cd77 "is_function" = true) (k77 : PySem.W.keepIn K (.ref f77) = true)
    (a78 : PySem.W.nsIn K mainGlobals "is_program" = some (some (.ref f78)))
    (l78 : K.lookup f78 = some ⟨oc78, od78, .func (PySem.W.fnOf "is_program" "is_program" (defArgs s_is_program) (defBody s_is_program) (defScope s_is_program) .none kV78 dc78 pm78 an78 cd78 ct78), sl78⟩)
    (c78 : PySem.W.codeIn K cd78 "is_program" = true) (k78 : PySem.W.keepIn K (.ref f78) = true)
    (a79 : PySem.W.nsIn K mainGlobals "asked_for_program" = some (some (.ref f79)))
    (l79 : K.lookup f79 = some ⟨oc79, od79, .func (PySem.W.fnOf "asked_for_program" "asked_for_program" (defArgs s_asked_for_program) (defBody s_asked_for_program) (defScope s_asked_for_program) .none kV79 dc79 pm79 an79 cd79 ct79), sl79⟩)
    (c79 : PySem.W.codeIn K cd79 "asked_for_program" = true) (k79 : PySem.W.keepIn K (.ref f79) = true)
    (a80 : PySem.W.nsIn K mainGlobals "reckoned" = some (some (.ref f80)))
    (l80 : K.lookup f80 = some ⟨oc80, od80, .func (PySem.W.fnOf "reckoned" "reckoned" (defArgs s_reckoned) (defBody s_reckoned) (defScope s_reckoned) .none kV80 dc80 pm80 an80 cd80 ct80), sl80⟩)
    (c80 : PySem.W.codeIn K cd80 "reckoned" = true) (k80 : PySem.W.keepIn K (.ref f80) = true)
    (a81 : PySem.W.nsIn K mainGlobals "run" = some (some (.ref f81)))
    (l81 : K.lookup f81 = some ⟨oc81, od81, .func (PySem.W.fnOf "run" "run" (defArgs s_run) (defBody s_run) (defScope s_run) .none kV81 dc81 pm81 an81 cd81 ct81), sl81⟩)
    (c81 : PySem.W.codeIn K cd81 "run" = true) (k81 : PySem.W.keepIn K (.ref f81) = true)
    (a82 : PySem.W.nsIn K mainGlobals "_law_cell_at" = some (some (.ref f82)))
    (l82 : K.lookup f82 = some ⟨oc82, od82, .func (PySem.W.fnOf "_law_cell_at" "_law_cell_at" (defArgs s_law_cell_at) (defBody s_law_cell_at) (defScope s_law_cell_at) .none kV82 dc82 pm82 an82 cd82 ct82), sl82⟩)
    (c82 : PySem.W.codeIn K cd82 "_law_cell_at" = true) (k82 : PySem.W.keepIn K (.ref f82) = true)
    (a83 : PySem.W.nsIn K mainGlobals "_law_statement" = some (some (.ref f83)))
    (l83 : K.lookup f83 = some ⟨oc83, od83, .func (PySem.W.fnOf "_law_statement" "_law_statement" (defArgs s_law_statement) (defBody s_law_statement) (defScope s_law_statement) .none kV83 dc83 pm83 an83 cd83 ct83), sl83⟩)
    (c83 : PySem.W.codeIn K cd83 "_law_statement" = true) (k83 : PySem.W.keepIn K (.ref f83) = true)
    (a84 : PySem.W.nsIn K mainGlobals "_law_done" = some (some (.ref f84)))
    (l84 : K.lookup f84 = some ⟨oc84, od84, .func (PySem.W.fnOf "_law_done" "_law_done" (defArgs s_law_done) (defBody s_law_done) (defScope s_law_done) .none kV84 dc84 pm84 an84 cd84 ct84), sl84⟩)
    (c84 : PySem.W.codeIn K cd84 "_law_done" = true) (k84 : PySem.W.keepIn K (.ref f84) = true)
    (a85 : PySem.W.nsIn K mainGlobals "_law_alike" = some (some (.ref f85)))
    (l85 : K.lookup f85 = some ⟨oc85, od85, .func (PySem.W.fnOf "_law_alike" "_law_alike" (defArgs s_law_alike) (defBody s_law_alike) (defScope s_law_alike) .none kV85 dc85 pm85 an85 cd85 ct85), sl85⟩)
    (c85 : PySem.W.codeIn K cd85 "_law_alike" = true) (k85 : PySem.W.keepIn K (.ref f85) = true)
    (a86 : PySem.W.nsIn K mainGlobals "_law_refused" = some (some (.ref f86)))
    (l86 : K.lookup f86 = some ⟨oc86, od86, .func (PySem.W.fnOf "_law_refused" "_law_refused" (defArgs s_law_refused) (defBody s_law_refused) (defScope s_law_refused) .none kV86 dc86 pm86 an86 cd86 ct86), sl86⟩)
    (c86 : PySem.W.codeIn K cd86 "_law_refused" = true) (k86 : PySem.W.keepIn K (.ref f86) = true)
    (a87 : PySem.W.nsIn K mainGlobals "law" = some (some (.ref f87)))
    (l87 : K.lookup f87 = some ⟨oc87, od87, .func (PySem.W.fnOf "law" "law" (defArgs s_law) (defBody s_law) (defScope s_law) .none kV87 dc87 pm87 an87 cd87 ct87), sl87⟩)
    (c87 : PySem.W.codeIn K cd87 "law" = true) (k87 : PySem.W.keepIn K (.ref f87) = true) :
    ∃ (a : Adr) (fd : FuncData), Txt w K mg a ∧ Fun K "law" "law" s_law fa fd ∧ ∀ (s : Shared) (v : Value), BindsTo s fd ⟨[v], []⟩ [("_law_script", v)] := by
  have e := hfa.symm.trans (PySem.W.mg_of X G a87)
  cases e
  refine ⟨⟨0, 0, 0, 0, 0, 0, 0, 0, 0, 0, 0, 0, 0, 0, 0, 0, 0, 0, 0, 0, 0, 0, C_Doing, 0, C_Run, 0, C_NoProgram, 0, 0, 0, 0, 0, 0, 0, G_PARTS, G_UNCOUNTED⟩, _, ?_, fun_mk (st := s_law) l87 c87 k87, fun s v => .of_eq rfl⟩
  exact {
    z_all := PySem.W.mg_none_of X G z_all
    z_bool := PySem.W.mg_none_of X G z_bool
    z_int := PySem.W.mg_none_of X G z_int
    z_isinstance := PySem.W.mg_none_of X G z_isinstance
    z_len := PySem.W.mg_none_of X G z_len
    z_list := PySem.W.mg_none_of X G z_list
    z_min := PySem.W.mg_none_of X G z_min
    z_range := PySem.W.mg_none_of X G z_range
    z_str := PySem.W.mg_none_of X G z_str
    z_tuple := PySem.W.mg_none_of X G z_tuple
    z_zip := PySem.W.mg_none_of X G z_zip
    g_NOUGHT := ⟨_, PySem.W.mg_of X G g_NOUGHT⟩
    s_PARTS := PySem.W.mg_of X G g_PARTS
    d_PARTS := ⟨_, _, _, _, _, _, _, _, _, _, _, _, _, ⟨y_PARTS, (show List.Nodup [(Sum.inr ("set" : Str) : Key), (Sum.inr ("copy" : Str) : Key), (Sum.inr ("sum" : Str) : Key), (Sum.inr ("minus" : Str) : Key), (Sum.inr ("product" : Str) : Key), (Sum.inr ("less" : Str) : Key), (Sum.inr ("call" : Str) : Key), (Sum.inr ("if" : Str) : Key), (Sum.inr ("while" : Str) : Key), (Sum.inr ("try" : Str) : Key), (Sum.inr ("drop" : Str) : Key), (Sum.inr ("give" : Str) : Key), (Sum.inr ("hand" : Str) : Key)] from by decide +kernel), [("set", tk1, .ref q0_PARTS), ("copy", tk5, .ref q1_PARTS), ("sum", tk9, .ref q2_PARTS), ("minus", tk14, .ref q3_PARTS), ("product", tk19, .ref q4_PARTS), ("less", tk24, .ref q5_PARTS), ("call", tk29, .ref q6_PARTS), ("if", tk34, .ref q7_PARTS), ("while", tk39, .ref q8_PARTS), ("try", tk43, .ref q9_PARTS), ("drop", tk48, .ref q10_PARTS), ("give", tk51, .ref q11_PARTS), ("hand", tk54, .ref q12_PARTS)], ep_PARTS, (.cons rfl (.cons rfl (.cons rfl (.cons rfl (.cons rfl (.cons rfl (.cons rfl (.cons rfl (.cons rfl (.cons rfl (.cons rfl (.cons rfl (.cons rfl .nil))))))))))))), l_PARTS⟩, sqtK t4_PARTS (show 2 ≤ sizeLine by decide) (.cons ⟨_, rfl⟩ (.cons ⟨_, rfl⟩ .nil)), sqtK t8_PARTS (show 2 ≤ sizeLine by decide) (.cons ⟨_, rfl⟩ (.cons ⟨_, rfl⟩ .nil)), sqtK t13_PARTS (show 3 ≤ sizeLine by decide) (.cons ⟨_, rfl⟩ (.cons ⟨_, rfl⟩ (.cons ⟨_, rfl⟩ .nil))), sqtK t18_PARTS (show 3 ≤ sizeLine by decide) (.cons ⟨_, rfl⟩ (.cons ⟨_, rfl⟩ (.cons ⟨_, rfl⟩ .nil))), sqtK t23_PARTS (show 3 ≤ sizeLine by decide) (.cons ⟨_, rfl⟩ (.cons ⟨_, rfl⟩ (.cons ⟨_, rfl⟩ .nil))), sqtK t28_PARTS (show 3 ≤ sizeLine by decide) (.cons ⟨_, rfl⟩ (.cons ⟨_, rfl⟩ (.cons ⟨_, rfl⟩ .nil))), sqtK t33_PARTS (show 3 ≤ sizeLine by decide) (.cons ⟨_, rfl⟩ (.cons ⟨_, rfl⟩ (.cons ⟨_, rfl⟩ .nil))), sqtK t38_PARTS (show 3 ≤ sizeLine by decide) (.cons ⟨_, rfl⟩ (.cons ⟨_, rfl⟩ (.cons ⟨_, rfl⟩ .nil))), sqtK t42_PARTS (show 2 ≤ sizeLine by decide) (.cons ⟨_, rfl⟩ (.cons ⟨_, rfl⟩ .nil)), sqtK t47_PARTS (show 3 ≤ sizeLine by decide) (.cons ⟨_, rfl⟩ (.cons ⟨_, rfl⟩ (.cons ⟨_, rfl⟩ .nil))), sqtK t50_PARTS (show 1 ≤ sizeLine by decide) (.cons ⟨_, rfl⟩ .nil), sqtK t53_PARTS (show 1 ≤ sizeLine by decide) (.cons ⟨_, rfl⟩ .nil), sqtK t57_PARTS (show 2 ≤ sizeLine by decide) (.cons ⟨_, rfl⟩ (.cons ⟨_, rfl⟩ .nil))⟩
    g_TOP_FUNCTIONS := ⟨_, PySem.W.mg_of X G g_TOP_FUNCTIONS⟩
    g_TOP_HANDED := ⟨_, PySem.W.mg_of X G g_TOP_HANDED⟩
    g_TOP_NAME := ⟨_, PySem.W.mg_of X G g_TOP_NAME⟩
    g_TOP_STATEMENTS := ⟨_, PySem.W.mg_of X G g_TOP_STATEMENTS⟩
    g_TOP_VALUE := ⟨_, PySem.W.mg_of X G g_TOP_VALUE⟩
    g_TOP_WITHIN := ⟨_, PySem.W.mg_of X G g_TOP_WITHIN⟩
    s_UNCOUNTED := PySem.W.mg_of X G g_UNCOUNTED
    t_UNCOUNTED := sqtK t60_UNCOUNTED (show 2 ≤ sizeLine by decide) (.cons ⟨_, rfl⟩ (.cons ⟨_, rfl⟩ .nil))
    g_VALUES := ⟨_, PySem.W.mg_of X G g_VALUES⟩
    c_Doing := PySem.W.mg_of X G c_Doing
    c_NoProgram := PySem.W.mg_of X G c_NoProgram
    c_Run := PySem.W.mg_of X G c_Run
    cl_Doing := ⟨pg_Doing, hd_Doing, po_Doing, sa_Doing⟩
    n_Doing_moves := n_Doing_moves
    n_Doing_mark := n_Doing_mark
    n_Doing_names := n_Doing_names
    i_Doing := ⟨_, _, fun_mk (st := s_Doing_init) l61 c61 k61, ⟨mk_Doing, a61, i61, kc_Doing⟩, (fun_mk (st := s_Doing_init) l61 c61 k61).binds (ps := ["self", "moves", "values"]) fun _ _ _ _ _ _ us hl => match us, hl with | [_, _, _], _ => rfl⟩
    m_Doing_last_move := ⟨_, _, fun_mk (st := s_Doing_last_move) l62 c62 k62, ⟨a62, i62, k62⟩, (fun_mk (st := s_Doing_last_move) l62 c62 k62).binds (ps := ["self"]) fun _ _ _ _ _ _ us hl => match us, hl with | [_], _ => rfl⟩
    cl_Run := ⟨pg_Run, hd_Run, po_Run, sa_Run⟩
    n_Run_bodies := n_Run_bodies
    n_Run_steps_left := n_Run_steps_left
    n_Run_doings := n_Run_doings
    n_Run_answer := n_Run_answer
    n_Run_mark := n_Run_mark
    i_Run := ⟨_, _, fun_mk (st := s_Run_init) l63 c63 k63, ⟨mk_Run, a63, i63, kc_Run⟩, (fun_mk (st := s_Run_init) l63 c63 k63).binds (ps := ["self", "program", "steps"]) fun _ _ _ _ _ _ us hl => match us, hl with | [_, _, _], _ => rfl⟩
    m_Run_begin := ⟨_, _, fun_mk (st := s_Run_begin) l64 c64 k64, ⟨a64, i64, k64⟩, (fun_mk (st := s_Run_begin) l64 c64 k64).binds (ps := ["self", "function", "values"]) fun _ _ _ _ _ _ us hl => match us, hl with | [_, _, _], _ => rfl⟩
    m_Run_leave := ⟨_, _, fun_mk (st := s_Run_leave) l65 c65 k65, ⟨a65, i65, k65⟩, (fun_mk (st := s_Run_leave) l65 c65 k65).binds (ps := ["self", "value"]) fun _ _ _ _ _ _ us hl => match us, hl with | [_, _], _ => rfl⟩
    m_Run_make := ⟨_, _, fun_mk (st := s_Run_make) l66 c66 k66, ⟨a66, i66, k66⟩, (fun_mk (st := s_Run_make) l66 c66 k66).binds (ps := ["self", "doing", "move"]) fun _ _ _ _ _ _ us hl => match us, hl with | [_, _, _], _ => rfl⟩
    m_Run_step := ⟨_, _, fun_mk (st := s_Run_step) l67 c67 k67, ⟨a67, i67, k67⟩, (fun_mk (st := s_Run_step) l67 c67 k67).binds (ps := ["self"]) fun _ _ _ _ _ _ us hl => match us, hl with | [_], _ => rfl⟩
    x_NoProgram := ⟨PySem.W.mg_of X G c_NoProgram, xe_NoProgram⟩
    xk_NoProgram := ⟨xa_NoProgram, xb_NoProgram, xc_NoProgram, xd_NoProgram, xf_NoProgram, xg_NoProgram, xh_NoProgram, xi_NoProgram⟩
    k_int_int := k_int_int
    k_int_bool := k_int_bool
    k_tuple_tuple := k_tuple_tuple
    k_str_str := k_str_str
    k_list_list := k_list_list
    fn_is_whole := ⟨_, _, fun_mk (st := s_is_whole) l68 c68 k68, PySem.W.mg_of X G a68, (fun_mk (st := s_is_whole) l68 c68 k68).binds (ps := ["number"]) fun _ _ _ _ _ _ us hl => match us, hl with | [_], _ => rfl⟩
    fn_add_all := ⟨_, _, fun_mk (st := s_add_all) l69 c69 k69, PySem.W.mg_of X G a69, (fun_mk (st := s_add_all) l69 c69 k69).binds (ps := ["moves", "statements", "landing"]) fun _ _ _ _ _ _ us hl => match us, hl with | [_, _, _], _ => rfl⟩
    fn_moves_of := ⟨_, _, fun_mk (st := s_moves_of) l70 c70 k70, PySem.W.mg_of X G a70, (fun_mk (st := s_moves_of) l70 c70 k70).binds (ps := ["body"]) fun _ _ _ _ _ _ us hl => match us, hl with | [_], _ => rfl⟩
    fn_is_up_to := ⟨_, _, fun_mk (st := s_is_up_to) l71 c71 k71, PySem.W.mg_of X G a71, (fun_mk (st := s_is_up_to) l71 c71 k71).binds (ps := ["thing", "top"]) fun _ _ _ _ _ _ us hl => match us, hl with | [_, _], _ => rfl⟩
    fn_is_name := ⟨_, _, fun_mk (st := s_is_name) l72 c72 k72, PySem.W.mg_of X G a72, (fun_mk (st := s_is_name) l72 c72 k72).binds (ps := ["thing"]) fun _ _ _ _ _ _ us hl => match us, hl with | [_], _ => rfl⟩
    fn_is_part := ⟨_, _, fun_mk (st := s_is_part) l73 c73 k73, PySem.W.mg_of X G a73, (fun_mk (st := s_is_part) l73 c73 k73).binds (ps := ["part", "kind", "functions"]) fun _ _ _ _ _ _ us hl => match us, hl with | [_, _, _], _ => rfl⟩
    fn_is_statement := ⟨_, _, fun_mk (st := s_is_statement) l74 c74 k74, PySem.W.mg_of X G a74, (fun_mk (st := s_is_statement) l74 c74 k74).binds (ps := ["statement", "handed"]) fun _ _ _ _ _ _ us hl => match us, hl with | [_, _], _ => rfl⟩
    fn_lists_within := ⟨_, _, fun_mk (st := s_lists_within) l75 c75 k75, PySem.W.mg_of X G a75, (fun_mk (st := s_lists_within) l75 c75 k75).binds (ps := ["statement"]) fun _ _ _ _ _ _ us hl => match us, hl with | [_], _ => rfl⟩
    fn_are_statements := ⟨_, _, fun_mk (st := s_are_statements) l76 c76 k76, PySem.W.mg_of X G a76, (fun_mk (st := s_are_statements) l76 c76 k76).binds (ps := ["bodies", "handed"]) fun _ _ _ _ _ _ us hl => match us, hl with | [_, _], _ => rfl⟩
    fn_is_function := ⟨_, _, fun_mk (st := s_is_function) l77 c77 k77, PySem.W.mg_of X G a77, (fun_mk (st := s_is_function) l77 c77 k77).binds (ps := ["function"]) fun _ _ _ _ _ _ us hl => match us, hl with | [_], _ => rfl⟩
    fn_is_program := ⟨_, _, fun_mk (st := s_is_program) l78 c78 k78, PySem.W.mg_of X G a78, (fun_mk (st := s_is_program) l78 c78 k78).binds (ps := ["program"]) fun _ _ _ _ _ _ us hl => match us, hl with | [_], _ => rfl⟩
    fn_asked_for_program := ⟨_, _, fun_mk (st := s_asked_for_program) l79 c79 k79, PySem.W.mg_of X G a79, (fun_mk (st := s_asked_for_program) l79 c79 k79).binds (ps := ["program"]) fun _ _ _ _ _ _ us hl => match us, hl with | [_], _ => rfl⟩
    fn_reckoned := ⟨_, _, fun_mk (st := s_reckoned) l80 c80 k80, PySem.W.mg_of X G a80, (fun_mk (st := s_reckoned) l80 c80 k80).binds (ps := ["move", "names"]) fun _ _ _ _ _ _ us hl => match us, hl with | [_, _], _ => rfl⟩
    fn_run := ⟨_, _, fun_mk (st := s_run) l81 c81 k81, PySem.W.mg_of X G a81, (fun_mk (st := s_run) l81 c81 k81).binds (ps := ["program", "values", "steps"]) fun _ _ _ _ _ _ us hl => match us, hl with | [_, _, _], _ => rfl⟩
    fn_law_cell_at := ⟨_, _, fun_mk (st := s_law_cell_at) l82 c82 k82, PySem.W.mg_of X G a82, (fun_mk (st := s_law_cell_at) l82 c82 k82).binds (ps := ["_law_script", "_law_k"]) fun _ _ _ _ _ _ us hl => match us, hl with | [_, _], _ => rfl⟩
    fn_law_statement := ⟨_, _, fun_mk (st := s_law_statement) l83 c83 k83, PySem.W.mg_of X G a83, (fun_mk (st := s_law_statement) l83 c83 k83).binds (ps := ["_law_cell", "_law_k"]) fun _ _ _ _ _ _ us hl => match us, hl with | [_, _], _ => rfl⟩
    fn_law_done := ⟨_, _, fun_mk (st := s_law_done) l84 c84 k84, PySem.W.mg_of X G a84, (fun_mk (st := s_law_done) l84 c84 k84).binds (ps := ["_law_names", "_law_told"]) fun _ _ _ _ _ _ us hl => match us, hl with | [_, _], _ => rfl⟩
    fn_law_alike := ⟨_, _, fun_mk (st := s_law_alike) l85 c85 k85, PySem.W.mg_of X G a85, (fun_mk (st := s_law_alike) l85 c85 k85).binds (ps := ["_law_found", "_law_due"]) fun _ _ _ _ _ _ us hl => match us, hl with | [_, _], _ => rfl⟩
    fn_law_refused := ⟨_, _, fun_mk (st := s_law_refused) l86 c86 k86, PySem.W.mg_of X G a86, (fun_mk (st := s_law_refused) l86 c86 k86).binds (ps := ["_law_program", "_law_values"]) fun _ _ _ _ _ _ us hl => match us, hl with | [_, _], _ => rfl⟩
    fn_law := ⟨_, _, fun_mk (st := s_law) l87 c87 k87, PySem.W.mg_of X G a87, (fun_mk (st := s_law) l87 c87 k87).binds (ps := ["_law_script"]) fun _ _ _ _ _ _ us hl => match us, hl with | [_], _ => rfl⟩ }
theorem walk {l : PySem.W.OpenLaw} {q : Program} {loose : List Str} {XP : (Str → Option Value) → Heap → Prop} {YP : World → Heap → Prop} {d : DefRec} {K : Params → PySem.W.Frag} (hn : l.most = some 63) (hdf : d.params.defaults = [])
    (hY : ∀ (w : World) (h : Heap), YP w h → (K w.params).In h)
    (F : ∀ (w : World) (mg : Str → Option Value) (fa : Addr) (h : Heap), (K w.params).In h → h.Ns mainGlobals mg → mg d.name = some (.ref fa) →
      ∃ fd : FuncData, (∀ (s : Shared) (u : Value), BindsTo s fd ⟨[u], []⟩ [("_law_script", u)]) ∧ ∀ base : Heap, (K w.params).In base → base.Ns mainGlobals mg → FnOk l.prog w (K w.params) mg base CX0 11 fa fd ["_law_script"] (spLaw (K w.params))) :
    PySem.W.WalkO q loose XP YP l.row.toRowW d [] (fun f vs => PySem.call f vs) :=
  L2.walk_of (n := 63) (k := 11) (x := "_law_script") (CX := fun _ => CX0) (sp := fun w => spLaw (K w.params)) hn (by decide) hdf ⟨rfl, by decide, by decide⟩ hY F (fun _ _ a ns hl _ hS => ⟨a, ns, rfl, hS, hl, fun _ => rfl⟩) fun _ _ _ _ _ z => z
end FB
namespace PySem.W.Fast
def tw1787539227317237781:=0
def tw16971727519134183924:=0
def tw12515252107890686764:=0
def tw18253529617123894101:=0
def tw16422577644964276914:=0
def tw5317921517142405160:=0
def tw7498768599571138647:=0
def tw4694025294700116342:=0
def tw9557277409952417071:=0
def tw16723280828361821380:=0
def tw1326625881930654584:=0
def tw2296519684993203561:=0
def tw267882110751634859:=0
def tw12484818382764091352:=0
def tw17990689488939161770:=0
def tw13724524268141715911:=0
def tw15045252317368142240:=0
def tw15746546201026273360:=0
def tw7063051937303785252:=0
def tw13443469439576595147:=0
def tw1580101581044988818:=0
def tw1322748803550955740:=0
def tw16622466446453904529:=0
def tw4864648149886981128:=0
def tw9100460374923809513:=0
def tw7601675012820176289:=0
def tw15000081354949055487:=0
def tw10560427069971847809:=0
def tw1192771139797277388:=0
def tw6249887753703279343:=0
def tw11811207657534250097:=0
def tw2628371526297516902:=0
def tw10067510751645689482:=0
def tw9540428967901842601:=0
def tw17992646534717799163:=0
def tw18272760121072187460:=0
def tw10421541700234298482:=0
def tw6946063804824505777:=0
def tw16880375281665037220:=0
def tw2933962735230384937:=0
def tw4695605798843590666:=0
def tw1277325517435768822:=0
def tw3271315939184428134:=0
def tw7863065420919142225:=0
def tw12695424571357493507:=0
def tw2678717706196210588:=0
def tw11367605604740680995:=0
def tw2184144463552364540:=0
def tw13972295916634728908:=0
def tw15799248339154893720:=0
def tw4314250760714478252:=0
def tw6054199698485081129:=0
def tw7973705574110488377:=0
def tw9088644105996863660:=0
def tw10292241260954759409:=0
def tw9850412156006500358:=0
def tw12294885262064356426:=0
def tw4798988043584362209:=0
def tw8075480533502821597:=0
def tw1780455640136079258:=0
def tw17808028733743746465:=0
def tw15057562802489105532:=0
def tw4988000152986986248:=0
def tw9008546435513859775:=0
def tw5680372535258031322:=0
def tw5454039905906036637:=0
def tw5145136707858078158:=0
def tw975163275995130361:=0
def tw16288126820244426567:=0
def tw7311755511429709613:=0
def tw7959682780930495787:=0
def tw13303100098911721078:=0
def tw10190282599146645215:=0
def tw17366061186417412722:=0
def tw6374410308456038999:=0
def tw4838252003648648899:=0
def tw14257291099176827855:=0
def tw14474863322946670789:=0
def tw16781789873439995172:=0
def tw7347287759302009911:=0
def tw1373395968470454677:=0
def tw16356859390356395574:=0
def tw10872030368264491954:=0
def tw10700643480224933462:=0
def tw605199398760495589:=0
def tw2725065317966135733:=0
def tw17638305665013543160:=0
def tw1311520306419711966:=0
def tw14468893287600756597:=0
def tw8648245730397094824:=0
def tw4862007410652234815:=0
def tw15481476790320031411:=0
def tw5921899693636752138:=0
def tw630637425864064138:=0
def tw1094852957117247559:=0
def tw11442962489284459604:=0
def tw15782049327475239651:=0
def tw8961173190181725119:=0
def tw8791304216913780076:=0
def tw3081789671651660375:=0
def tw9507021085063117372:=0
def tw9765313610149287253:=0
def tw16722875512221615489:=0
def tw16392356617264175189:=0
def tw14721343213020614739:=0
def tw11168476793964950363:=0
def tw1176000338153644650:=0
def tw13469393354462018610:=0
def tw1864593677736698282:=0
def tw11986848367483856679:=0
def tw7955965640215595376:=0
def tw14678684773196156625:=0
def tw11024224613119417172:=0
def tw9384647663804201389:=0
def tw7160843606514360763:=0
def tw325315812862214399:=0
def tw6782662203238904470:=0
def tw1106317928483795678:=0
def tw2725075256997689095:=0
def tw7220134063721824505:=0
def tw12045980165606027231:=0
def tw9443266844277575915:=0
def tw470948494114305870:=0
def tw9023831411619936849:=0
def tw3908445519999108206:=0
def tw13348462347043441344:=0
def tw8635225123432083710:=0
def tw9300189850602431349:=0
def tw9368654990605026499:=0
def tw10304764053162959083:=0
def tw2968027178463727236:=0
def tw12721625488475855652:=0
def tw13169511749969517674:=0
def tw17137671647125752944:=0
def tw10287835279284971203:=0
def tw14239771088868884242:=0
def tw6139121530517387811:=0
def tw9791358389919977674:=0
def tw11552742848775926917:=0
def tw1342066484269812233:=0
def tw8742186311605061161:=0
def tw9174653626122713974:=0
def tw396748410394530168:=0
def tw15658510857882017899:=0
def tw6044017634583220443:=0
def tw954337214045154176:=0
def tw12282199411536839640:=0
def tw12803600702990353512:=0
def tw9978004998871384118:=0
def tw17765036935473375881:=0
def tw10381015248333753230:=0
def tw11249628761074517282:=0
def tw17066398188266016120:=0
def tw4023351454724078786:=0
def tw13324928716805829770:=0
def tw7140396841198487036:=0
def tw4170766452501983977:=0
def tw5187743480967404751:=0
def tw9137869407640561557:=0
def tw3627256184195575177:=0
def tw16111295639392892390:=0
def tw13964935088414211594:=0
def tw14193218754851617641:=0
def tw11564268183630286946:=0
def tw3689524298178129918:=0
def tw12921503167875938734:=0
def tw11196253256296046089:=0
def tw7450217157365031858:=0
def tw1245666721543350091:=0
def tw2906375131932480238:=0
def tw3280541912645651544:=0
def tw6122531624892241280:=0
def tw15461622323146559956:=0
def tw16389988250954779998:=0
def tw18145371370743510376:=0
def tw8211292650346347883:=0
def tw2992754065961772840:=0
def tw2123795014748341499:=0
def tw9819726749114328553:=0
def tw12749864315510828115:=0
def tw8577841498986954063:=0
def tw3235211681266541512:=0
def tw14610467452054462916:=0
def tw4914469436809121269:=0
def tw9311688883565659823:=0
def tw13940333401190725936:=0
def tw9181389414494121551:=0
def tw5123879460806117979:=0
def tw2913876462172007477:=0
def tw7191362170083436448:=0
def tw11249116705746875156:=0
def tw4775471815340480762:=0
def tw9566370293242242797:=0
def tw7896930776371153111:=0
def tw13495923958896195144:=0
def tw4174608299798121513:=0
def tw7229345906072017971:=0
def tw10778180868277948727:=0
def tw17034013793695341110:=0
def tw18070565091966056542:=0
def tw664901147021952720:=0
def tw6831835611487695502:=0
def tw8779440684365115043:=0
def tw6325854009575673700:=0
def tw1964513285391317621:=0
def tw14665568775424341842:=0
def tw1106492659578780378:=0
def tw17357266005368304236:=0
def tw8401071874459347832:=0
def tw4528479626938784369:=0
def tw12758929406628682889:=0
def tw10059701366230137225:=0
def tw17759956332743181891:=0
def tw9860652334324624791:=0
def tw18192094483943729879:=0
def tw2957858685311705129:=0
def tw15179841534344171309:=0
def tw15821583310149953191:=0
def tw6103197500745490868:=0
def tw3007280202620801322:=0
def tw7627957982969114104:=0
def tw12828223515491959936:=0
def tw11939334862870064672:=0
def tw4668699722460784879:=0
def tw9013455707487685840:=0
def tw727489957725582895:=0
def tw4370220441024204691:=0
def tw7998042305386311824:=0
def tw3809208295538763126:=0
def tw4606921293715231969:=0
def tw10521224444031091266:=0
def tw8070915543430331268:=0
def tw444211012582378357:=0
def tw14104537854307815003:=0
def tw16609252560064055744:=0
def tw9562378761243822794:=0
def tw8654473141121799541:=0
def tw5860095483717769851:=0
def tw11131070200356897677:=0
def tw15501775191024882740:=0
def tw9652956291666782324:=0
def tw9872466013369640409:=0
def tw16755300250411007992:=0
def tw1961354396570151115:=0
def tw16526344368589429338:=0
def tw6194378920222258351:=0
def tw16127251397676485960:=0
def tw18228383332580179504:=0
def tw6433757204599720437:=0
def tw14037730669081390059:=0
def tw183439194046123184:=0
def tw17794306993410774384:=0
def tw16314025777456433007:=0
def tw9337438568324248402:=0
def tw5855555372172716003:=0
def tw9776843527370398299:=0
def tw369151994289347377:=0
def tw8538433789792579897:=0
def tw10044794921216461960:=0
def tw14586986620483379561:=0
def tw15210955754120212226:=0
def tw1505313749907707376:=0
def tw5479306572714851589:=0
def tw7651398081627474839:=0
def tw6962878803930523319:=0
def tw2448871559639405128:=0
def tw1297787065569296523:=0
def tw6803820354026819572:=0
def tw7699830212224398960:=0
def tw8572788702291359194:=0
def tw5909414944239052284:=0
def tw16990877078193790809:=0
def tw4086115257166221088:=0
def tw5209988106892579439:=0
def tw4852776421628253916:=0
def tw1886542613181885579:=0
def tw8785217618266720577:=0
def tw17392910115185632116:=0
def tw554683372677079281:=0
def tw14159365288573283999:=0
def tw3130633938439383220:=0
def tw14100558760420869222:=0
def tw2128360266348385326:=0
def tw1165412588550181999:=0
def tw1300139013801103085:=0
def tw9139989486659151065:=0
def tw5595054335467488192:=0
def tw8440836423116012018:=0
def tw6059766461686976770:=0
def tw8809393302955198232:=0
def tw11215365017582219913:=0
def tw6464934107667979899:=0
def tw11933646975836400134:=0
def tw6152989734213314337:=0
def tw1579087736818159087:=0
def tw10983785612695084933:=0
def tw6173792592913534778:=0
def tw17040132970164622964:=0
def tw8301791587468187887:=0
def tw588525778964159752:=0
def tw11875729622692418925:=0
def tw7931878232755823295:=0
def tw13674204804638128698:=0
def tw1075448592999326044:=0
def tw7575722538965552261:=0
def tw14033188520825534816:=0
def tw6175096868733728353:=0
def tw17981842710890235337:=0
def tw18022085216841648175:=0
def tw10347913074662086856:=0
def tw7110063175046470152:=0
def tw17085356632579297514:=0
def tw11079537112425599040:=0
def tw16265637940894216625:=0
def tw12179725631976313263:=0
def tw8343670277378392157:=0
def tw15527295522117787841:=0
def tw10051490182840758080:=0
def tw7154079266790732004:=0
def tw3818909993723809705:=0
def tw3574561688223619448:=0
def tw2898764375422209384:=0
def tw9760090491086895353:=0
def tw15701553979315860865:=0
def tw6116851074655761461:=0
def tw1214194027751188324:=0
def tw14198428364025146870:=0
def tw4712889711265649678:=0
def tw16166799578362566830:=0
def tw15321488751908115916:=0
def tw2352167313611800586:=0
def tw17315723321229567041:=0
def tw12966349870653193790:=0
def tw13799845506685705843:=0
def tw14547879164133991225:=0
end PySem.W.Fast
open PySem PySem.W PyProof.Rows
local macro_rules | `(tactic| walk_at "k") => `(tactic| first | k_is | kit_is | rfl | kernel_rfl)
set_option maxRecDepth 100000 in
set_option maxHeartbeats 0 in
theorem PySem.Challenge.cw_frameback_k52_names_filled_holds : PySem.Challenge.rw_frameback_k52_names_filled.Holds := by
  w_on; o_law; k_head; (case hw => w_witness2)
  k_fill
  refine FB.walk (l := PySem.Challenge.rw_frameback_k52_names_filled) rfl rfl (fun w h Y => PySem.W.kIn_of Y) ?F
  case F =>
    intro w mg fa h KX G hmg
    have T : ∃ (a : FB.Adr) (fd : FuncData), FB.Txt w (L2.KOf KX) mg a ∧ L2.Fun (L2.KOf KX) "law" "law" FB.s_law fa fd ∧ ∀ (s : Shared) (v : Value), BindsTo s fd ⟨[v], []⟩ [("_law_script", v)] := by
      dsimp only [L2.KOf]
      refine' FB.txt_mk KX G hmg ?z_all ?z_bool ?z_int ?z_isinstance ?z_len ?z_list ?z_min ?z_range ?z_str ?z_tuple ?z_zip ?g_NOUGHT ?g_PARTS ?l_PARTS ?y_PARTS ?t4_PARTS ?t8_PARTS ?t13_PARTS ?t18_PARTS ?t23_PARTS ?t28_PARTS ?t33_PARTS ?t38_PARTS ?t42_PARTS ?t47_PARTS ?t50_PARTS ?t53_PARTS ?t57_PARTS ?g_TOP_FUNCTIONS ?g_TOP_HANDED ?g_TOP_NAME ?g_TOP_STATEMENTS ?g_TOP_VALUE ?g_TOP_WITHIN ?g_UNCOUNTED ?t60_UNCOUNTED ?g_VALUES ?c_Doing ?c_NoProgram ?c_Run ?pg_Doing ?hd_Doing ?po_Doing ?sa_Doing ?mk_Doing ?kc_Doing ?n_Doing_moves ?n_Doing_mark ?n_Doing_names ?a61 ?i61 ?l61 ?c61 ?k61 ?a62 ?i62 ?l62 ?c62 ?k62 ?pg_Run ?hd_Run ?po_Run ?sa_Run ?mk_Run ?kc_Run ?n_Run_bodies ?n_Run_steps_left ?n_Run_doings ?n_Run_answer ?n_Run_mark ?a63 ?i63 ?l63 ?c63 ?k63 ?a64 ?i64 ?l64 ?c64 ?k64 ?a65 ?i65 ?l65 ?c65 ?k65 ?a66 ?i66 ?l66 ?c66 ?k66 ?a67 ?i67 ?l67 ?c67 ?k67 ?xe_NoProgram ?xa_NoProgram ?xb_NoProgram ?xc_NoProgram ?xd_NoProgram ?xf_NoProgram ?xg_NoProgram ?xh_NoProgram ?xi_NoProgram ?k_int_int ?k_int_bool ?k_tuple_tuple ?k_str_str ?k_list_list ?a68 ?l68 ?c68 ?k68 ?a69 ?l69 ?c69 ?k69 ?a70 ?l70 ?c70 ?k70 ?a71 ?l71 ?c71 ?k71 ?a72 ?l72 ?c72 ?k72 ?a73 ?l73 ?c73 ?k73 ?a74 ?l74 ?c74 ?k74 ?a75 ?l75 ?c75 ?k75 ?a76 ?l76 ?c76 ?k76 ?a77 ?l77 ?c77 ?k77 ?a78 ?l78 ?c78 ?k78 ?a79 ?l79 ?c79 ?k79 ?a80 ?l80 ?c80 ?k80 ?a81 ?l81 ?c81 ?k81 ?a82 ?l82 ?c82 ?k82 ?a83 ?l83 ?c83 ?k83 ?a84 ?l84 ?c84 ?k84 ?a85 ?l85 ?c85 ?k85 ?a86 ?l86 ?c86 ?k86 ?a87 ?l87 ?c87 ?k87
      (case z_all => walk_at "k")
      (case z_bool => walk_at "k")
      (case z_int => walk_at "k")
      (case z_isinstance => walk_at "k")
      (case z_len => walk_at "k")
      (case z_list => walk_at "k")
      (case z_min => walk_at "k")
      (case z_range => walk_at "k")
      (case z_str => walk_at "k")
      (case z_tuple => walk_at "k")
      (case z_zip => walk_at "k")
      (case g_NOUGHT => walk_at "k")
      (case g_PARTS => walk_at "k")
      (case l_PARTS => walk_at "k")
      (case y_PARTS => walk_at "k")
      (case t4_PARTS => walk_at "k")
      (case t8_PARTS => walk_at "k")
      (case t13_PARTS => walk_at "k")
      (case t18_PARTS => walk_at "k")
      (case t23_PARTS => walk_at "k")
      (case t28_PARTS => walk_at "k")
      (case t33_PARTS => walk_at "k")
      (case t38_PARTS => walk_at "k")
      (case t42_PARTS => walk_at "k")
      (case t47_PARTS => walk_at "k")
      (case t50_PARTS => walk_at "k")
      (case t53_PARTS => walk_at "k")
      (case t57_PARTS => walk_at "k")
      (case g_TOP_FUNCTIONS => walk_at "k")
      (case g_TOP_HANDED => walk_at "k")
      (case g_TOP_NAME => walk_at "k")
      (case g_TOP_STATEMENTS => walk_at "k")
      (case g_TOP_VALUE => walk_at "k")
      (case g_TOP_WITHIN => walk_at "k")
      (case g_UNCOUNTED => walk_at "k")
      (case t60_UNCOUNTED => walk_at "k")
      (case g_VALUES => walk_at "k")
      (case c_Doing => walk_at "k")
      (case c_NoProgram => walk_at "k")
      (case c_Run => walk_at "k")
      (case pg_Doing => walk_at "k")
      (case hd_Doing => walk_at "k")
      (case po_Doing => walk_at "k")
      (case sa_Doing => walk_at "k")
      (case mk_Doing => walk_at "k")
      (case kc_Doing => walk_at "k")
      (case n_Doing_moves => walk_at "k")
      (case n_Doing_mark => walk_at "k")
      (case n_Doing_names => walk_at "k")
      (case a61 => walk_at "k")
      (case i61 => walk_at "k")
      (case l61 => walk_at "k")
      (case c61 => walk_at "k")
      (case k61 => walk_at "k")
      (case a62 => walk_at "k")
      (case i62 => walk_at "k")
      (case l62 => walk_at "k")
      (case c62 => walk_at "k")
      (case k62 => walk_at "k")
      (case pg_Run => walk_at "k")
      (case hd_Run => walk_at "k")
      (case po_Run => walk_at "k")
      (case sa_Run => walk_at "k")
      (case mk_Run => walk_at "k")
      (case kc_Run => walk_at "k")
      (case n_Run_bodies => walk_at "k")
      (case n_Run_steps_left => walk_at "k")
      (case n_Run_doings => walk_at "k")
      (case n_Run_answer => walk_at "k")
      (case n_Run_mark => walk_at "k")
      (case a63 => walk_at "k")
      (case i63 => walk_at "k")
      (case l63 => walk_at "k")
      (case c63 => walk_at "k")
      (case k63 => walk_at "k")
      (case a64 => walk_at "k")
      (case i64 => walk_at "k")
      (case l64 => walk_at "k")
      (case c64 => walk_at "k")
      (case k64 => walk_at "k")
      (case a65 => walk_at "k")
      (case i65 => walk_at "k")
      (case l65 => walk_at "k")
      (case c65 => walk_at "k")
      (case k65 => walk_at "k")
      (case a66 => walk_at "k")
      (case i66 => walk_at "k")
      (case l66 => walk_at "k")
      (case c66 => walk_at "k")
      (case k66 => walk_at "k")
      (case a67 => walk_at "k")
      (case i67 => walk_at "k")
      (case l67 => walk_at "k")
      (case c67 => walk_at "k")
      (case k67 => walk_at "k")
      (case xe_NoProgram => walk_at "k")
      (case xa_NoProgram => walk_at "k")
      (case xb_NoProgram => walk_at "k")
      (case xc_NoProgram => walk_at "k")
      (case xd_NoProgram => walk_at "k")
      (case xf_NoProgram => walk_at "k")
      (case xg_NoProgram => walk_at "k")
      (case xh_NoProgram => walk_at "k")
      (case xi_NoProgram => walk_at "k")
      (case k_int_int => walk_at "k")
      (case k_int_bool => walk_at "k")
      (case k_tuple_tuple => walk_at "k")
      (case k_str_str => walk_at "k")
      (case k_list_list => walk_at "k")
      (case a68 => walk_at "k")
      (case l68 => walk_at "k")
      (case c68 => walk_at "k")
      (case k68 => walk_at "k")
      (case a69 => walk_at "k")
      (case l69 => walk_at "k")
      (case c69 => walk_at "k")
      (case k69 => walk_at "k")
      (case a70 => walk_at "k")
      (case l70 => walk_at "k")
      (case c70 => walk_at "k")
      (case k70 => walk_at "k")
      (case a71 => walk_at "k")
      (case l71 => walk_at "k")
      (case c71 => walk_at "k")
      (case k71 => walk_at "k")
      (case a72 => walk_at "k")
      (case l72 => walk_at "k")
      (case c72 => walk_at "k")
      (case k72 => walk_at "k")
      (case a73 => walk_at "k")
      (case l73 => walk_at "k")
      (case c73 => walk_at "k")
      (case k73 => walk_at "k")
      (case a74 => walk_at "k")
      (case l74 => walk_at "k")
      (case c74 => walk_at "k")
      (case k74 => walk_at "k")
      (case a75 => walk_at "k")
      (case l75 => walk_at "k")
      (case c75 => walk_at "k")
      (case k75 => walk_at "k")
      (case a76 => walk_at "k")
      (case l76 => walk_at "k")
      (case c76 => walk_at "k")
      (case k76 => walk_at "k")
      (case a77 => walk_at "k")
      (case l77 => walk_at "k")
      (case c77 => walk_at "k")
      (case k77 => walk_at "k")
      (case a78 => walk_at "k")
      (case l78 => walk_at "k")
      (case c78 => walk_at "k")
      (case k78 => walk_at "k")
      (case a79 => walk_at "k")
      (case l79 => walk_at "k")
      (case c79 => walk_at "k")
      (case k79 => walk_at "k")
      (case a80 => walk_at "k")
      (case l80 => walk_at "k")
      (case c80 => walk_at "k")
      (case k80 => walk_at "k")
      (case a81 => walk_at "k")
      (case l81 => walk_at "k")
      (case c81 => walk_at "k")
      (case k81 => walk_at "k")
      (case a82 => walk_at "k")
      (case l82 => walk_at "k")
      (case c82 => walk_at "k")
      (case k82 => walk_at "k")
      (case a83 => walk_at "k")
      (case l83 => walk_at "k")
      (case c83 => walk_at "k")
      (case k83 => walk_at "k")
      (case a84 => walk_at "k")
      (case l84 => walk_at "k")
      (case c84 => walk_at "k")
      (case k84 => walk_at "k")
      (case a85 => walk_at "k")
      (case l85 => walk_at "k")
      (case c85 => walk_at "k")
      (case k85 => walk_at "k")
      (case a86 => walk_at "k")
      (case l86 => walk_at "k")
      (case c86 => walk_at "k")
      (case k86 => walk_at "k")
      (case a87 => walk_at "k")
      (case l87 => walk_at "k")
      (case c87 => walk_at "k")
      (case k87 => walk_at "k")
    obtain ⟨a, fd, T, FF, B⟩ := T
    exact ⟨fd, B, fun base _ _ => FB.law_fn T FF⟩
