import PyProof.Rows.All
import Wide.All
import OpenK.AllK
import Wide.FinOn
import Lean
import PyProof.EqAt
import PyProof.EqKinds
import PyProof.TupleCall
import PySem.Challenge.RW_frameback_k13_where_a_drop_lands
set_option Elab.async false
set_option linter.all false
set_option maxRecDepth 100000

namespace L2
open PySem PySem.Spec PyProof.Rows


abbrev Key := Sum Int Str
def keyIs : Key → Value → Bool
  | .inl k, v => Value.isInt k v
  | .inr x, v => Value.isStrOf x v
def keyH (w : World) : Key → Int
  | .inl k => hashInt k
  | .inr x => hashStr w x
theorem keyIs_shape : ∀ {k : Key} {v : Value}, keyIs k v = true → (∃ i t, k = Sum.inl i ∧ v = Value.int i t) ∨ (∃ x t, k = Sum.inr x ∧ v = Value.str x t)
  | .inl i, v, h => by
    obtain ⟨t, e⟩ := Value.isInt_shape (k := i) (v := v) h
    exact .inl ⟨i, t, rfl, e⟩
  | .inr x, v, h => by
    obtain ⟨t, e⟩ := Value.isStrOf_shape (x := x) (v := v) h
    exact .inr ⟨x, t, rfl, e⟩
theorem keyIs_int (i : Int) (t : Tok) : keyIs (.inl i) (.int i t) = true := by simp [keyIs, Value.isInt]
theorem keyIs_str (x : Str) (t : Tok) : keyIs (.inr x) (.str x t) = true := by simp [keyIs, Value.isStrOf]
theorem key_ll (a b : Int) : decide ((Sum.inl a : Key) = Sum.inl b) = (a == b) := by
  by_cases e : a = b
  · subst e; simp
  · have h : ¬ (Sum.inl a : Key) = Sum.inl b := fun q => e (Sum.inl.inj q)
    rw [decide_eq_false h]
    exact (beq_eq_false_iff_ne.mpr e).symm
theorem key_rr (a b : Str) : decide ((Sum.inr a : Key) = Sum.inr b) = decide (a = b) := by
  by_cases e : a = b
  · subst e; simp
  · have h : ¬ (Sum.inr a : Key) = Sum.inr b := fun q => e (Sum.inr.inj q)
    rw [decide_eq_false h, decide_eq_false e]
theorem key_lr (a : Int) (b : Str) : decide ((Sum.inl a : Key) = Sum.inr b) = false := decide_eq_false (fun q => nomatch q)
theorem key_rl (a : Str) (b : Int) : decide ((Sum.inr a : Key) = Sum.inl b) = false := decide_eq_false (fun q => nomatch q)

def mixKind (prog : Program) (w : World) : PySem.KeyKind prog w Key where
  is := keyIs
  hash := keyH w
  inj := fun v a b ha hb => by
    rcases keyIs_shape ha with ⟨i, t, rfl, rfl⟩ | ⟨x, t, rfl, rfl⟩
    · rcases keyIs_shape hb with ⟨j, u, rfl, e⟩ | ⟨y, u, rfl, e⟩
      · injection e with e1 _; rw [e1]
      · exact nomatch e
    · rcases keyIs_shape hb with ⟨j, u, rfl, e⟩ | ⟨y, u, rfl, e⟩
      · exact nomatch e
      · injection e with e1 _; rw [e1]
  byValue := fun k v h => by
    rcases keyIs_shape h with ⟨i, t, rfl, rfl⟩ | ⟨x, t, rfl, rfl⟩ <;> rfl
  pyHash := fun hv h => by
    rcases keyIs_shape hv with ⟨i, t, rfl, rfl⟩ | ⟨x, t, rfl, rfl⟩
    · exact wpAny_pyHash_int h
    · exact wpAny_pyHash_str h
  eqBool := fun hu hv h => by
    rcases keyIs_shape hu with ⟨i, t, rfl, rfl⟩ | ⟨x, t, rfl, rfl⟩
    · rcases keyIs_shape hv with ⟨j, u, rfl, rfl⟩ | ⟨y, u, rfl, rfl⟩
      · rw [key_ll] at h; exact wpAny_eqBool_int h
      · rw [key_lr] at h; exact SeqAt.EqAt.int_str i t y u _ _ _ _ h
    · rcases keyIs_shape hv with ⟨j, u, rfl, rfl⟩ | ⟨y, u, rfl, rfl⟩
      · rw [key_rl] at h; exact SeqAt.EqAt.str_int x t j u _ _ _ _ h
      · rw [key_rr] at h; exact wpAny_eqBool_str h
  «strs» := fun k x t v h => by
    rcases keyIs_shape h with ⟨i, u, rfl, e⟩ | ⟨y, u, rfl, e⟩
    · exact nomatch e
    · injection e with e1 _
      subst e1
      cases v <;> rfl

theorem mixKind_int (prog : Program) (w : World) (i : Int) (t : Tok) : (mixKind prog w).is (.inl i) (.int i t) = true := keyIs_int i t
theorem mixKind_str (prog : Program) (w : World) (x : Str) (t : Tok) : (mixKind prog w).is (.inr x) (.str x t) = true := keyIs_str x t
end L2

namespace L2
open PySem PySem.Spec PyProof.Rows


inductive V where
  | non | bl (b : Bool) | int (i : Int) | str (x : Str) | byt (b : Array UInt8) | flt (b : UInt64) | ref (a : Addr) | ty (n : String)
  deriving DecidableEq

def RelV : V → Value → Prop
  | .non, u => u = Value.none
  | .bl b, u => u = Value.bool b
  | .int i, u => ∃ t, u = Value.int i t
  | .str x, u => ∃ t, u = Value.str x t
  | .byt b, u => ∃ t, u = Value.bytes b t
  | .flt b, u => ∃ t, u = Value.float b t
  | .ref a, u => u = Value.ref a
  | .ty n, u => u = Value.type n

abbrev Vals : List V → List Value → Prop := Paired RelV
theorem Vals.length {xs : List V} {us : List Value} (r : Vals xs us) : xs.length = us.length := Paired.length r
theorem Vals.get : ∀ {xs : List V} {us : List Value} {i : Nat} {x : V}, Vals xs us → xs[i]? = some x → ∃ u, us[i]? = some u ∧ RelV x u
  | _, _, _, _, .nil, e => by simp at e
  | _, _, 0, _, .cons r _, e => by simp at e; subst e; exact ⟨_, rfl, r⟩
  | _, _, i + 1, x, .cons _ t, e => by
    obtain ⟨u, h1, h2⟩ := Vals.get (i := i) (x := x) t (by simpa using e)
    exact ⟨u, by simpa using h1, h2⟩
theorem Vals.set {x : V} {u : Value} (r : RelV x u) : ∀ {xs : List V} {us : List Value} (i : Nat), Vals xs us → Vals (xs.set i x) (us.set i u)
  | _, _, _, .nil => .nil
  | _, _, 0, .cons _ t => .cons r t
  | _, _, i + 1, .cons q t => .cons q (Vals.set r i t)
theorem Vals.append : ∀ {xs ys : List V} {us ws : List Value}, Vals xs us → Vals ys ws → Vals (xs ++ ys) (us ++ ws)
  | _, _, _, _, .nil, s => s
  | _, _, _, _, .cons r t, s => .cons r (Vals.append t s)
theorem Vals.take : ∀ {xs : List V} {us : List Value} (n : Nat), Vals xs us → Vals (xs.take n) (us.take n)
  | _, _, 0, _ => .nil
  | _, _, _ + 1, .nil => .nil
  | _, _, n + 1, .cons r t => .cons r (Vals.take n t)
theorem Vals.drop : ∀ {xs : List V} {us : List Value} (n : Nat), Vals xs us → Vals (xs.drop n) (us.drop n)
  | _, _, 0, r => r
  | _, _, _ + 1, .nil => .nil
  | _, _, n + 1, .cons _ t => Vals.drop n t
def RelO : Option V → Option Value → Prop
  | some v, some u => RelV v u
  | none, none => True
  | _, _ => False
def KV {κ : Type} : List (κ × V) → List (κ × Value) → Prop := Paired fun (p : κ × V) (q : κ × Value) => p.1 = q.1 ∧ RelV p.2 q.2


def kV : Key → V
  | .inl i => .int i
  | .inr x => .str x


inductive HO where
  
  | lst (xs : List V)
  
  | tup (xs : List V)
  
  | dK (kvs : List (Key × V)) | dT (kvs : List (List Key × V))
  
  | set (S : Int → Bool) (n : Nat)
  
  | ins (C dx : Addr) (fs : List (Str × V))
  
  | own (x : Addr)
  
  | xd (fs : List (Str × V))
  
  | met (f x : Addr)
  
  | rng (lo hi : Int)
  
  | frz (o : Obj) (u : HO)
  
  | tbl (ps : Array Value)
  
  | ext (φ : Heap → Prop)

abbrev Hp := Addr → Option HO
def upd (H : Hp) (a : Addr) (o : HO) : Hp := fun b => if b = a then some o else H b
theorem upd_same {H : Hp} {a : Addr} {o : HO} : upd H a o a = some o := by unfold upd; rw [if_pos rfl]
theorem upd_ne {H : Hp} {a b : Addr} {o : HO} (h : b ≠ a) : upd H a o b = H b := by unfold upd; rw [if_neg h]
theorem upd_upd {H : Hp} {a : Addr} {o u : HO} : upd (upd H a o) a u = upd H a u := by
  funext b; unfold upd; split <;> rfl

theorem ne_of {H : Hp} {a b : Addr} {o u : HO} (h : H a = some o) (h' : H b = some u) (d : o ≠ u) : a ≠ b := by
  intro e; subst e; rw [h] at h'; exact d (Option.some.inj h')
theorem ne_of_none {H : Hp} {a b : Addr} {o : HO} (h : H a = some o) (h' : H b = none) : a ≠ b := by
  intro e; subst e; rw [h] at h'; cases h'

section
variable (P : Program) (w : World)
def ObjOk (H : Hp) (h : Heap) (a : Addr) : HO → Prop
  | .lst xs => xs.length ≤ sizeLine ∧ ∃ (its : List Value) (n : Nat), Vals xs its ∧ h.get? a = some { cls := .type "list", data := .seq its.toArray n }
  | .tup xs => xs.length ≤ sizeLine ∧ ∃ its : List Value, Vals xs its ∧ IsTup h a its.toArray
  | .dK kvs => kvs.length ≤ sizeLine ∧ (a == sysModules) = false ∧ ∃ vs, KV kvs vs ∧ h.DictOf (mixKind P w) a vs
  | .dT kvs => kvs.length ≤ sizeLine ∧ (a == sysModules) = false ∧ ∃ xs : List (List Key × Addr × Value),
      Paired (fun (p : List Key × V) (q : List Key × Addr × Value) => p.1 = q.1 ∧ H q.2.1 = some (.tup (p.1.map kV)) ∧ RelV p.2 q.2.2) kvs xs ∧
      ∃ o es ep, h.get? a = some o ∧ o.ExactDict ∧ o.data = .dict es ep ∧ es.toList = xs.map (entryOfKey (tupleKind (mixKind P w))) ∧ (xs.map (·.1)).Nodup
  | .set S n => h.SetOf (intKind P w) a S n
  | .ins C dx fs => H dx = some (.own a) ∧ fs.length ≤ 1000 ∧ dx ≠ a ∧ h.get? a = some (PySem.W.instObj C dx) ∧
      ∃ mA, h.Ns1 dx mA ∧ (∀ f, RelO (fs.lookup f) (mA f)) ∧ PySem.Within mA (fs.map (·.1))
  | .own _ => ∃ o, h.get? a = some o
  | .xd fs => ∃ mA, h.Ns1 a mA ∧ ∀ f, RelO (fs.lookup f) (mA f)
  | .rng lo hi => ∃ t u v, h.get? a = some { cls := .type "range", data := .fields #[.int lo t, .int hi u, .int 1 v] }
  | .frz o u => h.get? a = some o ∧ ObjOk H h a u
  | .tbl ps => h.get? a = some { cls := .none, data := .fields ps }
  | .met f x => h.get? a = some (PySem.W.methodObj (.ref f) (.ref x))
  | .ext φ => φ h ∧ (∃ o, h.get? a = some o) ∧ ∀ h1 h2 : Heap, φ h1 → (∀ o, h1.get? a = some o → h2.get? a = some o) → φ h2

def HOk (H : Hp) (h : Heap) : Prop := ∀ a o, H a = some o → ObjOk P w H h a o
end

section
variable {P : Program} {w : World} {H H' : Hp} {h h' : Heap} {a : Addr} {o : HO}
theorem ObjOk.lt (x : ObjOk P w H h a o) : a < h.objs.size := by
  cases o with
  | lst xs => obtain ⟨_, _, _, _, e⟩ := x; exact Heap.lt_size e
  | tup xs => obtain ⟨_, _, _, p⟩ := x; exact p.lt
  | dK kvs => obtain ⟨_, _, _, _, o, _, _, e, _⟩ := x; exact Heap.lt_size e
  | dT kvs => obtain ⟨_, _, _, _, o, _, _, e, _⟩ := x; exact Heap.lt_size e
  | set S n => obtain ⟨o, _, _, _, e, _⟩ := x; exact Heap.lt_size e
  | ins C dx fs => obtain ⟨_, _, _, e, _⟩ := x; exact Heap.lt_size e
  | own y => obtain ⟨_, e⟩ := x; exact Heap.lt_size e
  | xd fs => obtain ⟨_, ⟨_, _, _, e, _⟩, _⟩ := x; exact Heap.lt_size e
  | rng lo hi => obtain ⟨_, _, _, e⟩ := x; exact Heap.lt_size e
  | frz ob u => obtain ⟨e, _⟩ := x; exact Heap.lt_size e
  | tbl ps => exact Heap.lt_size (show h.get? a = some _ from x)
  | met f y => exact Heap.lt_size (show h.get? a = some _ from x)
  | ext φ => obtain ⟨_, ⟨_, e⟩, _⟩ := x; exact Heap.lt_size e
theorem Paired.mapP {α β : Type} {F G : α → β → Prop} : ∀ {l₁ : List α} {l₂ : List β}, Paired F l₁ l₂ → (∀ a b, F a b → G a b) → Paired G l₁ l₂
  | _, _, .nil, _ => .nil
  | _, _, .cons r t, f => .cons (f _ _ r) (Paired.mapP t f)
theorem ObjOk.stay (x : ObjOk P w H h a o) (k : ∀ b u, (b = a ∨ H b = some (.own a)) → h.get? b = some u → h'.get? b = some u)
    (ho : ∀ b, H b = some (.own a) → H' b = some (.own a)) (ht : ∀ b xs, H b = some (.tup xs) → H' b = some (.tup xs)) : ObjOk P w H' h' a o := by
  induction o with
  | lst xs => obtain ⟨z, its, n, r, e⟩ := x; exact ⟨z, its, n, r, k _ _ (.inl rfl) e⟩
  | tup xs => obtain ⟨z, its, r, ob, e, c⟩ := x; exact ⟨z, its, r, ob, k _ _ (.inl rfl) e, c⟩
  | dK kvs => obtain ⟨z, y, vs, r, ob, es, ep, e, c⟩ := x; exact ⟨z, y, vs, r, ob, es, ep, k _ _ (.inl rfl) e, c⟩
  | dT kvs =>
    obtain ⟨z, y, xs, r, ob, es, ep, e, c⟩ := x
    exact ⟨z, y, xs, Paired.mapP r fun p q z => ⟨z.1, ht _ _ z.2.1, z.2.2⟩, ob, es, ep, k _ _ (.inl rfl) e, c⟩
  | set S n => obtain ⟨ob, es, ep, t, e, c⟩ := x; exact ⟨ob, es, ep, t, k _ _ (.inl rfl) e, c⟩
  | ins C dx fs =>
    obtain ⟨d, z, ne, e, mA, ⟨od, es, ep, e2, c⟩, r⟩ := x
    exact ⟨ho _ d, z, ne, k _ _ (.inl rfl) e, mA, ⟨od, es, ep, k _ _ (.inr d) e2, c⟩, r⟩
  | own y => obtain ⟨ob, e⟩ := x; exact ⟨ob, k _ _ (.inl rfl) e⟩
  | xd fs => obtain ⟨mA, ⟨od, es, ep, e, c⟩, r⟩ := x; exact ⟨mA, ⟨od, es, ep, k _ _ (.inl rfl) e, c⟩, r⟩
  | rng lo hi => obtain ⟨t, u, v, e⟩ := x; exact ⟨t, u, v, k _ _ (.inl rfl) e⟩
  | frz ob u ih => obtain ⟨e, q⟩ := x; exact ⟨k _ _ (.inl rfl) e, ih q⟩
  | tbl ps =>
    have e : h.get? a = some { cls := .none, data := .fields ps } := x
    show h'.get? a = some { cls := .none, data := .fields ps }
    exact k a _ (.inl rfl) e
  | met f y =>
    have e : h.get? a = some (PySem.W.methodObj (.ref f) (.ref y)) := x
    show h'.get? a = some (PySem.W.methodObj (.ref f) (.ref y))
    exact k a _ (.inl rfl) e
  | ext φ => obtain ⟨p, ⟨o, e⟩, st⟩ := x; exact ⟨st _ _ p fun o q => k _ _ (.inl rfl) q, ⟨o, k _ _ (.inl rfl) e⟩, st⟩
theorem HOk.lt (x : HOk P w H h) (e : H a = some o) : a < h.objs.size := (x a o e).lt
theorem HOk.fresh (x : HOk P w H h) (e : h.objs.size ≤ a) : H a = none := by
  cases q : H a with
  | none => rfl
  | some u => exact absurd (Nat.lt_of_lt_of_le (x.lt q) e) (Nat.lt_irrefl _)

theorem HOk.kept (x : HOk P w H h) (k : ∀ b u, h.get? b = some u → h'.get? b = some u) : HOk P w H h' := fun a o e =>
  (x a o e).stay (fun b u _ q => k b u q) (fun _ q => q) fun _ _ q => q

theorem HOk.laid (x : HOk P w H h) (k : ∀ b u, h.get? b = some u → h'.get? b = some u) (hp : h.objs.size ≤ a) (new : ObjOk P w (upd H a o) h' a o) : HOk P w (upd H a o) h' := fun b u e => by
  have hn := x.fresh hp
  by_cases hb : b = a
  · subst hb; rw [upd_same] at e; cases e; exact new
  · rw [upd_ne hb] at e
    exact (x b u e).stay (fun c v _ q => k c v q) (fun c q => by rw [upd_ne (ne_of_none q hn)]; exact q) fun c xs q => by rw [upd_ne (ne_of_none q hn)]; exact q
end


def Rd (H : Hp) (a : Addr) (u : HO) : Prop := H a = some u ∨ ∃ o, H a = some (.frz o u)
theorem Rd.ok {P : Program} {w : World} {H : Hp} {h : Heap} {a : Addr} {u : HO} (r : Rd H a u) (x : HOk P w H h) : ObjOk P w H h a u := by
  rcases r with r | ⟨o, r⟩
  · exact x a u r
  · obtain ⟨_, q⟩ := x a _ r
    exact q

def Mut : Option HO → Prop
  | some (.lst _) => True
  | some (.dK _) => True
  | some (.dT _) => True
  | some (.set _ _) => True
  | some (.ins _ _ _) => True
  | some (.ext _) => True
  | _ => False
section
variable {P : Program} {w : World} {H : Hp} {h h' : Heap} {x e : Addr} {o' : HO}

theorem HOk.write (ok : HOk P w H h) (mu : Mut (H x)) (he : e = x ∨ H e = some (.own x)) (k : ∀ b u, b ≠ e → h.get? b = some u → h'.get? b = some u) (heo : ∃ u, h'.get? e = some u)
    (new : ObjOk P w (upd H x o') h' x o') : HOk P w (upd H x o') h' := fun b u q => by
  have nown : ∀ c y, H c = some (.own y) → c ≠ x := fun c y r z => by subst z; rw [r] at mu; exact mu
  have ntup : ∀ c xs, H c = some (.tup xs) → c ≠ x := fun c xs r z => by subst z; rw [r] at mu; exact mu
  by_cases hb : b = x
  · subst hb; rw [upd_same] at q; cases q; exact new
  · rw [upd_ne hb] at q
    by_cases hbe : b = e
    · have q' : H b = some (.own x) := by
        rcases he with z | z
        · exact absurd (hbe.trans z) hb
        · rw [hbe]; exact z
      rw [q] at q'; cases q'
      obtain ⟨v, hv⟩ := heo
      exact ⟨v, by rw [hbe]; exact hv⟩
    · refine (ok b u q).stay (fun c v hc r => k c v ?_ r) (fun c r => by rw [upd_ne (nown c b r)]; exact r) fun c xs r => by rw [upd_ne (ntup c xs r)]; exact r
      rcases hc with rfl | hc
      · exact hbe
      · rintro rfl
        rcases he with z | z
        · exact nown c b hc z
        · rw [hc] at z; cases z; exact hb rfl
end


structure Un (fs ex : List Addr) (H H' : Hp) (h h' : Heap) : Prop where
  keep : ∀ b o, h.get? b = some o → H b = none → b ∉ fs → b ∉ ex → h'.get? b = some o
  slot : ∀ b o, h.get? b = some o → H b = none → b ∈ fs → b ∉ ex → ∃ sl, h'.get? b = some { o with slots := sl }
  free : ∀ b o, h.get? b = some o → H b = none → b ∉ ex → H' b = none
  there : ∀ b o, h.get? b = some o → b ∉ ex → ∃ o', h'.get? b = some o'
  tups : ∀ b xs, H b = some (.tup xs) → H' b = some (.tup xs)
  frzs : ∀ b o u, H b = some (.frz o u) → H' b = some (.frz o u)
  tbls : ∀ b ps, H b = some (.tbl ps) → ∃ more, H' b = some (.tbl (ps ++ more))
section
variable {fs fs' ex ex' : List Addr} {H H1 H2 : Hp} {h h1 h2 h' : Heap} {a x e : Addr} {o : HO}
theorem Un.any (u : Un fs ex H H1 h h1) {b : Addr} {ob : Obj} (q : h.get? b = some ob) (n : H b = none) (hx : b ∉ ex) : ∃ sl, h1.get? b = some { ob with slots := sl } := by
  by_cases hb : b ∈ fs
  · exact u.slot b ob q n hb hx
  · exact ⟨ob.slots, u.keep b ob q n hb hx⟩
theorem Un.kept (k : ∀ b u, h.get? b = some u → h'.get? b = some u) : Un fs ex H H h h' :=
  ⟨fun b ob q _ _ _ => k b ob q, fun b ob q _ _ _ => ⟨ob.slots, k b ob q⟩, fun _ _ _ n _ => n, fun b ob q _ => ⟨ob, k b ob q⟩, fun _ _ q => q, fun _ _ _ q => q, fun _ ps q => ⟨#[], by rw [q]; simp⟩⟩
theorem Un.refl : Un fs ex H H h h := Un.kept fun _ _ q => q
theorem Un.laid (k : ∀ b u, h.get? b = some u → h'.get? b = some u) (hp : h.objs.size ≤ a) (hn : H a = none) : Un fs ex H (upd H a o) h h' where
  keep := fun b u q _ _ _ => k b u q
  slot := fun b u q _ _ _ => ⟨u.slots, k b u q⟩
  free := fun b u q n _ => by rw [upd_ne (Nat.ne_of_lt (Nat.lt_of_lt_of_le (Heap.lt_size q) hp))]; exact n
  there := fun b u q _ => ⟨u, k b u q⟩
  tups := fun b xs q => by rw [upd_ne (ne_of_none q hn)]; exact q
  frzs := fun b u xs q => by rw [upd_ne (ne_of_none q hn)]; exact q
  tbls := fun b ps q => ⟨#[], by rw [upd_ne (ne_of_none q hn), q]; simp⟩
theorem Un.write (mu : Mut (H x)) (he : e = x ∨ H e = some (.own x)) (k : ∀ b u, b ≠ e → h.get? b = some u → h'.get? b = some u) (heo : ∃ u, h'.get? e = some u) : Un fs ex H (upd H x o) h h' := by
  have hx : ∀ b, H b = none → b ≠ x := fun b n z => by subst z; rw [n] at mu; exact mu
  have hb : ∀ b, H b = none → b ≠ e := fun b n z => by
    subst z
    rcases he with r | r
    · exact hx b n r
    · rw [n] at r; cases r
  have hm : ∀ b u, H b = some u → ¬ Mut (some u) → b ≠ x := fun b u q nm z => by subst z; rw [q] at mu; exact nm mu
  refine ⟨fun b u q n _ _ => k b u (hb b n) q, fun b u q n _ _ => ⟨u.slots, k b u (hb b n) q⟩, fun b u q n _ => by rw [upd_ne (hx b n)]; exact n, fun b u q _ => ?_,
    fun b xs q => by rw [upd_ne (hm b _ q fun z => z)]; exact q, fun b u xs q => by rw [upd_ne (hm b _ q fun z => z)]; exact q, fun b ps q => ⟨#[], by rw [upd_ne (hm b _ q fun z => z), q]; simp⟩⟩
  by_cases hbe : b = e
  · subst hbe; exact heo
  · exact ⟨u, k b u hbe q⟩
end


def trk (h : Heap) (H : Hp) : List Addr := (List.range h.objs.size).filter fun a => (H a).isSome
def hidT (h : Heap) (H : Hp) : Heap := PySem.W.hideAll h (trk h H)
theorem hidT_size (h : Heap) (H : Hp) : (hidT h H).objs.size = h.objs.size := PySem.W.hideAll_size _ _
theorem hidT_get {h : Heap} {H : Hp} {b : Addr} {o : Obj} (e : h.get? b = some o) (n : H b = none) : (hidT h H).get? b = some o :=
  PySem.W.hideAll_get _ e fun hm => by
    have q : (H b).isSome = true := (List.mem_filter.mp hm).2
    rw [n] at q; simp at q
theorem of_hidT {h : Heap} {H : Hp} {b : Addr} {o : Obj} (e : (hidT h H).get? b = some o) : h.get? b = some o ∧ H b = none := by
  have e' : h.get? b = some o := PySem.W.of_hideAll (trk h H) e
  refine ⟨e', ?_⟩
  cases q : H b with
  | none => rfl
  | some x =>
    have hm : b ∈ trk h H := List.mem_filter.mpr ⟨List.mem_range.mpr (Heap.lt_size e'), by simp [q]⟩
    have z : (hidT h H).get? b = none := PySem.W.hideAll_none (trk h H) hm
    rw [z] at e; cases e


end L2

namespace L2
open PySem PySem.Spec PyProof.Rows


structure Mod (K : PySem.W.Frag) (mg : Str → Option Value) (base : Heap) : Prop where
  kin : K.In base
  glob : base.Ns mainGlobals mg
  blt : ∃ mb, base.Ns builtinsNs mb ∧ ∀ x : Str, x ≠ "__name__" → mb x = bootBuiltins x
  nolimit : base.NoLimit


structure Cx where
  prog : Program
  w : World
  K : PySem.W.Frag
  mg : Str → Option Value
  base : Heap
  A : Around
  N : List Str
  s₀ : Shared
  H₀ : Hp
  env : Env
  outer : List Env
  stack : List Env
  ex : List Addr
  fn : Str → Bool
  calm : Bool
  pn : List (Addr × Obj)
  xe : Value → Shared → Prop

def frs (l : List Env) : List Addr := l.filterMap (·.frame)
abbrev Cx.fs (X : Cx) : List Addr := frs X.outer

def Vis (sc : Scope) (x : Str) : Prop := sc.names.lookup x = some .local ∨ sc.names.lookup x = some .cell ∨ sc.names.lookup x = some .free
def Loc (sc : Scope) (x : Str) : Prop := sc.names.lookup x = some .local ∨ sc.names.lookup x = some .cell
def Look (env : Env) (h : Heap) (m : Str → Option Value) (x : Str) (u : Value) : Prop :=
  (env.kindOf x = some .local ∧ m x = some u) ∨ ((env.kindOf x = some .cell ∨ env.kindOf x = some .free) ∧ ∃ c, env.cells.lookup x = some c ∧ h.IsCell c (some u))

structure Cx.Ok (X : Cx) : Prop where
  mod : Mod X.K X.mg X.base
  kind : X.env.scope.kind = .function
  glob : X.env.globals = mainGlobals
  blt : X.env.builtins = builtinsNs
  above : X.s₀.heap.objs.size ≤ X.env.locals
  inj : ∀ x y c, X.env.cells.lookup x = some c → X.env.cells.lookup y = some c → x = y
  has : ∀ x, (X.env.kindOf x = some .cell ∨ X.env.kindOf x = some .free) → ∃ c, X.env.cells.lookup x = some c
  cab : ∀ x c, X.fn x = true → X.env.cells.lookup x = some c → X.s₀.heap.objs.size ≤ c
  hd : X.calm = true → X.A.handled = none
  frames : X.A.frames = some X.stack
  stk : X.stack = X.outer ∨ (X.stack = X.env :: X.outer ∧ X.env.frame = some X.env.locals)
  exf : ∀ b ∈ X.ex, b ≠ X.env.locals ∧ ∀ x c, X.env.cells.lookup x = some c → c ≠ b
  bs : ∀ b o, X.base.get? b = some o → X.s₀.heap.get? b = some o ∧ X.H₀ b = none
  bsz : X.base.objs.size ≤ X.s₀.heap.objs.size
  noex : ∀ b o, X.base.get? b = some o → b ∉ X.ex
  exfs : ∀ b ∈ X.ex, b ∉ X.fs
  funs : X.s₀.heap.FunFrames X.base X.outer
  frf : ∀ b ∈ X.fs, X.H₀ b = none

structure Inv (X : Cx) (pins : List (Addr × Obj)) (σ : List (Option V)) (H : Hp) (s : Shared) : Prop where
  ok : X.Ok
  os : s.os = X.s₀.os
  bare : AllBare s.gens
  base : Un X.fs X.ex X.H₀ H X.s₀.heap s.heap
  loc : ∃ m, s.heap.Ns X.env.locals m ∧ ∀ (i : Nat) (x : Str) (v : V), X.N[i]? = some x → σ[i]? = some (some v) → Vis X.env.scope x → ∃ u, RelV v u ∧ Look X.env s.heap m x u
  cell : ∀ x c, X.env.cells.lookup x = some c → ∃ v, s.heap.IsCell c v
  free : H X.env.locals = none
  freeC : ∀ x c, X.env.cells.lookup x = some c → H c = none
  pin : ∀ p ∈ X.pn ++ pins, s.heap.get? p.1 = some p.2 ∧ H p.1 = none ∧ p.1 ≠ X.env.locals ∧ p.1 ∉ X.fs ∧ ∀ v, p.2.data ≠ .cell v
  hok : HOk X.prog X.w H s.heap
  len : σ.length = X.N.length

section
variable {X : Cx} {pins : List (Addr × Obj)} {σ : List (Option V)} {H H' : Hp} {s : Shared} {h' : Heap}

theorem Cx.Ok.nofr (ok : X.Ok) {b : Addr} {o : Obj} (e : X.base.get? b = some o) : b ∉ X.fs := fun hb => by
  have := (ok.funs.mem hb).1
  rw [e] at this; cases this
theorem Inv.bs (I : Inv X pins σ H s) : ∀ b o, X.base.get? b = some o → s.heap.get? b = some o ∧ H b = none := fun b o e =>
  ⟨I.base.keep b o (I.ok.bs b o e).1 (I.ok.bs b o e).2 (I.ok.nofr e) (I.ok.noex b o e), I.base.free b o (I.ok.bs b o e).1 (I.ok.bs b o e).2 (I.ok.noex b o e)⟩
theorem Inv.bk (I : Inv X pins σ H s) : ∀ b o, X.base.get? b = some o → s.heap.get? b = some o := fun b o e => (I.bs b o e).1
theorem Inv.mod (I : Inv X pins σ H s) : Mod X.K X.mg X.base := I.ok.mod
theorem Inv.kIn (I : Inv X pins σ H s) : X.K.In s.heap := I.ok.mod.kin.keeps I.bk
theorem Inv.lt (I : Inv X pins σ H s) : X.env.locals < s.heap.objs.size := let ⟨_, hn, _⟩ := I.loc; hn.lt
theorem Inv.sz (I : Inv X pins σ H s) : X.s₀.heap.objs.size ≤ s.heap.objs.size := Nat.le_trans I.ok.above (Nat.le_of_lt I.lt)
theorem Inv.nofs (I : Inv X pins σ H s) {a : Addr} (h : s.heap.objs.size ≤ a) : a ∉ X.fs := fun hb => by
  obtain ⟨_, o, ho, _⟩ := I.ok.funs.mem hb
  exact absurd (Nat.lt_of_lt_of_le (Heap.lt_size ho) (Nat.le_trans I.sz h)) (Nat.lt_irrefl _)
theorem Inv.cne (I : Inv X pins σ H s) : ∀ x c, X.env.cells.lookup x = some c → c ≠ X.env.locals := fun x c e z => by
  obtain ⟨v, o, ho, hd⟩ := I.cell x c e
  obtain ⟨m, ⟨o', es, ep, ho', hd', _⟩, _⟩ := I.loc
  rw [z, ho'] at ho; cases ho; rw [hd'] at hd; cases hd
theorem Inv.funs (I : Inv X pins σ H s) : s.heap.FunFrames X.base X.outer := by
  have all : ∀ (l : List Env), (∀ b ∈ frs l, b ∈ X.fs) → X.s₀.heap.FunFrames X.base l → s.heap.FunFrames X.base l := by
    intro l
    induction l with
    | nil => intro _ _; trivial
    | cons env r ih =>
      intro hs hl
      obtain ⟨hk, ⟨L, o, hf, hn, ho, hd⟩, hr⟩ := hl
      have hL : L ∈ X.fs := hs L (by unfold frs; rw [List.filterMap_cons, hf]; exact List.mem_cons_self)
      obtain ⟨sl, e⟩ := I.base.slot L o ho (I.ok.frf L hL) hL fun z => I.ok.exfs L z hL
      exact ⟨hk, ⟨L, _, hf, hn, e, hd⟩, ih (fun b hb => hs b (by unfold frs; rw [List.filterMap_cons, hf]; exact List.mem_cons_of_mem _ hb)) hr⟩
  exact all X.outer (fun _ hb => hb) I.ok.funs


theorem Inv.stack (I : Inv X pins σ H s) : s.heap.FunFrames X.base X.stack := by
  rcases I.ok.stk with e | ⟨e, hf⟩
  · rw [e]; exact I.funs
  · rw [e]
    obtain ⟨m, hn, _⟩ := I.loc
    refine .cons (by rw [I.ok.kind]; decide) hf hn ?_ I.funs
    exact Heap.get?_none_of_le (Nat.le_trans I.ok.bsz I.ok.above)
theorem Inv.stkSub (I : Inv X pins σ H s) : ∀ b ∈ frs X.stack, b ∈ X.env.locals :: X.fs := fun b hb => by
  rcases I.ok.stk with e | ⟨e, hf⟩
  · rw [e] at hb; exact List.mem_cons_of_mem _ hb
  · rw [e] at hb
    unfold frs at hb
    rw [List.filterMap_cons, hf] at hb
    exact hb
theorem Inv.stkFree (I : Inv X pins σ H s) : ∀ b ∈ frs X.stack, H b = none := fun b hb => by
  rcases List.mem_cons.mp (I.stkSub b hb) with e | hb
  · rw [e]; exact I.free
  · obtain ⟨_, o, ho, _⟩ := I.ok.funs.mem hb
    exact I.base.free b o ho (I.ok.frf b hb) fun z => I.ok.exfs b z hb


theorem Inv.step {g' : Array GenState} {t' : Nat} {d' : Drawn} {ch : List Addr} (I : Inv X pins σ H s)
    (hch : ∀ b ∈ ch, (b ∈ X.ex ∨ X.s₀.heap.objs.size ≤ b) ∧ b ≠ X.env.locals ∧ (∀ x c, X.env.cells.lookup x = some c → c ≠ b) ∧ ∀ p ∈ X.pn ++ pins, p.1 ≠ b)
    (keep : ∀ b o, b ≠ X.env.locals → b ∉ X.fs → b ∉ ch → s.heap.get? b = some o → H b = none → h'.get? b = some o)
    (slot : ∀ b o, b ≠ X.env.locals → b ∈ X.fs → b ∉ ch → s.heap.get? b = some o → H b = none → ∃ sl, h'.get? b = some { o with slots := sl }) (free : ∀ b o, b ∉ ch → s.heap.get? b = some o → H b = none → H' b = none)
    (there : ∀ b o, b ∉ ch → s.heap.get? b = some o → ∃ o', h'.get? b = some o')
    (tups : ∀ b xs, H b = some (.tup xs) → H' b = some (.tup xs)) (frzs : ∀ b o u, H b = some (.frz o u) → H' b = some (.frz o u)) (tbls : ∀ b ps, H b = some (.tbl ps) → ∃ more, H' b = some (.tbl (ps ++ more)))
    (ns : ∀ m, s.heap.Ns X.env.locals m → h'.Ns X.env.locals m) (hok : HOk X.prog X.w H' h') (hg : AllBare g') :
    Inv X pins σ H' { s with heap := h', gens := g', drawn := d', toks := t' } := by
  have neL : ∀ b o, X.s₀.heap.get? b = some o → b ≠ X.env.locals := fun b o e => Nat.ne_of_lt (Nat.lt_of_lt_of_le (Heap.lt_size e) I.ok.above)
  have neC : ∀ b o, X.s₀.heap.get? b = some o → b ∉ X.ex → b ∉ ch := fun b o e hx hb => by
    rcases (hch b hb).1 with z | z
    · exact hx z
    · exact absurd (Nat.lt_of_lt_of_le (Heap.lt_size e) z) (Nat.lt_irrefl _)
  have cellK : ∀ x c, X.env.cells.lookup x = some c → ∀ v, s.heap.IsCell c v → h'.IsCell c v := fun x c e v ⟨o, ho, hd⟩ => by
    have nch : c ∉ ch := fun z => (hch c z).2.2.1 x c e rfl
    by_cases hc : c ∈ X.fs
    · obtain ⟨sl, q⟩ := slot c o (I.cne x c e) hc nch ho (I.freeC x c e)
      exact ⟨_, q, hd⟩
    · exact ⟨o, keep c o (I.cne x c e) hc nch ho (I.freeC x c e), hd⟩
  refine ⟨I.ok, I.os, hg, ⟨fun b o e n hb hx => ?_, fun b o e n hb hx => ?_, fun b o e n hx => ?_, fun b o e hx => ?_, fun b xs e => tups b xs (I.base.tups b xs e), fun b o xs e => frzs b o xs (I.base.frzs b o xs e), fun b ps e => ?_⟩, ?_, fun x c e => ?_, ?_, fun x c e => ?_, fun p hp => ?_, hok, I.len⟩
  · exact keep b o (neL b o e) hb (neC b o e hx) (I.base.keep b o e n hb hx) (I.base.free b o e n hx)
  · obtain ⟨sl, e1⟩ := I.base.slot b o e n hb hx
    obtain ⟨sl', e2⟩ := slot b _ (neL b o e) hb (neC b o e hx) e1 (I.base.free b o e n hx)
    exact ⟨sl', e2⟩
  · obtain ⟨o', e1⟩ := I.base.there b o e hx
    exact free b o' (neC b o e hx) e1 (I.base.free b o e n hx)
  · obtain ⟨o', e1⟩ := I.base.there b o e hx
    exact there b o' (neC b o e hx) e1
  · obtain ⟨m1, e1⟩ := I.base.tbls b ps e
    obtain ⟨m2, e2⟩ := tbls b _ e1
    exact ⟨m1 ++ m2, by rw [e2, Array.append_assoc]⟩
  · obtain ⟨m, hn, hl⟩ := I.loc
    refine ⟨m, ns m hn, fun i x v e1 e2 e3 => ?_⟩
    obtain ⟨u, r, l⟩ := hl i x v e1 e2 e3
    refine ⟨u, r, ?_⟩
    rcases l with l | ⟨k, c, e, z⟩
    · exact .inl l
    · exact .inr ⟨k, c, e, cellK x c e _ z⟩
  · obtain ⟨v, z⟩ := I.cell x c e
    exact ⟨v, cellK x c e v z⟩
  · obtain ⟨m, ⟨o, _, _, ho, _⟩, _⟩ := I.loc
    exact free _ o (fun z => (hch _ z).2.1 rfl) ho I.free
  · obtain ⟨v, o, ho, hd⟩ := I.cell x c e
    exact free c o (fun z => (hch c z).2.2.1 x c e rfl) ho (I.freeC x c e)
  · obtain ⟨e, n, ne, nf, d⟩ := I.pin p hp
    have nch : p.1 ∉ ch := fun z => (hch p.1 z).2.2.2 p hp rfl
    exact ⟨keep p.1 p.2 ne nf nch e n, free p.1 p.2 nch e n, ne, nf, d⟩

theorem Inv.un {t' : Nat} (I : Inv X pins σ H s) (u : Un X.fs [] H H' s.heap h') (hok : HOk X.prog X.w H' h') : Inv X pins σ H' { s with heap := h', toks := t' } := by
  obtain ⟨m, ⟨o, es, ep, ho, r⟩, _⟩ := id I.loc
  obtain ⟨sl, hL⟩ := u.any ho I.free (by simp)
  exact I.step (g' := s.gens) (d' := s.drawn) (ch := []) (fun _ z => nomatch z) (fun b o _ hb _ e n => u.keep b o e n hb (by simp)) (fun b o _ hb _ e n => u.slot b o e n hb (by simp)) (fun b o _ e n => u.free b o e n (by simp)) (fun b o _ e => u.there b o e (by simp)) u.tups u.frzs u.tbls (fun m' hm => by
    obtain ⟨o', es', ep', ho', r'⟩ := hm
    rw [ho] at ho'; cases ho'
    exact ⟨_, es', ep', hL, r'⟩) hok I.bare

theorem Inv.call {g' : Array GenState} {t' : Nat} {d' : Drawn} {ch : List Addr} (I : Inv X pins σ H s) (u : Un (frs X.stack) ch H H' s.heap h') (hok : HOk X.prog X.w H' h') (hg : AllBare g')
    (hch : ∀ b ∈ ch, (b ∈ X.ex ∨ X.s₀.heap.objs.size ≤ b) ∧ b ≠ X.env.locals ∧ (∀ x c, X.env.cells.lookup x = some c → c ≠ b) ∧ ∀ p ∈ X.pn ++ pins, p.1 ≠ b) :
    Inv X pins σ H' { s with heap := h', gens := g', drawn := d', toks := t' } := by
  obtain ⟨m, ⟨o, es, ep, ho, r⟩, _⟩ := id I.loc
  obtain ⟨sl, hL⟩ := u.any ho I.free fun z => (hch _ z).2.1 rfl
  exact I.step (ch := ch) hch (fun b o hL hb hc e n => u.keep b o e n (fun z => (List.mem_cons.mp (I.stkSub b z)).elim hL hb) hc) (fun b o _ _ hc e n => u.any e n hc) (fun b o hc e n => u.free b o e n hc) (fun b o hc e => u.there b o e hc) u.tups u.frzs u.tbls (fun m' hm => by
    obtain ⟨o', es', ep', ho', r'⟩ := hm
    rw [ho] at ho'; cases ho'
    exact ⟨_, es', ep', hL, r'⟩) hok hg

theorem Inv.turned {t' : Nat} {it : Addr} (I : Inv X pins σ H s) (k : ∀ b o, b ≠ it → s.heap.get? b = some o → h'.get? b = some o) (hn : H it = none) (hL : it ≠ X.env.locals)
    (h1 : it ∈ X.ex ∨ X.s₀.heap.objs.size ≤ it) (h2 : ∀ x c, X.env.cells.lookup x = some c → c ≠ it) (h3 : ∀ p ∈ X.pn ++ pins, p.1 ≠ it) : Inv X pins σ H { s with heap := h', toks := t' } := by
  have nit : ∀ b u, H b = some u → b ≠ it := fun b u e z => by rw [z, hn] at e; cases e
  refine I.step (g' := s.gens) (d' := s.drawn) (ch := [it]) (fun b hb => ?_) (fun b o _ _ hc e _ => k b o (fun z => hc (by simp [z])) e) (fun b o _ _ hc e _ => ⟨o.slots, k b o (fun z => hc (by simp [z])) e⟩) (fun _ _ _ _ n => n)
    (fun b o hc e => ⟨o, k b o (fun z => hc (by simp [z])) e⟩) (fun _ _ e => e) (fun _ _ _ e => e) (fun b ps e => ⟨#[], by rw [e]; simp⟩) (fun m hm => ?_) (fun b u e => ?_) I.bare
  · have e : b = it := by simpa using hb
    subst e
    exact ⟨h1, hL, h2, h3⟩
  · obtain ⟨o, es, ep, ho, r⟩ := hm
    exact ⟨o, es, ep, k _ o (Ne.symm hL) ho, r⟩
  · refine (I.hok b u e).stay (fun c v hc q => k c v ?_ q) (fun _ q => q) fun _ _ q => q
    rcases hc with z | z
    · rw [z]; exact nit b u e
    · exact nit c _ z
theorem Inv.tok (I : Inv X pins σ H s) (t : Nat) : Inv X pins σ H { s with toks := t } := I.un (h' := s.heap) (t' := t) Un.refl I.hok

theorem Inv.kept {t' : Nat} (I : Inv X pins σ H s) (k : ∀ b u, s.heap.get? b = some u → h'.get? b = some u) : Inv X pins σ H { s with heap := h', toks := t' } := I.un (Un.kept k) (I.hok.kept k)

theorem Inv.laid {a : Addr} {o : HO} {t' : Nat} (I : Inv X pins σ H s) (k : ∀ b u, s.heap.get? b = some u → h'.get? b = some u) (hp : s.heap.objs.size ≤ a) (new : ObjOk X.prog X.w (upd H a o) h' a o) :
    Inv X pins σ (upd H a o) { s with heap := h', toks := t' } := I.un (Un.laid k hp (I.hok.fresh hp)) (I.hok.laid k hp new)

theorem Inv.write {x e : Addr} {o : HO} {t' : Nat} (I : Inv X pins σ H s) (mu : Mut (H x)) (he : e = x ∨ H e = some (.own x)) (k : ∀ b u, b ≠ e → s.heap.get? b = some u → h'.get? b = some u) (heo : ∃ u, h'.get? e = some u)
    (new : ObjOk X.prog X.w (upd H x o) h' x o) : Inv X pins σ (upd H x o) { s with heap := h', toks := t' } := I.un (Un.write mu he k heo) (I.hok.write mu he k heo new)

theorem Inv.pins_of {pins' : List (Addr × Obj)} (I : Inv X pins σ H s) (h : ∀ p ∈ pins', s.heap.get? p.1 = some p.2 ∧ H p.1 = none ∧ p.1 ≠ X.env.locals ∧ p.1 ∉ X.fs ∧ ∀ v, p.2.data ≠ .cell v) : Inv X pins' σ H s :=
  ⟨I.ok, I.os, I.bare, I.base, I.loc, I.cell, I.free, I.freeC, fun p hp => (List.mem_append.mp hp).elim (fun z => I.pin p (List.mem_append_left _ z)) (h p), I.hok, I.len⟩

theorem nodup_ix {N : List Str} (hN : N.Nodup) {i j : Nat} {x : Str} (a : N[i]? = some x) (b : N[j]? = some x) : i = j := by
  obtain ⟨h1, e1⟩ := List.getElem?_eq_some_iff.mp a
  obtain ⟨h2, e2⟩ := List.getElem?_eq_some_iff.mp b
  exact (List.getElem_inj hN).mp (e1.trans e2.symm)


theorem store_ok2 {M : Model} {A : Around} {E : Value → Shared → Prop} {i : Nat} {x : Str} {v : V} {u : Value} {Q : Unit → Shared → Prop} (I : Inv X pins σ H s) (hN : X.N.Nodup) (hi : X.N[i]? = some x) (hx : Loc X.env.scope x) (r : RelV v u)
    (h : ∀ s', Inv X pins (σ.set i (some v)) H s' → (∃ a, Heap.SameBut a s.heap s'.heap ∧ (a = X.env.locals ∨ X.env.cells.lookup x = some a)) → Q () s') (hf : X.fn x = true ∨ X.env.scope.names.lookup x = some .local := by first | exact .inl rfl | exact .inr rfl | assumption) : wpAny M A (storeName X.env x u) Q E s := by
  obtain ⟨m, hn, hl⟩ := id I.loc
  have hcls : (X.env.scope.kind == .class || (X.env.scope.kind == .module && X.env.locals != X.env.globals)) = false := by rw [I.ok.kind]; rfl
  have hiσ : i < σ.length := by rw [I.len]; exact (List.getElem?_eq_some_iff.mp hi).1
  have cne := I.cne
  have tracked : ∀ {a : Addr} {h' : Heap}, (∃ o, s.heap.get? a = some o ∧ H a = none) → Heap.SameBut a s.heap h' → HOk X.prog X.w H h' := fun {a h'} ha hs b ob e => by
    obtain ⟨_, _, hfree⟩ := ha
    refine (I.hok b ob e).stay (fun c w' hc q => (hs.2 c ?_).trans q) (fun _ q => q) fun _ _ q => q
    rintro rfl
    rcases hc with rfl | hc
    · rw [hfree] at e; cases e
    · rw [hfree] at hc; cases hc
  rcases hx with hk | hk
  · refine wpAny_storeName_local hk hn (fun h' hn' hs => ?_) hcls
    obtain ⟨oL, _, _, hoL, _⟩ := id hn
    refine h _ ⟨I.ok, I.os, I.bare, ⟨fun b o e n hb hx => ?_, fun b o e n hb hx => ?_, I.base.free, fun b o e hx => ?_, I.base.tups, I.base.frzs, I.base.tbls⟩, ⟨_, hn', fun j y v' e1 e2 e3 => ?_⟩, fun y c e => ?_, I.free, I.freeC, fun p hp => ?_, tracked ⟨oL, hoL, I.free⟩ hs, by simpa using I.len⟩ ⟨_, hs, .inl rfl⟩
    · exact (hs.2 b (Nat.ne_of_lt (Nat.lt_of_lt_of_le (Heap.lt_size e) I.ok.above))).trans (I.base.keep b o e n hb hx)
    · obtain ⟨sl, e1⟩ := I.base.slot b o e n hb hx
      exact ⟨sl, (hs.2 b (Nat.ne_of_lt (Nat.lt_of_lt_of_le (Heap.lt_size e) I.ok.above))).trans e1⟩
    · obtain ⟨o', e1⟩ := I.base.there b o e hx
      exact ⟨o', (hs.2 b (Nat.ne_of_lt (Nat.lt_of_lt_of_le (Heap.lt_size e) I.ok.above))).trans e1⟩
    · by_cases hj : j = i
      · subst hj
        rw [hi] at e1; cases e1
        rw [List.getElem?_set_self hiσ] at e2
        cases e2
        exact ⟨u, r, .inl ⟨hk, by simp⟩⟩
      · rw [List.getElem?_set_ne (Ne.symm hj)] at e2
        obtain ⟨u', r', q⟩ := hl j y v' e1 e2 e3
        refine ⟨u', r', ?_⟩
        rcases q with ⟨k, e⟩ | ⟨k, c, e, z⟩
        · refine .inl ⟨k, ?_⟩
          have : y ≠ x := fun e => hj (nodup_ix hN e1 (e ▸ hi))
          simp [this, e]
        · exact .inr ⟨k, c, e, z.sameBut hs (cne y c e)⟩
    · obtain ⟨w', z⟩ := I.cell y c e
      exact ⟨w', z.sameBut hs (cne y c e)⟩
    · obtain ⟨e, n, ne, nf, d⟩ := I.pin p hp
      exact ⟨(hs.2 p.1 ne).trans e, n, ne, nf, d⟩
  · have hfn : X.fn x = true := by
      rcases hf with z | z
      · exact z
      · rw [z] at hk; cases hk
    obtain ⟨c, hc⟩ := I.ok.has x (.inl hk)
    obtain ⟨w', z⟩ := I.cell x c hc
    refine wpAny_storeName_cell I.ok.kind hk hc z (fun h' hc' hs => ?_)
    obtain ⟨oc, hoc, hocd⟩ := id z
    refine h { s with heap := h' } ⟨I.ok, I.os, I.bare, ⟨fun b o e n hb hx => ?_, fun b o e n hb hx => ?_, I.base.free, fun b o e hx => ?_, I.base.tups, I.base.frzs, I.base.tbls⟩, ⟨m, hn.sameBut hs (Ne.symm (cne x c hc)), fun j y v' e1 e2 e3 => ?_⟩, fun y c' e => ?_, I.free, I.freeC, fun p hp => ?_, tracked ⟨oc, hoc, I.freeC x c hc⟩ hs, by simpa using I.len⟩ ⟨c, hs, .inr hc⟩
    · exact (hs.2 b (Nat.ne_of_lt (Nat.lt_of_lt_of_le (Heap.lt_size e) (I.ok.cab x c hfn hc)))).trans (I.base.keep b o e n hb hx)
    · obtain ⟨sl, e1⟩ := I.base.slot b o e n hb hx
      exact ⟨sl, (hs.2 b (Nat.ne_of_lt (Nat.lt_of_lt_of_le (Heap.lt_size e) (I.ok.cab x c hfn hc)))).trans e1⟩
    · obtain ⟨o', e1⟩ := I.base.there b o e hx
      exact ⟨o', (hs.2 b (Nat.ne_of_lt (Nat.lt_of_lt_of_le (Heap.lt_size e) (I.ok.cab x c hfn hc)))).trans e1⟩
    · by_cases hj : j = i
      · subst hj
        rw [hi] at e1; cases e1
        rw [List.getElem?_set_self hiσ] at e2
        cases e2
        exact ⟨u, r, .inr ⟨.inl hk, c, hc, hc'⟩⟩
      · rw [List.getElem?_set_ne (Ne.symm hj)] at e2
        obtain ⟨u', r', q⟩ := hl j y v' e1 e2 e3
        refine ⟨u', r', ?_⟩
        rcases q with q | ⟨k, c', e, z'⟩
        · exact .inl q
        · refine .inr ⟨k, c', e, z'.sameBut hs ?_⟩
          rintro rfl
          exact hj (nodup_ix hN e1 (I.ok.inj _ _ _ e hc ▸ hi))
    · by_cases hcc : c' = c
      · subst hcc; exact ⟨_, hc'⟩
      · obtain ⟨w2, z2⟩ := I.cell y c' e
        exact ⟨w2, z2.sameBut hs hcc⟩
    · obtain ⟨e, n, ne, nf, d⟩ := I.pin p hp
      refine ⟨(hs.2 p.1 ?_).trans e, n, ne, nf, d⟩
      intro q
      rw [q, hoc] at e
      have q' : oc = p.2 := Option.some.inj e
      exact d w' (by rw [← q']; exact hocd)
theorem store_ok {M : Model} {A : Around} {E : Value → Shared → Prop} {i : Nat} {x : Str} {v : V} {u : Value} {Q : Unit → Shared → Prop} (I : Inv X pins σ H s) (hN : X.N.Nodup) (hi : X.N[i]? = some x) (hx : Loc X.env.scope x) (r : RelV v u)
    (h : ∀ s', Inv X pins (σ.set i (some v)) H s' → Q () s') (hf : X.fn x = true ∨ X.env.scope.names.lookup x = some .local := by first | exact .inl rfl | exact .inr rfl | assumption) : wpAny M A (storeName X.env x u) Q E s :=
  store_ok2 I hN hi hx r (fun s' I' _ => h s' I') hf

theorem Inv.call' {s' : Shared} {ch : List Addr} (I : Inv X pins σ H s) (ho : s'.os = s.os) (u : Un (frs X.stack) ch H H' s.heap s'.heap) (hok : HOk X.prog X.w H' s'.heap) (hg : AllBare s'.gens)
    (hch : ∀ b ∈ ch, (b ∈ X.ex ∨ X.s₀.heap.objs.size ≤ b) ∧ b ≠ X.env.locals ∧ (∀ x c, X.env.cells.lookup x = some c → c ≠ b) ∧ ∀ p ∈ X.pn ++ pins, p.1 ≠ b) : Inv X pins σ H' s' := by
  obtain ⟨h', g', d', t', o'⟩ := s'
  have e : o' = s.os := ho
  subst e
  exact I.call (g' := g') (t' := t') (d' := d') u hok hg hch
end



abbrev XK := Value → Option Addr → Hp → Prop
abbrev St := List (Option V)
abbrev VK := V → Hp → Prop

abbrev TE := St → Hp → VK → Prop
abbrev TT := St → Hp → (Bool → Hp → Prop) → Prop
abbrev TA := St → Hp → (List V → Hp → Prop) → Prop

structure Ends where
  nx : St → Hp → Prop
  rt : VK
  bk : St → Hp → Prop := fun _ _ => False
  ct : St → Hp → Prop := fun _ _ => False
abbrev TS := Ends → St → Hp → Prop

def EP (X : Cx) (pins : List (Addr × Obj)) (σ : St) (Q : VK) (u : Value) (s' : Shared) : Prop := ∃ v H', Inv X pins σ H' s' ∧ RelV v u ∧ Q v H'
def TP (X : Cx) (pins : List (Addr × Obj)) (σ : St) (Q : Bool → Hp → Prop) (b : Bool) (s' : Shared) : Prop := ∃ H', Inv X pins σ H' s' ∧ Q b H'
def AP (X : Cx) (pins : List (Addr × Obj)) (σ : St) (Q : List V → Hp → Prop) (us : List Value) (s' : Shared) : Prop := ∃ vs H', Inv X pins σ H' s' ∧ Vals vs us ∧ Q vs H'
def SP (X : Cx) (pins : List (Addr × Obj)) (D : Ends) (f : Flow) (s' : Shared) : Prop :=
  match f with
  | .next => ∃ σ' H', Inv X pins σ' H' s' ∧ D.nx σ' H'
  | .brk => ∃ σ' H', Inv X pins σ' H' s' ∧ D.bk σ' H'
  | .cont => ∃ σ' H', Inv X pins σ' H' s' ∧ D.ct σ' H'
  | .ret u => ∃ v σ' H', Inv X pins σ' H' s' ∧ RelV v u ∧ D.rt v H'

def PE (X : Cx) (e : Expr) (t : TE) : Prop :=
  ∀ (pins : List (Addr × Obj)) (s : Shared) (σ : St) (H : Hp) (Q : VK), Inv X pins σ H s → t σ H Q → wpAny (model X.prog X.w) X.A (eval e X.env) (EP X pins σ Q) X.xe s
def PT (X : Cx) (e : Expr) (t : TT) : Prop :=
  ∀ (pins : List (Addr × Obj)) (s : Shared) (σ : St) (H : Hp) (Q : Bool → Hp → Prop), Inv X pins σ H s → t σ H Q → wpAny (model X.prog X.w) X.A (isTrue e X.env (eval e X.env)) (TP X pins σ Q) X.xe s

def PW (X : Cx) (e : Expr) (t : TT) : Prop :=
  ∀ (whole : Sem Value) (pins : List (Addr × Obj)) (s : Shared) (σ : St) (H : Hp) (Q : Bool → Hp → Prop), Inv X pins σ H s → t σ H Q → wpAny (model X.prog X.w) X.A (isTrue e X.env whole) (TP X pins σ Q) X.xe s
theorem PW.pt {X : Cx} {e : Expr} {t : TT} (h : PW X e t) : PT X e t := h _

def PA (X : Cx) (es : List Expr) (t : TA) : Prop :=
  ∀ (pos : Pos) (pins : List (Addr × Obj)) (s : Shared) (σ : St) (H : Hp) (Q : List V → Hp → Prop), Inv X pins σ H s → t σ H Q → wpAny (model X.prog X.w) X.A (spliced (backTo pos (starEach es X.env))) (AP X pins σ Q) X.xe s
def PS (X : Cx) (st : Stmt) (t : TS) : Prop :=
  ∀ (pins : List (Addr × Obj)) (s : Shared) (σ : St) (H : Hp) (D : Ends), Inv X pins σ H s → t D σ H → wpAny (model X.prog X.w) X.A (exec st X.env) (SP X pins D) X.xe s
def PSs (X : Cx) (st : List Stmt) (t : TS) : Prop :=
  ∀ (pins : List (Addr × Obj)) (s : Shared) (σ : St) (H : Hp) (D : Ends), Inv X pins σ H s → t D σ H → wpAny (model X.prog X.w) X.A (execs st X.env) (SP X pins D) X.xe s

theorem thn {α : Type} {t : Sem α} {Q Q' : α → Shared → Prop} {M : Model} {A : Around} {E : Value → Shared → Prop} {s : Shared} (h : wpAny M A t Q E s) (hQ : ∀ a s, Q a s → Q' a s) : wpAny M A t Q' E s := wpAny_mono h hQ fun _ _ x => x
end L2

namespace L2
open PySem PySem.Spec PyProof.Rows
section
variable {X : Cx}


def tVar (i : Nat) : TE := fun σ H Q => ∃ v, σ[i]? = some (some v) ∧ Q v H
def tC (v : V) : TE := fun _ H Q => Q v H
theorem pe_var {i : Nat} {x : Str} {pos : Pos} (hN : X.N[i]? = some x) (hv : Vis X.env.scope x) (hd : (x == ("__debug__" : Str)) = false := by decide) (hcd : (x == ("__classdict__" : Str)) = false := by decide) : PE X (.Name x pos) (tVar i) := by
  intro pins s σ H Q I h
  obtain ⟨v, e, h⟩ := h
  obtain ⟨m, hn, hl⟩ := I.loc
  obtain ⟨u, r, l⟩ := hl i x v hN e hv
  have fin : EP X pins σ Q u s := ⟨v, H, I, r, h⟩
  rcases l with ⟨hk, hm⟩ | ⟨hk, c, hc, hcell⟩
  · exact wpAny_Name (wpAny_loadName_local I.ok.kind hk hn hm fin) hd
  · rcases hk with hk | hk
    · exact wpAny_Name (wpAny_loadName_cell I.ok.kind hk hc hcell fin) hd
    · exact wpAny_Name (wpAny_loadName_free I.ok.kind hk hc hcell fin hcd) hd
theorem pe_int {i j pos} : PE X (.Constant (.int i) j pos) (tC (.int i)) := fun _ _ _ H _ I h => wpAny_Constant_int ⟨.int i, H, I.tok _, ⟨_, rfl⟩, h⟩
theorem pe_bl {b j pos} : PE X (.Constant (.bool b) j pos) (tC (.bl b)) := fun _ _ _ H _ I h => Constant_bool ⟨.bl b, H, I, rfl, h⟩
theorem pe_non {j pos} : PE X (.Constant .none j pos) (tC .non) := fun _ _ _ H _ I h => Constant_none ⟨.non, H, I, rfl, h⟩
theorem pe_str {x j pos} : PE X (.Constant (.str x) j pos) (tC (.str x)) := fun _ _ _ H _ I h => Calls.Constant_str ⟨.str x, H, I.tok _, ⟨_, rfl⟩, h⟩


def Gl (X : Cx) (x : Str) : Prop := X.env.kindOf x = some .globalImplicit
theorem ld_glob {E : Value → Shared → Prop} {pins : List (Addr × Obj)} {s : Shared} {σ : St} {H : Hp} {x : Str} {u : Value} {pos : Pos} {Q : Value → Shared → Prop} (I : Inv X pins σ H s) (hg : Gl X x) (hm : X.mg x = some u) (h : Q u s)
    (hd : (x == ("__debug__" : Str)) = false := by decide) : wpAny (model X.prog X.w) X.A (eval (.Name x pos) X.env) Q E s :=
  Calls.Name_function_global I.ok.kind hg (Calls.loadGlobal_global (by rw [I.ok.glob]; exact I.mod.glob.keeps I.bk) hm h) hd
theorem ld_blt {E : Value → Shared → Prop} {pins : List (Addr × Obj)} {s : Shared} {σ : St} {H : Hp} {x : Str} {u : Value} {pos : Pos} {Q : Value → Shared → Prop} (I : Inv X pins σ H s) (hg : Gl X x) (hm : X.mg x = none) (hv : bootBuiltins x = some u) (h : Q u s)
    (hn : x ≠ "__name__" := by decide) (hd : (x == ("__debug__" : Str)) = false := by decide) : wpAny (model X.prog X.w) X.A (eval (.Name x pos) X.env) Q E s := by
  obtain ⟨mb, h1, h2⟩ := I.mod.blt
  exact Calls.Name_function_global I.ok.kind hg (Calls.loadGlobal_builtin (by rw [I.ok.glob]; exact I.mod.glob.keeps I.bk) hm (by rw [I.ok.blt]; exact h1.keeps I.bk) ((h2 x hn).trans hv) h) hd

theorem pe_glob {x : Str} {v : V} {u : Value} {pos : Pos} (hg : Gl X x) (hm : X.mg x = some u) (r : RelV v u) (hd : (x == ("__debug__" : Str)) = false := by decide) : PE X (.Name x pos) (tC v) :=
  fun _ _ _ H _ I h => ld_glob I hg hm ⟨v, H, I, r, h⟩ hd
variable {a b : Expr} {ta tb : TE} {pos : Pos}
def PC (X : Cx) (op : CmpOp) (a b : Expr) (t : TE) : Prop :=
  ∀ (pins : List (Addr × Obj)) (s : Shared) (σ : St) (H : Hp) (Q : VK), Inv X pins σ H s → t σ H Q →
    wpAny (model X.prog X.w) X.A (eval a X.env) (fun v s₁ => wpAny (model X.prog X.w) X.A (eval b X.env) (fun u s₂ => wpAny (model X.prog X.w) X.A (compareOp op v u) (EP X pins σ Q) X.xe s₂) X.xe s₁) X.xe s
def tB (t : TE) : TT := fun σ H Q => t σ H fun x H1 => ∃ c, x = .bl c ∧ Q c H1
theorem pt_cmp {op : CmpOp} {t : TE} (h : PC X op a b t) (h1 : behindInMarks op b = false := by first | exact nobehind _ (by decide) (by decide) | rfl) : PT X (.Compare a [op] [b] pos) (tB t) := by
  intro pins s σ H Q I hw
  refine wpAny_isTrue_Compare1 (thn (h pins s σ H _ I hw) fun v s1 h1 => thn h1 fun u s2 h2 => thn h2 fun c s3 ⟨x, H1, I1, r1, q1⟩ => ?_) h1
  obtain ⟨d, rfl, q⟩ := q1
  cases r1
  exact wpAny_truthy_bool ⟨H1, I1, q⟩

variable {tA tB' : TT} {rest : List Expr}
def tAnd (t u : TT) : TT := fun σ H Q => t σ H fun c H1 => if c = true then u σ H1 Q else Q false H1
def tOr (t u : TT) : TT := fun σ H Q => t σ H fun c H1 => if c = true then Q true H1 else u σ H1 Q
def tNot (t : TT) : TT := fun σ H Q => t σ H fun c H1 => Q (!c) H1
theorem pw_and1 (ha : PT X a tA) : PW X (.BoolOp .And [a] pos) tA := by
  intro wh pins s σ H Q I h
  refine isTrue_and (thn (ha pins s σ H Q I h) fun c s1 e => ?_)
  cases c with
  | true => exact isTrue_and_nil e
  | false => exact e
theorem pw_or1 (ha : PT X a tA) : PW X (.BoolOp .Or [a] pos) tA := by
  intro wh pins s σ H Q I h
  refine isTrue_or (thn (ha pins s σ H Q I h) fun c s1 e => ?_)
  cases c with
  | false => exact isTrue_or_nil e
  | true => exact e
theorem pw_and (ha : PT X a tA) (hb : PW X (.BoolOp .And (b :: rest) pos) tB') : PW X (.BoolOp .And (a :: b :: rest) pos) (tAnd tA tB') := by
  intro wh pins s σ H Q I h
  refine isTrue_and (thn (ha pins s σ H _ I h) fun c s1 ⟨H1, I1, q1⟩ => ?_)
  cases c with
  | true => exact hb wh pins s1 σ H1 Q I1 q1
  | false => exact ⟨H1, I1, q1⟩
theorem pw_or (ha : PT X a tA) (hb : PW X (.BoolOp .Or (b :: rest) pos) tB') : PW X (.BoolOp .Or (a :: b :: rest) pos) (tOr tA tB') := by
  intro wh pins s σ H Q I h
  refine isTrue_or (thn (ha pins s σ H _ I h) fun c s1 ⟨H1, I1, q1⟩ => ?_)
  cases c with
  | true => exact ⟨H1, I1, q1⟩
  | false => exact hb wh pins s1 σ H1 Q I1 q1
theorem pt_not (ha : PT X a tA) : PT X (.UnaryOp .Not a pos) (tNot tA) := by
  intro pins s σ H Q I h
  exact isTrue_not (ha pins s σ H (fun c H1 => Q (!c) H1) I h)

def tAndV (ta tb : TE) : TE := fun σ H Q => ta σ H fun x H1 => ∃ c, x = .bl c ∧ if c = true then tb σ H1 Q else Q (.bl false) H1
theorem pe_one {op} {t : TE} (h : PE X a t) : PE X (.BoolOp op [a] pos) t := fun pins s σ H Q I hw => BoolOp_one (h pins s σ H Q I hw)
theorem pe_and (ha : PE X a ta) (hb : PE X (.BoolOp .And (b :: rest) pos) tb) : PE X (.BoolOp .And (a :: b :: rest) pos) (tAndV ta tb) := by
  intro pins s σ H Q I h
  refine BoolOp_and (thn (ha pins s σ H _ I h) fun v s1 ⟨x, H1, I1, r1, q1⟩ => ?_)
  obtain ⟨c, rfl, q1⟩ := q1
  cases r1
  refine wpAny_truthy_bool ?_
  cases c with
  | true => exact hb pins s1 σ H1 Q I1 q1
  | false => exact ⟨.bl false, H1, I1, rfl, q1⟩
def tIf (t : TT) (ta tb : TE) : TE := fun σ H Q => t σ H fun c H1 => if c = true then ta σ H1 Q else tb σ H1 Q
theorem pe_ifExp {c : Expr} (hc : PT X c tA) (ha : PE X a ta) (hb : PE X b tb) : PE X (.IfExp c a b pos) (tIf tA ta tb) := by
  intro pins s σ H Q I h
  refine wpAny_IfExp (thn (hc pins s σ H _ I h) fun d s1 ⟨H1, I1, q1⟩ => ?_)
  cases d with
  | true => exact ha pins s1 σ H1 Q I1 q1
  | false => exact hb pins s1 σ H1 Q I1 q1
end
end L2

namespace L2
open PySem PySem.Spec PyProof.Rows


def SqL (K : PySem.W.Frag) (H : Hp) (a : Addr) (xs : List V) : Prop :=
  Rd H a (.lst xs) ∨
    ∃ (o : Obj) (its : Array Value) (n : Nat), K.lookup a = some o ∧ o.cls = .type "list" ∧ o.dict = none ∧ o.data = .seq its n ∧ its.size ≤ sizeLine ∧ Vals xs its.toList
def SqT (K : PySem.W.Frag) (H : Hp) (a : Addr) (xs : List V) : Prop :=
  Rd H a (.tup xs) ∨
    ∃ (o : Obj) (its : Array Value) (n : Nat), K.lookup a = some o ∧ o.cls = .type "tuple" ∧ o.data = .seq its n ∧ its.size ≤ sizeLine ∧ Vals xs its.toList
def absV : Value → Option V
  | .none => some .non
  | .bool b => some (.bl b)
  | .int i _ => some (.int i)
  | .str x _ => some (.str x)
  | .bytes b _ => some (.byt b)
  | .float b _ => some (.flt b)
  | .ref a => some (.ref a)
  | .type n => some (.ty n)
  | _ => none
theorem RelV.abs {x : V} {u : Value} (r : RelV x u) : absV u = some x := by
  cases x with
  | non => cases r; rfl
  | bl _ => cases r; rfl
  | int _ => obtain ⟨t, rfl⟩ := r; rfl
  | str _ => obtain ⟨t, rfl⟩ := r; rfl
  | byt _ => obtain ⟨t, rfl⟩ := r; rfl
  | flt _ => obtain ⟨t, rfl⟩ := r; rfl
  | ref _ => cases r; rfl
  | ty _ => cases r; rfl
theorem RelV.inj {x y : V} {u : Value} (r : RelV x u) (q : RelV y u) : x = y := Option.some.inj (r.abs.symm.trans q.abs)
theorem Vals.inj : ∀ {xs ys : List V} {us : List Value}, Vals xs us → Vals ys us → xs = ys
  | _, _, _, .nil, .nil => rfl
  | _, _, _, .cons r t, .cons r' t' => by rw [r.inj r', Vals.inj t t']
section
variable {X : Cx} {pins : List (Addr × Obj)} {σ : St} {H : Hp} {s : Shared} {a : Addr} {xs ys : List V}
theorem SqL.of {K : PySem.W.Frag} (h : H a = some (.lst xs)) : SqL K H a xs := .inl (.inl h)
theorem SqT.of {K : PySem.W.Frag} (h : H a = some (.tup xs)) : SqT K H a xs := .inl (.inl h)
theorem Inv.list (I : Inv X pins σ H s) (h : SqL X.K H a xs) : ∃ its : List Value, Vals xs its ∧ PlainL s.heap a its.toArray ∧ xs.length ≤ sizeLine := by
  rcases h with h | ⟨o, its, n, hk, hc, hd, hs, hz, r⟩
  · obtain ⟨z, its, n, r, e⟩ := h.ok I.hok
    exact ⟨its, r, ⟨_, n, e, rfl, rfl, rfl⟩, z⟩
  · refine ⟨its.toList, r, ⟨o, n, I.kIn a o hk, hc, hd, by simpa using hs⟩, ?_⟩
    have e := r.length
    simp only [Array.length_toList] at e
    omega
theorem Inv.tuple (I : Inv X pins σ H s) (h : SqT X.K H a xs) : ∃ its : List Value, Vals xs its ∧ IsTup s.heap a its.toArray ∧ xs.length ≤ sizeLine := by
  rcases h with h | ⟨o, its, n, hk, hc, hs, hz, r⟩
  · obtain ⟨z, its, r, p⟩ := h.ok I.hok
    exact ⟨its, r, p, z⟩
  · refine ⟨its.toList, r, ⟨o, I.kIn a o hk, hc, n, by simpa using hs⟩, ?_⟩
    have e := r.length
    simp only [Array.length_toList] at e
    omega
theorem Inv.list_inj (I : Inv X pins σ H s) (h : SqL X.K H a xs) (h' : SqL X.K H a ys) : xs = ys := by
  obtain ⟨its, r, ⟨o, n, e, _, _, d⟩, _⟩ := I.list h
  obtain ⟨its', r', ⟨o', n', e', _, _, d'⟩, _⟩ := I.list h'
  rw [e] at e'; cases e'
  rw [d] at d'
  injection d' with d1 _
  have : its = its' := by simpa using congrArg Array.toList d1
  subst this
  exact r.inj r'
theorem Inv.tuple_inj (I : Inv X pins σ H s) (h : SqT X.K H a xs) (h' : SqT X.K H a ys) : xs = ys := by
  obtain ⟨its, r, ⟨o, e, _, n, d⟩, _⟩ := I.tuple h
  obtain ⟨its', r', ⟨o', e', _, n', d'⟩, _⟩ := I.tuple h'
  rw [e] at e'; cases e'
  rw [d] at d'
  injection d' with d1 _
  have : its = its' := by simpa using congrArg Array.toList d1
  subst this
  exact r.inj r'
end


abbrev Cx.wish (X : Cx) (E : Value → Shared → Prop) : Cx := { X with xe := E }

abbrev Cx.nox (X : Cx) : Cx := X.wish fun _ _ => False
theorem Cx.Ok.wish {X : Cx} (ok : X.Ok) (E : Value → Shared → Prop) : (X.wish E).Ok :=
  ⟨ok.mod, ok.kind, ok.glob, ok.blt, ok.above, ok.inj, ok.has, ok.cab, ok.hd, ok.frames, ok.stk, ok.exf, ok.bs, ok.bsz, ok.noex, ok.exfs, ok.funs, ok.frf⟩
theorem Cx.Ok.unwish {X : Cx} {E : Value → Shared → Prop} (ok : (X.wish E).Ok) : X.Ok :=
  ⟨ok.mod, ok.kind, ok.glob, ok.blt, ok.above, ok.inj, ok.has, ok.cab, ok.hd, ok.frames, ok.stk, ok.exf, ok.bs, ok.bsz, ok.noex, ok.exfs, ok.funs, ok.frf⟩
section
variable {X : Cx} {pins : List (Addr × Obj)} {σ : St} {H : Hp} {s : Shared} {E : Value → Shared → Prop}
theorem Inv.wish (I : Inv X pins σ H s) (E : Value → Shared → Prop) : Inv (X.wish E) pins σ H s := ⟨I.ok.wish E, I.os, I.bare, I.base, I.loc, I.cell, I.free, I.freeC, I.pin, I.hok, I.len⟩
theorem Inv.unwish (I : Inv (X.wish E) pins σ H s) : Inv X pins σ H s := ⟨I.ok.unwish, I.os, I.bare, I.base, I.loc, I.cell, I.free, I.freeC, I.pin, I.hok, I.len⟩
theorem SP.unwish {D : Ends} {f : Flow} {s' : Shared} (h : SP (X.wish E) pins D f s') : SP X pins D f s' := by
  cases f with
  | next => obtain ⟨σ', H', I, q⟩ := h; exact ⟨σ', H', I.unwish, q⟩
  | brk => obtain ⟨σ', H', I, q⟩ := h; exact ⟨σ', H', I.unwish, q⟩
  | cont => obtain ⟨σ', H', I, q⟩ := h; exact ⟨σ', H', I.unwish, q⟩
  | ret u => obtain ⟨v, σ', H', I, r, q⟩ := h; exact ⟨v, σ', H', I.unwish, r, q⟩
theorem PT.nox {e : Expr} {t : TT} (h : PT X.nox e t) : PT X e t := fun pins s σ H Q I hw =>
  wpAny_mono (h pins s σ H Q (I.wish _) hw) (fun _ _ ⟨H', I', q⟩ => ⟨H', I'.unwish, q⟩) fun _ _ z => False.elim z
theorem PSs.nox {st : List Stmt} {t : TS} (h : PSs X.nox st t) : PSs X st t := fun pins s σ H D I hw =>
  wpAny_mono (h pins s σ H D (I.wish _) hw) (fun _ _ q => q.unwish) fun _ _ z => False.elim z
end


section
variable {X : Cx} {st : Stmt} {rest : List Stmt} {t u : TS} {e : Expr} {te : TE} {pos : Pos}
def tNext : TS := fun D σ H => D.nx σ H
def tSeq (t u : TS) : TS := fun D σ H => t { D with nx := u D } σ H
theorem pss_nil : PSs X [] tNext := fun _ _ σ H _ I h => wpAny_execs_nil ⟨σ, H, I, h⟩
theorem pss_cons (h1 : PS X st t) (h2 : PSs X rest u) : PSs X (st :: rest) (tSeq t u) := by
  intro pins s σ H D I h
  refine wpAny_execs_cons (thn (h1 pins s σ H { D with nx := u D } I h) fun f s1 q => ?_)
  cases f with
  | next =>
    obtain ⟨σ', H', I', q⟩ := q
    exact h2 pins s1 σ' H' D I' q
  | ret v => exact q
  | brk => exact q
  | cont => exact q
theorem pss_one (h1 : PS X st t) : PSs X [st] t := by
  intro pins s σ H D I h
  refine wpAny_execs_cons (thn (h1 pins s σ H D I h) fun f s1 q => ?_)
  cases f with
  | next => exact wpAny_execs_nil q
  | ret v => exact q
  | brk => exact q
  | cont => exact q
theorem Inv.quiet {pins : List (Addr × Obj)} {σ : St} {H : Hp} {s : Shared} (I : Inv X pins σ H s) : interactive X.env = false := by simp [interactive, I.ok.kind]

def tDrop (te : TE) : TS := fun D σ H => te σ H fun _ H1 => D.nx σ H1
theorem ps_expr (he : PE X e te) (hs : swapsWith e none pos.line X.env = pure false := by rfl) : PS X (.Expr e pos) (tDrop te) := by
  intro pins s σ H D I h
  exact wpAny_Expr_any (thn (he pins s σ H _ I h) fun v s1 ⟨x, H1, I1, r1, q1⟩ => ⟨σ, H1, I1, q1⟩) I.quiet hs
def tRet (te : TE) : TS := fun D σ H => te σ H D.rt
theorem ps_ret (he : PE X e te) : PS X (.Return (some e) pos) (tRet te) := by
  intro pins s σ H D I h
  exact wpAny_Return_some (thn (he pins s σ H _ I h) fun v s1 ⟨x, H1, I1, r1, q1⟩ => ⟨x, σ, H1, I1, r1, q1⟩)
def tRetN : TS := fun D _ H => D.rt .non H
theorem ps_retN : PS X (.Return none pos) tRetN := fun _ _ σ H _ I h => wpAny_Return_none ⟨.non, σ, H, I, rfl, h⟩
def tIfS (c : TT) (t u : TS) : TS := fun D σ H => c σ H fun b H1 => if b = true then t D σ H1 else u D σ H1
theorem ps_if {c : Expr} {a b : List Stmt} {tc : TT} (hc : PT X c tc) (ha : PSs X a t) (hb : PSs X b u) : PS X (.If c a b pos) (tIfS tc t u) := by
  intro pins s σ H D I h
  refine wpAny_If (thn (hc pins s σ H _ I h) fun d s1 ⟨H1, I1, q1⟩ => ?_)
  cases d with
  | true => exact ha pins s1 σ H1 D I1 q1
  | false => exact hb pins s1 σ H1 D I1 q1

def tNever : TS := fun _ _ _ => False
theorem ps_never : PS X st tNever := fun _ _ _ _ _ _ h => h.elim
end


abbrev TG := V → St → Hp → (St → Hp → Prop) → Prop
abbrev TGs := List V → St → Hp → (St → Hp → Prop) → Prop
def PG (X : Cx) (target : Expr) (t : TG) : Prop :=
  ∀ (pins : List (Addr × Obj)) (s : Shared) (σ : St) (H : Hp) (v : V) (u : Value) (Q : St → Hp → Prop), Inv X pins σ H s → RelV v u → t v σ H Q →
    wpAny (model X.prog X.w) X.A (assign target X.env u) (fun _ s' => ∃ σ' H', Inv X pins σ' H' s' ∧ Q σ' H') X.xe s

def PGs (X : Cx) (ts : List Expr) (t : TGs) : Prop :=
  ∀ (pins : List (Addr × Obj)) (s : Shared) (σ : St) (H : Hp) (vs : List V) (us : List Value) (Q : St → Hp → Prop), Inv X pins σ H s → Vals vs us → t vs σ H Q →
    wpAny (model X.prog X.w) X.A (assignInOrder ((assignEach ts X.env).map (·.2)) us) (fun _ s' => ∃ σ' H', Inv X pins σ' H' s' ∧ Q σ' H') X.xe s

abbrev TSet := V → V → V → Hp → (Hp → Prop) → Prop
def PSet (X : Cx) (t : TSet) : Prop :=
  ∀ (pins : List (Addr × Obj)) (s : Shared) (σ : St) (H : Hp) (o i v : V) (ov iv u : Value) (Q : Hp → Prop), Inv X pins σ H s → RelV o ov → RelV i iv → RelV v u → t o i v H Q →
    wpAny (model X.prog X.w) X.A (setItem ov iv u) (fun _ s' => ∃ H', Inv X pins σ H' s' ∧ Q H') X.xe s

section
variable {X : Cx} {pos : Pos}
def gName (i : Nat) : TG := fun v σ H Q => Q (σ.set i (some v)) H
theorem pg_name {i : Nat} {x : Str} (hN : X.N.Nodup) (hi : X.N[i]? = some x) (hx : Loc X.env.scope x) (hf : X.fn x = true ∨ X.env.scope.names.lookup x = some .local := by first | exact .inl rfl | exact .inr rfl | assumption) : PG X (.Name x pos) (gName i) := by
  intro pins s σ H v u Q I r h
  exact wpAny_assign_Name (store_ok I hN hi hx r (fun s' I' => ⟨_, H, I', h⟩) hf)
def gNil : TGs := fun vs σ H Q => vs = [] ∧ Q σ H
def gCons (t : TG) (u : TGs) : TGs := fun vs σ H Q => ∃ v r, vs = v :: r ∧ t v σ H fun σ' H' => u r σ' H' Q
theorem pgs_nil : PGs X [] gNil := by
  intro pins s σ H vs us Q I r h
  obtain ⟨e, h⟩ := h
  subst e
  cases r
  exact assignInOrder_nil ⟨σ, H, I, h⟩
theorem pgs_cons {e : Expr} {es : List Expr} {t : TG} {u : TGs} (h1 : PG X e t) (h2 : PGs X es u)
    (hs : (assignEach (e :: es) X.env).map (·.2) = assign e X.env :: (assignEach es X.env).map (·.2) := by rfl) : PGs X (e :: es) (gCons t u) := by
  intro pins s σ H vs us Q I r h
  obtain ⟨v, vr, e1, h⟩ := h
  subst e1
  cases r with
  | cons r rr =>
    rw [hs]
    refine assignInOrder_cons (thn (h1 pins s σ H _ _ _ I r h) fun _ s1 ⟨σ1, H1, I1, q1⟩ => ?_)
    exact h2 pins s1 σ1 H1 _ _ Q I1 rr q1

def gTup (K : PySem.W.Frag) (n : Nat) (t : TGs) : TG := fun v σ H Q => ∃ a xs, v = .ref a ∧ SqT K H a xs ∧ xs.length = n ∧ t xs σ H Q
theorem pg_tup {es : List Expr} {k : Nat} {t : TGs} {n : Nat} (hc : X.calm = true) (h : PGs X es t)
    (hn : (assignEach es X.env).length = n := by rfl) (hst : (assignEach es X.env).findIdx? (·.1) = none := by rfl) : PG X (.Tuple es k pos) (gTup X.K n t) := by
  intro pins s σ H v u Q I r hw
  obtain ⟨a, xs, e1, hq, hl, hw⟩ := hw
  subst e1
  cases r
  obtain ⟨its, rv, ht, hz⟩ := I.tuple hq
  refine assign_Tuple_tuple (I.ok.hd hc) ht (by simp [hn, ← hl, rv.length]) hst fun h' hx => ?_
  have I1 : Inv X pins σ H { s with heap := h' } := I.kept (t' := s.toks) fun b o e => hx b o (Nat.ne_of_lt (Heap.lt_size e)) e
  exact h pins _ σ H xs _ Q I1 (by simpa using rv) hw

def gSub (to ti : TE) (t : TSet) : TG := fun v σ H Q => to σ H fun o H1 => ti σ H1 fun i H2 => t o i v H2 fun H3 => Q σ H3
theorem pg_sub {o i : Expr} {to ti : TE} {t : TSet} (ho : PE X o to) (hi : PE X i ti) (hs : PSet X t)
    (ha : ∀ v, assign (.Subscript o i pos) X.env v = (do
      let ov ← holding [v] (eval o X.env)
      let iv ← holding [v, ov] (eval i X.env)
      standAt pos
      holding [v, ov, iv] (setItem ov iv v)
      release [v, ov, iv] []) := by intro _; rfl) : PG X (.Subscript o i pos) (gSub to ti t) := by
  intro pins s σ H v u Q I r h
  rw [ha]
  refine wpAny_bind (wpAny_holding (thn (ho pins s σ H _ I h) fun ov s1 ⟨x, H1, I1, r1, q1⟩ => ?_))
  refine wpAny_bind (wpAny_holding (thn (hi pins s1 σ H1 _ I1 q1) fun iv s2 ⟨y, H2, I2, r2, q2⟩ => ?_))
  refine wpAny_bind (wpAny_standAt (wpAny_bind (wpAny_holding (thn (hs pins s2 σ H2 x y v ov iv u _ I2 r1 r2 r q2) fun _ s3 ⟨H3, I3, q3⟩ => ?_))))
  exact wpAny_release ⟨σ, H3, I3, q3⟩

def tAsg (te : TE) (g : TG) : TS := fun D σ H => te σ H fun x H1 => g x σ H1 D.nx
theorem ps_asg {tg e : Expr} {te : TE} {g : TG} (he : PE X e te) (hg : PG X tg g) (hs : swapsWithSole [tg] e pos.line X.env = pure false := by rfl) (hw : swappedStores [tg] e X.env = pure none := by rfl)
    (h1 : (assignEach [tg] X.env).map (·.2) = [assign tg X.env] := by rfl) : PS X (.Assign [tg] e pos) (tAsg te g) := by
  intro pins s σ H D I h
  refine wpAny_Assign_stores (thn (he pins s σ H _ I h) fun v s1 ⟨x, H1, I1, r1, q1⟩ => ?_) hs hw
  rw [h1]
  exact thn (hg pins s1 σ H1 x v _ I1 r1 q1) fun _ s2 q => q

theorem ps_set {i : Nat} {x : Str} {e : Expr} {te : TE} {pos' : Pos} (hN : X.N.Nodup) (hi : X.N[i]? = some x) (hx : Loc X.env.scope x) (he : PE X e te) (hs : swapsWith e (some (.Name x pos')) pos.line X.env = pure false := by rfl) (hf : X.fn x = true ∨ X.env.scope.names.lookup x = some .local := by first | exact .inl rfl | exact .inr rfl | assumption) :
    PS X (.Assign [.Name x pos'] e pos) (tAsg te (gName i)) := by
  intro pins s σ H D I h
  refine wpAny_Assign_Name (thn (he pins s σ H _ I h) fun v s1 ⟨y, H1, I1, r1, q1⟩ => ?_) hs
  exact store_ok I1 hN hi hx r1 (fun s2 I2 => ⟨_, H1, I2, q1⟩) hf

end


section
variable {X : Cx} {pos : Pos}

def tWhile (c : TT) (tb : TS) : TS := fun D σ H => ∃ W : Nat → St → Hp → Prop, (∃ m, W m σ H) ∧ ∀ m σ H, W m σ H →
  c σ H fun b H1 => if b = true then ∃ N : St → Hp → Prop, (∀ σ' H', N σ' H' → ∃ m', m' < m ∧ W m' σ' H') ∧ tb { D with nx := N, ct := N, bk := D.nx } σ H1 else D.nx σ H1
theorem ps_while {c : Expr} {body : List Stmt} {tc : TT} {tb : TS} (hp : PassesOwn (model X.prog X.w) X.A X.env X.xe) (hc : PT X c tc) (hb : PSs X body tb) : PS X (.While c body [] pos) (tWhile tc tb) := by
  intro pins s σ H D I h
  obtain ⟨W, ⟨m0, w0⟩, turn⟩ := h
  refine wpAny_While (codeAny_whileLoop (fun n s' => ∃ σ' H', Inv X pins σ' H' s' ∧ W n σ' H') ?_ m0 ⟨σ, H, I, w0⟩)
  rintro n s1 ⟨σ1, H1, I1, w1⟩
  refine wpAny_passesOwn hp (thn (hc pins s1 σ1 H1 _ I1 (turn n σ1 H1 w1)) fun b s2 ⟨H2, I2, q2⟩ => ?_)
  cases b with
  | true =>
    obtain ⟨N, hN, q2⟩ := q2
    rw [if_pos rfl]
    refine wpAny_passesOwn hp (thn (hb pins s2 σ1 H2 _ I2 q2) fun f s3 q3 => ?_)
    cases f with
    | next =>
      obtain ⟨σ3, H3, I3, n3⟩ := q3
      obtain ⟨m', hm, w3⟩ := hN σ3 H3 n3
      exact ⟨m', hm, σ3, H3, I3, w3⟩
    | cont =>
      obtain ⟨σ3, H3, I3, n3⟩ := q3
      obtain ⟨m', hm, w3⟩ := hN σ3 H3 n3
      exact ⟨m', hm, σ3, H3, I3, w3⟩
    | brk => exact q3
    | ret v => exact q3
  | false =>
    rw [if_neg Bool.false_ne_true]
    exact wpAny_execs_nil ⟨σ1, H2, I2, q2⟩
end



structure It where
  go : Nat → Hp → Prop
  yld : Nat → Hp → V → Hp → Prop
  stop : Nat → Hp → Prop

def FpOk (X : Cx) (pins : List (Addr × Obj)) (H : Hp) (b : Addr) : Prop :=
  H b = none ∧ b ≠ X.env.locals ∧ b ∉ X.fs ∧ (b ∈ X.ex ∨ X.s₀.heap.objs.size ≤ b) ∧ (∀ x c, X.env.cells.lookup x = some c → c ≠ b) ∧ ∀ p ∈ X.pn ++ pins, p.1 ≠ b
theorem Inv.fpOk {X : Cx} {pins : List (Addr × Obj)} {σ : St} {H H' : Hp} {s : Shared} {b : Addr} (I : Inv X pins σ H s) (hb : s.heap.objs.size ≤ b) (hn : H' b = none) : FpOk X pins H' b := by
  refine ⟨hn, Nat.ne_of_gt (Nat.lt_of_lt_of_le I.lt hb), I.nofs hb, .inr (Nat.le_trans I.sz hb), fun x c e z => ?_, fun p hp z => ?_⟩
  · obtain ⟨v, q⟩ := I.cell x c e
    exact absurd (Nat.lt_of_lt_of_le q.lt (by rw [z]; exact hb)) (Nat.lt_irrefl _)
  · exact absurd (Nat.lt_of_lt_of_le (Heap.lt_size (I.pin p hp).1) (by rw [z]; exact hb)) (Nat.lt_irrefl _)
structure Turn (P : Program) (w : World) (K : PySem.W.Frag) (tg : Expr) (J : It) (fp : List Addr) (it : Addr) (tn : Nat → Heap → Prop) : Prop where
  mem : it ∈ fp
  obj : ∀ i h, tn i h → ∀ b ∈ fp, ∃ o, h.get? b = some o ∧ ∀ v, o.data ≠ .cell v
  keep : ∀ i h h', tn i h → (∀ b ∈ fp, ∀ o, h.get? b = some o → h'.get? b = some o) → tn i h'
  item : ∀ (X : Cx), X.prog = P → X.w = w → X.K = K → X.calm = true → ∀ (i : Nat) (pins : List (Addr × Obj)) (s : Shared) (σ : St) (H : Hp) (E : Value → Shared → Prop), Inv X pins σ H s → (∀ b ∈ fp, FpOk X pins H b) → tn i s.heap → J.go i H →
    wpAny (model P w) X.A (pyNext (.ref it)) (fun r s1 => ∃ u, r = some u ∧
      wpAny (model P w) X.A (letOwnedTupleGo tg (.ref it) u) (fun _ s2 => ∃ x H', Inv X pins σ H' s2 ∧ RelV x u ∧ J.yld i H x H' ∧ tn (i + 1) s2.heap ∧ ∀ b ∈ fp, H' b = none) E s1) E s
  done : ∀ (X : Cx), X.prog = P → X.w = w → X.K = K → X.calm = true → ∀ (i : Nat) (pins : List (Addr × Obj)) (s : Shared) (σ : St) (H : Hp) (E : Value → Shared → Prop), Inv X pins σ H s → (∀ b ∈ fp, FpOk X pins H b) → tn i s.heap → J.stop i H →
    wpAny (model P w) X.A (pyNext (.ref it)) (fun r s1 => r = none ∧ Inv X pins σ H s1) E s
  self : ∀ (A : Around) (i : Nat) (s : Shared) (Q : Value → Shared → Prop) (E : Value → Shared → Prop), tn i s.heap → Q (.ref it) s → wpAny (model P w) A (pyIter (.ref it)) Q E s
abbrev TI := St → Hp → (It → Hp → Prop) → Prop

def PIE (X : Cx) (pins : List (Addr × Obj)) (σ : St) (tg : Expr) (R : It → Hp → Prop) (itv : Value) (s2 : Shared) : Prop :=
  ∃ (it : Addr) (fp : List Addr) (tn : Nat → Heap → Prop) (J : It) (H' : Hp), itv = .ref it ∧ Inv X pins σ H' s2 ∧ Turn X.prog X.w X.K tg J fp it tn ∧ tn 0 s2.heap ∧ (∀ b ∈ fp, FpOk X pins H' b) ∧ R J H'
def PI (X : Cx) (tg iter : Expr) (wi : TI) : Prop :=
  ∀ (pins : List (Addr × Obj)) (s : Shared) (σ : St) (H : Hp) (R : It → Hp → Prop), Inv X pins σ H s → wi σ H R →
    wpAny (model X.prog X.w) X.A (eval iter X.env) (fun v s1 => wpAny (model X.prog X.w) X.A (pyIter v) (PIE X pins σ tg R) X.xe s1) X.xe s


theorem go_of {M : Model} {A : Around} {E : Value → Shared → Prop} {s : Shared} {tg : Expr} {it : Addr} {u : Value} {o : Obj} {n : String} {vs : Array Value} {Q : Unit → Shared → Prop} (ho : s.heap.get? it = some o) (hc : o.cls = .type n) (hd : o.data = .fields vs)
    (hn : ["enumerate", "zip", "dict_itemiterator", "dict_reverseitemiterator", "odict_iterator", "itertools.zip_longest", "itertools.pairwise"].contains n = false) (hQ : Q () s) : wpAny M A (letOwnedTupleGo tg (.ref it) u) Q E s := by
  unfold letOwnedTupleGo
  cases tg <;> first
    | exact wpAny_pure hQ
    | (cases u <;> first
        | exact wpAny_pure hQ
        | (refine wpAny_bind (wpAny_load ho ?_)
           rw [hc, hd]
           show wpAny M A (if (["enumerate", "zip", "dict_itemiterator", "dict_reverseitemiterator", "odict_iterator", "itertools.zip_longest", "itertools.pairwise"].contains n && vs[0]? == some (rawInt _)) = true then _ else _) Q E s
           rw [if_neg (by intro h; rw [hn, Bool.false_and] at h; cases h)]
           exact wpAny_pure hQ))


def Itl (K : PySem.W.Frag) (a : Addr) : It :=
  ⟨fun i H => ∃ xs x, SqL K H a xs ∧ xs[i]? = some x, fun i H x H' => H' = H ∧ ∀ xs, SqL K H a xs → xs[i]? = some x, fun i H => ∃ xs, SqL K H a xs ∧ xs.length ≤ i⟩
def Itt (K : PySem.W.Frag) (a : Addr) : It :=
  ⟨fun i H => ∃ xs x, SqT K H a xs ∧ xs[i]? = some x, fun i H x H' => H' = H ∧ ∀ xs, SqT K H a xs → xs[i]? = some x, fun i H => ∃ xs, SqT K H a xs ∧ xs.length ≤ i⟩

def Itr (lo : Int) (n : Nat) : It := ⟨fun i _ => i < n, fun i H x H' => H' = H ∧ x = .int (lo + i), fun i _ => n ≤ i⟩
theorem turn_list {P : Program} {w : World} {K : PySem.W.Frag} {tg : Expr} (a it : Addr) : Turn P w K tg (Itl K a) [it] it (fun i h => h.IsListIter it a i) where
  mem := by simp
  obj := fun i h st b hb => by
    have e : b = it := by simpa using hb
    subst e
    obtain ⟨o, e, c, d⟩ := st
    exact ⟨o, e, fun v z => by rw [d] at z; cases z⟩
  keep := fun i h h' st k => st.at fun o e => k it (by simp) o e
  item := by
    intro X hP hw hK hc i pins s σ H E I hf st hg
    subst hP hw hK
    obtain ⟨xs, x, hq, hx⟩ := hg
    obtain ⟨its, rv, p, hz⟩ := I.list hq
    obtain ⟨u, hu, ru⟩ := rv.get hx
    obtain ⟨f0, f1, f2, f3, f4, f5⟩ := hf it (by simp)
    refine wpAny_pyNext_list_item st p.isList (x := u) (by simpa using hu) fun h' st' sb => ?_
    have I1 : Inv X pins σ H { s with heap := h' } := I.turned (t' := s.toks) (fun b o hb e => (sb.2 b hb).trans e) f0 f1 f3 f4 f5
    obtain ⟨o, e, c, d⟩ := id st'
    exact ⟨u, rfl, go_of (s := { s with heap := h' }) e c d (by decide) ⟨x, H, I1, ru, ⟨rfl, fun ys hy => by rw [I.list_inj hy hq]; exact hx⟩, st', fun b hb => (hf b hb).1⟩⟩
  done := by
    intro X hP hw hK hc i pins s σ H E I hf st hg
    subst hP hw hK
    obtain ⟨xs, hq, hx⟩ := hg
    obtain ⟨its, rv, p, hz⟩ := I.list hq
    obtain ⟨f0, f1, f2, f3, f4, f5⟩ := hf it (by simp)
    have hl := rv.length
    exact wpAny_pyNext_list_end (I.ok.hd hc) st p.isList (by simp; omega) fun h' eb => ⟨rfl, I.turned (t' := s.toks) (fun b o hb e => eb b o hb e) f0 f1 f3 f4 f5⟩
  self := fun _ _ _ _ _ st h => wpAny_pyIter_listiter st h
theorem turn_tuple {P : Program} {w : World} {K : PySem.W.Frag} {tg : Expr} (a it : Addr) : Turn P w K tg (Itt K a) [it] it (fun i h => h.IsTupleIter it a i) where
  mem := by simp
  obj := fun i h st b hb => by
    have e : b = it := by simpa using hb
    subst e
    obtain ⟨o, e, c, d⟩ := st
    exact ⟨o, e, fun v z => by rw [d] at z; cases z⟩
  keep := fun i h h' st k => st.at fun o e => k it (by simp) o e
  item := by
    intro X hP hw hK hc i pins s σ H E I hf st hg
    subst hP hw hK
    obtain ⟨xs, x, hq, hx⟩ := hg
    obtain ⟨its, rv, p, hz⟩ := I.tuple hq
    obtain ⟨u, hu, ru⟩ := rv.get hx
    obtain ⟨f0, f1, f2, f3, f4, f5⟩ := hf it (by simp)
    refine wpAny_pyNext_tuple_item st (show s.heap.IsTuple a its.toArray from p) (x := u) (by simpa using hu) fun h' st' sb => ?_
    have I1 : Inv X pins σ H { s with heap := h' } := I.turned (t' := s.toks) (fun b o hb e => (sb.2 b hb).trans e) f0 f1 f3 f4 f5
    obtain ⟨o, e, c, d⟩ := id st'
    exact ⟨u, rfl, go_of (s := { s with heap := h' }) e c d (by decide) ⟨x, H, I1, ru, ⟨rfl, fun ys hy => by rw [I.tuple_inj hy hq]; exact hx⟩, st', fun b hb => (hf b hb).1⟩⟩
  done := by
    intro X hP hw hK hc i pins s σ H E I hf st hg
    subst hP hw hK
    obtain ⟨xs, hq, hx⟩ := hg
    obtain ⟨its, rv, p, hz⟩ := I.tuple hq
    obtain ⟨f0, f1, f2, f3, f4, f5⟩ := hf it (by simp)
    have hl := rv.length
    exact wpAny_pyNext_tuple_end (I.ok.hd hc) st (show s.heap.IsTuple a its.toArray from p) (by simp; omega) fun h' eb => ⟨rfl, I.turned (t' := s.toks) (fun b o hb e => eb b o hb e) f0 f1 f3 f4 f5⟩
  self := fun _ _ _ _ _ st h => wpAny_pyIter_tupleiter st h
theorem turn_range {P : Program} {w : World} {K : PySem.W.Frag} {tg : Expr} (it : Addr) (lo : Int) (n : Nat) : Turn P w K tg (Itr lo n) [it] it (fun i h => IsRangeIter h it (lo + (i : Nat) * 1) ((n : Int) - (i : Nat)) 1) where
  mem := by simp
  obj := fun i h st b hb => by
    have e : b = it := by simpa using hb
    subst e
    exact ⟨_, st, fun v z => by
      have z' : Data.fields _ = Data.cell v := z
      cases z'⟩
  keep := fun i h h' st k => k it (by simp) _ st
  item := by
    intro X hP hw hK hc i pins s σ H E I hf st hg
    subst hP hw hK
    obtain ⟨f0, f1, f2, f3, f4, f5⟩ := hf it (by simp)
    have W := Walks.range (prog := X.prog) (w := X.w) (I.ok.hd hc) it lo 1 n
    refine W.item i s _ _ hg st fun v h' tk hv st' kk => ?_
    obtain ⟨t, rfl⟩ := hv
    have I1 : Inv X pins σ H { s with heap := h', toks := tk } := I.turned (fun b o hb e => kk b o (by simpa using hb) e) f0 f1 f3 f4 f5
    refine ⟨_, rfl, go_of (s := { s with heap := h', toks := tk }) (n := "range_iterator") st' rfl rfl (by decide) ⟨.int (lo + i), H, I1, ⟨t, ?_⟩, ⟨rfl, rfl⟩, st', fun b hb => (hf b hb).1⟩⟩
    rw [Int.mul_one]
  done := by
    intro X hP hw hK hc i pins s σ H E I hf st hg
    subst hP hw hK
    obtain ⟨f0, f1, f2, f3, f4, f5⟩ := hf it (by simp)
    exact wpAny_pyNext_range_end (I.ok.hd hc) st (by have : n ≤ i := hg; omega) fun h' eb => ⟨rfl, I.turned (t' := s.toks) (fun b o hb e => eb b o hb e) f0 f1 f3 f4 f5⟩
  self := fun _ _ _ _ _ st h => wpAny_pyIter_rangeiter st h
end L2

namespace L2
open PySem PySem.Spec PyProof.Rows
section
variable {X : Cx} {tg : Expr}
theorem range_it {pins : List (Addr × Obj)} {σ : St} {H : Hp} {s : Shared} {R : It → Hp → Prop} {E : Value → Shared → Prop} {lo hi : Int} {t u v : Tok} {tk : Nat} (I : Inv X pins σ H s) (h1 : -(2 ^ 62) ≤ lo) (h2 : lo < 2 ^ 62) (h3 : -(2 ^ 62) ≤ hi) (h4 : hi < 2 ^ 62)
    (q : R (Itr lo (hi - lo).toNat) H) : wpAny (model X.prog X.w) X.A (pyIter (.ref s.heap.objs.size)) (PIE X pins σ tg R) E { s with heap := s.heap.push { cls := .type "range", data := .fields #[.int lo t, .int hi u, .int 1 v] }, toks := tk } := by
  refine wpAny_pyIter_range (IsRange.new ..) (small_one h1 h2 h3 h4) ?_
  have I1 : Inv X pins σ H { s with heap := s.heap.push { cls := .type "range", data := .fields #[.int lo t, .int hi u, .int 1 v] }, toks := tk } := I.kept fun b o e => Heap.get?_push_of_some _ e
  refine ⟨(s.heap.push { cls := .type "range", data := .fields #[.int lo t, .int hi u, .int 1 v] }).objs.size, [(s.heap.push { cls := .type "range", data := .fields #[.int lo t, .int hi u, .int 1 v] }).objs.size], _, _, H, rfl,
    I1.kept (t' := tk) fun b o e => Heap.get?_push_of_some _ e, turn_range _ lo (hi - lo).toNat, ?_, fun b hb => ?_, q⟩
  · have e1 : lo + ((0 : Nat) : Int) * 1 = lo := by simp
    have e2 : (((hi - lo).toNat : Nat) : Int) - ((0 : Nat) : Int) = Builtin.Range.rangeSize lo hi 1 := by rw [rangeSize_one]; split <;> omega
    show IsRangeIter _ _ (lo + ((0 : Nat) : Int) * 1) ((((hi - lo).toNat : Nat) : Int) - ((0 : Nat) : Int)) 1
    rw [e1, e2]
    exact Heap.get?_push_size _ rfl
  · have e : b = (s.heap.push { cls := .type "range", data := .fields #[.int lo t, .int hi u, .int 1 v] }).objs.size := by simpa using hb
    subst e
    exact I1.fpOk (Nat.le_refl _) (I1.hok.fresh (Nat.le_refl _))
def iRng1 (ta : TA) : TI := fun σ H R => ta σ H fun vs H1 => ∃ j : Int, vs = [.int j] ∧ -(2 ^ 62) ≤ j ∧ j < 2 ^ 62 ∧ R (Itr 0 j.toNat) H1
theorem pi_range1 {a : Expr} {ta : TA} {p pos : Pos} (hg : Gl X "range") (hm : X.mg "range" = none) (ha : PA X [a] ta) (hs : starEach [a] X.env = [(false, eval a X.env)] := by rfl) : PI X tg (.Call (.Name "range" p) [a] [] pos) (iRng1 ta) := by
  intro pins s σ H R I h
  refine Call_ (ld_blt I hg hm boot_range (PyProof.Rows.callWith_type1 (thn (ha pos pins s σ H _ I h) fun us s1 ⟨vs, H1, I1, r1, q1⟩ => ?_) hs rfl))
  obtain ⟨j, e, q1, q2, q⟩ := q1
  subst e
  cases r1 with
  | cons r rr =>
    cases rr
    obtain ⟨t, rfl⟩ := r
    exact call_range_1 (range_it I1 (by omega) (by omega) q1 q2 (by simpa using q))
def tFor (wi : TI) (g : TG) (tb : TS) : TS := fun D σ H => wi σ H fun J H1 => ∃ W : Nat → Nat → St → Hp → Prop, (∃ m, W 0 m σ H1) ∧ ∀ i m σ H, W i m σ H →
  (J.stop i H ∧ D.nx σ H) ∨ (J.go i H ∧ ∃ N : St → Hp → Prop, (∀ σ' H', N σ' H' → ∃ m', m' < m ∧ W (i + 1) m' σ' H') ∧ ∀ x H', J.yld i H x H' → g x σ H' fun σ2 H2 => tb { D with nx := N, ct := N, bk := D.nx } σ2 H2)

def pinsAt (fp : List Addr) (h : Heap) : List (Addr × Obj) := fp.filterMap fun b => (h.get? b).map fun o => (b, o)
theorem mem_pinsAt {fp : List Addr} {h : Heap} {b : Addr} {o : Obj} (hb : b ∈ fp) (e : h.get? b = some o) : (b, o) ∈ pinsAt fp h := List.mem_filterMap.mpr ⟨b, hb, by rw [e]; rfl⟩
theorem of_pinsAt {fp : List Addr} {h : Heap} {p : Addr × Obj} (hp : p ∈ pinsAt fp h) : p.1 ∈ fp ∧ h.get? p.1 = some p.2 := by
  obtain ⟨b, hb, e⟩ := List.mem_filterMap.mp hp
  cases q : h.get? b with
  | none => rw [q] at e; cases e
  | some o =>
    rw [q] at e
    have e' : (b, o) = p := Option.some.inj e
    subst e'
    exact ⟨hb, q⟩
theorem Inv.pinned {pins : List (Addr × Obj)} {σ : St} {H : Hp} {s : Shared} {fp : List Addr} (I : Inv X pins σ H s) (hf : ∀ b ∈ fp, FpOk X pins H b) (ho : ∀ b ∈ fp, ∃ o, s.heap.get? b = some o ∧ ∀ v, o.data ≠ .cell v) : Inv X (pins ++ pinsAt fp s.heap) σ H s :=
  I.pins_of fun p hp => (List.mem_append.mp hp).elim (fun z => I.pin p (List.mem_append_right _ z)) fun z => by
    obtain ⟨hb, e⟩ := of_pinsAt z
    obtain ⟨f0, f1, f2, _⟩ := hf p.1 hb
    obtain ⟨o, e', d⟩ := ho p.1 hb
    rw [e] at e'; cases e'
    exact ⟨e, f0, f1, f2, d⟩
theorem Inv.unpinned {pins pl : List (Addr × Obj)} {σ : St} {H : Hp} {s : Shared} (I : Inv X (pins ++ pl) σ H s) : Inv X pins σ H s := I.pins_of fun p hp => I.pin p (List.mem_append_right _ (List.mem_append_left _ hp))
theorem ps_for {iter : Expr} {body : List Stmt} {wi : TI} {g : TG} {tb : TS} {pos : Pos} (hp : PassesOwn (model X.prog X.w) X.A X.env X.xe) (hc : X.calm = true) (hi : PI X tg iter wi) (hg : PG X tg g) (hb : PSs X body tb)
    (hs : ∀ x, foldedSetIterable iter X.env x = pure x := by intro _; rfl) : PS X (.For tg iter body [] pos) (tFor wi g tb) := by
  intro pins s σ H D I h
  refine wpAny_For (thn (hi pins s σ H _ I h) fun v s1 h1 => thn h1 fun itv s2 h2 => ?_) hs
  obtain ⟨it, fp, tn, J, H2, e, I2, T, st2, f2, W, ⟨m0, w0⟩, turn⟩ := h2
  subst e
  -- what stays true of the iterator's objects through the loop
  have stat : ∀ {H' : Hp}, (∀ b ∈ fp, H' b = none) → ∀ b ∈ fp, FpOk X pins H' b := fun hn b hb => ⟨hn b hb, (f2 b hb).2⟩
  refine codeAny_forLoop_any (fun n s' => ∃ i σ' H', Inv X pins σ' H' s' ∧ tn i s'.heap ∧ (∀ b ∈ fp, H' b = none) ∧ W i n σ' H') ?_ m0 ⟨0, σ, H2, I2, st2, fun b hb => (f2 b hb).1, w0⟩
  rintro n s3 ⟨i, σ3, H3, I3, st3, fr3, w3⟩
  rcases turn i n σ3 H3 w3 with ⟨stop, qn⟩ | ⟨go, N, hN, step⟩
  · refine wpAny_passesOwn hp (thn (T.done X rfl rfl rfl hc i pins s3 σ3 H3 X.xe I3 (stat fr3) st3 stop) fun r s4 ⟨hr, I4⟩ => ?_)
    subst hr
    exact wpAny_execs_nil ⟨σ3, H3, I4, qn⟩
  · refine wpAny_passesOwn hp (thn (T.item X rfl rfl rfl hc i pins s3 σ3 H3 X.xe I3 (stat fr3) st3 go) fun r s4 ⟨u, hr, h4⟩ => ?_)
    subst hr
    refine wpAny_passesOwn hp (thn h4 fun _ s5 ⟨x, H5, I5, r5, y5, st5, fr5⟩ => ?_)
    have I5' := I5.pinned (stat fr5) (T.obj _ _ st5)
    refine wpAny_passesOwn hp (thn (hg _ s5 σ3 H5 x u _ I5' r5 (step x H5 y5)) fun _ s6 ⟨σ6, H6, I6, q6⟩ => ?_)
    refine wpAny_passesOwn hp (thn (hb _ s6 σ6 H6 _ I6 q6) fun f s7 q7 => ?_)
    have again : ∀ {σ7 : St} {H7 : Hp}, Inv X (pins ++ pinsAt fp s5.heap) σ7 H7 s7 → N σ7 H7 → ∃ m, m < n ∧ ∃ i σ' H', Inv X pins σ' H' s7 ∧ tn i s7.heap ∧ (∀ b ∈ fp, H' b = none) ∧ W i m σ' H' := fun {σ7 H7} I7 n7 => by
      obtain ⟨m', hm, w7⟩ := hN σ7 H7 n7
      refine ⟨m', hm, i + 1, σ7, H7, I7.unpinned, T.keep _ _ _ st5 fun b hb o e => (I7.pin (b, o) (List.mem_append_right _ (List.mem_append_right _ (mem_pinsAt hb e)))).1, fun b hb => ?_, w7⟩
      obtain ⟨o, e, d⟩ := T.obj _ _ st5 b hb
      exact (I7.pin (b, o) (List.mem_append_right _ (List.mem_append_right _ (mem_pinsAt hb e)))).2.1
    cases f with
    | next => obtain ⟨σ7, H7, I7, n7⟩ := q7; exact again I7 n7
    | cont => obtain ⟨σ7, H7, I7, n7⟩ := q7; exact again I7 n7
    | brk => obtain ⟨σ7, H7, I7, q7⟩ := q7; exact ⟨σ7, H7, I7.unpinned, q7⟩
    | ret v => obtain ⟨x7, σ7, H7, I7, r7, q7⟩ := q7; exact ⟨x7, σ7, H7, I7.unpinned, r7, q7⟩
end



theorem for_range {lo : Int} {n : Nat} {g : TG} {tb : TS} {D : Ends} {σ : St} {H : Hp} (Pv : Nat → St → Hp → Prop) (h0 : Pv 0 σ H)
    (hs : ∀ i σ H, i < n → Pv i σ H → g (.int (lo + i)) σ H fun σ2 H2 => tb { D with nx := Pv (i + 1), ct := Pv (i + 1), bk := D.nx } σ2 H2) (hd : ∀ σ H, Pv n σ H → D.nx σ H) :
    ∃ W : Nat → Nat → St → Hp → Prop, (∃ m, W 0 m σ H) ∧ ∀ i m σ H, W i m σ H →
      ((Itr lo n).stop i H ∧ D.nx σ H) ∨ ((Itr lo n).go i H ∧ ∃ N : St → Hp → Prop, (∀ σ' H', N σ' H' → ∃ m', m' < m ∧ W (i + 1) m' σ' H') ∧ ∀ x H', (Itr lo n).yld i H x H' → g x σ H' fun σ2 H2 => tb { D with nx := N, ct := N, bk := D.nx } σ2 H2) := by
  refine ⟨fun i m σ H => m = n - i ∧ i ≤ n ∧ Pv i σ H, ⟨n, by simp, Nat.zero_le _, h0⟩, ?_⟩
  rintro i m σ H ⟨rfl, hi, p⟩
  by_cases hlt : i < n
  · refine .inr ⟨hlt, Pv (i + 1), fun σ' H' p' => ⟨n - (i + 1), by omega, rfl, hlt, p'⟩, fun x H' y => ?_⟩
    obtain ⟨e, y⟩ := y
    subst e y
    exact hs i σ _ hlt p
  · have e : i = n := by omega
    subst e
    exact .inl ⟨Nat.le_refl _, hd σ H p⟩

end L2

namespace L2
open PySem PySem.Spec PyProof.Rows

abbrev R2 := V → V → Hp → VK → Prop

def OpR (X : Cx) (f : Value → Value → Sem Value) (r : R2) : Prop :=
  ∀ (pins : List (Addr × Obj)) (s : Shared) (σ : St) (H : Hp) (x y : V) (v u : Value) (Q : VK), Inv X pins σ H s → RelV x v → RelV y u → r x y H Q →
    wpAny (model X.prog X.w) X.A (f v u) (EP X pins σ Q) X.xe s

def UnR (X : Cx) (f : Value → Sem Value) (r : V → Hp → VK → Prop) : Prop :=
  ∀ (pins : List (Addr × Obj)) (s : Shared) (σ : St) (H : Hp) (x : V) (v : Value) (Q : VK), Inv X pins σ H s → RelV x v → r x H Q →
    wpAny (model X.prog X.w) X.A (f v) (EP X pins σ Q) X.xe s

def CallR (X : Cx) (f : Value) (r : List V → Hp → VK → Prop) : Prop :=
  ∀ (pins : List (Addr × Obj)) (s : Shared) (σ : St) (H : Hp) (xs : List V) (us : List Value) (Q : VK), Inv X pins σ H s → Vals xs us → r xs H Q →
    wpAny (model X.prog X.w) X.A (call f us) (EP X pins σ Q) X.xe s

def TruR (X : Cx) (r : V → Hp → (Bool → Hp → Prop) → Prop) : Prop :=
  ∀ (pins : List (Addr × Obj)) (s : Shared) (σ : St) (H : Hp) (x : V) (v : Value) (Q : Bool → Hp → Prop), Inv X pins σ H s → RelV x v → r x H Q →
    wpAny (model X.prog X.w) X.A (truthy v) (TP X pins σ Q) X.xe s

def tOp (r : R2) (ta tb : TE) : TE := fun σ H Q => ta σ H fun x H1 => tb σ H1 fun y H2 => r x y H2 Q
def tUn (r : V → Hp → VK → Prop) (ta : TE) : TE := fun σ H Q => ta σ H fun x H1 => r x H1 Q

def rI (C : Int → Int → Prop) (g : Int → Int → V) : R2 := fun x y H Q => ∃ i j, x = .int i ∧ y = .int j ∧ C i j ∧ Q (g i j) H
def rI0 (g : Int → Int → V) : R2 := fun x y H Q => ∃ i j, x = .int i ∧ y = .int j ∧ Q (g i j) H
def rU (g : Int → V) : V → Hp → VK → Prop := fun x H Q => ∃ i, x = .int i ∧ Q (g i) H

section
variable {X : Cx} {a b c : Expr} {ta tb tc : TE} {pos : Pos}

theorem binT (ha : PE X a ta) (hb : PE X b tb) {pins : List (Addr × Obj)} {s : Shared} {σ : St} {H : Hp} {R : V → V → Hp → Prop} (I : Inv X pins σ H s)
    (h : ta σ H fun x H1 => tb σ H1 fun y H2 => R x y H2) {Q : Value → Shared → Prop} {f : Value → Value → Sem Value}
    (hf : ∀ v u s2 x y H2, Inv X pins σ H2 s2 → RelV x v → RelV y u → R x y H2 → wpAny (model X.prog X.w) X.A (f v u) Q X.xe s2) :
    wpAny (model X.prog X.w) X.A (eval a X.env) (fun v s₁ => wpAny (model X.prog X.w) X.A (eval b X.env) (fun u s₂ => wpAny (model X.prog X.w) X.A (f v u) Q X.xe s₂) X.xe s₁) X.xe s := by
  refine thn (ha pins s σ H _ I h) fun v s1 ⟨x, H1, I1, r1, q1⟩ => ?_
  refine thn (hb pins s1 σ H1 _ I1 q1) fun u s2 ⟨y, H2, I2, r2, q2⟩ => ?_
  exact hf v u s2 x y H2 I2 r1 r2 q2

theorem pe_op {op : Operator} {r : R2} (ho : OpR X (binaryOp op) r) (ha : PE X a ta) (hb : PE X b tb) : PE X (.BinOp a op b pos) (tOp r ta tb) := by
  intro pins s σ H Q I h
  exact wpAny_BinOp (binT ha hb I h fun v u s2 x y H2 I2 rx ry q => ho pins s2 σ H2 x y v u Q I2 rx ry q)
theorem pe_un {op : UnaryOp} {r : V → Hp → VK → Prop} (ho : UnR X (unaryOp op) r) (ha : PE X a ta) : PE X (.UnaryOp op a pos) (tUn r ta) := by
  intro pins s σ H Q I h
  exact UnaryOp_ (thn (ha pins s σ H _ I h) fun v s1 ⟨x, H1, I1, r1, q1⟩ => ho pins s1 σ H1 x v Q I1 r1 q1)

theorem opI {f : Value → Value → Sem Value} {C : Int → Int → Prop} {g : Int → Int → Int}
    (rule : ∀ (i j : Int) (t u : Tok) (s : Shared) (Q : Value → Shared → Prop) (E : Value → Shared → Prop), C i j → Q (.int (g i j) s.toks) { s with toks := s.toks + 1 } → wpAny (model X.prog X.w) X.A (f (.int i t) (.int j u)) Q E s) :
    OpR X f (rI C fun i j => .int (g i j)) := by
  intro pins s σ H x y v u Q I rx ry h
  obtain ⟨i, j, rfl, rfl, hc, q⟩ := h
  obtain ⟨t, rfl⟩ := rx
  obtain ⟨t', rfl⟩ := ry
  exact rule i j t t' s _ _ hc ⟨.int (g i j), H, I.tok _, ⟨_, rfl⟩, q⟩
theorem opI0 {f : Value → Value → Sem Value} {g : Int → Int → Int}
    (rule : ∀ (i j : Int) (t u : Tok) (s : Shared) (Q : Value → Shared → Prop) (E : Value → Shared → Prop), Q (.int (g i j) s.toks) { s with toks := s.toks + 1 } → wpAny (model X.prog X.w) X.A (f (.int i t) (.int j u)) Q E s) :
    OpR X f (rI0 fun i j => .int (g i j)) := by
  intro pins s σ H x y v u Q I rx ry h
  obtain ⟨i, j, rfl, rfl, q⟩ := h
  obtain ⟨t, rfl⟩ := rx
  obtain ⟨t', rfl⟩ := ry
  exact rule i j t t' s _ _ ⟨.int (g i j), H, I.tok _, ⟨_, rfl⟩, q⟩
theorem opB0 {f : Value → Value → Sem Value} {g : Int → Int → Bool}
    (rule : ∀ (i j : Int) (t u : Tok) (s : Shared) (Q : Value → Shared → Prop) (E : Value → Shared → Prop), Q (.bool (g i j)) s → wpAny (model X.prog X.w) X.A (f (.int i t) (.int j u)) Q E s) :
    OpR X f (rI0 fun i j => .bl (g i j)) := by
  intro pins s σ H x y v u Q I rx ry h
  obtain ⟨i, j, rfl, rfl, q⟩ := h
  obtain ⟨t, rfl⟩ := rx
  obtain ⟨t', rfl⟩ := ry
  exact rule i j t t' s _ _ ⟨.bl (g i j), H, I, rfl, q⟩

def CDiv (i j : Int) : Prop := 0 < j ∧ j < 1073741824
def CMul (i j : Int) : Prop := (-(2 ^ 64) < i ∧ i < 2 ^ 64) ∨ (-(2 ^ 64) < j ∧ j < 2 ^ 64)
theorem CMul.ok {i j : Int} (h : CMul i j) : IntMulOk i j := by
  rcases h with ⟨h1, h2⟩ | ⟨h1, h2⟩
  · exact .of_left (intBits_le_64 h1 h2)
  · exact .of_right (intBits_le_64 h1 h2)
theorem op_add : OpR X (binaryOp .Add) (rI0 fun i j => .int (i + j)) := opI0 fun _ _ _ _ _ _ _ q => add_int q
theorem op_sub : OpR X (binaryOp .Sub) (rI0 fun i j => .int (i - j)) := opI0 fun _ _ _ _ _ _ _ q => sub_int q
theorem op_mul : OpR X (binaryOp .Mult) (rI CMul fun i j => .int (i * j)) := opI fun _ _ _ _ _ _ _ hc q => mul_int q hc.ok

theorem op_fdiv : OpR X (binaryOp .FloorDiv) (rI CDiv fun i j => .int (i / j)) := opI fun i j _ _ _ _ _ hc q => by
  have h1 : (0 : Int) < j := hc.1
  have h2 : j < 1073741824 := hc.2
  exact floordiv_int (by omega) (by rw [Int.fdiv_eq_ediv_of_nonneg i (by omega)]; exact q) (.inl (PyProof.noPylong_small (by omega)))
theorem op_mod : OpR X (binaryOp .Mod) (rI (fun _ j => 0 < j) fun i j => .int (i % j)) := opI fun i j _ _ _ _ _ hc q => by
  have h1 : (0 : Int) < j := hc
  exact mod_int' (by omega) (by rw [Int.fmod_eq_emod_of_nonneg i (by omega)]; exact q)
theorem op_and : OpR X (binaryOp .BitAnd) (rI0 fun i j => .int (Builtin.bitAnd i j)) := opI0 fun _ _ _ _ _ _ _ q => and_int q
theorem unI {f : Value → Sem Value} {g : Int → Int}
    (rule : ∀ (i : Int) (t : Tok) (s : Shared) (Q : Value → Shared → Prop) (E : Value → Shared → Prop), Q (.int (g i) s.toks) { s with toks := s.toks + 1 } → wpAny (model X.prog X.w) X.A (f (.int i t)) Q E s) :
    UnR X f (rU fun i => .int (g i)) := by
  intro pins s σ H x v Q I rx h
  obtain ⟨i, rfl, q⟩ := h
  obtain ⟨t, rfl⟩ := rx
  exact rule i t s _ _ ⟨.int (g i), H, I.tok _, ⟨_, rfl⟩, q⟩
theorem un_neg : UnR X (unaryOp .USub) (rU fun i => .int (-i)) := unI fun _ _ _ _ _ q => neg_int q
end



def scal : V → V → Bool
  | .non, .non => true | .non, .int _ => true | .int _, .non => true | .non, .bl _ => true | .bl _, .non => true | .non, .str _ => true | .str _, .non => true
  | .int _, .int _ => true | .bl _, .bl _ => true | .str _, .str _ => true | .byt _, .byt _ => true
  | .int _, .str _ => true | .str _, .int _ => true | .bl _, .str _ => true | .str _, .bl _ => true
  | _, _ => false
def rEq : R2 := fun x y H Q => scal x y = true ∧ Q (.bl (decide (x = y))) H
def rNe : R2 := fun x y H Q => scal x y = true ∧ Q (.bl (!decide (x = y))) H

theorem dec_int {i j : Int} : decide (V.int i = V.int j) = (i == j) := by
  rw [Bool.eq_iff_iff]
  simp
theorem dec_bl {i j : Bool} : decide (V.bl i = V.bl j) = (i == j) := by
  rw [Bool.eq_iff_iff]
  simp
theorem dec_str {i j : Str} : decide (V.str i = V.str j) = (i == j) := by
  rw [Bool.eq_iff_iff]
  simp
theorem dec_byt {i j : Array UInt8} : decide (V.byt i = V.byt j) = (i.toList == j.toList) := by
  rw [Bool.eq_iff_iff]
  cases i
  cases j
  simp

section
variable {X : Cx} {a b c : Expr} {ta tb tc : TE} {pos : Pos}
theorem fin_bl {pins : List (Addr × Obj)} {σ : St} {H : Hp} {s : Shared} {Q : VK} {k k' : Bool} (I : Inv X pins σ H s) (q : Q (.bl k) H) (e : k = k') : EP X pins σ Q (.bool k') s := by
  subst e
  exact ⟨.bl k, H, I, rfl, q⟩
theorem op_eq : OpR X (compareOp .Eq) rEq := by
  intro pins s σ H x y v u Q I rx ry h
  obtain ⟨hs, q⟩ := h
  cases x with
  | non =>
    cases rx
    cases y with
    | non => cases ry; exact PySem.EqNone.eq_none_none (fin_bl I q (by simp))
    | bl j => cases ry; exact PySem.EqNone.eq_none_bool (fin_bl I q (by simp))
    | int j => obtain ⟨t', rfl⟩ := ry; exact PySem.EqNone.eq_none_int (fin_bl I q (by simp))
    | str j => obtain ⟨t', rfl⟩ := ry; exact PySem.EqNone.eq_none_str (fin_bl I q (by simp))
    | _ => exact absurd (show false = true from hs) Bool.false_ne_true
  | bl i =>
    cases rx
    cases y with
    | non => cases ry; exact PySem.EqNone.eq_bool_none (fin_bl I q (by simp))
    | bl j => cases ry; exact eq_bool (fin_bl I q dec_bl)
    | str j => obtain ⟨t', rfl⟩ := ry; exact PySem.EqMixed.eq_bool_str (fin_bl I q (by simp))
    | _ => exact absurd (show false = true from hs) Bool.false_ne_true
  | int i =>
    obtain ⟨t, rfl⟩ := rx
    cases y with
    | non => cases ry; exact PySem.EqNone.eq_int_none (fin_bl I q (by simp))
    | int j => obtain ⟨t', rfl⟩ := ry; exact eq_int (fin_bl I q dec_int)
    | str j => obtain ⟨t', rfl⟩ := ry; exact PySem.EqMixed.eq_int_str (fin_bl I q (by simp))
    | _ => exact absurd (show false = true from hs) Bool.false_ne_true
  | str i =>
    obtain ⟨t, rfl⟩ := rx
    cases y with
    | non => cases ry; exact PySem.EqNone.eq_str_none (fin_bl I q (by simp))
    | bl j => cases ry; exact PySem.EqMixed.eq_str_bool (fin_bl I q (by simp))
    | int j => obtain ⟨t', rfl⟩ := ry; exact PySem.EqMixed.eq_str_int (fin_bl I q (by simp))
    | str j => obtain ⟨t', rfl⟩ := ry; exact eq_str (fin_bl I q dec_str)
    | _ => exact absurd (show false = true from hs) Bool.false_ne_true
  | byt i =>
    obtain ⟨t, rfl⟩ := rx
    cases y with
    | byt j => obtain ⟨t', rfl⟩ := ry; exact PySem.W.eq_bytes (fin_bl I q dec_byt)
    | _ => exact absurd (show false = true from hs) Bool.false_ne_true
  | _ => cases y <;> exact absurd (show false = true from hs) Bool.false_ne_true
theorem op_ne : OpR X (compareOp .NotEq) rNe := by
  intro pins s σ H x y v u Q I rx ry h
  obtain ⟨hs, q⟩ := h
  cases x with
  | non =>
    cases rx
    cases y with
    | non => cases ry; exact PySem.EqNone.ne_none_none (fin_bl I q (by simp))
    | bl j => cases ry; exact PySem.EqNone.ne_none_bool (fin_bl I q (by simp))
    | int j => obtain ⟨t', rfl⟩ := ry; exact PySem.EqNone.ne_none_int (fin_bl I q (by simp))
    | str j => obtain ⟨t', rfl⟩ := ry; exact PySem.EqNone.ne_none_str (fin_bl I q (by simp))
    | _ => exact absurd (show false = true from hs) Bool.false_ne_true
  | bl i =>
    cases rx
    cases y with
    | non => cases ry; exact PySem.EqNone.ne_bool_none (fin_bl I q (by simp))
    | bl j => cases ry; exact ne_bool (fin_bl I q (congrArg not dec_bl))
    | str j => obtain ⟨t', rfl⟩ := ry; exact PySem.EqMixed.ne_bool_str (fin_bl I q (by simp))
    | _ => exact absurd (show false = true from hs) Bool.false_ne_true
  | int i =>
    obtain ⟨t, rfl⟩ := rx
    cases y with
    | non => cases ry; exact PySem.EqNone.ne_int_none (fin_bl I q (by simp))
    | int j => obtain ⟨t', rfl⟩ := ry; exact ne_int (fin_bl I q (congrArg not dec_int))
    | str j => obtain ⟨t', rfl⟩ := ry; exact PySem.EqMixed.ne_int_str (fin_bl I q (by simp))
    | _ => exact absurd (show false = true from hs) Bool.false_ne_true
  | str i =>
    obtain ⟨t, rfl⟩ := rx
    cases y with
    | non => cases ry; exact PySem.EqNone.ne_str_none (fin_bl I q (by simp))
    | bl j => cases ry; exact PySem.EqMixed.ne_str_bool (fin_bl I q (by simp))
    | int j => obtain ⟨t', rfl⟩ := ry; exact PySem.EqMixed.ne_str_int (fin_bl I q (by simp))
    | str j => obtain ⟨t', rfl⟩ := ry; exact ne_str (fin_bl I q (congrArg not dec_str))
    | _ => exact absurd (show false = true from hs) Bool.false_ne_true
  | byt i =>
    obtain ⟨t, rfl⟩ := rx
    cases y with
    | byt j => obtain ⟨t', rfl⟩ := ry; exact PySem.W.ne_bytes (fin_bl I q (congrArg not dec_byt))
    | _ => exact absurd (show false = true from hs) Bool.false_ne_true
  | _ => cases y <;> exact absurd (show false = true from hs) Bool.false_ne_true

theorem op_lt : OpR X (compareOp .Lt) (rI0 fun i j => .bl (decide (i < j))) := opB0 fun _ _ _ _ _ _ _ q => lt_int q
theorem op_le : OpR X (compareOp .LtE) (rI0 fun i j => .bl (decide (i ≤ j))) := opB0 fun _ _ _ _ _ _ _ q => le_int q
theorem op_gt : OpR X (compareOp .Gt) (rI0 fun i j => .bl (decide (j < i))) := opB0 fun _ _ _ _ _ _ _ q => gt_int q
theorem op_ge : OpR X (compareOp .GtE) (rI0 fun i j => .bl (decide (j ≤ i))) := opB0 fun _ _ _ _ _ _ _ q => ge_int q
theorem op_isN : OpR X (compareOp .Is) (fun x y H Q => y = .non ∧ Q (.bl (decide (x = .non))) H) := by
  intro pins s σ H x y v u Q I rx ry h
  obtain ⟨rfl, q⟩ := h
  cases ry
  refine is_none_gen (fin_bl I q ?_)
  cases x <;> first
    | (cases rx; rfl)
    | (obtain ⟨t, rfl⟩ := rx; rfl)
theorem op_notN : OpR X (compareOp .IsNot) (fun x y H Q => y = .non ∧ Q (.bl (!decide (x = .non))) H) := by
  intro pins s σ H x y v u Q I rx ry h
  obtain ⟨rfl, q⟩ := h
  cases ry
  refine isnot_none_gen (fin_bl I q ?_)
  cases x <;> first
    | (cases rx; rfl)
    | (obtain ⟨t, rfl⟩ := rx; rfl)

theorem OpR.or {f : Value → Value → Sem Value} {r r' : R2} (h : OpR X f r) (h' : OpR X f r') : OpR X f (fun x y H Q => r x y H Q ∨ r' x y H Q) := by
  intro pins s σ H x y v u Q I rx ry q
  rcases q with q | q
  · exact h pins s σ H x y v u Q I rx ry q
  · exact h' pins s σ H x y v u Q I rx ry q

theorem nomark (b : Expr) {op : CmpOp} (h : op ≠ .In := by decide) (h2 : op ≠ .NotIn := by decide) : behindInMarks op b = false := by
  have e1 : (op == CmpOp.In) = false := by cases op <;> first | rfl | exact absurd rfl h
  have e2 : (op == CmpOp.NotIn) = false := by cases op <;> first | rfl | exact absurd rfl h2
  cases b <;> simp [behindInMarks, e1, e2]

theorem pe_cmpR {op : CmpOp} {r : R2} (ho : OpR X (compareOp op) r) (ha : PE X a ta) (hb : PE X b tb) (hm : behindInMarks op b = false) : PE X (.Compare a [op] [b] pos) (tOp r ta tb) := by
  intro pins s σ H Q I h
  exact wpAny_Compare1 (binT ha hb I h fun v u s2 x y H2 I2 rx ry q => ho pins s2 σ H2 x y v u Q I2 rx ry q) hm

def tTest (t : TE) : TT := fun σ H Q => t σ H fun x H' => ∃ k, x = .bl k ∧ Q k H'
theorem pt_cmpR {op : CmpOp} {r : R2} (ho : OpR X (compareOp op) r) (ha : PE X a ta) (hb : PE X b tb) (hm : behindInMarks op b = false) : PT X (.Compare a [op] [b] pos) (tTest (tOp r ta tb)) := by
  intro pins s σ H Q I h
  refine wpAny_isTrue_Compare1 (thn (ha pins s σ H _ I h) fun v s1 ⟨x, H1, I1, r1, q1⟩ => thn (hb pins s1 σ H1 _ I1 q1) fun u s2 ⟨y, H2, I2, r2, q2⟩ =>
    thn (ho pins s2 σ H2 x y v u _ I2 r1 r2 q2) fun c s3 ⟨z, H3, I3, r3, k, e, q3⟩ => ?_) hm
  subst e
  cases r3
  exact wpAny_truthy_bool ⟨H3, I3, q3⟩

def tChain (r r' : R2) (ta tb tc : TE) : TE := fun σ H Q => ta σ H fun x H1 => tb σ H1 fun y H2 => r x y H2 fun z H3 => ∃ k, z = .bl k ∧
  (if k = true then tc σ H3 fun w' H4 => r' y w' H4 Q else Q (.bl false) H3)
theorem pt_chain {op op' : CmpOp} {r r' : R2} (ho : OpR X (compareOp op) r) (ho' : OpR X (compareOp op') r') (ha : PE X a ta) (hb : PE X b tb) (hc : PE X c tc)
    (hm : lastMarks [op, op'] [b, c] = false := by with_unfolding_all rfl) : PT X (.Compare a [op, op'] [b, c] pos) (tTest (tChain r r' ta tb tc)) := by
  intro pins s σ H Q I h
  refine isTrue_chain (thn (ha pins s σ H _ I h) fun v s1 ⟨x, H1, I1, r1, q1⟩ => test_link (thn (hb pins s1 σ H1 _ I1 q1) fun u s2 ⟨y, H2, I2, r2, q2⟩ =>
    thn (ho pins s2 σ H2 x y v u _ I2 r1 r2 q2) fun d s3 ⟨z, H3, I3, r3, k, e, q3⟩ => ?_)) hm
  subst e
  cases r3
  refine wpAny_truthy_bool ?_
  cases k with
  | false =>
    obtain ⟨k', e', q'⟩ := q3
    cases e'
    exact ite_ff ⟨H3, I3, q'⟩
  | true =>
    refine ite_tt (test_last (thn (hc pins s3 σ H3 _ I3 q3) fun w' s4 ⟨z', H4, I4, r4, q4⟩ => thn (ho' pins s4 σ H4 y z' u w' _ I4 r2 r4 q4) fun d' s5 ⟨z2, H5, I5, r5, k2, e2, q5⟩ => ?_))
    subst e2
    cases r5
    exact wpAny_truthy_bool ⟨H5, I5, q5⟩



def TruV (K : PySem.W.Frag) (x : V) (H : Hp) (k : Bool) : Prop :=
  match x with
  | .non => k = false
  | .bl b => k = b
  | .int i => k = (i != 0)
  | .str y => y.length ≤ sizeLine ∧ k = ((y.length : Int) != 0)
  | .byt y => y.size ≤ sizeLine ∧ k = ((y.size : Int) != 0)
  | .ref p => (∃ xs, SqL K H p xs ∧ k = !xs.isEmpty) ∨ (∃ xs, SqT K H p xs ∧ k = !xs.isEmpty) ∨ ∃ kvs, H p = some (.dK kvs) ∧ k = !kvs.isEmpty
  | _ => False
theorem isEmpty_kv {κ : Type} {kvs : List (κ × V)} {vs : List (κ × Value)} (r : KV kvs vs) : (!vs.isEmpty) = !kvs.isEmpty := by
  cases r <;> rfl
theorem isEmpty_of {xs : List V} {its : List Value} (r : Vals xs its) : (!its.toArray.isEmpty) = !xs.isEmpty := by
  cases r <;> simp
theorem line63 : (sizeLine : Nat) < 2 ^ 63 := by rw [sizeLine_eq]; decide
theorem tru_ok : TruR X (fun x H Q => ∃ k, TruV X.K x H k ∧ Q k H) := by
  intro pins s σ H x v Q I rx h
  obtain ⟨k, e, q⟩ := h
  have hl := line63
  have hs : sizeLine = 16777216 := sizeLine_eq
  cases x with
  | non =>
    cases rx
    have e' : k = false := e
    subst e'
    exact truthy_none ⟨H, I, q⟩
  | bl b =>
    cases rx
    have e' : k = b := e
    subst e'
    exact wpAny_truthy_bool ⟨H, I, q⟩
  | int i =>
    obtain ⟨t, rfl⟩ := rx
    have e' : k = (i != 0) := e
    subst e'
    exact PySem.P.truthy_int ⟨H, I, q⟩
  | str y =>
    obtain ⟨t, rfl⟩ := rx
    obtain ⟨hy, e'⟩ : y.length ≤ sizeLine ∧ k = ((y.length : Int) != 0) := e
    subst e'
    exact PySem.P.truthy_str (by omega) ⟨H, I.tok _, q⟩
  | byt y =>
    obtain ⟨t, rfl⟩ := rx
    obtain ⟨hy, e'⟩ : y.size ≤ sizeLine ∧ k = ((y.size : Int) != 0) := e
    subst e'
    exact PySem.W.truthy_bytes (by omega) ⟨H, I.tok _, q⟩
  | ref p =>
    cases rx
    have e' : (∃ xs, SqL X.K H p xs ∧ k = !xs.isEmpty) ∨ (∃ xs, SqT X.K H p xs ∧ k = !xs.isEmpty) ∨ ∃ kvs, H p = some (.dK kvs) ∧ k = !kvs.isEmpty := e
    rcases e' with ⟨xs, hx, e'⟩ | ⟨xs, hx, e'⟩ | ⟨kvs, hx, e'⟩
    · subst e'
      obtain ⟨its, r, pl, hz⟩ := I.list hx
      have hlen := r.length
      exact wpAny_truthy_list pl.isList (by simp only [List.size_toArray]; omega) ⟨H, I.tok _, by rw [isEmpty_of r]; exact q⟩
    · subst e'
      obtain ⟨its, r, pl, hz⟩ := I.tuple hx
      have hlen := r.length
      exact truthy_tuple pl (by simp only [List.size_toArray]; omega) ⟨H, I.tok _, by rw [isEmpty_of r]; exact q⟩
    · subst e'
      obtain ⟨hz, hS, vs, r, m⟩ : kvs.length ≤ sizeLine ∧ (p == sysModules) = false ∧ ∃ vs, KV kvs vs ∧ s.heap.DictOf (mixKind X.prog X.w) p vs := I.hok p _ hx
      have hlen : kvs.length = vs.length := Paired.length r
      exact wpAny_truthy_dict hS m (by omega) ⟨H, I.tok _, by rw [isEmpty_kv r]; exact q⟩
  | _ => exact (show False from e).elim

theorem pt_truth (ha : PE X a ta) (he : ∀ whole, isTrue a X.env whole = (do let v ← whole; standAt a.pos; holding [v] (truthy v))) :
    PT X a (fun σ H Q => ta σ H fun x H' => ∃ k, TruV X.K x H' k ∧ Q k H') := by
  intro pins s σ H Q I h
  exact isTrue_plain (thn (ha pins s σ H _ I h) fun v s1 ⟨x, H1, I1, r1, q1⟩ => tru_ok pins s1 σ H1 x v Q I1 r1 q1) (he _)


theorem op_add_str : OpR X (binaryOp .Add) (fun x y H Q => ∃ i j, x = .str i ∧ y = .str j ∧ i.length + j.length ≤ sizeLine ∧ Q (.str (i ++ j)) H) := by
  intro pins s σ H x y v u Q I rx ry h
  obtain ⟨i, j, rfl, rfl, hz, q⟩ := h
  obtain ⟨t, rfl⟩ := rx
  obtain ⟨t', rfl⟩ := ry
  exact add_str (fun t' tk => ⟨.str (i ++ j), H, I.tok _, ⟨_, rfl⟩, q⟩) hz
theorem vals1 {x : V} {us : List Value} (r : Vals [x] us) : ∃ u, us = [u] ∧ RelV x u := by
  cases r with
  | cons r1 r2 => cases r2; exact ⟨_, rfl, r1⟩
theorem vals2 {x y : V} {us : List Value} (r : Vals [x, y] us) : ∃ u w', us = [u, w'] ∧ RelV x u ∧ RelV y w' := by
  cases r with
  | cons r1 r2 =>
    cases r2 with
    | cons r3 r4 => cases r4; exact ⟨_, _, rfl, r1, r3⟩
theorem call_max2 (hc : X.calm = true) : CallR X (.builtin "max") (fun xs H Q => ∃ i j, xs = [.int i, .int j] ∧ Q (.int (if j > i then j else i)) H) := by
  intro pins s σ H xs us Q I r h
  obtain ⟨i, j, rfl, q⟩ := h
  obtain ⟨u, w', rfl, ⟨t, rfl⟩, ⟨t', rfl⟩⟩ := vals2 r
  refine max_two_ints (I.ok.hd hc) fun h' tk k => ⟨_, H, I.kept k, ?_, q⟩
  by_cases hj : j > i
  · rw [if_pos hj, if_pos hj]; exact ⟨_, rfl⟩
  · rw [if_neg hj, if_neg hj]; exact ⟨_, rfl⟩
theorem call_int1 : CallR X (.type "int") (fun xs H Q => (∃ i, xs = [.int i] ∧ Q (.int i) H) ∨ ∃ k, xs = [.bl k] ∧ Q (.int (if k then 1 else 0)) H) := by
  intro pins s σ H xs us Q I r h
  rcases h with ⟨i, rfl, q⟩ | ⟨k, rfl, q⟩
  · obtain ⟨u, rfl, t, rfl⟩ := vals1 r
    exact call_int_int ⟨.int i, H, I, ⟨_, rfl⟩, q⟩
  · obtain ⟨u, rfl, r1⟩ := vals1 r
    cases r1
    exact call_int_bool ⟨.int (if k then 1 else 0), H, I.tok _, ⟨_, rfl⟩, q⟩
def LenV (K : PySem.W.Frag) (x : V) (H : Hp) (n : Nat) : Prop :=
  match x with
  | .str y => y.length ≤ sizeLine ∧ n = y.length
  | .byt y => y.size ≤ sizeLine ∧ n = y.size
  | .ref p => (∃ xs, SqL K H p xs ∧ n = xs.length) ∨ ∃ xs, SqT K H p xs ∧ n = xs.length
  | _ => False
theorem call_len : CallR X (.builtin "len") (fun xs H Q => ∃ x n, xs = [x] ∧ LenV X.K x H n ∧ Q (.int n) H) := by
  intro pins s σ H xs us Q I r h
  obtain ⟨x, n, rfl, e, q⟩ := h
  obtain ⟨u, rfl, rx⟩ := vals1 r
  have hl := line63
  have hs : sizeLine = 16777216 := sizeLine_eq
  cases x with
  | str y =>
    obtain ⟨t, rfl⟩ := rx
    obtain ⟨hy, e'⟩ : y.length ≤ sizeLine ∧ n = y.length := e
    subst e'
    exact len_str (by omega) ⟨.int _, H, I.tok _, ⟨_, rfl⟩, q⟩
  | byt y =>
    obtain ⟨t, rfl⟩ := rx
    obtain ⟨hy, e'⟩ : y.size ≤ sizeLine ∧ n = y.size := e
    subst e'
    exact PySem.W.len_bytes (by omega) ⟨.int _, H, I.tok _, ⟨_, rfl⟩, q⟩
  | ref p =>
    cases rx
    have e' : (∃ xs, SqL X.K H p xs ∧ n = xs.length) ∨ ∃ xs, SqT X.K H p xs ∧ n = xs.length := e
    rcases e' with ⟨xs, hx, e'⟩ | ⟨xs, hx, e'⟩
    · subst e'
      obtain ⟨its, r', pl, hz⟩ := I.list hx
      have hlen := r'.length
      exact Calls.call_len_list pl.isList (by simp only [List.size_toArray]; omega) ⟨.int xs.length, H, I.tok _, ⟨_, by simp only [List.size_toArray]; rw [hlen]⟩, q⟩
    · subst e'
      obtain ⟨its, r', pl, hz⟩ := I.tuple hx
      have hlen := r'.length
      exact len_tuple pl (by simp only [List.size_toArray]; omega) ⟨.int xs.length, H, I.tok _, ⟨_, by simp only [List.size_toArray]; rw [hlen]⟩, q⟩
  | _ => exact (show False from e).elim

end
end L2

namespace L2
open PySem PySem.Spec PyProof.Rows


structure ObjM (h : Heap) (x dx C : Addr) (mA : Str → Option Value) : Prop where
  obj : h.get? x = some (PySem.W.instObj C dx)
  ns : h.Ns1 dx mA
  ne : dx ≠ x

theorem lookIn_ns {h : Heap} {dx : Addr} {mA : Str → Option Value} (n : h.Ns1 dx mA) : ∃ od, h.get? dx = some od ∧ ∀ name, PySem.W.lookIn name od = some (mA name) := by
  obtain ⟨o, es, ep, ho, hd, hk, _, hm⟩ := n
  refine ⟨o, ho, fun name => ?_⟩
  have e := hm name
  unfold nsFind findBy at e
  rw [← Array.find?_toList] at e
  unfold PySem.W.lookIn
  rw [hd]
  dsimp only
  split
  · rename_i y q
    rw [q] at e
    exact congrArg some e
  · rename_i q
    rw [q] at e
    have a : es.toList.any (·.refKey) = false := by
      rw [List.any_eq_false]
      intro y hy
      obtain ⟨z, t, hkey⟩ := hk y (Array.mem_toList_iff.mp hy)
      simp [DictEntry.refKey, hkey]
    have a' : ¬ es.toList.any (·.refKey) = true := by rw [a]; exact Bool.false_ne_true
    rw [if_neg a']
    exact congrArg some e

theorem ObjM.look {h : Heap} {x dx C : Addr} {mA : Str → Option Value} (I : ObjM h x dx C mA) : ∃ od, PySem.W.InstAt h x (PySem.W.instObj C dx) C (some od) ∧ ∀ name, PySem.W.lookIn name od = some (mA name) :=
  let ⟨od, ho, hl⟩ := lookIn_ns I.ns
  ⟨od, ⟨I.obj, rfl, rfl, ho⟩, hl⟩

section
variable {prog : Program} {w : World} {A : Around} {E : Value → Shared → Prop} {s : Shared} {K : PySem.W.Frag} {x dx C f : Addr} {mA : Str → Option Value} {name : Str} {v : Value}

theorem get_map {expr : Bool} {Q : Value → Shared → Prop} (X : K.In s.heap) (I : ObjM s.heap x dx C mA) (hg : PySem.W.plainGet K C name = true) (hh : PySem.W.hasDictIn K C = true)
    (ha : PySem.W.findIn K (.ref C) name = some none) (hv : mA name = some v) (hv' : PySem.W.handedIn v = true) (h : Q v { s with toks := s.toks + 1 }) :
    wpAny (model prog w) A (getAttr (.ref x) name expr) Q E s := by
  obtain ⟨od, J, hl⟩ := I.look
  exact PySem.W.get_value X J (PySem.W.plainGet_of hg).1 (PySem.W.findObj_own hh ha rfl (by rw [hl, hv])) hv' h

theorem get_meth {pl : Sem Bool} {Q : Value × List Value → Shared → Prop} (X : K.In s.heap) (I : ObjM s.heap x dx C mA) (hg : PySem.W.plainGet K C name = true)
    (hf : PySem.W.findIn K (.ref C) name = some (some (.ref f))) (ht : PySem.W.isFn K (.ref f) = true) (hv : mA name = none) (h : Q (.ref f, [.ref x]) s) :
    wpAny (model prog w) A (getMethod (.ref x) name pl) Q E s := by
  obtain ⟨od, J, hl⟩ := I.look
  exact PySem.W.method_fn X J (PySem.W.plainGet_of hg).1 (PySem.W.plainGet_of hg).2 hf (beq_iff_eq.mp ht) (by show (PySem.W.lookIn name od).map (·.isSome) = some false; rw [hl, hv]; rfl) h

theorem set_map {ns : List Str} {Q : Unit → Shared → Prop} (X : K.In s.heap) (I : ObjM s.heap x dx C mA)
    (hs : PySem.W.findIn K (.ref C) "__setattr__" = some (some (.builtin "object.__setattr__"))) (hp : PySem.W.plainOver K C = true) (ht : PySem.W.takerIn K C name = some none) (hh : PySem.W.hasDictIn K C = true)
    (hw : PySem.Within mA ns) (hsz : ns.length ≤ sizeLine)
    (h : ∀ h', ObjM h' x dx C (fun y => if y = name then some v else mA y) → Heap.SameBut dx s.heap h' → Q () { s with heap := h', toks := s.toks + 2 }) :
    wpAny (model prog w) A (setAttr (.ref x) name v) Q E s := by
  obtain ⟨od, J, hl⟩ := I.look
  refine PySem.W.set_plain X J hs (PySem.W.osa_open (s := { s with toks := s.toks + 1 }) (r := none) X J hp ht fun b => ?_)
  obtain ⟨cd, hc, hd'⟩ := PySem.W.any_some hh
  have hx : s.heap.get? x = some ⟨.ref C, some dx, .plain, #[]⟩ := I.obj
  refine wpAny_bind (wpAny_pure (wpAny_bind (wpAny_bind (wpAny_loadPart hx (wpAny_bind (PySem.W.Looks.here (s := { s with toks := s.toks + 1 }) (PySem.W.looks_clsIn X hc) ?_))))))
  rw [hd']
  refine wpAny_pure (a := some dx) (wpAny_bind (wpAny_pure (wpAny_bind ?_)))
  refine wpAny_nsSet1 (s := { s with toks := s.toks + 1 }) I.ns fun h' hn2 hs2 => ?_
  obtain ⟨oD, esD, epD, hoD, hdD, hcD⟩ := hn2.count (PySem.Within.cons name v hw)
  refine wpAny_bind (wpAny_lookBehind hoD (by rw [hdD]; exact pastItsLine_dict (Nat.le_trans hcD (by rw [List.length_cons]; omega))) ?_)
  exact wpAny_pure (h _ ⟨(hs2.2 _ (Ne.symm I.ne)).trans I.obj, hn2, I.ne⟩ hs2)


theorem make_map {R : Result → Shared → Prop} {vs : List Value} {kw : List (Str × Value)} (X : K.In s.heap) (hm : PySem.W.makesIn K C = true)
    (hi : PySem.W.findIn K (.ref C) "__init__" = some (some (.ref f))) (hf : PySem.W.typeIn K (.ref f) = some (.type "function"))
    (h : codeAny (model prog w) (A.under (.builtin "type.__call__" ⟨.ref C :: vs, kw⟩)) (.call (.ref f) ⟨.ref (s.heap.objs.size + 1) :: vs, kw⟩) (PySem.W.InitBack (s.heap.objs.size + 1) R)
      { s with heap := (s.heap.push PySem.W.emptyDict).push (PySem.W.instObj C s.heap.objs.size) }) :
    codeAny (model prog w) A (.call (.ref C) ⟨vs, kw⟩) R s := by
  obtain ⟨hh, g, d, t, os⟩ := s
  exact PySem.W.make_core (PySem.W.makes_of X hm) (PySem.W.looks_findIn X hi) (fun self => PySem.W.bind_fn X self hf) (.inl rfl) h

end


def putF (f : Str) (v : V) : List (Str × V) → List (Str × V)
  | [] => [(f, v)]
  | (g, x) :: r => if g = f then (g, v) :: r else (g, x) :: putF f v r
theorem lookup_putF (f g : Str) (v : V) : ∀ fs : List (Str × V), (putF f v fs).lookup g = if g = f then some v else fs.lookup g
  | [] => by
    show List.lookup g [(f, v)] = _
    by_cases h : g = f
    · have hb : (g == f) = true := beq_iff_eq.mpr h
      simp only [List.lookup, hb, if_pos h]
    · have hb : (g == f) = false := beq_eq_false_iff_ne.mpr h
      simp only [List.lookup, hb, if_neg h]
  | (k, x) :: r => by
    have ih := lookup_putF f g v r
    rw [show putF f v ((k, x) :: r) = (if k = f then (k, v) :: r else (k, x) :: putF f v r) from rfl]
    by_cases hk : k = f
    · rw [if_pos hk]
      by_cases h : g = k
      · have hb : (g == k) = true := beq_iff_eq.mpr h
        simp only [List.lookup, hb, if_pos (h.trans hk)]
      · have hb : (g == k) = false := beq_eq_false_iff_ne.mpr h
        simp only [List.lookup, hb, if_neg (fun e : g = f => h (e.trans hk.symm))]
    · rw [if_neg hk]
      by_cases h : g = k
      · have hb : (g == k) = true := beq_iff_eq.mpr h
        simp only [List.lookup, hb, if_neg (fun e : g = f => hk (h.symm.trans e))]
      · have hb : (g == k) = false := beq_eq_false_iff_ne.mpr h
        simp only [List.lookup, hb]
        exact ih
theorem keys_putF (f : Str) (v : V) : ∀ fs : List (Str × V), f ∈ (putF f v fs).map (·.1) ∧ ∀ g, g ∈ fs.map (·.1) → g ∈ (putF f v fs).map (·.1)
  | [] => ⟨by simp [putF], fun g h => by simp at h⟩
  | (k, x) :: r => by
    obtain ⟨i1, i2⟩ := keys_putF f v r
    rw [show putF f v ((k, x) :: r) = (if k = f then (k, v) :: r else (k, x) :: putF f v r) from rfl]
    by_cases hk : k = f
    · rw [if_pos hk]
      subst hk
      exact ⟨by simp, fun g h => by simpa using h⟩
    · rw [if_neg hk]
      refine ⟨?_, fun g h => ?_⟩
      · rw [List.map_cons]
        exact List.mem_cons_of_mem _ i1
      · rw [List.map_cons] at h ⊢
        rcases List.mem_cons.mp h with e | e
        · exact List.mem_cons.mpr (.inl e)
        · exact List.mem_cons_of_mem _ (i2 g e)
theorem length_putF (f : Str) (v : V) : ∀ fs : List (Str × V), (putF f v fs).length ≤ fs.length + 1
  | [] => by simp [putF]
  | (k, x) :: r => by
    have ih := length_putF f v r
    rw [show putF f v ((k, x) :: r) = (if k = f then (k, v) :: r else (k, x) :: putF f v r) from rfl]
    by_cases hk : k = f
    · rw [if_pos hk, List.length_cons, List.length_cons]; omega
    · rw [if_neg hk, List.length_cons, List.length_cons]; omega

theorem RelO.some_of {v : V} {o : Option Value} (r : RelO (some v) o) : ∃ u, o = some u ∧ RelV v u := by
  cases o with
  | none => exact (show False from r).elim
  | some u => exact ⟨u, rfl, r⟩
theorem RelO.none_of {o : Option Value} (r : RelO none o) : o = none := by
  cases o with
  | none => rfl
  | some u => exact (show False from r).elim
theorem handed_of {v : V} {u : Value} (r : RelV v u) : PySem.W.handedIn u = true := by
  cases v with
  | non => cases (show u = Value.none from r); rfl
  | bl b => cases (show u = Value.bool b from r); rfl
  | int i => obtain ⟨t, e⟩ := (show ∃ t, u = Value.int i t from r); cases e; rfl
  | str x => obtain ⟨t, e⟩ := (show ∃ t, u = Value.str x t from r); cases e; rfl
  | byt b => obtain ⟨t, e⟩ := (show ∃ t, u = Value.bytes b t from r); cases e; rfl
  | flt b => obtain ⟨t, e⟩ := (show ∃ t, u = Value.float b t from r); cases e; rfl
  | ref a => cases (show u = Value.ref a from r); rfl
  | ty n => cases (show u = Value.type n from r); rfl

section
variable {P : Program} {w : World} {H H' : Hp} {h h' : Heap} {a C dx : Addr} {fs fs' : List (Str × V)}
theorem ins_get (hok : HOk P w H h) (e : H a = some (.ins C dx fs)) : ∃ mA, ObjM h a dx C mA ∧ (∀ f, RelO (fs.lookup f) (mA f)) ∧ PySem.Within mA (fs.map (·.1)) ∧ fs.length ≤ 1000 ∧ H dx = some (.own a) := by
  obtain ⟨d, z, ne, ob, mA, n, r, q⟩ := (show ObjOk P w H h a (.ins C dx fs) from hok a _ e)
  exact ⟨mA, ⟨ob, n, ne⟩, r, q, z, d⟩
end


structure Cls (K : PySem.W.Frag) (C : Addr) : Prop where
  pg : PySem.W.plainGet K C Str.empty = true
  hd : PySem.W.hasDictIn K C = true
  po : PySem.W.plainOver K C = true
  sa : PySem.W.findIn K (.ref C) "__setattr__" = some (some (.builtin "object.__setattr__"))
theorem Cls.get {K : PySem.W.Frag} {C : Addr} (c : Cls K C) (f : Str) : PySem.W.plainGet K C f = true := c.pg

def NoAttr (K : PySem.W.Frag) (C : Addr) (f : Str) : Prop := PySem.W.findIn K (.ref C) f = some none
theorem NoAttr.taker {K : PySem.W.Frag} {C : Addr} {f : Str} (n : NoAttr K C f) : PySem.W.takerIn K C f = some none := by
  unfold PySem.W.takerIn
  rw [show PySem.W.findIn K (.ref C) f = some none from n]
  rfl

structure Meth (K : PySem.W.Frag) (C : Addr) (m : Str) (f : Addr) : Prop where
  at_ : PySem.W.findIn K (.ref C) m = some (some (.ref f))
  fn : PySem.W.isFn K (.ref f) = true
  kp : PySem.W.keepIn K (.ref f) = true

section
variable {X : Cx} {pins : List (Addr × Obj)} {σ : St} {H : Hp} {s : Shared} {a C dx : Addr} {fs : List (Str × V)} {f : Str} {v : V} {A : Around} {E : Value → Shared → Prop}

theorem getattr_ok {b : Bool} {Q : Value → Shared → Prop} (I : Inv X pins σ H s) (e : H a = some (.ins C dx fs)) (c : Cls X.K C) (n : NoAttr X.K C f) (l : fs.lookup f = some v)
    (h : ∀ u s', Inv X pins σ H s' → RelV v u → Q u s') : wpAny (model X.prog X.w) A (getAttr (.ref a) f b) Q E s := by
  obtain ⟨mA, O, r, _, _, _⟩ := ins_get I.hok e
  obtain ⟨u, hu, ru⟩ := RelO.some_of (v := v) (o := mA f) (by rw [← l]; exact r f)
  exact get_map I.kIn O (c.get f) c.hd n hu (handed_of ru) (h u _ (I.tok _) ru)

theorem getmeth_ok {m : Str} {g : Addr} {pl : Sem Bool} {Q : Value × List Value → Shared → Prop} (I : Inv X pins σ H s) (e : H a = some (.ins C dx fs)) (c : Cls X.K C) (k : Meth X.K C m g) (l : fs.lookup m = none)
    (h : Q (.ref g, [.ref a]) s) : wpAny (model X.prog X.w) A (getMethod (.ref a) m pl) Q E s := by
  obtain ⟨mA, O, r, _, _, _⟩ := ins_get I.hok e
  have hn : mA m = none := RelO.none_of (by rw [← l]; exact r m)
  exact get_meth I.kIn O (c.get m) k.at_ k.fn hn h

theorem setattr_ok {y : V} {u : Value} {Q : Unit → Shared → Prop} (I : Inv X pins σ H s) (e : H a = some (.ins C dx fs)) (c : Cls X.K C) (n : NoAttr X.K C f) (hl : fs.length < 1000) (ry : RelV y u)
    (h : ∀ s', Inv X pins σ (upd H a (.ins C dx (putF f y fs))) s' → Q () s') : wpAny (model X.prog X.w) A (setAttr (.ref a) f u) Q E s := by
  obtain ⟨mA, O, r, wi, _, ho⟩ := ins_get I.hok e
  have hz : (fs.map (·.1)).length ≤ sizeLine := by rw [List.length_map, sizeLine_eq]; omega
  refine set_map I.kIn O c.sa c.po n.taker c.hd wi hz fun h' O' sb => h _ ?_
  have hd : ∃ o, h'.get? dx = some o := let ⟨o, _, _, e', _⟩ := O'.ns; ⟨o, e'⟩
  refine I.write (x := a) (e := dx) (by rw [e]; exact True.intro) (.inr ho) (fun b q hb z => (sb.2 b hb).trans z) hd ?_
  refine ⟨by rw [upd_ne O.ne]; exact ho, ?_, O.ne, O'.obj, _, O'.ns, fun g => ?_, fun g hg => ?_⟩
  · have := length_putF f y fs; omega
  · show RelO ((putF f y fs).lookup g) (if g = f then some u else mA g)
    rw [lookup_putF]
    by_cases q : g = f
    · rw [if_pos q, if_pos q]; exact ry
    · rw [if_neg q, if_neg q]; exact r g
  · by_cases q : g = f
    · rw [q]; exact (keys_putF f y fs).1
    · refine (keys_putF f y fs).2 g (wi g fun z => hg ?_)
      show (if g = f then some u else mA g) = none
      rw [if_neg q]; exact z


theorem Inv.made (I : Inv X pins σ H s) : Inv X pins σ (upd (upd H s.heap.objs.size (.own (s.heap.objs.size + 1))) (s.heap.objs.size + 1) (.ins C s.heap.objs.size []))
    { s with heap := (s.heap.push PySem.W.emptyDict).push (PySem.W.instObj C s.heap.objs.size) } := by
  have e1 : (s.heap.push PySem.W.emptyDict).get? s.heap.objs.size = some PySem.W.emptyDict := Heap.get?_push_size s.heap rfl
  have e2 : ((s.heap.push PySem.W.emptyDict).push (PySem.W.instObj C s.heap.objs.size)).get? (s.heap.objs.size + 1) = some (PySem.W.instObj C s.heap.objs.size) := by
    have := Heap.get?_push_size (s.heap.push PySem.W.emptyDict) (o := PySem.W.instObj C s.heap.objs.size) rfl
    rwa [Heap.size_push] at this
  have e3 : (s.heap.push PySem.W.emptyDict).Ns s.heap.objs.size (fun _ => none) := ⟨PySem.W.emptyDict, #[], _, e1, rfl, (fun e he => absurd he (by simp)), fun _ => rfl⟩
  have I1 := I.laid (a := s.heap.objs.size) (o := .own (s.heap.objs.size + 1)) (h' := s.heap.push PySem.W.emptyDict) (t' := s.toks) (fun b u q => Heap.get?_push_of_some _ q) (Nat.le_refl _) ⟨_, e1⟩
  refine I1.laid (a := s.heap.objs.size + 1) (o := .ins C s.heap.objs.size []) (t' := s.toks) (fun b u q => Heap.get?_push_of_some _ q) (Nat.le_of_eq (Heap.size_push _ _)) ?_
  have ne : s.heap.objs.size ≠ s.heap.objs.size + 1 := Nat.ne_of_lt (Nat.lt_succ_self _)
  refine ⟨by rw [upd_ne ne, upd_same], Nat.zero_le _, ne, e2, fun _ => none, (Heap.Ns1.of_empty e3).at fun o q => Heap.get?_push_of_some _ q, fun _ => True.intro, fun y hy => absurd rfl hy⟩


theorem attr_of {prog : Program} {w : World} {env : Env} {e : Expr} {f : Str} {pos : Pos} {s : Shared} {Q : Value → Shared → Prop} (hb : attributeBase e f env (eval e env) = eval e env)
    (h : wpAny (model prog w) A (eval e env) (fun o s₁ => wpAny (model prog w) A (getAttr o f true) Q E s₁) E s) : wpAny (model prog w) A (eval (.Attribute e f pos) env) Q E s :=
  Attribute_any_ h (by rw [arm_eval_Attribute, hb])
end



def tFld (K : PySem.W.Frag) (ta : TE) (f : Str) : TE := fun σ H Q => ta σ H fun x H1 => ∃ a C dx fs v, x = .ref a ∧ H1 a = some (.ins C dx fs) ∧ Cls K C ∧ NoAttr K C f ∧ fs.lookup f = some v ∧ Q v H1

def sFld (K : PySem.W.Frag) (ta tv : TE) (f : Str) : TS := fun D σ H => tv σ H fun y H1 => ta σ H1 fun x H2 => ∃ a C dx fs, x = .ref a ∧ H2 a = some (.ins C dx fs) ∧ Cls K C ∧ NoAttr K C f ∧ fs.length < 1000 ∧
  D.nx σ (upd H2 a (.ins C dx (putF f y fs)))

section
variable {X : Cx} {o e value : Expr} {f : Str} {pos pos' tpos : Pos} {ta tv : TE}
theorem pe_fld (he : PE X e ta) (hb : attributeBase e f X.env (eval e X.env) = eval e X.env) : PE X (.Attribute e f pos) (tFld X.K ta f) := by
  intro pins s σ H Q I h
  refine attr_of hb (thn (he pins s σ H _ I h) fun u s1 ⟨x, H1, I1, rx, a, C, dx, fs, v, ex, ea, c, n, l, q⟩ => ?_)
  subst ex
  obtain rfl : u = Value.ref a := rx
  exact getattr_ok I1 ea c n l fun u' s2 I2 ru => ⟨v, H1, I2, ru, q⟩
theorem ps_fld (ha : PE X o ta) (hv : PE X value tv) (hs : swapsWith value (some (.Attribute o f pos')) pos.line X.env = pure false) : PS X (.Assign [.Attribute o f pos'] value pos) (sFld X.K ta tv f) := by
  intro pins s σ H D I h
  refine plainObj_wpAny_Assign_Attribute (thn (hv pins s σ H _ I h) fun u s1 ⟨y, H1, I1, ry, q⟩ => thn (ha pins s1 σ H1 _ I1 q) fun ov s2 ⟨x, H2, I2, rx, a, C, dx, fs, ex, ea, c, n, l, q2⟩ => ?_) hs
  subst ex
  obtain rfl : ov = Value.ref a := rx
  exact setattr_ok I2 ea c n l ry fun s3 I3 => ⟨σ, _, I3, q2⟩
end


section
variable {X : Cx} {pins : List (Addr × Obj)} {σ : St} {H : Hp} {s : Shared} {A : Around} {E : Value → Shared → Prop} {Q : Value → Shared → Prop} {c : Value} {b : Bool}

inductive TyOf (K : PySem.W.Frag) (H : Hp) : V → Value → Prop where
  | non : TyOf K H .non (.type "NoneType")
  | bl (x : Bool) : TyOf K H (.bl x) (.type "bool")
  | int (i : Int) : TyOf K H (.int i) (.type "int")
  | str (x : Str) : TyOf K H (.str x) (.type "str")
  | flt (x : UInt64) : TyOf K H (.flt x) (.type "float")
  | lst {a : Addr} {xs : List V} (e : H a = some (.lst xs)) : TyOf K H (.ref a) (.type "list")
  | frz {a : Addr} {o : Obj} {xs : List V} (e : H a = some (.frz o (.lst xs))) : TyOf K H (.ref a) (.type "list")
  | tup {a : Addr} {xs : List V} (e : H a = some (.tup xs)) : TyOf K H (.ref a) (.type "tuple")
  | dK {a : Addr} {kvs : List (Key × V)} (e : H a = some (.dK kvs)) : TyOf K H (.ref a) (.type "dict")
  | dT {a : Addr} {kvs : List (List Key × V)} (e : H a = some (.dT kvs)) : TyOf K H (.ref a) (.type "dict")
  | ins {a C dx : Addr} {fs : List (Str × V)} (e : H a = some (.ins C dx fs)) (cl : Cls K C) (ha : PySem.W.findIn K (.ref C) "__class__" = some (some (.builtin "object.__class__")))
      (hn : PySem.W.specialIn K (.builtin "object.__class__") "__get__" = some (some (.builtin "getset_descriptor.__get__"))) (htk : PySem.W.takesIn K (.builtin "object.__class__") = some true)
      (hm : PySem.W.mroIn K C (.type "object") = some true) : TyOf K H (.ref a) (.ref C)

theorem isinst_ok {x : V} {u t : Value} (I : Inv X pins σ H s) (rx : RelV x u) (ty : TyOf X.K H x t) (e : PySem.W.kitOne X.K t c = some b) (h : ∀ tk, Q (.bool b) { s with toks := tk }) :
    wpAny (model X.prog X.w) A (call (.builtin "isinstance") [u, c]) Q E s := by
  cases ty with
  | non => cases (show u = Value.none from rx); exact PySem.W.kia_one PySem.W.kitx_none I.kIn True.intro e (fun z => nomatch z) h
  | bl y => cases (show u = Value.bool y from rx); exact PySem.W.kia_one PySem.W.kitx_bool I.kIn True.intro e (fun z => nomatch z) h
  | int i => obtain ⟨t, q⟩ := (show ∃ t, u = Value.int i t from rx); cases q; exact PySem.W.kia_one PySem.W.kitx_int I.kIn True.intro e (fun z => nomatch z) h
  | str y => obtain ⟨t, q⟩ := (show ∃ t, u = Value.str y t from rx); cases q; exact PySem.W.kia_one PySem.W.kitx_str I.kIn True.intro e (fun z => nomatch z) h
  | flt y => obtain ⟨t, q⟩ := (show ∃ t, u = Value.float y t from rx); cases q; exact PySem.W.kia_one PySem.W.kitx_float I.kIn True.intro e (fun z => nomatch z) h
  | @lst a xs ea =>
    cases (show u = Value.ref a from rx)
    obtain ⟨_, _, n, _, h1⟩ := (show ObjOk X.prog X.w H s.heap a (.lst xs) from I.hok a _ ea)
    exact PySem.W.kia_one PySem.W.kitx_list I.kIn ⟨_, h1, rfl⟩ e (fun z => nomatch z) h
  | @frz a ob xs ea =>
    cases (show u = Value.ref a from rx)
    obtain ⟨_, _, _, n, _, h1⟩ := (show ObjOk X.prog X.w H s.heap a (.frz ob (.lst xs)) from I.hok a _ ea)
    exact PySem.W.kia_one PySem.W.kitx_list I.kIn ⟨_, h1, rfl⟩ e (fun z => nomatch z) h
  | @tup a xs ea =>
    cases (show u = Value.ref a from rx)
    obtain ⟨_, _, _, p⟩ := (show ObjOk X.prog X.w H s.heap a (.tup xs) from I.hok a _ ea)
    obtain ⟨o, h1, h2, _⟩ := p
    exact PySem.W.kia_one PySem.W.kitx_tuple I.kIn ⟨o, h1, h2⟩ e (fun z => nomatch z) h
  | @dK a kvs ea =>
    cases (show u = Value.ref a from rx)
    obtain ⟨_, _, vs, _, p⟩ := (show ObjOk X.prog X.w H s.heap a (.dK kvs) from I.hok a _ ea)
    obtain ⟨o, es, ep, h1, h2, _⟩ := p
    exact PySem.W.kia_one PySem.W.kitx_dict I.kIn ⟨o, h1, h2.1⟩ e (fun z => nomatch z) h
  | @dT a kvs ea =>
    cases (show u = Value.ref a from rx)
    obtain ⟨_, _, xs, _, o, es, ep, h1, h2, _⟩ := (show ObjOk X.prog X.w H s.heap a (.dT kvs) from I.hok a _ ea)
    exact PySem.W.kia_one PySem.W.kitx_dict I.kIn ⟨o, h1, h2.1⟩ e (fun z => nomatch z) h
  | @ins a C dx fs ea cl ha hn htk hm =>
    cases (show u = Value.ref a from rx)
    obtain ⟨mA, O, _⟩ := ins_get I.hok ea
    obtain ⟨od, J, _⟩ := O.look
    exact PySem.W.kia_one (PySem.W.kitx_own (cl.get _) cl.hd ha hn htk hm) I.kIn J e (fun z => nomatch z) h
end
end L2

namespace L2
open PySem PySem.Spec PyProof.Rows


structure Room (k : Nat) (A : Around) : Prop where
  hd : A.handled = none
  dp : A.depth + 3 * k + 5 < recursionLimit
  un : A.units + 16 * k + 200 < cLine
theorem Room.mono {j k : Nat} {A : Around} (r : Room k A) (h : j ≤ k) : Room j A := ⟨r.hd, by have := r.dp; omega, by have := r.un; omega⟩
theorem Room.deeper {k : Nat} {A : Around} (r : Room (k + 1) A) (env : Env) : Room k (A.deeper env) :=
  ⟨r.hd, by have := r.dp; show A.depth + 1 + 3 * k + 5 < _; omega, by have := r.un; show A.units + 3 + 16 * k + 200 < _; omega⟩
theorem make_depth {A : Around} {C : Addr} {us : List Value} {kw : List (Str × Value)} : (A.under (.builtin "type.__call__" ⟨.ref C :: us, kw⟩)).depth = A.depth + 1 := by
  first | rfl | simp [Around.under, Code.weight, Code.isCreation, Code.isGuard, Code.isCaller, Code.frames, Code.isFrame, guardIds]
theorem make_units {A : Around} {C : Addr} {us : List Value} {kw : List (Str × Value)} : (A.under (.builtin "type.__call__" ⟨.ref C :: us, kw⟩)).units = A.units + 1 := by
  first | rfl | simp [Around.under, Code.cUnits, Code.frames, Code.isFrame]
theorem Room.make {k : Nat} {A : Around} (r : Room (k + 1) A) (C : Addr) (us : List Value) (kw : List (Str × Value)) : Room k (A.under (.builtin "type.__call__" ⟨.ref C :: us, kw⟩)) :=
  ⟨r.hd, by have := r.dp; rw [make_depth]; omega, by have := r.un; rw [make_units]; omega⟩
theorem Room.depth {k : Nat} {A : Around} (r : Room k A) : A.depth < recursionLimit := by have := r.dp; omega
theorem Room.units {k : Nat} {A : Around} (r : Room k A) : A.units + 64 < cLine := by have := r.un; omega
def tNil : TA := fun _ H Q => Q [] H
def tCons (ta : TE) (tr : TA) : TA := fun σ H Q => ta σ H fun x H1 => tr σ H1 fun xs H2 => Q (x :: xs) H2
section
variable {X : Cx} {e : Expr} {es : List Expr} {te : TE} {t : TA} {pos : Pos}
theorem pa_nil : PA X [] tNil := fun _ _ _ _ H Q I h => Calls.spliced_nil ⟨[], H, I, .nil, h⟩
theorem pa_cons (ha : PE X e te) (hr : PA X es t) (hs : starEach (e :: es) X.env = (false, eval e X.env) :: starEach es X.env := by rfl) : PA X (e :: es) (tCons te t) := by
  intro pos pins s σ H Q I h
  rw [hs]
  show wpAny _ _ (spliced ((false, eval e X.env) :: backTo pos (starEach es X.env))) _ _ s
  refine Calls.spliced_cons (thn (ha pins s σ H _ I h) fun u s1 ⟨x, H1, I1, r1, q1⟩ => ?_)
  exact thn (hr pos pins s1 σ H1 _ I1 q1) fun us s2 ⟨xs, H2, I2, r2, q2⟩ => ⟨x :: xs, H2, I2, .cons r1 r2, q2⟩


def tTup (t : TA) : TE := fun σ H Q => t σ H fun xs H1 => xs.length ≤ sizeLine ∧ ∀ p, H1 p = none → Q (.ref p) (upd H1 p (.tup xs))
def tLst (t : TA) : TE := fun σ H Q => t σ H fun xs H1 => xs.length ≤ sizeLine ∧ ∀ p, H1 p = none → Q (.ref p) (upd H1 p (.lst xs))
theorem pe_tup {x1} (h : PA X es t) : PE X (.Tuple es x1 pos) (tTup t) := by
  intro pins s σ H Q I hq
  refine wpAny_Tuple_spliced (thn (h pos pins s σ H _ I hq) fun us s1 ⟨xs, H1, I1, r, z, q⟩ => ⟨by rw [← r.length]; exact z, ?_⟩)
  have hf : H1 s1.heap.objs.size = none := I1.hok.fresh (Nat.le_refl _)
  refine ⟨.ref s1.heap.objs.size, upd H1 s1.heap.objs.size (.tup xs), I1.laid (t' := s1.toks) (fun b u e => Heap.get?_push_of_some _ e) (Nat.le_refl _) ?_, rfl, q _ hf⟩
  exact ⟨z, us, r, ⟨_, Heap.get?_push_size _ rfl, rfl, _, rfl⟩⟩
theorem pe_lst (h : PA X es t) : PE X (.List es pos) (tLst t) := by
  intro pins s σ H Q I hq
  refine wpAny_List_spliced (thn (h pos pins s σ H _ I hq) fun us s1 ⟨xs, H1, I1, r, z, q⟩ => ⟨by rw [← r.length]; exact z, ?_⟩)
  have hf : H1 s1.heap.objs.size = none := I1.hok.fresh (Nat.le_refl _)
  refine ⟨.ref s1.heap.objs.size, upd H1 s1.heap.objs.size (.lst xs), I1.laid (t' := s1.toks) (fun b u e => Heap.get?_push_of_some _ e) (Nat.le_refl _) ?_, rfl, q _ hf⟩
  exact ⟨z, us, 0, r, Heap.get?_push_size _ rfl⟩
end



abbrev Sp := List V → Hp → VK → XK → Prop

abbrev CXT := List Env → Hp → Shared → XK → Value → Shared → Prop


structure Env0 (P : Program) (w : World) (K : PySem.W.Frag) (mg : Str → Option Value) (base : Heap) (A : Around) (outer : List Env) (s : Shared) (H : Hp) : Prop where
  frames : A.frames = some outer
  mod : Mod K mg base
  bs : ∀ b o, base.get? b = some o → s.heap.get? b = some o ∧ H b = none
  bsz : base.objs.size ≤ s.heap.objs.size
  funs : s.heap.FunFrames base outer
  frf : ∀ b ∈ frs outer, H b = none
  hok : HOk P w H s.heap
  bare : AllBare s.gens

def CE (outer : List Env) (P : Program) (w : World) (H : Hp) (s : Shared) (Q : VK) (u : Value) (s' : Shared) : Prop :=
  ∃ v H', s'.os = s.os ∧ AllBare s'.gens ∧ Un (frs outer) [] H H' s.heap s'.heap ∧ HOk P w H' s'.heap ∧ RelV v u ∧ Q v H'
def CR (CX : CXT) (outer : List Env) (P : Program) (w : World) (H : Hp) (s : Shared) (Q : VK) (E : XK) (r : Result) (s' : Shared) : Prop :=
  match r with
  | .ok (.ret u) => CE outer P w H s Q u s'
  | .ok _ => False
  | .error e => CX outer H s E e s'
structure FnOk (P : Program) (w : World) (K : PySem.W.Frag) (mg : Str → Option Value) (base : Heap) (CX : CXT) (k : Nat) (f : Addr) (fd : FuncData) (ps : List Str) (sp : Sp) : Prop where
  len : ∀ vs H Q E, sp vs H Q E → vs.length = ps.length
  run : ∀ (A : Around) (outer : List Env) (s : Shared) (H : Hp) (args : Args) (us : List Value) (vs : List V) (Q : VK) (E : XK), Room k A → Env0 P w K mg base A outer s H → BindsTo s fd args (ps.zip us) → Vals vs us → sp vs H Q E →
    codeAny (model P w) A (.call (.ref f) args) (CR CX outer P w H s Q E) s
theorem FnOk.mono {P : Program} {w : World} {K : PySem.W.Frag} {mg : Str → Option Value} {base : Heap} {CX : CXT} {j k : Nat} {f : Addr} {fd : FuncData} {ps : List Str} {sp : Sp} (F : FnOk P w K mg base CX j f fd ps sp) (h : j ≤ k) :
    FnOk P w K mg base CX k f fd ps sp := ⟨F.len, fun A outer s H args us vs Q E hr => F.run A outer s H args us vs Q E (hr.mono h)⟩

theorem Env0.make {P : Program} {w : World} {K : PySem.W.Frag} {mg : Str → Option Value} {base : Heap} {A : Around} {outer : List Env} {s : Shared} {H : Hp} (e : Env0 P w K mg base A outer s H) (C : Addr) (us : List Value) (kw : List (Str × Value)) :
    Env0 P w K mg base (A.under (.builtin "type.__call__" ⟨.ref C :: us, kw⟩)) outer s H := ⟨by first | exact e.frames | (simpa [Around.under, Code.envs, Code.isFrame, pushEnvs] using e.frames), e.mod, e.bs, e.bsz, e.funs, e.frf, e.hok, e.bare⟩
section
variable {X : Cx} {pins : List (Addr × Obj)} {σ : St} {H : Hp} {s s' : Shared}

theorem Inv.env0 (I : Inv X pins σ H s) : Env0 X.prog X.w X.K X.mg X.base X.A X.stack s H :=
  ⟨I.ok.frames, I.ok.mod, I.bs, Nat.le_trans I.ok.bsz I.sz, I.stack, I.stkFree, I.hok, I.bare⟩

theorem Inv.after {Q : VK} {u : Value} (I : Inv X pins σ H s) (h : CE X.stack X.prog X.w H s Q u s') : EP X pins σ Q u s' := by
  obtain ⟨v, H', os, bare, un, hok, r, q⟩ := h
  obtain ⟨hh, g, d, t, os'⟩ := s'
  obtain rfl : os' = s.os := os
  exact ⟨v, H', I.call (h' := hh) (g' := g) (d' := d) (t' := t) (ch := []) un hok bare (fun b z => absurd z (by simp)), r, q⟩
end



def tCall (sp : Sp) (dvs : List V) (E : XK) (t : TA) : TE := fun σ H Q => t σ H fun vs H1 => sp (vs ++ dvs) H1 Q E

def tMake (C : Addr) (sp : Sp) (dvs : List V) (E : XK) (t : TA) : TE := fun σ H Q => t σ H fun vs H1 => ∀ x dx, H1 x = none → H1 dx = none → dx ≠ x →
  sp (.ref x :: (vs ++ dvs)) (upd (upd H1 dx (.own x)) x (.ins C dx [])) (fun v H2 => v = .non ∧ Q (.ref x) H2) E


def Binds (K : PySem.W.Frag) (fd : FuncData) (ps : List Str) (ds : List Value) : Prop :=
  ∀ (s : Shared) (us : List Value), K.In s.heap → (us ++ ds).length = ps.length → BindsTo s fd ⟨us, []⟩ (ps.zip (us ++ ds))

theorem Binds.all {K : PySem.W.Frag} {fd : FuncData} {ps : List Str} (h : ∀ us : List Value, us.length = ps.length → bindArgs fd ⟨us, []⟩ = pure (ps.zip us)) : Binds K fd ps [] := fun s us _ hl => by
  rw [List.append_nil] at hl ⊢
  exact .of_eq (h us hl)


def Passes (CX : CXT) (X : Cx) (E : XK) : Prop := ∀ (pins : List (Addr × Obj)) (σ : St) (H : Hp) (s : Shared) (e : Value) (s' : Shared), Inv X pins σ H s → CX X.stack H s E e s' → X.xe e s'

section
variable {X : Cx} {CX : CXT} {k : Nat} {f C : Addr} {fd : FuncData} {ps : List Str} {sp : Sp} {dvs : List V} {ds : List Value} {E : XK} {x m : Str} {p pos apos : Pos} {e o : Expr} {es : List Expr} {ta : TE} {t : TA}


theorem run_fn {pins : List (Addr × Obj)} {σ : St} {H : Hp} {s : Shared} {Q : VK} {us : List Value} {vs : List V} (F : FnOk X.prog X.w X.K X.mg X.base CX k f fd ps sp) (hr : Room k X.A) (hb : Binds X.K fd ps ds) (hd : Vals dvs ds) (hx : Passes CX X E)
    (I : Inv X pins σ H s) (r : Vals vs us) (h : sp (vs ++ dvs) H Q E) : wpAny (model X.prog X.w) X.A (call (.ref f) us) (EP X pins σ Q) X.xe s := by
  have r2 : Vals (vs ++ dvs) (us ++ ds) := r.append hd
  have hl : (us ++ ds).length = ps.length := by rw [← r2.length]; exact F.len _ _ _ _ h
  refine wpAny_call (codeAny_mono (F.run X.A X.stack s H ⟨us, []⟩ (us ++ ds) (vs ++ dvs) Q E hr I.env0 (hb s us I.kIn hl) r2 h) fun r s' hq => ?_)
  cases r with
  | error e => exact hx pins σ H s e s' I hq
  | ok fl =>
    cases fl with
    | ret u => exact I.after hq
    | next => exact False.elim hq
    | brk => exact False.elim hq
    | cont => exact False.elim hq

theorem pe_call (F : FnOk X.prog X.w X.K X.mg X.base CX k f fd ps sp) (hr : Room k X.A) (hg : Gl X x) (hm : X.mg x = some (.ref f)) (hk : PySem.W.keepIn X.K (.ref f) = true) (hb : Binds X.K fd ps ds) (hd : Vals dvs ds) (hx : Passes CX X E)
    (ha : PA X (e :: es) t) (hdb : (x == ("__debug__" : Str)) = false := by decide) (he : starEach (e :: es) X.env = (false, eval e X.env) :: starEach es X.env := by rfl) (hpl : (backTo pos (starEach es X.env)).any (·.1) = false := by rfl) :
    PE X (.Call (.Name x p) (e :: es) [] pos) (tCall sp dvs E t) := by
  intro pins s σ H Q I h
  refine wpAny_Call_Name_kw (ld_glob I hg hm ?_ hdb)
  refine PySem.W.callWith_K (h₀ := X.base) I.ok.mod.kin hk (thn (ha pos pins s σ H _ I h) fun us s1 ⟨vs, H1, I1, r, q⟩ => ⟨I1.kIn, ?_⟩) he hpl
  exact run_fn F hr hb hd hx I1 r q
structure Mk (K : PySem.W.Frag) (C f : Addr) : Prop where
  makes : PySem.W.makesIn K C = true
  init : PySem.W.findIn K (.ref C) "__init__" = some (some (.ref f))
  fn : PySem.W.isFn K (.ref f) = true
  kp : PySem.W.keepIn K (.ref C) = true

theorem run_make {pins : List (Addr × Obj)} {σ : St} {H : Hp} {s : Shared} {Q : VK} {us : List Value} {vs : List V} (M : Mk X.K C f) (F : FnOk X.prog X.w X.K X.mg X.base CX k f fd ps sp) (hr : Room (k + 1) X.A) (hb : Binds X.K fd ps ds) (hd : Vals dvs ds)
    (hx : Passes CX X E) (I : Inv X pins σ H s) (r : Vals vs us)
    (h : ∀ x dx, H x = none → H dx = none → dx ≠ x → sp (.ref x :: (vs ++ dvs)) (upd (upd H dx (.own x)) x (.ins C dx [])) (fun v H2 => v = .non ∧ Q (.ref x) H2) E) :
    wpAny (model X.prog X.w) X.A (call (.ref C) us) (EP X pins σ Q) X.xe s := by
  have hq := h (s.heap.objs.size + 1) s.heap.objs.size (I.hok.fresh (Nat.le_succ _)) (I.hok.fresh (Nat.le_refl _)) (Nat.ne_of_lt (Nat.lt_succ_self _))
  have I2 := Inv.made (C := C) I
  have r2 : Vals (V.ref (s.heap.objs.size + 1) :: (vs ++ dvs)) (Value.ref (s.heap.objs.size + 1) :: (us ++ ds)) := .cons rfl (r.append hd)
  have hl : (Value.ref (s.heap.objs.size + 1) :: us ++ ds).length = ps.length := by
    have e := r2.length
    rw [F.len _ _ _ _ hq] at e
    exact e.symm
  refine wpAny_call (make_map (f := f) I.kIn M.makes M.init (beq_iff_eq.mp M.fn) (codeAny_mono (F.run _ X.stack _ _ ⟨Value.ref (s.heap.objs.size + 1) :: us, []⟩ (Value.ref (s.heap.objs.size + 1) :: (us ++ ds)) _ _ E (hr.make C us [])
    (I2.env0.make C us []) (hb _ (Value.ref (s.heap.objs.size + 1) :: us) I2.kIn hl) r2 hq) fun r s' hq' => ?_))
  cases r with
  | error e => exact hx pins σ _ _ e s' I2 hq'
  | ok fl =>
    cases fl with
    | ret u =>
      obtain ⟨v, H', I3, rv, ev, q3⟩ := I2.after hq'
      subst ev
      exact ⟨rv, ⟨V.ref (s.heap.objs.size + 1), H', I3, rfl, q3⟩⟩
    | next => exact False.elim hq'
    | brk => exact False.elim hq'
    | cont => exact False.elim hq'
theorem pe_make (M : Mk X.K C f) (F : FnOk X.prog X.w X.K X.mg X.base CX k f fd ps sp) (hr : Room (k + 1) X.A) (hg : Gl X x) (hm : X.mg x = some (.ref C)) (hb : Binds X.K fd ps ds) (hd : Vals dvs ds) (hx : Passes CX X E)
    (ha : PA X (e :: es) t) (hdb : (x == ("__debug__" : Str)) = false := by decide) (he : starEach (e :: es) X.env = (false, eval e X.env) :: starEach es X.env := by rfl) (hpl : (backTo pos (starEach es X.env)).any (·.1) = false := by rfl) :
    PE X (.Call (.Name x p) (e :: es) [] pos) (tMake C sp dvs E t) := by
  intro pins s σ H Q I h
  refine wpAny_Call_Name_kw (ld_glob I hg hm ?_ hdb)
  refine PySem.W.callWith_K (h₀ := X.base) I.ok.mod.kin M.kp (thn (ha pos pins s σ H _ I h) fun us s1 ⟨vs, H1, I1, r, q⟩ => ⟨I1.kIn, ?_⟩) he hpl
  exact run_make M F hr hb hd hx I1 r q
end



section
variable {X : Cx} {CX : CXT} {k : Nat} {f C : Addr} {fd : FuncData} {ps ks : List Str} {sp : Sp} {E : XK} {x m : Str} {p pos apos kpos : Pos} {e o : Expr} {es : List Expr} {kws : List Keyword} {te ta : TE} {t tk : TA} {nm : Option Str}
variable {g : List Value → List Value → List Value} {gV : List V → List V → List V}
end



structure FnScope (N P : List Str) (sc : Scope) : Prop where
  kind : sc.kind = .function
  co : sc.isCoroutine = false
  gen : sc.isGenerator = false
  nd : N.Nodup
  pre : N.take P.length = P
  par : ∀ x ∈ P, sc.names.lookup x = some .local ∨ sc.names.lookup x = some .cell
  nofree : ∀ y ∈ sc.names, y.2 ≠ .free

theorem bindL_out {kindOf : Str → Option NameKind} {x : Str} : ∀ {binds : List (Str × Value)} {m : Str → Option Value}, (∀ v, (x, v) ∉ binds) → bindL kindOf binds m x = m x
  | [], _, _ => rfl
  | (n, v) :: r, m, h => by
    unfold bindL
    rw [bindL_out fun w hw => h w (List.mem_cons_of_mem _ hw)]
    split
    · have : x ≠ n := by rintro rfl; exact h v List.mem_cons_self
      simp [this]
    · rfl
theorem bindC_out {kindOf : Str → Option NameKind} {x : Str} : ∀ {binds : List (Str × Value)} {m : Str → Option Value}, (∀ v, (x, v) ∉ binds) → bindC kindOf binds m x = m x
  | [], _, _ => rfl
  | (n, v) :: r, m, h => by
    unfold bindC
    rw [bindC_out fun w hw => h w (List.mem_cons_of_mem _ hw)]
    split
    · rfl
    · have : x ≠ n := by rintro rfl; exact h v List.mem_cons_self
      simp [this]
theorem bindL_get {kindOf : Str → Option NameKind} {x : Str} {v : Value} : ∀ {P : List Str} {vs : List Value} {i : Nat} {m : Str → Option Value}, P.Nodup → P[i]? = some x → vs[i]? = some v → kindOf x = some .local →
    bindL kindOf (P.zip vs) m x = some v
  | [], _, _, _, _, h, _, _ => by simp at h
  | _ :: _, [], _, _, _, _, h, _ => by simp at h
  | p :: P, w :: vs, 0, m, nd, h1, h2, hk => by
    simp at h1 h2; subst h1; subst h2
    show bindL kindOf ((p, w) :: P.zip vs) m p = _
    unfold bindL
    rw [bindL_out fun v hv => (List.nodup_cons.mp nd).1 (List.of_mem_zip hv).1, if_pos hk]
    simp
  | p :: P, w :: vs, i + 1, m, nd, h1, h2, hk => by
    show bindL kindOf ((p, w) :: P.zip vs) m x = _
    unfold bindL
    exact bindL_get (i := i) (List.nodup_cons.mp nd).2 (by simpa using h1) (by simpa using h2) hk
theorem bindC_get {kindOf : Str → Option NameKind} {x : Str} {v : Value} : ∀ {P : List Str} {vs : List Value} {i : Nat} {m : Str → Option Value}, P.Nodup → P[i]? = some x → vs[i]? = some v → kindOf x ≠ some .local →
    bindC kindOf (P.zip vs) m x = some v
  | [], _, _, _, _, h, _, _ => by simp at h
  | _ :: _, [], _, _, _, _, h, _ => by simp at h
  | p :: P, w :: vs, 0, m, nd, h1, h2, hk => by
    simp at h1 h2; subst h1; subst h2
    show bindC kindOf ((p, w) :: P.zip vs) m p = _
    unfold bindC
    rw [bindC_out fun v hv => (List.nodup_cons.mp nd).1 (List.of_mem_zip hv).1, if_neg hk]
    simp
  | p :: P, w :: vs, i + 1, m, nd, h1, h2, hk => by
    show bindC kindOf ((p, w) :: P.zip vs) m x = _
    unfold bindC
    exact bindC_get (i := i) (List.nodup_cons.mp nd).2 (by simpa using h1) (by simpa using h2) hk


def start (N : List Str) (vs : List V) : St := vs.map some ++ List.replicate (N.length - vs.length) none


def cxOf (CX : CXT) (P : Program) (w : World) (K : PySem.W.Frag) (mg : Str → Option Value) (base : Heap) (N : List Str) (qual : Str) (scope : Scope) (f : Addr) (cd : Value) (A : Around) (outer : List Env) (s : Shared) (H : Hp) (E : XK) : Cx where
  prog := P
  w := w
  K := K
  mg := mg
  base := base
  A := A.deeper (envOfC qual scope s.heap.objs.size f cd)
  N := N
  s₀ := s
  H₀ := H
  env := envOfC qual scope s.heap.objs.size f cd
  outer := outer
  stack := envOfC qual scope s.heap.objs.size f cd :: outer
  ex := []
  calm := true
  fn := fun _ => true
  pn := []
  xe := fun e s' => wpAny (model P w) (A.deeper (envOfC qual scope s.heap.objs.size f cd)) (leaving (envOfC qual scope s.heap.objs.size f cd) e) (fun _ s'' => CX outer H s E e s'') (fun e' s'' => CX outer H s E e' s'') s'

theorem cell_has {sc : Scope} {n : Nat} {x : Str} (h : sc.names.lookup x = some .cell) : ∃ c, (cellsFrom n sc.names []).lookup x = some c := by
  have q := PySem.W.cellsFrom_some sc.names n [] (.inl h)
  exact Option.isSome_iff_exists.mp q

theorem inv_start {CX : CXT} {P : Program} {w : World} {K : PySem.W.Frag} {mg : Str → Option Value} {base : Heap} {N ps : List Str} {qual : Str} {scope : Scope} {f : Addr} {cd : Value} {A : Around} {outer : List Env} {s s1 : Shared} {H : Hp} {E : XK} {us : List Value} {vs : List V}
    (S : FnScope N ps scope) (hd : A.handled = none) (e0 : Env0 P w K mg base A outer s H) (hl : vs.length = ps.length) (r : Vals vs us)
    (x : InCallC s s.heap.objs.size (bindL (envOfC qual scope s.heap.objs.size f cd).kindOf (ps.zip us) fun _ => none) (cellsFrom (s.heap.objs.size + 1) scope.names []) (bindC (envOfC qual scope s.heap.objs.size f cd).kindOf (ps.zip us) fun _ => none) s1) :
    Inv (cxOf CX P w K mg base N qual scope f cd A outer s H E) [] (start N vs) H s1 := by
  have hpl : ps.length ≤ N.length := by have := congrArg List.length S.pre; rw [List.length_take] at this; omega
  obtain ⟨h1, tk, rfl, hk⟩ := x.done
  have noA : ∀ b : Addr, b ∉ (cxOf CX P w K mg base N qual scope f cd A outer s H E).ex := fun b z => absurd (show b ∈ ([] : List Addr) from z) (by simp)
  refine ⟨⟨e0.mod, S.kind, rfl, rfl, Nat.le_refl _, fun y z c h1 h2 => ?_, fun y hy => ?_, fun y c _ h => ?_, fun _ => hd, Around.frames_deeper e0.frames, .inr ⟨rfl, rfl⟩, fun b z => absurd z (noA b), e0.bs, e0.bsz, fun b _ _ => noA b, fun b z => absurd z (noA b), e0.funs, e0.frf⟩,
    rfl, e0.bare, Un.kept hk, ⟨_, x.toInCall.ns, fun i y v h1 h2 h3 => ?_⟩, fun y c h => ⟨_, x.cell y c h⟩, e0.hok.fresh (Nat.le_refl _), fun y c h => ?_, fun p hp => absurd (show p ∈ ([] : List (Addr × Obj)) from hp) (by simp), e0.hok.kept hk, ?_⟩
  · exact name_of_addr x.apart (PySem.mem_of_lookup h1) (PySem.mem_of_lookup h2)
  · have hy : scope.names.lookup y = some .cell ∨ scope.names.lookup y = some .free := hy
    rcases hy with hy | hy
    · exact cell_has hy
    · exact absurd rfl (S.nofree _ (PySem.mem_of_lookup hy))
  · exact Nat.le_of_lt (x.above y c (PySem.mem_of_lookup h))
  · have hi : i < vs.length := by
      unfold start at h2
      by_cases hi : i < vs.length
      · exact hi
      · rw [List.getElem?_append_right (by simpa using hi)] at h2
        rw [List.getElem?_replicate] at h2
        split at h2 <;> cases h2
    have ha : vs[i]? = some v := by
      unfold start at h2
      rw [List.getElem?_append_left (by simpa using hi), List.getElem?_map] at h2
      cases e : vs[i]? with
      | none => rw [e] at h2; cases h2
      | some a => rw [e] at h2; cases h2; rfl
    obtain ⟨u, hu, rv⟩ := r.get ha
    have hp : ps[i]? = some y := by
      rw [← S.pre, List.getElem?_take_of_lt (by omega)]; exact h1
    have ndP : ps.Nodup := by rw [← S.pre]; exact S.nd.sublist (List.take_sublist _ _)
    refine ⟨u, rv, ?_⟩
    rcases S.par y (List.mem_of_getElem? hp) with k | k
    · exact .inl ⟨k, bindL_get ndP hp hu k⟩
    · obtain ⟨c, e⟩ := cell_has (n := s.heap.objs.size + 1) k
      refine .inr ⟨.inl k, c, e, ?_⟩
      have q := x.cell y c e
      rw [bindC_get ndP hp hu (by show scope.names.lookup y ≠ _; rw [k]; decide)] at q
      exact q
  · exact e0.hok.fresh (Nat.le_of_lt (x.above y c (PySem.mem_of_lookup h)))
  · unfold start
    show _ = N.length
    rw [List.length_append, List.length_map, List.length_replicate]
    omega


theorem fn_of {CX : CXT} {P : Program} {w : World} {K : PySem.W.Frag} {mg : Str → Option Value} {base : Heap} {k : Nat} {f : Addr} {name qual : Str} {params : Arguments} {body : List Stmt} {scope : Scope} {dV kV doc pm cdv ct oc : Value} {an od : Option Addr}
    {osl : Array (Option Value)} {N ps : List Str} {sp : Sp} (lk : K.lookup f = some ⟨oc, od, .func (PySem.W.fnOf name qual params body scope dV kV doc pm an cdv ct), osl⟩) (hcd : PySem.W.codeIn K cdv qual = true) (S : FnScope N ps scope)
    (len : ∀ vs H Q E, sp vs H Q E → vs.length = ps.length)
    (hbody : ∀ (A : Around) (outer : List Env) (s : Shared) (H : Hp) (vs : List V) (Q : VK) (E : XK), Room k (A.deeper (envOfC qual scope s.heap.objs.size f cdv)) → sp vs H Q E →
      ∃ t, PSs (cxOf CX P w K mg base N qual scope f cdv A outer s H E) body t ∧ t { nx := fun _ H' => Q .non H', rt := Q } (start N vs) H) :
    FnOk P w K mg base CX (k + 1) f (PySem.W.fnOf name qual params body scope dV kV doc pm an cdv ct) ps sp := by
  refine ⟨len, fun A outer s H args us vs Q E hr e0 hb r hsp => ?_⟩
  have hl := len _ _ _ _ hsp
  have KX : K.In s.heap := e0.mod.kin.keeps fun b o e => (e0.bs b o e).1
  have lim : s.heap.NoLimit := e0.mod.nolimit.keeps fun b o e => (e0.bs b o e).1
  have hkind : ∀ y ∈ ps.zip us, scope.names.lookup y.1 = some .local ∨ (scope.names.lookup y.1 = some .cell ∧ ((cellsFrom (s.heap.objs.size + 1) scope.names []).lookup y.1).isSome = true) := fun ⟨n, v⟩ hy => by
    rcases S.par n (List.of_mem_zip hy).1 with q | q
    · exact .inl q
    · exact .inr ⟨q, PySem.W.cellsFrom_some _ _ _ (.inl q)⟩
  refine codeAny_call_function hr.depth (KX _ _ lk) rfl S.co S.gen rfl (PySem.W.codeRec_of KX hcd) (hb _ _ _ _ ?_)
  refine wpAny_newFunctionEnv_cells S.kind hkind fun env he s1 x => ?_
  subst he
  refine ⟨lim.keeps x.toInCall.keep, codeAny_func ?_⟩
  obtain ⟨t, ht, hq⟩ := hbody A outer s H vs Q E (hr.deeper _) hsp
  have I : Inv (cxOf CX P w K mg base N qual scope f cdv A outer s H E) [] (start N vs) H s1 := inv_start S hr.hd e0 hl r x
  refine wpAny_mono (ht [] s1 (start N vs) H _ I hq) (fun fl s' hs => ?_) fun e s' hs => hs
  have fin : ∀ {σ' : St} {H' : Hp} {v : V} {u : Value}, Inv (cxOf CX P w K mg base N qual scope f cdv A outer s H E) [] σ' H' s' → RelV v u → Q v H' → CE outer P w H s Q u s' :=
    fun {σ' H' v u} J rv q => ⟨v, H', J.os, J.bare, J.base, J.hok, rv, q⟩
  cases fl with
  | ret u =>
    obtain ⟨v, σ', H', J, rv, q⟩ := hs
    exact fin J rv q
  | next =>
    obtain ⟨σ', H', J, q⟩ := hs
    exact fin (v := V.non) (u := Value.none) J rfl q
  | brk =>
    obtain ⟨_, _, _, q⟩ := hs
    exact False.elim q
  | cont =>
    obtain ⟨_, _, _, q⟩ := hs
    exact False.elim q
end L2

namespace L2
open PySem PySem.Spec PyProof.Rows
section
variable {X : Cx} {x : Str} {p pos : Pos} {e : Expr} {es : List Expr} {t : TA} {id T : String} {r : List V → Hp → VK → Prop}

def tCB (r : List V → Hp → VK → Prop) (t : TA) : TE := fun σ H Q => t σ H fun vs H1 => r vs H1 Q

theorem pe_callB (hc : CallR X (.builtin id) r) (hg : Gl X x) (hm : X.mg x = none) (hv : bootBuiltins x = some (.builtin id)) (ha : PA X (e :: es) t) (hn : x ≠ "__name__" := by decide) (hdb : (x == ("__debug__" : Str)) = false := by decide)
    (he : starEach (e :: es) X.env = (false, eval e X.env) :: starEach es X.env := by rfl) (hpl : (backTo pos (starEach es X.env)).any (·.1) = false := by rfl) : PE X (.Call (.Name x p) (e :: es) [] pos) (tCB r t) := by
  intro pins s σ H Q I h
  refine wpAny_Call_Name_kw (ld_blt I hg hm hv ?_ hn hdb)
  exact PyProof.Rows.callWith_builtin1 (thn (ha pos pins s σ H _ I h) fun us s1 ⟨vs, H1, I1, r1, q1⟩ => hc pins s1 σ H1 vs us Q I1 r1 q1) he hpl

theorem pe_callTy (hc : CallR X (.type T) r) (hg : Gl X x) (hm : X.mg x = none) (hv : bootBuiltins x = some (.type T)) (ha : PA X (e :: es) t) (hn : x ≠ "__name__" := by decide) (hdb : (x == ("__debug__" : Str)) = false := by decide)
    (he : starEach (e :: es) X.env = (false, eval e X.env) :: starEach es X.env := by rfl) (hpl : (backTo pos (starEach es X.env)).any (·.1) = false := by rfl) : PE X (.Call (.Name x p) (e :: es) [] pos) (tCB r t) := by
  intro pins s σ H Q I h
  refine wpAny_Call_Name_kw (ld_blt I hg hm hv ?_ hn hdb)
  exact PyProof.Rows.callWith_type1 (thn (ha pos pins s σ H _ I h) fun us s1 ⟨vs, H1, I1, r1, q1⟩ => hc pins s1 σ H1 vs us Q I1 r1 q1) he hpl

end
end L2

namespace HT
open PySem PyProof.Rows


section
open PySem.SeqAt
open PySem.AutoSeq1 (wpAny_loadPart')
open PySem.MeetsSeq PySem.MeetsSeq2 PySem.MeetsSeq3

end

section
variable {prog : Program} {w : World} {A : Around} {E : Value → Shared → Prop} {s : Shared}

theorem cat_tup {t b : Addr} {vs ws : List Value} {Q : Value → Shared → Prop} (ht : IsTup s.heap t vs.toArray) (hb : IsTup s.heap b ws.toArray) (hv : vs ≠ [])
    (h1 : ws = [] → Q (.ref t) s) (h2 : ws ≠ [] → Q (.ref s.heap.objs.size) { s with heap := s.heap.push { cls := .type "tuple", data := .seq (vs ++ ws).toArray } })
    (hsz : vs.length + ws.length ≤ sizeLine) : wpAny (model prog w) A (binaryOp .Add (.ref t) (.ref b)) Q E s := by
  obtain ⟨⟨cls, dd, data, sl⟩, ho, hc, n, hd⟩ := id ht
  obtain ⟨⟨cls2, dd2, data2, sl2⟩, ho2, hc2, n2, hd2⟩ := id hb
  simp only at hc hd hc2 hd2
  subst hc hd hc2 hd2
  have e : vs.toArray ++ ws.toArray = (vs ++ ws).toArray := by simp
  by_cases hw : ws = []
  · exact concat_meets ⟨_, ho, rfl⟩ ⟨_, ho2, rfl⟩ noFill_tuple_add seq_tuple_add PySem.F.slot_tuple_add PySem.F.entry_tuple_add (PySem.F.args_tuple_add_2 _ _)
      (tuple_addW1 t b vs.toArray ws.toArray n n2 dd dd2 sl sl2 (by simpa using hv) (by simp [hw])) ⟨ho, ho2, h1 hw⟩
  · refine concat_meets ⟨_, ho, rfl⟩ ⟨_, ho2, rfl⟩ noFill_tuple_add seq_tuple_add PySem.F.slot_tuple_add PySem.F.entry_tuple_add (PySem.F.args_tuple_add_2 _ _)
      (tuple_addW2 t b vs.toArray ws.toArray n n2 dd dd2 sl sl2 (by simpa using hv) (by simpa using hw) (by rw [List.size_toArray, List.size_toArray]; exact hsz)) ⟨ho, ho2, ?_⟩
    rw [e]
    exact h2 hw



def sIx (n d : Nat) : Option Int → Nat
  | none => d
  | some v => if v < 0 then (v + (n : Int)).toNat else min v.toNat n
theorem sIx_nat (n d k : Nat) : sIx n d (some (k : Int)) = min k n := by
  show (if (k : Int) < 0 then ((k : Int) + (n : Int)).toNat else min (k : Int).toNat n) = min k n
  rw [if_neg (by omega), Int.toNat_natCast]
theorem sIx_le (n d : Nat) (hd : d ≤ n) (o : Option Int) : sIx n d o ≤ n := by
  cases o with
  | none => exact hd
  | some v =>
    show (if v < 0 then (v + (n : Int)).toNat else min v.toNat n) ≤ n
    by_cases hv : v < 0
    · rw [if_pos hv]; omega
    · rw [if_neg hv]; exact Nat.min_le_right _ _
theorem clip_eq (v : Int) (n d : Nat) : (if v < 0 then max (v + (n : Int)) 0 else min v (n : Int)) = ((sIx n d (some v) : Nat) : Int) := by
  show (if v < 0 then max (v + (n : Int)) 0 else min v (n : Int)) = (((if v < 0 then (v + (n : Int)).toNat else min v.toNat n) : Nat) : Int)
  by_cases hv : v < 0
  · simp only [if_pos hv]; omega
  · simp only [if_neg hv]; omega
theorem adjust_gen (lo hi : Option Int) (n : Nat) : Builtin.Slice.sliceAdjust lo hi 1 (n : Int) = (((sIx n 0 lo : Nat) : Int), ((sIx n n hi : Nat) : Int)) := by
  have h1 : ¬ ((1 : Int) < 0) := by omega
  unfold Builtin.Slice.sliceAdjust
  simp only [h1, if_false]
  refine Prod.ext ?_ ?_
  · cases lo with
    | none => rfl
    | some v => exact clip_eq v n 0
  · cases hi with
    | none => rfl
    | some v => exact clip_eq v n n
theorem places_gen (i j : Nat) : Builtin.Slice.slicePlaces (i : Int) (j : Int) 1 = j - i := by
  unfold Builtin.Slice.slicePlaces
  have h1 : (1 : Int) > 0 := by omega
  simp only [h1, if_true, Int.ediv_one]
  split <;> omega
theorem slicePart_ {v : Value} {o : Option Int} {Q : Option Int → Shared → Prop} (p : IsPart v o) (h : Q o s) : wpAny (model prog w) A (Builtin.Slice.slicePartIndex v) Q E s := by
  cases p with
  | none => exact slicePart_none h
  | int i t => exact slicePart_int h
theorem sliceApplied_gen {sl : Addr} {vl vu : Value} {lo hi : Option Int} {n : Nat} {Q : Int × Int × Nat → Shared → Prop} (hs : s.heap.IsSliceOf sl vl vu .none) (pl : IsPart vl lo) (pu : IsPart vu hi)
    (h : Q (((sIx n 0 lo : Nat) : Int), 1, sIx n n hi - sIx n 0 lo) s) : wpAny (model prog w) A (Builtin.Slice.sliceApplied (.ref sl) (pure (n : Int))) Q E s := by
  obtain ⟨os, hos, hcs, hds⟩ := id hs
  unfold Builtin.Slice.sliceApplied Builtin.Slice.sliceFields
  refine wpAny_bind (wpAny_bind (wpAny_field hos hds (x := vl) rfl (wpAny_bind (wpAny_field hos hds (x := vu) rfl (wpAny_bind (wpAny_field hos hds (x := .none) rfl (wpAny_pure ?_)))))))
  refine wpAny_bind (slicePart_none ?_)
  show wpAny _ _ (if ((1 : Int) == 0) = true then _ else _) _ _ s
  rw [if_neg (by decide)]
  refine wpAny_bind (slicePart_ pl (wpAny_bind (slicePart_ pu (wpAny_bind (wpAny_pure ?_)))))
  show wpAny _ _ (match Builtin.Slice.sliceAdjust lo hi 1 (n : Int) with | (lo, hi) => pure (lo, (1 : Int), Builtin.Slice.slicePlaces lo hi 1)) _ _ s
  rw [adjust_gen lo hi n]
  show wpAny _ _ (pure (((sIx n 0 lo : Nat) : Int), (1 : Int), Builtin.Slice.slicePlaces ((sIx n 0 lo : Nat) : Int) ((sIx n n hi : Nat) : Int) 1)) _ _ s
  rw [places_gen]
  exact wpAny_pure h
theorem pick_gen (xs : Array Value) (i k : Nat) : ((List.range k).filterMap fun (m : Nat) => xs[((i : Int) + (m : Int) * 1).toNat]?).toArray = ((xs.toList.drop i).take k).toArray := by
  have e : (fun (m : Nat) => xs[((i : Int) + (m : Int) * 1).toNat]?) = fun m => xs[i + m]? := by
    funext m
    have : ((i : Int) + (m : Int) * 1).toNat = i + m := by omega
    rw [this]
  rw [e]
  have := pick_run xs i k
  rw [List.filterMap_map] at this
  have e2 : ((fun x => xs[x]?) ∘ fun x => i + x) = fun m => xs[i + m]? := rfl
  rw [e2] at this
  rw [this]

theorem getItem_tuple_cut {t sl : Addr} {items : Array Value} {vl vu : Value} {lo hi : Option Int} {Q : Value → Shared → Prop} (ht : IsTup s.heap t items) (hs : s.heap.IsSliceOf sl vl vu .none) (pl : IsPart vl lo) (pu : IsPart vu hi)
    (hw : ¬ (sIx items.size 0 lo = 0 ∧ sIx items.size items.size hi = items.size))
    (h : Q (.ref s.heap.objs.size) { s with heap := s.heap.push { cls := .type "tuple", data := .seq ((items.toList.drop (sIx items.size 0 lo)).take (sIx items.size items.size hi - sIx items.size 0 lo)).toArray } })
    (hsz : items.size ≤ sizeLine) : wpAny (model prog w) A (getItem (.ref t) (.ref sl)) Q E s := by
  have htake : sizeOk (.seq ((items.toList.drop (sIx items.size 0 lo)).take (sIx items.size items.size hi - sIx items.size 0 lo)).toArray) := by
    show ((items.toList.drop (sIx items.size 0 lo)).take (sIx items.size items.size hi - sIx items.size 0 lo)).toArray.size ≤ sizeLine
    rw [List.size_toArray, List.length_take, List.length_drop, Array.length_toList]
    omega
  have hj : sIx items.size items.size hi ≤ items.size := sIx_le _ _ (Nat.le_refl _) hi
  obtain ⟨os, hos, hcs, hds⟩ := id hs
  have hTs : s.TypeIs (.ref sl) "slice" := ⟨os, hos, hcs⟩
  unfold getItem
  try with_reducible refine wpAny_holding ?_
  first | refine wpAny_bind (wpAny_pure ?_) | skip
  refine wpAny_bind (wpAny_sequenceKey ht.typeIs (by decide) ?_)
  refine wpAny_bind (wpAny_callSpecial?_slot (name := Str.ofString "__getitem__") ht.typeIs PyProof.Rows.slot_tuple_getitem
    (wpAny_call_entry PyProof.Rows.slot_tuple_getitem ht.typeIs entry_tuple_getitem ?_ (args_tuple_getitem _ _)))
  show wpAny _ _ (Builtin.Tuple.tupleItemsOf (.ref t) >>= _) _ _ s
  refine wpAny_bind (tupleItemsOf_ ht ?_)
  refine wpAny_bind (wpAny_typeOf hTs ?_)
  rw [if_pos (by decide)]
  refine wpAny_bind (sliceApplied_gen hs pl pu ?_)
  have hno : ¬ ((((sIx items.size 0 lo : Nat) : Int) == 0 && (1 : Int) == 1 && (sIx items.size items.size hi - sIx items.size 0 lo) == items.size) = true) := by
    intro q
    rw [Bool.and_eq_true, Bool.and_eq_true] at q
    have q1 : ((sIx items.size 0 lo : Nat) : Int) = 0 := eq_of_beq q.1.1
    have q2 : sIx items.size items.size hi - sIx items.size 0 lo = items.size := eq_of_beq q.2
    exact hw ⟨by omega, by omega⟩
  show wpAny _ _ (if (((sIx items.size 0 lo : Nat) : Int) == 0 && (1 : Int) == 1 && (sIx items.size items.size hi - sIx items.size 0 lo) == items.size) = true then _ else _) _ _ s
  rw [if_neg hno, pick_gen]
  first
    | exact wpAny_bind (m := Builtin.Tuple.tupleExact _) (wpAny_newObj_type (wpAny_pure ⟨_, rfl, wpAny_pure h⟩) htake)
    | exact wpAny_bind (m := Builtin.Tuple.tupleExact _) (wpAny_newObj_type (wpAny_bind (wpAny_pure (wpAny_pure ⟨_, rfl, wpAny_pure h⟩))) htake)
    | exact wpAny_bind (wpAny_bind (m := Builtin.Tuple.tupleExact _) (wpAny_newObj_type (wpAny_pure (wpAny_pure ⟨_, rfl, wpAny_pure h⟩)) htake))
    | exact wpAny_bind (wpAny_bind (m := Builtin.Tuple.tupleExact _) (wpAny_newObj_type (wpAny_pure ⟨_, rfl, wpAny_pure h⟩) htake))
end
end HT

namespace L2
open PySem PySem.Spec PyProof.Rows


abbrev TO := St → Hp → (Option Int → Hp → Prop) → Prop

def PO (X : Cx) (e : Option Expr) (t : TO) : Prop :=
  ∀ (pins : List (Addr × Obj)) (s : Shared) (σ : St) (H : Hp) (Q : Option Int → Hp → Prop), Inv X pins σ H s → t σ H Q →
    wpAny (model X.prog X.w) X.A (evalPart e X.env) (fun u s' => ∃ o H', Inv X pins σ H' s' ∧ IsPart u o ∧ Q o H') X.xe s
def tNoPart : TO := fun _ H Q => Q none H
def tPart (t : TE) : TO := fun σ H Q => t σ H fun x H1 => ∃ i, x = .int i ∧ Q (some i) H1

section
variable {X : Cx} {e : Expr} {te : TE} {lo hi : Option Expr} {tl th : TO} {pos p2 : Pos}

theorem po_none : PO X none tNoPart := by
  intro pins s σ H Q I h
  rw [evalPart_none]
  exact wpAny_pure ⟨none, H, I, .none, h⟩
theorem po_some (h : PE X e te) : PO X (some e) (tPart te) := by
  intro pins s σ H Q I hw
  rw [evalPart_some]
  refine thn (h pins s σ H _ I hw) fun u s1 ⟨x, H1, I1, r1, q1⟩ => ?_
  obtain ⟨i, rfl, q⟩ := q1
  obtain ⟨t, rfl⟩ := r1
  exact ⟨some i, H1, I1, .int i t, q⟩


def SlR (X : Cx) (r : V → Option Int → Option Int → Hp → VK → Prop) : Prop :=
  ∀ (pins : List (Addr × Obj)) (s : Shared) (σ : St) (H : Hp) (x : V) (v vl vu : Value) (lo hi : Option Int) (sl : Addr) (Q : VK), Inv X pins σ H s → RelV x v → s.heap.IsSliceOf sl vl vu .none → IsPart vl lo → IsPart vu hi → r x lo hi H Q →
    ∃ T id, typeLookup (.type T) "__getitem__" = pure (some (.builtin id)) ∧ s.TypeIs v T ∧ wpAny (model X.prog X.w) X.A (getItem v (.ref sl)) (EP X pins σ Q) X.xe s
theorem SlR.or {r r' : V → Option Int → Option Int → Hp → VK → Prop} (h : SlR X r) (h' : SlR X r') : SlR X (fun x lo hi H Q => r x lo hi H Q ∨ r' x lo hi H Q) := by
  intro pins s σ H x v vl vu lo hi sl Q I rx hs pl pu q
  rcases q with q | q
  · exact h pins s σ H x v vl vu lo hi sl Q I rx hs pl pu q
  · exact h' pins s σ H x v vl vu lo hi sl Q I rx hs pl pu q
def tSl (r : V → Option Int → Option Int → Hp → VK → Prop) (te : TE) (tl th : TO) : TE := fun σ H Q => te σ H fun x H1 => tl σ H1 fun l H2 => th σ H2 fun u H3 => r x l u H3 Q

theorem pe_slice {r : V → Option Int → Option Int → Hp → VK → Prop} (hr : SlR X r) (he : PE X e te) (hl : PO X lo tl) (hu : PO X hi th) : PE X (.Subscript e (.Slice lo hi none p2) pos) (tSl r te tl th) := by
  intro pins s σ H Q I h
  refine Subscript_ (thn (he pins s σ H _ I h) fun v s1 ⟨x, H1, I1, r1, q1⟩ => ?_)
  refine wpAny_Slice (thn (hl pins s1 σ H1 _ I1 q1) fun vl s2 ⟨l, H2, I2, pl, q2⟩ => thn (hu pins s2 σ H2 _ I2 q2) fun vu s3 ⟨u, H3, I3, pu, q3⟩ => ?_)
  rw [evalPart_none]
  refine wpAny_pure ?_
  have I4 : Inv X pins σ H3 { s3 with heap := s3.heap.push { cls := .type "slice", data := .fields #[vl, vu, .none] } } := I3.kept (t' := s3.toks) fun b ob q => Heap.get?_push_of_some _ q
  obtain ⟨T, id, hT, ht, hg⟩ := hr pins { s3 with heap := s3.heap.push { cls := .type "slice", data := .fields #[vl, vu, .none] } } σ H3 x v vl vu l u s3.heap.objs.size Q I4 r1 (Heap.IsSliceOf.new ..) pl pu q3
  show wpAny (model X.prog X.w) X.A (subscriptTail e (.Slice lo hi none p2) v (.ref s3.heap.objs.size)) (EP X pins σ Q) X.xe { s3 with heap := s3.heap.push { cls := .type "slice", data := .fields #[vl, vu, .none] } }
  exact tail_any (ops := [.ref s3.heap.objs.size, v]) ht hT hg (by with_unfolding_all rfl)


def cutV (xs : List V) (lo hi : Option Int) : List V := (xs.drop (HT.sIx xs.length 0 lo)).take (HT.sIx xs.length xs.length hi - HT.sIx xs.length 0 lo)
theorem cutV_length (xs : List V) (lo hi : Option Int) : (cutV xs lo hi).length ≤ xs.length := by
  unfold cutV
  rw [List.length_take, List.length_drop]
  omega

def rSlT (K : PySem.W.Frag) : V → Option Int → Option Int → Hp → VK → Prop := fun x lo hi H Q => ∃ a xs, x = .ref a ∧ SqT K H a xs ∧
  ¬ (HT.sIx xs.length 0 lo = 0 ∧ HT.sIx xs.length xs.length hi = xs.length) ∧ ∀ p, H p = none → Q (.ref p) (upd H p (.tup (cutV xs lo hi)))
theorem sl_tup : SlR X (rSlT X.K) := by
  intro pins s σ H x v vl vu lo hi sl Q I rx hs pl pu h
  obtain ⟨a, xs, rfl, hx, hw, q⟩ := h
  cases rx
  obtain ⟨its, r, ht, hz⟩ := I.tuple hx
  have hlen : its.toArray.size = xs.length := by rw [List.size_toArray]; exact r.length.symm
  refine ⟨"tuple", _, PyProof.Rows.slot_tuple_getitem.lookup, ht.typeIs, ?_⟩
  refine HT.getItem_tuple_cut ht hs pl pu (by rw [hlen]; exact hw) ?_ (by rw [hlen]; exact hz)
  rw [hlen]
  refine ⟨.ref s.heap.objs.size, _, I.laid (t' := s.toks) (o := .tup (cutV xs lo hi)) (fun b ob q => Heap.get?_push_of_some _ q) (Nat.le_refl _) ?_, rfl, q _ (I.hok.fresh (Nat.le_refl _))⟩
  exact ⟨Nat.le_trans (cutV_length xs lo hi) hz, _, (r.drop (HT.sIx xs.length 0 lo)).take (HT.sIx xs.length xs.length hi - HT.sIx xs.length 0 lo), IsTup.new _ _⟩


def rCatT (K : PySem.W.Frag) : R2 := fun x y H Q => ∃ a b xs ys, x = .ref a ∧ y = .ref b ∧ SqT K H a xs ∧ SqT K H b ys ∧ xs ≠ [] ∧ xs.length + ys.length ≤ sizeLine ∧
  (ys = [] → Q (.ref a) H) ∧ (ys ≠ [] → ∀ p, H p = none → Q (.ref p) (upd H p (.tup (xs ++ ys))))
theorem Vals.nil_iff {xs : List V} {us : List Value} (r : Vals xs us) : us = [] ↔ xs = [] := by
  cases r with
  | nil => simp
  | cons _ _ => simp
theorem op_catT : OpR X (binaryOp .Add) (rCatT X.K) := by
  intro pins s σ H x y v u Q I rx ry h
  obtain ⟨a, b, xs, ys, rfl, rfl, ha, hb, hx, hz, q1, q2⟩ := h
  cases rx
  cases ry
  obtain ⟨its, r1, p1, _⟩ := I.tuple ha
  obtain ⟨its2, r2, p2, _⟩ := I.tuple hb
  refine HT.cat_tup p1 p2 (fun z => hx (r1.nil_iff.mp z)) (fun z => ⟨.ref a, H, I, rfl, q1 (r2.nil_iff.mp z)⟩) (fun z => ?_) (by rw [← r1.length, ← r2.length]; exact hz)
  refine ⟨.ref s.heap.objs.size, _, I.laid (t' := s.toks) (o := .tup (xs ++ ys)) (fun b ob q => Heap.get?_push_of_some _ q) (Nat.le_refl _) ?_, rfl, q2 (fun w => z (r2.nil_iff.mpr w)) _ (I.hok.fresh (Nat.le_refl _))⟩
  exact ⟨by rw [List.length_append]; exact hz, _, r1.append r2, IsTup.new _ _⟩

end
end L2

namespace L2
open PySem PySem.Spec PyProof.Rows



def ixN (n : Nat) (i : Int) : Option Nat := if 0 ≤ i then (if i < n then some i.toNat else none) else if -(n : Int) ≤ i then some (i + n).toNat else none
def atI {α : Type} (xs : List α) (i : Int) : Option α := (ixN xs.length i).bind fun j => xs[j]?
theorem ixN_seq {n : Nat} {i : Int} {j : Nat} (h : ixN n i = some j) : seqIndex? i n = some j ∧ j < n ∧ -(n : Int) ≤ i ∧ i < n := by
  unfold ixN at h
  by_cases h0 : 0 ≤ i
  · rw [if_pos h0] at h
    by_cases h1 : i < n
    · rw [if_pos h1] at h
      have e : i.toNat = j := Option.some.inj h
      exact ⟨by rw [seqIndex_of h0 h1, e], by omega, by omega, h1⟩
    · rw [if_neg h1] at h; cases h
  · rw [if_neg h0] at h
    by_cases h1 : -(n : Int) ≤ i
    · rw [if_pos h1] at h
      have e : (i + n).toNat = j := Option.some.inj h
      exact ⟨by rw [seqIndex_neg (by omega) h1, e], by omega, h1, by omega⟩
    · rw [if_neg h1] at h; cases h
theorem atI_get {α : Type} {xs : List α} {i : Int} {v : α} (h : atI xs i = some v) : ∃ j, seqIndex? i xs.length = some j ∧ xs[j]? = some v ∧ j < xs.length ∧ -(xs.length : Int) ≤ i ∧ i < xs.length := by
  unfold atI at h
  cases e : ixN xs.length i with
  | none => rw [e] at h; cases h
  | some j =>
    rw [e] at h
    obtain ⟨h1, h2, h3, h4⟩ := ixN_seq e
    exact ⟨j, h1, h, h2, h3, h4⟩
theorem atI_nat {α : Type} {xs : List α} {j : Nat} {v : α} (h : xs[j]? = some v) : atI xs (j : Int) = some v := by
  have hj : j < xs.length := (List.getElem?_eq_some_iff.mp h).1
  have e : ixN xs.length (j : Int) = some j := by
    unfold ixN
    rw [if_pos (by omega), if_pos (by omega)]; simp
  unfold atI; rw [e]; exact h
def PlainIx (b : Expr) : Prop := ∀ o i, subscripted b false o i = operate [o, i] (getItem o i)

def IxR (X : Cx) (r : R2) : Prop :=
  ∀ (value slice : Expr) (pins : List (Addr × Obj)) (s : Shared) (σ : St) (H : Hp) (x y : V) (v u : Value) (Q : VK), Inv X pins σ H s → RelV x v → RelV y u → r x y H Q →
    subscripted slice false v u = operate [v, u] (getItem v u) → wpAny (model X.prog X.w) X.A (subscriptTail value slice v u) (EP X pins σ Q) X.xe s

def MtR (X : Cx) (id : String) (r : V → List V → Hp → VK → Prop) : Prop :=
  ∀ (pins : List (Addr × Obj)) (s : Shared) (σ : St) (H : Hp) (x : V) (xs : List V) (v : Value) (us : List Value) (Q : VK), Inv X pins σ H s → RelV x v → Vals xs us → r x xs H Q →
    wpAny (model X.prog X.w) X.A (call (.builtin id) (v :: us)) (EP X pins σ Q) X.xe s
section
variable {X : Cx} {a b : Expr} {ta tb : TE} {pos : Pos}
theorem IxR.or {r r' : R2} (h : IxR X r) (h' : IxR X r') : IxR X (fun x y H Q => r x y H Q ∨ r' x y H Q) := by
  intro value slice pins s σ H x y v u Q I rx ry q hs
  rcases q with q | q
  · exact h value slice pins s σ H x y v u Q I rx ry q hs
  · exact h' value slice pins s σ H x y v u Q I rx ry q hs
theorem pe_ix {r : R2} (hr : IxR X r) (ha : PE X a ta) (hb : PE X b tb) (hs : PlainIx b) : PE X (.Subscript a b pos) (tOp r ta tb) := by
  intro pins s σ H Q I h
  exact Subscript_ (binT ha hb I h fun v u s2 x y H2 I2 rx ry q => hr a b pins s2 σ H2 x y v u Q I2 rx ry q (hs _ _))

def rIxL (K : PySem.W.Frag) : R2 := fun x y H Q => ∃ p xs i v, x = .ref p ∧ y = .int i ∧ SqL K H p xs ∧ atI xs i = some v ∧ Q v H
def rIxT (K : PySem.W.Frag) : R2 := fun x y H Q => ∃ p xs i v, x = .ref p ∧ y = .int i ∧ SqT K H p xs ∧ atI xs i = some v ∧ Q v H
def rIxS : R2 := fun x y H Q => ∃ z i c, x = .str z ∧ y = .int i ∧ z.length ≤ sizeLine ∧ atI z.cps.toList i = some c ∧ Q (.str ⟨#[c]⟩) H
theorem ix_list : IxR X (rIxL X.K) := by
  intro value slice pins s σ H x y v u Q I rx ry h hs
  obtain ⟨p, xs, i, z, rfl, rfl, hq, he, q⟩ := h
  cases rx
  obtain ⟨t, rfl⟩ := ry
  obtain ⟨its, r, pl, hz⟩ := I.list hq
  obtain ⟨j, h1, h2, h3, h4, h5⟩ := atI_get he
  obtain ⟨w, ew, rw'⟩ := r.get h2
  have hl := r.length
  have hn := line63
  have fin : EP X pins σ Q w s := ⟨z, H, I, rw', q⟩
  by_cases h0 : 0 ≤ i
  · have hj : i.toNat = j := by
      rw [seqIndex_of h0 h5] at h1
      exact Option.some.inj h1
    exact item_listR pl.isList h0 (by omega) (by rw [hj]; simpa using ew) fin hs
  · have hj : (i + (its.toArray.size : Int)).toNat = j := by
      rw [seqIndex_neg (by omega) h4] at h1
      rw [List.size_toArray, ← hl]
      exact Option.some.inj h1
    exact subscriptTail_builtinR (x := w) pl.isList.typeIs slot_list_getitem.lookup
      (wpAny_getItem_list_neg (Q := fun r s' => r = w ∧ EP X pins σ Q r s') pl.isList (by omega) (by rw [List.size_toArray] <;> omega) (by omega) (by rw [hj]; simpa using ew) ⟨rfl, fin⟩) hs
theorem ix_tup : IxR X (rIxT X.K) := by
  intro value slice pins s σ H x y v u Q I rx ry h hs
  obtain ⟨p, xs, i, z, rfl, rfl, hq, he, q⟩ := h
  cases rx
  obtain ⟨t, rfl⟩ := ry
  obtain ⟨its, r, pl, hz⟩ := I.tuple hq
  obtain ⟨j, h1, h2, h3, h4, h5⟩ := atI_get he
  obtain ⟨w, ew, rw'⟩ := r.get h2
  have hl := r.length
  have hn := line63
  have fin : EP X pins σ Q w s := ⟨z, H, I, rw', q⟩
  exact subscriptTail_builtinR (x := w) pl.typeIs slot_tuple_getitem.lookup
    (getItem_tuple (j := j) (Q := fun r s' => r = w ∧ EP X pins σ Q r s') pl (by omega) (by omega) (by rw [List.size_toArray, ← hl]; exact h1) (by simpa using ew) ⟨rfl, fin⟩) hs
theorem ix_str : IxR X rIxS := by
  intro value slice pins s σ H x y v u Q I rx ry h hs
  obtain ⟨z, i, c, rfl, rfl, hz, he, q⟩ := h
  obtain ⟨t, rfl⟩ := rx
  obtain ⟨t', rfl⟩ := ry
  obtain ⟨j, h1, h2, h3, h4, h5⟩ := atI_get he
  have hl : z.cps.toList.length = z.length := by simp [Str.length]
  rw [hl] at h1 h4 h5
  have hn := line63
  exact tail_any (typeIs_str s z t) slot_str_getitem.lookup (getItem_str (c := c) (by
    have e1 : decide (i < -(2 ^ 63 : Int)) = false := decide_eq_false (by omega)
    have e2 : decide (i ≥ 2 ^ 63) = false := decide_eq_false (by omega)
    rw [e1, e2, Bool.or_false]) (by rw [h1]; simpa using h2) ⟨.str ⟨#[c]⟩, H, I.tok _, ⟨_, rfl⟩, q⟩) hs

def rIx (K : PySem.W.Frag) : R2 := fun x y H Q => rIxL K x y H Q ∨ rIxT K x y H Q ∨ rIxS x y H Q
theorem ix_seq : IxR X (rIx X.K) := ix_list.or (ix_tup.or ix_str)



theorem mapSeq_set (its : List Value) (n j : Nat) (u : Value) : Obj.mapSeq (·.setIfInBounds j u) { cls := .type "list", data := .seq its.toArray n } = { cls := .type "list", data := .seq (its.set j u).toArray n } := by
  simp [Obj.mapSeq]
theorem Inv.lst {pins : List (Addr × Obj)} {σ : St} {H : Hp} {s : Shared} {p : Addr} {xs : List V} (I : Inv X pins σ H s) (h : H p = some (.lst xs)) :
    ∃ (its : List Value) (n : Nat), Vals xs its ∧ s.heap.get? p = some { cls := .type "list", data := .seq its.toArray n } ∧ xs.length ≤ sizeLine := by
  obtain ⟨z, its, n, r, e⟩ := I.hok p _ h
  exact ⟨its, n, r, e, z⟩

theorem Inv.lstUpd {pins : List (Addr × Obj)} {σ : St} {H : Hp} {s : Shared} {p : Addr} {xs ys : List V} {its its' : List Value} {n n' : Nat} {f : Obj → Obj} (I : Inv X pins σ H s) (h : H p = some (.lst xs))
    (ho : s.heap.get? p = some { cls := .type "list", data := .seq its.toArray n }) (hf : f { cls := .type "list", data := .seq its.toArray n } = { cls := .type "list", data := .seq its'.toArray n' }) (r : Vals ys its') (hz : ys.length ≤ sizeLine) (t : Nat) :
    Inv X pins σ (upd H p (.lst ys)) { s with heap := s.heap.update p f, toks := t } := by
  have e : (s.heap.update p f).get? p = some { cls := .type "list", data := .seq its'.toArray n' } := by
    rw [Heap.get?_update_self f ho (by rw [hf] <;> rfl), hf]
  refine I.write (x := p) (e := p) (by rw [h]; trivial) (.inl rfl) (fun b u hb q => (Heap.get?_update_other _ _ (Ne.symm hb)).trans q) ⟨_, e⟩ ?_
  exact ⟨hz, its', n', r, e⟩
def rSetL : V → V → V → Hp → (Hp → Prop) → Prop := fun o i v H Q => ∃ p xs k j, o = .ref p ∧ i = .int k ∧ H p = some (.lst xs) ∧ ixN xs.length k = some j ∧ Q (upd H p (.lst (xs.set j v)))
theorem set_list : PSet X rSetL := by
  intro pins s σ H o i v ov iv u Q I ro ri rv h
  obtain ⟨p, xs, k, j, rfl, rfl, hp, hj, q⟩ := h
  cases ro
  obtain ⟨t, rfl⟩ := ri
  obtain ⟨its, n, r, ho, hz⟩ := I.lst hp
  obtain ⟨h1, h2, h3, h4⟩ := ixN_seq hj
  have hl := r.length
  have hn := line63
  have I' : Inv X pins σ (upd H p (.lst (xs.set j v))) { s with heap := s.heap.update p (Obj.mapSeq (·.setIfInBounds j u)) } :=
    I.lstUpd hp ho (mapSeq_set its n j u) (r.set rv j) (by rw [List.length_set]; exact hz) s.toks
  by_cases h0 : 0 ≤ k
  · have hk : k.toNat = j := by
      rw [seqIndex_of h0 h4] at h1
      exact Option.some.inj h1
    exact PySem.W.ki_setAt ho h0 (by omega) (by rw [List.size_toArray, ← hl]; exact h4) (by rw [hk]; exact ⟨_, I', q⟩)
  · have hk : (k + (its.toArray.size : Int)).toNat = j := by
      rw [seqIndex_neg (by omega) h3] at h1
      rw [List.size_toArray, ← hl]
      exact Option.some.inj h1
    exact PySem.W.ki_setBack ho (by omega) (by rw [List.size_toArray, ← hl]; exact h3) (by omega) (by rw [hk]; exact ⟨_, I', q⟩)


theorem slice_bounds (lo hi : Option Int) (n : Nat) : (sliceBounds lo hi none n).1 = ((HT.sIx n 0 lo : Nat) : Int) ∧ (sliceBounds lo hi none n).2.1 = ((HT.sIx n n hi : Nat) : Int) ∧ (sliceBounds lo hi none n).2.2 = 1 := by
  refine ⟨?_, ?_, rfl⟩
  · cases lo with
    | none => simp [sliceBounds, HT.sIx]
    | some i =>
      simp only [sliceBounds, HT.sIx, Option.getD_none, show (1 : Int) > 0 by decide, if_true]
      by_cases h : i < 0
      · simp only [h, if_true] <;> omega
      · simp only [h, if_false] <;> omega
  · cases hi with
    | none => simp [sliceBounds, HT.sIx]
    | some i =>
      simp only [sliceBounds, HT.sIx, Option.getD_none, show (1 : Int) > 0 by decide, if_true]
      by_cases h : i < 0
      · simp only [h, if_true] <;> omega
      · simp only [h, if_false] <;> omega
theorem slicePick_cut (its : List Value) (lo hi : Option Int) : slicePick its.toArray lo hi none = ((its.drop (HT.sIx its.length 0 lo)).take (HT.sIx its.length its.length hi - HT.sIx its.length 0 lo)).toArray := by
  obtain ⟨h1, h2, h3⟩ := slice_bounds lo hi its.toArray.size
  unfold slicePick
  rw [h1, h2, h3]
  simp only [sliceRange_one, pick_run, List.size_toArray] <;> rfl

def rSlL (K : PySem.W.Frag) : V → Option Int → Option Int → Hp → VK → Prop := fun x lo hi H Q => ∃ a xs, x = .ref a ∧ SqL K H a xs ∧ ∀ p, H p = none → Q (.ref p) (upd H p (.lst (cutV xs lo hi)))
theorem sl_list : SlR X (rSlL X.K) := by
  intro pins s σ H x v vl vu lo hi sl Q I rx hs pl pu h
  obtain ⟨a, xs, rfl, hx, q⟩ := h
  cases rx
  obtain ⟨its, r, ht, hz⟩ := I.list hx
  have hlen := r.length
  refine ⟨"list", _, slot_list_getitem.lookup, ht.isList.typeIs, ?_⟩
  refine wpAny_getItem_list_slice ht.isList hs pl pu .none (by simp) ?_ (by rw [List.size_toArray] <;> omega)
  rw [slicePick_cut, ← hlen]
  refine ⟨.ref s.heap.objs.size, _, I.laid (t' := s.toks) (o := .lst (cutV xs lo hi)) (fun b ob q => Heap.get?_push_of_some _ q) (Nat.le_refl _) ?_, rfl, q _ (I.hok.fresh (Nat.le_refl _))⟩
  exact ⟨Nat.le_trans (cutV_length xs lo hi) hz, _, 0, (r.drop (HT.sIx xs.length 0 lo)).take (HT.sIx xs.length xs.length hi - HT.sIx xs.length 0 lo), Heap.get?_push_size _ rfl⟩


def flatV : V → Bool
  | .non => true
  | .bl _ => true
  | .int _ => true
  | .str _ => true
  | _ => false

def eqV : V → V → Bool
  | .non, .non => true
  | .bl a, .bl b => a == b
  | .bl a, .int b => (if a then 1 else 0) == b
  | .int a, .bl b => a == (if b then 1 else 0)
  | .int a, .int b => a == b
  | .str a, .str b => a == b
  | _, _ => false
theorem eqAt_V {A : Around} {s : Shared} {y x : V} {u v : Value} (ry : RelV y u) (rx : RelV x v) (fy : flatV y = true) (fx : flatV x = true) : SeqAt.EqAt A s u v (eqV y x) := by
  cases y with
  | non =>
    cases ry
    cases x with
    | non => cases rx; exact SeqAt.EqAt.same _
    | bl b => cases rx; exact SeqAt.EqAt.none_bool b
    | int b => obtain ⟨t, rfl⟩ := rx; exact SeqAt.EqAt.none_int b t
    | str b => obtain ⟨t, rfl⟩ := rx; exact SeqAt.EqAt.none_str b t
    | _ => exact absurd (show false = true from fx) Bool.false_ne_true
  | bl a =>
    cases ry
    cases x with
    | non => cases rx; exact SeqAt.EqAt.bool_none a
    | bl b => cases rx; exact SeqAt.EqAt.bool_bool a b
    | int b => obtain ⟨t, rfl⟩ := rx; exact SeqAt.EqAt.bool_int a b t
    | str b => obtain ⟨t, rfl⟩ := rx; exact SeqAt.EqAt.bool_str a b t
    | _ => exact absurd (show false = true from fx) Bool.false_ne_true
  | int a =>
    obtain ⟨t', rfl⟩ := ry
    cases x with
    | non => cases rx; exact SeqAt.EqAt.int_none a t'
    | bl b => cases rx; exact SeqAt.EqAt.int_bool a t' b
    | int b => obtain ⟨t, rfl⟩ := rx; exact SeqAt.EqAt.int_int a t' b t
    | str b => obtain ⟨t, rfl⟩ := rx; exact SeqAt.EqAt.int_str a t' b t
    | _ => exact absurd (show false = true from fx) Bool.false_ne_true
  | str a =>
    obtain ⟨t', rfl⟩ := ry
    cases x with
    | non => cases rx; exact SeqAt.EqAt.str_none a t'
    | bl b => cases rx; exact SeqAt.EqAt.str_bool a t' b
    | int b => obtain ⟨t, rfl⟩ := rx; exact SeqAt.EqAt.str_int a t' b t
    | str b => obtain ⟨t, rfl⟩ := rx; exact SeqAt.EqAt.str_str a t' b t
    | _ => exact absurd (show false = true from fx) Bool.false_ne_true
  | _ => exact absurd (show false = true from fy) Bool.false_ne_true

def eqU (x : V) (u : Value) : Bool := match u with
  | .none => eqV .non x
  | .bool b => eqV (.bl b) x
  | .int i _ => eqV (.int i) x
  | .str z _ => eqV (.str z) x
  | _ => false
theorem eqU_of {x y : V} {u : Value} (r : RelV y u) (f : flatV y = true) : eqU x u = eqV y x := by
  cases y with
  | non => cases r; rfl
  | bl b => cases r; rfl
  | int i => obtain ⟨t, rfl⟩ := r; rfl
  | str z => obtain ⟨t, rfl⟩ := r; rfl
  | _ => exact absurd (show false = true from f) Bool.false_ne_true
theorem any_eqU {x : V} : ∀ {xs : List V} {us : List Value}, Vals xs us → xs.all flatV = true → us.any (eqU x) = xs.any fun y => eqV y x
  | _, _, .nil, _ => rfl
  | y :: xs, u :: us, .cons r t, f => by
    rw [List.all_cons, Bool.and_eq_true] at f
    rw [List.any_cons, List.any_cons, eqU_of r f.1, any_eqU t f.2]
theorem mem_eqAt {A : Around} {s : Shared} {x : V} {v : Value} (rx : RelV x v) (fx : flatV x = true) : ∀ {xs : List V} {us : List Value}, Vals xs us → xs.all flatV = true → ∀ u ∈ us, SeqAt.EqAt A s u v (eqU x u)
  | _, _, .nil, _ => fun u hu => by cases hu
  | y :: xs, u :: us, .cons r t, f => fun u' hu => by
    rw [List.all_cons, Bool.and_eq_true] at f
    rcases List.mem_cons.mp hu with rfl | hu
    · rw [eqU_of r f.1]; exact eqAt_V r rx f.1 fx
    · exact mem_eqAt rx fx t f.2 u' hu
def inV (x : V) (xs : List V) : Bool := xs.any fun y => eqV y x

def rIn (K : PySem.W.Frag) (neg : Bool) : R2 := fun x y H Q => ∃ p xs, y = .ref p ∧ (SqL K H p xs ∨ SqT K H p xs) ∧ flatV x = true ∧ xs.all flatV = true ∧ Q (.bl (if neg then !inV x xs else inV x xs)) H
theorem op_in_seq : OpR X (compareOp .In) (rIn X.K false) := by
  intro pins s σ H x y v u Q I rx ry h
  obtain ⟨p, xs, rfl, hq, fx, fs, q⟩ := h
  cases ry
  rcases hq with hq | hq
  · obtain ⟨its, r, pl, hz⟩ := I.list hq
    refine SeqAt.in_listAt (eqU x) pl.isList (fun w hw => mem_eqAt rx fx r fs w (by simpa using hw)) ⟨.bl _, H, I, rfl, ?_⟩
    rw [show its.toArray.any (eqU x) = its.any (eqU x) by simp, any_eqU r fs]
    exact q
  · obtain ⟨its, r, pl, hz⟩ := I.tuple hq
    refine SeqAt.in_tupleAt (eqU x) pl (fun w hw => mem_eqAt rx fx r fs w (by simpa using hw)) ⟨.bl _, H, I, rfl, ?_⟩
    rw [show its.toArray.any (eqU x) = its.any (eqU x) by simp, any_eqU r fs]
    exact q
theorem call_list_of : CallR X (.type "list") (fun xs H Q => ∃ p ys, xs = [.ref p] ∧ (SqL X.K H p ys ∨ SqT X.K H p ys) ∧ ∀ l, H l = none → Q (.ref l) (upd H l (.lst ys))) := by
  intro pins s σ H xs us Q I r h
  obtain ⟨p, ys, rfl, hq, q⟩ := h
  obtain ⟨u, rfl, rx⟩ := vals1 r
  cases rx
  have fin : ∀ (its : List Value), Vals ys its → ys.length ≤ sizeLine → ∀ (h' : Heap) (c' : Nat), (∀ b o', s.heap.get? b = some o' → h'.get? b = some o') →
      h'.get? s.heap.objs.size = some { cls := .type "list", dict := none, data := .seq its.toArray c', slots := #[] } → EP X pins σ Q (.ref s.heap.objs.size) { s with heap := h' } := fun its r' hz h' c' kp e =>
    ⟨.ref s.heap.objs.size, _, I.laid (t' := s.toks) kp (Nat.le_refl _) (show ObjOk X.prog X.w _ h' _ (.lst ys) from ⟨hz, its, c', r', e⟩), rfl, q _ (I.hok.fresh (Nat.le_refl _))⟩
  rcases hq with hq | hq
  · obtain ⟨its, r', pl, hz⟩ := I.list hq
    have hlen := r'.length
    obtain ⟨o, ho, hc, n, hd⟩ := pl.isList
    exact call_list_seq p (.inl rfl) ho hc hd (fun h' c' kp e => fin its r' hz h' c' kp e) (by simp only [List.size_toArray] <;> omega)
  · obtain ⟨its, r', pl, hz⟩ := I.tuple hq
    have hlen := r'.length
    obtain ⟨o, ho, hc, n, hd⟩ := pl
    exact call_list_seq p (.inr rfl) ho hc hd (fun h' c' kp e => fin its r' hz h' c' kp e) (by simp only [List.size_toArray] <;> omega)
def tyV (K : PySem.W.Frag) (T : String) (x : V) (H : Hp) : Prop := match x with
  | .str _ => T = "str"
  | .int _ => T = "int"
  | .ref p => (T = "list" ∧ ∃ xs, SqL K H p xs) ∨ (T = "tuple" ∧ ∃ o, K.lookup p = some o ∧ o.cls = .type "tuple" ∧ o.dict = none) ∨
      (T = "dict" ∧ ((∃ kvs, H p = some (.dK kvs)) ∨ ∃ kvs, H p = some (.dT kvs))) ∨ (T = "set" ∧ ∃ S n, H p = some (.set S n))
  | _ => False
theorem tyV_is {pins : List (Addr × Obj)} {σ : St} {H : Hp} {s : Shared} {T : String} {x : V} {v : Value} (I : Inv X pins σ H s) (r : RelV x v) (ty : tyV X.K T x H) :
    s.TypeIs v T ∧ ∀ a, v = .ref a → ∃ ob, s.heap.get? a = some ob ∧ ob.dict = none := by
  cases x with
  | str z =>
    obtain ⟨t, rfl⟩ := r
    cases (show T = "str" from ty)
    exact ⟨typeIs_str s z t, fun _ e => nomatch e⟩
  | int i =>
    obtain ⟨t, rfl⟩ := r
    cases (show T = "int" from ty)
    exact ⟨typeIs_int s i t, fun _ e => nomatch e⟩
  | ref p =>
    cases r
    rcases ty with ⟨rfl, xs, hq⟩ | ⟨rfl, o, hk, hc, hd⟩ | ⟨rfl, hk⟩ | ⟨rfl, S, n, hk⟩
    · obtain ⟨its, _, pl, _⟩ := I.list hq
      refine ⟨pl.isList.typeIs, fun a e => ?_⟩
      cases e
      obtain ⟨o, n, e, c, hd, _⟩ := pl
      exact ⟨o, e, hd⟩
    · refine ⟨⟨o, I.kIn p o hk, hc⟩, fun a e => ?_⟩
      cases e
      exact ⟨o, I.kIn _ o hk, hd⟩
    · have z : ∃ o, s.heap.get? p = some o ∧ o.ExactDict := by
        rcases hk with ⟨kvs, hk⟩ | ⟨kvs, hk⟩
        · obtain ⟨_, _, _, _, o, _, _, e, ex, _⟩ := I.hok p _ hk
          exact ⟨o, e, ex⟩
        · obtain ⟨_, _, _, _, o, _, _, e, ex, _⟩ := I.hok p _ hk
          exact ⟨o, e, ex⟩
      obtain ⟨o, e, ex⟩ := z
      refine ⟨⟨o, e, ex.1⟩, fun a e2 => ?_⟩
      cases e2
      exact ⟨o, e, ex.2.1⟩
    · obtain ⟨o, _, _, _, e, ex, _⟩ := I.hok p _ hk
      refine ⟨⟨o, e, ex.1⟩, fun a e2 => ?_⟩
      cases e2
      exact ⟨o, e, ex.2.1⟩
  | _ => exact False.elim ty
def tBM0 (K : PySem.W.Frag) (T : String) (r : V → List V → Hp → VK → Prop) (to : TE) : TE := fun σ H Q => to σ H fun x H1 => tyV K T x H1 ∧ r x [] H1 Q
def tBM (K : PySem.W.Frag) (T : String) (r : V → List V → Hp → VK → Prop) (to : TE) (t : TA) : TE := fun σ H Q => to σ H fun x H1 => tyV K T x H1 ∧ t σ H1 fun xs H2 => r x xs H2 Q
variable {o e : Expr} {es : List Expr} {to : TE} {t : TA} {name : Str} {apos cpos : Pos} {T id : String} {r : V → List V → Hp → VK → Prop}
theorem pe_bm0 (pa : PlainAttrs T) (slot : Slot T name id) (hty : typeOf (.builtin id) = pure (.type "method_descriptor")) (hm : MtR X id r) (ho : PE X o to)
    (hbase : attributeBase o name X.env (eval o X.env) = eval o X.env := by rfl) (hline : (apos.endLine == cpos.line) = true := by rfl) : PE X (.Call (.Attribute o name apos) [] [] cpos) (tBM0 X.K T r to) := by
  intro pins s σ H Q I h
  refine wpAny_Call_method0_late hbase hline (thn (ho pins s σ H _ I h) fun v s1 ⟨x, H1, I1, r1, ty, q1⟩ => ?_)
  obtain ⟨h1, h2⟩ := tyV_is I1 r1 ty
  exact ⟨T, id, pa, slot, hty, h1, h2, Calls.callWith_builtin rfl (PySem.evalArgs_none (hm pins s1 σ H1 x [] v [] Q I1 r1 .nil q1))⟩
theorem pe_bm (pa : PlainAttrs T) (slot : Slot T name id) (hty : typeOf (.builtin id) = pure (.type "method_descriptor")) (hm : MtR X id r) (ho : PE X o to) (ha : PA X (e :: es) t)
    (hbase : attributeBase o name X.env (eval o X.env) = eval o X.env := by rfl)
    (hfew : ((backTo cpos (starEach (e :: es) X.env)).all (fun x => !x.1) && (backToKw cpos (keywordEach [] X.env)).all (fun x => x.1.isSome)
      && decide ((e :: es).length + ([] : List Keyword).length + (if ([] : List Keyword).isEmpty then 0 else 1) < 30)) = true := by rfl)
    (hline : (apos.endLine == cpos.line) = true := by rfl) (hs : starEach (e :: es) X.env = (false, eval e X.env) :: starEach es X.env := by rfl) (hplain : (backTo cpos (starEach es X.env)).any (·.1) = false := by rfl) :
    PE X (.Call (.Attribute o name apos) (e :: es) [] cpos) (tBM X.K T r to t) := by
  intro pins s σ H Q I h
  refine wpAny_Call_method_late hbase hfew hline rfl (thn (ho pins s σ H _ I h) fun v s1 ⟨x, H1, I1, r1, ty, q1⟩ => ?_)
  obtain ⟨h1, h2⟩ := tyV_is I1 r1 ty
  refine ⟨T, id, pa, slot, hty, h1, h2, ?_⟩
  have hA := ha cpos pins s1 σ H1 _ I1 q1
  rw [hs] at hA ⊢
  refine Calls.callWith_builtin (by show (false || (backTo cpos (starEach es X.env)).any (·.1)) = false; rw [hplain] <;> rfl) (Calls.evalArgs_plain ?_)
  exact thn hA fun us s2 ⟨vs, H2, I2, r2, q2⟩ => hm pins s2 σ H2 x vs v us Q I2 r1 r2 q2

end
end L2

namespace L2
open PySem PySem.Spec PyProof.Rows

def MtM (X : Cx) (id : String) (r : V → List V → Hp → VK → Prop) : Prop :=
  ∀ (pins : List (Addr × Obj)) (s : Shared) (σ : St) (H : Hp) (x : V) (xs : List V) (v : Value) (us : List Value) (Q : VK), Inv X pins σ H s → RelV x v → Vals xs us → r x xs H Q →
    wpAny (model X.prog X.w) X.A (call (.builtin id) (v :: us)) (EP X pins σ Q) X.xe s


theorem Vals.one : ∀ {x : V} {us : List Value}, Vals [x] us → ∃ u, us = [u] ∧ RelV x u
  | _, _, .cons r .nil => ⟨_, rfl, r⟩
theorem Vals.zero : ∀ {us : List Value}, Vals [] us → us = []
  | _, .nil => rfl
theorem Vals.dropLast {xs : List V} {us : List Value} (h : Vals xs us) : Vals xs.dropLast us.dropLast := by
  induction h with
  | nil => exact .nil
  | cons r t ih =>
    cases t with
    | nil => exact .nil
    | cons q t' => exact .cons r ih
theorem Vals.rep {xs : List V} {us : List Value} (h : Vals xs us) : ∀ k : Nat, Vals (List.replicate k xs).flatten (List.replicate k us).flatten
  | 0 => .nil
  | k + 1 => by
    rw [List.replicate_succ, List.replicate_succ, List.flatten_cons, List.flatten_cons]
    exact Vals.append h (Vals.rep h k)
theorem erase_last {α : Type} (l : List α) : l.eraseIdx (l.length - 1) = l.dropLast := by
  induction l with
  | nil => rfl
  | cons a r ih =>
    cases r with
    | nil => rfl
    | cons b r =>
      have e : (a :: b :: r).length - 1 = ((b :: r).length - 1) + 1 := by
        have h1 : (a :: b :: r).length = r.length + 2 := rfl
        have h2 : (b :: r).length = r.length + 1 := rfl
        omega
      rw [e, List.eraseIdx_cons_succ, ih]
      all_goals rfl
theorem foldl_rep (its : List Value) : ∀ (k : Nat) (acc : List Value),
    List.foldl (fun x1 x2 => x1 ++ x2) acc.toArray (List.replicate k its.toArray) = (acc ++ (List.replicate k its).flatten).toArray
  | 0, acc => by simp
  | k + 1, acc => by
    have e : acc.toArray ++ its.toArray = (acc ++ its).toArray := by simp
    have e2 : (acc ++ its) ++ (List.replicate k its).flatten = acc ++ (List.replicate (k + 1) its).flatten := by
      rw [List.replicate_succ, List.flatten_cons, List.append_assoc]
    rw [← e2, ← foldl_rep its k (acc ++ its), ← e, List.replicate_succ, List.foldl_cons]

section
variable {X : Cx} {pins : List (Addr × Obj)} {σ : St} {H : Hp} {s : Shared} {l b : Addr} {xs ys zs : List V}


theorem Inv.lset {its its' : List Value} {n : Nat} {f : Array Value → Array Value} {t' : Nat} (I : Inv X pins σ H s) (hH : H l = some (.lst xs))
    (e : s.heap.get? l = some { cls := .type "list", data := .seq its.toArray n }) (hf : f its.toArray = its'.toArray) (hv : Vals ys its') (hz : ys.length ≤ sizeLine) :
    Inv X pins σ (upd H l (.lst ys)) { s with heap := s.heap.update l (Obj.mapSeq f), toks := t' } := by
  have q := PySem.IsL.update e f
  rw [hf] at q
  refine I.write (x := l) (e := l) (by rw [hH]; exact trivial) (.inl rfl) (fun b' u hb hu => (Heap.get?_update_other s.heap (Obj.mapSeq f) (Ne.symm hb)).trans hu) ⟨_, q⟩ ?_
  exact ⟨hz, its', _, hv, q⟩
theorem Inv.lnew {its : List Value} {t' : Nat} (I : Inv X pins σ H s) (hv : Vals ys its) (hz : ys.length ≤ sizeLine) :
    Inv X pins σ (upd H s.heap.objs.size (.lst ys)) { s with heap := s.heap.push { cls := .type "list", data := .seq its.toArray }, toks := t' } :=
  I.laid (fun _ _ q => Heap.get?_push_of_some _ q) (Nat.le_refl _) ⟨hz, its, 0, hv, Heap.get?_push_size _ rfl⟩
theorem Inv.fresh (I : Inv X pins σ H s) : H s.heap.objs.size = none := I.hok.fresh (Nat.le_refl _)
theorem Inv.lstM (I : Inv X pins σ H s) (hH : H l = some (.lst xs)) : xs.length ≤ sizeLine ∧ ∃ (its : List Value) (n : Nat), Vals xs its ∧ xs.length = its.length ∧ s.heap.get? l = some { cls := .type "list", data := .seq its.toArray n } := by
  obtain ⟨z, its, n, r, e⟩ := I.hok l _ hH
  exact ⟨z, its, n, r, r.length, e⟩

theorem notLongL {n : Nat} (h : n ≤ sizeLine) : Builtin.List.listTooLong n = false := by
  unfold Builtin.List.listTooLong
  exact decide_eq_false (by omega)
end

section
variable {X : Cx}


def rAppend : V → List V → Hp → VK → Prop := fun x vs H Q => ∃ l xs y, x = .ref l ∧ vs = [y] ∧ H l = some (.lst xs) ∧ xs.length < sizeLine ∧ Q .non (upd H l (.lst (xs ++ [y])))
theorem mt_append : MtM X "list.append" rAppend := by
  intro pins s σ H x vs v us Q I rx rv h
  obtain ⟨l, xs, y, rfl, rfl, hH, hz, q⟩ := h
  cases rx
  obtain ⟨u, rfl, ru⟩ := rv.one
  obtain ⟨z, its, n, r, hl, e⟩ := I.lstM hH
  refine call_meets F.slot_list_append ⟨_, e, rfl⟩ F.entry_list_append (F.args_list_append_2 _ _) (PySem.list_append l its.toArray n u (by rw [List.size_toArray]; omega)) ⟨e, ?_⟩
  refine ⟨.non, _, I.lset (its' := its ++ [u]) hH e (by simp) (r.append (.cons ru .nil)) ?_, rfl, q⟩
  rw [List.length_append, List.length_singleton]
  omega

def rPop : V → List V → Hp → VK → Prop := fun x vs H Q => ∃ l xs y, x = .ref l ∧ vs = [] ∧ H l = some (.lst xs) ∧ xs[xs.length - 1]? = some y ∧ Q y (upd H l (.lst xs.dropLast))
theorem mt_pop : MtM X "list.pop" rPop := by
  intro pins s σ H x vs v us Q I rx rv h
  obtain ⟨l, xs, y, rfl, rfl, hH, hy, q⟩ := h
  cases rx
  have hus := rv.zero
  subst hus
  obtain ⟨z, its, n, r, hl, e⟩ := I.lstM hH
  obtain ⟨u, hu, ru⟩ := r.get hy
  have hy' : its.toArray[its.toArray.size - 1]? = some u := by
    show its.toArray[its.length - 1]? = some u
    rw [← Array.getElem?_toList, ← hl]
    exact hu
  refine call_meets F.slot_list_pop ⟨_, e, rfl⟩ F.entry_list_pop (F.args_list_pop_1 _) (MeetsSeq.list_pop_last l its.toArray n u hy' (by rw [List.size_toArray]; omega)) ⟨e, ?_⟩
  refine ⟨y, _, I.lset (its' := its.dropLast) hH e ?_ r.dropLast ?_, ru, q⟩
  · show its.toArray.eraseIdxIfInBounds (its.toArray.size - 1) = its.dropLast.toArray
    rw [List.size_toArray, List.eraseIdxIfInBounds_toArray, erase_last]
  · rw [List.length_dropLast]
    omega

def rClear : V → List V → Hp → VK → Prop := fun x vs H Q => ∃ l xs, x = .ref l ∧ vs = [] ∧ H l = some (.lst xs) ∧ Q .non (upd H l (.lst []))
theorem mt_clear : MtM X "list.clear" rClear := by
  intro pins s σ H x vs v us Q I rx rv h
  obtain ⟨l, xs, rfl, rfl, hH, q⟩ := h
  cases rx
  have hus := rv.zero
  subst hus
  obtain ⟨z, its, n, r, hl, e⟩ := I.lstM hH
  refine call_meets F.slot_list_clear ⟨_, e, rfl⟩ F.entry_list_clear (F.args_list_clear_1 _) (AutoSeq1.list_clear_list_0 l its.toArray n (by rw [List.size_toArray]; omega)) ⟨e, ?_⟩
  exact ⟨.non, _, I.lset (its' := []) (ys := []) hH e rfl .nil (Nat.zero_le _), rfl, q⟩


def rCat : R2 := fun x y H Q => ∃ l b xs zs, x = .ref l ∧ y = .ref b ∧ H l = some (.lst xs) ∧ H b = some (.lst zs) ∧ xs.length + zs.length ≤ sizeLine ∧ ∀ p, H p = none → Q (.ref p) (upd H p (.lst (xs ++ zs)))
theorem op_cat : OpR X (binaryOp .Add) rCat := by
  intro pins s σ H x y v u Q I rx ry h
  obtain ⟨l, b, xs, zs, rfl, rfl, hH, hB, hz, q⟩ := h
  cases rx
  cases ry
  obtain ⟨z, its, n, r, hl, e⟩ := I.lstM hH
  obtain ⟨z2, its2, n2, r2, hl2, e2⟩ := I.lstM hB
  refine PySem.P.add_list e e2 ?_ (by rw [List.size_toArray, List.size_toArray]; omega)
  have ea : its.toArray ++ its2.toArray = (its ++ its2).toArray := by simp
  rw [ea]
  exact ⟨.ref _, _, I.lnew (t' := s.toks) (r.append r2) (by rw [List.length_append]; omega), rfl, q _ I.fresh⟩

def rRep : R2 := fun x y H Q => ∃ l k xs, x = .ref l ∧ y = .int k ∧ H l = some (.lst xs) ∧ -(2 ^ 63) ≤ k ∧ k < 2 ^ 63 ∧ xs.length * k.toNat ≤ sizeLine ∧
  ∀ p, H p = none → Q (.ref p) (upd H p (.lst (List.replicate k.toNat xs).flatten))
theorem len_rep {α : Type} (xs : List α) (k : Nat) : (List.replicate k xs).flatten.length = k * xs.length := by
  induction k with
  | zero => simp
  | succ k ih => rw [List.replicate_succ, List.flatten_cons, List.length_append, ih, Nat.succ_mul, Nat.add_comm]
theorem op_rep : OpR X (binaryOp .Mult) rRep := by
  intro pins s σ H x y v u Q I rx ry h
  obtain ⟨l, k, xs, rfl, rfl, hH, h1, h2, hz, q⟩ := h
  cases rx
  obtain ⟨t, rfl⟩ := ry
  obtain ⟨z, its, n, r, hl, e⟩ := I.lstM hH
  have hlen : its.toArray.size * k.toNat ≤ sizeLine := by rw [List.size_toArray, ← hl]; exact hz
  have hcap : ¬ its.toArray.size * k.toNat > (2 ^ 63 - 1) / 8 := by
    have : (sizeLine : Nat) ≤ (2 ^ 63 - 1) / 8 := by decide
    omega
  have hfit : ¬ (!Builtin.List.listFitsIndex k) = true := by
    rw [fitsIndex_both h1 h2]
    exact Bool.false_ne_true
  have hlong : ¬ Builtin.List.listTooLong (its.toArray.size * k.toNat) = true := by
    rw [notLongL hlen]
    exact Bool.false_ne_true
  have hnew : List.foldl (fun x1 x2 => x1 ++ x2) #[] (List.replicate (if its.toArray.isEmpty = true then 0 else k.toNat) its.toArray) = (List.replicate k.toNat its).flatten.toArray := by
    have f0 : ∀ m : Nat, List.foldl (fun x1 x2 => x1 ++ x2) #[] (List.replicate m its.toArray) = (List.replicate m its).flatten.toArray := fun m => by
      have := foldl_rep its m []
      rw [List.nil_append] at this
      exact this
    rw [f0]
    cases its with
    | nil => simp
    | cons a r' => rw [if_neg (by simp)]
  refine wpAny_binaryOp_repeat_ref (T := "list") (U := "int") (by decide) ⟨_, e, rfl⟩ (fun s' => typeIs_int s' k t) noFill_list_mul F.fills_int_mul F.slot_int_rmul repeat_list F.slot_int_index.lookup
    (call_meets F.slot_int_rmul (typeIs_int s k t) F.entry_int_rmul (F.args_int_rmul_2 _ _) (int___rmul___int_list k t l its.toArray n)
      ⟨e, rfl, ⟨_, e, rfl⟩, call_meets F.slot_list_mul ⟨_, e, rfl⟩ F.entry_list_mul (F.args_list_mul_2 _ _) (AutoListH.list___mul___list_int_3 l its.toArray n k t hfit hcap hlong) ⟨e, ?_⟩⟩)
  rw [hnew]
  exact ⟨.ref _, _, I.lnew (t' := s.toks) (r.rep k.toNat) (by rw [len_rep, Nat.mul_comm]; exact hz), rfl, q _ I.fresh⟩


end


section
variable {prog : Program} {w : World} {A : Around} {E : Value → Shared → Prop} {s : Shared}
end

section
variable {X : Cx}

end
end L2

namespace L2
open PySem PySem.Spec PyProof.Rows


section
variable {κ : Type} [DecidableEq κ]
def valV (kvs : List (κ × V)) (k : κ) : Option V := (kvs.find? fun kv => decide (kv.1 = k)).map (·.2)

def putK (kvs : List (κ × V)) (k : κ) (v : V) : List (κ × V) :=
  if (kvs.any fun kv => decide (kv.1 = k)) = true then kvs.map (fun kv => if kv.1 = k then (kv.1, v) else kv) else kvs ++ [(k, v)]
theorem valV_pos {p : κ × V} {r : List (κ × V)} {k : κ} (e : p.1 = k) : valV (p :: r) k = some p.2 := by simp [valV, List.find?_cons, e]
theorem valV_neg {p : κ × V} {r : List (κ × V)} {k : κ} (e : ¬ p.1 = k) : valV (p :: r) k = valV r k := by simp [valV, List.find?_cons, e]
theorem valV_any (k : κ) : ∀ kvs : List (κ × V), (kvs.any fun kv => decide (kv.1 = k)) = (valV kvs k).isSome
  | [] => rfl
  | p :: r => by
    rw [List.any_cons]
    by_cases e : p.1 = k
    · simp only [valV_pos e, decide_eq_true e, Bool.true_or, Option.isSome_some]
    · rw [valV_neg e, decide_eq_false e, Bool.false_or]; exact valV_any k r
theorem valV_map (k j : κ) (y : V) : ∀ kvs : List (κ × V), valV (kvs.map fun kv => if kv.1 = k then (kv.1, y) else kv) j = (valV kvs j).map fun x => if j = k then y else x
  | [] => rfl
  | p :: r => by
    have ih := valV_map k j y r
    rw [List.map_cons]
    by_cases h : p.1 = k
    · rw [if_pos h]
      by_cases e : p.1 = j
      · rw [valV_pos (p := (p.1, y)) e, valV_pos e, Option.map_some, if_pos (e.symm.trans h)]
      · rw [valV_neg (p := (p.1, y)) e, valV_neg e, ih]
    · rw [if_neg h]
      by_cases e : p.1 = j
      · rw [valV_pos (p := p) e, valV_pos e, Option.map_some, if_neg (fun z => h (e.trans z))]
      · rw [valV_neg (p := p) e, valV_neg e, ih]
theorem valV_snoc (k j : κ) (y : V) : ∀ kvs : List (κ × V), valV kvs k = none → valV (kvs ++ [(k, y)]) j = if j = k then some y else valV kvs j
  | [], _ => by
    by_cases e : k = j
    · rw [if_pos e.symm]; exact valV_pos (p := (k, y)) e
    · rw [if_neg (fun z => e z.symm)]; exact valV_neg (p := (k, y)) e
  | p :: r, hn => by
    rw [List.cons_append]
    have hk : ¬ p.1 = k := fun z => by rw [valV_pos z] at hn; cases hn
    rw [valV_neg hk] at hn
    have ih := valV_snoc k j y r hn
    by_cases e : p.1 = j
    · rw [valV_pos e, valV_pos e, if_neg (fun z => hk (e.trans z))]
    · rw [valV_neg e, valV_neg e, ih]
theorem valV_put (kvs : List (κ × V)) (k j : κ) (y : V) : valV (putK kvs k y) j = if j = k then some y else valV kvs j := by
  unfold putK
  by_cases a : (kvs.any fun kv => decide (kv.1 = k)) = true
  · rw [if_pos a, valV_map]
    rw [valV_any] at a
    by_cases e : j = k
    · obtain ⟨x, hx⟩ := Option.isSome_iff_exists.mp a
      rw [if_pos e, e, hx, Option.map_some, if_pos rfl]
    · rw [if_neg e]
      cases valV kvs j with
      | none => rfl
      | some x => rw [Option.map_some, if_neg e]
  · rw [if_neg a]
    refine valV_snoc k j y kvs ?_
    rw [valV_any] at a
    cases q : valV kvs k with
    | none => rfl
    | some x => rw [q] at a; exact (a rfl).elim
theorem length_putK (kvs : List (κ × V)) (k : κ) (v : V) : (putK kvs k v).length ≤ kvs.length + 1 := by
  unfold putK
  split
  · rw [List.length_map]; omega
  · rw [List.length_append, List.length_cons, List.length_nil]; omega
theorem RelO.isSome_eq {o : Option V} {u : Option Value} (r : RelO o u) : o.isSome = u.isSome := by
  cases o with
  | none => cases u with
    | none => rfl
    | some _ => exact (show False from r).elim
  | some _ => cases u with
    | none => exact (show False from r).elim
    | some _ => rfl
theorem KV.val {kvs : List (κ × V)} {vs : List (κ × Value)} (r : KV kvs vs) (k : κ) : RelO (valV kvs k) (valueAt vs k) := by
  unfold KV at r
  induction r with
  | nil => exact True.intro
  | @cons p q ps qs h t ih =>
    obtain ⟨h1, h2⟩ := h
    by_cases e : p.1 = k
    · have e' : q.1 = k := h1.symm.trans e
      have b : valueAt (q :: qs) k = some q.2 := by simp [valueAt, List.find?_cons, e']
      rw [valV_pos e, b]; exact h2
    · have e' : ¬ q.1 = k := fun z => e (h1.trans z)
      have b : valueAt (q :: qs) k = valueAt qs k := by simp [valueAt, List.find?_cons, e']
      rw [valV_neg e, b]; exact ih
theorem KV.any {kvs : List (κ × V)} {vs : List (κ × Value)} (r : KV kvs vs) (k : κ) : (kvs.any fun kv => decide (kv.1 = k)) = vs.any fun kv => decide (kv.1 = k) := by
  unfold KV at r
  induction r with
  | nil => rfl
  | cons h t ih => rw [List.any_cons, List.any_cons, ih, h.1]
theorem KV.repl {kvs : List (κ × V)} {vs : List (κ × Value)} (r : KV kvs vs) (k : κ) {y : V} {u : Value} (ry : RelV y u) :
    KV (kvs.map fun kv => if kv.1 = k then (kv.1, y) else kv) (vs.map fun kv => if kv.1 = k then (kv.1, u) else kv) := by
  unfold KV at r ⊢
  induction r with
  | nil => exact .nil
  | @cons p q ps qs h t ih =>
    rw [List.map_cons, List.map_cons]
    refine .cons ?_ ih
    obtain ⟨h1, h2⟩ := h
    by_cases e : p.1 = k
    · rw [if_pos e, if_pos (h1.symm.trans e)]; exact ⟨h1, ry⟩
    · rw [if_neg e, if_neg (fun z => e (h1.trans z))]; exact ⟨h1, h2⟩
theorem KV.put {kvs : List (κ × V)} {vs : List (κ × Value)} (r : KV kvs vs) (k : κ) {y : V} {u : Value} (ry : RelV y u) : KV (putK kvs k y) (stored vs k u) := by
  unfold putK stored
  rw [r.any k]
  by_cases e : (vs.any fun kv => decide (kv.1 = k)) = true
  · rw [if_pos e, if_pos e]; exact r.repl k ry
  · rw [if_neg e, if_neg e]; exact Paired.snoc r ⟨rfl, ry⟩
theorem KV.length {kvs : List (κ × V)} {vs : List (κ × Value)} (r : KV kvs vs) : kvs.length = vs.length := Paired.length r
end



theorem kV_is {P : Program} {w : World} {k : Key} {u : Value} (r : RelV (kV k) u) : (mixKind P w).is k u = true := by
  cases k with
  | inl i => obtain ⟨t, e⟩ := (show ∃ t, u = Value.int i t from r); subst e; exact mixKind_int P w i t
  | inr x => obtain ⟨t, e⟩ := (show ∃ t, u = Value.str x t from r); subst e; exact mixKind_str P w x t
theorem items_are {P : Program} {w : World} : ∀ {ks : List Key} {us : List Value}, Vals (ks.map kV) us → ItemsAre (mixKind P w) ks us
  | [], _, r => by rw [List.map_nil] at r; cases r; exact .nil
  | k :: ks, _, r => by
    rw [List.map_cons] at r
    cases r with
    | cons h t => exact .cons (kV_is h) (items_are t)


abbrev KT (H : Hp) : List (List Key × V) → List (List Key × Addr × Value) → Prop := Paired fun p q => p.1 = q.1 ∧ H q.2.1 = some (.tup (p.1.map kV)) ∧ RelV p.2 q.2.2
theorem KT.val {H : Hp} {kvs : List (List Key × V)} {xs : List (List Key × Addr × Value)} (r : KT H kvs xs) (k : List Key) : RelO (valV kvs k) ((atKey xs k).map (·.2)) := by
  induction r with
  | nil => exact True.intro
  | @cons p q ps qs h t ih =>
    obtain ⟨h1, _, h2⟩ := h
    by_cases e : p.1 = k
    · have e' : q.1 = k := h1.symm.trans e
      have b : atKey (q :: qs) k = some q.2 := by simp [atKey, List.find?_cons, e']
      rw [valV_pos e, b]; exact h2
    · have e' : ¬ q.1 = k := fun z => e (h1.trans z)
      have b : atKey (q :: qs) k = atKey qs k := by simp [atKey, List.find?_cons, e']
      rw [valV_neg e, b]; exact ih
theorem KT.repl {H : Hp} {kvs : List (List Key × V)} {xs : List (List Key × Addr × Value)} (r : KT H kvs xs) (k : List Key) {y : V} {u : Value} (ry : RelV y u) :
    KT H (kvs.map fun kv => if kv.1 = k then (kv.1, y) else kv) (xs.map (putAt k u)) := by
  induction r with
  | nil => exact .nil
  | @cons p q ps qs h t ih =>
    rw [List.map_cons, List.map_cons]
    refine .cons ?_ ih
    obtain ⟨h1, h2, h3⟩ := h
    unfold putAt
    by_cases e : p.1 = k
    · rw [if_pos e, if_pos (h1.symm.trans e)]; exact ⟨h1, h2, ry⟩
    · rw [if_neg e, if_neg (fun z => e (h1.trans z))]; exact ⟨h1, h2, h3⟩
theorem KT.put {H : Hp} {kvs : List (List Key × V)} {xs : List (List Key × Addr × Value)} (r : KT H kvs xs) (k : List Key) {b : Addr} {y : V} {u : Value} (hb : H b = some (.tup (k.map kV))) (ry : RelV y u) :
    KT H (putK kvs k y) (storedH xs k b u) := by
  have e : (kvs.any fun kv => decide (kv.1 = k)) = (atKey xs k).isSome := by
    rw [valV_any, (r.val k).isSome_eq, Option.isSome_map]
  unfold putK storedH
  rw [e]
  by_cases q : (atKey xs k).isSome = true
  · rw [if_pos q, if_pos q]; exact r.repl k ry
  · rw [if_neg q, if_neg q]; exact Paired.snoc r ⟨rfl, hb, ry⟩
theorem KT.keeps {H H' : Hp} {kvs : List (List Key × V)} {xs : List (List Key × Addr × Value)} (r : KT H kvs xs) (ht : ∀ b ys, H b = some (.tup ys) → H' b = some (.tup ys)) : KT H' kvs xs :=
  Paired.mapP r fun _ _ z => ⟨z.1, ht _ _ z.2.1, z.2.2⟩

section
variable {P : Program} {w : World} {H : Hp} {h : Heap} {a : Addr}
theorem rd_of {u : HO} (ok : HOk P w H h) (e : Rd H a u) : ObjOk P w H h a u := e.ok ok
theorem dk_rd {kvs : List (Key × V)} (ok : HOk P w H h) (e : Rd H a (.dK kvs)) : kvs.length ≤ sizeLine ∧ (a == sysModules) = false ∧ ∃ vs, KV kvs vs ∧ h.DictOf (mixKind P w) a vs :=
  show ObjOk P w H h a (.dK kvs) from rd_of ok e
theorem dk_of {kvs : List (Key × V)} (ok : HOk P w H h) (e : H a = some (.dK kvs)) : kvs.length ≤ sizeLine ∧ (a == sysModules) = false ∧ ∃ vs, KV kvs vs ∧ h.DictOf (mixKind P w) a vs := dk_rd ok (.inl e)

theorem key_of {ks : List Key} (ok : HOk P w H h) (e : H a = some (.tup (ks.map kV))) : (tupleKind (mixKind P w)).is h ks a := by
  obtain ⟨_, its, r, o, h1, h2, n, h3⟩ := (show ObjOk P w H h a (.tup (ks.map kV)) from ok a _ e)
  exact ⟨o, its.toArray, n, h1, h2, h3, by simpa using items_are r⟩
theorem dt_rd {kvs : List (List Key × V)} (ok : HOk P w H h) (e : Rd H a (.dT kvs)) : kvs.length ≤ sizeLine ∧ (a == sysModules) = false ∧
    ∃ xs, KT H kvs xs ∧ h.DictOfH (tupleKind (mixKind P w)) a xs := by
  obtain ⟨z, y, xs, r, o, es, ep, h1, h2, h3, h4, h5⟩ := (show ObjOk P w H h a (.dT kvs) from rd_of ok e)
  refine ⟨z, y, xs, r, o, es, ep, h1, h2, h3, h4, fun x hx => ?_, h5⟩
  have all : ∀ {l : List (List Key × V)} {m : List (List Key × Addr × Value)}, KT H l m → ∀ x ∈ m, (tupleKind (mixKind P w)).is h x.1 x.2.1 := by
    intro l m q
    induction q with
    | nil => intro x hx; exact nomatch hx
    | @cons p q ps qs hq t ih =>
      intro x hx
      rcases List.mem_cons.mp hx with e | hx
      · subst e
        exact key_of ok (by rw [← hq.1]; exact hq.2.1)
      · exact ih x hx
  exact all r x hx
theorem dt_of {kvs : List (List Key × V)} (ok : HOk P w H h) (e : H a = some (.dT kvs)) : kvs.length ≤ sizeLine ∧ (a == sysModules) = false ∧
    ∃ xs, KT H kvs xs ∧ h.DictOfH (tupleKind (mixKind P w)) a xs := dt_rd ok (.inl e)
end


def DGet (H : Hp) (a : Addr) (y : V) (r : Option V) : Prop :=
  (∃ kvs k, Rd H a (.dK kvs) ∧ y = kV k ∧ r = valV kvs k) ∨ ∃ kvs k b, Rd H a (.dT kvs) ∧ y = .ref b ∧ H b = some (.tup (k.map kV)) ∧ r = valV kvs k

def DPut (H : Hp) (a : Addr) (y v : V) (H' : Hp) : Prop :=
  (∃ kvs k, H a = some (.dK kvs) ∧ y = kV k ∧ kvs.length < sizeLine ∧ H' = upd H a (.dK (putK kvs k v))) ∨
  ∃ kvs k b, H a = some (.dT kvs) ∧ y = .ref b ∧ H b = some (.tup (k.map kV)) ∧ kvs.length < sizeLine ∧ H' = upd H a (.dT (putK kvs k v))
theorem DGet.k {H : Hp} {a : Addr} {kvs : List (Key × V)} {k : Key} (e : H a = some (.dK kvs)) : DGet H a (kV k) (valV kvs k) := .inl ⟨kvs, k, .inl e, rfl, rfl⟩
theorem DPut.k {H : Hp} {a : Addr} {kvs : List (Key × V)} {k : Key} {v : V} (e : H a = some (.dK kvs)) (hl : kvs.length < sizeLine) : DPut H a (kV k) v (upd H a (.dK (putK kvs k v))) := .inl ⟨kvs, k, e, rfl, hl, rfl⟩
section
variable {X : Cx} {pins : List (Addr × Obj)} {σ : St} {H : Hp} {s : Shared} {a : Addr} {y v : V} {u r : Value} {o : Option V} {A : Around} {E : Value → Shared → Prop}

theorem Inv.big (I : Inv X pins σ H s) : sysModules < s.heap.objs.size := by
  have h : mainGlobals < s.heap.objs.size := (I.mod.glob.keeps I.bk).lt
  exact Nat.lt_trans (by decide) h


theorem d_getItem {Q : Value → Shared → Prop} (hu : A.units + 1 < cLine) (I : Inv X pins σ H s) (g : DGet H a y (some v)) (ry : RelV y u) (h : ∀ w' s', Inv X pins σ H s' → RelV v w' → Q w' s') :
    wpAny (model X.prog X.w) A (getItem (.ref a) u) Q E s := by
  rcases g with ⟨kvs, k, e, ey, l⟩ | ⟨kvs, k, b, e, ey, eb, l⟩
  · subst ey
    obtain ⟨z, hd, vs, rel, dd⟩ := dk_rd I.hok e
    obtain ⟨w', hw, rw'⟩ := RelO.some_of (v := v) (o := valueAt vs k) (by rw [l]; exact rel.val k)
    exact wpAny_getItem_of (kV_is ry) dd.mapOf hw (h w' _ (I.tok _) rw')
  · subst ey
    cases (show u = Value.ref b from ry)
    obtain ⟨z, hd, xs, rel, dd⟩ := dt_rd I.hok e
    obtain ⟨w', hw, rw'⟩ := RelO.some_of (v := v) (o := (atKey xs k).map (·.2)) (by rw [l]; exact rel.val k)
    obtain ⟨p, hp, hp2⟩ := Option.map_eq_some_iff.mp hw
    refine wpAny_getItem_heap (tupleKind_room_in1 hu) (key_of I.hok eb) dd hp ?_
    rw [hp2]
    exact h w' _ (I.tok _) rw'

theorem d_in {Q : Value → Shared → Prop} (hu : A.units + 1 < cLine) (I : Inv X pins σ H s) (g : DGet H a y o) (ry : RelV y u) (h : ∀ s', Inv X pins σ H s' → Q (.bool o.isSome) s') :
    wpAny (model X.prog X.w) A (compareOp .In u (.ref a)) Q E s := by
  rcases g with ⟨kvs, k, e, ey, l⟩ | ⟨kvs, k, b, e, ey, eb, l⟩
  · subst ey
    obtain ⟨z, hd, vs, rel, dd⟩ := dk_rd I.hok e
    refine wpAny_in_of (kV_is ry) hd dd.mapOf ?_
    rw [← (rel.val k).isSome_eq, ← l]
    exact h _ (I.tok _)
  · subst ey
    cases (show u = Value.ref b from ry)
    obtain ⟨z, hd, xs, rel, dd⟩ := dt_rd I.hok e
    refine wpAny_in_heap (tupleKind_room_in1 hu) (key_of I.hok eb) hd dd ?_
    have q := (rel.val k).isSome_eq
    rw [Option.isSome_map] at q
    rw [← q, ← l]
    exact h _ (I.tok _)
theorem d_write {h' : Heap} {t' : Nat} {ob : HO} (I : Inv X pins σ H s) (mu : Mut (H a)) (hs : Heap.SameBut a s.heap h') (he : ∃ q, h'.get? a = some q) (new : ObjOk X.prog X.w (upd H a ob) h' a ob) :
    Inv X pins σ (upd H a ob) { s with heap := h', toks := t' } :=
  I.write (x := a) (e := a) mu (.inl rfl) (fun b q hb z => (hs.2 b hb).trans z) he new
theorem dk_new {P : Program} {w : World} {H' : Hp} {h' : Heap} {kvs : List (Key × V)} {vs : List (Key × Value)} (z : kvs.length ≤ sizeLine) (hd : (a == sysModules) = false) (rel : KV kvs vs) (dd : h'.DictOf (mixKind P w) a vs) :
    ObjOk P w H' h' a (.dK kvs) := ⟨z, hd, vs, rel, dd⟩

theorem d_setItem {H' : Hp} {Q : Unit → Shared → Prop} (hu : A.units + 1 < cLine) (I : Inv X pins σ H s) (g : DPut H a y v H') (ry : RelV y u) (rv : RelV v r) (h : ∀ s', Inv X pins σ H' s' → Q () s') :
    wpAny (model X.prog X.w) A (setItem (.ref a) u r) Q E s := by
  rcases g with ⟨kvs, k, e, ey, l, eH⟩ | ⟨kvs, k, b, e, ey, eb, l, eH⟩
  · subst ey eH
    obtain ⟨z, hd, vs, rel, dd⟩ := dk_of I.hok e
    have hz : vs.length ≤ sizeLine := by rw [← rel.length]; exact z
    have hl : (putK kvs k v).length ≤ sizeLine := by have := length_putK kvs k v; omega
    refine wpAny_setItem_pairs (hsz := hz) (kV_is ry) dd fun h' dd' hs => h _ ?_
    have he : ∃ q, h'.get? a = some q := let ⟨q, _, _, hq, _⟩ := dd'; ⟨q, hq⟩
    exact d_write I (by rw [e]; exact True.intro) hs he (dk_new hl hd (rel.put k rv) dd')
  · subst ey eH
    cases (show u = Value.ref b from ry)
    obtain ⟨z, hd, xs, rel, dd⟩ := dt_of I.hok e
    have hz : xs.length ≤ sizeLine := by rw [← Paired.length rel]; exact z
    have hl : (putK kvs k v).length ≤ sizeLine := by have := length_putK kvs k v; omega
    refine wpAny_setItem_heap (hsz := hz) (tupleKind_room_in1 hu) (key_of I.hok eb) dd fun h' dd' hs => h _ ?_
    obtain ⟨q, es, ep, hq, h2, h3, h4, _, h5⟩ := dd'
    refine d_write I (by rw [e]; exact True.intro) hs ⟨q, hq⟩ ⟨hl, hd, _, (rel.put k eb rv).keeps fun c ys ec => ?_, q, es, ep, hq, h2, h3, h4, h5⟩
    rw [upd_ne (ne_of ec e (fun z => nomatch z))]
    exact ec
end

section
variable {X : Cx} {pins : List (Addr × Obj)} {σ : St} {H : Hp} {s : Shared} {a : Addr} {kvs : List (Key × V)} {k : Key} {u : Value} {A : Around} {E : Value → Shared → Prop}

theorem d_clear {Q : Value → Shared → Prop} (I : Inv X pins σ H s) (e : H a = some (.dK kvs)) (h : ∀ s', Inv X pins σ (upd H a (.dK [])) s' → Q .none s') : wpAny (model X.prog X.w) A (call (.builtin "dict.clear") [.ref a]) Q E s := by
  obtain ⟨z, hd, vs, rel, dd⟩ := dk_of I.hok e
  refine call_meetsIn PySem.F.slot_dict_clear dd.typeIs PySem.F.entry_dict_clear (PySem.F.args_dict_clear_1 _) (meets_dict_clear (mixKind X.prog X.w) a) ⟨vs, dd, by rw [← rel.length]; exact z, fun h' dd' hs => h _ ?_⟩
  have he : ∃ q, h'.get? a = some q := let ⟨q, _, _, hq, _⟩ := dd'; ⟨q, hq⟩
  exact d_write (t' := s.toks) I (by rw [e]; exact True.intro) hs he (dk_new (Nat.zero_le _) hd .nil dd')

end




def NoSl (i : Expr) : Prop := ∀ ov iv, subscripted i false ov iv = operate [ov, iv] (getItem ov iv)
theorem subD_of {prog : Program} {w : World} {A : Around} {E : Value → Shared → Prop} {s : Shared} {env : Env} {value slice : Expr} {pos : Pos} {T id : String} {Q : Value → Shared → Prop}
    (hl : typeLookup (.type T) "__getitem__" = pure (some (.builtin id))) (hs : NoSl slice)
    (h : wpAny (model prog w) A (eval value env) (fun o s₁ => wpAny (model prog w) A (eval slice env) (fun i s₂ => s₂.TypeIs o T ∧ wpAny (model prog w) A (getItem o i) Q E s₂) E s₁) E s) :
    wpAny (model prog w) A (eval (.Subscript value slice pos) env) Q E s := by
  refine Subscript_ (wpAny_mono h (fun o s₁ h₁ => wpAny_mono h₁ (fun i s₂ h₂ => ?_) fun _ _ x => x) fun _ _ x => x)
  obtain ⟨hT, h₂⟩ := h₂
  unfold subscriptTail
  refine wpAny_bind ?_
  rw [getitemInPython_of_ne hT.not_modules]
  refine wpAny_bind (wpAny_specialOf hT hl ?_)
  have fin : wpAny (model prog w) A (subscripted slice false o i) (fun r s₃ => wpAny (model prog w) A (letTemporaryGo value o r >>= fun _ => pure r) Q E s₃) E s₂ := by
    rw [hs o i]
    exact wpAny_operating (wpAny_mono h₂ (fun r s₃ h₃ => wpAny_bind (wpAny_letTemporaryGo (wpAny_pure h₃))) fun _ _ x => x)
  first
    | exact wpAny_pure (wpAny_bind fin)
    | exact wpAny_bind (wpAny_pure (wpAny_bind fin))
    | exact wpAny_bind fin

theorem dict_typeIs {X : Cx} {pins : List (Addr × Obj)} {σ : St} {H : Hp} {s : Shared} {a : Addr} {y : V} {o : Option V} (I : Inv X pins σ H s) (g : DGet H a y o) : s.TypeIs (.ref a) "dict" := by
  rcases g with ⟨kvs, k, e, _, _⟩ | ⟨kvs, k, b, e, _, _, _⟩
  · obtain ⟨_, _, vs, _, dd⟩ := dk_rd I.hok e
    exact dd.typeIs
  · obtain ⟨_, _, xs, _, dd⟩ := dt_rd I.hok e
    exact dd.typeIs
def tDGet (td ty : TE) : TE := fun σ H Q => td σ H fun x H1 => ty σ H1 fun y H2 => ∃ a v, x = .ref a ∧ DGet H2 a y (some v) ∧ Q v H2

def tDIn (ty td : TE) : TE := fun σ H Q => ty σ H fun y H1 => td σ H1 fun x H2 => ∃ a o, x = .ref a ∧ DGet H2 a y o ∧ Q (.bl o.isSome) H2
def sDPut (td ty tv : TE) : TS := fun D σ H => tv σ H fun v H1 => td σ H1 fun x H2 => ty σ H2 fun y H3 => ∃ a H4, x = .ref a ∧ DPut H3 a y v H4 ∧ D.nx σ H4

section
variable {X : Cx} {o i e value : Expr} {pos pos' tpos : Pos} {td ty tv : TE}
theorem pe_dget (hu : X.A.units + 1 < cLine) (ho : PE X o td) (hi : PE X i ty) (hs : NoSl i) : PE X (.Subscript o i pos) (tDGet td ty) := by
  intro pins s σ H Q I h
  refine subD_of PySem.F.slot_dict_getitem.lookup hs (thn (ho pins s σ H _ I h) fun u s1 ⟨x, H1, I1, rx, q1⟩ => thn (hi pins s1 σ H1 _ I1 q1) fun iv s2 ⟨y, H2, I2, ry, a, v, ex, g, q2⟩ => ?_)
  subst ex
  obtain rfl : u = Value.ref a := rx
  exact ⟨dict_typeIs I2 g, d_getItem hu I2 g ry fun w' s3 I3 rw' => ⟨v, H2, I3, rw', q2⟩⟩
theorem pc_din (hu : X.A.units + 1 < cLine) (hi : PE X i ty) (ho : PE X o td) : PC X .In i o (tDIn ty td) := by
  intro pins s σ H Q I h
  refine thn (hi pins s σ H _ I h) fun iv s1 ⟨y, H1, I1, ry, q1⟩ => thn (ho pins s1 σ H1 _ I1 q1) fun u s2 ⟨x, H2, I2, rx, a, ov, ex, g, q2⟩ => ?_
  subst ex
  obtain rfl : u = Value.ref a := rx
  exact d_in hu I2 g ry fun s3 I3 => ⟨.bl ov.isSome, H2, I3, rfl, q2⟩
theorem ps_dput (hu : X.A.units + 1 < cLine) (ho : PE X o td) (hi : PE X i ty) (hv : PE X value tv) (hs : swapsWith value (some (.Subscript o i pos')) pos.line X.env = pure false) :
    PS X (.Assign [.Subscript o i pos'] value pos) (sDPut td ty tv) := by
  intro pins s σ H D I h
  refine wpAny_Assign_Subscript (thn (hv pins s σ H _ I h) fun r s1 ⟨v, H1, I1, rv, q1⟩ => thn (ho pins s1 σ H1 _ I1 q1) fun u s2 ⟨x, H2, I2, rx, q2⟩ => thn (hi pins s2 σ H2 _ I2 q2) fun iv s3 ⟨y, H3, I3, ry, a, H4, ex, g, q3⟩ => ?_) hs
  subst ex
  obtain rfl : u = Value.ref a := rx
  exact d_setItem hu I3 g ry rv fun s4 I4 => ⟨σ, H4, I4, q3⟩
end



theorem dk_empty {P : Program} {w : World} {H : Hp} (h : Heap) (hb : sysModules < h.objs.size) : ObjOk P w H (h.push { cls := .type "dict", data := .dict #[] }) h.objs.size (.dK []) :=
  ⟨Nat.zero_le _, beq_eq_false_iff_ne.mpr (Ne.symm (Nat.ne_of_lt hb)), [], .nil, Heap.DictOf.new h⟩
def tDNewK : TE := fun _ H Q => ∀ p, H p = none → Q (.ref p) (upd H p (.dK []))
section
variable {X : Cx} {pos : Pos}
theorem pe_dnewK : PE X (.Dict [] [] pos) tDNewK := fun pins s σ H Q I h =>
  wpAny_Dict_empty ⟨.ref s.heap.objs.size, _, I.laid (a := s.heap.objs.size) (o := .dK []) (t' := s.toks) (fun _ _ q => Heap.get?_push_of_some _ q) (Nat.le_refl _) (dk_empty s.heap I.big), rfl, h _ (I.hok.fresh (Nat.le_refl _))⟩
end


section
variable {X : Cx} {pins : List (Addr × Obj)} {σ : St} {H : Hp} {s : Shared} {a : Addr} {y d : V} {u r : Value} {o : Option V} {A : Around} {E : Value → Shared → Prop}

end

section
variable {X : Cx} {o e f : Expr} {apos cpos : Pos} {td ty tx : TE}
end


section
variable {X : Cx} {pins : List (Addr × Obj)} {σ : St} {H : Hp} {s : Shared} {a : Addr} {kvs : List (Key × V)} {A : Around} {E : Value → Shared → Prop}
theorem d_copyOf {Q : Value → Shared → Prop} (I : Inv X pins σ H s) (e : Rd H a (.dK kvs)) (h : ∀ p s', H p = none → Inv X pins σ (upd H p (.dK kvs)) s' → Q (.ref p) s') : wpAny (model X.prog X.w) A (call (.type "dict") [.ref a]) Q E s := by
  obtain ⟨z, hd, vs, rel, dd⟩ := dk_rd I.hok e
  refine kt_call_dict hd dd (by rw [← rel.length]; exact z) fun h' dd' hs => ?_
  refine h _ _ (I.hok.fresh (Nat.le_refl _)) (I.laid (a := s.heap.objs.size) (o := .dK kvs) (t' := s.toks) (fun b q hq => ?_) (Nat.le_refl _) (dk_new z (beq_eq_false_iff_ne.mpr (Ne.symm (Nat.ne_of_lt I.big))) rel dd'))
  exact (hs.2 b (Nat.ne_of_lt (Heap.lt_size hq))).trans (Heap.get?_push_of_some _ hq)
end


section
variable {X : Cx} {pins : List (Addr × Obj)} {σ : St} {H : Hp} {s : Shared} {a : Addr} {y : V} {u : Value} {A : Around} {E : Value → Shared → Prop}

end
end L2

namespace Att
open PySem PySem.W PySem.Calls PyProof.Rows


theorem ints_of_wellAll {P : Params} {h : Heap} : ∀ (ns : List Int) (vs : List Value), WellAll P h vs (ns.map WData.int) → IntsAre vs ns := by
  intro ns
  induction ns with
  | nil =>
    intro vs w
    rw [List.map_nil] at w
    cases w
    exact .nil
  | cons n ns ih =>
    intro vs w
    rw [List.map_cons] at w
    cases w with
    | cons a b =>
      cases a
      exact .cons _ _ (ih _ b)

theorem script_of {l : OpenLaw} {n : Nat} (hn : l.most = some n) {P : Params} {h : Heap} {args : List WData} {vals : List Value}
    (hpre : l.row.toRowW.claim.pre args = true) (hwl : WellAll P h vals args) :
    ∃ a vs ns, vals = [Value.ref a] ∧ args = [WData.list (ns.map WData.int)] ∧ h.get? a = some { cls := .type "list", data := .seq vs.toArray } ∧ IntsAre vs ns ∧ ns.length ≤ n := by
  have hsh : WShape.hasAll [] args [.list .int] = true := (pre_splitW hpre).1
  have hc : l.pre.holds [] { args := args } = true := (pre_splitW hpre).2
  obtain ⟨d, r, rfl, h1, h2⟩ := hasAllW_cons hsh
  obtain rfl := hasAllW_nil h2
  obtain ⟨xs, rfl, h3⟩ := hasW_list h1
  obtain ⟨ns, rfl⟩ := items_int h3
  have hlen : ns.length ≤ n := by
    unfold OpenLaw.pre at hc
    have h4 : (WTm.not (.lt (.lit (.int (n : Int))) (.len (.arg 0)))).holds [] { args := [.list (ns.map .int)] } = true := by
      have h4 := (holds_andW hc).1
      rw [hn] at h4
      exact h4
    have h5 := condW_of h4 (w_not (w_lt w_lit (w_len_list (w_arg rfl))))
    rw [List.length_map] at h5
    refine Nat.le_of_not_lt fun q => ?_
    have q' : (n : Int) < ((ns.length : Nat) : Int) := by omega
    first
      | (rw [decide_eq_true q'] at h5; exact absurd h5 (by decide))
      | (simp at h5; omega)
  cases hwl with
  | cons w1 w2 =>
    cases w2
    cases w1 with
    | list ho hall => exact ⟨_, _, ns, rfl, rfl, ho, ints_of_wellAll ns _ hall, hlen⟩

theorem post_true (l : OpenLaw) (args : List WData) : l.row.toRowW.claim.post args (.bool true) args = true :=
  postW_of (r := l.row.toRowW) (X := (true == true))
    (show WShape.has [] (.bool true) .bool = true by first | rfl | decide | simp [WShape.has, WShape.arms, WShape.armsAll])
    (show (WTm.eq .res (.lit (.bool true))).value [] { args := args, res := some (.bool true), after := args } = some (.bool (true == true)) from w_eq_bool (w_res rfl) w_lit) rfl


theorem attach_call {l : OpenLaw} {n : Nat} {q : Program} {loose : List Str} {XP : (Str → Option Value) → Heap → Prop} {YP : World → Heap → Prop} {d : DefRec}
    (hn : l.most = some n) (hdf : d.params.defaults = [])
    (call : ∀ (w : World) (s₀ s₁ : Shared) (mg mb : Str → Option Value) (fa : Addr) (o : Obj) (pm cd doc : Value) (a : Addr) (vs : List Value) (ns : List Int),
      Ground q loose [] XP w s₀ mg mb s₁.heap → YP w s₁.heap →
      s₁.heap.get? fa = some o → o.data = .func (docDef d.name d.params d.body d.scope pm cd doc) → s₁.heap.CodeRec cd d.name → mg d.name = some (.ref fa) →
      s₁.heap.get? a = some { cls := .type "list", data := .seq vs.toArray } → IntsAre vs ns → ns.length ≤ n → s₁.gens = #[] →
      codeAny (model l.prog w) callerA (.call (.ref fa) ⟨[.ref a], []⟩) (fun r s' => r = .ok (.ret (.bool true)) ∧ OldK s₁.heap s'.heap ∧ s'.os = s₁.os ∧ AllBare s'.gens) s₁) :
    WalkO q loose XP YP l.row.toRowW d [] (fun f vs => PySem.call f vs) := by
  intro w s₀ s₁ mg mb G Y fa o pm cd doc dV kV ho hd hcd hD hmg hg args vals as hpre hlay hrd hwl hlo
  obtain rfl : dV = .none := Dflts.none hD hdf
  obtain rfl : kV = .none := Dflts.noKw hD
  obtain ⟨a, vs, ns, rfl, rfl, hobj, hints, hlen⟩ := script_of hn hpre hwl
  refine enter_call (codeAny_mono (call w s₀ s₁ mg mb fa o pm cd doc a vs ns G Y ho (fd_plain hd) hcd hmg hobj hints hlen hg) fun r s' hq => ?_)
  obtain ⟨rfl, h2, h3, h4⟩ := hq
  exact ⟨.inl ⟨.bool true, .bool true, [], rfl, fun _ => rfl, .bool true, post_true l _, fun _ => ⟨List.Pairwise.nil, fun _ hm => (nomatch hm)⟩⟩, h2, h3, h4⟩


section
variable {prog : Program} {w : World} {A : Around} {E : Value → Shared → Prop} {s : Shared} {K : Frag}


end
end Att

namespace L2
open PySem PySem.Spec PyProof.Rows

theorem vals_ints : ∀ {vs : List Value} {ns : List Int}, IntsAre vs ns → Vals (ns.map V.int) vs
  | _, _, .nil => .nil
  | _, _, .cons n t h => .cons ⟨t, rfl⟩ (vals_ints h)


def Only (H : Hp) : Prop := ∀ b, H b = none ∨ ∃ o xs, H b = some (.frz o (.lst xs))


theorem law_call {P : Program} {w : World} {K : PySem.W.Frag} {mg mb : Str → Option Value} {CX : CXT} {k : Nat} {fa a : Addr} {fd : FuncData} {x : Str} {sp : Sp} {s₁ : Shared} {vs : List Value} {ns : List Int}
    (KX : K.In s₁.heap) (hns : s₁.heap.Ns mainGlobals mg) (hb : s₁.heap.Ns builtinsNs mb) (hbb : ∀ x : Str, x ≠ "__name__" → mb x = bootBuiltins x) (hlim : s₁.heap.NoLimit) (hg : s₁.gens = #[])
    (ha : s₁.heap.get? a = some { cls := .type "list", data := .seq vs.toArray }) (hi : IntsAre vs ns) (hl : ns.length ≤ sizeLine) (hr : Room k callerA)
    (F : ∀ base : Heap, K.In base → base.Ns mainGlobals mg → FnOk P w K mg base CX k fa fd [x] sp) (hbind : ∀ (s : Shared) (u : Value), BindsTo s fd ⟨[u], []⟩ [(x, u)])
    (hsp : ∀ H : Hp, Only H → SqL K H a (ns.map V.int) → sp [.ref a] H (fun v _ => v = .bl true) fun _ _ _ => False)
    (hCX : ∀ H e s', CX [] H s₁ (fun _ _ _ => False) e s' → False) :
    codeAny (model P w) callerA (.call (.ref fa) ⟨[.ref a], []⟩) (fun r s' => r = .ok (.ret (.bool true)) ∧ OldK s₁.heap s'.heap ∧ s'.os = s₁.os ∧ AllBare s'.gens) s₁ := by
  have rv := vals_ints hi
  have lenV := hi.length
  -- from an abstract heap in which nothing but the script may be tracked
  have core : ∀ H : Hp, Only H → SqL K H a (ns.map V.int) → HOk P w H s₁.heap → (∀ b, H b ≠ none → b = a) → (H a ≠ none → K.lookup a = none) →
      codeAny (model P w) callerA (.call (.ref fa) ⟨[.ref a], []⟩) (fun r s' => r = .ok (.ret (.bool true)) ∧ OldK s₁.heap s'.heap ∧ s'.os = s₁.os ∧ AllBare s'.gens) s₁ := by
    intro H hO hS hok hA hK
    have base_of : ∀ {b : Addr} {o : Obj}, s₁.heap.get? b = some o → H b = none → (hidT s₁.heap H).get? b = some o := fun e n => hidT_get e n
    have noA : ∀ {b : Addr} {o : Obj} {es : Array DictEntry} {ep : Nat}, s₁.heap.get? b = some o → o.data = .dict es ep → H b = none := fun {b o es ep} e d => by
      cases q : H b with
      | none => rfl
      | some u =>
        have e' : b = a := hA b (by rw [q]; simp)
        subst e'
        rw [ha] at e; cases e
        have d' : Data.seq vs.toArray _ = Data.dict es ep := d
        cases d'
    have nsK : ∀ {b : Addr} {m : Str → Option Value}, s₁.heap.Ns b m → (hidT s₁.heap H).Ns b m := fun {b m} ⟨o, es, ep, e, d, r⟩ => ⟨o, es, ep, base_of e (noA e d), d, r⟩
    have hKb : K.In (hidT s₁.heap H) := fun b o e => base_of (KX b o e) (by
      cases q : H b with
      | none => rfl
      | some u =>
        have e' : b = a := hA b (by rw [q]; simp)
        subst e'
        rw [hK (by rw [q]; simp)] at e; cases e)
    have hM : Mod K mg (hidT s₁.heap H) := ⟨hKb, nsK hns, ⟨mb, nsK hb, hbb⟩, let ⟨mc, h1, h2⟩ := hlim; ⟨mc, nsK h1, h2⟩⟩
    have e0 : Env0 P w K mg (hidT s₁.heap H) callerA [] s₁ H := ⟨rfl, hM, fun b o e => of_hidT e, Nat.le_of_eq (hidT_size _ _), trivial, fun b hb => absurd (show b ∈ ([] : List Addr) from hb) (by simp), hok, .of_eq hg⟩
    refine codeAny_mono ((F _ hKb (nsK hns)).run callerA [] s₁ H ⟨[.ref a], []⟩ [.ref a] [.ref a] _ _ hr e0 (hbind s₁ (.ref a)) (.cons rfl .nil) (hsp H hO hS)) fun r s' h => ?_
    cases r with
    | error e => exact (hCX H e s' h).elim
    | ok fl =>
      cases fl with
      | next => exact False.elim h
      | brk => exact False.elim h
      | cont => exact False.elim h
      | ret u =>
        obtain ⟨v, H', os, bare, un, hok', r', q⟩ := h
        have q' : v = .bl true := q
        subst q'
        obtain rfl : u = Value.bool true := r'
        refine ⟨rfl, OldK.of_keep fun b o e => ?_, os, bare⟩
        cases q : H b with
        | none => exact un.keep b o e q (by intro z; exact absurd (show b ∈ ([] : List Addr) from z) (by simp)) (by simp)
        | some u =>
          rcases hO b with z | ⟨ob, xs, z⟩
          · rw [q] at z; cases z
          · have z2 := un.frzs b ob _ z
            obtain ⟨e1, _⟩ := hok b _ z
            obtain ⟨e2, _⟩ := hok' b _ z2
            rw [e] at e1; cases e1
            exact e2
  cases hk : K.lookup a with
  | some o =>
    -- the script is one of the module's own objects
    have e := KX a o hk
    rw [ha] at e
    cases e
    refine core (fun _ => none) (fun _ => .inl rfl) (.inr ⟨_, vs.toArray, _, hk, rfl, rfl, rfl, by rw [List.size_toArray, lenV]; exact hl, by simpa using rv⟩) (fun b u z => by have z' : (none : Option HO) = some u := z; cases z') (fun b z => absurd rfl z) fun z => absurd rfl z
  | none =>
    refine core (fun b => if b = a then some (.frz { cls := .type "list", data := .seq vs.toArray } (.lst (ns.map V.int))) else none) (fun b => ?_) (.inl (.inr ⟨{ cls := .type "list", data := .seq vs.toArray }, if_pos rfl⟩)) (fun b u z => ?_) (fun b z => ?_) fun _ => hk
    · by_cases hb : b = a
      · exact .inr ⟨_, _, if_pos hb⟩
      · exact .inl (if_neg hb)
    · by_cases hb : b = a
      · have z' := (if_pos hb).symm.trans z
        cases z'
        subst hb
        exact ⟨ha, by rw [List.length_map]; exact hl, vs, _, rv, ha⟩
      · have z' := (if_neg hb).symm.trans z
        cases z'
    · by_cases hb : b = a
      · exact hb
      · exact absurd (if_neg hb) z
end L2

namespace L2
open PySem PySem.Spec PyProof.Rows

abbrev KOf {K : PySem.W.Frag} {h : Heap} (_ : K.In h) : PySem.W.Frag := K


theorem walk_of {l : PySem.W.OpenLaw} {n k : Nat} {q : Program} {loose : List Str} {XP : (Str → Option Value) → Heap → Prop} {YP : World → Heap → Prop} {d : DefRec} {K : Params → PySem.W.Frag} {CX : World → CXT} {sp : World → Sp} {x : Str}
    (hn : l.most = some n) (hn2 : n ≤ sizeLine) (hdf : d.params.defaults = []) (hr : Room k callerA)
    (hY : ∀ (w : World) (h : Heap), YP w h → (K w.params).In h)
    (F : ∀ (w : World) (mg : Str → Option Value) (fa : Addr) (h : Heap), (K w.params).In h → h.Ns mainGlobals mg → mg d.name = some (.ref fa) →
      ∃ fd : FuncData, (∀ (s : Shared) (u : Value), BindsTo s fd ⟨[u], []⟩ [(x, u)]) ∧
        ∀ base : Heap, (K w.params).In base → base.Ns mainGlobals mg → FnOk l.prog w (K w.params) mg base (CX w) k fa fd [x] (sp w))
    (hsp : ∀ (w : World) (H : Hp) (a : Addr) (ns : List Int), ns.length ≤ n → Only H → SqL (K w.params) H a (ns.map V.int) → sp w [.ref a] H (fun v _ => v = .bl true) fun _ _ _ => False)
    (hCX : ∀ (w : World) (H : Hp) (s : Shared) (e : Value) (s' : Shared), CX w [] H s (fun _ _ _ => False) e s' → False) :
    PySem.W.WalkO q loose XP YP l.row.toRowW d [] (fun f vs => PySem.call f vs) := by
  refine Att.attach_call hn hdf fun w s₀ s₁ mg mb fa o pm cd doc a vs ns G Y ho hd hcd hmg hobj hints hlen hg => ?_
  have KX := hY w _ Y
  obtain ⟨fd, hb, hF⟩ := F w mg fa _ KX G.T.g hmg
  exact law_call KX G.T.g G.T.b G.T.builtins G.T.nolimit hg hobj hints (Nat.le_trans hlen hn2) hr hF hb (fun H hO hS => hsp w H a ns hlen hO hS) fun H e s' => hCX w H s₁ e s'

end L2




namespace L2
open PySem PySem.Spec PyProof.Rows



def inClass (s : Stmt) (j : Nat) : Stmt := match s with
  | .ClassDef _ _ _ body _ _ _ _ _ _ _ => body.getD j (.Pass ⟨0, 0, 0, 0⟩)
  | _ => .Pass ⟨0, 0, 0, 0⟩
def defArgs (s : Stmt) : Arguments := match s with
  | .FunctionDef _ a _ _ _ _ _ _ _ _ => a
  | _ => { posonlyargs := [], args := [], vararg := none, kwonlyargs := [], kw_defaults := [], kwarg := none, defaults := [] }
def defBody (s : Stmt) : List Stmt := match s with
  | .FunctionDef _ _ b _ _ _ _ _ _ _ => b
  | _ => []
def defScope (s : Stmt) : Scope := match s with
  | .FunctionDef _ _ _ _ _ _ sc _ _ _ => sc
  | _ => { kind := .function, names := [], isGenerator := false, isCoroutine := false }


abbrev CX0 : CXT := fun _ _ _ _ _ _ => False
abbrev E0 : XK := fun _ _ _ => False
theorem pass0 {X : Cx} : Passes CX0 X E0 := fun _ _ _ _ _ _ _ h => h.elim


structure Fun (K : PySem.W.Frag) (x qual : Str) (st : Stmt) (f : Addr) (fd : FuncData) : Prop where
  ex : ∃ (oc : Value) (od : Option Addr) (kV doc pm : Value) (an : Option Addr) (cdv ct : Value) (osl : Array (Option Value)),
    fd = PySem.W.fnOf x qual (defArgs st) (defBody st) (defScope st) .none kV doc pm an cdv ct ∧ K.lookup f = some ⟨oc, od, .func fd, osl⟩ ∧ PySem.W.codeIn K cdv qual = true
  kp : PySem.W.keepIn K (.ref f) = true
section
variable {P : Program} {w : World} {K : PySem.W.Frag} {mg : Str → Option Value} {base : Heap}

theorem Fun.ok {x qual : Str} {st : Stmt} {f : Addr} {fd : FuncData} {N ps : List Str} {k : Nat} {sp : Sp} (F : Fun K x qual st f fd) (S : FnScope N ps (defScope st)) (len : ∀ vs H Q E, sp vs H Q E → vs.length = ps.length)
    (hbody : ∀ (cdv : Value) (A : Around) (outer : List Env) (s : Shared) (H : Hp) (vs : List V) (Q : VK) (E : XK), Room k (A.deeper (envOfC qual (defScope st) s.heap.objs.size f cdv)) → sp vs H Q E →
      ∃ t, PSs (cxOf CX0 P w K mg base N qual (defScope st) f cdv A outer s H E).nox (defBody st) t ∧ t { nx := fun _ H' => Q .non H', rt := Q } (start N vs) H) : FnOk P w K mg base CX0 (k + 1) f fd ps sp := by
  obtain ⟨oc, od, kV, doc, pm, an, cdv, ct, osl, rfl, lk, hcd⟩ := F.ex
  refine fn_of lk hcd S len fun A outer s H vs Q E hr hsp => ?_
  obtain ⟨t, h, q⟩ := hbody cdv A outer s H vs Q E hr hsp
  exact ⟨t, h.nox, q⟩

theorem Fun.binds {x qual : Str} {st : Stmt} {f : Addr} {fd : FuncData} {ps : List Str} (F : Fun K x qual st f fd)
    (h : ∀ (kV doc pm : Value) (an : Option Addr) (cdv ct : Value) (us : List Value), us.length = ps.length → bindArgs (PySem.W.fnOf x qual (defArgs st) (defBody st) (defScope st) .none kV doc pm an cdv ct) ⟨us, []⟩ = pure (ps.zip us)) : Binds K fd ps [] := by
  obtain ⟨oc, od, kV, doc, pm, an, cdv, ct, osl, rfl, lk, hcd⟩ := F.ex
  exact .all (h kV doc pm an cdv ct)
theorem fun_mk {x qual : Str} {st : Stmt} {f : Addr} {oc : Value} {od an : Option Addr} {osl : Array (Option Value)} {kV doc pm cdv ct : Value} (l : K.lookup f = some ⟨oc, od, .func (PySem.W.fnOf x qual (defArgs st) (defBody st) (defScope st) .none kV doc pm an cdv ct), osl⟩)
    (c : PySem.W.codeIn K cdv qual = true) (k : PySem.W.keepIn K (.ref f) = true) : Fun K x qual st f (PySem.W.fnOf x qual (defArgs st) (defBody st) (defScope st) .none kV doc pm an cdv ct) := ⟨⟨oc, od, kV, doc, pm, an, cdv, ct, osl, rfl, l, c⟩, k⟩
end
theorem hu_of {A : Around} {k : Nat} (hr : Room k A) : A.units + 1 < cLine := Nat.lt_of_le_of_lt (Nat.add_le_add_left (by decide : 1 ≤ 64) _) hr.units
section
variable {X : Cx}
theorem pv (i : Nat) {x : Str} {pos : Pos} (hN : X.N[i]? = some x := by rfl) (hv : Vis X.env.scope x := by first | exact Or.inl rfl | exact Or.inr (Or.inl rfl) | exact Or.inr (Or.inr rfl)) (hd : (x == ("__debug__" : Str)) = false := by decide)
    (hcd : (x == ("__classdict__" : Str)) = false := by decide) : PE X (.Name x pos) (tVar i) := pe_var hN hv hd hcd

end


theorem iteF {A B : Prop} (h : B) : if false = true then A else B := by
  rw [if_neg Bool.false_ne_true]
  exact h
theorem iteT {A B : Prop} (h : A) : if true = true then A else B := by
  rw [if_pos rfl]
  exact h
def Same (H H' : Hp) : Prop := ∀ b o, H b = some o → H' b = some o
theorem Same.refl (H : Hp) : Same H H := fun _ _ h => h
theorem Same.trans {H H1 H2 : Hp} (a : Same H H1) (b : Same H1 H2) : Same H H2 := fun c o h => b c o (a c o h)
theorem Same.seq {K : PySem.W.Frag} {H H' : Hp} {a : Addr} {xs : List V} (e : Same H H') (h : SqL K H a xs) : SqL K H' a xs := by
  rcases h with (h | ⟨o, h⟩) | h
  · exact .inl (.inl (e _ _ h))
  · exact .inl (.inr ⟨o, e _ _ h⟩)
  · exact .inr h


section
variable {κ : Type} [DecidableEq κ]
end
end L2

namespace Bt
def wo (s p : Nat) : Nat := s - (s &&& p)
end Bt
namespace L3
open PySem PySem.Spec PyProof.Rows L2
abbrev St := L2.St


def lstO (its : List Value) : Obj := { cls := .type "list", data := .seq its.toArray its.length }
theorem lstO_snoc (its : List Value) (y : Value) : ({ cls := .type "list", data := .seq (its.toArray.push y) (its.length + 1) } : Obj) = lstO (its ++ [y]) := by
  show ({ cls := .type "list", data := .seq (its.toArray.push y) (its.length + 1) } : Obj) = { cls := .type "list", data := .seq (its ++ [y]).toArray (its ++ [y]).length }
  rw [List.length_append, List.length_singleton, List.push_toArray]

section
variable {prog : Program} {w : World} {A : Around} {R : Result → Shared → Prop} {s : Shared}

theorem compLoop_go {elt target iter : Expr} {ifs : List Expr} {scope : Scope} {pos : Pos} {it acc : Value} {env : Env} (I : Nat → Shared → Prop)
    (turn : ∀ n s, I n s → wpAny (model prog w) A (pyNext it) (fun r s1 => match r with
      | none => R (.ok .next) s1
      | some v => wpAny (model prog w) A (letOwnedTupleGo target it v) (fun _ s2 => wpAny (model prog w) A (assign target env v) (fun _ s3 =>
          wpAny (model prog w) A (forIn ifs true fun c r => if r = true then do let ok ← isTrue c env (eval c env); pure (ForInStep.yield ok) else pure (ForInStep.yield r)) (fun ok s4 =>
            if ok = true then wpAny (model prog w) A (eval elt env) (fun x s5 =>
              wpAny (model prog w) A (call (.builtin "list.append") [acc, x]) (fun _ s6 => ∃ m, m < n ∧ I m s6) (notedBy (model prog w) A env fun e s' => R (.error e) s') s5) (notedBy (model prog w) A env fun e s' => R (.error e) s') s4
            else ∃ m, m < n ∧ I m s4) (notedBy (model prog w) A env fun e s' => R (.error e) s') s3) (notedBy (model prog w) A env fun e s' => R (.error e) s') s2)
          (notedBy (model prog w) A env fun e s' => R (.error e) s') s1) (notedBy (model prog w) A env fun e s' => R (.error e) s') s)
    (n : Nat) (h : I n s) :
    codeAny (model prog w) A (.compLoop (.ListComp elt [⟨target, iter, ifs, 0⟩] scope pos) 0 it acc env) R s := by
  refine codeAny_loop rfl I (fun n s hI => ?_) n h
  show wpAny _ A ((compTurn (.ListComp elt [⟨target, iter, ifs, 0⟩] scope pos) 0 it acc env).onRaise (fun x => do noteFrame x env; theTreesLotGoes x)) _ _ s
  refine wpAny_noted ?_
  rw [compTurn_list]
  refine wpAny_bind (wpAny_standAt (wpAny_bind (wpAny_mono (turn n s hI) (fun r s1 h1 => ?_) fun _ _ h' => h')))
  cases r with
  | none => exact wpAny_pure h1
  | some v =>
    refine wpAny_bind (wpAny_mono h1 (fun _ s2 h2 => ?_) fun _ _ h' => h')
    refine wpAny_bind (wpAny_mono h2 (fun _ s3 h3 => wpAny_bind (wpAny_mono h3 (fun ok s4 h4 => ?_) fun _ _ h' => h')) fun _ _ h' => h')
    cases ok with
    | false => exact wpAny_pure ⟨rfl, h4⟩
    | true =>
      exact wpAny_bind (wpAny_bind (wpAny_mono h4 (fun x s5 h5 => wpAny_bind (wpAny_mono h5 (fun _ s6 h6 => wpAny_pure (wpAny_pure ⟨rfl, h6⟩)) fun _ _ h' => h')) fun _ _ h' => h'))
end


def cxComp (X : Cx) (scope : Scope) (cl : List (Str × Addr)) (own : List Str) (fr : List (Str × Nat)) (C : Addr) (s2 : Shared) (H2 : Hp) (fp : List Addr) : Cx :=
  { prog := X.prog, w := X.w, K := X.K, mg := X.mg, base := X.base, A := X.A, N := own ++ fr.map (·.1), s₀ := s2, H₀ := H2, env := compEnvC scope cl C X.env, outer := X.stack, stack := X.stack,
    ex := fp, fn := fun _ => false, calm := X.calm, pn := [], xe := fun _ _ => False }

def innerS (own : List Str) (fr : List (Str × Nat)) (σ : St) : St := own.map (fun _ => none) ++ fr.map fun p => (σ[p.2]?).join
def ClOk (env : Env) : List (Str × Addr) → Prop
  | [] => True
  | (n, c) :: r => env.cells.lookup n = some c ∧ ClOk env r
theorem ClOk.get {env : Env} : ∀ {cl : List (Str × Addr)} {x : Str} {c : Addr}, ClOk env cl → cl.lookup x = some c → env.cells.lookup x = some c
  | [], _, _, _, h => by simp at h
  | (n, d) :: r, x, c, ok, h => by
    rw [List.lookup_cons] at h
    cases e : x == n with
    | true =>
      rw [e] at h
      have e' : x = n := by simpa using e
      cases h
      rw [e']
      exact ok.1
    | false =>
      rw [e] at h
      exact ClOk.get ok.2 h
def CellK (sc : Scope) (x : Str) : Prop := sc.names.lookup x = some .cell ∨ sc.names.lookup x = some .free
def FrOk (X : Cx) (scope : Scope) (cl : List (Str × Addr)) : List (Str × Nat) → Prop
  | [] => True
  | (x, j) :: r => (X.N[j]? = some x ∧ CellK X.env.scope x ∧ CellK (relabel scope X.env) x ∧ (cl.lookup x).isSome = true) ∧ FrOk X scope cl r
theorem FrOk.get {X : Cx} {scope : Scope} {cl : List (Str × Addr)} : ∀ {fr : List (Str × Nat)} {i : Nat} {p : Str × Nat}, FrOk X scope cl fr → fr[i]? = some p →
    X.N[p.2]? = some p.1 ∧ CellK X.env.scope p.1 ∧ CellK (relabel scope X.env) p.1 ∧ (cl.lookup p.1).isSome = true
  | [], _, _, _, h => by simp at h
  | (x, j) :: r, 0, p, ok, h => by
    simp at h
    subst h
    exact ok.1
  | (x, j) :: r, i + 1, p, ok, h => FrOk.get (i := i) ok.2 (by simpa using h)
structure CompSc (X : Cx) (scope : Scope) (cl : List (Str × Addr)) (own : List Str) (fr : List (Str × Nat)) : Prop where
  clos : closureFor scope X.env = pure cl
  cells : ClOk X.env cl
  frs : FrOk X scope cl fr
  kind : scope.kind = .function
  nocell : ∀ y ∈ scope.names, y.2 ≠ .cell
  names : ∀ y ∈ scope.names, y.2 = .local → scope.names.lookup y.1 = some .local
  has : (scope.names.all fun y => y.2 != .free || (cl.lookup y.1).isSome) = true

theorem lookup_relabel_has {env : Env} {cl : List (Str × Addr)} : ∀ {names : List (Str × NameKind)} {x : Str}, (∀ y ∈ names, y.2 ≠ .cell) → (names.all fun y => y.2 != .free || (cl.lookup y.1).isSome) = true →
    ((names.map fun (n, k) => if (k == NameKind.free && env.scope.kind == .function && env.kindOf n == some .cell) then (n, NameKind.cell) else (n, k)).lookup x = some .cell ∨
     (names.map fun (n, k) => if (k == NameKind.free && env.scope.kind == .function && env.kindOf n == some .cell) then (n, NameKind.cell) else (n, k)).lookup x = some .free) → ∃ c, cl.lookup x = some c
  | [], _, _, _, h => by rcases h with h | h <;> simp at h
  | (n, k) :: r, x, nc, ha, h => by
    rw [List.all_cons, Bool.and_eq_true] at ha
    have ih := @lookup_relabel_has env cl r x (fun y hy => nc y (List.mem_cons_of_mem _ hy)) ha.2
    have nk : k ≠ .cell := nc (n, k) List.mem_cons_self
    have hk := ha.1
    cases hx : x == n with
    | true =>
      have ex : x = n := by simpa using hx
      subst ex
      by_cases hf : k = .free
      · subst hf
        have z : (cl.lookup x).isSome = true := by simpa using hk
        exact Option.isSome_iff_exists.mp z
      · exfalso
        have hb : (k == NameKind.free) = false := by simpa using hf
        rcases h with h | h
        · rw [List.map_cons] at h
          simp only [hb, Bool.false_and, Bool.false_eq_true, if_false, List.lookup_cons, beq_self_eq_true] at h
          exact nk (Option.some.inj h)
        · rw [List.map_cons] at h
          simp only [hb, Bool.false_and, Bool.false_eq_true, if_false, List.lookup_cons, beq_self_eq_true] at h
          exact hf (Option.some.inj h)
    | false =>
      refine ih ?_
      rcases h with h | h
      · left
        rw [List.map_cons] at h
        by_cases hc : (k == NameKind.free && env.scope.kind == .function && env.kindOf n == some .cell) = true
        · simp only [hc, if_true, List.lookup_cons, hx] at h; exact h
        · simp only [hc, Bool.false_eq_true, if_false, List.lookup_cons, hx] at h; exact h
      · right
        rw [List.map_cons] at h
        by_cases hc : (k == NameKind.free && env.scope.kind == .function && env.kindOf n == some .cell) = true
        · simp only [hc, if_true, List.lookup_cons, hx] at h; exact h
        · simp only [hc, Bool.false_eq_true, if_false, List.lookup_cons, hx] at h; exact h


def PTs (Y : Cx) (ifs : List Expr) (t : TT) : Prop :=
  ∀ (pins : List (Addr × Obj)) (s : Shared) (σ : St) (H : Hp) (Q : Bool → Hp → Prop), Inv Y pins σ H s → t σ H Q →
    wpAny (model Y.prog Y.w) Y.A (forIn ifs true fun c r => if r = true then do let ok ← isTrue c Y.env (eval c Y.env); pure (ForInStep.yield ok) else pure (ForInStep.yield r)) (TP Y pins σ Q) Y.xe s
def tTrue : TT := fun _ H Q => Q true H
theorem pts_nil {Y : Cx} : PTs Y [] tTrue := fun _ _ _ H _ I h => wpAny_tests_nil ⟨H, I, h⟩
def tComp (own : List Str) (fr : List (Str × Nat)) (wi : TI) (g : TG) (tc : TT) (te : TE) (fin : List V → Hp → Prop) : St → Hp → Prop := fun σ H => wi σ H fun J H1 =>
  ∃ W : Nat → Nat → List V → St → Hp → Prop, (∃ m, W 0 m [] (innerS own fr σ) H1) ∧ ∀ i m ys σ' H', W i m ys σ' H' →
    (J.stop i H' ∧ ys.length ≤ sizeLine ∧ fin ys H') ∨
    (J.go i H' ∧ ∃ N : List V → St → Hp → Prop, (∀ ys2 σ2 H2, N ys2 σ2 H2 → ys2.length ≤ sizeLine ∧ ∃ m', m' < m ∧ W (i + 1) m' ys2 σ2 H2) ∧
      ∀ x H2, J.yld i H' x H2 → g x σ' H2 fun σ3 H3 => tc σ3 H3 fun b H4 => if b = true then te σ3 H4 fun y H5 => N (ys ++ [y]) σ3 H5 else N ys σ3 H4)


structure Off (X : Cx) (pins : List (Addr × Obj)) (H : Hp) (C : Addr) : Prop where
  none : H C = none
  loc : C ≠ X.env.locals
  above : X.s₀.heap.objs.size ≤ C
  cell : ∀ x c, X.env.cells.lookup x = some c → c ≠ C
  pin : ∀ p ∈ X.pn ++ pins, p.1 ≠ C

section
variable {X : Cx} {tg elt iter : Expr} {ifs : List Expr} {scope : Scope} {cl : List (Str × Addr)} {own : List Str} {fr : List (Str × Nat)} {wi : TI} {g : TG} {tc : TT} {te : TE} {pos : Pos}

theorem comp_core (hc : X.calm = true) (S : CompSc X scope cl own fr) (hi : PI X tg iter wi) (hg : ∀ C s2 H2 fp, PG (cxComp X scope cl own fr C s2 H2 fp) tg g)
    (ht : ∀ C s2 H2 fp, PTs (cxComp X scope cl own fr C s2 H2 fp) ifs tc) (he : ∀ C s2 H2 fp, PE (cxComp X scope cl own fr C s2 H2 fp) elt te)
    {pins : List (Addr × Obj)} {s : Shared} {σ : St} {H : Hp} {fin : List V → Hp → Prop} (I : Inv X pins σ H s) (h : tComp own fr wi g tc te fin σ H)
    {RR : Value → Addr → Result → Shared → Prop}
    (hR : ∀ (D C : Addr) (s4 : Shared) (H3 : Hp) (ys : List V) (m : Str → Option Value), H3 D = none → Inv X pins σ (upd H3 D (.lst ys)) s4 → s4.heap.Ns C m → Off X pins (upd H3 D (.lst ys)) C → fin ys H3 → RR (.ref D) C (.ok .next) s4) :
    wpAny (model X.prog X.w) X.A (eval iter X.env) (fun x s1 => wpAny (model X.prog X.w) X.A (pyIter x) (fun itv s2 => wpAny (model X.prog X.w) X.A (newList []) (fun acc s3 =>
      wpAny (model X.prog X.w) X.A (newFunctionEnv scope X.env.globals cl [] X.env.qual none .none (some X.env)) (fun cenv s4 =>
        codeAny (model X.prog X.w) X.A (.compStart (.ListComp elt [⟨tg, iter, ifs, 0⟩] scope pos) 0 itv acc { cenv with scope := relabel scope X.env }) (RR acc cenv.locals) s4) X.xe s3) X.xe s2) X.xe s1) X.xe s := by
  refine thn (hi pins s σ H _ I h) fun v s1 h1 => thn h1 fun itv s2 h2 => ?_
  obtain ⟨it, fp, tn, J, H2, rfl, I2, T, st2, f2, W, ⟨m0, w0⟩, turn⟩ := h2
  refine wpAny_newObj_type (wpAny_newFunctionEnv S.nocell (by intro y hy; simp at hy) (fun h1 hns1 hsb1 => ?_) S.kind)
  dsimp only at hns1 hsb1 ⊢
  generalize hHP : s2.heap.push { cls := .type "list", dict := none, data := .seq ([] : List Value).toArray } = HP at hns1 hsb1 ⊢
  have hC : HP.objs.size = s2.heap.objs.size + 1 := by rw [← hHP, Heap.size_push]
  have hDC : s2.heap.objs.size ≠ HP.objs.size := by rw [hC]; exact Nat.ne_of_lt (Nat.lt_succ_self _)
  have below : ∀ b, b < s2.heap.objs.size → b ≠ HP.objs.size ∧ b ≠ s2.heap.objs.size := fun b hb => ⟨by rw [hC]; exact Nat.ne_of_lt (Nat.lt_succ_of_lt hb), Nat.ne_of_lt hb⟩
  have old : ∀ b o, s2.heap.get? b = some o → h1.get? b = some o := fun b o e => hsb1.extBut b o (below b (Heap.lt_size e)).1 (Heap.get?_push_of_some _ (hHP ▸ Heap.get?_push_of_some _ e))
  have hacc : h1.get? s2.heap.objs.size = some (lstO []) := hsb1.extBut _ _ hDC (Heap.get?_push_of_some _ (hHP ▸ Heap.get?_push_size _ rfl))
  have hfpo : ∀ b ∈ fp, b < s2.heap.objs.size := fun b hb => by obtain ⟨o, e, _⟩ := T.obj 0 _ st2 b hb; exact Heap.lt_size e
  have hcells : ∀ x c, cl.lookup x = some c → X.env.cells.lookup x = some c := fun x c e => S.cells.get e
  have hcD : ∀ x c, X.env.cells.lookup x = some c → c < s2.heap.objs.size := fun x c e => by obtain ⟨v, q⟩ := I2.cell x c e; exact q.lt
  have st1 : tn 0 h1 := T.keep _ _ _ st2 fun b _ o e => old b o e
  have hDfree : H2 s2.heap.objs.size = none := I2.hok.fresh (Nat.le_refl _)
  have hCfree : H2 HP.objs.size = none := I2.hok.fresh (by rw [hC]; exact Nat.le_succ _)
  have nostk : ∀ b, s2.heap.objs.size ≤ b → b ∉ L2.frs X.stack := fun b hb hm => by
    rcases List.mem_cons.mp (I2.stkSub b hm) with e | e
    · exact absurd I2.lt (by rw [← e]; exact Nat.not_lt.mpr hb)
    · exact I2.nofs hb e
  have hDlt : s2.heap.objs.size < h1.objs.size := Heap.lt_size hacc
  -- the block's context
  have YOk : (cxComp X scope cl own fr HP.objs.size s2 H2 fp).Ok := by
    refine ⟨I2.ok.mod, S.kind, I2.ok.glob, I2.ok.blt, ?_, fun x y c e1 e2 => I2.ok.inj x y c (hcells _ _ e1) (hcells _ _ e2), fun x hx => ?_, fun x c hf => ?_, I2.ok.hd, I2.ok.frames, .inl rfl, fun b hb => ⟨?_, fun x c e => ?_⟩,
      I2.bs, Nat.le_trans I2.ok.bsz I2.sz, fun b o e hb => ?_, fun b hb hm => ?_, I2.stack, I2.stkFree⟩
    · show s2.heap.objs.size ≤ HP.objs.size
      rw [hC]; exact Nat.le_succ _
    · exact lookup_relabel_has (env := X.env) S.nocell S.has hx
    · cases hf
    · exact (below b (hfpo b hb)).1
    · exact (f2 b hb).2.2.2.2.1 x c (hcells _ _ e)
    · rcases (f2 b hb).2.2.2.1 with z | z
      · exact I2.ok.noex b o e z
      · exact absurd (Heap.lt_size (I2.ok.bs b o e).1) (Nat.not_lt.mpr z)
    · rcases List.mem_cons.mp (I2.stkSub b hm) with e | e
      · exact (f2 b hb).2.1 e
      · exact (f2 b hb).2.2.1 e
  have hpinD : ∀ {h' : Heap} {its : List Value} {H' : Hp}, h'.get? s2.heap.objs.size = some (lstO its) → H' s2.heap.objs.size = none → ∀ p ∈ ([(s2.heap.objs.size, lstO its)] : List (Addr × Obj)),
      h'.get? p.1 = some p.2 ∧ H' p.1 = none ∧ p.1 ≠ HP.objs.size ∧ p.1 ∉ L2.frs X.stack ∧ ∀ v, p.2.data ≠ .cell v := fun {h' its H'} e n p hp => by
    have e1 : p = (s2.heap.objs.size, lstO its) := by simpa using hp
    subst e1
    exact ⟨e, n, hDC, nostk _ (Nat.le_refl _), fun v z => by cases z⟩
  have IY : Inv (cxComp X scope cl own fr HP.objs.size s2 H2 fp) [(s2.heap.objs.size, lstO [])] (innerS own fr σ) H2 { s2 with heap := h1, toks := s2.toks + ([] : List (Str × Value)).length } := by
    refine ⟨YOk, rfl, I2.bare, Un.kept old, ⟨_, hns1, fun i x v e1 e2 e3 => ?_⟩, fun x c e => ?_, hCfree, fun x c e => I2.freeC x c (hcells _ _ e), hpinD hacc hDfree, I2.hok.kept old, ?_⟩
    · have e1' : (own ++ fr.map (·.1))[i]? = some x := e1
      have e2' : (own.map (fun _ => (none : Option V)) ++ fr.map fun p => (σ[p.2]?).join)[i]? = some (some v) := e2
      by_cases hi' : i < own.length
      · rw [List.getElem?_append_left (by simpa using hi'), List.getElem?_map] at e2'
        rw [List.getElem?_eq_getElem hi'] at e2'
        cases e2'
      · rw [List.getElem?_append_right (by simpa using hi'), List.getElem?_map] at e2'
        rw [List.getElem?_append_right (Nat.not_lt.mp hi'), List.getElem?_map] at e1'
        rw [List.length_map] at e2'
        cases ef : fr[i - own.length]? with
        | none => rw [ef] at e1'; cases e1'
        | some p =>
          rw [ef] at e1' e2'
          have ex : p.1 = x := Option.some.inj e1'
          have ev : (σ[p.2]?).join = some v := Option.some.inj e2'
          obtain ⟨hN, hk, hk2, hs⟩ := S.frs.get ef
          have eσ : σ[p.2]? = some (some v) := by
            cases q : σ[p.2]? with
            | none => rw [q] at ev; cases ev
            | some o => rw [q] at ev; exact congrArg some ev
          obtain ⟨m, hn, hl⟩ := I2.loc
          obtain ⟨u, r, l⟩ := hl p.2 p.1 v hN eσ (by rcases hk with k | k; exact .inr (.inl k); exact .inr (.inr k))
          subst ex
          obtain ⟨c, ec⟩ := Option.isSome_iff_exists.mp hs
          refine ⟨u, r, .inr ⟨hk2, c, ec, ?_⟩⟩
          rcases l with ⟨hl1, _⟩ | ⟨_, c', ec', z⟩
          · have hl1' : X.env.scope.names.lookup p.1 = some .local := hl1
            rcases hk with z | z
            · rw [z] at hl1'; cases hl1'
            · rw [z] at hl1'; cases hl1'
          · have := hcells _ _ ec
            rw [ec'] at this
            cases this
            exact z.keeps old
    · obtain ⟨v, z⟩ := I2.cell x c (hcells _ _ e)
      exact ⟨v, z.keeps old⟩
    · show (own.map (fun _ => (none : Option V)) ++ fr.map fun p => (σ[p.2]?).join).length = (own ++ fr.map (·.1)).length
      simp
  have stat : ∀ {its : List Value} {H' : Hp}, (∀ b ∈ fp, H' b = none) → ∀ b ∈ fp, FpOk (cxComp X scope cl own fr HP.objs.size s2 H2 fp) [(s2.heap.objs.size, lstO its)] H' b := fun {its H'} hn b hb =>
    ⟨hn b hb, (below b (hfpo b hb)).1, fun hm => by
        rcases List.mem_cons.mp (I2.stkSub b hm) with e | e
        · exact (f2 b hb).2.1 e
        · exact (f2 b hb).2.2.1 e, .inl hb, fun x c e => (f2 b hb).2.2.2.2.1 x c (hcells _ _ e), fun p hp => by
        have e1 : p = (s2.heap.objs.size, lstO its) := by
          have hp' : p ∈ ([] : List (Addr × Obj)) ++ [(s2.heap.objs.size, lstO its)] := hp
          simpa using hp'
        subst e1
        exact (below b (hfpo b hb)).2.symm⟩
  have loop : ∀ s3 : Shared, s3 = { s2 with heap := h1, toks := s2.toks + ([] : List (Str × Value)).length } →
      codeAny (model X.prog X.w) X.A (.compLoop (.ListComp elt [⟨tg, iter, ifs, 0⟩] scope pos) 0 (.ref it) (.ref s2.heap.objs.size) (compEnvC scope cl HP.objs.size X.env)) (RR (.ref s2.heap.objs.size) HP.objs.size) s3 := by
    rintro s3 rfl
    refine compLoop_go (fun n s' => ∃ i ys its σ' H', Inv (cxComp X scope cl own fr HP.objs.size s2 H2 fp) [(s2.heap.objs.size, lstO its)] σ' H' s' ∧ Vals ys its ∧ tn i s'.heap ∧ (∀ b ∈ fp, H' b = none) ∧ W i n ys σ' H') ?_ m0
      ⟨0, [], [], innerS own fr σ, H2, IY, .nil, st1, fun b hb => (f2 b hb).1, w0⟩
    rintro n s3 ⟨i, ys, its, σ3, H3, I3, rv, st3, fr3, w3⟩
    rcases turn i n ys σ3 H3 w3 with ⟨stop, hz, qn⟩ | ⟨go, N, hN, step⟩
    · refine wpAny_mono (T.done (cxComp X scope cl own fr HP.objs.size s2 H2 fp) rfl rfl rfl hc i _ s3 σ3 H3 (fun _ _ => False) I3 (stat fr3) st3 stop) (fun r s4 h4 => ?_) fun _ _ f => f.elim
      obtain ⟨hr, I4⟩ := h4
      subst hr
      obtain ⟨eD, nD, _⟩ := I4.pin (s2.heap.objs.size, lstO its) (by simp [cxComp])
      obtain ⟨m, hn, _⟩ := id I4.loc
      have nC : H3 HP.objs.size = none := I4.free
      have bu := I4.base
      have J4 : Inv X pins σ (upd H3 s2.heap.objs.size (.lst ys)) s4 := by
        refine I2.call' (ch := fp) I4.os ⟨fun b o e n hb hx => bu.keep b o e n hb hx, fun b o e n hb hx => bu.slot b o e n hb hx, fun b o e n hx => ?_, fun b o e hx => bu.there b o e hx, fun b xs e => ?_, fun b o u e => ?_, fun b ps e => ?_⟩ ?_ I4.bare ?_
        · rw [upd_ne (below b (Heap.lt_size e)).2]; exact bu.free b o e n hx
        · have z := bu.tups b xs e
          rw [upd_ne (ne_of_none z nD)]; exact z
        · have z := bu.frzs b o u e
          rw [upd_ne (ne_of_none z nD)]; exact z
        · obtain ⟨more, z⟩ := bu.tbls b ps e
          exact ⟨more, by rw [upd_ne (ne_of_none z nD)]; exact z⟩
        · intro b o e
          by_cases hb : b = s2.heap.objs.size
          · subst hb
            rw [upd_same] at e
            cases e
            exact ⟨hz, its, its.length, rv, eD⟩
          · rw [upd_ne hb] at e
            exact (I4.hok b o e).stay (fun c u _ q => q) (fun c q => by rw [upd_ne (ne_of_none q nD)]; exact q) fun c xs q => by rw [upd_ne (ne_of_none q nD)]; exact q
        · intro b hb
          exact ⟨(f2 b hb).2.2.2.1, (f2 b hb).2.1, (f2 b hb).2.2.2.2.1, (f2 b hb).2.2.2.2.2⟩
      refine hR _ _ s4 H3 ys m nD J4 hn ⟨?_, ?_, ?_, ?_, ?_⟩ qn
      · rw [upd_ne hDC.symm]; exact nC
      · exact Nat.ne_of_gt (Nat.lt_of_lt_of_le I2.lt (by rw [hC]; exact Nat.le_succ _))
      · exact Nat.le_trans I2.sz (by rw [hC]; exact Nat.le_succ _)
      · exact fun x c e => (below c (hcD x c e)).1
      · exact fun p hp => (below p.1 (Heap.lt_size (I2.pin p hp).1)).1
    · refine wpAny_mono (T.item (cxComp X scope cl own fr HP.objs.size s2 H2 fp) rfl rfl rfl hc i _ s3 σ3 H3 (fun _ _ => False) I3 (stat fr3) st3 go) (fun r s4 h4 => ?_) fun _ _ f => f.elim
      obtain ⟨u, hr, h4⟩ := h4
      subst hr
      refine wpAny_mono h4 (fun _ s5 h5 => ?_) fun _ _ f => f.elim
      obtain ⟨x, H5, I5, r5, y5, st5, fr5⟩ := h5
      have I5' := I5.pinned (stat fr5) (T.obj _ _ st5)
      refine wpAny_mono (hg _ _ _ _ _ s5 σ3 H5 x u _ I5' r5 (step x H5 y5)) (fun _ s6 h6 => ?_) fun _ _ f => f.elim
      obtain ⟨σ6, H6, I6, q6⟩ := h6
      refine wpAny_mono (ht _ _ _ _ _ s6 σ6 H6 _ I6 q6) (fun ok s7 h7 => ?_) fun _ _ f => f.elim
      obtain ⟨H7, I7, q7⟩ := h7
      have keepT : ∀ {σ8 : St} {H8 : Hp} {s8 : Shared} {l : List (Addr × Obj)}, Inv (cxComp X scope cl own fr HP.objs.size s2 H2 fp) (l ++ pinsAt fp s5.heap) σ8 H8 s8 → tn (i + 1) s8.heap ∧ ∀ b ∈ fp, H8 b = none := fun {σ8 H8 s8 l} I8 => by
        refine ⟨T.keep _ _ _ st5 fun b hb o e => (I8.pin (b, o) (List.mem_append_right _ (List.mem_append_right _ (mem_pinsAt hb e)))).1, fun b hb => ?_⟩
        obtain ⟨o, e, _⟩ := T.obj _ _ st5 b hb
        exact (I8.pin (b, o) (List.mem_append_right _ (List.mem_append_right _ (mem_pinsAt hb e)))).2.1
      cases ok with
      | false =>
        rw [if_neg Bool.false_ne_true] at q7 ⊢
        obtain ⟨_, m', hm, w7⟩ := hN _ _ _ q7
        exact ⟨m', hm, i + 1, ys, its, σ6, H7, I7.unpinned, rv, (keepT I7).1, (keepT I7).2, w7⟩
      | true =>
        rw [if_pos rfl] at q7 ⊢
        refine wpAny_mono (he _ _ _ _ _ s7 σ6 H7 _ I7 q7) (fun y s8 h8 => ?_) fun _ _ f => f.elim
        obtain ⟨yv, H8, I8, r8, n8⟩ := h8
        obtain ⟨hlt', m', hm, w8⟩ := hN _ _ _ n8
        have hlt : ys.length < sizeLine := by rw [List.length_append] at hlt'; exact hlt'
        obtain ⟨eD, nD, nL, _, _⟩ := I8.pin (s2.heap.objs.size, lstO its) (by simp [cxComp])
        refine append_at (its := its.toArray) (n := its.length) (hsz := by rw [List.size_toArray, ← rv.length]; exact Nat.le_of_lt hlt) eD fun h9 sb9 eD9 => ?_
        have I8p : Inv (cxComp X scope cl own fr HP.objs.size s2 H2 fp) (pinsAt fp s5.heap) σ6 H8 s8 := I8.pins_of fun p hp => I8.pin p (List.mem_append_right _ (List.mem_append_right _ hp))
        have I9p : Inv (cxComp X scope cl own fr HP.objs.size s2 H2 fp) (pinsAt fp s5.heap) σ6 H8 { s8 with heap := h9 } :=
          I8p.turned (t' := s8.toks) (fun b o hb e => (sb9.2 b hb).trans e) nD nL (.inr (Nat.le_refl _)) (fun x c e => (below c (hcD x c (hcells _ _ e))).2) fun p hp => by
            have hp' : p ∈ pinsAt fp s5.heap := by simpa [cxComp] using hp
            exact (below p.1 (hfpo _ (of_pinsAt hp').1)).2
        have eD9' : h9.get? s2.heap.objs.size = some (lstO (its ++ [y])) := eD9.trans (congrArg some (lstO_snoc its y))
        have I9 : Inv (cxComp X scope cl own fr HP.objs.size s2 H2 fp) [(s2.heap.objs.size, lstO (its ++ [y]))] σ6 H8 { s8 with heap := h9 } := I9p.pins_of (hpinD eD9' nD)
        have K9 := keepT (l := []) (by simpa using I9p)
        exact ⟨m', hm, i + 1, ys ++ [yv], its ++ [y], σ6, H8, I9, rv.append (.cons r8 .nil), K9.1, K9.2, w8⟩
  exact codeAny_compStart_list (loop _ rfl) (T.self _ 0 _ _ _ st1 (loop _ rfl))


def tCompE (own : List Str) (fr : List (Str × Nat)) (wi : TI) (g : TG) (tc : TT) (te : TE) : TE := fun σ H Q => tComp own fr wi g tc te (fun ys H3 => ∀ p, H3 p = none → Q (.ref p) (upd H3 p (.lst ys))) σ H
theorem pe_comp (hc : X.calm = true) (S : CompSc X scope cl own fr) (hi : PI X tg iter wi) (hg : ∀ C s2 H2 fp, PG (cxComp X scope cl own fr C s2 H2 fp) tg g)
    (ht : ∀ C s2 H2 fp, PTs (cxComp X scope cl own fr C s2 H2 fp) ifs tc) (he : ∀ C s2 H2 fp, PE (cxComp X scope cl own fr C s2 H2 fp) elt te)
    (hs : ∀ x, foldedSetIterable iter X.env x = pure x := by intro _; rfl) : PE X (.ListComp elt [⟨tg, iter, ifs, 0⟩] scope pos) (tCompE own fr wi g tc te) := by
  intro pins s σ H Q I h
  rw [eval_ListComp]
  refine wpAny_comprehension_free (use := none) rfl hs S.clos S.kind S.names ?_
  refine comp_core hc S hi hg ht he I h fun D C s4 H3 ys m nD J hn off q => ?_
  refine ⟨m, hn, fun h' sb => ⟨.ref D, _, J.turned (t' := s4.toks) (fun b o hb e => (sb.2 b hb).trans e) off.none off.loc (.inr off.above) off.cell off.pin, rfl, q D nD⟩⟩

def tCompS (i : Nat) (own : List Str) (fr : List (Str × Nat)) (wi : TI) (g : TG) (tc : TT) (te : TE) : TS := fun D σ H => tComp own fr wi g tc te (fun ys H3 => ∀ p, H3 p = none → D.nx (σ.set i (some (.ref p))) (upd H3 p (.lst ys))) σ H
theorem ps_setC {i : Nat} {y : Str} {py spos : Pos} (hN : X.N.Nodup) (hi' : X.N[i]? = some y) (hx : X.env.scope.names.lookup y = some .local) (hc : X.calm = true) (S : CompSc X scope cl own fr) (hi : PI X tg iter wi) (hg : ∀ C s2 H2 fp, PG (cxComp X scope cl own fr C s2 H2 fp) tg g)
    (ht : ∀ C s2 H2 fp, PTs (cxComp X scope cl own fr C s2 H2 fp) ifs tc) (he : ∀ C s2 H2 fp, PE (cxComp X scope cl own fr C s2 H2 fp) elt te)
    (hsw : swapsWith (.ListComp elt [⟨tg, iter, ifs, 0⟩] scope pos) (some (.Name y py)) spos.line X.env = pure true := by rfl)
    (hs : ∀ x, foldedSetIterable iter X.env x = pure x := by intro _; rfl) : PS X (.Assign [.Name y py] (.ListComp elt [⟨tg, iter, ifs, 0⟩] scope pos) spos) (tCompS i own fr wi g tc te) := by
  intro pins s σ H D I h
  rw [exec_Assign_Name_used _ _ _ _ hsw]
  refine wpAny_bind (wpAny_standAt (wpAny_bind ?_))
  show wpAny _ X.A (do let _ ← comprehension (.ListComp elt [⟨tg, iter, ifs, 0⟩] scope pos) scope X.env _ (newList []) false (eval iter X.env) (some (assign (.Name y py) X.env))) _ _ s
  refine wpAny_bind (wpAny_mono (wpAny_comprehension_free (use := some (assign (.Name y py) X.env)) (Q := fun _ s' => SP X pins D .next s') rfl hs S.clos S.kind S.names ?_) (fun _ s' hq => wpAny_pure (wpAny_pure hq)) fun _ _ e => e)
  refine comp_core hc S hi hg ht he I h fun Da C s4 H3 ys m nD J hn off q => ?_
  show wpAny _ X.A (assign (.Name y py) X.env (.ref Da)) _ _ _
  refine wpAny_assign_Name (store_ok2 J hN hi' (.inl hx) (v := .ref Da) rfl (fun s5 I5 hsb => ?_) (.inr hx))
  obtain ⟨a, sb, ha⟩ := hsb
  have nCa : C ≠ a := by
    rcases ha with z | z
    · rw [z]; exact off.loc
    · exact (off.cell _ _ z).symm
  refine ⟨m, hn.sameBut sb nCa, fun h' sb' => ⟨_, _, I5.turned (t' := s5.toks) (fun b o hb e => (sb'.2 b hb).trans e) off.none off.loc (.inr off.above) off.cell off.pin, q Da nD⟩⟩
end
section
variable {K : PySem.W.Frag} {a : Addr} {xs : List V} {own : List Str} {fr : List (Str × Nat)} {g : TG} {tc : TT} {te : TE} {fin : List V → Hp → Prop} {σ : St} {H : Hp}

def CompW (J : It) (g : TG) (tc : TT) (te : TE) (fin : List V → Hp → Prop) (σ0 : St) (H1 : Hp) : Prop :=
  ∃ W : Nat → Nat → List V → St → Hp → Prop, (∃ m, W 0 m [] σ0 H1) ∧ ∀ i m ys σ' H', W i m ys σ' H' →
    (J.stop i H' ∧ ys.length ≤ sizeLine ∧ fin ys H') ∨
    (J.go i H' ∧ ∃ N : List V → St → Hp → Prop, (∀ ys2 σ2 H2, N ys2 σ2 H2 → ys2.length ≤ sizeLine ∧ ∃ m', m' < m ∧ W (i + 1) m' ys2 σ2 H2) ∧
      ∀ x H2, J.yld i H' x H2 → g x σ' H2 fun σ3 H3 => tc σ3 H3 fun b H4 => if b = true then te σ3 H4 fun y H5 => N (ys ++ [y]) σ3 H5 else N ys σ3 H4)
theorem comp_range {σ0 : St} {lo : Int} {n : Nat} (Pv : Nat → List V → St → Hp → Prop) (h0 : Pv 0 [] σ0 H) (hl : ∀ i ys σ H, i ≤ n → Pv i ys σ H → ys.length ≤ sizeLine)
    (hs : ∀ i ys σ H, i < n → Pv i ys σ H → g (.int (lo + i)) σ H fun σ3 H3 => tc σ3 H3 fun b H4 => if b = true then te σ3 H4 fun y H5 => Pv (i + 1) (ys ++ [y]) σ3 H5 else Pv (i + 1) ys σ3 H4)
    (hd : ∀ ys σ H, Pv n ys σ H → fin ys H) : CompW (Itr lo n) g tc te fin σ0 H := by
  refine ⟨fun i m ys σ H => m = n - i ∧ i ≤ n ∧ Pv i ys σ H, ⟨n, by simp, Nat.zero_le _, h0⟩, ?_⟩
  rintro i m ys σ H ⟨rfl, hi, p⟩
  by_cases hlt : i < n
  · refine .inr ⟨hlt, Pv (i + 1), fun ys2 σ2 H2 p' => ⟨hl (i + 1) ys2 σ2 H2 hlt p', n - (i + 1), by omega, rfl, hlt, p'⟩, fun x H2 y => ?_⟩
    obtain ⟨e, y⟩ := y
    subst e y
    exact hs i ys σ _ hlt p
  · have e : i = n := by omega
    subst e
    exact .inl ⟨Nat.le_refl _, hl _ ys σ H hi p, hd ys σ H p⟩
end
end L3
namespace L3
open PySem PySem.Spec PyProof.Rows L2 PySem.SeqAt


theorem look_new {H : Hp} {p q : Addr} {o u : HO} (hq : H q = some u) (hp : H p = none) : upd H p o q = some u := by
  rw [upd_ne (ne_of_none hq hp)]; exact hq
theorem look_ne {H : Hp} {p q : Addr} {o : HO} {u : Option HO} (hne : q ≠ p) (hq : H q = u) : upd H p o q = u := by
  rw [upd_ne hne]; exact hq
theorem none_upd {H : Hp} {p q : Addr} {o : HO} (h : upd H p o q = none) : H q = none ∧ q ≠ p := by
  by_cases e : q = p
  · subst e; rw [upd_same] at h; cases h
  · rw [upd_ne e] at h; exact ⟨h, e⟩
theorem same_new {H : Hp} {p : Addr} {o : HO} (h : H p = none) : Same H (upd H p o) := fun b u q => look_new q h
theorem same_upd {H H1 : Hp} {p : Addr} {o : HO} (s : Same H H1) (h : H p = none) : Same H (upd H1 p o) := fun b u q => by
  rw [upd_ne (ne_of_none q h)]; exact s b u q
theorem SqT_same {K : PySem.W.Frag} {H H' : Hp} {a : Addr} {xs : List V} (e : Same H H') (h : SqT K H a xs) : SqT K H' a xs := by
  rcases h with (h | ⟨o, h⟩) | h
  · exact .inl (.inl (e _ _ h))
  · exact .inl (.inr ⟨o, e _ _ h⟩)
  · exact .inr h


mutual
def Dp (K : PySem.W.Frag) (H : Hp) : PyData → V → Prop
  | .none, v => v = .non
  | .bool b, v => v = .bl b
  | .int i, v => v = .int i
  | .str x, v => v = .str x
  | .list ds, v => ∃ a xs, v = .ref a ∧ SqL K H a xs ∧ DpAll K H ds xs
  | .tuple ds, v => ∃ a xs, v = .ref a ∧ SqT K H a xs ∧ DpAll K H ds xs
  | .dict _, _ => False
def DpAll (K : PySem.W.Frag) (H : Hp) : List PyData → List V → Prop
  | [], vs => vs = []
  | d :: ds, vs => ∃ v r, vs = v :: r ∧ Dp K H d v ∧ DpAll K H ds r
end
theorem dpAll_ints {K : PySem.W.Frag} {H : Hp} : ∀ ns : List Int, DpAll K H (ns.map PyData.int) (ns.map V.int)
  | [] => by rw [List.map_nil, List.map_nil, DpAll]
  | n :: ns => by
    rw [List.map_cons, List.map_cons, DpAll]
    exact ⟨_, _, rfl, by rw [Dp], dpAll_ints ns⟩
theorem dp_ints {K : PySem.W.Frag} {H : Hp} {a : Addr} {ns : List Int} (h : SqL K H a (ns.map V.int)) : Dp K H (.list (ns.map PyData.int)) (.ref a) := by
  rw [Dp]; exact ⟨a, _, rfl, h, dpAll_ints ns⟩
theorem dp_int {K : PySem.W.Frag} {H : Hp} (i : Int) : Dp K H (.int i) (.int i) := by rw [Dp]
theorem dp_lst {K : PySem.W.Frag} {H : Hp} {a : Addr} {xs : List V} {ds : List PyData} (h : SqL K H a xs) (q : DpAll K H ds xs) : Dp K H (.list ds) (.ref a) := by
  rw [Dp]; exact ⟨a, _, rfl, h, q⟩
theorem dp_tup {K : PySem.W.Frag} {H : Hp} {a : Addr} {xs : List V} {ds : List PyData} (h : SqT K H a xs) (q : DpAll K H ds xs) : Dp K H (.tuple ds) (.ref a) := by
  rw [Dp]; exact ⟨a, _, rfl, h, q⟩
theorem dpAll_nil {K : PySem.W.Frag} {H : Hp} : DpAll K H [] [] := by rw [DpAll]
theorem dpAll_cons {K : PySem.W.Frag} {H : Hp} {d : PyData} {ds : List PyData} {v : V} {r : List V} (h : Dp K H d v) (q : DpAll K H ds r) : DpAll K H (d :: ds) (v :: r) := by
  rw [DpAll]; exact ⟨_, _, rfl, h, q⟩
theorem canLay_ints : ∀ ns : List Int, PyData.canLayAll0 (ns.map PyData.int) = true
  | [] => rfl
  | n :: ns => by
    rw [List.map_cons, PyData.canLayAll0, canLay_ints ns]; rfl
theorem depth_ints : ∀ ns : List Int, PyData.depthAll (ns.map PyData.int) = 0
  | [] => rfl
  | n :: ns => by
    rw [List.map_cons, PyData.depthAll, depth_ints ns]; rfl
section
variable {X : Cx} {pins : List (Addr × Obj)} {σ : St} {H : Hp} {s : Shared}
mutual
theorem dp_reads (I : Inv X pins σ H s) : ∀ (d : PyData) (v : V) (u : Value), Dp X.K H d v → RelV v u → ∃ as, Reads s.heap u d as
  | .none, v, u, h, r => by
    rw [Dp] at h; subst h; cases (show u = Value.none from r); exact ⟨_, .none⟩
  | .bool b, v, u, h, r => by
    rw [Dp] at h; subst h; cases (show u = Value.bool b from r); exact ⟨_, .bool b⟩
  | .int i, v, u, h, r => by
    rw [Dp] at h; subst h; obtain ⟨t, e⟩ := (show ∃ t, u = Value.int i t from r); subst e; exact ⟨_, .int i t⟩
  | .str x, v, u, h, r => by
    rw [Dp] at h; subst h; obtain ⟨t, e⟩ := (show ∃ t, u = Value.str x t from r); subst e; exact ⟨_, .str x t⟩
  | .list ds, v, u, h, r => by
    rw [Dp] at h
    obtain ⟨a, xs, e, hq, ha⟩ := h
    subst e
    cases (show u = Value.ref a from r)
    obtain ⟨its, rv, pl, hz⟩ := I.list hq
    obtain ⟨o, ho, hc, n, hd⟩ := pl.isList
    obtain ⟨as, z⟩ := dpAll_reads I ds xs its ha rv
    exact ⟨_, .list ho hc hd (by simpa using z)⟩
  | .tuple ds, v, u, h, r => by
    rw [Dp] at h
    obtain ⟨a, xs, e, hq, ha⟩ := h
    subst e
    cases (show u = Value.ref a from r)
    obtain ⟨its, rv, pl, hz⟩ := I.tuple hq
    obtain ⟨o, ho, hc, n, hd⟩ := pl
    obtain ⟨as, z⟩ := dpAll_reads I ds xs its ha rv
    exact ⟨_, .tuple ho hc hd (by simpa using z)⟩
  | .dict _, v, u, h, r => by rw [Dp] at h; exact h.elim
theorem dpAll_reads (I : Inv X pins σ H s) : ∀ (ds : List PyData) (vs : List V) (us : List Value), DpAll X.K H ds vs → Vals vs us → ∃ as, ReadsAll s.heap us ds as
  | [], vs, us, h, r => by
    rw [DpAll] at h; subst h; cases r; exact ⟨_, .nil⟩
  | d :: ds, vs, us, h, r => by
    rw [DpAll] at h
    obtain ⟨v, rr, e, h1, h2⟩ := h
    subst e
    cases r with
    | cons r1 r2 =>
      obtain ⟨as, z1⟩ := dp_reads I d _ _ h1 r1
      obtain ⟨bs, z2⟩ := dpAll_reads I ds _ _ h2 r2
      exact ⟨_, .cons z1 z2⟩
end
end
def rEqD (K : PySem.W.Frag) : R2 := fun x y H Q => ∃ dx dy, Dp K H dx x ∧ Dp K H dy y ∧ shaped dx = true ∧ shaped dy = true ∧ Q (.bl (PyData.eqv dx dy)) H
def rNeD (K : PySem.W.Frag) : R2 := fun x y H Q => ∃ dx dy, Dp K H dx x ∧ Dp K H dy y ∧ shaped dx = true ∧ shaped dy = true ∧ Q (.bl (!PyData.eqv dx dy)) H

def rEqA (K : PySem.W.Frag) : R2 := fun x y H Q => rEq x y H Q ∨ rEqD K x y H Q
def rNeA (K : PySem.W.Frag) : R2 := fun x y H Q => rNe x y H Q ∨ rNeD K x y H Q
section
variable {X : Cx}
theorem op_eqD (hu : X.A.units + 64 < cLine) : OpR X (compareOp .Eq) (rEqD X.K) := by
  intro pins s σ H x y v u Q I rx ry h
  obtain ⟨dx, dy, hx, hy, sx, sy, q⟩ := h
  obtain ⟨as, ra⟩ := dp_reads I dx x v hx rx
  obtain ⟨bs, rb⟩ := dp_reads I dy y u hy ry
  exact eq_dataH ra rb sx sy hu ⟨.bl _, H, I, rfl, q⟩
theorem op_neD (hu : X.A.units + 64 < cLine) : OpR X (compareOp .NotEq) (rNeD X.K) := by
  intro pins s σ H x y v u Q I rx ry h
  obtain ⟨dx, dy, hx, hy, sx, sy, q⟩ := h
  obtain ⟨as, ra⟩ := dp_reads I dx x v hx rx
  obtain ⟨bs, rb⟩ := dp_reads I dy y u hy ry
  exact ne_dataH ra rb sx sy hu ⟨.bl _, H, I, rfl, q⟩
theorem op_eqA (hu : X.A.units + 64 < cLine) : OpR X (compareOp .Eq) (rEqA X.K) := op_eq.or (op_eqD hu)
theorem op_neA (hu : X.A.units + 64 < cLine) : OpR X (compareOp .NotEq) (rNeA X.K) := op_ne.or (op_neD hu)
end
theorem canLay_of (d : PyData) (h : shaped d = true) : d.canLay0 = true := (Bool.and_eq_true_iff.mp h).1
theorem r_eqS {K : PySem.W.Frag} {x y : V} {H : Hp} {Q : VK} (h : scal x y = true) (q : Q (.bl (decide (x = y))) H) : rEqA K x y H Q := .inl ⟨h, q⟩
theorem r_neS {K : PySem.W.Frag} {x y : V} {H : Hp} {Q : VK} (h : scal x y = true) (q : Q (.bl (!decide (x = y))) H) : rNeA K x y H Q := .inl ⟨h, q⟩
theorem r_eqT {K : PySem.W.Frag} {x y : V} {H : Hp} {Q : VK} (d : PyData) (hx : Dp K H d x) (hy : Dp K H d y) (hs : shaped d = true) (q : Q (.bl true) H) : rEqA K x y H Q :=
  .inr ⟨d, d, hx, hy, hs, hs, by rw [eqv_refl d (canLay_of d hs)]; exact q⟩
theorem r_neT {K : PySem.W.Frag} {x y : V} {H : Hp} {Q : VK} (d : PyData) (hx : Dp K H d x) (hy : Dp K H d y) (hs : shaped d = true) (q : Q (.bl false) H) : rNeA K x y H Q :=
  .inr ⟨d, d, hx, hy, hs, hs, by rw [eqv_refl d (canLay_of d hs)]; exact q⟩


def clsOf : V → Value
  | .ty n => .type n
  | .ref a => .ref a
  | _ => .none
theorem clsOf_eq {c : V} {u : Value} (r : RelV c u) (h : clsOf c ≠ .none) : u = clsOf c := by
  cases c <;> first | exact r | exact (h rfl).elim
def rIsi (K : PySem.W.Frag) : List V → Hp → VK → Prop := fun xs H Q => ∃ x c t b, xs = [x, c] ∧ clsOf c ≠ .none ∧ TyOf K H x t ∧ PySem.W.kitOne K t (clsOf c) = some b ∧ Q (.bl b) H
theorem call_isi {X : Cx} : CallR X (.builtin "isinstance") (rIsi X.K) := by
  intro pins s σ H xs us Q I r h
  obtain ⟨x, c, t, b, rfl, hc, ty, e, q⟩ := h
  obtain ⟨u, w', rfl, rx, rc⟩ := vals2 r
  cases clsOf_eq rc hc
  exact isinst_ok I rx ty e fun tk => ⟨.bl b, H, I.tok _, rfl, q⟩
theorem r_isi {K : PySem.W.Frag} {x c : V} {H : Hp} {Q : VK} {t : Value} {b : Bool} (hc : clsOf c ≠ .none) (ty : TyOf K H x t) (e : PySem.W.kitOne K t (clsOf c) = some b) (q : Q (.bl b) H) : rIsi K [x, c] H Q := ⟨x, c, t, b, rfl, hc, ty, e, q⟩


theorem bool_index : typeLookup (.type "bool") "__index__" = pure (some (.builtin "int.__index__")) := by rw [typeLookup_type, builtinLookup_eq_fast]; kernel_rfl
theorem listSubscript_bool {M : Model} {A : Around} {E : Value → Shared → Prop} {s : Shared} {b : Bool} {Q : Option Int → Shared → Prop} (h : Q (some (if b then 1 else 0)) s) :
    wpAny M A (Builtin.List.listSubscript? (.bool b)) Q E s := by
  unfold Builtin.List.listSubscript?
  refine wpAny_bind (wpAny_specialOf (T := "bool") (show s.TypeIs (.bool b) "bool" from rfl) bool_index ?_)
  show wpAny M A (asIndex (.bool b) >>= _) Q E s
  refine wpAny_bind (wpAny_of_eq (a := if b then 1 else 0) rfl ?_)
  show wpAny M A (if (!Builtin.List.listFitsIndex (if b then 1 else 0)) = true then _ else _) Q E s
  rw [if_neg (by cases b <;> decide)]
  exact wpAny_pure h
theorem getItem_list_bool {prog : Program} {w : World} {A : Around} {E : Value → Shared → Prop} {s : Shared} {l : Addr} {items : Array Value} {b : Bool} {x : Value} {Q : Value → Shared → Prop} (hl : s.heap.IsList l items)
    (hx : items[if b then 1 else 0]? = some x) (h : Q x s) : wpAny (model prog w) A (getItem (.ref l) (.bool b)) Q E s := by
  obtain ⟨o, ho, hc, ne, hd⟩ := id hl
  unfold getItem
  try with_reducible refine wpAny_holding ?_
  first | refine wpAny_bind (wpAny_pure ?_) | skip
  refine wpAny_bind (wpAny_sequenceKey hl.typeIs (by decide) ?_)
  refine wpAny_bind (wpAny_callSpecial?_slot (name := Str.ofString "__getitem__") hl.typeIs slot_list_getitem
    (wpAny_call_entry slot_list_getitem hl.typeIs entry_list_getitem ?_ (args_list_getitem _ _)))
  show wpAny _ _ (Builtin.List.listSubscript? (.bool b) >>= _) _ _ s
  refine wpAny_bind (listSubscript_bool ?_)
  cases b with
  | true =>
    have hx' : items[1]? = some x := hx
    show wpAny _ _ ((seqItemAt l 1 >>= fun r => pure (r.map (1, ·))) >>= _) _ _ s
    refine wpAny_bind (wpAny_bind (wpAny_seqItemAt ho hd (wpAny_pure ?_)))
    rw [hx']
    first
      | exact wpAny_bind (wpAny_pure (wpAny_pure ⟨x, rfl, wpAny_pure h⟩))
      | exact wpAny_pure ⟨x, rfl, wpAny_pure h⟩
  | false =>
    have hx' : items[0]? = some x := hx
    show wpAny _ _ ((seqItemAt l 0 >>= fun r => pure (r.map (0, ·))) >>= _) _ _ s
    refine wpAny_bind (wpAny_bind (wpAny_seqItemAt ho hd (wpAny_pure ?_)))
    rw [hx']
    first
      | exact wpAny_bind (wpAny_pure (wpAny_pure ⟨x, rfl, wpAny_pure h⟩))
      | exact wpAny_pure ⟨x, rfl, wpAny_pure h⟩
def rIxB (K : PySem.W.Frag) : R2 := fun x y H Q => ∃ p xs b v, x = .ref p ∧ y = .bl b ∧ SqL K H p xs ∧ xs[if b then 1 else 0]? = some v ∧ Q v H
theorem ix_bool {X : Cx} : IxR X (rIxB X.K) := by
  intro value slice pins s σ H x y v u Q I rx ry h hs
  obtain ⟨p, xs, b, z, rfl, rfl, hq, he, q⟩ := h
  cases rx
  cases ry
  obtain ⟨its, r, pl, hz⟩ := I.list hq
  obtain ⟨w, ew, rw'⟩ := r.get he
  exact subscriptTail_builtinR (x := w) pl.isList.typeIs slot_list_getitem.lookup
    (getItem_list_bool (Q := fun r s' => r = w ∧ EP X pins σ Q r s') pl.isList (by simpa using ew) ⟨rfl, z, H, I, rw', q⟩) hs

def rIxA (K : PySem.W.Frag) : R2 := fun x y H Q => rIx K x y H Q ∨ rIxB K x y H Q
theorem ix_any {X : Cx} : IxR X (rIxA X.K) := ix_seq.or ix_bool
theorem r_ixL {K : PySem.W.Frag} {p : Addr} {xs : List V} {i : Int} {v : V} {H : Hp} {Q : VK} (h : SqL K H p xs) (e : atI xs i = some v) (q : Q v H) : rIxA K (.ref p) (.int i) H Q := .inl (.inl ⟨p, xs, i, v, rfl, rfl, h, e, q⟩)
theorem r_ixT {K : PySem.W.Frag} {p : Addr} {xs : List V} {i : Int} {v : V} {H : Hp} {Q : VK} (h : SqT K H p xs) (e : atI xs i = some v) (q : Q v H) : rIxA K (.ref p) (.int i) H Q := .inl (.inr (.inl ⟨p, xs, i, v, rfl, rfl, h, e, q⟩))
def rStr : R2 := fun x y H Q => ∃ i j, x = .str i ∧ y = .str j ∧ i.length + j.length ≤ sizeLine ∧ Q (.str (i ++ j)) H
def rPlus (K : PySem.W.Frag) : R2 := fun x y H Q => rI0 (fun i j => .int (i + j)) x y H Q ∨ rCat x y H Q ∨ rCatT K x y H Q ∨ rStr x y H Q
theorem op_plus {X : Cx} : OpR X (binaryOp .Add) (rPlus X.K) := op_add.or (op_cat.or (op_catT.or op_add_str))
theorem r_plusI {K : PySem.W.Frag} {i j : Int} {H : Hp} {Q : VK} (q : Q (.int (i + j)) H) : rPlus K (.int i) (.int j) H Q := .inl ⟨i, j, rfl, rfl, q⟩
theorem r_plusL {K : PySem.W.Frag} {a b : Addr} {xs ys : List V} {H : Hp} {Q : VK} (ha : H a = some (.lst xs)) (hb : H b = some (.lst ys)) (hz : xs.length + ys.length ≤ sizeLine) (q : ∀ p, H p = none → Q (.ref p) (upd H p (.lst (xs ++ ys)))) :
    rPlus K (.ref a) (.ref b) H Q := .inr (.inl ⟨a, b, xs, ys, rfl, rfl, ha, hb, hz, q⟩)
def rTimes : R2 := fun x y H Q => rI CMul (fun i j => .int (i * j)) x y H Q ∨ rRep x y H Q
theorem op_times {X : Cx} : OpR X (binaryOp .Mult) rTimes := op_mul.or op_rep
theorem r_timesI {i j : Int} {H : Hp} {Q : VK} (h : CMul i j) (q : Q (.int (i * j)) H) : rTimes (.int i) (.int j) H Q := .inl ⟨i, j, rfl, rfl, h, q⟩
def rSlA (K : PySem.W.Frag) : V → Option Int → Option Int → Hp → VK → Prop := fun x lo hi H Q => rSlL K x lo hi H Q ∨ rSlT K x lo hi H Q
theorem sl_any {X : Cx} : SlR X (rSlA X.K) := sl_list.or sl_tup


structure FnE (P : Program) (w : World) (K : PySem.W.Frag) (mg : Str → Option Value) (base : Heap) (CX : CXT) (k : Nat) (x : Str) (sp : Sp) : Prop where
  ex : ∃ (f : Addr) (fd : FuncData) (ps : List Str), FnOk P w K mg base CX k f fd ps sp ∧ mg x = some (.ref f) ∧ PySem.W.keepIn K (.ref f) = true ∧ Binds K fd ps []
structure MethE (P : Program) (w : World) (K : PySem.W.Frag) (mg : Str → Option Value) (base : Heap) (CX : CXT) (k : Nat) (C : Addr) (m : Str) (sp : Sp) : Prop where
  cl : Cls K C
  ex : ∃ (f : Addr) (fd : FuncData) (ps : List Str), Meth K C m f ∧ FnOk P w K mg base CX k f fd ps sp ∧ Binds K fd ps []
structure MkE (P : Program) (w : World) (K : PySem.W.Frag) (mg : Str → Option Value) (base : Heap) (CX : CXT) (k : Nat) (x : Str) (C : Addr) (sp : Sp) : Prop where
  ex : ∃ (f : Addr) (fd : FuncData) (ps : List Str), Mk K C f ∧ FnOk P w K mg base CX k f fd ps sp ∧ mg x = some (.ref C) ∧ Binds K fd ps []
theorem MethE.mono {P : Program} {w : World} {K : PySem.W.Frag} {mg : Str → Option Value} {base : Heap} {CX : CXT} {j k : Nat} {C : Addr} {m : Str} {sp : Sp} (M : MethE P w K mg base CX j C m sp) (h : j ≤ k) : MethE P w K mg base CX k C m sp := by
  obtain ⟨f, fd, ps, a, b, c⟩ := M.ex
  exact ⟨M.cl, f, fd, ps, a, b.mono h, c⟩
def tCallE (sp : Sp) (E : XK) (t : TA) : TE := fun σ H Q => t σ H fun vs H1 => sp vs H1 Q E
def tMakeE (C : Addr) (sp : Sp) (E : XK) (t : TA) : TE := fun σ H Q => t σ H fun vs H1 => ∀ x dx, H1 x = none → H1 dx = none → dx ≠ x →
  sp (.ref x :: vs) (upd (upd H1 dx (.own x)) x (.ins C dx [])) (fun v H2 => v = .non ∧ Q (.ref x) H2) E
def tMethE (P : Program) (w : World) (K : PySem.W.Frag) (mg : Str → Option Value) (base : Heap) (CX : CXT) (k : Nat) (m : Str) (E : XK) (ta : TE) (t : TA) : TE := fun σ H Q => ta σ H fun x H1 =>
  ∃ a C dx fs sp, x = .ref a ∧ H1 a = some (.ins C dx fs) ∧ fs.lookup m = none ∧ MethE P w K mg base CX k C m sp ∧ t σ H1 fun vs H2 => sp (.ref a :: vs) H2 Q E
section
variable {X : Cx} {CX : CXT} {k : Nat} {C : Addr} {sp : Sp} {E : XK} {x m : Str} {p pos apos : Pos} {e o : Expr} {es : List Expr} {ta : TE} {t : TA}
theorem pe_callE (G : FnE X.prog X.w X.K X.mg X.base CX k x sp) (hr : Room k X.A) (hx : Passes CX X E) (hg : Gl X x) (ha : PA X (e :: es) t) (hdb : (x == ("__debug__" : Str)) = false := by decide)
    (he : starEach (e :: es) X.env = (false, eval e X.env) :: starEach es X.env := by rfl) (hpl : (backTo pos (starEach es X.env)).any (·.1) = false := by rfl) : PE X (.Call (.Name x p) (e :: es) [] pos) (tCallE sp E t) := by
  obtain ⟨f, fd, ps, F, hm, hk, hb⟩ := G.ex
  have z := pe_call (p := p) (pos := pos) F hr hg hm hk hb .nil hx ha hdb he hpl
  intro pins s σ H Q I h
  refine z pins s σ H Q I ?_
  have e1 : tCall sp [] E t = tCallE sp E t := by
    funext σ H Q
    show t σ H (fun vs H1 => sp (vs ++ []) H1 Q E) = t σ H (fun vs H1 => sp vs H1 Q E)
    simp only [List.append_nil]
  rw [e1]; exact h
theorem pe_makeE (G : MkE X.prog X.w X.K X.mg X.base CX k x C sp) (hr : Room (k + 1) X.A) (hx : Passes CX X E) (hg : Gl X x) (ha : PA X (e :: es) t) (hdb : (x == ("__debug__" : Str)) = false := by decide)
    (he : starEach (e :: es) X.env = (false, eval e X.env) :: starEach es X.env := by rfl) (hpl : (backTo pos (starEach es X.env)).any (·.1) = false := by rfl) : PE X (.Call (.Name x p) (e :: es) [] pos) (tMakeE C sp E t) := by
  obtain ⟨f, fd, ps, M, F, hm, hb⟩ := G.ex
  have z := pe_make (p := p) (pos := pos) M F hr hg hm hb .nil hx ha hdb he hpl
  intro pins s σ H Q I h
  refine z pins s σ H Q I ?_
  have e1 : tMake C sp [] E t = tMakeE C sp E t := by
    funext σ H Q
    show t σ H (fun vs H1 => ∀ x dx, H1 x = none → H1 dx = none → dx ≠ x → sp (.ref x :: (vs ++ [])) _ _ E) = t σ H (fun vs H1 => ∀ x dx, H1 x = none → H1 dx = none → dx ≠ x → sp (.ref x :: vs) _ _ E)
    simp only [List.append_nil]
  rw [e1]; exact h
theorem pe_methE {pl : Sem Bool} (he : PE X o ta) (hr : Room k X.A) (hx : Passes CX X E) (ha : PA X (e :: es) t)
    (hst : starEach (e :: es) X.env = (false, eval e X.env) :: starEach es X.env := by rfl) (hpl : (backTo pos (starEach es X.env)).any (·.1) = false := by rfl)
    (ht : eval (.Call (.Attribute o m apos) (e :: es) [] pos) X.env = (do
      let ov ← eval o X.env
      standAt apos.atName
      let (f, first) ← holding [ov] (getMethod ov m pl)
      callWith pos f first (backTo pos (starEach (e :: es) X.env)) (backToKw pos (keywordEach [] X.env))) := by rfl) :
    PE X (.Call (.Attribute o m apos) (e :: es) [] pos) (tMethE X.prog X.w X.K X.mg X.base CX k m E ta t) := by
  intro pins s σ H Q I h
  refine PySem.W.methodCall_KW (pl := pl) (thn (he pins s σ H _ I h) fun u s1 ⟨x, H1, I1, rx, a, C, dx, fs, sp, ex, ea, l, M, q⟩ => ?_) ht
  subst ex
  obtain rfl : u = Value.ref a := rx
  obtain ⟨f, fd, ps, hm, F, hb⟩ := M.ex
  refine getmeth_ok I1 ea M.cl hm l ?_
  refine PySem.W.callWith_K (first := [.ref a]) (h₀ := X.base) I.ok.mod.kin hm.kp (thn (ha pos pins s1 σ H1 _ I1 q) fun us s2 ⟨vs, H2, I2, r, q2⟩ => ⟨I2.kIn, ?_⟩) hst hpl
  exact run_fn (us := .ref a :: us) (vs := .ref a :: vs) F hr hb .nil hx I2 (.cons rfl r) (by rw [List.append_nil]; exact q2)
theorem pe_methE0 {pl : Sem Bool} (he : PE X o ta) (hr : Room k X.A) (hx : Passes CX X E)
    (ht : eval (.Call (.Attribute o m apos) [] [] pos) X.env = (do
      let ov ← eval o X.env
      standAt apos.atName
      let (f, first) ← holding [ov] (getMethod ov m pl)
      callWith pos f first (backTo pos (starEach [] X.env)) (backToKw pos (keywordEach [] X.env))) := by rfl) :
    PE X (.Call (.Attribute o m apos) [] [] pos) (tMethE X.prog X.w X.K X.mg X.base CX k m E ta tNil) := by
  intro pins s σ H Q I h
  refine PySem.W.methodCall_KW (pl := pl) (thn (he pins s σ H _ I h) fun u s1 ⟨x, H1, I1, rx, a, C, dx, fs, sp, ex, ea, l, M, q⟩ => ?_) ht
  subst ex
  obtain rfl : u = Value.ref a := rx
  obtain ⟨f, fd, ps, hm, F, hb⟩ := M.ex
  refine getmeth_ok I1 ea M.cl hm l ?_
  exact PySem.W.callWith_K0 (first := [.ref a]) I1.kIn hm.kp (run_fn (us := [.ref a]) (vs := [.ref a]) F hr hb .nil hx I1 (.cons rfl .nil) q)
end


theorem b_len : bootBuiltins "len" = some (.builtin "len") := by decide +kernel
theorem b_isinstance : bootBuiltins "isinstance" = some (.builtin "isinstance") := by decide +kernel
theorem b_max : bootBuiltins "max" = some (.builtin "max") := by decide +kernel
theorem b_int : bootBuiltins "int" = some (.type "int") := by decide +kernel
theorem b_list : bootBuiltins "list" = some (.type "list") := by decide +kernel
def rFld (K : PySem.W.Frag) (f : Str) : V → Hp → VK → Prop := fun x H1 Q => ∃ a C dx fs v, x = .ref a ∧ H1 a = some (.ins C dx fs) ∧ Cls K C ∧ NoAttr K C f ∧ fs.lookup f = some v ∧ Q v H1
def rMeth (P : Program) (w : World) (K : PySem.W.Frag) (mg : Str → Option Value) (base : Heap) (CX : CXT) (k : Nat) (m : Str) (E : XK) (σ : St) (t : TA) : V → Hp → VK → Prop := fun x H1 Q =>
  ∃ a C dx fs sp, x = .ref a ∧ H1 a = some (.ins C dx fs) ∧ fs.lookup m = none ∧ MethE P w K mg base CX k C m sp ∧ t σ H1 fun vs H2 => sp (.ref a :: vs) H2 Q E
def sFldV (K : PySem.W.Frag) (f : Str) (y : V) (D : Ends) (σ : St) : V → Hp → Prop := fun x H2 => ∃ a C dx fs, x = .ref a ∧ H2 a = some (.ins C dx fs) ∧ Cls K C ∧ NoAttr K C f ∧ fs.length < 1000 ∧ D.nx σ (upd H2 a (.ins C dx (putF f y fs)))
def rLen (K : PySem.W.Frag) : List V → Hp → VK → Prop := fun xs H Q => ∃ x n, xs = [x] ∧ LenV K x H n ∧ Q (.int n) H
theorem call_lenA {X : Cx} : CallR X (.builtin "len") (rLen X.K) := call_len
theorem r_lenL {K : PySem.W.Frag} {p : Addr} {xs : List V} {H : Hp} {Q : VK} (h : SqL K H p xs) (q : Q (.int xs.length) H) : rLen K [.ref p] H Q := ⟨.ref p, xs.length, rfl, .inl ⟨xs, h, rfl⟩, q⟩
def rLst (K : PySem.W.Frag) : List V → Hp → VK → Prop := fun xs H Q => ∃ p ys, xs = [.ref p] ∧ (SqL K H p ys ∨ SqT K H p ys) ∧ ∀ l, H l = none → Q (.ref l) (upd H l (.lst ys))
theorem call_listA {X : Cx} : CallR X (.type "list") (rLst X.K) := call_list_of
theorem r_listL {K : PySem.W.Frag} {p : Addr} {xs : List V} {H : Hp} {Q : VK} (h : SqL K H p xs) (q : ∀ l, H l = none → Q (.ref l) (upd H l (.lst xs))) : rLst K [.ref p] H Q := ⟨p, xs, rfl, .inl h, q⟩
theorem r_listT {K : PySem.W.Frag} {p : Addr} {xs : List V} {H : Hp} {Q : VK} (h : SqT K H p xs) (q : ∀ l, H l = none → Q (.ref l) (upd H l (.lst xs))) : rLst K [.ref p] H Q := ⟨p, xs, rfl, .inr h, q⟩
def rTwo (g : Int → Int → Int) : List V → Hp → VK → Prop := fun xs H Q => ∃ i j, xs = [.int i, .int j] ∧ Q (.int (g i j)) H
theorem call_maxA {X : Cx} (hc : X.calm = true) : CallR X (.builtin "max") (rTwo fun i j => if j > i then j else i) := call_max2 hc
theorem r_two {g : Int → Int → Int} {i j : Int} {H : Hp} {Q : VK} (q : Q (.int (g i j)) H) : rTwo g [.int i, .int j] H Q := ⟨i, j, rfl, q⟩
theorem r_slL {K : PySem.W.Frag} {p : Addr} {xs : List V} {lo hi : Option Int} {H : Hp} {Q : VK} (h : SqL K H p xs) (q : ∀ l, H l = none → Q (.ref l) (upd H l (.lst (cutV xs lo hi)))) : rSlA K (.ref p) lo hi H Q := .inl ⟨p, xs, rfl, h, q⟩
def rTru (K : PySem.W.Frag) (x : V) (H : Hp) (Q : Bool → Hp → Prop) : Prop := ∃ k, TruV K x H k ∧ Q k H
theorem r_truB {K : PySem.W.Frag} {b : Bool} {H : Hp} {Q : Bool → Hp → Prop} (q : Q b H) : rTru K (.bl b) H Q := ⟨b, rfl, q⟩
theorem iteNT {A B : Prop} (h : B) : if (!true) = true then A else B := h
theorem sql_new {K : PySem.W.Frag} {H : Hp} {a p : Addr} {xs : List V} {o : HO} (h : SqL K H a xs) (hp : H p = none) : SqL K (upd H p o) a xs := Same.seq (same_new hp) h
theorem sqt_new {K : PySem.W.Frag} {H : Hp} {a p : Addr} {xs : List V} {o : HO} (h : SqT K H a xs) (hp : H p = none) : SqT K (upd H p o) a xs := SqT_same (same_new hp) h
theorem same_at {H H' : Hp} {q : Addr} {u : HO} (s : Same H H') (h : H q = some u) : H' q = some u := s _ _ h
theorem r_gSub {to ti : TE} {t : TSet} {v : V} {σ : St} {H : Hp} {Q : St → Hp → Prop} (q : to σ H fun o H1 => ti σ H1 fun i H2 => t o i v H2 fun H3 => Q σ H3) : gSub to ti t v σ H Q := q
theorem r_setL {p : Addr} {xs : List V} {k : Int} {j : Nat} {v : V} {H : Hp} {Q : Hp → Prop} (h : H p = some (.lst xs)) (e : ixN xs.length k = some j) (q : Q (upd H p (.lst (xs.set j v)))) : rSetL (.ref p) (.int k) v H Q := ⟨p, xs, k, j, rfl, rfl, h, e, q⟩
theorem r_append {l : Addr} {xs : List V} {y : V} {H : Hp} {Q : VK} (h : H l = some (.lst xs)) (z : xs.length < sizeLine) (q : Q .non (upd H l (.lst (xs ++ [y])))) : rAppend (.ref l) [y] H Q := ⟨l, xs, y, rfl, rfl, h, z, q⟩
theorem r_clear {l : Addr} {xs : List V} {H : Hp} {Q : VK} (h : H l = some (.lst xs)) (q : Q .non (upd H l (.lst []))) : rClear (.ref l) [] H Q := ⟨l, xs, rfl, rfl, h, q⟩
theorem ty_list {K : PySem.W.Frag} {H : Hp} {p : Addr} {xs : List V} (h : H p = some (.lst xs)) : tyV K "list" (.ref p) H := .inl ⟨rfl, xs, SqL.of h⟩

def ForW (J : It) (g : TG) (tb : TS) (D : Ends) (σ : St) (H1 : Hp) : Prop := ∃ W : Nat → Nat → St → Hp → Prop, (∃ m, W 0 m σ H1) ∧ ∀ i m σ H, W i m σ H →
  (J.stop i H ∧ D.nx σ H) ∨ (J.go i H ∧ ∃ N : St → Hp → Prop, (∀ σ' H', N σ' H' → ∃ m', m' < m ∧ W (i + 1) m' σ' H') ∧ ∀ x H', J.yld i H x H' → g x σ H' fun σ2 H2 => tb { D with nx := N, ct := N, bk := D.nx } σ2 H2)
theorem r_for {wi : TI} {g : TG} {tb : TS} {D : Ends} {σ : St} {H : Hp} (q : wi σ H fun J H1 => ForW J g tb D σ H1) : tFor wi g tb D σ H := q

def iSeq (K : PySem.W.Frag) (tl : TE) : TI := fun σ H R => tl σ H fun x H1 => ∃ a, x = .ref a ∧ (((∃ xs, SqL K H1 a xs) ∧ R (Itl K a) H1) ∨ ((∃ xs, SqT K H1 a xs) ∧ R (Itt K a) H1))
theorem r_iSeq {K : PySem.W.Frag} {tl : TE} {σ : St} {H : Hp} {R : It → Hp → Prop} (q : tl σ H fun x H1 => ∃ a, x = .ref a ∧ (((∃ xs, SqL K H1 a xs) ∧ R (Itl K a) H1) ∨ ((∃ xs, SqT K H1 a xs) ∧ R (Itt K a) H1))) : iSeq K tl σ H R := q
theorem r_rng1 {ta : TA} {σ : St} {H : Hp} {R : It → Hp → Prop} (q : ta σ H fun vs H1 => ∃ j : Int, vs = [.int j] ∧ -(2 ^ 62) ≤ j ∧ j < 2 ^ 62 ∧ R (Itr 0 j.toNat) H1) : iRng1 ta σ H R := q
theorem pi_seq {X : Cx} {tg l : Expr} {tl : TE} (hl : PE X l tl) : PI X tg l (iSeq X.K tl) := by
  intro pins s σ H R I h
  refine thn (hl pins s σ H _ I h) fun v s1 ⟨x, H1, I1, r1, q1⟩ => ?_
  obtain ⟨a, e, hq⟩ := q1
  subst e
  cases r1
  rcases hq with ⟨⟨xs, hq⟩, q⟩ | ⟨⟨xs, hq⟩, q⟩
  · obtain ⟨its, rv, p, hz⟩ := I1.list hq
    refine wpAny_pyIter_list p.isList ?_
    refine ⟨s1.heap.objs.size, [s1.heap.objs.size], _, _, H1, rfl, I1.kept (t' := s1.toks) fun b o e => Heap.get?_push_of_some _ e, turn_list a _, ⟨_, Heap.get?_push_size _ rfl, rfl, rfl⟩, fun b hb => ?_, q⟩
    have e : b = s1.heap.objs.size := by simpa using hb
    subst e
    exact I1.fpOk (Nat.le_refl _) (I1.hok.fresh (Nat.le_refl _))
  · obtain ⟨its, rv, p, hz⟩ := I1.tuple hq
    refine wpAny_pyIter_tuple (show s1.heap.IsTuple a its.toArray from p) ?_
    refine ⟨s1.heap.objs.size, [s1.heap.objs.size], _, _, H1, rfl, I1.kept (t' := s1.toks) fun b o e => Heap.get?_push_of_some _ e, turn_tuple a _, ⟨_, Heap.get?_push_size _ rfl, rfl, rfl⟩, fun b hb => ?_, q⟩
    have e : b = s1.heap.objs.size := by simpa using hb
    subst e
    exact I1.fpOk (Nat.le_refl _) (I1.hok.fresh (Nat.le_refl _))
section
variable {σ : St} {H : Hp} {Q : VK}
theorem r_var {i : Nat} {v : V} (h : σ[i]? = some (some v)) (q : Q v H) : tVar i σ H Q := ⟨v, h, q⟩
theorem r_c {v : V} (q : Q v H) : tC v σ H Q := q
theorem r_op {r : R2} {ta tb : TE} (q : ta σ H fun x H1 => tb σ H1 fun y H2 => r x y H2 Q) : tOp r ta tb σ H Q := q
theorem r_un {r : V → Hp → VK → Prop} {ta : TE} (q : ta σ H fun x H1 => r x H1 Q) : tUn r ta σ H Q := q
theorem r_U {g : Int → V} {i : Int} (q : Q (g i) H) : rU g (.int i) H Q := ⟨i, rfl, q⟩
theorem r_I0 {g : Int → Int → V} {i j : Int} (q : Q (g i j) H) : rI0 g (.int i) (.int j) H Q := ⟨i, j, rfl, rfl, q⟩
theorem r_I {C : Int → Int → Prop} {g : Int → Int → V} {i j : Int} (h : C i j) (q : Q (g i j) H) : rI C g (.int i) (.int j) H Q := ⟨i, j, rfl, rfl, h, q⟩
theorem r_cb {r : List V → Hp → VK → Prop} {t : TA} (q : t σ H fun vs H1 => r vs H1 Q) : tCB r t σ H Q := q
theorem r_callE {sp : Sp} {E : XK} {t : TA} (q : t σ H fun vs H1 => sp vs H1 Q E) : tCallE sp E t σ H Q := q
theorem r_makeE {C : Addr} {sp : Sp} {E : XK} {t : TA} (q : t σ H fun vs H1 => ∀ x dx, H1 x = none → H1 dx = none → dx ≠ x → sp (.ref x :: vs) (upd (upd H1 dx (.own x)) x (.ins C dx [])) (fun v H2 => v = .non ∧ Q (.ref x) H2) E) : tMakeE C sp E t σ H Q := q
theorem r_methE {P : Program} {w : World} {K : PySem.W.Frag} {mg : Str → Option Value} {base : Heap} {CX : CXT} {k : Nat} {m : Str} {E : XK} {ta : TE} {t : TA} (q : ta σ H fun x H1 => rMeth P w K mg base CX k m E σ t x H1 Q) : tMethE P w K mg base CX k m E ta t σ H Q := q
theorem r_methV {P : Program} {w : World} {K : PySem.W.Frag} {mg : Str → Option Value} {base : Heap} {CX : CXT} {k : Nat} {m : Str} {E : XK} {t : TA} {p C dx : Addr} {fs : List (Str × V)} {sp : Sp} (h : H p = some (.ins C dx fs)) (l : fs.lookup m = none) (M : MethE P w K mg base CX k C m sp)
    (q : t σ H fun vs H2 => sp (.ref p :: vs) H2 Q E) : rMeth P w K mg base CX k m E σ t (.ref p) H Q := ⟨p, C, dx, fs, sp, rfl, h, l, M, q⟩
theorem r_fld {K : PySem.W.Frag} {ta : TE} {f : Str} (q : ta σ H fun x H1 => rFld K f x H1 Q) : tFld K ta f σ H Q := q
theorem r_fldV {K : PySem.W.Frag} {f : Str} {p C dx : Addr} {fs : List (Str × V)} {v : V} (h : H p = some (.ins C dx fs)) (c : Cls K C) (n : NoAttr K C f) (l : fs.lookup f = some v) (q : Q v H) : rFld K f (.ref p) H Q := ⟨p, C, dx, fs, v, rfl, h, c, n, l, q⟩
theorem r_tup {t : TA} (q : t σ H fun xs H1 => xs.length ≤ sizeLine ∧ ∀ p, H1 p = none → Q (.ref p) (upd H1 p (.tup xs))) : tTup t σ H Q := q
theorem r_lst {t : TA} (q : t σ H fun xs H1 => xs.length ≤ sizeLine ∧ ∀ p, H1 p = none → Q (.ref p) (upd H1 p (.lst xs))) : tLst t σ H Q := q
theorem r_andV {ta tb : TE} (q : ta σ H fun x H1 => ∃ c, x = .bl c ∧ if c = true then tb σ H1 Q else Q (.bl false) H1) : tAndV ta tb σ H Q := q
theorem r_if {t : TT} {ta tb : TE} (q : t σ H fun c H1 => if c = true then ta σ H1 Q else tb σ H1 Q) : tIf t ta tb σ H Q := q
theorem r_sl {r : V → Option Int → Option Int → Hp → VK → Prop} {te : TE} {tl th : TO} (q : te σ H fun x H1 => tl σ H1 fun l H2 => th σ H2 fun u H3 => r x l u H3 Q) : tSl r te tl th σ H Q := q
theorem r_bm {K : PySem.W.Frag} {T : String} {r : V → List V → Hp → VK → Prop} {to : TE} {t : TA} (q : to σ H fun x H1 => tyV K T x H1 ∧ t σ H1 fun xs H2 => r x xs H2 Q) : tBM K T r to t σ H Q := q
theorem r_bm0 {K : PySem.W.Frag} {T : String} {r : V → List V → Hp → VK → Prop} {to : TE} (q : to σ H fun x H1 => tyV K T x H1 ∧ r x [] H1 Q) : tBM0 K T r to σ H Q := q
end
section
variable {σ : St} {H : Hp} {Q : List V → Hp → Prop}
theorem r_nil (q : Q [] H) : tNil σ H Q := q
theorem r_cons {ta : TE} {tr : TA} (q : ta σ H fun x H1 => tr σ H1 fun xs H2 => Q (x :: xs) H2) : tCons ta tr σ H Q := q
end
section
variable {σ : St} {H : Hp} {Q : Option Int → Hp → Prop}
theorem r_noPart (q : Q none H) : tNoPart σ H Q := q
theorem r_part {t : TE} (q : t σ H fun x H1 => ∃ i, x = .int i ∧ Q (some i) H1) : tPart t σ H Q := q
end
section
variable {σ : St} {H : Hp} {Q : Bool → Hp → Prop}
theorem r_test {t : TE} (q : t σ H fun x H' => ∃ k, x = .bl k ∧ Q k H') : tTest t σ H Q := q
theorem r_and {t u : TT} (q : t σ H fun c H1 => if c = true then u σ H1 Q else Q false H1) : tAnd t u σ H Q := q
theorem r_or {t u : TT} (q : t σ H fun c H1 => if c = true then Q true H1 else u σ H1 Q) : tOr t u σ H Q := q
theorem r_not {t : TT} (q : t σ H fun c H1 => Q (!c) H1) : tNot t σ H Q := q
theorem r_true (q : Q true H) : tTrue σ H Q := q
def tTru (K : PySem.W.Frag) (ta : TE) : TT := fun σ H Q => ta σ H fun x H' => rTru K x H' Q
theorem pt_tru {X : Cx} {a : Expr} {ta : TE} (ha : PE X a ta) (he : ∀ whole, isTrue a X.env whole = (do let v ← whole; standAt a.pos; holding [v] (truthy v)) := by intro _; rfl) : PT X a (tTru X.K ta) := pt_truth ha he
theorem r_tru {K : PySem.W.Frag} {ta : TE} (q : ta σ H fun x H' => rTru K x H' Q) : tTru K ta σ H Q := q
end
section
variable {D : Ends} {σ : St} {H : Hp}
theorem r_next (q : D.nx σ H) : tNext D σ H := q
theorem r_seq {t u : TS} (q : t { D with nx := u D } σ H) : tSeq t u D σ H := q
theorem r_ret {te : TE} (q : te σ H D.rt) : tRet te D σ H := q
theorem r_retN (q : D.rt .non H) : tRetN D σ H := q
theorem r_ifS {c : TT} {t u : TS} (q : c σ H fun b H1 => if b = true then t D σ H1 else u D σ H1) : tIfS c t u D σ H := q
theorem r_asg {te : TE} {g : TG} (q : te σ H fun x H1 => g x σ H1 D.nx) : tAsg te g D σ H := q
theorem r_drop {te : TE} (q : te σ H fun _ H1 => D.nx σ H1) : tDrop te D σ H := q
theorem r_sFld {K : PySem.W.Frag} {ta tv : TE} {f : Str} (q : tv σ H fun y H1 => ta σ H1 fun x H2 => sFldV K f y D σ x H2) : sFld K ta tv f D σ H := q
theorem r_sFldV {K : PySem.W.Frag} {f : Str} {y : V} {p C dx : Addr} {fs : List (Str × V)} (h : H p = some (.ins C dx fs)) (c : Cls K C) (n : NoAttr K C f) (l : fs.length < 1000) (q : D.nx σ (upd H p (.ins C dx (putF f y fs)))) : sFldV K f y D σ (.ref p) H := ⟨p, C, dx, fs, rfl, h, c, n, l, q⟩
end
theorem ifDec {c A B : Prop} [Decidable c] (h1 : c → A) (h2 : ¬ c → B) : if decide c = true then A else B := by
  by_cases h : c
  · rw [if_pos (decide_eq_true h)]; exact h1 h
  · rw [if_neg (by rw [decide_eq_false h]; exact Bool.false_ne_true)]; exact h2 h
theorem ifDecN {c A B : Prop} [Decidable c] (h1 : ¬ c → A) (h2 : c → B) : if (!decide c) = true then A else B := by
  by_cases h : c
  · rw [if_neg (by rw [decide_eq_true h]; decide)]; exact h2 h
  · rw [if_pos (by rw [decide_eq_false h]; rfl)]; exact h1 h
theorem ifInt {a b : Int} {A B : Prop} (h1 : a = b → A) (h2 : a ≠ b → B) : if decide (V.int a = V.int b) = true then A else B :=
  ifDec (fun e => h1 (by cases e; rfl)) fun e => h2 fun z => e (by rw [z])
theorem ifIntN {a b : Int} {A B : Prop} (h1 : a ≠ b → A) (h2 : a = b → B) : if (!decide (V.int a = V.int b)) = true then A else B :=
  ifDecN (fun e => h1 fun z => e (by rw [z])) fun e => h2 (by cases e; rfl)
end L3
namespace L3
open PySem PySem.Spec PyProof.Rows L2
section
variable {P : Program} {w : World} {K : PySem.W.Frag} {mg : Str → Option Value} {base : Heap} {x qual : Str} {st : Stmt} {N ps : List Str} {sp : Sp} {C : Addr}

def BodyOk (P : Program) (w : World) (K : PySem.W.Frag) (mg : Str → Option Value) (base : Heap) (k : Nat) (qual : Str) (st : Stmt) (N : List Str) (sp : Sp) : Prop :=
  ∀ (f : Addr) (cdv : Value) (A : Around) (outer : List Env) (s : Shared) (H : Hp) (vs : List V) (Q : VK) (E : XK), Room k (A.deeper (envOfC qual (defScope st) s.heap.objs.size f cdv)) → sp vs H Q E →
    ∃ t, PSs (cxOf CX0 P w K mg base N qual (defScope st) f cdv A outer s H E).nox (defBody st) t ∧ t { nx := fun _ H' => Q .non H', rt := Q } (start N vs) H
theorem fnE_of (k : Nat) (h : ∃ f fd, Fun K x qual st f fd ∧ mg x = some (.ref f) ∧ Binds K fd ps []) (S : FnScope N ps (defScope st)) (len : ∀ vs H Q E, sp vs H Q E → vs.length = ps.length)
    (hbody : BodyOk P w K mg base k qual st N sp) : FnE P w K mg base CX0 (k + 1) x sp := by
  obtain ⟨f, fd, F, hm, hb⟩ := h
  exact ⟨f, fd, ps, F.ok S len (hbody f), hm, F.kp, hb⟩
theorem methE_of (k : Nat) (c : Cls K C) (h : ∃ f fd, Fun K x qual st f fd ∧ Meth K C x f ∧ Binds K fd ps []) (S : FnScope N ps (defScope st)) (len : ∀ vs H Q E, sp vs H Q E → vs.length = ps.length)
    (hbody : BodyOk P w K mg base k qual st N sp) : MethE P w K mg base CX0 (k + 1) C x sp := by
  obtain ⟨f, fd, F, hm, hb⟩ := h
  exact ⟨c, f, fd, ps, hm, F.ok S len (hbody f), hb⟩
theorem mkE_of {y : Str} (k : Nat) (hy : mg y = some (.ref C)) (h : ∃ f fd, Fun K "__init__" qual st f fd ∧ Mk K C f ∧ Binds K fd ps []) (S : FnScope N ps (defScope st)) (len : ∀ vs H Q E, sp vs H Q E → vs.length = ps.length)
    (hbody : BodyOk P w K mg base k qual st N sp) : MkE P w K mg base CX0 (k + 1) y C sp := by
  obtain ⟨f, fd, F, hm, hb⟩ := h
  exact ⟨f, fd, ps, hm, F.ok S len (hbody f), hy, hb⟩
end
end L3

namespace L3
open PySem PySem.Spec PyProof.Rows L2 PySem.SeqAt

section
variable {X : Cx} {K : PySem.W.Frag}
theorem op_plusK (h : X.K = K) : OpR X (binaryOp .Add) (rPlus K) := by subst h; exact op_plus
theorem op_eqK (h : X.K = K) (hu : X.A.units + 64 < cLine) : OpR X (compareOp .Eq) (rEqA K) := by subst h; exact op_eqA hu
theorem op_neK (h : X.K = K) (hu : X.A.units + 64 < cLine) : OpR X (compareOp .NotEq) (rNeA K) := by subst h; exact op_neA hu
theorem op_inK (h : X.K = K) : OpR X (compareOp .In) (rIn K false) := by subst h; exact op_in_seq
theorem ix_K (h : X.K = K) : IxR X (rIxA K) := by subst h; exact ix_any
theorem sl_K (h : X.K = K) : SlR X (rSlA K) := by subst h; exact sl_any
theorem pi_seqK {tg l : Expr} {tl : TE} (h : X.K = K) (hl : PE X l tl) : PI X tg l (iSeq K tl) := by subst h; exact pi_seq hl
theorem call_lenK (h : X.K = K) : CallR X (.builtin "len") (rLen K) := by subst h; exact call_lenA
theorem call_listK (h : X.K = K) : CallR X (.type "list") (rLst K) := by subst h; exact call_listA
theorem call_isiK (h : X.K = K) : CallR X (.builtin "isinstance") (rIsi K) := by subst h; exact call_isi
theorem pe_fldK {e : Expr} {f : Str} {pos : Pos} {ta : TE} (h : X.K = K) (he : PE X e ta) (hb : attributeBase e f X.env (eval e X.env) = eval e X.env := by rfl) : PE X (.Attribute e f pos) (tFld K ta f) := by subst h; exact pe_fld he hb
theorem ps_fldK {o value : Expr} {f : Str} {pos pos' : Pos} {ta tv : TE} (h : X.K = K) (ha : PE X o ta) (hv : PE X value tv) (hs : swapsWith value (some (.Attribute o f pos')) pos.line X.env = pure false := by rfl) :
    PS X (.Assign [.Attribute o f pos'] value pos) (sFld K ta tv f) := by subst h; exact ps_fld ha hv hs
theorem pt_truK {a : Expr} {ta : TE} (h : X.K = K) (ha : PE X a ta) (he : ∀ whole, isTrue a X.env whole = (do let v ← whole; standAt a.pos; holding [v] (truthy v)) := by intro _; rfl) : PT X a (tTru K ta) := by subst h; exact pt_tru ha he
theorem pg_tupK {es : List Expr} {k : Nat} {t : TGs} {n : Nat} {pos : Pos} (hK : X.K = K) (hc : X.calm = true) (h : PGs X es t)
    (hn : (assignEach es X.env).length = n := by rfl) (hst : (assignEach es X.env).findIdx? (·.1) = none := by rfl) : PG X (.Tuple es k pos) (gTup K n t) := by subst hK; exact pg_tup hc h hn hst
theorem pe_bm0K {o : Expr} {to : TE} {name : Str} {apos cpos : Pos} {T id : String} {r : V → List V → Hp → VK → Prop} (h : X.K = K) (pa : PlainAttrs T) (slot : Slot T name id) (hty : typeOf (.builtin id) = pure (.type "method_descriptor")) (hm : MtR X id r) (ho : PE X o to)
    (hbase : attributeBase o name X.env (eval o X.env) = eval o X.env := by rfl) (hline : (apos.endLine == cpos.line) = true := by rfl) : PE X (.Call (.Attribute o name apos) [] [] cpos) (tBM0 K T r to) := by subst h; exact pe_bm0 pa slot hty hm ho hbase hline
theorem pe_bmK {o e : Expr} {es : List Expr} {to : TE} {t : TA} {name : Str} {apos cpos : Pos} {T id : String} {r : V → List V → Hp → VK → Prop} (h : X.K = K) (pa : PlainAttrs T) (slot : Slot T name id) (hty : typeOf (.builtin id) = pure (.type "method_descriptor")) (hm : MtR X id r) (ho : PE X o to) (ha : PA X (e :: es) t)
    (hbase : attributeBase o name X.env (eval o X.env) = eval o X.env := by rfl)
    (hfew : ((backTo cpos (starEach (e :: es) X.env)).all (fun x => !x.1) && (backToKw cpos (keywordEach [] X.env)).all (fun x => x.1.isSome)
      && decide ((e :: es).length + ([] : List Keyword).length + (if ([] : List Keyword).isEmpty then 0 else 1) < 30)) = true := by rfl)
    (hline : (apos.endLine == cpos.line) = true := by rfl) (hs : starEach (e :: es) X.env = (false, eval e X.env) :: starEach es X.env := by rfl) (hplain : (backTo cpos (starEach es X.env)).any (·.1) = false := by rfl) :
    PE X (.Call (.Attribute o name apos) (e :: es) [] cpos) (tBM K T r to t) := by subst h; exact pe_bm pa slot hty hm ho ha hbase hfew hline hs hplain
end
section
variable {X : Cx} {P : Program} {w : World} {K : PySem.W.Frag} {mg : Str → Option Value} {base : Heap} {CX : CXT} {k : Nat} {E : XK} {m : Str} {pos apos : Pos} {e o : Expr} {es : List Expr} {ta : TE} {t : TA}
theorem pe_methK {pl : Sem Bool} (hP : X.prog = P ∧ X.w = w ∧ X.K = K ∧ X.mg = mg ∧ X.base = base) (he : PE X o ta) (hr : Room k X.A) (hx : Passes CX X E) (ha : PA X (e :: es) t)
    (hst : starEach (e :: es) X.env = (false, eval e X.env) :: starEach es X.env := by rfl) (hpl : (backTo pos (starEach es X.env)).any (·.1) = false := by rfl)
    (ht : eval (.Call (.Attribute o m apos) (e :: es) [] pos) X.env = (do
      let ov ← eval o X.env
      standAt apos.atName
      let (f, first) ← holding [ov] (getMethod ov m pl)
      callWith pos f first (backTo pos (starEach (e :: es) X.env)) (backToKw pos (keywordEach [] X.env))) := by rfl) :
    PE X (.Call (.Attribute o m apos) (e :: es) [] pos) (tMethE P w K mg base CX k m E ta t) := by
  obtain ⟨rfl, rfl, rfl, rfl, rfl⟩ := hP
  exact pe_methE (pl := pl) he hr hx ha hst hpl ht
theorem pe_methK0 {pl : Sem Bool} (hP : X.prog = P ∧ X.w = w ∧ X.K = K ∧ X.mg = mg ∧ X.base = base) (he : PE X o ta) (hr : Room k X.A) (hx : Passes CX X E)
    (ht : eval (.Call (.Attribute o m apos) [] [] pos) X.env = (do
      let ov ← eval o X.env
      standAt apos.atName
      let (f, first) ← holding [ov] (getMethod ov m pl)
      callWith pos f first (backTo pos (starEach [] X.env)) (backToKw pos (keywordEach [] X.env))) := by rfl) :
    PE X (.Call (.Attribute o m apos) [] [] pos) (tMethE P w K mg base CX k m E ta tNil) := by
  obtain ⟨rfl, rfl, rfl, rfl, rfl⟩ := hP
  exact pe_methE0 (pl := pl) he hr hx ht
end
end L3
namespace L3
open PySem PySem.Spec PyProof.Rows L2 PySem.SeqAt

theorem r_alloc {H : Hp} {R : Addr → Prop} (q : ∀ p, H p = none → R p) : ∀ p, H p = none → R p := q
theorem r_small {n : Nat} {R : Prop} (h : n ≤ sizeLine) (q : R) : n ≤ sizeLine ∧ R := ⟨h, q⟩
theorem none_upd1 {H : Hp} {p q : Addr} {o : HO} (h : upd H p o q = none) : H q = none := (none_upd h).1
theorem none_same {H H' : Hp} {q : Addr} (s : Same H H') (h : H' q = none) : H q = none := by
  cases e : H q with
  | none => rfl
  | some u => rw [s _ _ e] at h; cases h
theorem same_none {H H1 : Hp} {p : Addr} {o : HO} (s : Same H H1) (h : H1 p = none) : Same H (upd H1 p o) := s.trans (same_new h)

def CInv {α : Type} (xs : List α) (f : α → V) (Sg : St → Prop) (H : Hp) (i : Nat) (ys : List V) (σ : St) (H1 : Hp) : Prop := Same H H1 ∧ Sg σ ∧ ys = (xs.take i).map f
theorem CInv.next {α : Type} {xs : List α} {f : α → V} {Sg : St → Prop} {H H1 H5 : Hp} {i : Nat} {ys : List V} {σ σ3 : St} {x : α} {y : V} (c : CInv xs f Sg H i ys σ H1) (hx : xs[i]? = some x) (e : y = f x) (s : Same H H5) (sg : Sg σ3) : CInv xs f Sg H (i + 1) (ys ++ [y]) σ3 H5 := by
  obtain ⟨_, _, rfl⟩ := c
  refine ⟨s, sg, ?_⟩
  subst e
  rw [List.take_add_one, hx, Option.toList_some, List.map_append]; rfl
theorem comp_mapR {g : TG} {tc : TT} {te : TE} {fin : List V → Hp → Prop} {σ0 : St} {H : Hp} {lo : Int} {n : Nat} (f : Nat → V) (Sg : St → Prop) (hz : n ≤ sizeLine) (h0 : Sg σ0)
    (hs : ∀ (i : Nat) (ys : List V) (σ : St) (H1 : Hp), i < n → CInv (List.range n) f Sg H i ys σ H1 → Same H H1 → Sg σ →
      g (.int (lo + i)) σ H1 fun σ3 H3 => tc σ3 H3 fun b H4 => if b = true then te σ3 H4 fun y H5 => CInv (List.range n) f Sg H (i + 1) (ys ++ [y]) σ3 H5 else CInv (List.range n) f Sg H (i + 1) ys σ3 H4)
    (hd : ∀ H1, Same H H1 → fin ((List.range n).map f) H1) : CompW (Itr lo n) g tc te fin σ0 H := by
  refine comp_range (CInv (List.range n) f Sg H) ⟨Same.refl _, h0, rfl⟩ ?_ ?_ ?_
  · rintro i ys σ H1 hi ⟨s, _, rfl⟩
    rw [List.length_map, List.length_take, List.length_range]; omega
  · intro i ys σ H1 hi c
    exact hs i ys σ H1 hi c c.1 c.2.1
  · rintro ys σ H1 ⟨s, _, rfl⟩
    rw [List.take_of_length_le (by rw [List.length_range]; exact Nat.le_refl _)]
    exact hd H1 s
theorem range_get {n i : Nat} (h : i < n) : (List.range n)[i]? = some i := by rw [List.getElem?_range h]

theorem r_ifB {b : Bool} {A B : Prop} (h1 : b = true → A) (h2 : b = false → B) : if b = true then A else B := by
  cases b with
  | true => exact h1 rfl
  | false => exact h2 rfl
theorem r_62 {j : Int} {R : Prop} (h1 : -(2 ^ 62) ≤ j) (h2 : j < 2 ^ 62) (q : R) : -(2 ^ 62) ≤ j ∧ j < 2 ^ 62 ∧ R := ⟨h1, h2, q⟩
theorem r_itT {K : PySem.W.Frag} {H : Hp} {a : Addr} {xs : List V} {A B : Prop} (h : SqT K H a xs) (q : B) : ((∃ xs, SqL K H a xs) ∧ A) ∨ ((∃ xs, SqT K H a xs) ∧ B) := .inr ⟨⟨xs, h⟩, q⟩
theorem r_tyL {K : PySem.W.Frag} {H : Hp} {p : Addr} {xs : List V} {R : Prop} (h : H p = some (.lst xs)) (q : R) : tyV K "list" (.ref p) H ∧ R := ⟨ty_list h, q⟩
theorem map_int {α : Type} (l : List α) (f : α → Int) : l.map (fun k => V.int (f k)) = (l.map f).map V.int := by rw [List.map_map]; rfl
theorem upd_again {H : Hp} {p : Addr} {o1 o2 : HO} : upd (upd H p o1) p o2 = upd H p o2 := upd_upd ..
theorem r_gN {i : Nat} {v : V} {σ σ' : St} {H : Hp} {Q : St → Hp → Prop} (h : σ.set i (some v) = σ') (q : Q σ' H) : gName i v σ H Q := by subst h; exact q
theorem r_st {N : List Str} {vs : List V} {σ' : St} {t : TS} {D : Ends} {H : Hp} (h : start N vs = σ') (q : t D σ' H) : t D (start N vs) H := by subst h; exact q
theorem r_compS' {i : Nat} {own : List Str} {fr : List (Str × Nat)} {wi : TI} {g : TG} {tc : TT} {te : TE} {D : Ends} {σ σi : St} {H : Hp} (h : innerS own fr σ = σi) (q : wi σ H fun J H1 => CompW J g tc te (fun ys H3 => ∀ p, H3 p = none → gName i (.ref p) σ (upd H3 p (.lst ys)) D.nx) σi H1) : tCompS i own fr wi g tc te D σ H := by subst h; exact q
theorem r_compE' {own : List Str} {fr : List (Str × Nat)} {wi : TI} {g : TG} {tc : TT} {te : TE} {σ σi : St} {H : Hp} {Q : VK} (h : innerS own fr σ = σi) (q : wi σ H fun J H1 => CompW J g tc te (fun ys H3 => ∀ p, H3 p = none → Q (.ref p) (upd H3 p (.lst ys))) σi H1) : tCompE own fr wi g tc te σ H Q := by subst h; exact q
def rIsN : R2 := fun x y H Q => y = .non ∧ Q (.bl (decide (x = .non))) H
def rNotN : R2 := fun x y H Q => y = .non ∧ Q (.bl (!decide (x = .non))) H
theorem op_isNA {X : Cx} : OpR X (compareOp .Is) rIsN := op_isN
theorem op_notNA {X : Cx} : OpR X (compareOp .IsNot) rNotN := op_notN
theorem r_isNr {p : Addr} {H : Hp} {Q : VK} (q : Q (.bl false) H) : rIsN (.ref p) .non H Q := ⟨rfl, q⟩
theorem r_isNn {H : Hp} {Q : VK} (q : Q (.bl true) H) : rIsN .non .non H Q := ⟨rfl, q⟩
theorem r_isNi {i : Int} {H : Hp} {Q : VK} (q : Q (.bl false) H) : rIsN (.int i) .non H Q := ⟨rfl, q⟩
theorem r_notNn {H : Hp} {Q : VK} (q : Q (.bl false) H) : rNotN .non .non H Q := ⟨rfl, q⟩
def CShl (i j : Int) : Prop := 0 ≤ j ∧ j ≤ 1000000 ∧ ∃ k : Nat, k ≤ 1000000 ∧ i.natAbs < 2 ^ k
theorem op_shlB {X : Cx} : OpR X (binaryOp .LShift) (rI CShl fun i j => .int (i * 2 ^ j.toNat)) := opI fun i j _ _ _ _ _ hc q => by
  obtain ⟨h0, h1, k, hk, hb⟩ := hc
  have := PySem.intBits_le_iff.mpr hb
  exact lshift_int h0 (by have e : (2 : Int) ^ 27 = 134217728 := rfl; rw [e]; omega) q
theorem shl_one {j : Int} (h0 : 0 ≤ j) (h1 : j ≤ 1000000) : CShl 1 j := ⟨h0, h1, 1, by decide, by decide⟩
theorem one_shl (j : Nat) : (1 : Int) * 2 ^ j = ((2 ^ j : Nat) : Int) := by rw [Int.one_mul]; exact (Int.natCast_pow 2 j).symm
theorem bitAnd_wo (s t : Nat) : Builtin.bitAnd (s : Int) (Builtin.bitNot (t : Int)) = ((Bt.wo s t : Nat) : Int) := by
  have hn : ¬ (0 : Int) ≤ Builtin.bitNot (t : Int) := by unfold Builtin.bitNot; omega
  have e : (Builtin.bitNot (Builtin.bitNot (t : Int))).toNat = t := by unfold Builtin.bitNot; omega
  unfold Builtin.bitAnd
  rw [decide_eq_true (Int.natCast_nonneg s), decide_eq_false hn]
  show (s : Int) - (((s : Int).toNat &&& (Builtin.bitNot (Builtin.bitNot (t : Int))).toNat : Nat) : Int) = _
  rw [Int.toNat_natCast, e]
  have : (s &&& t) ≤ s := Nat.and_le_left
  unfold Bt.wo; omega
end L3
namespace L3
open PySem PySem.Spec PyProof.Rows L2 PySem.SeqAt

def rDict : List V → Hp → VK → Prop := fun xs H Q => ∃ a kvs, xs = [.ref a] ∧ Rd H a (.dK kvs) ∧ ∀ p, H p = none → Q (.ref p) (upd H p (.dK kvs))
theorem call_dict1 {X : Cx} : CallR X (.type "dict") rDict := by
  intro pins s σ H xs us Q I r h
  obtain ⟨a, kvs, rfl, e, q⟩ := h
  obtain ⟨u, rfl, rx⟩ := vals1 r
  cases rx
  exact d_copyOf I e fun p s' hp I' => ⟨.ref p, _, I', rfl, q p hp⟩
theorem r_dict {a : Addr} {kvs : List (Key × V)} {H : Hp} {Q : VK} (h : H a = some (.dK kvs)) (q : ∀ p, H p = none → Q (.ref p) (upd H p (.dK kvs))) : rDict [.ref a] H Q := ⟨a, kvs, rfl, .inl h, q⟩
theorem r_dnew {σ : St} {H : Hp} {Q : VK} (q : ∀ p, H p = none → Q (.ref p) (upd H p (.dK []))) : tDNewK σ H Q := q
theorem r_dPut {td ty tv : TE} {D : Ends} {σ : St} {H : Hp} (q : tv σ H fun v H1 => td σ H1 fun x H2 => ty σ H2 fun y H3 => ∃ a H4, x = .ref a ∧ DPut H3 a y v H4 ∧ D.nx σ H4) : sDPut td ty tv D σ H := q
theorem r_dputI {p : Addr} {kvs : List (Key × V)} {k : Int} {v : V} {H : Hp} {R : Hp → Prop} (h : H p = some (.dK kvs)) (hl : kvs.length < sizeLine) (q : R (upd H p (.dK (putK kvs (.inl k) v)))) : ∃ a H4, V.ref p = .ref a ∧ DPut H a (.int k) v H4 ∧ R H4 :=
  ⟨p, _, rfl, DPut.k (k := .inl k) h hl, q⟩
theorem r_dGet {td ty : TE} {σ : St} {H : Hp} {Q : VK} (q : td σ H fun x H1 => ty σ H1 fun y H2 => ∃ a v, x = .ref a ∧ DGet H2 a y (some v) ∧ Q v H2) : tDGet td ty σ H Q := q
theorem r_dgetI {p : Addr} {kvs : List (Key × V)} {k : Int} {v : V} {H : Hp} {Q : VK} (h : H p = some (.dK kvs)) (e : valV kvs (.inl k) = some v) (q : Q v H) : ∃ a v, V.ref p = .ref a ∧ DGet H a (.int k) (some v) ∧ Q v H :=
  ⟨p, v, rfl, e ▸ DGet.k (k := .inl k) h, q⟩
theorem r_dIn {td ty : TE} {σ : St} {H : Hp} {Q : VK} (q : ty σ H fun y H1 => td σ H1 fun x H2 => ∃ a o, x = .ref a ∧ DGet H2 a y o ∧ Q (.bl o.isSome) H2) : tDIn ty td σ H Q := q
theorem r_dinI {p : Addr} {kvs : List (Key × V)} {k : Int} {H : Hp} {R : Option V → Prop} (h : H p = some (.dK kvs)) (q : R (valV kvs (.inl k))) : ∃ a o, V.ref p = .ref a ∧ DGet H a (.int k) o ∧ R o := ⟨p, _, rfl, DGet.k (k := .inl k) h, q⟩
def rBitLen : V → List V → Hp → VK → Prop := fun x xs H Q => ∃ i, x = .int i ∧ xs = [] ∧ Q (.int ((Builtin.Int.intBits i : Nat) : Int)) H
theorem mt_bitlen {X : Cx} : MtR X "int.bit_length" rBitLen := by
  intro pins s σ H x xs v us Q I rx rs h
  obtain ⟨i, rfl, rfl, q⟩ := h
  cases rs
  obtain ⟨t, rfl⟩ := (show ∃ t, v = Value.int i t from rx)
  refine call_gives F.slot_int_bit_length (typeIs_int s i t) F.entry_int_bit_length (F.args_int_bit_length_1 _) (AutoIntG2.int_bit_length_int_0 i t) ?_
  exact ⟨.int _, H, I.tok _, ⟨_, rfl⟩, q⟩
theorem r_bitlen {i : Int} {H : Hp} {Q : VK} (q : Q (.int ((Builtin.Int.intBits i : Nat) : Int)) H) : rBitLen (.int i) [] H Q := ⟨i, rfl, rfl, q⟩
theorem r_tyI {K : PySem.W.Frag} {H : Hp} {i : Int} {R : Prop} (q : R) : tyV K "int" (.int i) H ∧ R := ⟨rfl, q⟩

structure FunD (K : PySem.W.Frag) (x qual : Str) (st : Stmt) (f : Addr) (fd : FuncData) : Prop where
  ex : ∃ (oc : Value) (od : Option Addr) (da : Addr) (kV doc pm : Value) (an : Option Addr) (cdv ct : Value) (osl : Array (Option Value)) (o : Obj) (n : Nat),
    fd = PySem.W.fnOf x qual (defArgs st) (defBody st) (defScope st) (.ref da) kV doc pm an cdv ct ∧ K.lookup f = some ⟨oc, od, .func fd, osl⟩ ∧ PySem.W.codeIn K cdv qual = true ∧ K.lookup da = some o ∧ o.data = .seq #[.none] n
  kp : PySem.W.keepIn K (.ref f) = true
theorem funD_mk {K : PySem.W.Frag} {x qual : Str} {st : Stmt} {f da : Addr} {o : Obj} {oc : Value} {od an : Option Addr} {osl : Array (Option Value)} {kV doc pm cdv ct : Value} (l : K.lookup f = some ⟨oc, od, .func (PySem.W.fnOf x qual (defArgs st) (defBody st) (defScope st) (.ref da) kV doc pm an cdv ct), osl⟩)
    (d : K.lookup da = some o ∧ ∃ n, o.data = .seq #[.none] n) (c : PySem.W.codeIn K cdv qual = true) (k : PySem.W.keepIn K (.ref f) = true) : FunD K x qual st f (PySem.W.fnOf x qual (defArgs st) (defBody st) (defScope st) (.ref da) kV doc pm an cdv ct) :=
  let ⟨n, e⟩ := d.2; ⟨⟨oc, od, da, kV, doc, pm, an, cdv, ct, osl, o, n, rfl, l, c, d.1, e⟩, k⟩
section
variable {P : Program} {w : World} {K : PySem.W.Frag} {mg : Str → Option Value} {base : Heap}
theorem FunD.ok {x qual : Str} {st : Stmt} {f : Addr} {fd : FuncData} {N ps : List Str} {k : Nat} {sp : Sp} (F : FunD K x qual st f fd) (S : FnScope N ps (defScope st)) (len : ∀ vs H Q E, sp vs H Q E → vs.length = ps.length)
    (hbody : ∀ (cdv : Value) (A : Around) (outer : List Env) (s : Shared) (H : Hp) (vs : List V) (Q : VK) (E : XK), Room k (A.deeper (envOfC qual (defScope st) s.heap.objs.size f cdv)) → sp vs H Q E →
      ∃ t, PSs (cxOf CX0 P w K mg base N qual (defScope st) f cdv A outer s H E).nox (defBody st) t ∧ t { nx := fun _ H' => Q .non H', rt := Q } (start N vs) H) : FnOk P w K mg base CX0 (k + 1) f fd ps sp := by
  obtain ⟨oc, od, da, kV, doc, pm, an, cdv, ct, osl, o, n, rfl, lk, hcd, _, _⟩ := F.ex
  refine fn_of lk hcd S len fun A outer s H vs Q E hr hsp => ?_
  obtain ⟨t, h, q⟩ := hbody cdv A outer s H vs Q E hr hsp
  exact ⟨t, h.nox, q⟩
theorem FunD.bindsD {x qual : Str} {st : Stmt} {f : Addr} {fd : FuncData} {ps : List Str} (F : FunD K x qual st f fd)
    (h : ∀ (da : Addr) (kV doc pm : Value) (an : Option Addr) (cdv ct : Value) (us : List Value), us.length + 1 = ps.length → ∃ k : Option (Array Value) → Sem (List (Str × Value)), bindArgs (PySem.W.fnOf x qual (defArgs st) (defBody st) (defScope st) (.ref da) kV doc pm an cdv ct) ⟨us, []⟩ = seqItems? (.ref da) >>= k ∧ k (some #[.none]) = pure (ps.zip (us ++ [.none]))) : Binds K fd ps [.none] := by
  obtain ⟨oc, od, da, kV, doc, pm, an, cdv, ct, osl, o, n, rfl, lk, hcd, ld, ed⟩ := F.ex
  intro s us KX hl
  obtain ⟨k, h1, h2⟩ := h da kV doc pm an cdv ct us (by rw [List.length_append] at hl; exact hl)
  exact .of_defaults rfl (KX _ _ ld) ed h1 h2
end
structure MkD (P : Program) (w : World) (K : PySem.W.Frag) (mg : Str → Option Value) (base : Heap) (CX : CXT) (k : Nat) (x : Str) (C : Addr) (sp : Sp) : Prop where
  ex : ∃ (f : Addr) (fd : FuncData) (ps : List Str), Mk K C f ∧ FnOk P w K mg base CX k f fd ps sp ∧ mg x = some (.ref C) ∧ Binds K fd ps [.none]
section
variable {X : Cx} {CX : CXT} {k : Nat} {C : Addr} {sp : Sp} {E : XK} {x m : Str} {p pos apos : Pos} {e o : Expr} {es : List Expr} {ta : TE} {t : TA}
end
section
variable {P : Program} {w : World} {K : PySem.W.Frag} {mg : Str → Option Value} {base : Heap} {x qual : Str} {st : Stmt} {N ps : List Str} {sp : Sp} {C : Addr}
theorem mkE_ofD {y : Str} (k : Nat) (hy : mg y = some (.ref C)) (h : ∃ f fd, FunD K "__init__" qual st f fd ∧ Mk K C f ∧ Binds K fd ps [] ∧ Binds K fd ps [.none]) (S : FnScope N ps (defScope st)) (len : ∀ vs H Q E, sp vs H Q E → vs.length = ps.length)
    (hbody : BodyOk P w K mg base k qual st N sp) : MkE P w K mg base CX0 (k + 1) y C sp ∧ MkD P w K mg base CX0 (k + 1) y C sp := by
  obtain ⟨f, fd, F, hm, hb, hb2⟩ := h
  exact ⟨⟨f, fd, ps, hm, F.ok S len (hbody f), hy, hb⟩, ⟨f, fd, ps, hm, F.ok S len (hbody f), hy, hb2⟩⟩
end

theorem r_inL {K : PySem.W.Frag} {neg : Bool} {x : V} {p : Addr} {xs : List V} {H : Hp} {Q : VK} (h : SqL K H p xs) (hx : flatV x = true) (hs : xs.all flatV = true) (q : Q (.bl (if neg then !inV x xs else inV x xs)) H) : rIn K neg x (.ref p) H Q := ⟨p, xs, rfl, .inl h, hx, hs, q⟩
section
variable {K : PySem.W.Frag} {a : Addr} {xs : List V} {g : TG} {tc : TT} {te : TE} {fin : List V → Hp → Prop} {H : Hp}
theorem comp_tup {σ0 : St} (Pv : Nat → List V → St → Hp → Prop) (h0 : Pv 0 [] σ0 H) (hl : ∀ i ys σ H, i ≤ xs.length → Pv i ys σ H → SqT K H a xs ∧ ys.length ≤ sizeLine)
    (hs : ∀ i x ys σ H, xs[i]? = some x → Pv i ys σ H → g x σ H fun σ3 H3 => tc σ3 H3 fun b H4 => if b = true then te σ3 H4 fun y H5 => Pv (i + 1) (ys ++ [y]) σ3 H5 else Pv (i + 1) ys σ3 H4)
    (hd : ∀ ys σ H, Pv xs.length ys σ H → fin ys H) : CompW (Itt K a) g tc te fin σ0 H := by
  refine ⟨fun i m ys σ H => m = xs.length - i ∧ i ≤ xs.length ∧ Pv i ys σ H, ⟨xs.length, by simp, Nat.zero_le _, h0⟩, ?_⟩
  rintro i m ys σ H ⟨rfl, hi, p⟩
  obtain ⟨q, hz⟩ := hl i ys σ H hi p
  by_cases hlt : i < xs.length
  · refine .inr ⟨⟨xs, xs[i], q, by simp [hlt]⟩, Pv (i + 1), fun ys2 σ2 H2 p' => ⟨(hl (i + 1) ys2 σ2 H2 hlt p').2, xs.length - (i + 1), by omega, rfl, hlt, p'⟩, fun x H2 y => ?_⟩
    obtain ⟨e, y⟩ := y
    subst e
    exact hs i x ys σ _ (y xs q) p
  · have e : i = xs.length := by omega
    subst e
    exact .inl ⟨⟨xs, q, Nat.le_refl _⟩, hz, hd ys σ H p⟩
theorem comp_mapT {α : Type} {xs : List α} {emb : α → V} {σ0 : St} (f : α → V) (Sg : St → Prop) (hl : SqT K H a (xs.map emb)) (hz : xs.length ≤ sizeLine) (h0 : Sg σ0)
    (hs : ∀ (i : Nat) (x : α) (ys : List V) (σ : St) (H1 : Hp), xs[i]? = some x → CInv xs f Sg H i ys σ H1 → Same H H1 → Sg σ →
      g (emb x) σ H1 fun σ3 H3 => tc σ3 H3 fun b H4 => if b = true then te σ3 H4 fun y H5 => CInv xs f Sg H (i + 1) (ys ++ [y]) σ3 H5 else CInv xs f Sg H (i + 1) ys σ3 H4)
    (hd : ∀ H1, Same H H1 → fin (xs.map f) H1) : CompW (Itt K a) g tc te fin σ0 H := by
  refine comp_tup (xs := xs.map emb) (CInv xs f Sg H) ⟨Same.refl _, h0, rfl⟩ ?_ ?_ ?_
  · rintro i ys σ H1 hi ⟨s, _, rfl⟩
    refine ⟨SqT_same s hl, ?_⟩
    rw [List.length_map, List.length_take]; omega
  · intro i x ys σ H1 hx c
    rw [List.getElem?_map] at hx
    obtain ⟨z, hz, rfl⟩ := Option.map_eq_some_iff.mp hx
    exact hs i z ys σ H1 hz c c.1 c.2.1
  · rintro ys σ H1 ⟨s, _, rfl⟩
    rw [List.length_map, List.take_length]
    exact hd H1 s
end
end L3
namespace L3
open PySem PySem.Spec PyProof.Rows

section
variable {prog : Program} {w : World} {A : Around} {E : Value → Shared → Prop} {s : Shared}

end
section
variable {prog : Program} {w : World} {A : Around} {E : Value → Shared → Prop} {s : Shared}
end
end L3
namespace L3
open PySem PySem.Spec PyProof.Rows L2

theorem inv_turns {X : Cx} {pins : List (Addr × Obj)} {σ : St} {H : Hp} {s : Shared} {h' : Heap} {ch : List Addr} {T : Addr} {xs : List V} (I : Inv X pins σ H s) (hf : ∀ b ∈ ch, FpOk X pins H b) (hT : s.heap.objs.size ≤ T)
    (k : ∀ b o, b ∉ ch → s.heap.get? b = some o → h'.get? b = some o) (kc : ∀ b ∈ ch, ∃ o, h'.get? b = some o) (new : ObjOk X.prog X.w (upd H T (.tup xs)) h' T (.tup xs)) : Inv X pins σ (upd H T (.tup xs)) { s with heap := h' } := by
  have hn : H T = none := I.hok.fresh hT
  have nc : ∀ b u, H b = some u → b ∉ ch := fun b u e hb => by rw [(hf b hb).1] at e; cases e
  have nT : ∀ b o, s.heap.get? b = some o → b ≠ T := fun b o e z => absurd (Heap.lt_size e) (by rw [z]; exact Nat.not_lt.mpr hT)
  refine I.call' (ch := ch) rfl ⟨fun b o e _ _ hc => k b o hc e, fun b o e _ _ hc => ⟨o.slots, k b o hc e⟩, fun b o e n _ => by rw [upd_ne (nT b o e)]; exact n, fun b o e hc => ⟨o, k b o hc e⟩, fun b xs e => ?_, fun b o u e => ?_, fun b ps e => ⟨#[], ?_⟩⟩ ?_ I.bare ?_
  · rw [upd_ne (ne_of_none e hn)]; exact e
  · rw [upd_ne (ne_of_none e hn)]; exact e
  · rw [upd_ne (ne_of_none e hn), e]; simp
  · intro b u e
    by_cases hb : b = T
    · subst hb
      rw [upd_same] at e
      cases e
      exact new
    · rw [upd_ne hb] at e
      refine (I.hok b u e).stay (fun c v hc q => k c v ?_ q) (fun c q => by rw [upd_ne (ne_of_none q hn)]; exact q) fun c ys q => by rw [upd_ne (ne_of_none q hn)]; exact q
      rcases hc with z | z
      · rw [z]; exact nc b u e
      · exact nc c _ z
  · intro b hb
    obtain ⟨f0, f1, f2, f3, f4, f5⟩ := hf b hb
    exact ⟨f3, f1, f4, f5⟩
end L3
namespace L3
open PySem PySem.Spec PyProof.Rows L2

theorem r_pop {l : Addr} {xs : List V} {y : V} {H : Hp} {Q : VK} (h : H l = some (.lst (xs ++ [y]))) (q : Q y (upd H l (.lst xs))) : rPop (.ref l) [] H Q := by
  refine ⟨l, xs ++ [y], y, rfl, rfl, h, ?_, ?_⟩
  · simp
  · simpa using q
end L3

namespace L3
open PySem PySem.Spec PyProof.Rows L2 PySem.SeqAt

theorem PS.nox {X : Cx} {st : Stmt} {t : TS} (h : PS X.nox st t) : PS X st t := fun pins s σ H D I hw =>
  wpAny_mono (h pins s σ H D (I.wish _) hw) (fun _ _ q => q.unwish) fun _ _ z => z.elim
theorem PA.nox {X : Cx} {es : List Expr} {t : TA} (h : PA X.nox es t) : PA X es t := fun pos pins s σ H Q I hw =>
  wpAny_mono (h pos pins s σ H Q (I.wish _) hw) (fun _ _ ⟨v, H', I', r, q⟩ => ⟨v, H', I'.unwish, r, q⟩) fun _ _ z => z.elim


theorem hok_stays {P : Program} {w : World} {H : Hp} {h0 h5 : Heap} {l : List Addr} (x : HOk P w H h0) (hl : ∀ b ∈ l, H b = none) (k : (PySem.W.hideAll h0 l).StaysIn h5) : HOk P w H h5 := fun a o e => by
  refine (x a o e).stay (fun b u hb q => k b u (PySem.W.hideAll_get _ q fun hm => ?_)) (fun _ q => q) fun _ _ q => q
  have hn := hl b hm
  rcases hb with rfl | hb
  · rw [e] at hn; cases hn
  · rw [hb] at hn; cases hn
theorem un_stays {fs : List Addr} {H H' : Hp} {h h0 h5 : Heap} {l : List Addr} (u : Un fs [] H H' h h0) (hl : ∀ b ∈ l, b ∈ fs ∨ h.objs.size ≤ b) (k : (PySem.W.hideAll h0 l).StaysIn h5) (up : h0.UpToSlots h5)
    (hf : ∀ b ∈ fs, H b = none ∧ ∀ o, h.get? b = some o → ∀ vs, o.data ≠ .fields vs) : Un fs [] H H' h h5 := by
  have nl : ∀ b o, h.get? b = some o → b ∉ fs → b ∉ l := fun b o q hb hm => by
    rcases hl b hm with z | z
    · exact hb z
    · exact absurd (Nat.lt_of_lt_of_le (Heap.lt_size q) z) (Nat.lt_irrefl _)
  have sl : ∀ b o, h.get? b = some o → b ∈ fs → ∃ sl, h5.get? b = some { o with slots := sl } := fun b o q hb => by
    obtain ⟨s1, e1⟩ := u.slot b o q (hf b hb).1 hb (by simp)
    obtain ⟨s2, e2⟩ := up b _ e1 ((hf b hb).2 o q)
    exact ⟨s2, e2⟩
  refine ⟨fun b o q n hb hx => k b o (PySem.W.hideAll_get _ (u.keep b o q n hb hx) (nl b o q hb)), fun b o q _ hb _ => sl b o q hb, u.free, fun b o q hx => ?_, u.tups, u.frzs, u.tbls⟩
  by_cases hb : b ∈ fs
  · obtain ⟨s2, e2⟩ := sl b o q hb
    exact ⟨_, e2⟩
  · obtain ⟨o', e'⟩ := u.there b o q hx
    exact ⟨o', k b o' (PySem.W.hideAll_get _ e' (nl b o q hb))⟩


end L3
namespace L3
open PySem PySem.Spec PyProof.Rows L2 PySem.SeqAt

theorem frs_body {X : Cx} (hst : X.stack = X.env :: X.outer) (hfr : X.env.frame = some X.env.locals) : frs X.stack = X.env.locals :: frs X.outer := by
  rw [hst]; unfold frs; rw [List.filterMap_cons, hfr]

end L3
namespace L3
open PySem PySem.Spec PyProof.Rows L2 PySem.SeqAt
section
variable {P : Program} {w : World} {K : PySem.W.Frag} {mg : Str → Option Value} {base : Heap} {x qual : Str} {st : Stmt} {N ps : List Str} {sp : Sp} {C : Addr} {k : Nat}

end

section
variable {X : Cx} {pins : List (Addr × Obj)} {σ : St} {H : Hp} {s : Shared}

abbrev Cx.sup (X : Cx) (e : Addr) (pl : List (Addr × Obj)) : Cx := { X with A := X.A.mark (some (.ref e)), calm := false, xe := fun _ _ => False, pn := X.pn ++ pl }
theorem Cx.Ok.sup {e : Addr} {pl : List (Addr × Obj)} (ok : X.Ok) : (Cx.sup X e pl).Ok :=
  ⟨ok.mod, ok.kind, ok.glob, ok.blt, ok.above, ok.inj, ok.has, ok.cab, (fun z => by cases z), ok.frames, ok.stk, ok.exf, ok.bs, ok.bsz, ok.noex, ok.exfs, ok.funs, ok.frf⟩
theorem Cx.Ok.unsup {e : Addr} {pl : List (Addr × Obj)} (ok : (Cx.sup X e pl).Ok) (h : X.calm = true → X.A.handled = none) : X.Ok :=
  ⟨ok.mod, ok.kind, ok.glob, ok.blt, ok.above, ok.inj, ok.has, ok.cab, h, ok.frames, ok.stk, ok.exf, ok.bs, ok.bsz, ok.noex, ok.exfs, ok.funs, ok.frf⟩
theorem Inv.sup {e : Addr} {pl : List (Addr × Obj)} (I : Inv X pins σ H s) (h : ∀ p ∈ pl, s.heap.get? p.1 = some p.2 ∧ H p.1 = none ∧ p.1 ≠ X.env.locals ∧ p.1 ∉ X.fs ∧ ∀ v, p.2.data ≠ .cell v) : Inv (Cx.sup X e pl) pins σ H s :=
  ⟨Cx.Ok.sup I.ok, I.os, I.bare, I.base, I.loc, I.cell, I.free, I.freeC, fun p hp => by
    rcases List.mem_append.mp hp with hp | hp
    · rcases List.mem_append.mp hp with hp | hp
      · exact I.pin p (List.mem_append_left _ hp)
      · exact h p hp
    · exact I.pin p (List.mem_append_right _ hp), I.hok, I.len⟩
theorem Inv.unsup {e : Addr} {pl : List (Addr × Obj)} (I : Inv (Cx.sup X e pl) pins σ H s) (h : X.calm = true → X.A.handled = none) : Inv X pins σ H s :=
  ⟨Cx.Ok.unsup I.ok h, I.os, I.bare, I.base, I.loc, I.cell, I.free, I.freeC, fun p hp => by
    rcases List.mem_append.mp hp with hp | hp
    · exact I.pin p (List.mem_append_left _ (List.mem_append_left _ hp))
    · exact I.pin p (List.mem_append_right _ hp), I.hok, I.len⟩
end
end L3
namespace L3
open PySem PySem.Spec PyProof.Rows L2 PySem.SeqAt


abbrev TB := Ends → XK → St → Hp → Prop
section
variable {X : Cx} {pins : List (Addr × Obj)} {σ : St} {H : Hp} {s : Shared} {k : Nat} {g x n : Str} {sp : Sp} {e : Expr} {es : List Expr} {t : TA} {gp cpos pos py : Pos}

end
end L3
namespace L3
open PySem PySem.Spec PyProof.Rows L2 PySem.SeqAt
section
variable {X : Cx} {pins : List (Addr × Obj)} {σ : St} {H H1 H' : Hp} {s s1 s' : Shared} {ea C : Addr}

theorem landed_at {h0 h5 : Heap} {l : List Addr} (I : Inv X pins σ H1 s1) (os : s'.os = s1.os) (bare : AllBare s'.gens) (u : Un (frs X.stack) [] H1 H' s1.heap h0) (hok : HOk X.prog X.w H' h0)
    (hl : ∀ b ∈ l, H' b = none ∧ (b ∈ frs X.stack ∨ s1.heap.objs.size ≤ b)) (k : (PySem.W.hideAll h0 l).StaysIn h5) (up : h0.UpToSlots h5) : Inv X pins σ H' { s' with heap := h5 } :=
  I.call' (s' := { s' with heap := h5 }) os (un_stays u (fun b hb => (hl b hb).2) k up fun b hb => ⟨I.stkFree b hb, fun o q => by
    obtain ⟨_, o', q', d⟩ := I.stack.mem hb
    rw [q] at q'; cases q'; exact d⟩) (hok_stays hok (fun b hb => (hl b hb).1) k) bare (fun b z => absurd z (by simp))

end
end L3
namespace L3
open PySem PySem.Spec PyProof.Rows L2 PySem.SeqAt PySem.W Builtin Builtin.ObjectAttr Builtin.Getset_descriptor

structure ExcK (K : PySem.W.Frag) (C : Addr) : Prop where
  cl : (PySem.W.clsIn K C).isSome = true
  ga : PySem.W.findIn K (.ref C) "__getattribute__" = some (some (.builtin "BaseException.__getattribute__"))
  gt : PySem.W.findIn K (.ref C) "__getattr__" = some none
  co : PySem.W.findIn K (.ref C) "__class__" = some (some (.builtin "object.__class__"))
  gs : PySem.W.specialIn K (.builtin "object.__class__") "__get__" = some (some (.builtin "getset_descriptor.__get__"))
  tk : PySem.W.takesIn K (.builtin "object.__class__") = some true
  mo : PySem.W.mroIn K C (.type "object") = some true
  mb : PySem.W.mroIn K C (.type "BaseException") = some true
section
variable {prog : Program} {w : World} {A : Around} {E : Value → Shared → Prop} {s : Shared} {K : PySem.W.Frag} {x C : Addr} {ox : Obj}
end
end L3
namespace L3
open PySem PySem.Spec PyProof.Rows L2 PySem.SeqAt PySem.W Builtin Builtin.ObjectAttr Builtin.Getset_descriptor
section
variable {prog : Program} {w : World} {A : Around} {E : Value → Shared → Prop} {s : Shared} {K : PySem.W.Frag} {x C : Addr} {ox : Obj}
end
end L3
namespace L3
open PySem PySem.Spec PyProof.Rows L2 PySem.SeqAt

section
variable {X : Cx} {k : Nat} {g : Str} {sp : Sp} {e c : Expr} {es : List Expr} {t : TA} {gp cpos pos : Pos} {b1 b2 : List Stmt} {tc : TT} {t1 t2 : TB}
end
section
variable {X : Cx} {v : Expr} {tv : TE} {x y : Str} {j1 j2 : Nat} {p0 p1 p2 p3 : Pos}
end
end L3
namespace L3
open PySem PySem.Spec PyProof.Rows

section
variable {prog : Program} {w : World} {A : Around} {E : Value → Shared → Prop} {s : Shared}
end
section
variable {prog : Program} {w : World} {A : Around} {E : Value → Shared → Prop} {s : Shared}
end
end L3
namespace L3
open PySem PySem.Spec PyProof.Rows L2

end L3
namespace L3
open PySem PySem.Spec PyProof.Rows L2 PySem.SeqAt

end L3
namespace L3
open PySem PySem.Spec PyProof.Rows L2 PySem.SeqAt

structure FunV (K : PySem.W.Frag) (dv : Value) (x qual : Str) (st : Stmt) (f : Addr) (fd : FuncData) : Prop where
  ex : ∃ (oc : Value) (od : Option Addr) (da : Addr) (kV doc pm : Value) (an : Option Addr) (cdv ct : Value) (osl : Array (Option Value)) (o : Obj) (n : Nat),
    fd = PySem.W.fnOf x qual (defArgs st) (defBody st) (defScope st) (.ref da) kV doc pm an cdv ct ∧ K.lookup f = some ⟨oc, od, .func fd, osl⟩ ∧ PySem.W.codeIn K cdv qual = true ∧ K.lookup da = some o ∧ o.data = .seq #[dv] n
  kp : PySem.W.keepIn K (.ref f) = true
theorem funV_mk {K : PySem.W.Frag} {dv : Value} {x qual : Str} {st : Stmt} {f da : Addr} {n : Nat} {oc dc : Value} {od an dd : Option Addr} {osl dl : Array (Option Value)} {kV doc pm cdv ct : Value} (l : K.lookup f = some ⟨oc, od, .func (PySem.W.fnOf x qual (defArgs st) (defBody st) (defScope st) (.ref da) kV doc pm an cdv ct), osl⟩)
    (d : K.lookup da = some ⟨dc, dd, .seq #[dv] n, dl⟩) (c : PySem.W.codeIn K cdv qual = true) (k : PySem.W.keepIn K (.ref f) = true) : FunV K dv x qual st f (PySem.W.fnOf x qual (defArgs st) (defBody st) (defScope st) (.ref da) kV doc pm an cdv ct) :=
  ⟨⟨oc, od, da, kV, doc, pm, an, cdv, ct, osl, _, n, rfl, l, c, d, rfl⟩, k⟩
section
variable {P : Program} {w : World} {K : PySem.W.Frag} {mg : Str → Option Value} {base : Heap} {dv : Value}
theorem FunV.ok {x qual : Str} {st : Stmt} {f : Addr} {fd : FuncData} {N ps : List Str} {k : Nat} {sp : Sp} (F : FunV K dv x qual st f fd) (S : FnScope N ps (defScope st)) (len : ∀ vs H Q E, sp vs H Q E → vs.length = ps.length)
    (hbody : BodyOk P w K mg base k qual st N sp) : FnOk P w K mg base CX0 (k + 1) f fd ps sp := by
  obtain ⟨oc, od, da, kV, doc, pm, an, cdv, ct, osl, o, n, rfl, lk, hcd, _, _⟩ := F.ex
  refine fn_of lk hcd S len fun A outer s H vs Q E hr hsp => ?_
  obtain ⟨t, h, q⟩ := hbody f cdv A outer s H vs Q E hr hsp
  exact ⟨t, h.nox, q⟩
theorem FunV.binds {x qual : Str} {st : Stmt} {f : Addr} {fd : FuncData} {ps : List Str} (F : FunV K dv x qual st f fd)
    (h : ∀ (da : Addr) (kV doc pm : Value) (an : Option Addr) (cdv ct : Value) (us : List Value), us.length = ps.length → ∃ k : Option (Array Value) → Sem (List (Str × Value)), bindArgs (PySem.W.fnOf x qual (defArgs st) (defBody st) (defScope st) (.ref da) kV doc pm an cdv ct) ⟨us, []⟩ = seqItems? (.ref da) >>= k ∧ k (some #[dv]) = pure (ps.zip us)) : Binds K fd ps [] := by
  obtain ⟨oc, od, da, kV, doc, pm, an, cdv, ct, osl, o, n, rfl, lk, hcd, ld, ed⟩ := F.ex
  intro s us KX hl
  rw [List.append_nil] at hl ⊢
  obtain ⟨k, h1, h2⟩ := h da kV doc pm an cdv ct us hl
  exact .of_defaults rfl (KX _ _ ld) ed h1 h2
theorem FunV.bindsD {x qual : Str} {st : Stmt} {f : Addr} {fd : FuncData} {ps : List Str} (F : FunV K dv x qual st f fd)
    (h : ∀ (da : Addr) (kV doc pm : Value) (an : Option Addr) (cdv ct : Value) (us : List Value), us.length + 1 = ps.length → ∃ k : Option (Array Value) → Sem (List (Str × Value)), bindArgs (PySem.W.fnOf x qual (defArgs st) (defBody st) (defScope st) (.ref da) kV doc pm an cdv ct) ⟨us, []⟩ = seqItems? (.ref da) >>= k ∧ k (some #[dv]) = pure (ps.zip (us ++ [dv]))) : Binds K fd ps [dv] := by
  obtain ⟨oc, od, da, kV, doc, pm, an, cdv, ct, osl, o, n, rfl, lk, hcd, ld, ed⟩ := F.ex
  intro s us KX hl
  obtain ⟨k, h1, h2⟩ := h da kV doc pm an cdv ct us (by rw [List.length_append] at hl; exact hl)
  exact .of_defaults rfl (KX _ _ ld) ed h1 h2
end
structure MkV (P : Program) (w : World) (K : PySem.W.Frag) (mg : Str → Option Value) (base : Heap) (CX : CXT) (k : Nat) (x : Str) (C : Addr) (dV : V) (sp : Sp) : Prop where
  ex : ∃ (f : Addr) (fd : FuncData) (ps : List Str) (dv : Value), Mk K C f ∧ FnOk P w K mg base CX k f fd ps sp ∧ mg x = some (.ref C) ∧ Binds K fd ps [dv] ∧ RelV dV dv
section
variable {X : Cx} {CX : CXT} {k : Nat} {C : Addr} {dV : V} {sp : Sp} {E : XK} {x m : Str} {p pos apos : Pos} {e o : Expr} {es : List Expr} {ta : TE} {t : TA}
end
section
variable {P : Program} {w : World} {K : PySem.W.Frag} {mg : Str → Option Value} {base : Heap} {x qual : Str} {st : Stmt} {N ps : List Str} {sp : Sp} {C : Addr}
theorem mkE_ofV {y : Str} {dV : V} (k : Nat) (hy : mg y = some (.ref C)) (h : ∃ f fd dv, FunV K dv "__init__" qual st f fd ∧ Mk K C f ∧ Binds K fd ps [] ∧ Binds K fd ps [dv] ∧ RelV dV dv) (S : FnScope N ps (defScope st)) (len : ∀ vs H Q E, sp vs H Q E → vs.length = ps.length)
    (hbody : BodyOk P w K mg base k qual st N sp) : MkE P w K mg base CX0 (k + 1) y C sp ∧ MkV P w K mg base CX0 (k + 1) y C dV sp := by
  obtain ⟨f, fd, dv, F, hm, hb, hb2, rv⟩ := h
  exact ⟨⟨f, fd, ps, hm, F.ok S len hbody, hy, hb⟩, ⟨f, fd, ps, dv, hm, F.ok S len hbody, hy, hb2, rv⟩⟩

end

end L3
namespace FB
open PySem PySem.Spec PyProof.Rows L2 L3 PySem.SeqAt


inductive Rw where
  | set (b n : Int) | copy (b o : Int) | add (b o t : Int) | sub (b o t : Int) | mul (b o t : Int) | less (b o t : Int)
  | grow (m : Int) | shrink (m : Int) | put (b c : Int) | get (b c : Int)
  | jump (t : Int) | branch (b t : Int) | call (t : Int) | back (b : Int) | drop (b : Int)
def isBox (b : Int) : Prop := 0 ≤ b ∧ b ≤ 7
def isVal (n : Int) : Prop := 0 ≤ n ∧ n ≤ 4294967295
def isMany (n : Int) : Prop := 0 ≤ n ∧ n ≤ 4000
def isTgt (n : Int) : Prop := 0 ≤ n ∧ n ≤ 2000
def Rw.ok : Rw → Prop
  | .set b n => isBox b ∧ isVal n
  | .copy b o => isBox b ∧ isBox o
  | .add b o t | .sub b o t | .mul b o t | .less b o t => isBox b ∧ isBox o ∧ isBox t
  | .grow m | .shrink m => isMany m
  | .put b c | .get b c => isBox b ∧ isMany c
  | .jump t | .call t => isTgt t
  | .branch b t => isBox b ∧ isTgt t
  | .back b | .drop b => isBox b
def gI (xs : List Int) (i : Int) : Int := xs.getD i.toNat 0
def sI (xs : List Int) (i v : Int) : List Int := xs.set i.toNat v
theorem sI_len (xs : List Int) (i v : Int) : (sI xs i v).length = xs.length := by unfold sI; exact List.length_set ..
theorem gI_at {xs : List Int} {i : Int} (h0 : 0 ≤ i) (h1 : i < xs.length) : atI (xs.map V.int) i = some (.int (gI xs i)) := by
  have e : i = ((i.toNat : Nat) : Int) := by omega
  have hl : i.toNat < xs.length := by omega
  have z : atI (xs.map V.int) ((i.toNat : Nat) : Int) = some (.int (gI xs i)) := atI_nat (by
    rw [List.getElem?_map, List.getElem?_eq_getElem hl]
    simp [gI, List.getD, List.getElem?_eq_getElem hl])
  rw [← e] at z; exact z
theorem ixN_at {xs : List V} {i : Int} (h0 : 0 ≤ i) (h1 : i < xs.length) : ixN xs.length i = some i.toNat := by
  unfold ixN; rw [if_pos h0, if_pos h1]
theorem map_sI (xs : List Int) (i v : Int) : (xs.map V.int).set i.toNat (.int v) = (sI xs i v).map V.int := by
  unfold sI; rw [List.map_set]
theorem r_setI {p : Addr} {xs : List Int} {k v : Int} {H : Hp} {Q : Hp → Prop} (h : H p = some (.lst (xs.map V.int))) (h0 : 0 ≤ k) (h1 : k < xs.length) (q : Q (upd H p (.lst ((sI xs k v).map V.int)))) : rSetL (.ref p) (.int k) (.int v) H Q :=
  r_setL h (ixN_at h0 (by rw [List.length_map]; exact h1)) (by rw [map_sI]; exact q)
theorem r_lenI {K : PySem.W.Frag} {p : Addr} {xs : List Int} {H : Hp} {Q : VK} (h : SqL K H p (xs.map V.int)) (q : Q (.int xs.length) H) : rLen K [.ref p] H Q := r_lenL h (by rw [List.length_map]; exact q)
theorem r_timesZ {l : Addr} {n k : Int} {H : Hp} {Q : VK} (h : H l = some (.lst [.int n])) (h0 : 0 ≤ k) (h1 : k ≤ 4001) (q : ∀ p, H p = none → Q (.ref p) (upd H p (.lst ((List.replicate k.toNat n).map V.int)))) : rTimes (.ref l) (.int k) H Q := by
  refine .inr ⟨l, k, _, rfl, rfl, h, by omega, by omega, ?_, fun p hp => ?_⟩
  · show 1 * k.toNat ≤ sizeLine
    rw [sizeLine_eq]; omega
  · have e : (List.replicate k.toNat [V.int n]).flatten = (List.replicate k.toNat n).map V.int := by
      generalize k.toNat = j
      induction j with
      | zero => rfl
      | succ j ih => rw [List.replicate_succ, List.flatten_cons, ih, List.replicate_succ]; rfl
    rw [e]; exact q p hp
theorem r_plusII {K : PySem.W.Frag} {a b : Addr} {xs ys : List Int} {H : Hp} {Q : VK} (ha : H a = some (.lst (xs.map V.int))) (hb : H b = some (.lst (ys.map V.int))) (hz : xs.length + ys.length ≤ sizeLine) (q : ∀ p, H p = none → Q (.ref p) (upd H p (.lst ((xs ++ ys).map V.int)))) :
    rPlus K (.ref a) (.ref b) H Q := r_plusL ha hb (by rw [List.length_map, List.length_map]; exact hz) (by rw [← List.map_append]; exact q)
def cutI (xs : List Int) (lo hi : Option Int) : List Int := (xs.drop (HT.sIx xs.length 0 lo)).take (HT.sIx xs.length xs.length hi - HT.sIx xs.length 0 lo)
theorem cutV_map (xs : List Int) (lo hi : Option Int) : cutV (xs.map V.int) lo hi = (cutI xs lo hi).map V.int := by
  unfold cutV cutI; rw [List.length_map, List.map_take, List.map_drop]
theorem cutI_take (xs : List Int) {k : Int} (h0 : 0 ≤ k) : cutI xs none (some k) = xs.take k.toNat := by
  unfold cutI
  have e : HT.sIx xs.length 0 none = 0 := rfl
  have e2 : HT.sIx xs.length xs.length (some k) = min k.toNat xs.length := by
    show (if k < 0 then _ else _) = _
    rw [if_neg (by omega)]
  rw [e, e2, List.drop_zero, Nat.sub_zero]
  rcases Nat.le_total k.toNat xs.length with h | h
  · rw [Nat.min_eq_left h]
  · rw [Nat.min_eq_right h, List.take_length, List.take_of_length_le h]
theorem r_slI {K : PySem.W.Frag} {p : Addr} {xs : List Int} {lo hi : Option Int} {H : Hp} {Q : VK} (h : SqL K H p (xs.map V.int)) (q : ∀ l, H l = none → Q (.ref l) (upd H l (.lst ((cutI xs lo hi).map V.int)))) : rSlA K (.ref p) lo hi H Q :=
  r_slL h (by rw [cutV_map]; exact q)
def Rw.run : Rw → Int → List Int → List Int → Option (Int × List Int × List Int)
  | .set b n, a, bs, pl => some (a + 1, sI bs b n, pl)
  | .copy b o, a, bs, pl => some (a + 1, sI bs b (gI bs o), pl)
  | .add b o t, a, bs, pl => some (a + 1, sI bs b ((gI bs o + gI bs t) % 4294967296), pl)
  | .sub b o t, a, bs, pl => some (a + 1, sI bs b ((gI bs o - gI bs t) % 4294967296), pl)
  | .mul b o t, a, bs, pl => some (a + 1, sI bs b ((gI bs o * gI bs t) % 4294967296), pl)
  | .less b o t, a, bs, pl => some (a + 1, sI bs b (if gI bs o < gI bs t then 1 else 0), pl)
  | .grow m, a, bs, pl => if (pl.length : Int) + m > 4000 then none else some (a + 1, bs, pl ++ List.replicate m.toNat 0)
  | .shrink m, a, bs, pl => if (pl.length : Int) < m then none else some (a + 1, bs, pl.take (pl.length - m.toNat))
  | .put b c, a, bs, pl => if (pl.length : Int) ≤ c then none else some (a + 1, bs, sI pl (pl.length - 1 - c) (gI bs b))
  | .get b c, a, bs, pl => if (pl.length : Int) ≤ c then none else some (a + 1, sI bs b (gI pl (pl.length - 1 - c)), pl)
  | .jump t, _, bs, pl => some (t, bs, pl)
  | .branch b t, a, bs, pl => some (if gI bs b = 0 then a + 1 else t, bs, pl)
  | .call t, a, bs, pl => some (t, sI bs 7 (a + 1), pl)
  | .back b, _, bs, pl => some (gI bs b, bs, pl)
  | .drop _, _, _, _ => none
def Rw.height : Rw → Int → Option Int
  | .grow m, h => if h + m > 4000 then none else some (h + m)
  | .shrink m, h => if h < m then none else some (h - m)
  | .put _ c, h => if h ≤ c then none else some h
  | .get _ c, h => if h ≤ c then none else some h
  | _, h => some h

def Rw.told : Rw → Str × List Int
  | .set b n => ("set", [b, n])
  | .copy b o => ("copy", [b, o])
  | .add b o t => ("add", [b, o, t])
  | .sub b o t => ("sub", [b, o, t])
  | .mul b o t => ("mul", [b, o, t])
  | .less b o t => ("less", [b, o, t])
  | .grow m => ("grow", [m])
  | .shrink m => ("shrink", [m])
  | .put b c => ("put", [b, c])
  | .get b c => ("get", [b, c])
  | .jump t => ("jump", [t])
  | .branch b t => ("branch", [b, t])
  | .call t => ("call", [t])
  | .back b => ("back", [b])
  | .drop b => ("drop", [b])

def Rw.flds : Rw → List (Str × V)
  | .set b n => putF "number" (.int n) (putF "box" (.int b) [])
  | .copy b o => putF "one" (.int o) (putF "box" (.int b) [])
  | .add b o t | .sub b o t | .mul b o t | .less b o t => putF "other" (.int t) (putF "one" (.int o) (putF "box" (.int b) []))
  | .grow m | .shrink m => putF "many" (.int m) []
  | .put b c | .get b c => putF "cell" (.int c) (putF "box" (.int b) [])
  | .jump t | .call t => putF "target" (.int t) []
  | .branch b t => putF "target" (.int t) (putF "box" (.int b) [])
  | .back b | .drop b => putF "box" (.int b) []
structure Adr where
  C_Row : Addr
  C_Set : Addr
  C_Copy : Addr
  C_Add : Addr
  C_Sub : Addr
  C_Mul : Addr
  C_Less : Addr
  C_Grow : Addr
  C_Shrink : Addr
  C_Put : Addr
  C_Get : Addr
  C_Jump : Addr
  C_Branch : Addr
  C_Call : Addr
  C_Back : Addr
  C_Drop : Addr
  C_Reckoning : Addr
  C_Reaching : Addr
  C_FrameError : Addr
  C_NoRow : Addr
  C_NoTable : Addr
  C_NoText : Addr
  C_Table : Addr
  C_Reading : Addr
  C_Machine : Addr
  C_Astray : Addr
  C_NoProgram : Addr
  C_NoLine : Addr
  C_NoName : Addr
  G_START : Addr
  G_WHICH : Addr
  G_COUNTS : Addr
def Rw.cls (a : Adr) : Rw → Addr
  | .set .. => a.C_Set
  | .copy .. => a.C_Copy
  | .add .. => a.C_Add
  | .sub .. => a.C_Sub
  | .mul .. => a.C_Mul
  | .less .. => a.C_Less
  | .grow .. => a.C_Grow
  | .shrink .. => a.C_Shrink
  | .put .. => a.C_Put
  | .get .. => a.C_Get
  | .jump .. => a.C_Jump
  | .branch .. => a.C_Branch
  | .call .. => a.C_Call
  | .back .. => a.C_Back
  | .drop .. => a.C_Drop

def RowAt (a : Adr) (H : Hp) (p : Addr) (r : Rw) : Prop := ∃ dx, H p = some (.ins (r.cls a) dx r.flds)
theorem RowAt.same {a : Adr} {H H' : Hp} {p : Addr} {r : Rw} (h : RowAt a H p r) (s : Same H H') : RowAt a H' p r := let ⟨dx, e⟩ := h; ⟨dx, s _ _ e⟩


def spBounded : Sp := fun vs H Q _ => ∃ n top : Int, vs = [.int n, .int top] ∧ 0 ≤ n ∧ n ≤ top ∧ Q (.int n) H
def spWithBox (K : PySem.W.Frag) : Sp := fun vs H Q _ => ∃ (p : Addr) (xs : List Int) (b v : Int), vs = [.ref p, .int b, .int v] ∧ SqL K H p (xs.map V.int) ∧ 0 ≤ b ∧ b < xs.length ∧
  ∀ q, H q = none → Q (.ref q) (upd H q (.lst ((sI xs b v).map V.int)))

def kpInit (H : Hp) (x dx C : Addr) (fs : List (Str × V)) (Q : VK) : Prop := H x = some (.ins C dx []) ∧ ∀ H', (∀ b o, H b = some o → b ≠ x → H' b = some o) → H' x = some (.ins C dx fs) → Q .non H'
def spIni1 (C : Addr) (mk : Int → Rw) : Sp := fun vs H Q _ => ∃ (x dx : Addr) (i : Int), vs = [.ref x, .int i] ∧ (mk i).ok ∧ kpInit H x dx C (mk i).flds Q
def spIni2 (C : Addr) (mk : Int → Int → Rw) : Sp := fun vs H Q _ => ∃ (x dx : Addr) (i j : Int), vs = [.ref x, .int i, .int j] ∧ (mk i j).ok ∧ kpInit H x dx C (mk i j).flds Q
theorem kp_two {H : Hp} {x : Addr} {o1 o2 : HO} : ∀ b o, H b = some o → b ≠ x → upd (upd H x o1) x o2 b = some o := fun b o e ne => by rw [upd_ne ne, upd_ne ne]; exact e
theorem kp_one {H : Hp} {x : Addr} {o1 : HO} : ∀ b o, H b = some o → b ≠ x → upd H x o1 b = some o := fun b o e ne => by rw [upd_ne ne]; exact e
def toldRun (H : Hp) (Q : VK) : Option (Int × List Int × List Int) → Prop
  | none => ∀ H', Same H H' → Q .non H'
  | some (n, bs, pl) => ∀ (t b p : Addr) (H' : Hp), Same H H' → H t = none → H b = none → H p = none → t ≠ b → t ≠ p → b ≠ p → H' t = some (.tup [.int n, .ref b, .ref p]) → H' b = some (.lst (bs.map V.int)) → H' p = some (.lst (pl.map V.int)) → Q (.ref t) H'
def spRuns (K : PySem.W.Frag) (a : Adr) (r : Rw) : Sp := fun vs H Q _ => ∃ (x b p : Addr) (n : Int) (bs pl : List Int), vs = [.ref x, .int n, .ref b, .ref p] ∧ RowAt a H x r ∧ r.ok ∧ SqL K H b (bs.map V.int) ∧ bs.length = 8 ∧ (∀ v ∈ bs, isVal v) ∧
  SqL K H p (pl.map V.int) ∧ pl.length ≤ 4000 ∧ toldRun H Q (r.run n bs pl)
def optV : Option Int → V
  | none => .non
  | some i => .int i
def spHeight (a : Adr) (r : Rw) : Sp := fun vs H Q _ => ∃ (x : Addr) (h : Int), vs = [.ref x, .int h] ∧ RowAt a H x r ∧ Q (optV (r.height h)) H
def spTold (a : Adr) (r : Rw) : Sp := fun vs H Q _ => ∃ (x : Addr), vs = [.ref x] ∧ RowAt a H x r ∧ ∀ p, H p = none → Q (.ref p) (upd H p (.tup (.str r.told.1 :: r.told.2.map V.int)))

theorem r_bounded {n top : Int} {H : Hp} {Q : VK} {E : XK} (h0 : 0 ≤ n) (h1 : n ≤ top) (q : Q (.int n) H) : spBounded [.int n, .int top] H Q E := ⟨n, top, rfl, h0, h1, q⟩
theorem r_withBox {K : PySem.W.Frag} {p : Addr} {xs : List Int} {b v : Int} {H : Hp} {Q : VK} {E : XK} (h : SqL K H p (xs.map V.int)) (h0 : 0 ≤ b) (h1 : b < xs.length) (q : ∀ q, H q = none → Q (.ref q) (upd H q (.lst ((sI xs b v).map V.int)))) :
    spWithBox K [.ref p, .int b, .int v] H Q E := ⟨p, xs, b, v, rfl, h, h0, h1, q⟩

theorem told_fin {H : Hp} {Q : VK} {n : Int} {bs pl : List Int} {t b p : Addr} (hb : H b = none) (hp : upd H b (.lst (bs.map V.int)) p = none) (ht : upd (upd H b (.lst (bs.map V.int))) p (.lst (pl.map V.int)) t = none) (q : toldRun H Q (some (n, bs, pl))) :
    Q (.ref t) (upd (upd (upd H b (.lst (bs.map V.int))) p (.lst (pl.map V.int))) t (.tup [.int n, .ref b, .ref p])) := by
  have h1 := none_upd hp
  have h2 := none_upd ht
  have h3 := none_upd h2.1
  refine q t b p _ ((same_new hb).trans ((same_new hp).trans (same_new ht))) h3.1 hb h1.1 h3.2 h2.2 h1.2.symm upd_same ?_ ?_
  · rw [upd_ne h3.2.symm, upd_ne h1.2.symm, upd_same]
  · rw [upd_ne h2.2.symm, upd_same]

def cellAt (ns : List Int) (k : Int) : Int := ns.getD k.toNat 0
def spCellAt (K : PySem.W.Frag) : Sp := fun vs H Q _ => ∃ (p : Addr) (ns : List Int) (k : Int), vs = [.ref p, .int k] ∧ SqL K H p (ns.map V.int) ∧ 0 ≤ k ∧ Q (.int (cellAt ns k)) H
theorem r_cellAt {K : PySem.W.Frag} {p : Addr} {ns : List Int} {k : Int} {H : Hp} {Q : VK} {E : XK} (h : SqL K H p (ns.map V.int)) (h0 : 0 ≤ k) (q : Q (.int (cellAt ns k)) H) : spCellAt K [.ref p, .int k] H Q E := ⟨p, ns, k, rfl, h, h0, q⟩
theorem cellAt_out {ns : List Int} {k : Int} (h0 : 0 ≤ k) (h : ¬ k < ns.length) : cellAt ns k = 0 := by
  unfold cellAt
  rw [List.getD_eq_getElem?_getD, List.getElem?_eq_none (by omega)]
  rfl
def spLaw (K : PySem.W.Frag) : Sp := fun vs H Q _ => ∃ (a : Addr) (ns : List Int), vs = [.ref a] ∧ SqL K H a (ns.map V.int) ∧ ns.length ≤ 63 ∧ ∀ H', Q (.bl true) H'
theorem look_of {fs : List (Str × V)} {f g : Str} {v w : V} (h : f ≠ g) (e : fs.lookup f = some w) : (putF g v fs).lookup f = some w := by rw [lookup_putF, if_neg h]; exact e
theorem look_hit {fs : List (Str × V)} {f : Str} {v : V} : (putF f v fs).lookup f = some v := by rw [lookup_putF, if_pos rfl]
theorem look_no {fs : List (Str × V)} {f g : Str} {v : V} (h : f ≠ g) (e : fs.lookup f = none) : (putF g v fs).lookup f = none := by rw [lookup_putF, if_neg h]; exact e
theorem len_of {fs : List (Str × V)} {f : Str} {v : V} {n : Nat} (e : fs.length ≤ n) : (putF f v fs).length ≤ n + 1 := Nat.le_trans (length_putF _ _ _) (Nat.succ_le_succ e)
end FB
namespace L3
open PySem PySem.Spec PyProof.Rows L2 PySem.SeqAt

section
variable {prog : Program} {w : World} {A : Around} {E : Value → Shared → Prop} {h : Heap} {g : Array GenState} {d : Drawn} {t : Nat} {os : OsState}
variable {nm q : Str} {C N : Addr} {bs bm bmB : List Value} {hdct : Bool} {sn : List Str} {sub : List Value} {ab : Bool} {col : Option Bool} {dd : Option Addr} {k0 k1 k2 k3 k5 : Option Value} {B Bn newId nid initId inN : String} {bmN : List Value}
theorem exc_made_init (Fn : ExcBaseFacts Bn newId inN bmN) (hBn : bmB.contains (.type Bn) = true) (F : ExcBaseFacts B nid initId bmB) (T : OwnTail h bmB bm) {mN : Str → Option Value} {rest : List Value} {fI : Addr} {oI : Obj} {Q : Fin → Shared → Prop}
    (hC : h.get? C = some (excClassObj nm q C N bs bm hdct sn sub ab col dd k0 k1 k2 k3 k5 newId)) (hn : h.Ns N mN) (hi : mN "__init__" = some (.ref fI)) (hfI : h.get? fI = some oI) (hfc : oI.cls = .type "function")
    (hq : ∀ h' e, Heap.MadeExcOf h h' e (.ref C) rest → h.objs.size ≤ e → wpAny (model prog w) A (call (.ref fI) (.ref e :: rest)) (fun r s' => r = .none ∧ Q (.done (.ret (.ref e))) s') E ⟨h', g, d, t, os⟩) (hrest : rest.length ≤ sizeLine) :
    wpAny (model prog w) A (Builtin.«type.__call__» ⟨.ref C :: rest, []⟩) Q E ⟨h, g, d, t, os⟩ := by
  repeat (first | with_reducible refine wpAny_loadPart_at hC ?_ | with_reducible refine wpAny_madeBy_exc hC ?_ | wp_step)
  refine codeAny_call_builtin_code (Code.quiet_builtin _ Fn.quiet) (wpAny_check_new_subU Fn hBn T hC (codeAny_exc_new_subU Fn hBn F T hC ?_ hrest))
  show wpAny _ _ _ _ _ _
  have up : ∀ b o, h.get? b = some o → ((h.push { cls := .type "tuple", data := .seq rest.toArray }).push { cls := .ref C, data := .fields #[.ref h.objs.size, .none, .none, .none, .bool false, .none] }).get? b = some o :=
    fun b o e => Heap.get?_push_of_some _ (Heap.get?_push_of_some _ e)
  have hget : ((h.push { cls := .type "tuple", data := .seq rest.toArray }).push { cls := .ref C, data := .fields #[.ref h.objs.size, .none, .none, .none, .bool false, .none] }).get? (h.objs.size + 1) = some
      { cls := .ref C, data := .fields #[.ref h.objs.size, .none, .none, .none, .bool false, .none] } := by heap_get
  have htup : ((h.push { cls := .type "tuple", data := .seq rest.toArray }).push { cls := .ref C, data := .fields #[.ref h.objs.size, .none, .none, .none, .bool false, .none] }).get? h.objs.size = some { cls := .type "tuple", data := .seq rest.toArray } :=
    Heap.get?_push_of_some _ (Heap.get?_push_at rfl rfl)
  have hC' := up _ _ hC
  have hf' := up _ _ hfI
  have hn' := hn.keeps up
  have T' := T.keeps up
  have hm : Heap.MadeExcOf h ((h.push { cls := .type "tuple", data := .seq rest.toArray }).push { cls := .ref C, data := .fields #[.ref h.objs.size, .none, .none, .none, .bool false, .none] }) (h.objs.size + 1) (.ref C) rest :=
    ⟨up, Heap.get?_none_of_le (Nat.le_succ _), h.objs.size, hget, Heap.get?_none_of_le (Nat.le_refl _), htup⟩
  have go := hq _ _ hm (Nat.le_succ _)
  generalize ((h.push { cls := .type "tuple", data := .seq rest.toArray }).push { cls := .ref C, data := .fields #[.ref h.objs.size, .none, .none, .none, .bool false, .none] }) = h1 at *
  generalize h.objs.size + 1 = e at *
  have hcC : (Value.ref C :: bm).contains (.ref C) = true := by simp
  unfold isInstance
  repeat (first | with_reducible refine wpAny_loadPart_at hget ?_ | (with_reducible refine wpAny_isSubtype_exc hC' ?_; rw [hcC]) | wp_step)
  show wpAny _ _ (typeLookup (.ref C) _) _ _ _
  refine wpAny_typeLookup_tail hC' hn' T' F.mroIs F.init.lookup ?_
  rw [hi]
  refine wpAny_holding (wpAny_bind ?_)
  unfold bindSpecial
  refine wpAny_bind (wpAny_typeOf (T := "function") ⟨_, hf', hfc⟩ ?_)
  rw [if_pos (by decide)]
  refine wpAny_pure (wpAny_bind (wpAny_mono go (fun r s' hr => ?_) fun _ _ x => x))
  obtain ⟨rfl, hQ⟩ := hr
  wp_walk
  exact hQ
theorem exc_call_init (Fn : ExcBaseFacts Bn newId inN bmN) (hBn : bmB.contains (.type Bn) = true) (F : ExcBaseFacts B nid initId bmB) (T : OwnTail h bmB bm) {mN : Str → Option Value} {rest : List Value} {fI : Addr} {oI : Obj} {Q : Value → Shared → Prop}
    (hC : h.get? C = some (excClassObj nm q C N bs bm hdct sn sub ab col dd k0 k1 k2 k3 k5 newId)) (hn : h.Ns N mN) (hi : mN "__init__" = some (.ref fI)) (hfI : h.get? fI = some oI) (hfc : oI.cls = .type "function")
    (hq : ∀ h' e, Heap.MadeExcOf h h' e (.ref C) rest → h.objs.size ≤ e → wpAny (model prog w) (A.under (.builtin "type.__call__" ⟨.ref C :: rest, []⟩)) (call (.ref fI) (.ref e :: rest)) (fun r s' => r = .none ∧ Q (.ref e) s') E ⟨h', g, d, t, os⟩) (hrest : rest.length ≤ sizeLine) :
    wpAny (model prog w) A (call (.ref C) rest) Q E ⟨h, g, d, t, os⟩ := by
  have f1 := tc_lookup
  have f2 := tc_bind (.ref C)
  have hT : (⟨h, g, d, t, os⟩ : Shared).TypeIs (.ref C) "type" := ⟨_, hC, rfl⟩
  refine wpAny_call (codeAny_of_tree ?_)
  show wpAny _ _ (callAny (.ref C) _) _ _ _
  repeat (any_goals (first | assumption | with_reducible refine wpAny_loadPart_at hC ?_ | wp_step))
  exact ⟨rfl, codeAny_call_builtin_at (Code.quiet_builtin _ (by decide +kernel)) entry_typeCall (wpAny_check_type_call_sub hC (exc_made_init Fn hBn F T hC hn hi hfI hfc (fun h' e hm hz => hq h' e hm hz) hrest))⟩
end
end L3
namespace L3
open PySem PySem.Spec PyProof.Rows L2 PySem.SeqAt

def XB (e C : Addr) (od : Option Addr) : HO := .ext fun h => ∃ t, h.get? e = some { cls := .ref C, dict := od, data := .fields #[.ref t, .none, .none, .none, .bool false, .none] }
theorem xb_ok {P : Program} {w : World} {H : Hp} {h : Heap} {e C t : Addr} {od : Option Addr} (q : h.get? e = some { cls := .ref C, dict := od, data := .fields #[.ref t, .none, .none, .none, .bool false, .none] }) : ObjOk P w H h e (XB e C od) :=
  ⟨⟨t, q⟩, ⟨_, q⟩, fun _ _ ⟨t, z⟩ k => ⟨t, k _ z⟩⟩
theorem xb_at {P : Program} {w : World} {H : Hp} {h : Heap} {e C : Addr} {od : Option Addr} (x : HOk P w H h) (q : H e = some (XB e C od)) : ∃ t, h.get? e = some { cls := .ref C, dict := od, data := .fields #[.ref t, .none, .none, .none, .bool false, .none] } := (x e _ q).1
theorem upd_id {H : Hp} {a : Addr} {o : HO} (h : H a = some o) : upd H a o = H := by
  funext b; unfold upd; split
  · rename_i z; rw [z, h]
  · rfl
theorem ns_some_of {K : PySem.W.Frag} {h : Heap} {N : Addr} {mN : Str → Option Value} {n : Str} {v : Value} (X : K.In h) (G : h.Ns N mN) (e : PySem.W.nsIn K N n = some (some v)) : mN n = some v := by
  obtain ⟨o, es, ep, ho, hd, _, hf⟩ := G
  unfold PySem.W.nsIn at e
  split at e
  · rename_i q
    have := X _ _ q
    rw [ho] at this
    cases this
    cases hd
    split at e
    · rename_i y he
      rw [← hf]
      unfold nsFind findBy
      rw [← Array.find?_toList, he]
      exact Option.some.inj e
    · split at e <;> cases e
  · cases e

def excWith (K : PySem.W.Frag) (C f : Addr) : Bool := match K.lookup C with
  | some ⟨.type "type", _, .cls cd, sl⟩ => (match cd.mro, sl.toList with
    | .ref C' :: bm, [_, _, _, _, some (.builtin n), _] => C' == C && n == "ValueError.__new__" && !cd.hasDel && PySem.W.tailIn K [.type "ValueError", .type "Exception", .type "BaseException", .type "object"] bm && PySem.W.nsOkIn K cd.ns && PySem.W.nsIn K cd.ns "__init__" == some (some (.ref f)) && PySem.W.typeIn K (.ref f) == some (.type "function")
    | _, _ => false)
  | _ => false
structure ExcI (K : PySem.W.Frag) (mg : Str → Option Value) (x : Str) (C f : Addr) : Prop where
  glob : mg x = some (.ref C)
  ex : excWith K C f = true
theorem ExcI.obj {K : PySem.W.Frag} {mg : Str → Option Value} {x : Str} {C f : Addr} {h : Heap} (c : ExcI K mg x C f) (X : K.In h) :
    ∃ (bm : List Value) (N : Addr) (nm qn : Str) (bs : List Value) (hd : Bool) (sn : List Str) (sub : List Value) (ab : Bool) (col : Option Bool) (dd : Option Addr) (k0 k1 k2 k3 k5 : Option Value) (mN : Str → Option Value) (o : Obj),
      h.get? C = some (excClassObj nm qn C N bs bm hd sn sub ab col dd k0 k1 k2 k3 k5 "ValueError.__new__") ∧ h.Ns N mN ∧ mN "__init__" = some (.ref f) ∧
      OwnTail h [.type "ValueError", .type "Exception", .type "BaseException", .type "object"] bm ∧ h.get? f = some o ∧ o.cls = .type "function" := by
  have hq := c.ex
  unfold excWith at hq
  split at hq
  · rename_i dd cd sl hlk
    split at hq
    · rename_i C' bm k0 k1 k2 k3 id k5 hmro hsl
      simp only [Bool.and_eq_true, Bool.not_eq_true', beq_iff_eq] at hq
      obtain ⟨⟨⟨⟨⟨⟨e1, e2⟩, e3⟩, e4⟩, e5⟩, e6⟩, e7⟩ := hq
      subst e1 e2
      obtain ⟨nm, bs, mro, ns, qn, hd, sn, sub, ab, col, del⟩ := cd
      dsimp only at hmro e3 e5 e6
      subst hmro e3
      obtain ⟨sl⟩ := sl
      dsimp only at hsl
      subst hsl
      obtain ⟨o, ho, hoc⟩ := Option.map_eq_some_iff.mp e7
      have G : h.Ns ns (h.nsMap ns) := .of_isNs (PySem.W.isNs_of_in X e5)
      exact ⟨bm, ns, nm, qn, bs, hd, sn, sub, ab, col, dd, k0, k1, k2, k3, k5, _, o, X _ _ hlk, G, ns_some_of X G e6, PySem.W.tail_of_in X e4, X _ _ ho, hoc⟩
    · cases hq
  · cases hq

structure BaseI (K : PySem.W.Frag) (mg : Str → Option Value) (x : Str) (B : Addr) : Prop where
  glob : mg x = some (.ref B)
  sp : PySem.W.specialIn K (.ref B) "__getattribute__" = some (some (.builtin "type.__getattribute__"))
  rd : PySem.W.readsIn K B (.type "type") = true
  fc : (match PySem.W.findCls K (.ref B) (.type "type") "__init__" with | some (.val v) => v == .builtin "ValueError.__init__" | _ => false) = true
def tBase (C : Addr) (t : TA) : TE := fun σ H Q => t σ H fun vs H1 => ∃ e u, vs = [.ref e, u] ∧ H1 e = some (XB e C none) ∧ Q .non H1
theorem pe_baseInit {X : Cx} {x y : Str} {B C f : Addr} {np apos cpos : Pos} {a0 : Expr} {as : List Expr} {t : TA} {pl : Sem Bool} (b : BaseI X.K X.mg x B) (c : ExcI X.K X.mg y C f) (hg : Gl X x) (ha : PA X (a0 :: as) t) (hdb : (x == ("__debug__" : Str)) = false := by decide)
    (hs : starEach (a0 :: as) X.env = (false, eval a0 X.env) :: starEach as X.env := by rfl) (hplain : (backTo cpos (starEach as X.env)).any (·.1) = false := by rfl)
    (ht : eval (.Call (.Attribute (.Name x np) "__init__" apos) (a0 :: as) [] cpos) X.env = (do
      let ov ← eval (.Name x np) X.env
      standAt apos.atName
      let (f, first) ← holding [ov] (getMethod ov "__init__" pl)
      callWith cpos f first (backTo cpos (starEach (a0 :: as) X.env)) (backToKw cpos (keywordEach [] X.env))) := by rfl) :
    PE X (.Call (.Attribute (.Name x np) "__init__" apos) (a0 :: as) [] cpos) (tBase C t) := by
  intro pins s σ H Q I h
  refine PySem.W.methodCall_KW (pl := pl) (ld_glob I hg b.glob ?_ hdb) ht
  have fc := b.fc
  split at fc
  · rename_i v hv
    have ev : v = .builtin "ValueError.__init__" := beq_iff_eq.mp fc
    subst ev
    refine PySem.W.method_cls I.kIn b.sp (PySem.W.cls_value I.kIn b.rd hv (by decide +kernel) ?_)
    have hA := ha cpos pins _ σ H _ (I.tok (s.toks + 1)) h
    rw [hs] at hA ⊢
    refine Calls.callWith_builtin (first := []) (by show (false || (backTo cpos (starEach as X.env)).any (·.1)) = false; rw [hplain] <;> rfl) (Calls.evalArgs_plain ?_)
    refine thn hA fun us s2 ⟨vs, H2, I2, r2, e, u, ev, he, q⟩ => ?_
    subst ev
    obtain ⟨t, he'⟩ := xb_at I2.hok he
    obtain ⟨bm, N', nm, qn, bs, hd, sn, sub, ab, col, dd, k0, k1, k2, k3, k5, mN, o, hC, hN, hni, TL, hf, hfc⟩ := c.obj I2.kIn
    obtain ⟨v1, v2, rfl, rv1, rv2⟩ := vals2 r2
    cases (show v1 = Value.ref e from rv1)
    obtain ⟨hp, g, d, tk, os⟩ := s2
    refine wpAny_call (codeAny_call_builtin PySem.F.excBase_ValueError.init.plain PySem.F.excBase_ValueError.initEntry (wpAny_check_init_subU PySem.F.excBase_ValueError TL hC he' rfl ?_))
    wp_walk
    refine ⟨.non, H2, ?_, rfl, q⟩
    have ep : (hp.push { cls := .type "tuple", data := .seq #[v2] }).get? e = some { cls := .ref C, dict := none, data := .fields #[.ref t, .none, .none, .none, .bool false, .none] } := Heap.get?_push_of_some _ he'
    have e0 : ((hp.push { cls := .type "tuple", data := .seq #[v2] }).update e (Obj.mapFields (·.setIfInBounds 0 (Value.ref hp.objs.size)))).get? e = some { cls := .ref C, dict := none, data := .fields #[.ref hp.objs.size, .none, .none, .none, .bool false, .none] } :=
      Heap.get?_update_self _ ep rfl
    have I3 := I2.write (t' := tk) (x := e) (e := e) (o := XB e C none) (h' := (hp.push { cls := .type "tuple", data := .seq #[v2] }).update e (Obj.mapFields (·.setIfInBounds 0 (Value.ref hp.objs.size)))) (by rw [he]; exact True.intro) (.inl rfl)
      (fun b u hb z => (Heap.get?_update_other _ _ (Ne.symm hb)).trans (Heap.get?_push_of_some _ z)) ⟨_, e0⟩ (xb_ok (t := hp.objs.size) e0)
    rw [upd_id he] at I3
    exact I3
  · cases fc
end L3
namespace L3
open PySem PySem.Spec PyProof.Rows L2 PySem.SeqAt PySem.W Builtin Builtin.ObjectAttr

abbrev excTail : List Value := [.type "ValueError", .type "Exception", .type "BaseException", .type "object"]
def onlyExc : List Value → Bool
  | .ref _ :: r => onlyExc r
  | l => l == excTail
theorem refuse_exc (self : Value) : ∀ {l : List Value}, onlyExc l = true → refuseLoop self "__setattr__" l = pure ()
  | [], e => by cases e
  | v :: r, e => by
    cases v with
    | ref c => rw [refuseLoop_ref]; exact refuse_exc self e
    | _ => rw [beq_iff_eq.mp (show ((_ :: r) == excTail) = true from e)]; exact PySem.F.store_ValueError.passes self
theorem exc_has : ∀ {l : List Value}, onlyExc l = true → l.contains (.type "object") = true
  | [], e => by cases e
  | v :: r, e => by
    cases v with
    | ref c => rw [List.contains_cons, exc_has (l := r) e, Bool.or_true]
    | _ => rw [beq_iff_eq.mp (show ((_ :: r) == excTail) = true from e)]; decide +kernel
structure ExcS (K : PySem.W.Frag) (C : Addr) (name : Str) : Prop where
  sa : PySem.W.findIn K (.ref C) "__setattr__" = some (some (.builtin "object.__setattr__"))
  mro : ((PySem.W.clsIn K C).any fun cd => onlyExc cd.mro) = true
  no : PySem.W.findIn K (.ref C) name = some none
  hd : ((PySem.W.clsIn K C).any (·.hasDict)) = true
section
variable {prog : Program} {w : World} {A : Around} {E : Value → Shared → Prop} {s : Shared} {K : PySem.W.Frag} {x C t : Addr} {name : Str} {v : Value}
theorem osa_exc {ox : Obj} {tk : Tok} {R : Result → Shared → Prop} (X : K.In s.heap) (I : PySem.W.InstAt s.heap x ox C none) (S : ExcS K C name)
    (h : ∀ b, wpAny (model prog w) A.in1 (storeInOwnDict (.ref x) (.ref C) (.str name tk) name v b) (fun fin s' => match fin with | .done f => R (.ok f) s' | .again c' => c'.quiet = true ∧ codeAny (model prog w) A c' R s') (fun e s' => R (.error e) s') s) :
    codeAny (model prog w) A (.call (.builtin "object.__setattr__") ⟨[.ref x, .str name tk, v], []⟩) R s := by
  have SF := PySem.F.store_object
  obtain ⟨cd, hc, ho⟩ := PySem.W.any_some S.mro
  have ne : cd.mro.isEmpty = false := by cases q : cd.mro with | nil => rw [q] at ho; cases ho | cons _ _ => rfl
  have sub : PySem.W.Looks (model prog w) s.heap (isInstance (.ref x) (.type "object")) true := I.type.andThen (PySem.W.looks_mroIn X (by unfold PySem.W.mroIn; rw [hc, Option.bind_some, if_neg (by rw [ne]; decide), exc_has ho]))
  refine codeAny_call_builtin SF.slot.plain SF.entry (@check_slot (model prog w) _ _ s "object.__setattr__" "object" "__setattr__" (.ref x) [.str name tk, v] [] _ SF.kind SF.split sub (SF.args (.ref x) (.str name tk) v) ?_)
  have hm : PySem.W.Looks (model prog w) s.heap (mroOf (.ref C)) cd.mro := (PySem.W.looks_clsIn X hc).andThen .now
  rw [PySem.W.osa_eq, refuse_eq]
  refine wpAny_bind (wpAny_bind (I.type.here (wpAny_bind (hm.here ?_))))
  rw [refuse_exc _ ho]
  refine wpAny_pure (wpAny_bind (I.type.here (wpAny_bind ((PySem.W.looks_findIn X S.no).here (wpAny_bind (wpAny_pure ?_))))))
  exact h _
theorem set_exc {Q : Unit → Shared → Prop} (X : K.In s.heap) (hx : s.heap.get? x = some { cls := .ref C, dict := none, data := .fields #[.ref t, .none, .none, .none, .bool false, .none] }) (S : ExcS K C name)
    (h : ∀ h' tk, h'.Ns1 s.heap.objs.size (fun y => if y = name then some v else none) → h'.get? x = some { cls := .ref C, dict := some s.heap.objs.size, data := .fields #[.ref t, .none, .none, .none, .bool false, .none] } → (∀ b o, b ≠ x → s.heap.get? b = some o → h'.get? b = some o) → Q () { s with heap := h', toks := tk }) :
    wpAny (model prog w) A (setAttr (.ref x) name v) Q E s := by
  have J : PySem.W.InstAt s.heap x { cls := .ref C, dict := none, data := .fields #[.ref t, .none, .none, .none, .bool false, .none] } C none := ⟨hx, rfl, rfl, True.intro⟩
  refine PySem.W.set_plain X J S.sa (osa_exc (s := { s with toks := s.toks + 1 }) X J S fun b => ?_)
  obtain ⟨cd, hc, hd'⟩ := PySem.W.any_some S.hd
  obtain ⟨hp, g, d, tk, os⟩ := s
  have hx₁ : (hp.push { cls := .type "dict", data := .dict #[] }).get? x = some { cls := .ref C, dict := none, data := .fields #[.ref t, .none, .none, .none, .bool false, .none] } := Heap.get?_push_of_some _ hx
  have hxs : x ≠ hp.objs.size := Nat.ne_of_lt (Heap.lt_size hx)
  refine wpAny_bind (wpAny_pure (wpAny_bind (wpAny_bind (wpAny_loadPart hx (wpAny_bind (PySem.W.Looks.here (s := ⟨hp, g, d, tk + 1, os⟩) (PySem.W.looks_clsIn X hc) ?_))))))
  rw [hd']
  refine wpAny_bind (wpAny_alloc' ?_)
  refine wpAny_bind (wpAny_update' hx₁ ?_)
  have hgd : ((hp.push { cls := .type "dict", data := .dict #[] }).update x fun o => { cls := o.cls, dict := some hp.objs.size, data := o.data, slots := o.slots }).get? hp.objs.size = some { cls := .type "dict", data := .dict #[] } :=
    (Heap.get?_update_ne _ _ _ _ hxs.symm).trans (Heap.get?_push_at rfl rfl)
  have hge : ((hp.push { cls := .type "dict", data := .dict #[] }).update x fun o => { cls := o.cls, dict := some hp.objs.size, data := o.data, slots := o.slots }).get? x = some { cls := .ref C, dict := some hp.objs.size, data := .fields #[.ref t, .none, .none, .none, .bool false, .none] } :=
    Heap.get?_update_self _ hx₁ rfl
  have hnd : ((hp.push { cls := .type "dict", data := .dict #[] }).update x fun o => { cls := o.cls, dict := some hp.objs.size, data := o.data, slots := o.slots }).Ns hp.objs.size (fun _ => none) :=
    ⟨_, #[], _, hgd, rfl, fun e he => absurd he (by simp), fun _ => rfl⟩
  refine wpAny_pure ?_
  show wpAny _ _ (storeInDict hp.objs.size (.str name tk) name v) _ _ _
  unfold storeInDict newKeyGuard
  refine wpAny_bind (wpAny_pure (wpAny_bind (wpAny_nsSet1 (Heap.Ns1.of_empty hnd) fun h' hn' hs => ?_)))
  obtain ⟨oD, esD, epD, hoD, hdD, hcD⟩ := hn'.count (Within.cons name v Within.nil)
  refine wpAny_bind (wpAny_lookBehind hoD (by rw [hdD]; exact pastItsLine_dict (Nat.le_trans hcD (by rw [List.length_cons, List.length_nil, sizeLine_eq]; omega))) ?_)
  refine wpAny_pure ?_
  exact h h' _ hn' ((hs.2 x hxs).trans hge) fun b o hb z => (hs.2 b (Nat.ne_of_lt (Heap.lt_size z))).trans ((Heap.get?_update_ne _ _ _ _ hb).trans (Heap.get?_push_of_some _ z))
end
end L3
namespace L3
open PySem PySem.Spec PyProof.Rows L2 PySem.SeqAt
section
variable {X : Cx} {pins : List (Addr × Obj)} {σ : L2.St} {H : Hp} {s : Shared} {a C : Addr} {f : Str} {A : Around} {E : Value → Shared → Prop}
theorem setattrX_ok {y : V} {u : Value} {Q : Unit → Shared → Prop} (I : Inv X pins σ H s) (e : H a = some (XB a C none)) (S : ExcS X.K C f) (ry : RelV y u)
    (h : ∀ d s', H d = none → Inv X pins σ (upd (upd H d (.xd [(f, y)])) a (XB a C (some d))) s' → Q () s') : wpAny (model X.prog X.w) A (setAttr (.ref a) f u) Q E s := by
  obtain ⟨t, hx⟩ := xb_at I.hok e
  refine set_exc I.kIn hx S fun h' tk hn hx' hk => h s.heap.objs.size _ (I.hok.fresh (Nat.le_refl _)) ?_
  have fr := I.hok.fresh (Nat.le_refl s.heap.objs.size)
  have na : a ≠ s.heap.objs.size := Nat.ne_of_lt (Heap.lt_size hx)
  have nd : ∀ b o, s.heap.get? b = some o → b ≠ s.heap.objs.size := fun b o z => Nat.ne_of_lt (Heap.lt_size z)
  have oth : ∀ b, b ≠ a → b ≠ s.heap.objs.size → upd (upd H s.heap.objs.size (.xd [(f, y)])) a (XB a C (some s.heap.objs.size)) b = H b := fun b h1 h2 => by rw [upd_ne h1, upd_ne h2]
  have nm : ∀ b, H b = none → b ≠ a := fun b z q => by rw [q, e] at z; cases z
  have nt : ∀ b o, H b = some o → (∀ φ, o ≠ .ext φ) → b ≠ a := fun b o z q r => by rw [r, e] at z; exact q _ (Option.some.inj z).symm
  refine I.un (t' := tk) ⟨fun b o q n hb _ => hk b o (nm b n) q, fun b o q n hb _ => ⟨o.slots, hk b o (nm b n) q⟩, fun b o q n _ => ?_, fun b o q _ => ?_, fun b xs q => ?_, fun b o u q => ?_, fun b ps q => ⟨#[], ?_⟩⟩ fun b o q => ?_
  · rw [oth b (nm b n) (nd b o q)]; exact n
  · by_cases hb : b = a
    · subst hb; exact ⟨_, hx'⟩
    · exact ⟨o, hk b o hb q⟩
  · rw [oth b (nt b _ q fun _ z => nomatch z) (ne_of_none q fr)]; exact q
  · rw [oth b (nt b _ q fun _ z => nomatch z) (ne_of_none q fr)]; exact q
  · rw [oth b (nt b _ q fun _ z => nomatch z) (ne_of_none q fr), Array.append_empty]; exact q
  · by_cases hb : b = a
    · subst hb
      rw [upd_same] at q
      cases q
      exact xb_ok hx'
    · rw [upd_ne hb] at q
      by_cases hd : b = s.heap.objs.size
      · subst hd
        rw [upd_same] at q
        cases q
        refine ⟨_, hn, fun g => ?_⟩
        show RelO (List.lookup g [(f, y)]) (if g = f then some u else none)
        by_cases z : g = f
        · subst z
          rw [if_pos rfl, List.lookup_cons, beq_self_eq_true]; exact ry
        · rw [if_neg z, List.lookup_cons, beq_eq_false_iff_ne.mpr z]; exact True.intro
      · rw [upd_ne hd] at q
        refine (I.hok b o q).stay (fun c v hc z => hk c v (fun r => ?_) z) (fun c z => ?_) fun c xs z => ?_
        · subst r
          rcases hc with hc | hc
          · exact hb hc.symm
          · rw [e] at hc; cases hc
        · rw [oth c (nt c _ z fun _ z => nomatch z) (ne_of_none z fr)]; exact z
        · rw [oth c (nt c _ z fun _ z => nomatch z) (ne_of_none z fr)]; exact z
end

def sX (K : PySem.W.Frag) (ta tv : TE) (f : Str) : TS := fun D σ H => tv σ H fun y H1 => ta σ H1 fun x H2 => ∃ a C, x = .ref a ∧ H2 a = some (XB a C none) ∧ ExcS K C f ∧ ∀ d, H2 d = none → D.nx σ (upd (upd H2 d (.xd [(f, y)])) a (XB a C (some d)))
theorem ps_setX {X : Cx} {o value : Expr} {ta tv : TE} {f : Str} {pos pos' : Pos} (ha : PE X o ta) (hv : PE X value tv) (hs : swapsWith value (some (.Attribute o f pos')) pos.line X.env = pure false) : PS X (.Assign [.Attribute o f pos'] value pos) (sX X.K ta tv f) := by
  intro pins s σ H D I h
  refine plainObj_wpAny_Assign_Attribute (thn (hv pins s σ H _ I h) fun u s1 ⟨y, H1, I1, ry, q⟩ => thn (ha pins s1 σ H1 _ I1 q) fun ov s2 ⟨x, H2, I2, rx, a, C, ex, ea, S, q2⟩ => ?_) hs
  subst ex
  obtain rfl : ov = Value.ref a := rx
  exact setattrX_ok I2 ea S ry fun d s3 hd I3 => ⟨σ, _, I3, q2 d hd⟩

def spXInit (C : Addr) (f : Str) : Sp := fun vs H Q _ => ∃ (e : Addr) (i : Int), vs = [.ref e, .int i] ∧ H e = some (XB e C none) ∧ i.natAbs.log2 < 1900 ∧ ∀ d, H d = none → Q .non (upd (upd H d (.xd [(f, .int i)])) e (XB e C (some d)))
end L3
namespace L3
open PySem PySem.Spec PyProof.Rows L2 PySem.SeqAt

def FlyD (base : Heap) (l : List Env) (e : Addr) (cls : Value) (od : Option Addr) (fl : Value) (h : Heap) : Prop :=
  base.StaysIn h ∧ base.get? e = none ∧ h.FunFrames base l ∧ ∃ oe vs T oT ts, h.get? e = some oe ∧ oe.cls = cls ∧ oe.dict = od ∧ oe.data = .fields vs ∧ vs[1]? = some (.ref T) ∧ base.get? T = none ∧ T ≠ e ∧ h.get? T = some oT ∧ oT.data = .fields ts ∧ ts[3]? = some fl
theorem mapFields_dict (f : Array Value → Array Value) (o : Obj) : (Obj.mapFields f o).dict = o.dict := by
  obtain ⟨c, d, dt, sl⟩ := o
  cases dt <;> rfl
section
variable {M : Model} {A : Around} {E : Value → Shared → Prop} {s : Shared}

theorem not_rec {h : Heap} {x : Addr} {o : Obj} {vs : Array Value} (hx : h.get? x = some o) (hd : o.data = .fields vs) {b : Addr} {u : Obj} (hb : h.get? b = some u) (hn : ∀ ws, u.data ≠ .fields ws) : b ≠ x := fun q => by
  rw [q, hx] at hb
  cases hb
  exact hn vs hd
theorem entryD {base : Heap} {env : Env} {outer : List Env} {L e : Addr} {oe : Obj} {vs : Array Value} {head : Value} {hadNext : Bool} {Q : Unit → Shared → Prop}
    (hfr : A.frames = some (env :: outer)) (hl : s.heap.FunFrames base (env :: outer)) (hf : env.frame = some L) (he : s.heap.get? e = some oe) (hkb : base.StaysIn s.heap) (hen : base.get? e = none) (hd : oe.data = .fields vs) (hsz : 1 < vs.size)
    (h : ∀ h', FlyD base (env :: outer) e oe.cls oe.dict (rawInt L) h' → s.heap.UpToSlots h' → Q () { s with heap := h' }) :
    wpAny M A (do let a ← frameOf env; let pl ← entryPlaceOf L hadNext; let b ← EntryCells.newEntry head a .none (rawInt L) .none pl; setField (.ref e) 1 b) Q E s := by
  have hene : e ∉ (env :: outer).filterMap (·.frame) := fun hm => by
    obtain ⟨_, o, ho, hnf⟩ := hl.mem hm
    exact not_rec he hd ho hnf rfl
  refine wpAny_bind (wpAny_frameOf_fun hfr hl hf fun h₁ hs₁ => wpAny_bind (wpAny_entryPlaceOf fun pl hpl => ?_))
  unfold EntryCells.newEntry newFields
  refine wpAny_bind (wpAny_newObj_type ?_ (hpl.sizeOk5 _ _ _ _ _))
  have he₁ : h₁.get? e = some oe := (hs₁.2.1 e hene).trans he
  have kb₁ : base.StaysIn h₁ := fun b o hbo => (hs₁.2.1 b fun hm => by rw [(hl.mem hm).1] at hbo; cases hbo).trans (hkb b o hbo)
  have hts : ∃ ts : Array Value, ([head, .ref L, .none, rawInt L, .none] ++ (if pl.isEmpty then List.replicate 6 Value.none else pl)).toArray = ts ∧ ts[3]? = some (rawInt L) := ⟨_, rfl, by first | (simp; done) | (rcases hpl with rfl | ⟨_, _, _, _, _, _, _, rfl⟩ <;> simp)⟩
  obtain ⟨ts, ets, h3⟩ := hts
  rw [ets]
  have he₂ := Heap.get?_push_of_some (h := h₁) { cls := .type "traceback", dict := none, data := .fields ts } he₁
  have hTe : h₁.objs.size ≠ e := Nat.ne_of_gt (Heap.lt_size he₁)
  refine wpAny_setField he₂ hd hsz (h _ ?_ ?_)
  · have hd₃ := Obj.data_mapFields hd (·.setIfInBounds 1 (Value.ref h₁.objs.size))
    have he₃ := Heap.get?_update_self (Obj.mapFields (·.setIfInBounds 1 (Value.ref h₁.objs.size))) he₂ (Obj.isFreed_of_fields hd₃)
    have ot : ∀ b o, b ≠ e → h₁.get? b = some o → ((h₁.push { cls := .type "traceback", dict := none, data := .fields ts }).update e (Obj.mapFields (·.setIfInBounds 1 (Value.ref h₁.objs.size)))).get? b = some o := fun b o hb z =>
      (Heap.get?_update_other _ _ (Ne.symm hb)).trans (Heap.get?_push_of_some _ z)
    refine ⟨fun b o z => ot b o (fun q => by rw [q, hen] at z; cases z) (kb₁ b o z), hen, hl.of_keeps fun b o z hn => ?_, ?_⟩
    · obtain ⟨sl, z'⟩ := hs₁.2.2 b o z
      exact ⟨_, ot b _ (not_rec he hd z hn) z', rfl⟩
    · refine ⟨_, _, h₁.objs.size, { cls := .type "traceback", dict := none, data := .fields ts }, ts, he₃, Obj.cls_mapFields _ _, mapFields_dict _ _, hd₃, by simp [hsz], kb₁.fresh, hTe, ?_, rfl, h3⟩
      exact (Heap.get?_update_other _ _ (Ne.symm hTe)).trans (Heap.get?_push_size h₁ rfl)
  · intro b o z hn
    obtain ⟨sl, z'⟩ := hs₁.2.2 b o z
    exact ⟨sl, (Heap.get?_update_other _ _ (Ne.symm (not_rec he hd z hn))).trans (Heap.get?_push_of_some _ z')⟩

theorem noteD {base : Heap} {env : Env} {outer : List Env} {L e : Addr} {cls : Value} {od : Option Addr} {Q : Unit → Shared → Prop} (hfr : A.frames = some (env :: outer)) (hf : env.frame = some L) (hfl : FlyD base (env :: outer) e cls od .none s.heap)
    (h : ∀ h', FlyD base (env :: outer) e cls od (rawInt L) h' → s.heap.UpToSlots h' → Q () { s with heap := h' }) : wpAny M A (noteFrame (.ref e) env) Q E s := by
  obtain ⟨hkb, hen, hl, oe, vs, T, oT, ts, he, rfl, rfl, hd, h1, hnT, hTe, hT, hdT, h3⟩ := hfl
  unfold noteFrame
  simp only [hf]
  refine wpAny_bind (wpAny_field he hd h1 ?_)
  rw [if_pos (show (Value.ref T != Value.none) = true from by simp)]
  refine wpAny_bind (wpAny_field hT hdT h3 ?_)
  rw [if_neg (show ¬ ((Value.none == rawInt L) = true) from by simp [rawInt])]
  refine wpAny_bind (wpAny_setField hT hdT (Array.getElem?_eq_some_iff.mp h3).1 ?_)
  have ot : ∀ b, b ≠ T → (s.heap.update T (Obj.mapFields (·.setIfInBounds 3 Value.none))).get? b = s.heap.get? b := fun b hb => Heap.get?_update_other _ _ (Ne.symm hb)
  refine entryD hfr (hl.of_keeps fun b o hb hnf => ⟨o, (ot b (not_rec hT hdT hb hnf)).trans hb, rfl⟩) hf ((ot e (Ne.symm hTe)).trans he) (fun b o z => (ot b fun q => by rw [q, hnT] at z; cases z).trans (hkb b o z)) hen hd (Array.getElem?_eq_some_iff.mp h1).1
    fun h' f1 f2 => h h' f1 fun b o z hn => f2 b o ((ot b (not_rec hT hdT z hn)).trans z) hn
theorem flightD {base : Heap} {l : List Env} {e : Addr} {cls fl : Value} {od : Option Addr} {Q : Unit → Shared → Prop} (hfl : FlyD base l e cls od fl s.heap)
    (h : ∀ h', FlyD base l e cls od .none h' → s.heap.UpToSlots h' → Q () { s with heap := h' }) : wpAny M A (setFlight (.ref e) none) Q E s := by
  obtain ⟨hkb, hen, hl, oe, vs, T, oT, ts, he, rfl, rfl, hd, h1, hnT, hTe, hT, hdT, h3⟩ := hfl
  have hsz3 : 3 < ts.size := (Array.getElem?_eq_some_iff.mp h3).1
  unfold setFlight
  refine wpAny_bind (wpAny_field he hd h1 ?_)
  rw [if_pos (show (Value.ref T != Value.none) = true from by simp)]
  have ot : ∀ b, b ≠ T → (s.heap.update T (Obj.mapFields (·.setIfInBounds 3 ((none : Option Addr).elim Value.none fun f => rawInt f)))).get? b = s.heap.get? b := fun b hb => Heap.get?_update_other _ _ (Ne.symm hb)
  refine wpAny_setField hT hdT hsz3 (h _ ⟨fun b o z => (ot b fun q => by rw [q, hnT] at z; cases z).trans (hkb b o z), hen, hl.of_keeps fun b o hb hnf => ⟨o, (ot b (not_rec hT hdT hb hnf)).trans hb, rfl⟩, ?_⟩ fun b o hb hnf => ⟨o.slots, (ot b (not_rec hT hdT hb hnf)).trans hb⟩)
  exact ⟨oe, vs, T, _, _, (ot e (Ne.symm hTe)).trans he, rfl, rfl, hd, h1, hnT, hTe, Heap.get?_update_self _ hT (Obj.isFreed_of_fields (Obj.data_mapFields hdT _)), Obj.data_mapFields hdT _, by simp [hsz3]⟩
theorem FlyD.out {base h : Heap} {env : Env} {outer : List Env} {e : Addr} {cls fl : Value} {od : Option Addr} (x : FlyD base (env :: outer) e cls od fl h) : FlyD base outer e cls od fl h := ⟨x.1, x.2.1, x.2.2.1.2.2, x.2.2.2⟩

theorem leavesD {base : Heap} {env : Env} {outer : List Env} {L e : Addr} {cls : Value} {od : Option Addr} {Q : Unit → Shared → Prop} (hfr : A.frames = some (env :: outer)) (hf : env.frame = some L) (hfl : FlyD base (env :: outer) e cls od .none s.heap)
    (h : ∀ h', FlyD base outer e cls od .none h' → s.heap.UpToSlots h' → Q () { s with heap := h' }) : wpAny M A (leaving env (.ref e)) Q E s := by
  unfold leaving
  refine wpAny_bind (noteD hfr hf hfl fun h1 f1 u1 => flightD f1 fun h2 f2 u2 => h h2 f2.out (u1.trans u2))

theorem leavesFirst {base : Heap} {env : Env} {outer : List Env} {L e : Addr} {oe : Obj} {vs : Array Value} {Q : Unit → Shared → Prop} (hfr : A.frames = some (env :: outer)) (hl : s.heap.FunFrames base (env :: outer)) (hf : env.frame = some L)
    (he : s.heap.get? e = some oe) (hkb : base.StaysIn s.heap) (hen : base.get? e = none) (hd : oe.data = .fields vs) (h1 : vs[1]? = some .none)
    (h : ∀ h', FlyD base outer e oe.cls oe.dict .none h' → s.heap.UpToSlots h' → Q () { s with heap := h' }) : wpAny M A (leaving env (.ref e)) Q E s := by
  unfold leaving noteFrame
  simp only [hf]
  refine wpAny_bind (wpAny_bind (wpAny_field he hd h1 ?_))
  rw [if_neg (by decide)]
  exact entryD hfr hl hf he hkb hen hd (Array.getElem?_eq_some_iff.mp h1).1 fun h1 f1 u1 => flightD f1 fun h2 f2 u2 => h h2 f2.out (u1.trans u2)
end
end L3
namespace L3
open PySem PySem.Spec PyProof.Rows L2 PySem.SeqAt
section
variable {M : Model} {A : Around} {E : Value → Shared → Prop} {env : Env}
variable {nm q : Str} {C N : Addr} {bs bm : List Value} {hdct : Bool} {sn : List Str} {sub : List Value} {ab : Bool} {col : Option Bool} {dd : Option Addr} {k0 k1 k2 k3 k5 : Option Value} {newId : String}
theorem raise_any {s : Shared} {x : Sem Value} {Q : Flow → Shared → Prop} (hbase : bm.contains (.type "BaseException") = true) (hh : A.handled = none)
    (h : wpAny M A x (fun v s₁ => ∃ e t od, v = .ref e ∧ s₁.heap.get? C = some (excClassObj nm q C N bs bm hdct sn sub ab col dd k0 k1 k2 k3 k5 newId) ∧ s₁.heap.get? e = some { cls := .ref C, dict := od, data := .fields #[.ref t, .none, .none, .none, .bool false, .none] } ∧ E (.ref e) s₁) E s) : wpAny M A (raiseStmt env (some x) none) Q E s := by
  have hcB : (Value.ref C :: bm).contains (.type "BaseException") = true := by rw [List.contains_cons, hbase, Bool.or_true]
  unfold raiseStmt
  refine wpAny_bind (wpAny_mono h (fun v s₁ h₁ => ?_) fun _ _ x => x)
  obtain ⟨e, t, od, rfl, hC, he, hE⟩ := h₁
  obtain ⟨hp, g, d, tk, os⟩ := s₁
  repeat (first | with_reducible refine wpAny_loadPart_at he ?_ | with_reducible refine wpAny_loadPart_at hC ?_ | (with_reducible refine wpAny_isSubtype_exc hC ?_; rw [hcB]) | wp_step)
  exact wpAny_raiseNew_none hh hE
end
section
variable {prog : Program} {w : World} {A : Around} {E : Value → Shared → Prop} {s : Shared} {env : Env}
variable {nm q : Str} {C N : Addr} {bs bm bmB : List Value} {hdct : Bool} {sn : List Str} {sub : List Value} {ab : Bool} {col : Option Bool} {dd : Option Addr} {k0 k1 k2 k3 k5 : Option Value} {B Bn newId nid initId inN : String} {bmN : List Value}
theorem raise_init (Fn : ExcBaseFacts Bn newId inN bmN) (hBn : bmB.contains (.type Bn) = true) (F : ExcBaseFacts B nid initId bmB) {mN : Str → Option Value} {x : Str} {np cpos pos : Pos} {args : List Expr} {fI : Addr} {oI : Obj} {Q : Flow → Shared → Prop}
    (hbase : bm.contains (.type "BaseException") = true) (hh : A.handled = none) (hplain : (backTo cpos (starEach args env)).any (·.1) = false) (hi : mN "__init__" = some (.ref fI)) (hfc : oI.cls = .type "function")
    (h : wpAny (model prog w) A (eval (.Name x np) env) (fun f s₁ => f = .ref C ∧ wpAny (model prog w) A (evalArgs (.ref C) true (backTo cpos (starEach args env)) [])
      (fun a s₂ => a.kw = [] ∧ a.pos.length ≤ sizeLine ∧ s₂.heap.get? C = some (excClassObj nm q C N bs bm hdct sn sub ab col dd k0 k1 k2 k3 k5 newId) ∧ s₂.heap.Ns N mN ∧ OwnTail s₂.heap bmB bm ∧ s₂.heap.get? fI = some oI ∧
        ∀ h' e, Heap.MadeExcOf s₂.heap h' e (.ref C) a.pos → s₂.heap.objs.size ≤ e → wpAny (model prog w) (A.under (.builtin "type.__call__" ⟨.ref C :: a.pos, []⟩)) (call (.ref fI) (.ref e :: a.pos))
          (fun r s' => r = .none ∧ s'.heap.get? C = some (excClassObj nm q C N bs bm hdct sn sub ab col dd k0 k1 k2 k3 k5 newId) ∧ (∃ t od, s'.heap.get? e = some { cls := .ref C, dict := od, data := .fields #[.ref t, .none, .none, .none, .bool false, .none] }) ∧ E (.ref e) s') E { s₂ with heap := h' }) E s₁) E s) :
    wpAny (model prog w) A (exec (.Raise (some (.Call (.Name x np) args [] cpos)) none pos) env) Q E s := by
  rw [arm_exec_Raise]
  refine wpAny_bind (wpAny_standAt (raise_any (C := C) (nm := nm) (q := q) (N := N) (bs := bs) (bm := bm) (hdct := hdct) (sn := sn) (sub := sub) (ab := ab) (col := col) (dd := dd) (k0 := k0) (k1 := k1) (k2 := k2) (k3 := k3) (k5 := k5) (newId := newId) hbase hh ?_))
  refine wpAny_bind (wpAny_mono (wpAny_Call_ofName (wpAny_mono h (fun f s₁ h₁ => ?_) fun _ _ x => x)) (fun v s₃ h₃ => wpAny_bind (wpAny_standAt (wpAny_pure h₃))) fun _ _ x => x)
  obtain ⟨rfl, h₁⟩ := h₁
  unfold callWith
  refine wpAny_bind (wpAny_holding (wpAny_mono h₁ (fun a s₂ h₂ => wpAny_bind (wpAny_standAt ?_)) fun _ _ x => x))
  obtain ⟨apos, akw⟩ := a
  obtain ⟨hkw, hlen, hC, hn, T, hf, h₂⟩ := h₂
  obtain rfl : akw = [] := hkw
  obtain ⟨hp, g, d, tk, os⟩ := s₂
  simp only [hplain]
  refine wpAny_bind (wpAny_keeperOf_exc hC ?_)
  refine wpAny_bind (exc_call_init Fn hBn F T hC hn hi hf hfc (fun h' e hm hz => wpAny_mono (h₂ h' e hm hz) (fun r s' z => ⟨z.1, ?_⟩) fun _ _ z => z) hlen)
  obtain ⟨_, hC', ⟨t, od, hoe⟩, hE⟩ := z
  exact wpAny_bind (wpAny_holding (wpAny_point (wpAny_pure ⟨e, t, od, rfl, hC', hoe, hE⟩)))
end

structure ThrownD (P : Program) (w : World) (outer : List Env) (H : Hp) (s : Shared) (ea C : Addr) (od : Option Addr) (H' : Hp) (s' : Shared) : Prop where
  os : s'.os = s.os
  bare : AllBare s'.gens
  fr : H' ea = none
  hi : s.heap.objs.size ≤ ea
  ex : ∃ (h0 : Heap) (l : List Addr), Un (frs outer) [] H H' s.heap h0 ∧ HOk P w H' h0 ∧ (∀ b ∈ l, H' b = none ∧ (b ∈ frs outer ∨ s.heap.objs.size ≤ b)) ∧ FlyD (PySem.W.hideAll h0 l) outer ea (.ref C) od .none s'.heap ∧ h0.UpToSlots s'.heap
def CXD (P : Program) (w : World) : CXT := fun outer H s E e s' => ∃ (ea C : Addr) (od : Option Addr) (H' : Hp), e = .ref ea ∧ ThrownD P w outer H s ea C od H' s' ∧ E (.ref C) od H'

theorem leaves_made {X : Cx} {pins : List (Addr × Obj)} {σ : L2.St} {H H' : Hp} {s : Shared} {e C : Addr} {od : Option Addr} {Q : Unit → Shared → Prop} {Ex : Value → Shared → Prop} (I : Inv X pins σ H s)
    (hst : X.stack = X.env :: X.outer) (hfr : X.env.frame = some X.env.locals) (hex : X.ex = []) (he : H e = some (XB e C od)) (hi : X.s₀.heap.objs.size ≤ e) (h0 : H' e = none) (h1 : ∀ b, b ≠ e → H' b = H b)
    (hQ : ∀ s', ThrownD X.prog X.w X.outer X.H₀ X.s₀ e C od H' s' → Q () s') : wpAny (model X.prog X.w) X.A (leaving X.env (.ref e)) Q Ex s := by
  obtain ⟨t, hx⟩ := xb_at I.hok he
  have hfs := frs_body hst hfr
  have hin : ∀ env ∈ X.stack, ∀ a, env.frame = some a → a ∈ e :: frs X.stack := fun env hm b hb => List.mem_cons_of_mem _ (List.mem_filterMap.mpr ⟨env, hm, hb⟩)
  have hl : s.heap.FunFrames (PySem.W.hideAll s.heap (e :: frs X.stack)) (X.env :: X.outer) := by
    have z := PySem.W.funFrames_hide I.stack hin
    rw [hst] at z ⊢; exact z
  have nx : ∀ b o, H b = some o → (∀ φ, o ≠ .ext φ) → b ≠ e := fun b o z q r => by rw [r, he] at z; exact q _ (Option.some.inj z).symm
  have hb := I.base
  rw [hex] at hb
  refine leavesFirst (base := PySem.W.hideAll s.heap (e :: frs X.stack)) (by rw [← hst]; exact I.ok.frames) hl hfr hx (fun b o q => PySem.W.of_hideAll _ q) (PySem.W.hideAll_none _ (.head _)) rfl rfl fun h' f u => hQ _ ⟨I.os, I.bare, h0, hi, s.heap, e :: frs X.stack, ?_, ?_, ?_, f, u⟩
  · refine ⟨hb.keep, hb.slot, fun b o q n hx' => ?_, hb.there, fun b xs q => ?_, fun b o u q => ?_, fun b ps q => ?_⟩
    · by_cases z : b = e
      · rw [z]; exact h0
      · rw [h1 b z]; exact hb.free b o q n hx'
    · have z := hb.tups b xs q
      rw [h1 b (nx b _ z fun _ z => nomatch z)]; exact z
    · have z := hb.frzs b o u q
      rw [h1 b (nx b _ z fun _ z => nomatch z)]; exact z
    · obtain ⟨m, z⟩ := hb.tbls b ps q
      exact ⟨m, by rw [h1 b (nx b _ z fun _ z => nomatch z)]; exact z⟩
  · intro b o q
    by_cases z : b = e
    · rw [z, h0] at q; cases q
    · rw [h1 b z] at q
      refine (I.hok b o q).stay (fun c v _ z => z) (fun c z' => ?_) fun c xs z' => ?_
      · rw [h1 c (nx c _ z' fun _ z => nomatch z)]; exact z'
      · rw [h1 c (nx c _ z' fun _ z => nomatch z)]; exact z'
  · intro b hm
    rcases List.mem_cons.mp hm with rfl | hm
    · exact ⟨h0, .inr hi⟩
    · have hn := I.stkFree b hm
      have nb : b ≠ e := fun z => by rw [z, he] at hn; cases hn
      refine ⟨by rw [h1 b nb]; exact hn, ?_⟩
      rw [hfs] at hm
      rcases List.mem_cons.mp hm with rfl | hm
      · exact .inr I.ok.above
      · exact .inl hm

def tRaiseI (C : Addr) (f : Str) (E : XK) (t : TA) : TS := fun _ σ H => t σ H fun vs H1 => ∃ i : Int, vs = [.int i] ∧ i.natAbs.log2 < 1900 ∧ ∀ d, H1 d = none → E (.ref C) (some d) (upd H1 d (.xd [(f, .int i)]))
theorem ps_raiseI {P : Program} {w : World} {K : PySem.W.Frag} {mg : Str → Option Value} {base : Heap} {N : List Str} {qual : Str} {scope : Scope} {f : Addr} {cd : Value} {A : Around} {outer : List Env} {s0 : Shared} {H0 : Hp} {E : XK}
    {C fI : Addr} {fd : FuncData} {ps : List Str} {fn x : Str} {k : Nat} {np cpos pos : Pos} {e0 : Expr} {es : List Expr} {t : TA} (c : ExcI K mg x C fI) (F : FnOk P w K mg base CX0 k fI fd ps (spXInit C fn)) (hb : Binds K fd ps [])
    (hr : Room (k + 1) (cxOf (CXD P w) P w K mg base N qual scope f cd A outer s0 H0 E).A) (hg : Gl (cxOf (CXD P w) P w K mg base N qual scope f cd A outer s0 H0 E) x)
    (ha : PA (cxOf (CXD P w) P w K mg base N qual scope f cd A outer s0 H0 E).nox (e0 :: es) t) (hdb : (x == ("__debug__" : Str)) = false := by decide)
    (he : starEach (e0 :: es) (cxOf (CXD P w) P w K mg base N qual scope f cd A outer s0 H0 E).env = (false, eval e0 (cxOf (CXD P w) P w K mg base N qual scope f cd A outer s0 H0 E).env) :: starEach es (cxOf (CXD P w) P w K mg base N qual scope f cd A outer s0 H0 E).env := by rfl)
    (hpl : (backTo cpos (starEach es (cxOf (CXD P w) P w K mg base N qual scope f cd A outer s0 H0 E).env)).any (·.1) = false := by rfl) :
    PS (cxOf (CXD P w) P w K mg base N qual scope f cd A outer s0 H0 E) (.Raise (some (.Call (.Name x np) (e0 :: es) [] cpos)) none pos) (tRaiseI C fn E t) := by
  intro pins s σ H D I h
  obtain ⟨bm, N', nm, qn, bs, hd, sn, sub, ab, col, dd, k0, k1, k2, k3, k5, mN, o, hC, hN, hni, TL, hf, hfc⟩ := c.obj I.ok.mod.kin
  refine raise_init (C := C) (mN := mN) (N := N') (nm := nm) (q := qn) (bs := bs) (bm := bm) (hdct := hd) (sn := sn) (sub := sub) (ab := ab) (col := col) (dd := dd) (k0 := k0) (k1 := k1) (k2 := k2) (k3 := k3) (k5 := k5)
    PySem.F.excBase_ValueError (by decide +kernel) PySem.F.excBase_ValueError (TL.hasType (by decide +kernel)) (I.ok.hd rfl) (by rw [he]; show (false || (backTo cpos (starEach es _)).any (·.1)) = false; rw [hpl]; rfl) hni hfc ?_
  refine ld_glob I hg c.glob ⟨rfl, ?_⟩ hdb
  have hargs := (L3.PA.nox ha) cpos pins s σ H _ I h
  rw [he] at hargs ⊢
  refine Calls.evalArgs_plain (thn hargs fun us s1 ⟨vs, H1, I1, r, i, ev, hlg, q⟩ => ?_)
  subst ev
  obtain ⟨u, rfl, ru⟩ := vals1 r
  refine ⟨rfl, by show 1 ≤ sizeLine; decide +kernel, I1.bk _ _ hC, hN.keeps I1.bk, TL.keeps I1.bk, I1.bk _ _ hf, fun h' e hm hz => ?_⟩
  obtain ⟨t', hte, _, _⟩ := hm.there
  have I2 := I1.laid (a := e) (o := XB e C none) (h' := h') (t' := s1.toks) hm.keeps hz (xb_ok hte)
  have fr1 : H1 e = none := I1.hok.fresh hz
  have hl : [Value.ref e, u].length = ps.length := by
    have := F.len [.ref e, .int i] (upd H1 e (XB e C none)) (fun _ _ => True) E ⟨e, i, rfl, upd_same, hlg, fun _ _ => True.intro⟩
    simpa using this
  have hbd := hb { s1 with heap := h' } [.ref e, u] I2.kIn (by rw [List.append_nil]; exact hl)
  rw [List.append_nil] at hbd
  refine wpAny_call (codeAny_mono (F.run _ _ _ (upd H1 e (XB e C none)) ⟨[.ref e, u], []⟩ [.ref e, u] [.ref e, .int i] (fun v H2 => v = .non ∧ ∃ d, upd H1 e (XB e C none) d = none ∧ H2 = upd (upd (upd H1 e (XB e C none)) d (.xd [(fn, .int i)])) e (XB e C (some d))) E (hr.make C [u] []) (I2.env0.make C [u] []) hbd (.cons rfl (.cons ru .nil)) ⟨e, i, rfl, upd_same, hlg, fun d hd => ⟨rfl, d, hd, rfl⟩⟩) fun r2 s' hq => ?_)
  cases r2 with
  | error ex => exact (show False from hq).elim
  | ok fl =>
    cases fl with
    | ret u2 =>
      obtain ⟨v, H2, I3, rv, ev, d, hd0, eH⟩ := I2.after hq
      subst ev eH
      have nd : d ≠ e := (none_upd hd0).2
      have hd1 : H1 d = none := (none_upd hd0).1
      obtain ⟨t3, h3⟩ := xb_at I3.hok upd_same
      refine ⟨rv, I3.bk _ _ hC, ⟨_, _, h3⟩, ?_⟩
      exact leaves_made (X := cxOf (CXD P w) P w K mg base N qual scope f cd A outer s0 H0 E) (H' := upd H1 d (.xd [(fn, .int i)])) I3 rfl rfl rfl upd_same (Nat.le_trans I1.sz hz) (by rw [upd_ne nd.symm]; exact fr1) (fun b hbe => by
        rw [upd_ne hbe]
        by_cases z : b = d
        · rw [z, upd_same, upd_same]
        · rw [upd_ne z, upd_ne z, upd_ne hbe]) fun s'' th => ⟨e, C, some d, _, rfl, th, q d hd1⟩
    | next => exact False.elim hq
    | brk => exact False.elim hq
    | cont => exact False.elim hq
end L3
namespace L3
open PySem PySem.Spec PyProof.Rows L2 PySem.SeqAt

theorem pass_onD {P : Program} {w : World} {K : PySem.W.Frag} {mg : Str → Option Value} {base : Heap} {N : List Str} {qual : Str} {scope : Scope} {f : Addr} {cd : Value} {A : Around} {outer : List Env} {s0 : Shared} {H0 : Hp} {E : XK} :
    Passes (CXD P w) (cxOf (CXD P w) P w K mg base N qual scope f cd A outer s0 H0 E) E := by
  intro pins σ H s e s' I h
  obtain ⟨ea, C, od, H', rfl, ⟨os, bare, fr, hi, h0, l, u, hok, hl, fl, up⟩, q⟩ := h
  show wpAny _ _ (leaving _ (.ref ea)) _ _ s'
  refine leavesD (outer := outer) I.ok.frames rfl fl fun h2 fl2 up2 => ⟨ea, C, od, H', rfl, ⟨os.trans I.os, bare, fr, Nat.le_trans I.sz hi, h0, l, ?_, hok, fun b hb => ⟨(hl b hb).1, ?_⟩, fl2, up.trans up2⟩, q⟩
  · have J := I.call (h' := h0) (g' := s'.gens) (d' := s'.drawn) (t' := s'.toks) (ch := []) u hok bare (fun b z => absurd z (by simp))
    exact J.base
  · rcases (hl b hb).2 with z | z
    · have z' : b ∈ frs (envOfC qual scope s0.heap.objs.size f cd :: outer) := z
      have e1 : frs (envOfC qual scope s0.heap.objs.size f cd :: outer) = s0.heap.objs.size :: frs outer := by unfold frs; rw [List.filterMap_cons]; rfl
      rw [e1] at z'
      rcases List.mem_cons.mp z' with rfl | z'
      · exact .inr (Nat.le_refl _)
      · exact .inl z'
    · exact .inr (Nat.le_trans I.sz z)
section
variable {P : Program} {w : World} {K : PySem.W.Frag} {mg : Str → Option Value} {base : Heap} {x qual : Str} {st : Stmt} {N ps : List Str} {sp : Sp} {C : Addr} {k : Nat}
def BodyD (P : Program) (w : World) (K : PySem.W.Frag) (mg : Str → Option Value) (base : Heap) (k : Nat) (qual : Str) (st : Stmt) (N : List Str) (sp : Sp) : Prop :=
  ∀ (f : Addr) (cdv : Value) (A : Around) (outer : List Env) (s : Shared) (H : Hp) (vs : List V) (Q : VK) (E : XK), Room k (A.deeper (envOfC qual (defScope st) s.heap.objs.size f cdv)) → sp vs H Q E →
    ∃ t, PSs (cxOf (CXD P w) P w K mg base N qual (defScope st) f cdv A outer s H E) (defBody st) t ∧ t { nx := fun _ H' => Q .non H', rt := Q } (start N vs) H
theorem fnD_of (k : Nat) (h : ∃ f fd, Fun K x qual st f fd ∧ mg x = some (.ref f) ∧ Binds K fd ps []) (S : FnScope N ps (defScope st)) (len : ∀ vs H Q E, sp vs H Q E → vs.length = ps.length)
    (hbody : BodyD P w K mg base k qual st N sp) : FnE P w K mg base (CXD P w) (k + 1) x sp := by
  obtain ⟨f, fd, F, hm, hb⟩ := h
  obtain ⟨oc, od, kV, doc, pm, an, cdv, ct, osl, rfl, lk, hcd⟩ := F.ex
  exact ⟨f, _, ps, fn_of lk hcd S len fun A outer s H vs Q E hr hsp => hbody f cdv A outer s H vs Q E hr hsp, hm, F.kp, hb⟩

structure XInit (P : Program) (w : World) (K : PySem.W.Frag) (mg : Str → Option Value) (base : Heap) (k : Nat) (x : Str) (C : Addr) (fn : Str) : Prop where
  ex : ∃ (f : Addr) (fd : FuncData) (ps : List Str), ExcI K mg x C f ∧ FnOk P w K mg base CX0 k f fd ps (spXInit C fn) ∧ Binds K fd ps []
end

def ThrewD (X : Cx) (pins : List (Addr × Obj)) (σ : L2.St) (Ew : XK) (ex : Value) (s' : Shared) : Prop :=
  ∃ (ea C : Addr) (od : Option Addr) (H1 : Hp) (s1 : Shared) (H' : Hp), ex = .ref ea ∧ Inv X pins σ H1 s1 ∧ ThrownD X.prog X.w X.stack H1 s1 ea C od H' s' ∧ Ew (.ref C) od H'
abbrev TEX := L2.St → Hp → VK → XK → Prop
def PEX (X : Cx) (e : Expr) (t : TEX) : Prop := ∀ (pins : List (Addr × Obj)) (s : Shared) (σ : L2.St) (H : Hp) (Q : VK) (Ew : XK), Inv X pins σ H s → t σ H Q Ew → wpAny (model X.prog X.w) X.A (eval e X.env) (EP X pins σ Q) (ThrewD X pins σ Ew) s
section
variable {X : Cx} {pins : List (Addr × Obj)} {σ : L2.St} {H : Hp} {s : Shared} {k : Nat} {g x n : Str} {sp : Sp} {e : Expr} {es : List Expr} {t : TA} {tx : TEX} {ta : TAX} {te : TE} {gp cpos pos py : Pos}
def xCall (sp : Sp) (t : TA) : TEX := fun σ H Q Ew => t σ H fun vs H1 => sp vs H1 Q Ew
theorem px_call (G : FnE X.prog X.w X.K X.mg X.base (CXD X.prog X.w) k g sp) (hr : Room k X.A) (hg : Gl X g) (ha : PA X.nox (e :: es) t) (hdb : (g == ("__debug__" : Str)) = false := by decide)
    (he : starEach (e :: es) X.env = (false, eval e X.env) :: starEach es X.env := by rfl) (hpl : (backTo cpos (starEach es X.env)).any (·.1) = false := by rfl) : PEX X (.Call (.Name g gp) (e :: es) [] cpos) (xCall sp t) := by
  intro pins s σ H Q Ew I h
  obtain ⟨f, fd, ps, F, hm, hk, hb⟩ := G.ex
  refine wpAny_Call_Name_kw (ld_glob I hg hm ?_ hdb)
  refine PySem.W.callWith_K (h₀ := X.base) I.ok.mod.kin hk (wpAny_mono (ha cpos pins s σ H _ (I.wish _) h) (fun us s1 ⟨vs, H1, I1, r, q⟩ => ⟨I1.kIn, ?_⟩) fun _ _ z => z.elim) he hpl
  have J : Inv X pins σ H1 s1 := I1.unwish
  have hl : us.length = ps.length := by rw [← r.length]; exact F.len _ _ _ _ q
  have hbd := hb s1 us J.kIn (by rw [List.append_nil]; exact hl)
  rw [List.append_nil] at hbd
  refine wpAny_call (codeAny_mono (F.run X.A X.stack s1 H1 ⟨us, []⟩ us vs Q Ew hr J.env0 hbd r q) fun r2 s' hq => ?_)
  cases r2 with
  | error ex =>
    obtain ⟨ea, C, od, H', rfl, th, q2⟩ := (show CXD X.prog X.w X.stack H1 s1 Ew ex s' from hq)
    exact ⟨ea, C, od, H1, s1, H', rfl, J, th, q2⟩
  | ok fl =>
    cases fl with
    | ret u => exact J.after hq
    | next => exact False.elim hq
    | brk => exact False.elim hq
    | cont => exact False.elim hq
def PBD (X : Cx) (body : List Stmt) (tb : TB) : Prop :=
  ∀ (pins : List (Addr × Obj)) (s : Shared) (σ : L2.St) (H : Hp) (D : Ends) (Ew : XK), Inv X pins σ H s → tb D Ew σ H → wpAny (model X.prog X.w) X.A (execs body X.env) (SP X pins D) (ThrewD X pins σ Ew) s
def bSet (i : Nat) (tx : TEX) : TB := fun D Ew σ H => tx σ H (fun v H2 => D.nx (σ.set i (some v)) H2) Ew
theorem pbD_set {i : Nat} {v : Expr} (hN : X.N.Nodup) (hi : X.N[i]? = some x) (hx : Loc X.env.scope x) (hv : PEX X v tx) (hw : swapsWith v (some (.Name x py)) pos.line X.env = pure false := by rfl)
    (hf : X.fn x = true ∨ X.env.scope.names.lookup x = some .local := by first | exact .inl rfl | exact .inr rfl | assumption) : PBD X [.Assign [.Name x py] v pos] (bSet i tx) := by
  intro pins s σ H D Ew I h
  refine wpAny_execs_cons (wpAny_Assign_Name (wpAny_mono (hv pins s σ H _ Ew I h) (fun v s1 ⟨y, H1, I1, r1, q1⟩ => ?_) fun _ _ z => z) hw)
  exact store_ok I1 hN hi hx r1 (fun s2 I2 => wpAny_execs_nil ⟨_, H1, I2, q1⟩) hf
end
end L3
namespace L3
open PySem PySem.Spec PyProof.Rows L2 PySem.SeqAt PySem.W Builtin Builtin.ObjectAttr
section
variable {prog : Program} {w : World} {A : Around} {E : Value → Shared → Prop} {s : Shared} {K : PySem.W.Frag} {x C dx : Addr} {ox od : Obj} {name : Str} {v : Value}
end

section
variable {X : Cx} {pins : List (Addr × Obj)} {σ : L2.St} {C fI : Addr}
end
end L3
namespace L3
open PySem PySem.Spec PyProof.Rows L2 PySem.SeqAt

def tFst2 (x : Str) (tv : TE) : TE := fun σ H Q => tv σ H fun u H1 => ∃ i, u = .int i ∧ i.natAbs.log2 < 1900 ∧ Q (.str (Str.empty ++ x ++ Str.ofString (toString i))) H1
theorem pe_fst2 {X : Cx} {v : Expr} {tv : TE} {x : Str} {j1 : Nat} {p0 p1 p2 : Pos} (hv : PE X v tv) (hx : (Str.empty ++ x).length ≤ 1000 := by decide +kernel) : PE X (.JoinedStr [.Constant (.str x) j1 p1, .FormattedValue v (-1) none p2] p0) (tFst2 x tv) := by
  intro pins s σ H Q I h
  refine JoinedStr_many (joinParts_cons (thn (pe_str (X := X) pins s σ H (fun u H' => u = .str x ∧ H' = H) I ⟨rfl, rfl⟩) fun u1 s1 ⟨v1, H1, I1, r1, e1, e2⟩ => ?_))
  subst e1 e2
  obtain ⟨t1, rfl⟩ := r1
  refine ⟨by rw [sizeLine_eq]; omega, joinParts_cons (FormattedValue_plain (thn (hv pins s1 σ H1 _ I1 h) fun u2 s2 ⟨v2, H2, I2, r2, i, e, hd, q⟩ => ?_))⟩
  subst e
  obtain ⟨t2, rfl⟩ := r2
  have hl := int_text_len_1921 (i := i) (by omega)
  have hz : (Str.empty ++ x ++ Str.ofString (toString i)).length ≤ sizeLine := by
    rw [sizeLine_eq]
    have : (Str.empty ++ x ++ Str.ofString (toString i)).length = (Str.empty ++ x).length + (Str.ofString (toString i)).length := by
      show Array.size _ = Array.size _ + Array.size _
      exact Array.size_append
    omega
  refine formatField_int_small (by omega) ?_
  exact ⟨hz, joinParts_nil ⟨.str _, _, (I2.tok _).tok _, ⟨_, rfl⟩, q⟩ hz⟩
theorem ps_setXK {X : Cx} {K : PySem.W.Frag} {o value : Expr} {ta tv : TE} {f : Str} {pos pos' : Pos} (h : X.K = K) (ha : PE X o ta) (hv : PE X value tv) (hs : swapsWith value (some (.Attribute o f pos')) pos.line X.env = pure false := by rfl) : PS X (.Assign [.Attribute o f pos'] value pos) (sX K ta tv f) := by
  subst h; exact ps_setX ha hv hs
theorem ps_raiseX {P : Program} {w : World} {K : PySem.W.Frag} {mg : Str → Option Value} {base : Heap} {N : List Str} {qual : Str} {scope : Scope} {f : Addr} {cd : Value} {A : Around} {outer : List Env} {s0 : Shared} {H0 : Hp} {E : XK}
    {C : Addr} {fn x : Str} {k : Nat} {np cpos pos : Pos} {e0 : Expr} {es : List Expr} {t : TA} (G : XInit P w K mg base k x C fn)
    (hr : Room (k + 1) (cxOf (CXD P w) P w K mg base N qual scope f cd A outer s0 H0 E).A) (hg : Gl (cxOf (CXD P w) P w K mg base N qual scope f cd A outer s0 H0 E) x)
    (ha : PA (cxOf (CXD P w) P w K mg base N qual scope f cd A outer s0 H0 E).nox (e0 :: es) t) (hdb : (x == ("__debug__" : Str)) = false := by decide)
    (he : starEach (e0 :: es) (cxOf (CXD P w) P w K mg base N qual scope f cd A outer s0 H0 E).env = (false, eval e0 (cxOf (CXD P w) P w K mg base N qual scope f cd A outer s0 H0 E).env) :: starEach es (cxOf (CXD P w) P w K mg base N qual scope f cd A outer s0 H0 E).env := by rfl)
    (hpl : (backTo cpos (starEach es (cxOf (CXD P w) P w K mg base N qual scope f cd A outer s0 H0 E).env)).any (·.1) = false := by rfl) :
    PS (cxOf (CXD P w) P w K mg base N qual scope f cd A outer s0 H0 E) (.Raise (some (.Call (.Name x np) (e0 :: es) [] cpos)) none pos) (tRaiseI C fn E t) := by
  obtain ⟨fI, fd, ps, c, F, hb⟩ := G.ex
  exact ps_raiseI c F hb hr hg ha hdb he hpl
theorem r_raiseI {C : Addr} {f : Str} {E : XK} {t : TA} {D : Ends} {σ : L2.St} {H : Hp} (h : t σ H fun vs H1 => ∃ i : Int, vs = [.int i] ∧ i.natAbs.log2 < 1900 ∧ ∀ d, H1 d = none → E (.ref C) (some d) (upd H1 d (.xd [(f, .int i)]))) : tRaiseI C f E t D σ H := h
theorem r_base {C : Addr} {t : TA} {σ : L2.St} {H : Hp} {Q : VK} (h : t σ H fun vs H1 => ∃ e u, vs = [.ref e, u] ∧ H1 e = some (XB e C none) ∧ Q .non H1) : tBase C t σ H Q := h
theorem r_fst2 {x : Str} {tv : TE} {σ : L2.St} {H : Hp} {Q : VK} (h : tv σ H fun u H1 => ∃ i, u = .int i ∧ i.natAbs.log2 < 1900 ∧ Q (.str (Str.empty ++ x ++ Str.ofString (toString i))) H1) : tFst2 x tv σ H Q := h
theorem r_sX {K : PySem.W.Frag} {ta tv : TE} {f : Str} {D : Ends} {σ : L2.St} {H : Hp} (h : tv σ H fun y H1 => ta σ H1 fun x H2 => ∃ a C, x = .ref a ∧ H2 a = some (XB a C none) ∧ ExcS K C f ∧ ∀ d, H2 d = none → D.nx σ (upd (upd H2 d (.xd [(f, y)])) a (XB a C (some d)))) : sX K ta tv f D σ H := h
theorem log_small {i : Int} (h1 : -(2 ^ 62) ≤ i) (h2 : i < 2 ^ 62) : i.natAbs.log2 < 1900 := by
  have h3 : i.natAbs < 2 ^ 63 := by omega
  by_cases h0 : i.natAbs = 0
  · rw [h0]; decide
  · have := (Nat.log2_lt h0).mpr h3
    omega
end L3
namespace L3
open PySem PySem.Spec PyProof.Rows L2 PySem.SeqAt
theorem r_bSet {i : Nat} {tx : TEX} {D : Ends} {Ew : XK} {σ : L2.St} {H : Hp} (h : tx σ H (fun v H2 => D.nx (σ.set i (some v)) H2) Ew) : bSet i tx D Ew σ H := h
theorem r_xCall {sp : Sp} {t : TA} {σ : L2.St} {H : Hp} {Q : VK} {Ew : XK} (h : t σ H fun vs H1 => sp vs H1 Q Ew) : xCall sp t σ H Q Ew := h
end L3
namespace L3
open PySem PySem.Spec PyProof.Rows L2 PySem.SeqAt

section
variable {prog : Program} {w : World} {A : Around} {E : Value → Shared → Prop} {s : Shared}
theorem lri_no_len : typeLookup (.type "list_reverseiterator") "__len__" = pure none := by rw [typeLookup_type, builtinLookup_eq_fast]; kernel_rfl
theorem lri_hint : typeLookup (.type "list_reverseiterator") "__length_hint__" = pure (some (.builtin "list_reverseiterator.__length_hint__")) := by rw [typeLookup_type, builtinLookup_eq_fast]; kernel_rfl
theorem hint_rev {it l : Addr} {i : Int} {Q : Bool → Shared → Prop} (hit : s.heap.IsRevIter it l i) (h : Q false s) : wpAny (model prog w) A (Builtin.List.listLengthHint (.ref it)) Q E s := by
  unfold Builtin.List.listLengthHint
  refine wpAny_bind (wpAny_specialOf hit.typeIs lri_no_len ?_)
  show wpAny _ _ (specialOf (Value.ref it) (Str.ofString "__length_hint__") >>= _) _ _ _
  refine wpAny_bind (wpAny_specialOf hit.typeIs lri_hint ?_)
  generalize hid : ("list_reverseiterator.__length_hint__" : String) = id0
  wp_delta
  rw [show splitId id0 = some ("list_reverseiterator", "__length_hint__") from by subst hid; decide +kernel]
  subst hid
  refine wpAny_bind (wpAny_isInstance (T := "list_reverseiterator") (b := true) hit.typeIs (by rw [isSubtype_type]; kernel_rfl) ?_)
  refine wpAny_ite_split (fun hab => absurd hab (by decide)) (fun _ => ?_)
  refine wpAny_ite_split (fun _ => ?_) (fun hab => absurd (by decide +kernel) hab)
  refine wpAny_ite_split (fun hab => absurd hab (by decide +kernel)) (fun _ => ?_)
  exact wpAny_pure h
theorem extend_rev {R : Result → Shared → Prop} (hh : A.handled = none) {I l : Addr} {items : Array Value} (hne : l ≠ I) (hit : s.heap.IsRevIter I l ((items.size : Int) - 1)) (hl : s.heap.IsList l items) (S : Addr) (res : Value) (c₀ : Nat) (hSI : S ≠ I) (hSl : S ≠ l)
    (hS : s.heap.get? S = some { cls := .type "list", data := .seq #[] c₀ })
    (hR : ∀ h' tk acc' c', (∀ b o, b ≠ S → b ≠ I → s.heap.get? b = some o → h'.get? b = some o) → h'.get? S = some { cls := .type "list", dict := none, data := .seq acc' c', slots := #[] } →
      ItemsOf (fun i v => items[items.size - 1 - i]? = some v) acc' items.size → R (.ok (.ret res)) { s with heap := h', toks := tk }) (hn : items.size ≤ sizeLine) :
    wpAny (model prog w) A.in1 (Builtin.List.listExtendWith (.ref S) (.ref I) res)
      (fun fin s' => match fin with | .done f => R (.ok f) s' | .again c' => c'.quiet = true ∧ codeAny (model prog w) A c' R s') (fun e s' => R (.error e) s') s := by
  have W := (Walks.listRev (prog := prog) (w := w) (A := A.in1) hh I l hne items).toS
  have hSf : S ∉ [I, l] := fun hm => by
    rcases List.mem_cons.mp hm with e | e
    · exact hSI e
    · exact hSl (List.mem_singleton.mp e)
  unfold Builtin.List.listExtendWith
  refine wpAny_bind (wpAny_typeOf hit.typeIs ?_)
  have h1 : Builtin.List.listSameRef (.ref S) (.ref I) = false := by simp [Builtin.List.listSameRef, hSI]
  have h2 : (Value.type "list_reverseiterator" == Value.type "list") = false := by decide
  have h3 : (Value.type "list_reverseiterator" == Value.type "tuple") = false := by decide
  simp only [h1, h2, h3, Bool.or_false, Bool.false_eq_true, if_false]
  refine wpAny_bind (wpAny_pyIter_revIter hit ?_)
  refine wpAny_bind (wpAny_holding (hint_rev hit ?_))
  rw [if_neg (by decide)]
  refine wpAny_pure ⟨plainId_quiet F.plain_extend_loop _, codeAny_extend_loopS W hn _ hSf _ items.size 0 _ _ _ rfl (Nat.zero_le _) ⟨Nat.zero_le _, by simpa using hit, hl⟩ hS (ItemsOf.nil _) fun s' acc' c' hm hS' hacc => ?_⟩
  rw [Moved.eq_with hm]
  refine hR s'.heap s'.toks acc' c' (fun b ob hb hb2 e => hm.heap b ob (fun hmem => ?_) e) hS' hacc
  rcases List.mem_cons.mp hmem with e' | hmem
  · exact hb e'
  · exact hb2 (List.mem_singleton.mp hmem)
theorem call_list_rev {Q : Value → Shared → Prop} (hh : A.handled = none) {I l : Addr} {items : Array Value} (hne : l ≠ I) (hit : s.heap.IsRevIter I l ((items.size : Int) - 1)) (hl : s.heap.IsList l items)
    (hQ : ∀ h' tk acc' c', (∀ b o, b ≠ I → s.heap.get? b = some o → h'.get? b = some o) →
      h'.get? s.heap.objs.size = some { cls := .type "list", dict := none, data := .seq acc' c', slots := #[] } → ItemsOf (fun i v => items[items.size - 1 - i]? = some v) acc' items.size → Q (.ref s.heap.objs.size) { s with heap := h', toks := tk }) (hn : items.size ≤ sizeLine) :
    wpAny (model prog w) A (call (.type "list") [.ref I]) Q E s := by
  refine callType_codes (Q₁ := fun obj s₁ => obj = .ref s.heap.objs.size ∧ s₁ = { s with heap := s.heap.push { cls := .type "list", data := .seq #[] } }) F.called_list (F.typeCall_list_1 _) F.entry_list_init
    (code_list_new _ ⟨rfl, rfl⟩) fun obj s₁ h₁ => ?_
  obtain ⟨rfl, rfl⟩ := h₁
  obtain ⟨oi, hoi, _⟩ := id hit
  obtain ⟨ol, hol, _⟩ := id hl
  have hSI : s.heap.objs.size ≠ I := fun e => absurd (Heap.lt_size hoi) (by rw [← e]; exact Nat.lt_irrefl _)
  have hSl : s.heap.objs.size ≠ l := fun e => absurd (Heap.lt_size hol) (by rw [← e]; exact Nat.lt_irrefl _)
  have hS : (s.heap.push { cls := .type "list", data := .seq #[] }).get? s.heap.objs.size = some { cls := .type "list", data := .seq #[] } := Heap.get?_push_size _ rfl
  refine ⟨⟨_, hS, rfl⟩, F.args_list_init_2 _ _, ?_⟩
  show wpAny _ _ (do let old ← Builtin.List.listItems (.ref s.heap.objs.size); Builtin.List.listUpdate (.ref s.heap.objs.size) (fun _ => #[]); letGo old.toList.reverse; Builtin.List.listExtendWith (.ref s.heap.objs.size) (.ref I) .none) _ _ _
  refine wpAny_bind ?_
  unfold Builtin.List.listItems
  refine wpAny_bind (wpAny_seqItems hS rfl (wpAny_pure ?_))
  show wpAny _ _ (updateSeq s.heap.objs.size (fun _ => #[]) >>= fun _ => letGo (#[] : Array Value).toList.reverse >>= fun _ => Builtin.List.listExtendWith (.ref s.heap.objs.size) (.ref I) .none) _ _ _
  refine wpAny_bind (wpAny_updateSeq hS rfl ?_)
  have hS₂ := Heap.get?_update_self (Obj.mapSeq (fun _ => (#[] : Array Value))) hS rfl
  have oth : ∀ b o, b ≠ s.heap.objs.size → s.heap.get? b = some o → ((s.heap.push { cls := .type "list", data := .seq #[] }).update s.heap.objs.size (Obj.mapSeq (fun _ => (#[] : Array Value)))).get? b = some o :=
    fun b o hb e => (Heap.get?_update_other _ _ (Ne.symm hb)).trans (Heap.get?_push_of_some _ e)
  refine wpAny_bind (wpAny_letGo ?_)
  refine extend_rev (A := A.in1) hh hne (hit.at fun o e => oth I o (Ne.symm hSI) e) (hl.at fun o e => oth l o (Ne.symm hSl) e) _ .none _ hSI hSl hS₂ (fun h' tk acc' c' hk hS' hacc => ?_) hn
  exact ⟨rfl, hQ h' tk acc' c' (fun b o hb e => hk b o (Nat.ne_of_lt (Heap.lt_size e)) hb (oth b o (Nat.ne_of_lt (Heap.lt_size e)) e)) hS' hacc⟩
end
def tRevL (K : PySem.W.Frag) (te : TE) : TE := fun σ H Q => te σ H fun x H1 => ∃ p ys, x = .ref p ∧ SqL K H1 p ys ∧ ∀ l, H1 l = none → Q (.ref l) (upd H1 l (.lst ys.reverse))
theorem r_revL {K : PySem.W.Frag} {te : TE} {σ : L2.St} {H : Hp} {Q : VK} (h : te σ H fun x H1 => ∃ p ys, x = .ref p ∧ SqL K H1 p ys ∧ ∀ l, H1 l = none → Q (.ref l) (upd H1 l (.lst ys.reverse))) : tRevL K te σ H Q := h
theorem r_revV {K : PySem.W.Frag} {p : Addr} {ys : List V} {H : Hp} {R : Addr → Hp → Prop} (h : SqL K H p ys) (q : ∀ l, H l = none → R l (upd H l (.lst ys.reverse))) : ∃ p' ys, V.ref p = .ref p' ∧ SqL K H p' ys ∧ ∀ l, H l = none → R l (upd H l (.lst ys.reverse)) := ⟨p, ys, rfl, h, q⟩
theorem vals_rev : ∀ {ys : List V} {its : List Value}, Vals ys its → Vals ys.reverse its.reverse
  | [], _, .nil => .nil
  | y :: ys, _, .cons r h => by
    rw [List.reverse_cons, List.reverse_cons]
    exact (vals_rev h).append (.cons r .nil)
theorem items_rev {its : List Value} {acc : Array Value} (h : ItemsOf (fun i v => its.toArray[its.toArray.size - 1 - i]? = some v) acc its.toArray.size) : acc = its.reverse.toArray := by
  obtain ⟨hz, hi⟩ := h
  have hz' : acc.size = its.length := by rw [hz]; simp
  apply Array.ext
  · simp [hz']
  · intro i h1 h2
    have hi1 := hi i acc[i] (Array.getElem?_eq_getElem h1)
    have hl : i < its.length := by omega
    have e : its.reverse[i]? = some acc[i] := by
      rw [List.getElem?_reverse hl]
      simpa using hi1
    have h3 : i < its.reverse.length := by rw [List.length_reverse]; exact hl
    rw [List.getElem?_eq_getElem h3] at e
    injection e with e
    simpa using e.symm
theorem b_reversed : bootBuiltins "reversed" = some (.type "reversed") := by decide +kernel
theorem pe_revl {X : Cx} {K : PySem.W.Frag} {e : Expr} {te : TE} {p1 p2 pos1 pos2 : Pos} (hK : X.K = K) (hc : X.calm = true) (hg1 : Gl X "list") (hm1 : X.mg "list" = none) (hg2 : Gl X "reversed") (hm2 : X.mg "reversed" = none) (he : PE X e te)
    (hs1 : starEach [Expr.Call (.Name "reversed" p2) [e] [] pos2] X.env = [(false, eval (Expr.Call (.Name "reversed" p2) [e] [] pos2) X.env)] := by rfl) (hs2 : starEach [e] X.env = [(false, eval e X.env)] := by rfl) :
    PE X (.Call (.Name "list" p1) [.Call (.Name "reversed" p2) [e] [] pos2] [] pos1) (tRevL K te) := by
  subst hK
  intro pins s σ H Q I h
  refine wpAny_Call_Name_kw (ld_blt I hg1 hm1 b_list ?_)
  refine PyProof.Rows.callWith_type1 ?_ hs1 rfl
  rw [hs1]
  show wpAny _ _ (spliced [(false, eval (Expr.Call (.Name "reversed" p2) [e] [] pos2) X.env)]) _ _ s
  refine Calls.spliced_cons ?_
  refine wpAny_Call_Name_kw (ld_blt I hg2 hm2 b_reversed ?_)
  refine PyProof.Rows.callWith_type1 ?_ hs2 rfl
  rw [hs2]
  show wpAny _ _ (spliced [(false, eval e X.env)]) _ _ s
  refine Calls.spliced_cons (thn (he pins s σ H _ I h) fun u s1 ⟨x, H1, I1, r1, p, ys, ex, hq, q1⟩ => ?_)
  subst ex
  cases (show u = Value.ref p from r1)
  refine Calls.spliced_nil ?_
  obtain ⟨its, rv, pl, hz⟩ := I1.list hq
  have hlen := rv.length
  have hil := pl.isList
  refine call_reversed_list hil ?_
  refine Calls.spliced_nil ?_
  obtain ⟨ol, hol, _⟩ := id hil
  have hne : p ≠ s1.heap.objs.size := Nat.ne_of_lt (Heap.lt_size hol)
  refine call_list_rev (I := s1.heap.objs.size) (l := p) (items := its.toArray) (I1.ok.hd hc) hne ⟨_, Heap.get?_push_size _ rfl, rfl, rfl⟩ (hil.at fun o e => Heap.get?_push_of_some _ e) (fun h' tk acc' c' kp hS hacc => ?_) (by rw [List.size_toArray, ← hlen]; exact hz)
  have ea := items_rev hacc
  subst ea
  have hle : s1.heap.objs.size ≤ (s1.heap.push (revObj p ((its.toArray.size : Int) - 1))).objs.size := by rw [Heap.size_push]; exact Nat.le_succ _
  refine ⟨.ref _, upd H1 (s1.heap.push (revObj p ((its.toArray.size : Int) - 1))).objs.size (.lst ys.reverse), I1.laid (t' := tk) (fun b u eb => kp b u (Nat.ne_of_lt (Heap.lt_size eb)) (Heap.get?_push_of_some _ eb)) hle ?_, rfl, q1 _ (I1.hok.fresh hle)⟩
  exact ⟨by rw [List.length_reverse]; exact hz, its.reverse, c', vals_rev rv, hS⟩
end L3
namespace L3
open PySem PySem.Spec PyProof.Rows L2 PySem.SeqAt
section
variable {M : Model} {A : Around} {E : Value → Shared → Prop}
variable {nm q : Str} {D N : Addr} {bs bm : List Value} {hdct : Bool} {sn : List Str} {sub : List Value} {ab : Bool} {col : Option Bool} {dd : Option Addr} {k0 k1 k2 k3 k5 : Option Value} {newId : String}

end
section
variable {X : Cx} {pins : List (Addr × Obj)} {σ : St} {H H1 H' : Hp} {s s1 s' : Shared} {ea C : Addr}
end
end L3
namespace L3
open PySem PySem.Spec PyProof.Rows L2

section
variable {prog : Program} {w : World} {A : Around} {E : Value → Shared → Prop} {s : Shared}
end
end L3
namespace L3
open PySem PySem.Spec PyProof.Rows L2
end L3
namespace L3
open PySem PySem.Spec PyProof.Rows L2 PySem.SeqAt

section
variable {X : Cx} {k : Nat} {x m : Str} {e o : Expr} {es : List Expr} {ta : TE} {t : TA} {apos cpos pos py : Pos}
end
end L3
namespace L3
open PySem PySem.Spec PyProof.Rows L2 PySem.SeqAt

section
variable {X : Cx} {pins : List (Addr × Obj)} {σ : L2.St} {C fI : Addr}
def tTryDN (tb : TB) (C : Addr) (th : TS) : TS := fun D σ H => tb D (fun c od H2 => c = .ref C ∧ ∃ d, od = some d ∧ th { nx := fun σ' H' => D.nx σ' H', rt := fun v H' => D.rt v H' } σ H2) σ H
theorem ps_tryDN {body : List Stmt} {tb : TB} {x : Str} {np hpos pos : Pos} {b0 : Stmt} {suite : List Stmt} {th : TS} (hst : X.stack = X.env :: X.outer) (hfr : X.env.frame = some X.env.locals) (hc : X.calm = true)
    (hb : PBD X body tb) (c : ExcI X.K X.mg x C fI) (hg : Gl X x) (hs : ∀ ea, PSs (Cx.sup X ea []) (b0 :: suite) th) (hdb : (x == ("__debug__" : Str)) = false := by decide) :
    PS X (.Try body [.ExceptHandler (some (.Name x np)) none (b0 :: suite) hpos] [] [] pos) (tTryDN tb C th) := by
  intro pins s σ H D I0 h
  refine wpAny_Try_except (wpAny_mono (hb pins s σ H D _ I0 h) (fun f s1 q => ?_) fun ex s' q => ?_)
  · cases f with
    | next => exact wpAny_execs_nil q
    | brk => exact q
    | cont => exact q
    | ret u => exact q
  obtain ⟨ea, C', od, H1, s1, H', rfl, I, ⟨os, bare, fr, hz, h0, l, u, hok, hl, fl, up⟩, ec, d, ed, q⟩ := q
  cases ec
  subst ed
  have hh : X.calm = true → X.A.handled = none := I.ok.hd
  have fl' : FlyD (PySem.W.hideAll h0 l) (X.env :: X.outer) ea (.ref C) (some d) .none s'.heap := by rw [← hst]; exact fl
  refine noteD (by rw [← hst]; exact I.ok.frames) hfr fl' fun h4 held4 up4 => ?_
  refine flightD held4 fun h5 fl5 up5 => ?_
  have I5 : Inv X pins σ H' { s' with heap := h5 } := landed_at I os bare u hok hl fl5.1 ((up.trans up4).trans up5)
  obtain ⟨oe, vs, T, oT, ts, hoe, hoec, hoedd, hoed, _⟩ := fl5.2.2.2
  refine wpAny_handleBy_cons (codeAny_handlers_test (ld_glob (X := Cx.sup X ea []) (Inv.sup I5 (fun p hp => nomatch hp)) hg c.glob ?_ hdb)) (by intro z; cases z)
  obtain ⟨bm, N', nm, qn, bs, hd, sn, sub, ab, col, dd, k0, k1, k2, k3, k5, mN, o, hC, hNs, hni, TL, hf, hfc⟩ := c.obj I5.kIn
  refine wpAny_excMatches_sub_self hC hoe hoec (TL.hasType (by decide +kernel)) (codeAny_handlers_suite ?_)
  refine flightD fl5 fun h6 fl6 up6 => ?_
  have I6 : Inv (Cx.sup X ea []) pins σ H' { s' with heap := h6 } := Inv.sup (landed_at I os bare u hok hl fl6.1 (((up.trans up4).trans up5).trans up6)) fun p hp => nomatch hp
  refine wpAny_mono (hs ea pins _ σ H' _ I6 q) (fun f s8 q8 => ?_) fun _ _ z => z.elim
  cases f with
  | next =>
    obtain ⟨σ', H'', I8, q9⟩ := q8
    exact ⟨σ', H'', Inv.unsup I8 hh, q9⟩
  | brk => obtain ⟨_, _, _, z⟩ := q8; exact z.elim
  | cont => obtain ⟨_, _, _, z⟩ := q8; exact z.elim
  | ret v =>
    obtain ⟨v', σ', H'', I8, r8, q9⟩ := q8
    exact ⟨v', σ', H'', Inv.unsup I8 hh, r8, q9⟩
theorem r_tryDN {tb : TB} {C : Addr} {th : TS} {D : Ends} {σ : L2.St} {H : Hp} (h : tb D (fun c od H2 => c = .ref C ∧ ∃ d, od = some d ∧ th { nx := fun σ' H' => D.nx σ' H', rt := fun v H' => D.rt v H' } σ H2) σ H) : tTryDN tb C th D σ H := h
end
end L3
namespace L3
open PySem PySem.Spec PyProof.Rows L2 PySem.SeqAt

theorem tcE (a v : Value) : checkTypeCall "enumerate" ⟨[a], [("start", v)]⟩ = pure () := by kernel_rfl
theorem ncE (a v : Value) : checkBuiltinCall "enumerate.__new__" ⟨[.type "enumerate", a], [("start", v)]⟩ = pure () := by kernel_rfl
theorem aoE (obj a v : Value) : argsOk "object.__init__" ⟨[obj, a], [("start", v)]⟩ := by
  unfold argsOk; rw [signature?_of (id := "object.__init__") (n := ['_', '_', 't', 'i', 'n', 'i', '_', '_']) (o := ['t', 'c', 'e', 'j', 'b', 'o']) (by kernel_rfl) F.owner_object]; kernel_rfl
set_option maxHeartbeats 1000000 in
theorem newE (l : Addr) (items : Array Value) (n : Nat) (dct : Option Addr) (sl : Array (Option Value)) (k : Int) (t : Tok) (hk : Builtin.SmallTypes.fitsIndex k = true) :
    Meets (Builtin.«enumerate.__new__» ⟨[.type "enumerate", .ref l], [("start", .int k t)]⟩) (fun _ R s => s.heap.get? l = some { cls := .type "list", dict := dct, data := .seq items n, slots := sl } ∧
      R (.ok (.ret (.ref (s.heap.push { cls := .type "list_iterator", data := .fields #[.ref l, .int 0 0] }).objs.size)))
        { s with heap := (s.heap.push { cls := .type "list_iterator", data := .fields #[.ref l, .int 0 0] }).push { cls := .type "enumerate", data := .fields #[.none, .bool false, .ref s.heap.objs.size, rawInt k, .none, .none] } }) :=
  .of_wp fun prog w A R s h => by
    obtain ⟨hp, g, d, tk, os⟩ := s; obtain ⟨hl, h⟩ := h
    have hsub := sub_enumerate
    have hL : Heap.IsList (Shared.heap ⟨hp, g, d, tk, os⟩) l items := ⟨_, hl, rfl, n, rfl⟩
    have hk' : ¬ ((!Builtin.SmallTypes.fitsIndex k) = true) := by rw [hk]; decide
    wp_walk using AutoSeq1.wpAny_loadPart' hl
    refine wpAny_stack_any fun st => wpAny_pure ?_
    split
    · rename_i c _ _ _ _ _
      cases (c == Value.type "enumerate")
      · wp_walk using AutoSeq1.wpAny_loadPart' hl, wpAny_pyIter_list hL
        exact ⟨_, rfl, h⟩
      · wp_walk using AutoSeq1.wpAny_loadPart' hl, wpAny_pyIter_list hL
        exact ⟨_, rfl, h⟩
    · wp_walk using AutoSeq1.wpAny_loadPart' hl, wpAny_pyIter_list hL
      exact ⟨_, rfl, h⟩
theorem initE {self a v : Value} : Meets (Builtin.«object.__init__» ⟨[self, a], [("start", v)]⟩) (fun _ R s => s.TypeIs self "enumerate" ∧ R (.ok (.ret .none)) s) := by
  have hl := F.called_enumerate.init.lookup
  have hm := F.called_enumerate.made
  have hne : (some "enumerate.__new__" != some "object.__new__") = true := by decide
  refine Meets.of_wp fun prog w A R s hs => ?_
  obtain ⟨hT, hq⟩ := hs
  repeat (any_goals (first | assumption | wp_step))
  exact ⟨_, rfl, hq⟩
section
variable {prog : Program} {w : World} {A : Around} {E : Value → Shared → Prop} {s : Shared}
theorem callE {l : Addr} {items : Array Value} {k : Int} {t : Tok} {Q : Value → Shared → Prop} (hk : Builtin.SmallTypes.fitsIndex k = true) (hL : s.heap.IsList l items)
    (h : ∀ h', IsEnum h' (s.heap.objs.size + 1) s.heap.objs.size k .none → h'.IsListIter s.heap.objs.size l 0 → (∀ b o, s.heap.get? b = some o → h'.get? b = some o) → Q (.ref (s.heap.objs.size + 1)) { s with heap := h' }) :
    wpAny (model prog w) A (call (.type "enumerate") [.ref l] [("start", .int k t)]) Q E s := by
  obtain ⟨⟨c0, dct, dt, sl⟩, hl, hc0, n, hd0⟩ := hL
  replace hc0 : c0 = .type "list" := hc0
  replace hd0 : dt = .seq items n := hd0
  subst hc0 hd0
  have ft := F.called_enumerate
  obtain ⟨c, tl, hmro⟩ := ft.mro
  have hmade := ft.made
  have hsub := ft.sub
  have hct := tcE (.ref l) (.int k t)
  refine wpAny_call (codeAny_of_tree ?_)
  show wpAny _ _ (callAny (.type "enumerate") _) _ _ _
  refine wpAny_pure ⟨Code.quiet_builtin _ (by decide +kernel), codeAny_builtin F.entry_type_call ?_⟩
  rw [Around.under_plain (weight_type_call_type "enumerate" [.ref l] [("start", .int k t)]) (units_type_call_type "enumerate" [.ref l] [("start", .int k t)])]
  have h1 := ft.notType
  have h2 := ft.canCreate
  repeat (any_goals (first | assumption | wp_step))
  have hz : (s.heap.push { cls := .type "list_iterator", data := .fields #[.ref l, .int 0 0] }).objs.size = s.heap.objs.size + 1 := Heap.size_push ..
  refine codeAny_mono (codeAny_call_builtin ft.plain F.entry_enumerate_new (wpAny_of_eq (ncE _ _) (newE l items n dct sl k t hk prog w A.in1 (wants (fun obj s₁ => obj = .ref (s.heap.push { cls := .type "list_iterator", data := .fields #[.ref l, .int 0 0] }).objs.size ∧
    s₁ = { s with heap := (s.heap.push { cls := .type "list_iterator", data := .fields #[.ref l, .int 0 0] }).push { cls := .type "enumerate", data := .fields #[.none, .bool false, .ref s.heap.objs.size, rawInt k, .none, .none] } }) E) s ⟨hl, rfl, rfl⟩))) fun r s₁ hr => ?_
  cases r with
  | error e => exact hr
  | ok fl =>
    cases fl with
    | ret obj =>
      obtain ⟨eo, es⟩ := hr
      rw [hz] at eo
      subst eo es
      have he : IsEnum ((s.heap.push { cls := .type "list_iterator", data := .fields #[.ref l, .int 0 0] }).push
          { cls := .type "enumerate", data := .fields #[.none, .bool false, .ref s.heap.objs.size, rawInt k, .none, .none] }) (s.heap.objs.size + 1) s.heap.objs.size k .none := by
        have := Heap.get?_push_size (s.heap.push { cls := .type "list_iterator", data := .fields #[.ref l, .int 0 0] })
          (o := { cls := .type "enumerate", data := .fields #[.none, .bool false, .ref s.heap.objs.size, rawInt k, .none, .none] }) rfl
        rw [hz] at this; exact this
      have hT : Shared.TypeIs { s with heap := (s.heap.push { cls := .type "list_iterator", data := .fields #[.ref l, .int 0 0] }).push { cls := .type "enumerate", data := .fields #[.none, .bool false, .ref s.heap.objs.size, rawInt k, .none, .none] } } (.ref (s.heap.objs.size + 1)) "enumerate" := ⟨_, he, rfl⟩
      have hq := h _ he ⟨_, Heap.get?_push_of_some _ (Heap.get?_push_size _ rfl), rfl, rfl⟩ fun b o x => Heap.get?_push_of_some _ (Heap.get?_push_of_some _ x)
      have hli := ft.init.lookup
      have hbi := ft.init.bind (.ref (s.heap.objs.size + 1))
      repeat (any_goals (first | assumption | wp_step))
      refine codeAny_mono (codeAny_call_builtin ft.init.plain F.entry_object_init (ft.init.check _ _ _ _ _ _ _ _ hT (aoE _ _ _) (initE prog w A.in1 (wants (fun r s₂ => r = .none ∧ Q (.ref (s.heap.objs.size + 1)) s₂) E) _ ⟨hT, rfl, hq⟩))) fun r₂ s₂ hr₂ => ?_
      cases r₂ with
      | error e => exact hr₂
      | ok fl₂ =>
        cases fl₂ with
        | ret r =>
          obtain ⟨rfl, hq⟩ := hr₂
          repeat (any_goals (first | assumption | wp_step))
        | _ => exact hr₂.elim
    | _ => exact hr.elim
end

theorem draws_shift {prog : Program} {w : World} {A : Around} {it : Addr} {fp : List Addr} {n : Nat} {P : Nat → Value → Prop} {St : Nat → Heap → Prop} (D : Draws prog w A it fp n P St) :
    Draws prog w A it fp (n + 1) (fun i v => match i with | 0 => False | j + 1 => P j v) (fun i h => match i with | 0 => False | j + 1 => St j h) where
  live := fun i h st => match i, st with | j + 1, st => D.live j h st
  frame := fun i h h' st k => match i, st with | j + 1, st => D.frame j h h' st k
  item := fun i s Q E hi st hQ => match i, hi, st, hQ with | j + 1, hi, st, hQ => D.item j s Q E (by omega) st hQ
  done := fun s Q E st hE => D.done s Q E st hE
def ItE (K : PySem.W.Frag) (a : Addr) : It :=
  ⟨fun i H => ∃ xs x, SqL K H a xs ∧ xs[i]? = some x,
   fun i H v H' => ∃ T x, v = .ref T ∧ H T = none ∧ H' = upd H T (.tup [.int ((i : Int) + 1), x]) ∧ ∀ xs, SqL K H a xs → xs[i]? = some x,
   fun i H => ∃ xs, SqL K H a xs ∧ xs.length ≤ i⟩
theorem turn_enum {P : Program} {w : World} {K : PySem.W.Frag} {es : List Expr} {n : Nat} {pos : Pos} {a e it : Addr} (n1 : e ≠ it) (n2 : e ≠ a) (n3 : a ≠ it) :
    Turn P w K (.Tuple es n pos) (ItE K a) [e, it] e (fun i h => (∃ old, IsEnum h e it ((i : Int) + 1) old) ∧ h.IsListIter it a i) where
  mem := by simp
  obj := fun i h st c hc => by
    obtain ⟨⟨old, he⟩, ⟨o1, e1, _, d1⟩⟩ := st
    have hc : c = e ∨ c = it := by simpa using hc
    rcases hc with rfl | rfl
    · exact ⟨_, he, fun v z => by cases z⟩
    · exact ⟨_, e1, fun v z => by rw [d1] at z; cases z⟩
  keep := fun i h h' st k => by
    obtain ⟨⟨old, he⟩, h1⟩ := st
    exact ⟨⟨old, k e (by simp) _ he⟩, h1.at fun o z => k it (by simp) o z⟩
  item := by
    intro X hP hw hK hc i pins s σ H E I hf st hg
    subst hP hw hK
    obtain ⟨⟨old, he⟩, h1⟩ := st
    obtain ⟨xs, x, hq1, hx⟩ := hg
    obtain ⟨its1, rv1, p1, _⟩ := I.list hq1
    obtain ⟨u, hu, ru⟩ := rv1.get hx
    have hlt : i < its1.length := (List.getElem?_eq_some_iff.mp hu).1
    refine wpAny_pyNext_enum_itemD (i := i + 1) (draws_shift (Draws.list (A := X.A.in1) (show X.A.in1.handled = none from I.ok.hd hc) it a n3 its1.toArray)) (by simpa using he) ⟨h1, p1.isList⟩ (by simpa using hlt) n1 (by simp [n1, n2]) fun u' h' tk hu' ho hst ht hz kk => ?_
    have e1 : u' = u := by
      have hu'' : its1.toArray[i]? = some u' := hu'
      simpa [hu] using hu''.symm
    subst e1
    refine ⟨_, rfl, wpAny_letOwnedTupleGo_enum ho fun h2' he2 s2 => ?_⟩
    have T0 : H s.heap.objs.size = none := I.hok.fresh (Nat.le_refl _)
    have te : s.heap.objs.size ≠ e := Nat.ne_of_gt (Heap.lt_size he)
    have J : Inv X pins σ (upd H s.heap.objs.size (.tup [.int ((i : Int) + 1), x])) { s with heap := h2' } := by
      refine inv_turns (ch := [e, it]) I hf (Nat.le_refl _) (fun c o hc z => ?_) (fun c hc => ?_) ?_
      · have c1 : c ≠ e := fun q => hc (by simp [q])
        exact s2.extBut _ _ c1 (kk c o c1 (fun q => hc (by simp [q])) z)
      · have hc : c = e ∨ c = it := by simpa using hc
        rcases hc with rfl | rfl
        · exact ⟨_, he2⟩
        · obtain ⟨o, z, _⟩ := hst.1; exact ⟨o, s2.extBut _ _ n1.symm z⟩
      · exact ⟨by show 2 ≤ sizeLine; decide, [.int ((i : Int) + 1) tk, u'], .cons ⟨_, rfl⟩ (.cons ru .nil), ⟨_, s2.extBut _ _ te (by simpa using ht), rfl, _, rfl⟩⟩
    refine ⟨.ref s.heap.objs.size, _, J.tok _, rfl, ⟨_, x, rfl, T0, rfl, fun xs' q1 => by rw [I.list_inj q1 hq1]; exact hx⟩, ⟨⟨_, by simpa using he2⟩, hst.1.at fun o z => s2.extBut _ _ n1.symm z⟩, fun c hc => ?_⟩
    have hlt : c < s.heap.objs.size := by
      have hc : c = e ∨ c = it := by simpa using hc
      rcases hc with z | z <;> rw [z]
      · exact Heap.lt_size he
      · obtain ⟨o, z, _⟩ := h1; exact Heap.lt_size z
    rw [upd_ne (Nat.ne_of_lt hlt)]; exact (hf c hc).1
  done := by
    intro X hP hw hK hc i pins s σ H E I hf st hg
    subst hP hw hK
    obtain ⟨⟨old, he⟩, h1⟩ := st
    obtain ⟨xs, hq1, hl⟩ := hg
    obtain ⟨its1, rv1, p1, _⟩ := I.list hq1
    have l1 := rv1.length
    have hge : its1.length ≤ i := by omega
    have D : Draws X.prog X.w X.A.in1 it [it, a] 0 (fun _ _ => False) (fun _ h => h.IsListIter it a i ∧ h.IsList a its1.toArray) :=
      ⟨fun _ _ st => let ⟨o, ho, _⟩ := st.1; ⟨o, ho⟩, fun _ _ _ st hk => ⟨st.1.at fun o z => hk it (by simp) o z, st.2.at fun o z => hk a (by simp) o z⟩, fun j s Q E hj => absurd hj (Nat.not_lt_zero _),
        fun s Q E st hE => wpAny_nextOf_list_end (show X.A.in1.handled = none from I.ok.hd hc) st.1 st.2 (by simp; omega) hE⟩
    refine wpAny_pyNext_enum_endD D he ⟨h1, p1.isList⟩ fun h' hx => ⟨rfl, ?_⟩
    have hnc : ∀ c o, c ∉ [e, it] → s.heap.get? c = some o → h'.get? c = some o := fun c o hc z => hx c o (fun q => hc (by simp [q])) z
    refine I.call' (s' := { s with heap := h' }) (ch := [e, it]) rfl ⟨fun b o z _ _ hc => hnc b o hc z, fun b o z _ _ hc => ⟨o.slots, hnc b o hc z⟩, fun b o z n _ => n, fun b o z hc => ⟨o, hnc b o hc z⟩, fun _ _ z => z, fun _ _ _ z => z, fun b ps z => ⟨#[], by rw [z]; simp⟩⟩ (fun b u z => ?_) I.bare ?_
    · have nc : ∀ b u, H b = some u → b ∉ [e, it] := fun b u z hb => by rw [(hf b hb).1] at z; cases z
      refine (I.hok b u z).stay (fun c v hc q => hnc c v ?_ q) (fun _ q => q) fun _ _ q => q
      rcases hc with q | q
      · rw [q]; exact nc b u z
      · exact nc c _ q
    · intro b hb
      obtain ⟨f0, f1, f2, f3, f4, f5⟩ := hf b hb
      exact ⟨f3, f1, f4, f5⟩
  self := fun _ _ _ _ _ st h => by
    obtain ⟨⟨old, he⟩, _⟩ := st
    exact wpAny_pyIter_enum he h
section
variable {M : Model} {A : Around} {E : Value → Shared → Prop} {s : Shared}
theorem callWith_tyKw {pos : Pos} {T : String} {first : List Value} {args : List (Bool × Sem Value)} {keywords : List (Option Str × Sem Value)} {Q : Value → Shared → Prop}
    (hplain : args.any (·.1) = false) (hkw : keywords.any (·.1.isNone) = false)
    (h : wpAny M A (evalArgs (.type T) true args keywords) (fun a s₁ => wpAny M A (call (.type T) (first ++ a.pos) a.kw) Q E s₁) E s) : wpAny M A (callWith pos (.type T) first args keywords) Q E s := by
  unfold callWith
  refine wpAny_bind (wpAny_holding (wpAny_mono h (fun a s₁ h₁ => wpAny_bind (wpAny_standAt ?_)) fun _ _ x => x))
  simp only [hplain, hkw, Bool.or_false]
  refine wpAny_bind (wpAny_pure ?_)
  exact wpAny_bind (wpAny_mono h₁ (fun r s₂ hr => wpAny_bind (wpAny_holding (wpAny_point (wpAny_pure hr)))) fun _ _ x => x)
end
theorem b_enumerate : bootBuiltins "enumerate" = some (.type "enumerate") := by decide +kernel
def iEnum (K : PySem.W.Frag) (ta : TA) (tv : TE) : TI := fun σ H R => ta σ H fun vs H1 => tv σ H1 fun v H2 => ∃ a xs, vs = [.ref a] ∧ v = .int 1 ∧ SqL K H2 a xs ∧ R (ItE K a) H2
theorem pi_enum {X : Cx} {K : PySem.W.Frag} {es : List Expr} {n : Nat} {tpos : Pos} {a v : Expr} {ta : TA} {tv : TE} {p pos kp : Pos} (hK : X.K = K) (hg : Gl X "enumerate") (hm : X.mg "enumerate" = none) (ha : PA X [a] ta) (hv : PE X v tv)
    (he : backTo pos (starEach [a] X.env) = [(false, eval a X.env)] := by rfl) :
    PI X (.Tuple es n tpos) (.Call (.Name "enumerate" p) [a] [⟨some "start", v, kp⟩] pos) (iEnum K ta tv) := by
  subst hK
  intro pins s σ H R I h
  refine wpAny_Call_Name_kw (ld_blt I hg hm b_enumerate ?_)
  refine callWith_tyKw (by rw [he]; rfl) rfl ?_
  have hargs := ha pos pins s σ H _ I h
  rw [he] at hargs ⊢
  refine evalArgs_kwB rfl (thn hargs fun us s1 ⟨vs, H1, I1, r1, q1⟩ => ?_)
  refine kws_cons (thn (hv pins s1 σ H1 _ I1 q1) fun u s2 ⟨y, H2, I2, ry, q2⟩ => kws_nil ?_)
  obtain ⟨l, xs, e1, e2, hx, q⟩ := q2
  subst e1 e2
  obtain ⟨t, rfl⟩ := ry
  cases r1 with
  | cons r rr =>
    cases rr
    cases r
    obtain ⟨its1, rv1, p1, _⟩ := I2.list hx
    have lx : l < s2.heap.objs.size := (by obtain ⟨o, n, e, _⟩ := p1; exact Heap.lt_size e)
    refine callE (by decide) (p1.isList) fun h' z1 z2 kk => ?_
    refine wpAny_pyIter_enum z1 ⟨_, [s2.heap.objs.size + 1, s2.heap.objs.size], _, _, H2, rfl, I2.kept (t' := s2.toks) kk, turn_enum (Nat.succ_ne_self _) (Nat.ne_of_gt (Nat.lt_succ_of_lt lx)) (Nat.ne_of_lt lx), ⟨⟨_, by simpa using z1⟩, z2⟩, fun c hc => ?_, q⟩
    have hc : c = s2.heap.objs.size + 1 ∨ c = s2.heap.objs.size := by simpa using hc
    have hge : s2.heap.objs.size ≤ c := by rcases hc with e | e <;> rw [e] <;> first | exact Nat.le_succ _ | exact Nat.le_refl _
    exact I2.fpOk hge (I2.hok.fresh hge)
theorem r_enum {K : PySem.W.Frag} {ta : TA} {tv : TE} {σ : L2.St} {H : Hp} {R : It → Hp → Prop} (q : ta σ H fun vs H1 => tv σ H1 fun v H2 => ∃ a xs, vs = [.ref a] ∧ v = .int 1 ∧ SqL K H2 a xs ∧ R (ItE K a) H2) : iEnum K ta tv σ H R := q
end L3

namespace FB
open PySem PySem.Spec PyProof.Rows L2 L3 PySem.SeqAt
local macro_rules | `(tactic| walk_at "clok") => `(tactic| repeat (first | exact True.intro | refine ⟨rfl, ?_⟩))
local macro_rules | `(tactic| walk_at "frok") => `(tactic| repeat (first | exact True.intro | refine ⟨⟨rfl, (by first | exact Or.inl rfl | exact Or.inr rfl), (by first | exact Or.inl rfl | exact Or.inr rfl), rfl⟩, ?_⟩))
local macro_rules | `(tactic| walk_at "hlk") => `(tactic| first | (with_reducible assumption) | (exact upd_same) | ((with_reducible refine' look_new ?x ?y); (case y => with_reducible assumption); (case x => walk_at "hlk")) | ((fail_if_success (((with_reducible refine' look_new ?x ?y); (case y => with_reducible assumption)))); (with_reducible refine' look_ne ?x ?y); (case x => walk_at "ne"); (case y => walk_at "hlk")) | ((with_reducible refine' same_at ?x ?y); (case x => with_reducible assumption); (case y => walk_at "hlk")))
local macro_rules | `(tactic| walk_at "ne") => `(tactic| first | (with_reducible assumption) | (apply Ne.symm; (with_reducible assumption)) | ((with_reducible refine' ne_of_none ?x ?y); (case y => with_reducible assumption); (case x => walk_at "hlk")) | (apply Ne.symm; (with_reducible refine' ne_of_none ?x ?y); (case y => with_reducible assumption); (case x => walk_at "hlk")))
local macro_rules | `(tactic| walk_at "sql") => `(tactic| first | (with_reducible assumption) | (refine' SqL.of ?x; (case x => first | (with_reducible assumption) | (exact upd_same))) | ((with_reducible refine' sql_new ?x ?y); (case y => with_reducible assumption); (case x => walk_at "sql")) | ((fail_if_success (((with_reducible refine' sql_new ?x ?y); (case y => with_reducible assumption)))); first | ((with_reducible refine' sql_upd ?s ?h ?q); (case h => with_reducible assumption); (case s => walk_at "same"); (case q => walk_at "sql")) | (refine' SqL.of ?x; (case x => (with_reducible refine' look_ne ?x2 ?y2); (case x2 => walk_at "ne"); (case y2 => walk_at "hlk")))) | ((with_reducible refine' Same.seq ?x ?y); (case x => with_reducible assumption); (case y => walk_at "sql")))
local macro_rules | `(tactic| walk_at "sqt") => `(tactic| first | (with_reducible assumption) | (refine' SqT.of ?x; (case x => first | (with_reducible assumption) | (exact upd_same))) | ((with_reducible refine' sqt_new ?x ?y); (case y => with_reducible assumption); (case x => walk_at "sqt")) | ((fail_if_success (((with_reducible refine' sqt_new ?x ?y); (case y => with_reducible assumption)))); first | ((with_reducible refine' sqt_upd ?s ?h ?q); (case h => with_reducible assumption); (case s => walk_at "same"); (case q => walk_at "sqt")) | (refine' SqT.of ?x; (case x => (with_reducible refine' look_ne ?x2 ?y2); (case x2 => walk_at "ne"); (case y2 => walk_at "hlk")))) | ((with_reducible refine' SqT_same ?x ?y); (case x => with_reducible assumption); (case y => walk_at "sqt")))
local macro_rules | `(tactic| walk_at "lk") => `(tactic| first | (with_reducible exact look_hit) | (refine' look_of ?x ?y; (case x => decide +kernel); (case y => walk_at "lk")) | exact look_hit)
local macro_rules | `(tactic| walk_at "nolk") => `(tactic| first | (with_reducible rfl) | (refine' look_no ?x ?y; (case x => decide +kernel); (case y => walk_at "nolk")) | rfl)
local macro_rules | `(tactic| walk_at "fewf") => `(tactic| first | exact Nat.lt_of_le_of_lt (Nat.le_refl 0) (by decide) | exact Nat.lt_of_le_of_lt (len_of (Nat.le_refl 0)) (by decide) | exact Nat.lt_of_le_of_lt (len_of (len_of (Nat.le_refl 0))) (by decide) | exact Nat.lt_of_le_of_lt (len_of (len_of (len_of (Nat.le_refl 0)))) (by decide))
local macro_rules | `(tactic| walk_at "small") => `(tactic| first | exact Nat.le_of_ble_eq_true rfl | (show _ ≤ sizeLine; rw [sizeLine_eq]; first | omega | (simp only [List.length_map, List.length_cons, List.length_nil, List.length_append, List.length_replicate, List.length_set, List.length_range]; omega)))
local macro_rules | `(tactic| walk_at "r1") => `(tactic| with_reducible first
  | refine r_var (by with_unfolding_all rfl) ?_
  | refine r_c ?_ | refine r_op ?_ | refine r_I0 ?_ | refine r_plusI ?_ | refine r_seq ?_ | refine r_asg ?_ | (refine' r_gN ?x ?_; (case x => simp only [List.set_cons_succ, List.set_cons_zero]; rfl)) | refine r_ret ?_ | refine r_ifS ?_ | refine r_test ?_
  | refine r_cons ?_ | refine r_nil ?_ | refine r_cb ?_ | refine r_callE ?_ | refine r_makeE ?_ | refine r_methE ?_ | refine r_fld ?_ | refine r_tru ?_ | refine r_truB ?_ | refine r_truI ?_
  | refine r_not ?_ | refine r_and ?_ | refine r_or ?_ | refine r_next ?_ | refine r_drop ?_ | refine r_sFld ?_ | refine r_retN ?_ | refine r_un ?_ | refine r_U ?_ | refine r_if ?_
  | refine r_andV ?_ | refine r_orV ?_ | refine r_notV ?_ | refine r_sl ?_ | refine r_part ?_ | refine r_noPart ?_ | refine r_bm ?_ | refine r_bm0 ?_ | refine r_tup ?_ | refine r_lst ?_ | refine r_two ?_
  | (refine' r_compE' ?x ?_; (case x => with_unfolding_all rfl)) | (refine' r_compS' ?x ?_; (case x => with_unfolding_all rfl)) | refine r_for ?_ | refine r_iSeq ?_ | refine r_rng1 ?_ | refine r_rng2 ?_ | refine r_true ?_
  | refine r_isNr ?_ | refine r_isNn ?_ | refine r_isNi ?_ | refine r_notNr ?_ | refine r_notNn ?_ | refine r_notNi ?_
  | refine iteT ?_ | refine iteF ?_ | refine iteNT ?_ | refine iteNF ?_
  | refine ⟨_, rfl, ?_⟩)
local macro_rules | `(tactic| walk_at "r2") => `(tactic| first
  | ((with_reducible refine' r_fldV ?h ?c ?n ?l ?_); (case h => walk_at "hlk"); (case c => walk_at "cls"); (case n => walk_at "noat"); (case l => walk_at "lk"))
  | ((with_reducible refine' r_sFldV ?h ?c ?n ?l ?_); (case h => walk_at "hlk"); (case c => walk_at "cls"); (case n => walk_at "noat"); (case l => walk_at "fewf"))
  | ((with_reducible refine' r_lenI ?h ?_); (case h => walk_at "sql"))
  | ((with_reducible refine' r_lenL ?h ?_); (case h => walk_at "sql"))
  | ((with_reducible refine' r_lenT ?h ?_); (case h => walk_at "sqt"))
  | ((with_reducible refine' r_listL ?h ?_); (case h => walk_at "sql"))
  | ((with_reducible refine' r_listT ?h ?_); (case h => walk_at "sqt"))
  | ((with_reducible refine' r_eqS ?h ?_); (case h => rfl))
  | ((with_reducible refine' r_neS ?h ?_); (case h => rfl)))
local macro_rules | `(tactic| walk_at "none") => `(tactic| first | (with_reducible assumption) | ((with_reducible refine' none_same ?x ?y); (case y => with_reducible assumption); (case x => walk_at "same")))
local macro_rules | `(tactic| walk_at "same") => `(tactic| first | (with_reducible assumption) | (with_reducible exact Same.refl _) | ((with_reducible refine' same_none ?x ?y); (case y => with_reducible assumption); (case x => walk_at "same")) | ((fail_if_success (((with_reducible refine' same_none ?x ?y); (case y => with_reducible assumption)))); (with_reducible refine' same_upd ?x ?y); (case y => walk_at "none"); (case x => walk_at "same")) | ((with_reducible refine' Same.trans ?x ?y); (case y => with_reducible assumption); (case x => walk_at "same")))
local macro_rules | `(tactic| walk_at "tt") => `(tactic| first | assumption | omega | with_unfolding_all rfl | decide | (simp only [List.length_map, List.length_cons, List.length_nil, List.length_append, List.length_replicate, List.length_set, sI_len]; omega))
local macro_rules | `(tactic| walk_at "nn") => `(tactic| first | assumption | omega | decide | (simp only [List.length_map, List.length_cons, List.length_nil, List.length_append, List.length_replicate, List.length_set, sI_len]; omega))
local macro_rules | `(tactic| walk_at "cond") => `(tactic| first
  | ((with_reducible refine' r_I ?h ?_); (case h => first | exact ⟨by decide, by decide⟩ | (show (0 : Int) < _; first | decide | omega) | (show (0 : Int) ≤ _; first | decide | omega)))
  | ((with_reducible refine' r_ifB ?x ?_); (case x => intro hh; exact absurd hh (by decide)); intro _)
  | ((with_reducible refine' r_ifB ?_ ?x); (case x => intro hh; exact absurd hh (by decide)); intro _)
  | ((with_reducible refine' ifInt ?x ?_); (case x => intro hh; exact absurd hh (by walk_at "nn")); intro _)
  | ((with_reducible refine' ifInt ?_ ?x); (case x => intro hh; exact absurd (by walk_at "tt") hh); intro _)
  | ((with_reducible refine' ifIntN ?x ?_); (case x => intro hh; exact absurd (by walk_at "tt") hh); intro _)
  | ((with_reducible refine' ifIntN ?_ ?x); (case x => intro hh; exact absurd hh (by walk_at "nn")); intro _)
  | ((with_reducible refine' ifDec ?x ?_); (case x => intro hh; exact absurd hh (by walk_at "nn")); intro _)
  | ((with_reducible refine' ifDec ?_ ?x); (case x => intro hh; exact absurd (by walk_at "tt") hh); intro _)
  | ((with_reducible refine' ifDecN ?x ?_); (case x => intro hh; exact absurd (by walk_at "tt") hh); intro _)
  | ((with_reducible refine' ifDecN ?_ ?x); (case x => intro hh; exact absurd hh (by walk_at "nn")); intro _))
local macro_rules | `(tactic| walk_at "at") => `(tactic| first | assumption | ((with_reducible refine' gI_at ?x ?y); (case x => walk_at "tt"); (case y => walk_at "tt")) | ((with_reducible refine' gI_neg ?x ?y); (case x => walk_at "tt"); (case y => walk_at "tt")) | rfl)
local macro_rules | `(tactic| walk_at "calls") => `(tactic| first
  | ((with_reducible refine' r_bounded ?a ?b ?_); (case a => omega); (case b => omega))
  | ((with_reducible refine' r_withBox ?h ?a ?b ?_); (case h => walk_at "sql"); (case a => omega); (case b => omega))
  | ((with_reducible refine' r_cellAt ?h ?a ?_); (case h => walk_at "sql"); (case a => omega))
  | (with_reducible refine r_whole ?_) | (with_reducible refine r_without ?_) | (with_reducible refine r_filled ?_)
  | ((with_reducible refine' r_boxPl ?a ?b ?_); (case a => omega); (case b => omega))
  | ((with_reducible refine' r_cellPl ?a ?b ?c ?_); (case a => omega); (case b => omega); (case c => omega))
  | ((with_reducible refine' r_setI ?x ?y ?z ?_); (case x => walk_at "hlk"); (case y => walk_at "tt"); (case z => walk_at "tt"))
  | ((with_reducible refine' r_setIN ?x ?y ?z ?_); (case x => walk_at "hlk"); (case y => walk_at "tt"); (case z => walk_at "tt"))
  | ((with_reducible refine' r_ixT ?h ?e ?_); (case h => walk_at "sqt"); (case e => walk_at "at"))
  | ((with_reducible refine' r_ixL ?h ?e ?_); (case h => walk_at "sql"); (case e => walk_at "at"))
  | (with_reducible refine r_gSub ?_))
local macro_rules | `(tactic| walk_at "ty") => `(tactic| first | (with_reducible exact TyOf.int _) | (with_reducible exact TyOf.bl _) | (with_reducible exact TyOf.str _) | (with_reducible exact TyOf.non) | (refine' TyOf.lst ?x; (case x => walk_at "hlk")) | (refine' TyOf.tup ?x; (case x => walk_at "hlk")))
local macro_rules | `(tactic| walk_at "dp") => `(tactic| first | (with_reducible exact dp_int _) | (with_reducible exact dp_str _) | (with_reducible exact dp_bool _) | (with_reducible exact dp_none) | ((with_reducible refine' dp_ints ?x); (case x => walk_at "sql")) | ((with_reducible refine' dp_lst ?x ?y); (case x => walk_at "sql"); (case y => walk_at "dps")) | ((with_reducible refine' dp_tup ?x ?y); (case x => walk_at "sqt"); (case y => walk_at "dps")))
local macro_rules | `(tactic| walk_at "dps") => `(tactic| first | (with_reducible exact dpAll_nil) | ((with_reducible refine' dpAll_cons ?x ?y); (case x => walk_at "dp"); (case y => walk_at "dps")))
local macro_rules | `(tactic| walk_at "shaped") => `(tactic| first | exact shaped_ints _ | (unfold shaped; simp [PyData.canLay0, PyData.canLayAll0, canLay_ints, PyData.depth, PyData.depthAll, depth_ints]))
local macro_rules | `(tactic| walk_at "eqd") => `(tactic| first
  | ((with_reducible refine' r_eqT ?d ?x ?y ?s ?_); (case x => walk_at "dp"); (case y => walk_at "dp"); (case s => walk_at "shaped"))
  | ((with_reducible refine' r_neT ?d ?x ?y ?s ?_); (case x => walk_at "dp"); (case y => walk_at "dp"); (case s => walk_at "shaped")))
local macro_rules | `(tactic| walk_at "r3") => `(tactic| first
  | (with_reducible refine r_alloc (fun _ _ => ?_))
  | ((with_reducible refine' r_small ?x ?_); (case x => walk_at "small"))
  | ((with_reducible refine' r_62 ?x ?y ?_); (case x => walk_at "tt"); (case y => walk_at "tt"))
  | ((with_reducible refine' r_62b ?x ?y ?z ?u ?_); (case x => walk_at "tt"); (case y => walk_at "tt"); (case z => walk_at "tt"); (case u => walk_at "tt"))
  | ((with_reducible refine' r_itL ?x ?_); (case x => walk_at "sql"))
  | ((with_reducible refine' r_itT ?x ?_); (case x => walk_at "sqt"))
  | ((with_reducible refine' r_slI ?x ?_); (case x => walk_at "sql"))
  | ((with_reducible refine' r_slL ?x ?_); (case x => walk_at "sql"))
  | ((with_reducible refine' r_timesZ ?x ?y ?z ?_); (case x => walk_at "hlk"); (case y => walk_at "tt"); (case z => walk_at "tt"))
  | ((with_reducible refine' r_plusII ?x ?y ?z ?_); (case x => walk_at "hlk"); (case y => walk_at "hlk"); (case z => walk_at "small"))
  | ((with_reducible refine' r_tyL ?x ?_); (case x => walk_at "hlk"))
  | ((with_reducible refine' r_timesI ?h ?_); (case h => walk_at "cmul"))
  | ((with_reducible refine' r_sum ?h ?_); (case h => walk_at "sql"))
  | ((with_reducible refine' r_inT ?h ?x ?y ?_); (case h => walk_at "sqt"); (case x => rfl); (case y => rfl))
  | ((with_reducible refine' r_clear ?x ?_); (case x => walk_at "hlk"))
  | ((with_reducible refine' r_append ?x ?y ?_); (case x => walk_at "hlk"); (case y => walk_at "small"))
  | ((with_reducible refine' r_isi ?c ?t ?e ?_); (case c => exact fun z => nomatch z); (case t => walk_at "ty"); (case e => walk_at "kit")))
local macro_rules | `(tactic| walk_at "rd") => `(tactic| repeat (first | walk_at "r1" | walk_at "r3" | walk_at "r2" | walk_at "cond" | walk_at "calls" | walk_at "mine"))
local macro_rules | `(tactic| walk_at "rds") => `(tactic| repeat' (first | walk_at "r1" | walk_at "r3" | walk_at "r2" | walk_at "cond" | walk_at "calls" | walk_at "mine" | walk_at "cs"))
local macro_rules | `(tactic| walk_at "sp") => `(tactic| (repeat' split) <;> first | assumption | rfl | (exfalso; omega))
local macro_rules | `(tactic| walk_at "rok") => `(tactic| first | assumption | exact ⟨by omega, by omega⟩)
local macro_rules | `(tactic| walk_at "cmul") => `(tactic| first | exact Or.inl ⟨by decide, by decide⟩ | exact Or.inr ⟨by decide, by decide⟩ | exact Or.inl ⟨by omega, by omega⟩ | exact Or.inr ⟨by omega, by omega⟩)

set_option hygiene false
local macro_rules | `(tactic| walk_at "cs") => `(tactic| with_reducible first | refine ifInt (fun hh => ?_) (fun hh => ?_) | refine ifIntN (fun hh => ?_) (fun hh => ?_) | refine ifDec (fun hh => ?_) (fun hh => ?_) | refine ifDecN (fun hh => ?_) (fun hh => ?_) | (refine' r_ixDi ?h (fun hh => ?_) (fun hh => ?_); (case h => walk_at "sql")) | (refine' r_ixD ?h (fun hh => ?_) (fun hh => ?_); (case h => walk_at "sql")))
local macro_rules | `(tactic| walk_at "tf") => `(tactic| (show Q _ _; refine' q _ _ _ _ ?zs ?znt ?znb ?znp ?ze1 ?ze2 ?ze3 ?zt ?zb ?zp; (case zt => walk_at "hlk"); (case zb => walk_at "hlk"); (case zp => walk_at "hlk"); (case zs => walk_at "same"); (case znt => walk_at "none"); (case znb => walk_at "none"); (case znp => walk_at "none"); (case ze1 => walk_at "ne"); (case ze2 => walk_at "ne"); (case ze3 => walk_at "ne")))

local macro_rules | `(tactic| walk_at "cls") => `(tactic| first | assumption | exact T.cl_Table | exact T.cl_Machine | exact T.cl_Grow | exact T.cl_Set | exact T.cl_Call | exact T.cl_Drop)
local macro_rules | `(tactic| walk_at "noat") => `(tactic| first | assumption | exact T.n_Table_entries | exact T.n_Table_landings | exact T.n_Machine_code | exact T.n_Machine_table | exact T.n_Machine_home | exact T.n_Machine_coming | exact T.n_Machine_held | exact T.n_Machine_cells | exact T.n_Machine_calls | exact T.n_Machine_dropped | exact T.n_Machine_state | exact T.n_Grow_many | exact T.n_Set_box | exact T.n_Set_number | exact T.n_Call_target | exact T.n_Drop_box)
local macro_rules | `(tactic| walk_at "kit") => `(tactic| first | assumption | exact T.is_Set_Drop | exact T.is_Set_Call | exact T.is_Set_Back | exact T.is_Grow_Drop | exact T.is_Grow_Call | exact T.is_Grow_Back | exact T.is_Call_Drop | exact T.is_Call_Call | exact T.is_Call_Back | exact T.is_Drop_Drop | exact T.is_Drop_Call | exact T.is_Drop_Back)
set_option hygiene true
def top (i : Nat) : Stmt := PySem.Challenge.pw_frameback_k13_where_a_drop_lands.main.body.getD i (.Pass ⟨0, 0, 0, 0⟩)
abbrev s_Astray_init : Stmt := inClass (top 4) 0
theorem sc_Astray_init : FnScope ["self", "row"] ["self", "row"] (defScope s_Astray_init) := ⟨rfl, rfl, rfl, by decide +kernel, rfl, by decide +kernel, by decide +kernel⟩
abbrev s_bounded : Stmt := top 10
theorem sc_bounded : FnScope ["number", "top"] ["number", "top"] (defScope s_bounded) := ⟨rfl, rfl, rfl, by decide +kernel, rfl, by decide +kernel, by decide +kernel⟩
abbrev s_with_box : Stmt := top 13
theorem sc_with_box : FnScope ["boxes", "box", "value", "changed"] ["boxes", "box", "value"] (defScope s_with_box) := ⟨rfl, rfl, rfl, by decide +kernel, rfl, by decide +kernel, by decide +kernel⟩
abbrev s_Row_height : Stmt := inClass (top 14) 1
abbrev s_Set_init : Stmt := inClass (top 15) 0
theorem sc_Set_init : FnScope ["self", "box", "number"] ["self", "box", "number"] (defScope s_Set_init) := ⟨rfl, rfl, rfl, by decide +kernel, rfl, by decide +kernel, by decide +kernel⟩
abbrev s_Set_runs : Stmt := inClass (top 15) 1
theorem sc_Set_runs : FnScope ["self", "at", "boxes", "pile"] ["self", "at", "boxes", "pile"] (defScope s_Set_runs) := ⟨rfl, rfl, rfl, by decide +kernel, rfl, by decide +kernel, by decide +kernel⟩
abbrev s_Set_told : Stmt := inClass (top 15) 3
abbrev s_Grow_init : Stmt := inClass (top 16) 0
theorem sc_Grow_init : FnScope ["self", "many"] ["self", "many"] (defScope s_Grow_init) := ⟨rfl, rfl, rfl, by decide +kernel, rfl, by decide +kernel, by decide +kernel⟩
abbrev s_Grow_runs : Stmt := inClass (top 16) 1
theorem sc_Grow_runs : FnScope ["self", "at", "boxes", "pile"] ["self", "at", "boxes", "pile"] (defScope s_Grow_runs) := ⟨rfl, rfl, rfl, by decide +kernel, rfl, by decide +kernel, by decide +kernel⟩
abbrev s_Grow_height : Stmt := inClass (top 16) 2
theorem sc_Grow_height : FnScope ["self", "high"] ["self", "high"] (defScope s_Grow_height) := ⟨rfl, rfl, rfl, by decide +kernel, rfl, by decide +kernel, by decide +kernel⟩
abbrev s_Grow_told : Stmt := inClass (top 16) 3
abbrev s_Table_init : Stmt := inClass (top 18) 0
theorem sc_Table_init : FnScope ["self", "entries", "landings"] ["self", "entries", "landings"] (defScope s_Table_init) := ⟨rfl, rfl, rfl, by decide +kernel, rfl, by decide +kernel, by decide +kernel⟩
abbrev s_sets_of : Stmt := top 19
theorem sc_sets_of : FnScope ["entry", "kept"] ["entry"] (defScope s_sets_of) := ⟨rfl, rfl, rfl, by decide +kernel, rfl, by decide +kernel, by decide +kernel⟩
abbrev s_lowest_place : Stmt := top 22
theorem sc_lowest_place : FnScope ["places"] ["places"] (defScope s_lowest_place) := ⟨rfl, rfl, rfl, by decide +kernel, rfl, by decide +kernel, by decide +kernel⟩
abbrev s_looked_up : Stmt := top 23
theorem sc_looked_up : FnScope ["places", "known", "piece", "place", "cell"] ["places", "known", "piece"] (defScope s_looked_up) := ⟨rfl, rfl, rfl, by decide +kernel, rfl, by decide +kernel, by decide +kernel⟩
abbrev s_newest_caller : Stmt := top 24
theorem sc_newest_caller : FnScope ["entries", "at", "known", "pile", "entry", "length", "piece", "found"] ["entries", "at", "known", "pile"] (defScope s_newest_caller) := ⟨rfl, rfl, rfl, by decide +kernel, rfl, by decide +kernel, by decide +kernel⟩
abbrev s_callers : Stmt := top 25
theorem sc_callers : FnScope ["table", "row", "boxes", "pile", "home", "told", "at", "known", "left", "caller"] ["table", "row", "boxes", "pile"] (defScope s_callers) := ⟨rfl, rfl, rfl, by decide +kernel, rfl, by decide +kernel, by decide +kernel⟩
abbrev s_Call_init : Stmt := inClass (top 28) 0
theorem sc_Call_init : FnScope ["self", "target"] ["self", "target"] (defScope s_Call_init) := ⟨rfl, rfl, rfl, by decide +kernel, rfl, by decide +kernel, by decide +kernel⟩
abbrev s_Call_runs : Stmt := inClass (top 28) 1
theorem sc_Call_runs : FnScope ["self", "at", "boxes", "pile"] ["self", "at", "boxes", "pile"] (defScope s_Call_runs) := ⟨rfl, rfl, rfl, by decide +kernel, rfl, by decide +kernel, by decide +kernel⟩
abbrev s_Call_told : Stmt := inClass (top 28) 3
abbrev s_Drop_init : Stmt := inClass (top 30) 0
theorem sc_Drop_init : FnScope ["self", "box"] ["self", "box"] (defScope s_Drop_init) := ⟨rfl, rfl, rfl, by decide +kernel, rfl, by decide +kernel, by decide +kernel⟩
abbrev s_Drop_runs : Stmt := inClass (top 30) 1
abbrev s_Drop_told : Stmt := inClass (top 30) 3
theorem sc_Drop_told : FnScope ["self"] ["self"] (defScope s_Drop_told) := ⟨rfl, rfl, rfl, by decide +kernel, rfl, by decide +kernel, by decide +kernel⟩
abbrev s_kept_of : Stmt := top 32
theorem sc_kept_of : FnScope ["boxes"] ["boxes"] (defScope s_kept_of) := ⟨rfl, rfl, rfl, by decide +kernel, rfl, by decide +kernel, by decide +kernel⟩
abbrev s_Machine_init : Stmt := inClass (top 33) 0
theorem sc_Machine_init : FnScope ["self", "code", "table", "boxes", "start"] ["self", "code", "table", "boxes", "start"] (defScope s_Machine_init) := ⟨rfl, rfl, rfl, by decide +kernel, rfl, by decide +kernel, by decide +kernel⟩
abbrev s_Machine_word_ahead_of : Stmt := inClass (top 33) 1
theorem sc_Machine_word_ahead_of : FnScope ["self", "coming"] ["self", "coming"] (defScope s_Machine_word_ahead_of) := ⟨rfl, rfl, rfl, by decide +kernel, rfl, by decide +kernel, by decide +kernel⟩
abbrev s_Machine_at : Stmt := inClass (top 33) 2
theorem sc_Machine_at : FnScope ["self"] ["self"] (defScope s_Machine_at) := ⟨rfl, rfl, rfl, by decide +kernel, rfl, by decide +kernel, by decide +kernel⟩
abbrev s_Machine_boxes : Stmt := inClass (top 33) 3
theorem sc_Machine_boxes : FnScope ["self"] ["self"] (defScope s_Machine_boxes) := ⟨rfl, rfl, rfl, by decide +kernel, rfl, by decide +kernel, by decide +kernel⟩
abbrev s_Machine_pile : Stmt := inClass (top 33) 4
theorem sc_Machine_pile : FnScope ["self"] ["self"] (defScope s_Machine_pile) := ⟨rfl, rfl, rfl, by decide +kernel, rfl, by decide +kernel, by decide +kernel⟩
abbrev s_Machine_word : Stmt := inClass (top 33) 5
theorem sc_Machine_word : FnScope ["self"] ["self"] (defScope s_Machine_word) := ⟨rfl, rfl, rfl, by decide +kernel, rfl, by decide +kernel, by decide +kernel⟩
abbrev s_Machine_book : Stmt := inClass (top 33) 6
theorem sc_Machine_book : FnScope ["self"] ["self"] (defScope s_Machine_book) := ⟨rfl, rfl, rfl, by decide +kernel, rfl, by decide +kernel, by decide +kernel⟩
abbrev s_Machine_fault : Stmt := inClass (top 33) 7
theorem sc_Machine_fault : FnScope ["self"] ["self"] (defScope s_Machine_fault) := ⟨rfl, rfl, rfl, by decide +kernel, rfl, by decide +kernel, by decide +kernel⟩
abbrev s_Machine_step : Stmt := inClass (top 33) 8
theorem sc_Machine_step : FnScope ["self", "row"] ["self"] (defScope s_Machine_step) := ⟨rfl, rfl, rfl, by decide +kernel, rfl, by decide +kernel, by decide +kernel⟩
abbrev s_Machine_do : Stmt := inClass (top 33) 9
theorem sc_Machine_do : FnScope ["self", "row", "done"] ["self", "row"] (defScope s_Machine_do) := ⟨rfl, rfl, rfl, by decide +kernel, rfl, by decide +kernel, by decide +kernel⟩
abbrev s_Machine_forget : Stmt := inClass (top 33) 10
theorem sc_Machine_forget : FnScope ["self", "many", "left"] ["self", "many"] (defScope s_Machine_forget) := ⟨rfl, rfl, rfl, by decide +kernel, rfl, by decide +kernel, by decide +kernel⟩
abbrev s_Machine_go_on : Stmt := inClass (top 33) 11
theorem sc_Machine_go_on : FnScope ["self", "coming", "boxes", "pile"] ["self", "coming", "boxes", "pile"] (defScope s_Machine_go_on) := ⟨rfl, rfl, rfl, by decide +kernel, rfl, by decide +kernel, by decide +kernel⟩
abbrev s_Machine_drop : Stmt := inClass (top 33) 12
theorem sc_Machine_drop : FnScope ["self", "value", "told", "looked_at", "caller"] ["self", "value"] (defScope s_Machine_drop) := ⟨rfl, rfl, rfl, by decide +kernel, rfl, by decide +kernel, by decide +kernel⟩
abbrev s_Machine_land : Stmt := inClass (top 33) 13
theorem sc_Machine_land : FnScope ["self", "value", "caller", "looked_at", "coming", "boxes"] ["self", "value", "caller", "looked_at"] (defScope s_Machine_land) := ⟨rfl, rfl, rfl, by decide +kernel, rfl, by decide +kernel, by decide +kernel⟩
abbrev s_law_cell_at : Stmt := top 35
theorem sc_law_cell_at : FnScope ["_law_script", "_law_k"] ["_law_script", "_law_k"] (defScope s_law_cell_at) := ⟨rfl, rfl, rfl, by decide +kernel, rfl, by decide +kernel, by decide +kernel⟩
abbrev s_law_entry : Stmt := top 36
theorem sc_law_entry : FnScope ["_law_cell", "_law_height", "_law_some", "_law_first", "_law_step"] ["_law_cell"] (defScope s_law_entry) := ⟨rfl, rfl, rfl, by decide +kernel, rfl, by decide +kernel, by decide +kernel⟩
abbrev s_law_told : Stmt := top 37
theorem sc_law_told : FnScope ["_law_table", "_law_machine", "_law_found"] ["_law_table", "_law_machine"] (defScope s_law_told) := ⟨rfl, rfl, rfl, by decide +kernel, rfl, by decide +kernel, by decide +kernel⟩
abbrev s_law_landing : Stmt := top 38
theorem sc_law_landing : FnScope ["_law_found", "_law_landings", "_law_home", "_law_k"] ["_law_found", "_law_landings", "_law_home"] (defScope s_law_landing) := ⟨rfl, rfl, rfl, by decide +kernel, rfl, by decide +kernel, by decide +kernel⟩
abbrev s_law_all : Stmt := top 39
theorem sc_law_all : FnScope ["_law_machine"] ["_law_machine"] (defScope s_law_all) := ⟨rfl, rfl, rfl, by decide +kernel, rfl, by decide +kernel, by decide +kernel⟩
abbrev s_law_stays : Stmt := top 40
theorem sc_law_stays : FnScope ["_law_machine", "_law_then", "_law_word", "_law_lost"] ["_law_machine", "_law_then", "_law_word", "_law_lost"] (defScope s_law_stays) := ⟨rfl, rfl, rfl, by decide +kernel, rfl, by decide +kernel, by decide +kernel⟩
abbrev s_law_dropped : Stmt := top 41
theorem sc_law_dropped : FnScope ["_law_machine", "_law_table", "_law_box", "_law_home", "_law_found", "_law_then", "_law_lost", "_law_k", "_law_landing_here", "_law_boxes"] ["_law_machine", "_law_table", "_law_box", "_law_home"] (defScope s_law_dropped) := ⟨rfl, rfl, rfl, by decide +kernel, rfl, by decide +kernel, by decide +kernel⟩
abbrev s_law : Stmt := top 42
theorem sc_law : FnScope ["_law_script", "_law_cell", "_law_box", "_law_code", "_law_entries", "_law_landings", "_law_k", "_law_part", "_law_table", "_law_boxes", "_law_given", "_law_machine"] ["_law_script"] (defScope s_law) := ⟨rfl, rfl, rfl, by decide +kernel, rfl, by decide +kernel, by decide +kernel⟩
structure Txt (K : PySem.W.Frag) (mg : Str → Option Value) (a : Adr) : Prop where
  z_dict : mg "dict" = none
  z_enumerate : mg "enumerate" = none
  z_int : mg "int" = none
  z_isinstance : mg "isinstance" = none
  z_len : mg "len" = none
  z_list : mg "list" = none
  z_max : mg "max" = none
  z_range : mg "range" = none
  z_reversed : mg "reversed" = none
  g_FIRST_CELL_BIT : ∃ t, mg "FIRST_CELL_BIT" = some (Value.int 8 t)
  g_LINK : ∃ t, mg "LINK" = some (Value.int 7 t)
  g_MOST_CALLERS : ∃ t, mg "MOST_CALLERS" = some (Value.int 5000 t)
  g_TOP_BOX : ∃ t, mg "TOP_BOX" = some (Value.int 7 t)
  g_TOP_CELLS : ∃ t, mg "TOP_CELLS" = some (Value.int 4000 t)
  g_TOP_TARGET : ∃ t, mg "TOP_TARGET" = some (Value.int 2000 t)
  g_TOP_VALUE : ∃ t, mg "TOP_VALUE" = some (Value.int 4294967295 t)
  c_Astray : mg "Astray" = some (.ref a.C_Astray)
  c_Back : mg "Back" = some (.ref a.C_Back)
  c_Call : mg "Call" = some (.ref a.C_Call)
  c_Drop : mg "Drop" = some (.ref a.C_Drop)
  c_FrameError : mg "FrameError" = some (.ref a.C_FrameError)
  c_Grow : mg "Grow" = some (.ref a.C_Grow)
  c_Machine : mg "Machine" = some (.ref a.C_Machine)
  c_NoRow : mg "NoRow" = some (.ref a.C_NoRow)
  c_Set : mg "Set" = some (.ref a.C_Set)
  c_Table : mg "Table" = some (.ref a.C_Table)
  cl_Table : Cls K a.C_Table
  n_Table_entries : NoAttr K a.C_Table "entries"
  n_Table_landings : NoAttr K a.C_Table "landings"
  i_Table : ∃ f fd, FunD K "__init__" "Table.__init__" s_Table_init f fd ∧ Mk K a.C_Table f ∧ Binds K fd ["self", "entries", "landings"] [] ∧ Binds K fd ["self", "entries", "landings"] [.none]
  cl_Machine : Cls K a.C_Machine
  n_Machine_code : NoAttr K a.C_Machine "code"
  n_Machine_table : NoAttr K a.C_Machine "table"
  n_Machine_home : NoAttr K a.C_Machine "home"
  n_Machine_coming : NoAttr K a.C_Machine "coming"
  n_Machine_held : NoAttr K a.C_Machine "held"
  n_Machine_cells : NoAttr K a.C_Machine "cells"
  n_Machine_calls : NoAttr K a.C_Machine "calls"
  n_Machine_dropped : NoAttr K a.C_Machine "dropped"
  n_Machine_state : NoAttr K a.C_Machine "state"
  i_Machine : ∃ f fd dv, FunV K dv "__init__" "Machine.__init__" s_Machine_init f fd ∧ Mk K a.C_Machine f ∧ Binds K fd ["self", "code", "table", "boxes", "start"] [] ∧ Binds K fd ["self", "code", "table", "boxes", "start"] [dv] ∧ RelV (.int 0) dv
  m_Machine_at : ∃ f fd, Fun K "at" "Machine.at" s_Machine_at f fd ∧ Meth K a.C_Machine "at" f ∧ Binds K fd ["self"] []
  m_Machine_book : ∃ f fd, Fun K "book" "Machine.book" s_Machine_book f fd ∧ Meth K a.C_Machine "book" f ∧ Binds K fd ["self"] []
  m_Machine_boxes : ∃ f fd, Fun K "boxes" "Machine.boxes" s_Machine_boxes f fd ∧ Meth K a.C_Machine "boxes" f ∧ Binds K fd ["self"] []
  m_Machine_do : ∃ f fd, Fun K "do" "Machine.do" s_Machine_do f fd ∧ Meth K a.C_Machine "do" f ∧ Binds K fd ["self", "row"] []
  m_Machine_drop : ∃ f fd, Fun K "drop" "Machine.drop" s_Machine_drop f fd ∧ Meth K a.C_Machine "drop" f ∧ Binds K fd ["self", "value"] []
  m_Machine_fault : ∃ f fd, Fun K "fault" "Machine.fault" s_Machine_fault f fd ∧ Meth K a.C_Machine "fault" f ∧ Binds K fd ["self"] []
  m_Machine_forget : ∃ f fd, Fun K "forget" "Machine.forget" s_Machine_forget f fd ∧ Meth K a.C_Machine "forget" f ∧ Binds K fd ["self", "many"] []
  m_Machine_go_on : ∃ f fd, Fun K "go_on" "Machine.go_on" s_Machine_go_on f fd ∧ Meth K a.C_Machine "go_on" f ∧ Binds K fd ["self", "coming", "boxes", "pile"] []
  m_Machine_land : ∃ f fd, Fun K "land" "Machine.land" s_Machine_land f fd ∧ Meth K a.C_Machine "land" f ∧ Binds K fd ["self", "value", "caller", "looked_at"] []
  m_Machine_pile : ∃ f fd, Fun K "pile" "Machine.pile" s_Machine_pile f fd ∧ Meth K a.C_Machine "pile" f ∧ Binds K fd ["self"] []
  m_Machine_step : ∃ f fd, Fun K "step" "Machine.step" s_Machine_step f fd ∧ Meth K a.C_Machine "step" f ∧ Binds K fd ["self"] []
  m_Machine_word : ∃ f fd, Fun K "word" "Machine.word" s_Machine_word f fd ∧ Meth K a.C_Machine "word" f ∧ Binds K fd ["self"] []
  m_Machine_word_ahead_of : ∃ f fd, Fun K "word_ahead_of" "Machine.word_ahead_of" s_Machine_word_ahead_of f fd ∧ Meth K a.C_Machine "word_ahead_of" f ∧ Binds K fd ["self", "coming"] []
  cl_Grow : Cls K a.C_Grow
  n_Grow_many : NoAttr K a.C_Grow "many"
  i_Grow : ∃ f fd, Fun K "__init__" "Grow.__init__" s_Grow_init f fd ∧ Mk K a.C_Grow f ∧ Binds K fd ["self", "many"] []
  m_Grow_height : ∃ f fd, Fun K "height" "Grow.height" s_Grow_height f fd ∧ Meth K a.C_Grow "height" f ∧ Binds K fd ["self", "high"] []
  m_Grow_runs : ∃ f fd, Fun K "runs" "Grow.runs" s_Grow_runs f fd ∧ Meth K a.C_Grow "runs" f ∧ Binds K fd ["self", "at", "boxes", "pile"] []
  m_Grow_told : ∃ f fd, Fun K "told" "Grow.told" s_Grow_told f fd ∧ Meth K a.C_Grow "told" f ∧ Binds K fd ["self"] []
  cl_Set : Cls K a.C_Set
  n_Set_box : NoAttr K a.C_Set "box"
  n_Set_number : NoAttr K a.C_Set "number"
  i_Set : ∃ f fd, Fun K "__init__" "Set.__init__" s_Set_init f fd ∧ Mk K a.C_Set f ∧ Binds K fd ["self", "box", "number"] []
  m_Set_height : ∃ f fd, Fun K "height" "Row.height" s_Row_height f fd ∧ Meth K a.C_Set "height" f ∧ Binds K fd ["self", "high"] []
  m_Set_runs : ∃ f fd, Fun K "runs" "Set.runs" s_Set_runs f fd ∧ Meth K a.C_Set "runs" f ∧ Binds K fd ["self", "at", "boxes", "pile"] []
  m_Set_told : ∃ f fd, Fun K "told" "Set.told" s_Set_told f fd ∧ Meth K a.C_Set "told" f ∧ Binds K fd ["self"] []
  cl_Call : Cls K a.C_Call
  n_Call_target : NoAttr K a.C_Call "target"
  i_Call : ∃ f fd, Fun K "__init__" "Call.__init__" s_Call_init f fd ∧ Mk K a.C_Call f ∧ Binds K fd ["self", "target"] []
  m_Call_height : ∃ f fd, Fun K "height" "Row.height" s_Row_height f fd ∧ Meth K a.C_Call "height" f ∧ Binds K fd ["self", "high"] []
  m_Call_runs : ∃ f fd, Fun K "runs" "Call.runs" s_Call_runs f fd ∧ Meth K a.C_Call "runs" f ∧ Binds K fd ["self", "at", "boxes", "pile"] []
  m_Call_told : ∃ f fd, Fun K "told" "Call.told" s_Call_told f fd ∧ Meth K a.C_Call "told" f ∧ Binds K fd ["self"] []
  cl_Drop : Cls K a.C_Drop
  n_Drop_box : NoAttr K a.C_Drop "box"
  i_Drop : ∃ f fd, Fun K "__init__" "Drop.__init__" s_Drop_init f fd ∧ Mk K a.C_Drop f ∧ Binds K fd ["self", "box"] []
  m_Drop_height : ∃ f fd, Fun K "height" "Row.height" s_Row_height f fd ∧ Meth K a.C_Drop "height" f ∧ Binds K fd ["self", "high"] []
  m_Drop_runs : ∃ f fd, Fun K "runs" "Drop.runs" s_Drop_runs f fd ∧ Meth K a.C_Drop "runs" f ∧ Binds K fd ["self", "at", "boxes", "pile"] []
  m_Drop_told : ∃ f fd, Fun K "told" "Drop.told" s_Drop_told f fd ∧ Meth K a.C_Drop "told" f ∧ Binds K fd ["self"] []
  ty_Set : PySem.W.findIn K (.ref a.C_Set) "__class__" = some (some (.builtin "object.__class__")) ∧ PySem.W.mroIn K a.C_Set (.type "object") = some true
  is_Set_Drop : PySem.W.kitOne K (.ref a.C_Set) (.ref a.C_Drop) = some false
  is_Set_Call : PySem.W.kitOne K (.ref a.C_Set) (.ref a.C_Call) = some false
  is_Set_Back : PySem.W.kitOne K (.ref a.C_Set) (.ref a.C_Back) = some false
  ty_Grow : PySem.W.findIn K (.ref a.C_Grow) "__class__" = some (some (.builtin "object.__class__")) ∧ PySem.W.mroIn K a.C_Grow (.type "object") = some true
  is_Grow_Drop : PySem.W.kitOne K (.ref a.C_Grow) (.ref a.C_Drop) = some false
  is_Grow_Call : PySem.W.kitOne K (.ref a.C_Grow) (.ref a.C_Call) = some false
  is_Grow_Back : PySem.W.kitOne K (.ref a.C_Grow) (.ref a.C_Back) = some false
  ty_Call : PySem.W.findIn K (.ref a.C_Call) "__class__" = some (some (.builtin "object.__class__")) ∧ PySem.W.mroIn K a.C_Call (.type "object") = some true
  is_Call_Drop : PySem.W.kitOne K (.ref a.C_Call) (.ref a.C_Drop) = some false
  is_Call_Call : PySem.W.kitOne K (.ref a.C_Call) (.ref a.C_Call) = some true
  is_Call_Back : PySem.W.kitOne K (.ref a.C_Call) (.ref a.C_Back) = some false
  ty_Drop : PySem.W.findIn K (.ref a.C_Drop) "__class__" = some (some (.builtin "object.__class__")) ∧ PySem.W.mroIn K a.C_Drop (.type "object") = some true
  is_Drop_Drop : PySem.W.kitOne K (.ref a.C_Drop) (.ref a.C_Drop) = some true
  is_Drop_Call : PySem.W.kitOne K (.ref a.C_Drop) (.ref a.C_Call) = some false
  is_Drop_Back : PySem.W.kitOne K (.ref a.C_Drop) (.ref a.C_Back) = some false
  ob1 : PySem.W.specialIn K (.builtin "object.__class__") "__get__" = some (some (.builtin "getset_descriptor.__get__"))
  ob2 : PySem.W.takesIn K (.builtin "object.__class__") = some true
  xi_Astray : ∃ f fd, Fun K "__init__" "Astray.__init__" s_Astray_init f fd ∧ ExcI K mg "Astray" a.C_Astray f ∧ Binds K fd ["self", "row"] []
  xo_Astray : ∃ f, ExcI K mg "Astray" a.C_Astray f
  xk_Astray : ExcK K a.C_Astray
  xs_Astray : ExcS K a.C_Astray "row"
  xn_Astray : PySem.W.findIn K (.ref a.C_Astray) "row" = some none
  xh_Astray : ((PySem.W.clsIn K a.C_Astray).any (·.hasDict)) = true
  xb_FrameError : BaseI K mg "FrameError" a.C_FrameError
  fn_bounded : ∃ f fd, Fun K "bounded" "bounded" s_bounded f fd ∧ mg "bounded" = some (.ref f) ∧ Binds K fd ["number", "top"] []
  fn_with_box : ∃ f fd, Fun K "with_box" "with_box" s_with_box f fd ∧ mg "with_box" = some (.ref f) ∧ Binds K fd ["boxes", "box", "value"] []
  fn_sets_of : ∃ f fd, Fun K "sets_of" "sets_of" s_sets_of f fd ∧ mg "sets_of" = some (.ref f) ∧ Binds K fd ["entry"] []
  fn_lowest_place : ∃ f fd, Fun K "lowest_place" "lowest_place" s_lowest_place f fd ∧ mg "lowest_place" = some (.ref f) ∧ Binds K fd ["places"] []
  fn_looked_up : ∃ f fd, Fun K "looked_up" "looked_up" s_looked_up f fd ∧ mg "looked_up" = some (.ref f) ∧ Binds K fd ["places", "known", "piece"] []
  fn_newest_caller : ∃ f fd, Fun K "newest_caller" "newest_caller" s_newest_caller f fd ∧ mg "newest_caller" = some (.ref f) ∧ Binds K fd ["entries", "at", "known", "pile"] []
  fn_callers : ∃ f fd, Fun K "callers" "callers" s_callers f fd ∧ mg "callers" = some (.ref f) ∧ Binds K fd ["table", "row", "boxes", "pile"] []
  fn_kept_of : ∃ f fd, Fun K "kept_of" "kept_of" s_kept_of f fd ∧ mg "kept_of" = some (.ref f) ∧ Binds K fd ["boxes"] []
  fn_law_cell_at : ∃ f fd, Fun K "_law_cell_at" "_law_cell_at" s_law_cell_at f fd ∧ mg "_law_cell_at" = some (.ref f) ∧ Binds K fd ["_law_script", "_law_k"] []
  fn_law_entry : ∃ f fd, Fun K "_law_entry" "_law_entry" s_law_entry f fd ∧ mg "_law_entry" = some (.ref f) ∧ Binds K fd ["_law_cell"] []
  fn_law_told : ∃ f fd, Fun K "_law_told" "_law_told" s_law_told f fd ∧ mg "_law_told" = some (.ref f) ∧ Binds K fd ["_law_table", "_law_machine"] []
  fn_law_landing : ∃ f fd, Fun K "_law_landing" "_law_landing" s_law_landing f fd ∧ mg "_law_landing" = some (.ref f) ∧ Binds K fd ["_law_found", "_law_landings", "_law_home"] []
  fn_law_all : ∃ f fd, Fun K "_law_all" "_law_all" s_law_all f fd ∧ mg "_law_all" = some (.ref f) ∧ Binds K fd ["_law_machine"] []
  fn_law_stays : ∃ f fd, Fun K "_law_stays" "_law_stays" s_law_stays f fd ∧ mg "_law_stays" = some (.ref f) ∧ Binds K fd ["_law_machine", "_law_then", "_law_word", "_law_lost"] []
  fn_law_dropped : ∃ f fd, Fun K "_law_dropped" "_law_dropped" s_law_dropped f fd ∧ mg "_law_dropped" = some (.ref f) ∧ Binds K fd ["_law_machine", "_law_table", "_law_box", "_law_home"] []
  fn_law : ∃ f fd, Fun K "law" "law" s_law f fd ∧ mg "law" = some (.ref f) ∧ Binds K fd ["_law_script"] []


def lowP (p : Int) : Int := ((Builtin.Int.intBits (Builtin.bitAnd p (-p)) : Nat) : Int) - 1
theorem low_wo {n : Nat} (h : 0 < n) : Builtin.bitAnd (n : Int) (-(n : Int)) = ((Bt.wo n (n - 1) : Nat) : Int) := by
  rw [show -(n : Int) = Builtin.bitNot ((n - 1 : Nat) : Int) from by unfold Builtin.bitNot; omega, bitAnd_wo]
structure Ent where
  h : Int
  b : Int
  v4 : Int
  v5 : Int
  v6 : Int
def Ent.sets (e : Ent) : List Int := [e.b, e.v4, e.v5, e.v6]
def EntAt (K : PySem.W.Frag) (H : Hp) (p : Addr) (e : Ent) : Prop := ∃ q, SqT K H p [.int e.h, .int e.b, .ref q] ∧ SqT K H q [.int e.v4, .int e.v5, .int e.v6]
theorem EntAt.same {K : PySem.W.Frag} {H H' : Hp} {p : Addr} {e : Ent} (h : EntAt K H p e) (s : Same H H') : EntAt K H' p e := let ⟨q, h1, h2⟩ := h; ⟨q, SqT_same s h1, SqT_same s h2⟩

def EntV (K : PySem.W.Frag) (H : Hp) (v : V) : Option Ent → Prop
  | none => v = .non
  | some e => ∃ p, v = .ref p ∧ EntAt K H p e
theorem EntV.same {K : PySem.W.Frag} {H H' : Hp} {v : V} {oe : Option Ent} (h : EntV K H v oe) (s : Same H H') : EntV K H' v oe := by
  cases oe with
  | none => exact h
  | some e => obtain ⟨p, e1, e2⟩ := h; exact ⟨p, e1, e2.same s⟩
def EntVs (K : PySem.W.Frag) (H : Hp) (vs : List V) (es : List (Option Ent)) : Prop := vs.length = es.length ∧ ∀ (i : Nat) (oe : Option Ent), es[i]? = some oe → ∃ v, vs[i]? = some v ∧ EntV K H v oe
theorem EntVs.same {K : PySem.W.Frag} {H H' : Hp} {vs : List V} {es : List (Option Ent)} (h : EntVs K H vs es) (s : Same H H') : EntVs K H' vs es :=
  ⟨h.1, fun i oe e => let ⟨v, e1, e2⟩ := h.2 i oe e; ⟨v, e1, e2.same s⟩⟩
theorem EntVs.snoc {K : PySem.W.Frag} {H : Hp} {vs : List V} {es : List (Option Ent)} {v : V} {oe : Option Ent} (h : EntVs K H vs es) (hv : EntV K H v oe) : EntVs K H (vs ++ [v]) (es ++ [oe]) := by
  refine ⟨by rw [List.length_append, List.length_append, h.1]; rfl, fun i o e => ?_⟩
  by_cases hi : i < es.length
  · rw [List.getElem?_append_left hi] at e
    obtain ⟨u, e1, e2⟩ := h.2 i o e
    exact ⟨u, by rw [List.getElem?_append_left (by rw [h.1]; exact hi)]; exact e1, e2⟩
  · rw [List.getElem?_append_right (by omega)] at e
    have hi' : i - es.length = 0 := by
      rcases Nat.eq_zero_or_pos (i - es.length) with z | z
      · exact z
      · rw [List.getElem?_eq_none (by simp; omega)] at e; cases e
    rw [hi'] at e
    cases e
    exact ⟨v, by rw [List.getElem?_append_right (by rw [h.1]; omega), h.1, hi']; rfl, hv⟩
structure Cal where
  r : Int
  a : Int
  b : Int
  c : Int
  n : Int
def CalV (H : Hp) (v : V) (c : Cal) : Prop := ∃ t q, v = .ref t ∧ H t = some (.tup [.int c.r, .ref q, .int c.n]) ∧ H q = some (.tup [.int c.a, .int c.b, .int c.c])
theorem CalV.same {H H' : Hp} {v : V} {c : Cal} (h : CalV H v c) (s : Same H H') : CalV H' v c := let ⟨t, q, e, h1, h2⟩ := h; ⟨t, q, e, s _ _ h1, s _ _ h2⟩
def CalVs (H : Hp) : List V → List Cal → Prop
  | [], [] => True
  | v :: vs, c :: cs => CalV H v c ∧ CalVs H vs cs
  | _, _ => False
theorem CalVs.same {H H' : Hp} (s : Same H H') : ∀ {vs : List V} {cs : List Cal}, CalVs H vs cs → CalVs H' vs cs
  | [], [], _ => True.intro
  | _ :: _, _ :: _, h => ⟨h.1.same s, CalVs.same s h.2⟩
  | [], _ :: _, h => h.elim
  | _ :: _, [], h => h.elim
theorem CalVs.snoc {H : Hp} {v : V} {c : Cal} (hv : CalV H v c) : ∀ {vs : List V} {cs : List Cal}, CalVs H vs cs → CalVs H (vs ++ [v]) (cs ++ [c])
  | [], [], _ => ⟨hv, True.intro⟩
  | _ :: _, _ :: _, h => ⟨h.1, CalVs.snoc hv h.2⟩
  | [], _ :: _, h => h.elim
  | _ :: _, [], h => h.elim
theorem CalVs.len {H : Hp} : ∀ {vs : List V} {cs : List Cal}, CalVs H vs cs → vs.length = cs.length
  | [], [], _ => rfl
  | _ :: _, _ :: _, h => by rw [List.length_cons, List.length_cons, CalVs.len h.2]
  | [], _ :: _, h => h.elim
  | _ :: _, [], h => h.elim
theorem CalV.upd {H : Hp} {v : V} {c : Cal} {p : Addr} {ys : List V} {o : HO} (hp : H p = some (.lst ys)) (h : CalV H v c) : CalV (upd H p o) v c := by
  obtain ⟨t, q, e, h1, h2⟩ := h
  refine ⟨t, q, e, ?_, ?_⟩
  · rw [upd_ne (fun z => by subst z; rw [hp] at h1; cases h1)]; exact h1
  · rw [upd_ne (fun z => by subst z; rw [hp] at h2; cases h2)]; exact h2
theorem CalVs.upd {H : Hp} {p : Addr} {ys : List V} {o : HO} (hp : H p = some (.lst ys)) : ∀ {vs : List V} {cs : List Cal}, CalVs H vs cs → CalVs (upd H p o) vs cs
  | [], [], _ => True.intro
  | _ :: _, _ :: _, h => ⟨h.1.upd hp, CalVs.upd hp h.2⟩
  | [], _ :: _, h => h.elim
  | _ :: _, [], h => h.elim
theorem r_gTup {K : PySem.W.Frag} {p : Addr} {xs : List V} {n : Nat} {t : TGs} {σ : L2.St} {H : Hp} {Q : L2.St → Hp → Prop} (h : SqT K H p xs) (hl : xs.length = n) (q : t xs σ H Q) : gTup K n t (.ref p) σ H Q := ⟨p, xs, rfl, h, hl, q⟩
theorem r_gCons {t : TG} {u : TGs} {v : V} {r : List V} {σ : L2.St} {H : Hp} {Q : L2.St → Hp → Prop} (q : t v σ H fun σ' H' => u r σ' H' Q) : gCons t u (v :: r) σ H Q := ⟨v, r, rfl, q⟩
theorem r_gNil {σ : L2.St} {H : Hp} {Q : L2.St → Hp → Prop} (q : Q σ H) : gNil [] σ H Q := ⟨rfl, q⟩
theorem b_dict : bootBuiltins "dict" = some (.type "dict") := by decide +kernel
def tabF (l d : Addr) : List (Str × V) := putF "landings" (.ref d) (putF "entries" (.ref l) [])

def spTab (K : PySem.W.Frag) (C : Addr) : Sp := fun vs H Q _ => ∃ (x dx pe : Addr) (lv : V) (xs : List V) (kvs : List (Key × V)), vs = [.ref x, .ref pe, lv] ∧ H x = some (.ins C dx []) ∧ SqL K H pe xs ∧
  ((lv = .non ∧ kvs = []) ∨ ∃ pd, lv = .ref pd ∧ H pd = some (.dK kvs)) ∧
  ∀ l d H', H l = none → H d = none → l ≠ d → (∀ b o, H b = some o → b ≠ x → H' b = some o) → H' x = some (.ins C dx (tabF l d)) → H' l = some (.lst xs) → H' d = some (.dK kvs) → Q .non H'
def spSets (K : PySem.W.Frag) : Sp := fun vs H Q _ => ∃ (p : Addr) (e : Ent), vs = [.ref p] ∧ EntAt K H p e ∧ ∀ t, H t = none → Q (.ref t) (upd H t (.tup (e.sets.map V.int)))
def spLow : Sp := fun vs H Q _ => ∃ i : Int, vs = [.int i] ∧ Q (.int (lowP i)) H
theorem r_low {i : Int} {H : Hp} {Q : VK} {E : XK} (q : Q (.int (lowP i)) H) : spLow [.int i] H Q E := ⟨i, rfl, q⟩
def lookM (s : Int) (kn : List V) (pc : List Int) : V := if s ≤ 0 then .non else if lowP s < 8 then kn.getD (lowP s).toNat .non else if lowP s - 8 < pc.length then .int (gI pc (lowP s - 8)) else .non
def spLook (K : PySem.W.Frag) : Sp := fun vs H Q _ => ∃ (s : Int) (pk pp : Addr) (kn : List V) (pc : List Int), vs = [.int s, .ref pk, .ref pp] ∧ SqL K H pk kn ∧ kn.length = 8 ∧ SqL K H pp (pc.map V.int) ∧ (0 < s → 0 ≤ lowP s) ∧ Q (lookM s kn pc) H
theorem r_look {K : PySem.W.Frag} {s : Int} {pk pp : Addr} {kn : List V} {pc : List Int} {H : Hp} {Q : VK} {E : XK} (h1 : SqL K H pk kn) (h8 : kn.length = 8) (h2 : SqL K H pp (pc.map V.int)) (h0 : 0 < s → 0 ≤ lowP s) (q : Q (lookM s kn pc) H) : spLook K [.int s, .ref pk, .ref pp] H Q E := ⟨s, pk, pp, kn, pc, rfl, h1, h8, h2, h0, q⟩

def knOf (c : Cal) : List V := [.non, .non, .non, .non, .int c.a, .int c.b, .int c.c, .non]

theorem cutI_drop (xs : List Int) {k : Int} (h0 : 0 ≤ k) (h1 : k ≤ xs.length) : cutI xs (some k) none = xs.drop k.toNat := by
  unfold cutI
  have e2 : HT.sIx xs.length 0 (some k) = k.toNat := by
    show (if k < 0 then _ else _) = _
    rw [if_neg (by omega)]; omega
  have e3 : HT.sIx xs.length xs.length none = xs.length := rfl
  rw [e2, e3, List.take_of_length_le (by rw [List.length_drop]; exact Nat.le_refl _)]
theorem lookM_in {s : Int} {kn : List V} {pc : List Int} (h : 0 < s) (h0 : 0 ≤ lowP s) (h1 : lowP s < 8) (h8 : kn.length = 8) : atI kn (lowP s) = some (lookM s kn pc) := by
  unfold lookM
  rw [if_neg (by omega), if_pos h1]
  have e : lowP s = (((lowP s).toNat : Nat) : Int) := by omega
  rw [e]
  exact atI_nat (by rw [Int.toNat_natCast, List.getD_eq_getElem?_getD, List.getElem?_eq_getElem (by omega)]; rfl)

theorem r_chain {r r' : R2} {ta tb tc : TE} {σ : L2.St} {H : Hp} {Q : VK} (h : ta σ H fun x H1 => tb σ H1 fun y H2 => r x y H2 fun z H3 => ∃ k, z = .bl k ∧ (if k then tc σ H3 fun u H4 => r' y u H4 Q else Q (.bl false) H3)) : tChain r r' ta tb tc σ H Q := h
theorem low_nn {s : Int} (h : 0 < s) : 0 ≤ lowP s := by
  obtain ⟨n, rfl⟩ : ∃ n : Nat, s = (n : Int) := ⟨s.toNat, by omega⟩
  have hn : 0 < n := by omega
  unfold lowP
  rw [low_wo hn]
  have hw : 0 < Bt.wo n (n - 1) := by
    unfold Bt.wo
    have := Nat.and_le_right (n := n) (m := n - 1)
    omega
  have : ¬ Builtin.Int.intBits ((Bt.wo n (n - 1) : Nat) : Int) ≤ 0 := fun z => by
    have := PySem.intBits_le_iff.mp z
    rw [Int.natAbs_natCast] at this
    omega
  omega

def near (i : Int) : Prop := -(2 ^ 61) ≤ i ∧ i < 2 ^ 61
def OkV (v : V) : Prop := v = .non ∨ ∃ i, v = .int i ∧ near i
def KnOk (kn : List V) : Prop := kn.length = 8 ∧ ∀ v ∈ kn, OkV v
def PlOk (pl : List Int) : Prop := ∀ i ∈ pl, near i
theorem PlOk.take {pl : List Int} (h : PlOk pl) (n : Nat) : PlOk (pl.take n) := fun i hi => h i (List.mem_of_mem_take hi)
theorem PlOk.drop {pl : List Int} (h : PlOk pl) (n : Nat) : PlOk (pl.drop n) := fun i hi => h i (List.mem_of_mem_drop hi)
theorem look_ok {s : Int} {kn : List V} {pc : List Int} (hk : KnOk kn) (hp : PlOk pc) : OkV (lookM s kn pc) := by
  unfold lookM
  split
  · exact .inl rfl
  · rename_i hs
    split
    · rename_i hl
      have h0 := low_nn (s := s) (by omega)
      rw [List.getD_eq_getElem?_getD, List.getElem?_eq_getElem (by rw [hk.1]; omega)]
      exact hk.2 _ (List.getElem_mem _)
    · rename_i hl
      split
      · rename_i hc
        refine .inr ⟨_, rfl, ?_⟩
        unfold gI
        rw [List.getD_eq_getElem?_getD, List.getElem?_eq_getElem (by omega)]
        exact hp _ (List.getElem_mem _)
      · exact .inl rfl
def vi : V → Option Int
  | .int i => some i
  | _ => none
def calOf (e : Ent) (kn : List V) (pl : List Int) : Option Cal :=
  match vi (lookM e.b kn (pl.drop ((pl.length : Int) - e.h).toNat)), vi (lookM e.v4 kn (pl.drop ((pl.length : Int) - e.h).toNat)), vi (lookM e.v5 kn (pl.drop ((pl.length : Int) - e.h).toNat)), vi (lookM e.v6 kn (pl.drop ((pl.length : Int) - e.h).toNat)) with
  | some r, some a, some b, some c => some ⟨r, a, b, c, (pl.length : Int) - e.h⟩
  | _, _, _, _ => none
def upO (oe : Option Ent) (kn : List V) (pl : List Int) : Option Cal := match oe with
  | none => none
  | some e => if 0 ≤ e.h ∧ e.h ≤ pl.length then calOf e kn pl else none
def stepR (es : List (Option Ent)) (at' : Int) (kn : List V) (pl : List Int) : Option Cal :=
  if 0 ≤ at' ∧ at' < es.length then upO (es.getD at'.toNat none) kn pl else none
def walkF (es : List (Option Ent)) : Nat → Int → List V → List Int → List Cal × Option Int
  | 0, at', _, _ => ([], if at' = es.length then none else some at')
  | f + 1, at', kn, pl => if at' = es.length then ([], none) else match stepR es at' kn pl with
    | none => ([], some at')
    | some c => (c :: (walkF es f c.r (knOf c) (pl.take c.n.toNat)).1, (walkF es f c.r (knOf c) (pl.take c.n.toNat)).2)
theorem walk_home {es : List (Option Ent)} {f : Nat} {at' : Int} {kn : List V} {pl : List Int} (h : at' = es.length) : walkF es f at' kn pl = ([], none) := by
  cases f with
  | zero => unfold walkF; rw [if_pos h]
  | succ f => unfold walkF; rw [if_pos h]
theorem walk_lost {es : List (Option Ent)} {f : Nat} {at' : Int} {kn : List V} {pl : List Int} (h : at' ≠ es.length) (hs : f = 0 ∨ stepR es at' kn pl = none) : walkF es f at' kn pl = ([], some at') := by
  cases f with
  | zero => unfold walkF; rw [if_neg h]
  | succ f =>
    unfold walkF
    rw [if_neg h]
    rcases hs with hs | hs
    · cases hs
    · rw [hs]
theorem walk_next {es : List (Option Ent)} {f : Nat} {at' : Int} {kn : List V} {pl : List Int} {c : Cal} (h : at' ≠ es.length) (hs : stepR es at' kn pl = some c) :
    walkF es (f + 1) at' kn pl = (c :: (walkF es f c.r (knOf c) (pl.take c.n.toNat)).1, (walkF es f c.r (knOf c) (pl.take c.n.toNat)).2) := by
  rw [walkF, if_neg h, hs]
theorem in_four {v1 v2 v3 v4 : V} (h1 : OkV v1) (h2 : OkV v2) (h3 : OkV v3) (h4 : OkV v4) : (inV .non [v1, v2, v3, v4] = true ∧ (vi v1 = none ∨ vi v2 = none ∨ vi v3 = none ∨ vi v4 = none)) ∨
    (inV .non [v1, v2, v3, v4] = false ∧ ∃ r a b c, v1 = .int r ∧ v2 = .int a ∧ v3 = .int b ∧ v4 = .int c ∧ near r ∧ near a ∧ near b ∧ near c) := by
  rcases h1 with rfl | ⟨r, rfl, n1⟩
  · exact .inl ⟨rfl, .inl rfl⟩
  rcases h2 with rfl | ⟨a, rfl, n2⟩
  · exact .inl ⟨rfl, .inr (.inl rfl)⟩
  rcases h3 with rfl | ⟨b, rfl, n3⟩
  · exact .inl ⟨rfl, .inr (.inr (.inl rfl))⟩
  rcases h4 with rfl | ⟨c, rfl, n4⟩
  · exact .inl ⟨rfl, .inr (.inr (.inr rfl))⟩
  exact .inr ⟨rfl, r, a, b, c, rfl, rfl, rfl, rfl, n1, n2, n3, n4⟩
theorem flat_four {v1 v2 v3 v4 : V} (h1 : OkV v1) (h2 : OkV v2) (h3 : OkV v3) (h4 : OkV v4) : [v1, v2, v3, v4].all flatV = true := by
  have f : ∀ {v : V}, OkV v → flatV v = true := fun h => by rcases h with rfl | ⟨i, rfl, _⟩ <;> rfl
  simp [f h1, f h2, f h3, f h4]
theorem cal_none {e : Ent} {kn : List V} {pl : List Int} (h : vi (lookM e.b kn (pl.drop ((pl.length : Int) - e.h).toNat)) = none ∨ vi (lookM e.v4 kn (pl.drop ((pl.length : Int) - e.h).toNat)) = none ∨ vi (lookM e.v5 kn (pl.drop ((pl.length : Int) - e.h).toNat)) = none ∨ vi (lookM e.v6 kn (pl.drop ((pl.length : Int) - e.h).toNat)) = none) : calOf e kn pl = none := by
  unfold calOf
  rcases h with h | h | h | h <;> rw [h]
  · cases vi (lookM e.b kn (pl.drop ((pl.length : Int) - e.h).toNat)) <;> rfl
  · cases vi (lookM e.b kn (pl.drop ((pl.length : Int) - e.h).toNat)) <;> cases vi (lookM e.v4 kn (pl.drop ((pl.length : Int) - e.h).toNat)) <;> rfl
  · cases vi (lookM e.b kn (pl.drop ((pl.length : Int) - e.h).toNat)) <;> cases vi (lookM e.v4 kn (pl.drop ((pl.length : Int) - e.h).toNat)) <;> cases vi (lookM e.v5 kn (pl.drop ((pl.length : Int) - e.h).toNat)) <;> rfl
theorem cal_some {e : Ent} {kn : List V} {pl : List Int} {r a b c : Int} (h1 : lookM e.b kn (pl.drop ((pl.length : Int) - e.h).toNat) = .int r) (h2 : lookM e.v4 kn (pl.drop ((pl.length : Int) - e.h).toNat) = .int a) (h3 : lookM e.v5 kn (pl.drop ((pl.length : Int) - e.h).toNat) = .int b) (h4 : lookM e.v6 kn (pl.drop ((pl.length : Int) - e.h).toNat) = .int c) :
    calOf e kn pl = some ⟨r, a, b, c, (pl.length : Int) - e.h⟩ := by
  unfold calOf
  rw [h1, h2, h3, h4]; rfl

theorem step_ok {es : List (Option Ent)} {at' : Int} {kn : List V} {pl : List Int} {c : Cal} (hk : KnOk kn) (hp : PlOk pl) (h : stepR es at' kn pl = some c) : near c.r ∧ KnOk (knOf c) ∧ 0 ≤ c.n ∧ c.n ≤ pl.length := by
  unfold stepR at h
  split at h
  · unfold upO at h
    split at h
    · cases h
    · rename_i e _
      split at h
      · rename_i hh
        rcases in_four (look_ok (s := e.b) hk (hp.drop ((pl.length : Int) - e.h).toNat)) (look_ok (s := e.v4) hk (hp.drop ((pl.length : Int) - e.h).toNat)) (look_ok (s := e.v5) hk (hp.drop ((pl.length : Int) - e.h).toNat)) (look_ok (s := e.v6) hk (hp.drop ((pl.length : Int) - e.h).toNat)) with ⟨_, z⟩ | ⟨_, r, a, b, c', h1, h2, h3, h4, n1, n2, n3, n4⟩
        · rw [cal_none z] at h; cases h
        · rw [cal_some h1 h2 h3 h4] at h
          cases h
          refine ⟨n1, ⟨rfl, fun v hv => ?_⟩, (show 0 ≤ (pl.length : Int) - e.h by omega), (show (pl.length : Int) - e.h ≤ pl.length by omega)⟩
          simp only [knOf, List.mem_cons, List.not_mem_nil, or_false] at hv
          rcases hv with rfl | rfl | rfl | rfl | rfl | rfl | rfl | rfl
          · exact .inl rfl
          · exact .inl rfl
          · exact .inl rfl
          · exact .inl rfl
          · exact .inr ⟨_, rfl, n2⟩
          · exact .inr ⟨_, rfl, n3⟩
          · exact .inr ⟨_, rfl, n4⟩
          · exact .inl rfl
      · cases h
  · cases h

theorem eta_app (r : List Cal × Option Int) : r = ([] ++ r.1, r.2) := by cases r; rfl
theorem walk_push {es : List (Option Ent)} {f : Nat} {at' : Int} {kn : List V} {pl : List Int} {c : Cal} {ds : List Cal} {r : List Cal × Option Int} (h : at' ≠ es.length) (hs : stepR es at' kn pl = some c) (hw : r = (ds ++ (walkF es (f + 1) at' kn pl).1, (walkF es (f + 1) at' kn pl).2)) :
    r = ((ds ++ [c]) ++ (walkF es f c.r (knOf c) (pl.take c.n.toNat)).1, (walkF es f c.r (knOf c) (pl.take c.n.toNat)).2) := by
  rw [hw, walk_next h hs, List.append_assoc]; rfl
def spNewX (K : PySem.W.Frag) (C : Addr) : Sp := fun vs H Q E => ∃ (pe pk pp : Addr) (at' : Int) (ev : List V) (es : List (Option Ent)) (kn : List V) (pl : List Int), vs = [.ref pe, .int at', .ref pk, .ref pp] ∧ SqL K H pe ev ∧ EntVs K H ev es ∧ SqL K H pk kn ∧ KnOk kn ∧ SqL K H pp (pl.map V.int) ∧ PlOk pl ∧ near at' ∧
  (∀ c v H', stepR es at' kn pl = some c → Same H H' → CalV H' v c → Q v H') ∧ (stepR es at' kn pl = none → ∀ d H', Same H H' → H' d = some (.xd [("row", .int at')]) → E (.ref C) (some d) H')
def spCallX (K : PySem.W.Frag) (a : Adr) : Sp := fun vs H Q E => ∃ (x dx l d pk pp : Addr) (at' : Int) (ev : List V) (es : List (Option Ent)) (kn : List V) (pl : List Int), vs = [.ref x, .int at', .ref pk, .ref pp] ∧ H x = some (.ins a.C_Table dx (tabF l d)) ∧ H l = some (.lst ev) ∧ EntVs K H ev es ∧ SqL K H pk kn ∧ KnOk kn ∧ SqL K H pp (pl.map V.int) ∧ PlOk pl ∧ near at' ∧
  ((walkF es 5000 at' kn pl).2 = none → ∀ p vs H', Same H H' → H p = none → H' p = some (.lst vs) → CalVs H' vs (walkF es 5000 at' kn pl).1 → Q (.ref p) H') ∧
  (∀ r, (walkF es 5000 at' kn pl).2 = some r → ∀ d H', Same H H' → H' d = some (.xd [("row", .int r)]) → E (.ref a.C_Astray) (some d) H')
def spAnyE (K : PySem.W.Frag) : Sp := fun vs H Q _ => ∃ c : Int, vs = [.int c] ∧ ∀ v oe H', Same H H' → EntV K H' v oe → Q v H'
theorem r_tab {K : PySem.W.Frag} {C pe x dx : Addr} {lv : V} {xs : List V} {kvs : List (Key × V)} {H : Hp} {R : VK} {E : XK} (hx : H x = none) (hdx : H dx = none) (h1 : SqL K H pe xs) (h2 : (lv = .non ∧ kvs = []) ∨ ∃ pd, lv = .ref pd ∧ H pd = some (.dK kvs))
    (q : ∀ l d H', Same H H' → H l = none → H d = none → l ≠ d → x ≠ l → x ≠ d → H' x = some (.ins C dx (putF "landings" (.ref d) (putF "entries" (.ref l) []))) → H' l = some (.lst xs) → H' d = some (.dK kvs) → R .non H') :
    spTab K C [.ref x, .ref pe, lv] (upd (upd H dx (.own x)) x (.ins C dx [])) R E := by
  have s1 : Same H (upd (upd H dx (.own x)) x (.ins C dx [])) := fun b o e => by rw [upd_ne (ne_of_none e hx), upd_ne (ne_of_none e hdx)]; exact e
  refine ⟨x, dx, pe, lv, xs, kvs, rfl, upd_same, Same.seq s1 h1, ?_, fun l d H' nl nd nld kp hx' hl' hd' => ?_⟩
  · rcases h2 with h2 | ⟨pd, e, h2⟩
    · exact .inl h2
    · exact .inr ⟨pd, e, s1 _ _ h2⟩
  · have nl1 := none_upd nl
    have nd1 := none_upd nd
    exact q l d H' (fun b o e => kp b o (s1 b o e) (ne_of_none e hx)) (none_upd nl1.1).1 (none_upd nd1.1).1 nld nl1.2.symm nd1.2.symm hx' hl' hd'


theorem mem_sI {xs : List Int} {i v x : Int} (h : x ∈ sI xs i v) : x ∈ xs ∨ x = v := by
  unfold sI at h
  exact List.mem_or_eq_of_mem_set h
theorem gI_any {xs : List Int} (hv : ∀ x ∈ xs, isVal x) (i : Int) : isVal (gI xs i) := by
  unfold gI
  rw [List.getD_eq_getElem?_getD]
  cases e : xs[i.toNat]? with
  | none => exact ⟨by decide, by decide⟩
  | some y => exact hv y (List.mem_of_getElem? e)
theorem sI_vals {xs : List Int} {i v : Int} (hv : ∀ x ∈ xs, isVal x) (h : isVal v) : ∀ x ∈ sI xs i v, isVal x := fun x hx => by
  rcases mem_sI hx with z | z
  · exact hv x z
  · rw [z]; exact h
theorem run_ok {r : Rw} {n n' : Int} {bs pl bs' pl' : List Int} (ok : r.ok) (h0 : 0 ≤ n) (h1 : n ≤ 2000) (h8 : bs.length = 8) (hv : ∀ x ∈ bs, isVal x) (hp : ∀ x ∈ pl, isVal x) (hl : pl.length ≤ 4000) (hr : r.run n bs pl = some (n', bs', pl')) :
    bs'.length = 8 ∧ (∀ x ∈ bs', isVal x) ∧ (∀ x ∈ pl', isVal x) ∧ pl'.length ≤ 4000 ∧ 0 ≤ n' := by
  have g0 : ∀ {m : Int}, isMany m → 0 ≤ m := fun h => h.1
  have t0 : ∀ {m : Int}, isTgt m → 0 ≤ m := fun h => h.1
  have md : ∀ x : Int, isVal (x % 4294967296) := fun x => ⟨by omega, by omega⟩
  cases r with
  | set b m => cases hr; exact ⟨by rw [sI_len]; exact h8, sI_vals hv ok.2, hp, hl, by omega⟩
  | copy b o => cases hr; exact ⟨by rw [sI_len]; exact h8, sI_vals hv (gI_any hv _), hp, hl, by omega⟩
  | add b o t => cases hr; exact ⟨by rw [sI_len]; exact h8, sI_vals hv (md _), hp, hl, by omega⟩
  | sub b o t => cases hr; exact ⟨by rw [sI_len]; exact h8, sI_vals hv (md _), hp, hl, by omega⟩
  | mul b o t => cases hr; exact ⟨by rw [sI_len]; exact h8, sI_vals hv (md _), hp, hl, by omega⟩
  | less b o t => cases hr; exact ⟨by rw [sI_len]; exact h8, sI_vals hv (by split <;> exact ⟨by decide, by decide⟩), hp, hl, by omega⟩
  | grow m =>
    simp only [Rw.run] at hr
    split at hr
    · cases hr
    cases hr
    have := g0 ok
    refine ⟨h8, hv, fun x hx => ?_, by rw [List.length_append, List.length_replicate]; omega, by omega⟩
    rcases List.mem_append.mp hx with z | z
    · exact hp x z
    · rw [List.eq_of_mem_replicate z]; exact ⟨by decide, by decide⟩
  | shrink m =>
    simp only [Rw.run] at hr
    split at hr
    · cases hr
    cases hr
    exact ⟨h8, hv, fun x hx => hp x (List.mem_of_mem_take hx), by rw [List.length_take]; omega, by omega⟩
  | put b c =>
    simp only [Rw.run] at hr
    split at hr
    · cases hr
    cases hr
    exact ⟨h8, hv, sI_vals hp (gI_any hv _), by rw [sI_len]; exact hl, by omega⟩
  | get b c =>
    simp only [Rw.run] at hr
    split at hr
    · cases hr
    cases hr
    exact ⟨by rw [sI_len]; exact h8, sI_vals hv (gI_any hp _), hp, hl, by omega⟩
  | jump t => cases hr; exact ⟨h8, hv, hp, hl, t0 ok⟩
  | branch b t => cases hr; exact ⟨h8, hv, hp, hl, by split; omega; exact t0 ok.2⟩
  | call t => cases hr; exact ⟨by rw [sI_len]; exact h8, sI_vals hv ⟨by omega, by omega⟩, hp, hl, t0 ok⟩
  | back b => cases hr; exact ⟨h8, hv, hp, hl, (gI_any hv _).1⟩
  | drop b => cases hr
def Rw.here : Rw → Prop
  | .set .. => True
  | .copy .. => False
  | .add .. => False
  | .sub .. => False
  | .mul .. => False
  | .less .. => False
  | .grow .. => True
  | .shrink .. => False
  | .put .. => False
  | .get .. => False
  | .jump .. => False
  | .branch .. => False
  | .call .. => True
  | .back .. => False
  | .drop .. => False


def wordAhead (home n : Int) : Str := if n = home then "ended" else if 0 ≤ n ∧ n < home then "runs" else "fault"
abbrev Cl := Int × Int × Int × Int × Int
structure MS where
  rows : List Rw
  coming : Int
  held : List Int
  cells : List Int
  calls : List Cl
  drp : V
  state : Str
def Rw.isCall : Rw → Bool
  | .call _ => true
  | _ => false
def Rw.isBack : Rw → Bool
  | .back _ => true
  | _ => false
def Rw.isDrop : Rw → Bool
  | .drop _ => true
  | _ => false
def MS.bookOf (S : MS) (r : Rw) : List Cl := if r.isCall then S.calls ++ [(S.coming + 1, gI S.held 4, gI S.held 5, gI S.held 6, (S.cells.length : Int))] else if r.isBack then S.calls.take (S.calls.length - 1) else S.calls
def MS.doRow (S : MS) (r : Rw) : MS := match r.run S.coming S.held S.cells with
  | none => { S with state := "fault" }
  | some (n, bs, pl) => if wordAhead S.rows.length n = "fault" then { S with state := "fault" } else { S with coming := n, held := bs, cells := pl, calls := S.bookOf r, state := wordAhead S.rows.length n }
abbrev MNAMES : List Str := ["word_ahead_of", "at", "boxes", "pile", "word", "book", "fault", "step", "do", "forget", "go_on", "drop", "land"]

structure MF (fs : List (Str × V)) (pc pt ph pl pk : Addr) (home coming : Int) (drp : V) (state : Str) : Prop where
  code : fs.lookup ("code" : Str) = some (.ref pc)
  table : fs.lookup ("table" : Str) = some (.ref pt)
  home : fs.lookup ("home" : Str) = some (.int home)
  coming : fs.lookup ("coming" : Str) = some (.int coming)
  held : fs.lookup ("held" : Str) = some (.ref ph)
  cells : fs.lookup ("cells" : Str) = some (.ref pl)
  calls : fs.lookup ("calls" : Str) = some (.ref pk)
  drp : fs.lookup ("dropped" : Str) = some drp
  state : fs.lookup ("state" : Str) = some (.str state)
  len : fs.length ≤ 9
  no : ∀ x : Str, x ∈ MNAMES → fs.lookup x = none
theorem putF_len {f : Str} {v w : V} : ∀ {fs : List (Str × V)}, fs.lookup f = some w → (putF f v fs).length = fs.length
  | [], h => by cases h
  | (g, x) :: r, h => by
    by_cases e : g = f
    · show (if g = f then (g, v) :: r else (g, x) :: putF f v r).length = _
      rw [if_pos e]; rfl
    · have hb : (f == g) = false := beq_eq_false_iff_ne.mpr (fun z => e z.symm)
      rw [List.lookup_cons, hb] at h
      show (if g = f then (g, v) :: r else (g, x) :: putF f v r).length = _
      rw [if_neg e, List.length_cons, putF_len h]; rfl
theorem MF.noPut {fs : List (Str × V)} {f : Str} {v : V} (h : ∀ x : Str, x ∈ MNAMES → fs.lookup x = none) (hf : f ∉ MNAMES) : ∀ x : Str, x ∈ MNAMES → (putF f v fs).lookup x = none := fun x hx => look_no (fun e => hf (e ▸ hx)) (h x hx)
section
variable {fs : List (Str × V)} {pc pt ph pl pk : Addr} {home coming : Int} {drp : V} {state : Str}
theorem MF.setComing (F : MF fs pc pt ph pl pk home coming drp state) (n : Int) : MF (putF "coming" (.int n) fs) pc pt ph pl pk home n drp state :=
  ⟨look_of (by decide +kernel) F.code, look_of (by decide +kernel) F.table, look_of (by decide +kernel) F.home, look_hit, look_of (by decide +kernel) F.held, look_of (by decide +kernel) F.cells, look_of (by decide +kernel) F.calls, look_of (by decide +kernel) F.drp, look_of (by decide +kernel) F.state, by rw [putF_len F.coming]; exact F.len, MF.noPut F.no (by decide +kernel)⟩
theorem MF.setHeld (F : MF fs pc pt ph pl pk home coming drp state) (q : Addr) : MF (putF "held" (.ref q) fs) pc pt q pl pk home coming drp state :=
  ⟨look_of (by decide +kernel) F.code, look_of (by decide +kernel) F.table, look_of (by decide +kernel) F.home, look_of (by decide +kernel) F.coming, look_hit, look_of (by decide +kernel) F.cells, look_of (by decide +kernel) F.calls, look_of (by decide +kernel) F.drp, look_of (by decide +kernel) F.state, by rw [putF_len F.held]; exact F.len, MF.noPut F.no (by decide +kernel)⟩
theorem MF.setCells (F : MF fs pc pt ph pl pk home coming drp state) (q : Addr) : MF (putF "cells" (.ref q) fs) pc pt ph q pk home coming drp state :=
  ⟨look_of (by decide +kernel) F.code, look_of (by decide +kernel) F.table, look_of (by decide +kernel) F.home, look_of (by decide +kernel) F.coming, look_of (by decide +kernel) F.held, look_hit, look_of (by decide +kernel) F.calls, look_of (by decide +kernel) F.drp, look_of (by decide +kernel) F.state, by rw [putF_len F.cells]; exact F.len, MF.noPut F.no (by decide +kernel)⟩
theorem MF.setState (F : MF fs pc pt ph pl pk home coming drp state) (t : Str) : MF (putF "state" (.str t) fs) pc pt ph pl pk home coming drp t :=
  ⟨look_of (by decide +kernel) F.code, look_of (by decide +kernel) F.table, look_of (by decide +kernel) F.home, look_of (by decide +kernel) F.coming, look_of (by decide +kernel) F.held, look_of (by decide +kernel) F.cells, look_of (by decide +kernel) F.calls, look_of (by decide +kernel) F.drp, look_hit, by rw [putF_len F.state]; exact F.len, MF.noPut F.no (by decide +kernel)⟩
theorem MF.setDrp (F : MF fs pc pt ph pl pk home coming drp state) (v : V) : MF (putF "dropped" v fs) pc pt ph pl pk home coming v state :=
  ⟨look_of (by decide +kernel) F.code, look_of (by decide +kernel) F.table, look_of (by decide +kernel) F.home, look_of (by decide +kernel) F.coming, look_of (by decide +kernel) F.held, look_of (by decide +kernel) F.cells, look_of (by decide +kernel) F.calls, look_hit, look_of (by decide +kernel) F.state, by rw [putF_len F.drp]; exact F.len, MF.noPut F.no (by decide +kernel)⟩
end
theorem MF.start (pc pt ph pl pk : Addr) (home coming : Int) (st : Str) : MF (putF "state" (.str st) (putF "dropped" .non (putF "calls" (.ref pk) (putF "cells" (.ref pl) (putF "held" (.ref ph) (putF "coming" (.int coming) (putF "home" (.int home) (putF "table" (.ref pt) (putF "code" (.ref pc) []))))))))) pc pt ph pl pk home coming .non st := by
  refine ⟨?_, ?_, ?_, ?_, ?_, ?_, ?_, ?_, ?_, len_of (len_of (len_of (len_of (len_of (len_of (len_of (len_of (len_of (Nat.le_refl 0))))))))), ?_⟩
  · repeat first | exact look_hit | refine look_of (by decide +kernel) ?_
  · repeat first | exact look_hit | refine look_of (by decide +kernel) ?_
  · repeat first | exact look_hit | refine look_of (by decide +kernel) ?_
  · repeat first | exact look_hit | refine look_of (by decide +kernel) ?_
  · repeat first | exact look_hit | refine look_of (by decide +kernel) ?_
  · repeat first | exact look_hit | refine look_of (by decide +kernel) ?_
  · repeat first | exact look_hit | refine look_of (by decide +kernel) ?_
  · repeat first | exact look_hit | refine look_of (by decide +kernel) ?_
  · exact look_hit
  · repeat refine MF.noPut ?_ (by decide +kernel)
    exact fun x _ => rfl

def RowsAt (a : Adr) (H : Hp) (prs : List Addr) (rs : List Rw) : Prop := prs.length = rs.length ∧ ∀ (i : Nat) (p : Addr) (r : Rw), prs[i]? = some p → rs[i]? = some r → RowAt a H p r
theorem RowsAt.to {a : Adr} {H H' : Hp} {prs : List Addr} {rs : List Rw} (h : RowsAt a H prs rs) (k : ∀ p ∈ prs, ∀ o, H p = some o → H' p = some o) : RowsAt a H' prs rs :=
  ⟨h.1, fun i p r e1 e2 => let ⟨dx, e⟩ := h.2 i p r e1 e2; ⟨dx, k p (List.mem_of_getElem? e1) _ e⟩⟩
theorem RowsAt.same {a : Adr} {H H' : Hp} {prs : List Addr} {rs : List Rw} (h : RowsAt a H prs rs) (s : Same H H') : RowsAt a H' prs rs := h.to fun _ _ _ e => s _ _ e
theorem RowsAt.nil {a : Adr} {H : Hp} : RowsAt a H [] [] := ⟨rfl, fun i p r e => by simp at e⟩
theorem RowsAt.snoc {a : Adr} {H : Hp} {prs : List Addr} {rs : List Rw} {p : Addr} {r : Rw} (h : RowsAt a H prs rs) (q : RowAt a H p r) : RowsAt a H (prs ++ [p]) (rs ++ [r]) := by
  refine ⟨by rw [List.length_append, List.length_append, h.1]; rfl, fun i p' r' e1 e2 => ?_⟩
  by_cases hi : i < rs.length
  · rw [List.getElem?_append_left (by rw [h.1]; exact hi)] at e1
    rw [List.getElem?_append_left hi] at e2
    exact h.2 i p' r' e1 e2
  · have hi' : i = rs.length := by
      have := (List.getElem?_eq_some_iff.mp e2).1
      rw [List.length_append] at this
      simp at this; omega
    subst hi'
    rw [List.getElem?_append_right (by omega)] at e2
    rw [List.getElem?_append_right (by rw [h.1]; omega), h.1] at e1
    simp at e1 e2
    subst e1 e2
    exact q
theorem RowsAt.mem {a : Adr} {H : Hp} {prs : List Addr} {rs : List Rw} (h : RowsAt a H prs rs) {p : Addr} (hp : p ∈ prs) : ∃ r, r ∈ rs ∧ RowAt a H p r := by
  obtain ⟨i, hi, e⟩ := List.mem_iff_getElem.mp hp
  have e1 : prs[i]? = some p := by rw [List.getElem?_eq_getElem hi, e]
  have hi2 : i < rs.length := by rw [← h.1]; exact hi
  exact ⟨rs[i], List.getElem_mem hi2, h.2 i p _ e1 (List.getElem?_eq_getElem hi2)⟩

def ClAt (H : Hp) (v : V) (c : Cl) : Prop := ∃ t k, v = .ref t ∧ H t = some (.tup [.int c.1, .ref k, .int c.2.2.2.2]) ∧ H k = some (.tup [.int c.2.1, .int c.2.2.1, .int c.2.2.2.1])
def ClsAt (H : Hp) (vs : List V) (cs : List Cl) : Prop := vs.length = cs.length ∧ ∀ (i : Nat) (v : V) (c : Cl), vs[i]? = some v → cs[i]? = some c → ClAt H v c
theorem ClAt.to {H H' : Hp} {v : V} {c : Cl} (h : ClAt H v c) (k : ∀ b xs, H b = some (.tup xs) → H' b = some (.tup xs)) : ClAt H' v c := let ⟨t, q, e, e1, e2⟩ := h; ⟨t, q, e, k _ _ e1, k _ _ e2⟩
theorem ClsAt.to {H H' : Hp} {vs : List V} {cs : List Cl} (h : ClsAt H vs cs) (k : ∀ b xs, H b = some (.tup xs) → H' b = some (.tup xs)) : ClsAt H' vs cs := ⟨h.1, fun i v c e1 e2 => (h.2 i v c e1 e2).to k⟩
theorem ClsAt.snoc {H : Hp} {vs : List V} {cs : List Cl} {v : V} {c : Cl} (h : ClsAt H vs cs) (q : ClAt H v c) : ClsAt H (vs ++ [v]) (cs ++ [c]) := by
  refine ⟨by rw [List.length_append, List.length_append, h.1]; rfl, fun i p' r' e1 e2 => ?_⟩
  by_cases hi : i < cs.length
  · rw [List.getElem?_append_left (by rw [h.1]; exact hi)] at e1
    rw [List.getElem?_append_left hi] at e2
    exact h.2 i p' r' e1 e2
  · have hi' : i = cs.length := by
      have := (List.getElem?_eq_some_iff.mp e2).1
      rw [List.length_append] at this
      simp at this; omega
    subst hi'
    rw [List.getElem?_append_right (by omega)] at e2
    rw [List.getElem?_append_right (by rw [h.1]; omega), h.1] at e1
    simp at e1 e2
    subst e1 e2
    exact q
theorem ClsAt.take {H : Hp} {vs : List V} {cs : List Cl} (h : ClsAt H vs cs) (n : Nat) : ClsAt H (vs.take n) (cs.take n) := by
  refine ⟨by rw [List.length_take, List.length_take, h.1], fun i v c e1 e2 => ?_⟩
  rw [List.getElem?_take] at e1 e2
  split at e1
  · rename_i hi
    rw [if_pos hi] at e2
    exact h.2 i v c e1 e2
  · cases e1

def Kept2 (m k : Addr) (H H' : Hp) : Prop := ∀ b o, H b = some o → b ≠ m → b ≠ k → H' b = some o
theorem Kept2.refl {m k : Addr} {H : Hp} : Kept2 m k H H := fun _ _ e _ _ => e
theorem Kept2.trans {m k : Addr} {H H1 H2 : Hp} (h : Kept2 m k H H1) (g : Kept2 m k H1 H2) : Kept2 m k H H2 := fun b o e n1 n2 => g b o (h b o e n1 n2) n1 n2
theorem Kept2.of_same {m k : Addr} {H H' : Hp} (h : Same H H') : Kept2 m k H H' := fun b o e _ _ => h b o e
theorem Kept2.upd1 {m k : Addr} {H H' : Hp} {o : HO} (h : Kept2 m k H H') : Kept2 m k H (upd H' m o) := fun b u e n1 n2 => by rw [upd_ne n1]; exact h b u e n1 n2
theorem Kept2.upd2 {m k : Addr} {H H' : Hp} {o : HO} (h : Kept2 m k H H') : Kept2 m k H (upd H' k o) := fun b u e n1 n2 => by rw [upd_ne n2]; exact h b u e n1 n2
structure MAt (a : Adr) (H : Hp) (m pk dx pc pt ph pl : Addr) (fs : List (Str × V)) (prs : List Addr) (cs : List V) (S : MS) : Prop where
  hm : H m = some (.ins a.C_Machine dx fs)
  f : MF fs pc pt ph pl pk S.rows.length S.coming S.drp S.state
  hc : H pc = some (.lst (prs.map V.ref))
  rows : RowsAt a H prs S.rows
  hh : H ph = some (.lst (S.held.map V.int))
  hl : H pl = some (.lst (S.cells.map V.int))
  hk : H pk = some (.lst cs)
  calls : ClsAt H cs S.calls
  n1 : pk ≠ pc
  n2 : pk ≠ ph
  n3 : pk ≠ pl
  n4 : ∀ p ∈ prs, p ≠ m
def MachAt (a : Adr) (H : Hp) (m pk pt : Addr) (S : MS) : Prop := ∃ dx pc ph pl fs prs cs, MAt a H m pk dx pc pt ph pl fs prs cs S
structure MOk (S : MS) : Prop where
  ok : ∀ r ∈ S.rows, r.ok ∧ (r.isDrop = false → r.here)
  many : S.rows.length ≤ 2000
  at0 : 0 ≤ S.coming
  at1 : S.state = "runs" → S.coming < S.rows.length
  h8 : S.held.length = 8
  hv : ∀ x ∈ S.held, isVal x
  cv : ∀ x ∈ S.cells, isVal x
  cl : S.cells.length ≤ 4000
  sk : PyData.strOk S.state = true
theorem wa_ok (h n : Int) : PyData.strOk (wordAhead h n) = true := by
  unfold wordAhead
  repeat' split
  all_goals decide +kernel
theorem ft_ok : PyData.strOk "fault" = true := by decide +kernel
theorem ne_st {home n : Int} (h : ¬ wordAhead home n = "fault") : n = home ∨ (0 ≤ n ∧ n < home) := by
  unfold wordAhead at h
  split at h
  · rename_i e; exact .inl e
  · split at h
    · rename_i e; exact .inr e
    · exact absurd rfl h
theorem str_re : ("ended" : Str) ≠ "runs" := by decide +kernel
theorem str_fr : ("fault" : Str) ≠ "runs" := by decide +kernel
theorem str_rf : ("runs" : Str) ≠ "fault" := by decide +kernel
theorem str_ef : ("ended" : Str) ≠ "fault" := by decide +kernel
theorem wa_lt {home n : Int} (h : wordAhead home n = "runs") : 0 ≤ n ∧ n < home := by
  unfold wordAhead at h
  split at h
  · exact absurd h str_re
  · split at h
    · assumption
    · exact absurd h str_fr
theorem MOk.doRow {S : MS} {r : Rw} (o : MOk S) (hr : r ∈ S.rows) (hn : S.coming < S.rows.length) : MOk (S.doRow r) := by
  unfold MS.doRow
  split
  · exact ⟨o.ok, o.many, o.at0, fun z => absurd z str_fr, o.h8, o.hv, o.cv, o.cl, ft_ok⟩
  · rename_i n bs pl e
    split
    · exact ⟨o.ok, o.many, o.at0, fun z => absurd z str_fr, o.h8, o.hv, o.cv, o.cl, ft_ok⟩
    · have hm := o.many
      obtain ⟨k1, k2, k3, k4, k5⟩ := run_ok (o.ok r hr).1 o.at0 (by omega) o.h8 o.hv o.cv o.cl e
      exact ⟨o.ok, o.many, k5, fun z => (wa_lt z).2, k1, k2, k3, k4, wa_ok _ _⟩
theorem MOk.row {S : MS} (o : MOk S) (h : S.state = "runs") : ∃ r, S.rows[S.coming.toNat]? = some r ∧ r ∈ S.rows := by
  have h1 := o.at1 h
  have h0 := o.at0
  have hl : S.coming.toNat < S.rows.length := by omega
  exact ⟨S.rows[S.coming.toNat], List.getElem?_eq_getElem hl, List.getElem_mem hl⟩
theorem doRow_rows (S : MS) (r : Rw) : (S.doRow r).rows = S.rows := by
  unfold MS.doRow
  split
  · rfl
  · split <;> rfl
theorem doRow_calls (S : MS) (r : Rw) : (S.doRow r).calls.length ≤ S.calls.length + 1 := by
  unfold MS.doRow
  split
  · exact Nat.le_succ _
  · split
    · exact Nat.le_succ _
    · show (S.bookOf r).length ≤ _
      unfold MS.bookOf
      split
      · rw [List.length_append]; exact Nat.le_refl _
      · split
        · rw [List.length_take]; omega
        · exact Nat.le_succ _
def spKeptOf (K : PySem.W.Frag) : Sp := fun vs H Q _ => ∃ (p : Addr) (bs : List Int), vs = [.ref p] ∧ SqL K H p (bs.map V.int) ∧ bs.length = 8 ∧ ∀ t, H t = none → Q (.ref t) (upd H t (.tup [.int (gI bs 4), .int (gI bs 5), .int (gI bs 6)]))
theorem r_keptOf {K : PySem.W.Frag} {p : Addr} {bs : List Int} {H : Hp} {Q : VK} {E : XK} (h : SqL K H p (bs.map V.int)) (h8 : bs.length = 8) (q : ∀ t, H t = none → Q (.ref t) (upd H t (.tup [.int (gI bs 4), .int (gI bs 5), .int (gI bs 6)]))) : spKeptOf K [.ref p] H Q E := ⟨p, bs, rfl, h, h8, q⟩
def spWA (a : Adr) : Sp := fun vs H Q _ => ∃ (m dx : Addr) (fs : List (Str × V)) (home n : Int), vs = [.ref m, .int n] ∧ H m = some (.ins a.C_Machine dx fs) ∧ fs.lookup ("home" : Str) = some (.int home) ∧ Q (.str (wordAhead home n)) H
def spFld (a : Adr) (f : Str) : Sp := fun vs H Q _ => ∃ (m dx : Addr) (fs : List (Str × V)) (v : V), vs = [.ref m] ∧ H m = some (.ins a.C_Machine dx fs) ∧ fs.lookup f = some v ∧ Q v H
def spLFld (a : Adr) (f : Str) : Sp := fun vs H Q _ => ∃ (m dx p : Addr) (fs : List (Str × V)) (xs : List V), vs = [.ref m] ∧ H m = some (.ins a.C_Machine dx fs) ∧ fs.lookup f = some (.ref p) ∧ H p = some (.lst xs) ∧ ∀ l, H l = none → Q (.ref l) (upd H l (.lst xs))
def spGoOn (a : Adr) : Sp := fun vs H Q _ => ∃ (m dx pc pt ph pl pk pb pp : Addr) (fs : List (Str × V)) (home c n : Int) (d : V) (st : Str), vs = [.ref m, .int n, .ref pb, .ref pp] ∧ H m = some (.ins a.C_Machine dx fs) ∧ MF fs pc pt ph pl pk home c d st ∧
  ∀ fs', MF fs' pc pt pb pp pk home n d (wordAhead home n) → Q .non (upd H m (.ins a.C_Machine dx fs'))
def spForget (a : Adr) : Sp := fun vs H Q _ => ∃ (m dx pk : Addr) (fs : List (Str × V)) (k : Int) (xs : List V), vs = [.ref m, .int k] ∧ H m = some (.ins a.C_Machine dx fs) ∧ fs.lookup ("calls" : Str) = some (.ref pk) ∧ H pk = some (.lst xs) ∧ 0 ≤ k ∧ xs.length ≤ 100000 ∧
  ∀ H', H' pk = some (.lst (xs.take (xs.length - k.toNat))) → (∀ b, b ≠ pk → H' b = H b) → Q .non H'
def spDo (a : Adr) : Sp := fun vs H Q _ => ∃ (m p pk pt : Addr) (r : Rw) (S : MS), vs = [.ref m, .ref p] ∧ MachAt a H m pk pt S ∧ MOk S ∧ RowAt a H p r ∧ r ∈ S.rows ∧ r.isDrop = false ∧ p ≠ m ∧ S.coming < S.rows.length ∧ S.calls.length ≤ 50000 ∧ ∀ H', Kept2 m pk H H' → MachAt a H' m pk pt (S.doRow r) → Q .non H'

def msStart (rs : List Rw) (bs : List Int) (start : Int) : MS := ⟨rs, start, bs ++ [(rs.length : Int)], [], [((rs.length : Int), gI (bs ++ [(rs.length : Int)]) 4, gI (bs ++ [(rs.length : Int)]) 5, gI (bs ++ [(rs.length : Int)]) 6, 0)], .non, wordAhead rs.length start⟩

def TabIn (a : Adr) (H : Hp) (t pk : Addr) (ev : List V) (kvs : List (Key × V)) : Prop := ∃ dt l d, H t = some (.ins a.C_Table dt (tabF l d)) ∧ H l = some (.lst ev) ∧ H d = some (.dK kvs) ∧ l ≠ pk
def TabNew (a : Adr) (H H' : Hp) (t pk : Addr) (ev : List V) (kvs : List (Key × V)) : Prop := ∃ dt l d, H' t = some (.ins a.C_Table dt (tabF l d)) ∧ H' l = some (.lst ev) ∧ H' d = some (.dK kvs) ∧ l ≠ pk ∧ H l = none ∧ H d = none
def spMach (a : Adr) : Sp := fun vs H Q _ => ∃ (x dx c t b dt l d : Addr) (start : Int) (prs : List Addr) (rs : List Rw) (bs : List Int) (es : List V) (kvs : List (Key × V)), vs = [.ref x, .ref c, .ref t, .ref b, .int start] ∧ H x = some (.ins a.C_Machine dx []) ∧ H c = some (.lst (prs.map V.ref)) ∧ RowsAt a H prs rs ∧ (∀ p ∈ prs, p ≠ x) ∧
  H t = some (.ins a.C_Table dt (tabF l d)) ∧ t ≠ x ∧ H l = some (.lst es) ∧ H d = some (.dK kvs) ∧ H b = some (.lst (bs.map V.int)) ∧ bs.length = 7 ∧ rs.length ≤ 2000 ∧
  ∀ pk pc pt ph pl fs cs H', H pk = none → H pc = none → H ph = none → H pl = none → (∀ b o, H b = some o → b ≠ x → H' b = some o) → MAt a H' x pk dx pc pt ph pl fs prs cs (msStart rs bs start) → TabNew a H H' pt pk es kvs → Q .non H'
theorem r_mach {a : Adr} {x dx c t b dt l d : Addr} {start : Int} {prs : List Addr} {rs : List Rw} {bs : List Int} {es : List V} {kvs : List (Key × V)} {H : Hp} {R : VK} {E : XK} (hx : H x = none) (hdx : H dx = none) (hc : H c = some (.lst (prs.map V.ref))) (hr : RowsAt a H prs rs)
    (ht : H t = some (.ins a.C_Table dt (tabF l d))) (hl : H l = some (.lst es)) (hd : H d = some (.dK kvs)) (hb : H b = some (.lst (bs.map V.int))) (h7 : bs.length = 7) (hm : rs.length ≤ 2000)
    (q : ∀ pk pc pt ph pl fs cs H', H pk = none → H pc = none → H ph = none → H pl = none → Same H H' → MAt a H' x pk dx pc pt ph pl fs prs cs (msStart rs bs start) → TabNew a H H' pt pk es kvs → R .non H') : spMach a [.ref x, .ref c, .ref t, .ref b, .int start] (upd (upd H dx (.own x)) x (.ins a.C_Machine dx [])) R E := by
  have up : ∀ {b : Addr} {o : HO}, H b = some o → upd (upd H dx (.own x)) x (.ins a.C_Machine dx []) b = some o := fun {b o} e => by rw [upd_ne (ne_of_none e hx), upd_ne (ne_of_none e hdx)]; exact e
  refine ⟨x, dx, c, t, b, dt, l, d, start, prs, rs, bs, es, kvs, rfl, upd_same, up hc, hr.to (fun p _ o e => up e), fun p hp => ?_, up ht, ne_of_none ht hx, up hl, up hd, up hb, h7, hm, fun pk pc pt ph pl fs cs H' n1 n2 n3 n4 kp M TT => ?_⟩
  · obtain ⟨r, _, dxr, e⟩ := hr.mem hp
    exact ne_of_none e hx
  · have dn : ∀ {b : Addr}, upd (upd H dx (.own x)) x (.ins a.C_Machine dx []) b = none → H b = none := fun e => (none_upd (none_upd e).1).1
    exact q pk pc pt ph pl fs cs H' (dn n1) (dn n2) (dn n3) (dn n4) (fun b o e => kp b o (up e) (ne_of_none e hx)) M (by obtain ⟨dt', l', d', t1, t2, t3, t4, t5, t6⟩ := TT; exact ⟨dt', l', d', t1, t2, t3, t4, dn t5, dn t6⟩)

section
variable {a : Adr} {H H1 : Hp} {m pk dx pc pt ph pl : Addr} {fs : List (Str × V)} {prs : List Addr} {cs : List V} {S : MS}
theorem MAt.went (M : MAt a H m pk dx pc pt ph pl fs prs cs S) (kp : Kept2 m pk H H1) {o1 : List (Str × V)} {b' p' : Addr} {fs' : List (Str × V)} {cs' : List V} {calls' : List Cl} {n : Int} {bs pp : List Int} {st : Str} {d' : V} (hmm : H1 m = some (.ins a.C_Machine dx o1))
    (hb : H1 b' = some (.lst (bs.map V.int))) (hp : H1 p' = some (.lst (pp.map V.int))) (hk : H1 pk = some (.lst cs')) (hcl : ClsAt H1 cs' calls') (nb : pk ≠ b') (np : pk ≠ p') (F' : MF fs' pc pt b' p' pk S.rows.length n d' st) :
    MAt a (upd H1 m (.ins a.C_Machine dx fs')) m pk dx pc pt b' p' fs' prs cs' ⟨S.rows, n, bs, pp, calls', d', st⟩ := by
  have kn : ∀ {b : Addr} {xs : List V}, H1 b = some (.lst xs) → b ≠ m := fun {b xs} e z => by subst z; rw [hmm] at e; cases e
  have kt : ∀ {b : Addr} {xs : List V}, H1 b = some (.tup xs) → b ≠ m := fun {b xs} e z => by subst z; rw [hmm] at e; cases e
  have c1 : pc ≠ m := fun z => by have e := M.hc; rw [z, M.hm] at e; cases e
  refine ⟨upd_same, F', ?_, ?_, ?_, ?_, ?_, ?_, M.n1, nb, np, M.n4⟩
  · rw [upd_ne c1]; exact kp _ _ M.hc c1 M.n1.symm
  · refine M.rows.to fun p h o e => ?_
    have q1 := M.n4 p h
    rw [upd_ne q1]
    refine kp _ _ e q1 fun z => ?_
    obtain ⟨r, _, dxr, e2⟩ := M.rows.mem h
    have e3 := M.hk
    rw [← z, e2] at e3; cases e3
  · rw [upd_ne (kn hb)]; exact hb
  · rw [upd_ne (kn hp)]; exact hp
  · rw [upd_ne (kn hk)]; exact hk
  · exact hcl.to fun b xs e => by rw [upd_ne (kt e)]; exact e
theorem MAt.clsAt (M : MAt a H m pk dx pc pt ph pl fs prs cs S) (kp : Kept2 m pk H H1) : ClsAt H1 cs S.calls := M.calls.to fun b xs e => kp b _ e (fun z => by have q := M.hm; rw [← z, e] at q; cases q) (fun z => by have q := M.hk; rw [← z, e] at q; cases q)
theorem MAt.nhm (M : MAt a H m pk dx pc pt ph pl fs prs cs S) : ph ≠ m := fun z => by have e := M.hh; rw [z, M.hm] at e; cases e
theorem MAt.nlm (M : MAt a H m pk dx pc pt ph pl fs prs cs S) : pl ≠ m := fun z => by have e := M.hl; rw [z, M.hm] at e; cases e
theorem MAt.nkm (M : MAt a H m pk dx pc pt ph pl fs prs cs S) : pk ≠ m := fun z => by have e := M.hk; rw [z, M.hm] at e; cases e
theorem MAt.faulted (M : MAt a H m pk dx pc pt ph pl fs prs cs S) (s : Same H H1) (t : Str) : MachAt a (upd H1 m (.ins a.C_Machine dx (putF "state" (.str t) fs))) m pk pt { S with state := t } :=
  ⟨dx, pc, ph, pl, _, prs, cs, M.went (Kept2.of_same s) (s _ _ M.hm) (s _ _ M.hh) (s _ _ M.hl) (s _ _ M.hk) (M.clsAt (Kept2.of_same s)) M.n2 M.n3 (M.f.setState t)⟩

theorem MAt.away (M : MAt a H m pk dx pc pt ph pl fs prs cs S) {l : Addr} {xs ys : List V} (h : H l = some (.lst xs)) (n1 : l ≠ pk) (n2 : l ≠ pc) (n3 : l ≠ ph) (n4 : l ≠ pl) : MAt a (upd H l (.lst ys)) m pk dx pc pt ph pl fs prs cs S := by
  have ki : ∀ {b C d : Addr} {f : List (Str × V)}, H b = some (.ins C d f) → b ≠ l := fun {b C d f} e z => by subst z; rw [h] at e; cases e
  refine ⟨by rw [upd_ne (ki M.hm)]; exact M.hm, M.f, by rw [upd_ne n2.symm]; exact M.hc, M.rows.to (fun p hp o e => ?_), by rw [upd_ne n3.symm]; exact M.hh, by rw [upd_ne n4.symm]; exact M.hl, by rw [upd_ne n1.symm]; exact M.hk, M.calls.to (fun b zs e => ?_), M.n1, M.n2, M.n3, M.n4⟩
  · obtain ⟨r, _, dxr, e2⟩ := M.rows.mem hp
    rw [upd_ne (ki e2)]; exact e
  · rw [upd_ne (fun z => by subst z; rw [h] at e; cases e)]; exact e

theorem MAt.to (M : MAt a H m pk dx pc pt ph pl fs prs cs S) (s : Same H H1) : MAt a H1 m pk dx pc pt ph pl fs prs cs S :=
  ⟨s _ _ M.hm, M.f, s _ _ M.hc, M.rows.same s, s _ _ M.hh, s _ _ M.hl, s _ _ M.hk, M.clsAt (Kept2.of_same s), M.n1, M.n2, M.n3, M.n4⟩

theorem MachAt.to (M : MachAt a H m pk pt S) (s : Same H H1) : MachAt a H1 m pk pt S := by
  obtain ⟨dx, pc, ph, pl, fs, prs, cs, M⟩ := M
  exact ⟨dx, pc, ph, pl, fs, prs, cs, s _ _ M.hm, M.f, s _ _ M.hc, M.rows.same s, s _ _ M.hh, s _ _ M.hl, s _ _ M.hk, M.clsAt (Kept2.of_same s), M.n1, M.n2, M.n3, M.n4⟩
end
def rDClear : V → List V → Hp → VK → Prop := fun x xs H Q => ∃ a kvs, x = .ref a ∧ xs = [] ∧ H a = some (.dK kvs) ∧ Q .non (upd H a (.dK []))
theorem mt_dclear {X : Cx} : MtR X "dict.clear" rDClear := by
  intro pins s σ H x xs v us Q I rx rs h
  obtain ⟨a, kvs, rfl, rfl, e, q⟩ := h
  cases rs
  cases rx
  exact d_clear I e fun s' I' => ⟨.non, _, I', rfl, q⟩
theorem r_dclear {a : Addr} {kvs : List (Key × V)} {H : Hp} {Q : VK} (h : H a = some (.dK kvs)) (q : Q .non (upd H a (.dK []))) : rDClear (.ref a) [] H Q := ⟨a, kvs, rfl, rfl, h, q⟩
theorem r_tyD {K : PySem.W.Frag} {H : Hp} {p : Addr} {kvs : List (Key × V)} {R : Prop} (h : H p = some (.dK kvs)) (q : R) : tyV K "dict" (.ref p) H ∧ R := ⟨.inr (.inr (.inl ⟨rfl, .inl ⟨kvs, h⟩⟩)), q⟩

def clD (c : Cl) : PyData := .tuple [.int c.1, .tuple [.int c.2.1, .int c.2.2.1, .int c.2.2.2.1], .int c.2.2.2.2]
theorem ClAt.dp {K : PySem.W.Frag} {H : Hp} {v : V} {c : Cl} (h : ClAt H v c) : Dp K H (clD c) v := by
  obtain ⟨t, k, rfl, h1, h2⟩ := h
  exact dp_tup (SqT.of h1) (dpAll_cons (dp_int _) (dpAll_cons (dp_tup (SqT.of h2) (dpAll_cons (dp_int _) (dpAll_cons (dp_int _) (dpAll_cons (dp_int _) dpAll_nil)))) (dpAll_cons (dp_int _) dpAll_nil)))
theorem ClsAt.dp {K : PySem.W.Frag} {H : Hp} : ∀ {vs : List V} {cs : List Cl}, ClsAt H vs cs → DpAll K H (cs.map clD) vs
  | [], [], _ => dpAll_nil
  | [], _ :: _, h => by have := h.1; simp at this
  | _ :: _, [], h => by have := h.1; simp at this
  | v :: vs, c :: cs, h => by
    refine dpAll_cons (h.2 0 v c rfl rfl).dp (ClsAt.dp (vs := vs) (cs := cs) ⟨by simpa using h.1, fun i u d e1 e2 => ?_⟩)
    exact h.2 (i + 1) u d (by simpa using e1) (by simpa using e2)
theorem cls_lay : ∀ cs : List Cl, PyData.canLayAll0 (cs.map clD) = true
  | [] => rfl
  | c :: cs => by
    rw [List.map_cons, PyData.canLayAll0, cls_lay cs]; rfl
theorem cl_depth (c : Cl) : (clD c).depth ≤ 2 := by simp [clD, PyData.depth, PyData.depthAll]
theorem cls_depth : ∀ cs : List Cl, PyData.depthAll (cs.map clD) ≤ 2
  | [] => by decide
  | c :: cs => by
    have h1 := cl_depth c
    have h2 := cls_depth cs
    rw [List.map_cons, PyData.depthAll]
    exact Nat.max_le.mpr ⟨h1, h2⟩
theorem ClsAt.rev {H : Hp} {vs : List V} {cs : List Cl} (h : ClsAt H vs cs) : ClsAt H vs.reverse cs.reverse := by
  refine ⟨by rw [List.length_reverse, List.length_reverse, h.1], fun i v c e1 e2 => ?_⟩
  have hi : i < vs.length := by
    have := (List.getElem?_eq_some_iff.mp e1).1
    rwa [List.length_reverse] at this
  rw [List.getElem?_reverse hi] at e1
  rw [List.getElem?_reverse (by rw [← h.1]; exact hi), ← h.1] at e2
  exact h.2 _ v c e1 e2
def spBook (a : Adr) : Sp := fun vs H Q _ => ∃ (m dx pk : Addr) (fs : List (Str × V)) (cs : List V), vs = [.ref m] ∧ H m = some (.ins a.C_Machine dx fs) ∧ fs.lookup ("calls" : Str) = some (.ref pk) ∧ H pk = some (.lst cs) ∧ ∀ l, H l = none → Q (.ref l) (upd H l (.lst cs.reverse))


def TabAt (K : PySem.W.Frag) (a : Adr) (H : Hp) (t pk : Addr) (es : List (Option Ent)) (kvs : List (Key × V)) : Prop := ∃ ev, TabIn a H t pk ev kvs ∧ EntVs K H ev es
theorem SqT.kept {K : PySem.W.Frag} {m k : Addr} {H H' : Hp} {C dx : Addr} {fs : List (Str × V)} {xs : List V} {p : Addr} {ys : List V} (h : Kept2 m k H H') (hm : H m = some (.ins C dx fs)) (hk : H k = some (.lst xs)) (q : SqT K H p ys) : SqT K H' p ys := by
  rcases q with (q | ⟨o, q⟩) | q
  · exact .inl (.inl (h _ _ q (fun z => by rw [z, hm] at q; cases q) (fun z => by rw [z, hk] at q; cases q)))
  · exact .inl (.inr ⟨o, h _ _ q (fun z => by rw [z, hm] at q; cases q) (fun z => by rw [z, hk] at q; cases q)⟩)
  · exact .inr q
theorem EntVs.kept {K : PySem.W.Frag} {m k : Addr} {H H' : Hp} {C dx : Addr} {fs : List (Str × V)} {xs : List V} {vs : List V} {es : List (Option Ent)} (h : Kept2 m k H H') (hm : H m = some (.ins C dx fs)) (hk : H k = some (.lst xs)) (q : EntVs K H vs es) : EntVs K H' vs es := by
  refine ⟨q.1, fun i oe e => ?_⟩
  obtain ⟨v, e1, e2⟩ := q.2 i oe e
  refine ⟨v, e1, ?_⟩
  cases oe with
  | none => exact e2
  | some en =>
    obtain ⟨p, rfl, qq, h1, h2⟩ := e2
    exact ⟨p, rfl, qq, SqT.kept h hm hk h1, SqT.kept h hm hk h2⟩
theorem TabIn.ne {a : Adr} {H : Hp} {t pk m dx : Addr} {fs : List (Str × V)} {ev : List V} {kvs : List (Key × V)} {v : V} (T : TabIn a H t pk ev kvs) (hm : H m = some (.ins a.C_Machine dx fs)) (hf : fs.lookup ("code" : Str) = some v) : t ≠ m := fun z => by
  obtain ⟨dt, l, d, h1, _⟩ := T
  rw [z, hm] at h1
  injection h1 with h1
  injection h1 with _ _ h1
  subst h1
  rw [show (tabF l d).lookup ("code" : Str) = none from look_no (by decide +kernel) (look_no (by decide +kernel) rfl)] at hf
  cases hf
theorem TabAt.kept {K : PySem.W.Frag} {a : Adr} {H H' : Hp} {m pk t pq : Addr} {S : MS} {es : List (Option Ent)} {kvs : List (Key × V)} (T : TabAt K a H t pk es kvs) (M : MachAt a H m pk pq S) (k : Kept2 m pk H H') : TabAt K a H' t pk es kvs := by
  obtain ⟨ev, TI, E⟩ := T
  obtain ⟨dx, pc, ph, pl, fs, prs, cs, M⟩ := M
  have tm := TI.ne M.hm M.f.code
  obtain ⟨dt, l, d, h1, h2, h3, h4⟩ := TI
  refine ⟨ev, ⟨dt, l, d, k _ _ h1 tm (fun z => by rw [z, M.hk] at h1; cases h1), k _ _ h2 (fun z => by rw [z, M.hm] at h2; cases h2) h4, k _ _ h3 (fun z => by rw [z, M.hm] at h3; cases h3) (fun z => by rw [z, M.hk] at h3; cases h3), h4⟩, E.kept k M.hm M.hk⟩
theorem TabAt.same {K : PySem.W.Frag} {a : Adr} {H H' : Hp} {t pk : Addr} {es : List (Option Ent)} {kvs : List (Key × V)} (T : TabAt K a H t pk es kvs) (s : Same H H') : TabAt K a H' t pk es kvs := by
  obtain ⟨ev, ⟨dt, l, d, h1, h2, h3, h4⟩, E⟩ := T
  exact ⟨ev, ⟨dt, l, d, s _ _ h1, s _ _ h2, s _ _ h3, h4⟩, E.same s⟩

def LandOk (kvs : List (Key × V)) : Prop := ∀ k v, valV kvs k = some v → ∃ i : Int, v = .int i
def landN (kvs : List (Key × V)) (c : Cal) : Option Int := match valV kvs (.inl (c.r - 1)) with | some (.int n) => some n | _ => none
def landAt (home : Int) (kvs : List (Key × V)) (c : Cal) : Bool := decide (c.r ≠ home) && (valV kvs (.inl (c.r - 1))).isSome
def MS.landed (S : MS) (v : Int) (c : Cal) (k : Nat) (n : Int) : MS := if wordAhead S.rows.length n = "fault" then { S with state := "fault" } else
  ⟨S.rows, n, [v, gI S.held 1, gI S.held 2, gI S.held 3, c.a, c.b, c.c, gI S.held 7], S.cells.take c.n.toNat, S.calls.take (S.calls.length - k), S.drp, wordAhead S.rows.length n⟩
def MS.dropped (S : MS) (es : List (Option Ent)) (kvs : List (Key × V)) (v : Int) : MS :=
  match (walkF es 5000 S.coming (S.held.map V.int) S.cells).2 with
  | some _ => { S with state := "fault" }
  | none => match (walkF es 5000 S.coming (S.held.map V.int) S.cells).1.findIdx? (landAt S.rows.length kvs) with
    | none => { S with state := "dropped", drp := .int v }
    | some i => match (walkF es 5000 S.coming (S.held.map V.int) S.cells).1[i]? with
      | none => S
      | some c => match landN kvs c with
        | none => S
        | some n => S.landed v c (i + 1) n
def MS.rowD (S : MS) (es : List (Option Ent)) (kvs : List (Key × V)) : Rw → MS
  | .drop b => S.dropped es kvs (gI S.held b)
  | r => S.doRow r
theorem rowD_do {S : MS} {es : List (Option Ent)} {kvs : List (Key × V)} {r : Rw} (h : r.isDrop = false) : S.rowD es kvs r = S.doRow r := by cases r <;> first | rfl | cases h
def MS.stepD (S : MS) (es : List (Option Ent)) (kvs : List (Key × V)) : MS := if S.state = "runs" then (match S.rows[S.coming.toNat]? with | none => S | some r => S.rowD es kvs r) else S
theorem stepD_not {S : MS} {es : List (Option Ent)} {kvs : List (Key × V)} (h : S.state ≠ "runs") : S.stepD es kvs = S := by unfold MS.stepD; rw [if_neg h]
theorem stepD_at {S : MS} {es : List (Option Ent)} {kvs : List (Key × V)} {r : Rw} (h : S.state = "runs") (hr : S.rows[S.coming.toNat]? = some r) : S.stepD es kvs = S.rowD es kvs r := by unfold MS.stepD; rw [if_pos h, hr]
theorem dropped_lost {S : MS} {es : List (Option Ent)} {kvs : List (Key × V)} {v z : Int} (h : (walkF es 5000 S.coming (S.held.map V.int) S.cells).2 = some z) : S.dropped es kvs v = { S with state := "fault" } := by unfold MS.dropped; rw [h]
theorem dropped_none {S : MS} {es : List (Option Ent)} {kvs : List (Key × V)} {v : Int} (h : (walkF es 5000 S.coming (S.held.map V.int) S.cells).2 = none) (hf : (walkF es 5000 S.coming (S.held.map V.int) S.cells).1.findIdx? (landAt S.rows.length kvs) = none) : S.dropped es kvs v = { S with state := "dropped", drp := .int v } := by unfold MS.dropped; rw [h]; dsimp only; rw [hf]
theorem dropped_some {S : MS} {es : List (Option Ent)} {kvs : List (Key × V)} {v n : Int} {i : Nat} {c : Cal} (h : (walkF es 5000 S.coming (S.held.map V.int) S.cells).2 = none) (hf : (walkF es 5000 S.coming (S.held.map V.int) S.cells).1.findIdx? (landAt S.rows.length kvs) = some i) (hc : (walkF es 5000 S.coming (S.held.map V.int) S.cells).1[i]? = some c)
    (hv : valV kvs (.inl (c.r - 1)) = some (.int n)) : S.dropped es kvs v = S.landed v c (i + 1) n := by
  unfold MS.dropped; rw [h]; dsimp only; rw [hf]; dsimp only; rw [hc]; dsimp only; rw [show landN kvs c = some n from by unfold landN; rw [hv]]
def spLand (K : PySem.W.Frag) (a : Adr) : Sp := fun vs H Q _ => ∃ (m pk pt t : Addr) (v n : Int) (k : Nat) (c : Cal) (S : MS) (es : List (Option Ent)) (kvs : List (Key × V)), vs = [.ref m, .int v, .ref t, .int (k : Int)] ∧ MachAt a H m pk pt S ∧ MOk S ∧ TabAt K a H pt pk es kvs ∧ CalV H (.ref t) c ∧ 0 ≤ c.n ∧
  S.calls.length ≤ 50000 ∧ valV kvs (.inl (c.r - 1)) = some (.int n) ∧ ∀ H', Kept2 m pk H H' → MachAt a H' m pk pt (S.landed v c k n) → Q .non H'
def spDrop (K : PySem.W.Frag) (a : Adr) : Sp := fun vs H Q _ => ∃ (m pk pt : Addr) (v : Int) (S : MS) (es : List (Option Ent)) (kvs : List (Key × V)), vs = [.ref m, .int v] ∧ MachAt a H m pk pt S ∧ MOk S ∧ TabAt K a H pt pk es kvs ∧ LandOk kvs ∧ S.coming < S.rows.length ∧
  S.calls.length ≤ 50000 ∧ ∀ H', Kept2 m pk H H' → MachAt a H' m pk pt (S.dropped es kvs v) → Q .non H'
def spStepD (K : PySem.W.Frag) (a : Adr) : Sp := fun vs H Q _ => ∃ (m pk pt : Addr) (S : MS) (es : List (Option Ent)) (kvs : List (Key × V)), vs = [.ref m] ∧ MachAt a H m pk pt S ∧ MOk S ∧ TabAt K a H pt pk es kvs ∧ LandOk kvs ∧
  S.calls.length ≤ 50000 ∧ ∀ H', Kept2 m pk H H' → MachAt a H' m pk pt (S.stepD es kvs) → Q .non H'


def AllAt (pk : Addr) (H : Hp) (t : Addr) (n : Int) (bs pl : List Int) (cl : List Cl) : Prop := ∃ b p k cs, (b ≠ pk ∧ p ≠ pk ∧ k ≠ pk) ∧ H t = some (.tup [.int n, .ref b, .ref p, .ref k]) ∧ H b = some (.lst (bs.map V.int)) ∧ H p = some (.lst (pl.map V.int)) ∧ H k = some (.lst cs) ∧ ClsAt H cs cl
def allD (n : Int) (bs pl : List Int) (cl : List Cl) : PyData := .tuple [.int n, .list (bs.map PyData.int), .list (pl.map PyData.int), .list (cl.map clD)]
theorem AllAt.dp {K : PySem.W.Frag} {H : Hp} {pk t : Addr} {n : Int} {bs pl : List Int} {cl : List Cl} (h : AllAt pk H t n bs pl cl) : Dp K H (allD n bs pl cl) (.ref t) := by
  obtain ⟨b, p, k, cs, _, h1, h2, h3, h4, h5⟩ := h
  exact dp_tup (SqT.of h1) (dpAll_cons (dp_int _) (dpAll_cons (dp_ints (SqL.of h2)) (dpAll_cons (dp_ints (SqL.of h3)) (dpAll_cons (dp_lst (SqL.of h4) h5.dp) dpAll_nil))))
theorem AllAt.same {H H' : Hp} {pk t : Addr} {n : Int} {bs pl : List Int} {cl : List Cl} (h : AllAt pk H t n bs pl cl) (s : Same H H') : AllAt pk H' t n bs pl cl := by
  obtain ⟨b, p, k, cs, h0, h1, h2, h3, h4, h5⟩ := h
  exact ⟨b, p, k, cs, h0, s _ _ h1, s _ _ h2, s _ _ h3, s _ _ h4, h5.to fun b xs e => s _ _ e⟩
theorem AllAt.kept {H H' : Hp} {m pk t C dx : Addr} {fs : List (Str × V)} {xs : List V} {n : Int} {bs pl : List Int} {cl : List Cl} (h : AllAt pk H t n bs pl cl) (kp : Kept2 m pk H H') (hm : H m = some (.ins C dx fs)) (hk : H pk = some (.lst xs)) : AllAt pk H' t n bs pl cl := by
  obtain ⟨b, p, k, cs, h0, h1, h2, h3, h4, h5⟩ := h
  have kt : ∀ b xs, H b = some (.tup xs) → H' b = some (.tup xs) := fun b xs e => kp b _ e (fun z => by rw [z, hm] at e; cases e) (fun z => by rw [z, hk] at e; cases e)
  have kl : ∀ b xs, b ≠ pk → H b = some (.lst xs) → H' b = some (.lst xs) := fun b xs ne e => kp b _ e (fun z => by rw [z, hm] at e; cases e) ne
  exact ⟨b, p, k, cs, h0, kt _ _ h1, kl _ _ h0.1 h2, kl _ _ h0.2.1 h3, kl _ _ h0.2.2 h4, h5.to kt⟩
theorem CalVs.kept {H H' : Hp} {m pk C dx : Addr} {fs : List (Str × V)} {xs : List V} (kp : Kept2 m pk H H') (hm : H m = some (.ins C dx fs)) (hk : H pk = some (.lst xs)) : ∀ {vs : List V} {cs : List Cal}, CalVs H vs cs → CalVs H' vs cs
  | [], [], _ => True.intro
  | [], _ :: _, h => h.elim
  | _ :: _, [], h => h.elim
  | v :: vs, c :: cs, h => by
    have kt : ∀ b xs, H b = some (.tup xs) → H' b = some (.tup xs) := fun b xs e => kp b _ e (fun z => by rw [z, hm] at e; cases e) (fun z => by rw [z, hk] at e; cases e)
    obtain ⟨⟨t, q, e, h1, h2⟩, h3⟩ := h
    exact ⟨⟨t, q, e, kt _ _ h1, kt _ _ h2⟩, CalVs.kept kp hm hk h3⟩
theorem shaped_all (n : Int) (bs pl : List Int) (cl : List Cl) : shaped (allD n bs pl cl) = true := by
  have h1 := cls_depth cl
  unfold shaped allD
  simp [PyData.canLay0, PyData.canLayAll0, canLay_ints, cls_lay, PyData.depth, PyData.depthAll, depth_ints]
  omega
def FoundV (pk : Addr) (H : Hp) (v : V) (W : List Cal × Option Int) : Prop := (W.2 = none ∧ ∃ p vs, v = .ref p ∧ p ≠ pk ∧ H p = some (.lst vs) ∧ CalVs H vs W.1) ∨ ((∃ z, W.2 = some z) ∧ v = .non)
def MS.walk (S : MS) (es : List (Option Ent)) : List Cal × Option Int := walkF es 5000 S.coming (S.held.map V.int) S.cells
def idxV (cs : List Cal) (home : Int) (kvs : List (Key × V)) : Int := match cs.findIdx? (landAt home kvs) with | none => -1 | some i => (i : Int)
def spAll (a : Adr) : Sp := fun vs H Q _ => ∃ (m pk pt : Addr) (S : MS), vs = [.ref m] ∧ MachAt a H m pk pt S ∧ ∀ t H', Same H H' → AllAt pk H' t S.coming S.held S.cells S.calls.reverse → Q (.ref t) H'
def spToldM (K : PySem.W.Frag) (a : Adr) : Sp := fun vs H Q _ => ∃ (t m pk pt : Addr) (S : MS) (es : List (Option Ent)) (kvs : List (Key × V)), vs = [.ref t, .ref m] ∧ TabAt K a H t pk es kvs ∧ MachAt a H m pk pt S ∧ MOk S ∧ S.coming < S.rows.length ∧ ∀ v H', Same H H' → FoundV pk H' v (S.walk es) → Q v H'
def spLanding : Sp := fun vs H Q _ => ∃ (p d : Addr) (home : Int) (us : List V) (cs : List Cal) (kvs : List (Key × V)), vs = [.ref p, .ref d, .int home] ∧ H p = some (.lst us) ∧ CalVs H us cs ∧ us.length ≤ 5000 ∧ H d = some (.dK kvs) ∧ Q (.int (idxV cs home kvs)) H
def spStays (K : PySem.W.Frag) (a : Adr) : Sp := fun vs H Q _ => ∃ (m pk pt t : Addr) (w : Str) (lv : V) (S : MS) (es : List (Option Ent)) (kvs : List (Key × V)), vs = [.ref m, .ref t, .str w, lv] ∧ MachAt a H m pk pt S ∧ MOk S ∧ TabAt K a H pt pk es kvs ∧ LandOk kvs ∧ S.calls.length ≤ 50000 ∧
  AllAt pk H t S.coming S.held S.cells S.calls.reverse ∧ S.state = w ∧ w ≠ "runs" ∧ S.drp = lv ∧ (lv = .non ∨ ∃ i, lv = .int i) ∧ ∀ H', Kept2 m pk H H' → MachAt a H' m pk pt S → Q (.bl true) H'
def spDropped (K : PySem.W.Frag) (a : Adr) : Sp := fun vs H Q _ => ∃ (m pk pt t : Addr) (b : Int) (S : MS) (es : List (Option Ent)) (kvs : List (Key × V)), vs = [.ref m, .ref t, .int b, .int (S.rows.length : Int)] ∧ MachAt a H m pk pt S ∧ MOk S ∧ TabAt K a H pt pk es kvs ∧ TabAt K a H t pk es kvs ∧ LandOk kvs ∧
  S.calls.length ≤ 50000 ∧ S.state = "runs" ∧ S.rows[S.coming.toNat]? = some (.drop b) ∧ isBox b ∧ S.drp = .non ∧ ∀ H', Kept2 m pk H H' → MachAt a H' m pk pt (S.stepD es kvs) → Q (.bl true) H'

def OkI (v : V) : Prop := ∀ i, v = .int i → isVal i
theorem look_val {s : Int} {kn : List V} {pc : List Int} (hk : ∀ v ∈ kn, OkI v) (hp : ∀ x ∈ pc, isVal x) : OkI (lookM s kn pc) := by
  unfold lookM
  split
  · intro i e; cases e
  · split
    · intro i e
      rw [List.getD_eq_getElem?_getD] at e
      cases h : kn[(lowP s).toNat]? with
      | none => rw [h] at e; cases e
      | some v => rw [h] at e; exact hk v (List.mem_of_getElem? h) i e
    · split
      · intro i e
        injection e with e
        subst e
        exact gI_any hp _
      · intro i e; cases e
theorem kn_val {c : Cal} (h1 : isVal c.a) (h2 : isVal c.b) (h3 : isVal c.c) : ∀ v ∈ knOf c, OkI v := fun v hv i e => by
  simp only [knOf, List.mem_cons, List.not_mem_nil, or_false] at hv
  rcases hv with rfl | rfl | rfl | rfl | rfl | rfl | rfl | rfl
  all_goals first | cases e | skip
  all_goals assumption
theorem vi_int {v : V} {i : Int} (h : vi v = some i) : v = .int i := by
  cases v with
  | int j => injection h with h; rw [h]
  | _ => cases h
theorem cal_val {e : Ent} {kn : List V} {pl : List Int} {c : Cal} (hk : ∀ v ∈ kn, OkI v) (hp : ∀ x ∈ pl, isVal x) (h : calOf e kn pl = some c) : isVal c.a ∧ isVal c.b ∧ isVal c.c := by
  have hd : ∀ x ∈ pl.drop ((pl.length : Int) - e.h).toNat, isVal x := fun x hx => hp x (List.mem_of_mem_drop hx)
  unfold calOf at h
  split at h
  · rename_i r x y z h1 h2 h3 h4
    cases h
    exact ⟨look_val hk hd _ (vi_int h2), look_val hk hd _ (vi_int h3), look_val hk hd _ (vi_int h4)⟩
  · cases h
theorem step_val {es : List (Option Ent)} {at' : Int} {kn : List V} {pl : List Int} {c : Cal} (hk : ∀ v ∈ kn, OkI v) (hp : ∀ x ∈ pl, isVal x) (h : stepR es at' kn pl = some c) : isVal c.a ∧ isVal c.b ∧ isVal c.c ∧ 0 ≤ c.n := by
  unfold stepR at h
  split at h
  · unfold upO at h
    split at h
    · cases h
    · rename_i e _
      split at h
      · rename_i hh
        obtain ⟨h1, h2, h3⟩ := cal_val hk hp h
        refine ⟨h1, h2, h3, ?_⟩
        unfold calOf at h
        split at h
        · cases h
          show 0 ≤ (pl.length : Int) - e.h
          omega
        · cases h
      · cases h
  · cases h
theorem walk_val {es : List (Option Ent)} : ∀ (f : Nat) (at' : Int) (kn : List V) (pl : List Int), (∀ v ∈ kn, OkI v) → (∀ x ∈ pl, isVal x) → ∀ c ∈ (walkF es f at' kn pl).1, isVal c.a ∧ isVal c.b ∧ isVal c.c ∧ 0 ≤ c.n
  | 0, at', kn, pl, _, _, c, hc => by rw [walkF] at hc; cases hc
  | f + 1, at', kn, pl, hk, hp, c, hc => by
    rw [walkF] at hc
    split at hc
    · cases hc
    · split at hc
      · cases hc
      · rename_i d hd
        obtain ⟨h1, h2, h3, h4⟩ := step_val hk hp hd
        rcases List.mem_cons.mp hc with rfl | hc
        · exact ⟨h1, h2, h3, h4⟩
        · exact walk_val f d.r (knOf d) (pl.take d.n.toNat) (kn_val h1 h2 h3) (fun x hx => hp x (List.mem_of_mem_take hx)) c hc
theorem walk_len {es : List (Option Ent)} : ∀ (f : Nat) (at' : Int) (kn : List V) (pl : List Int), (walkF es f at' kn pl).1.length ≤ f
  | 0, at', kn, pl => by rw [walkF]; exact Nat.le_refl 0
  | f + 1, at', kn, pl => by
    rw [walkF]
    split
    · exact Nat.zero_le _
    · split
      · exact Nat.zero_le _
      · exact Nat.succ_le_succ (walk_len f _ _ _)
theorem ints_ok {bs : List Int} (h : ∀ x ∈ bs, isVal x) : ∀ v ∈ bs.map V.int, OkI v := fun v hv i e => by
  obtain ⟨x, hx, rfl⟩ := List.mem_map.mp hv
  injection e with e
  subst e
  exact h x hx
theorem MOk.walk {S : MS} (o : MOk S) (es : List (Option Ent)) : ∀ c ∈ (S.walk es).1, isVal c.a ∧ isVal c.b ∧ isVal c.c ∧ 0 ≤ c.n := walk_val 5000 _ _ _ (ints_ok o.hv) o.cv
theorem MOk.kn {S : MS} (o : MOk S) : KnOk (S.held.map V.int) := ⟨by rw [List.length_map]; exact o.h8, fun v hv => by
  obtain ⟨x, hx, rfl⟩ := List.mem_map.mp hv
  have := o.hv x hx
  exact .inr ⟨x, rfl, by have := this.1; omega, by have := this.2; omega⟩⟩
theorem MOk.pl {S : MS} (o : MOk S) : PlOk S.cells := fun x hx => by
  have := o.cv x hx
  exact ⟨by have := this.1; omega, by have := this.2; omega⟩

local macro_rules | `(tactic| walk_at "mine") => `(tactic| first
  | (with_reducible refine r_chain ?_) | (with_reducible refine r_raiseI ?_) | (with_reducible refine r_base ?_) | (with_reducible refine r_fst2 ?_) | (with_reducible refine r_sX ?_) | (with_reducible refine r_xfld ?_) | (with_reducible refine r_tryD ?_) | (with_reducible refine r_bSet ?_) | (with_reducible refine r_xTup ?_) | (with_reducible refine r_xCons ?_) | (with_reducible refine r_xNil ?_) | (with_reducible refine r_xPl ?_) | (with_reducible refine r_xCall ?_) | (with_reducible refine r_int1b ?_)
  | (with_reducible refine r_dnew ?_) | (with_reducible refine r_dPut ?_) | (with_reducible refine r_makeD _ _ _ ?_) | (with_reducible refine r_bitlen ?_) | (with_reducible refine r_tyI ?_) | (with_reducible refine r_low ?_) | (with_reducible refine r_gCons ?_) | (with_reducible refine r_gNil ?_)
  | ((with_reducible refine' r_gTup ?x ?y ?_); (case x => walk_at "sqt"); (case y => with_unfolding_all rfl))
  | ((with_reducible refine' r_dict ?x ?_); (case x => walk_at "hlk"))
  | ((with_reducible refine' r_dputI ?x ?y ?_); (case x => walk_at "hlk"); (case y => walk_at "small"))
  | ((with_reducible refine' r_plusL ?x ?y ?z ?_); (case x => walk_at "hlk"); (case y => walk_at "hlk"); (case z => walk_at "small")))
local macro_rules | `(tactic| walk_at "mine") => `(tactic| first | (with_reducible refine r_tryDN ?_) | (with_reducible refine r_enum ?_) | (with_reducible refine r_revL ?_) | ((with_reducible refine' r_revV ?x ?_); (case x => walk_at "sql")) | (with_reducible refine r_chain ?_) | (with_reducible refine r_makeV ?_) | ((with_reducible refine' r_keptOf ?x ?y ?_); (case x => walk_at "sql"); (case y => first | assumption | apply_assumption)) | (with_reducible refine r_dnew ?_) | (with_reducible refine r_makeD _ _ _ ?_) | ((with_reducible refine' r_dict ?x ?_); (case x => walk_at "hlk")) | ((with_reducible refine' r_plusL ?x ?y ?z ?_); (case x => walk_at "hlk"); (case y => walk_at "hlk"); (case z => walk_at "small")))
local macro_rules | `(tactic| walk_at "lk") => `(tactic| with_reducible assumption)
local macro_rules | `(tactic| walk_at "nolk") => `(tactic| with_reducible assumption)
local macro_rules | `(tactic| walk_at "fewf") => `(tactic| first | exact Nat.lt_of_le_of_lt (by assumption) (by decide : 9 < 1000) | exact Nat.lt_of_le_of_lt (len_of (by assumption)) (by decide : 9 + 1 < 1000) | exact Nat.lt_of_le_of_lt (len_of (len_of (by assumption))) (by decide : 9 + 1 + 1 < 1000) | exact Nat.lt_of_le_of_lt (len_of (len_of (len_of (by assumption)))) (by decide : 9 + 1 + 1 + 1 < 1000) | exact Nat.lt_of_le_of_lt (len_of (len_of (len_of (len_of ((Nat.le_refl 0)))))) (by decide) | exact Nat.lt_of_le_of_lt (len_of (len_of (len_of (len_of (len_of ((Nat.le_refl 0))))))) (by decide) | exact Nat.lt_of_le_of_lt (len_of (len_of (len_of (len_of (len_of (len_of ((Nat.le_refl 0)))))))) (by decide) | exact Nat.lt_of_le_of_lt (len_of (len_of (len_of (len_of (len_of (len_of (len_of ((Nat.le_refl 0))))))))) (by decide) | exact Nat.lt_of_le_of_lt (len_of (len_of (len_of (len_of (len_of (len_of (len_of (len_of ((Nat.le_refl 0)))))))))) (by decide) | exact Nat.lt_of_le_of_lt (len_of (len_of (len_of (len_of (len_of (len_of (len_of (len_of (len_of ((Nat.le_refl 0))))))))))) (by decide))
section
variable {P : Program} {w : World} {K : PySem.W.Frag} {mg : Str → Option Value} {base : Heap} {a : Adr}
set_option maxHeartbeats 4000000 in
theorem xinit_Astray (T : Txt K mg a) : XInit P w K mg base 1 "Astray" a.C_Astray "row" := by
  obtain ⟨f0, fd0, F, c0, hb0⟩ := T.xi_Astray
  refine ⟨f0, fd0, _, c0, F.ok (k := 0) sc_Astray_init (fun vs H Q E h => ?_) (fun cdv A outer s H vs Q E hr h => ?_), hb0⟩
  · obtain ⟨e, i, rfl, _⟩ := h
    rfl
  · obtain ⟨e, i, rfl, he, hlg, q⟩ := h
    refine ⟨_, (pss_cons (ps_expr (pe_baseInit T.xb_FrameError T.xo_Astray.choose_spec rfl (pa_cons (pv 0) (pa_cons (pe_fst2 (pv 1)) pa_nil))))
      (pss_one (ps_setXK (K := K) rfl (pv 0) (pv 1)))), ?_⟩
    refine r_st (σ' := [some _, some _]) rfl ?_
    walk_at "rd"
    refine ⟨hlg, ?_⟩
    walk_at "rd"
    refine ⟨e, _, rfl, he, ?_⟩
    walk_at "rd"
    refine ⟨e, a.C_Astray, rfl, he, T.xs_Astray, fun d hd => ?_⟩
    walk_at "rd"
    exact q d hd
end
section
variable {P : Program} {w : World} {K : PySem.W.Frag} {mg : Str → Option Value} {base : Heap} {a : Adr}
set_option maxHeartbeats 4000000 in
theorem ok_bounded (T : Txt K mg a) : FnE P w K mg base CX0 1 "bounded" spBounded := by
  refine fnE_of (sp := spBounded) 0 T.fn_bounded sc_bounded (fun vs H Q E h => ?_) (fun f cdv A outer s H vs Q E hr h => ?_)
  · obtain ⟨n, top, rfl, _⟩ := h
    rfl
  · obtain ⟨n, top, rfl, h0, h1, q⟩ := h
    refine ⟨_, (pss_cons (ps_if (PW.pt (pw_or (pt_cmpR op_lt (pv 0) pe_int (nomark _)) (pw_or1 (pt_cmpR op_gt (pv 0) (pv 1) (nomark _))))) (pss_one ps_never) pss_nil)
      (pss_one (ps_ret (pv 0)))), ?_⟩
    refine r_st (σ' := [some _, some _]) rfl ?_
    walk_at "rd"
    exact q
end
section
variable {P : Program} {w : World} {K : PySem.W.Frag} {mg : Str → Option Value} {base : Heap} {a : Adr}
set_option maxHeartbeats 4000000 in
theorem ok_with_box (T : Txt K mg a) : FnE P w K mg base CX0 1 "with_box" (spWithBox K) := by
  refine fnE_of (sp := (spWithBox K)) 0 T.fn_with_box sc_with_box (fun vs H Q E h => ?_) (fun f cdv A outer s H vs Q E hr h => ?_)
  · obtain ⟨p, xs, b, v, rfl, _⟩ := h
    rfl
  · obtain ⟨p, xs, b, v, rfl, hS, h0, h1, q⟩ := h
    refine ⟨_, (pss_cons (ps_set (i := 3) sc_with_box.nd rfl (Or.inl rfl) (pe_callTy (call_listK (K := K) rfl) rfl T.z_list b_list (pa_cons (pv 0) pa_nil)))
      (pss_cons (ps_asg (pv 2) (pg_sub (pv 3) (pv 1) set_list))
      (pss_one (ps_ret (pv 3))))), ?_⟩
    refine r_st (σ' := [some _, some _, some _, none]) rfl ?_
    walk_at "rd"
    rename_i l hl
    rw [upd_again]
    exact q l hl
end
section
variable {P : Program} {w : World} {K : PySem.W.Frag} {mg : Str → Option Value} {base : Heap} {a : Adr}
set_option maxHeartbeats 4000000 in
theorem me_Grow_height (T : Txt K mg a) (m : Int) : MethE P w K mg base CX0 1 a.C_Grow "height" (spHeight a (.grow m)) := by
  refine methE_of (sp := (spHeight a (.grow m))) 0 T.cl_Grow T.m_Grow_height sc_Grow_height (fun vs H Q E h => ?_) (fun f cdv A outer s H vs Q E hr h => ?_)
  · obtain ⟨x, z, rfl, _⟩ := h
    rfl
  · obtain ⟨x, z, rfl, ⟨dx, hx⟩, q⟩ := h
    change H x = some (.ins a.C_Grow dx (putF "many" (.int m) [])) at hx
    refine ⟨_, (pss_cons (ps_if (pt_cmpR op_gt (pe_op (op_plusK (K := K) rfl) (pv 1) (pe_fldK (K := K) rfl (pv 0))) (pe_glob (v := .int 4000) rfl T.g_TOP_CELLS.choose_spec ⟨_, rfl⟩) (nomark _)) (pss_one (ps_ret pe_non)) pss_nil)
      (pss_one (ps_ret (pe_op (op_plusK (K := K) rfl) (pv 1) (pe_fldK (K := K) rfl (pv 0)))))), ?_⟩
    refine r_st (σ' := [some _, some _]) rfl ?_
    walk_at "rds"
    all_goals (try simp only [Rw.height] at q); (repeat' split at q) <;> first | exact q | (exfalso; omega)
end
section
variable {P : Program} {w : World} {K : PySem.W.Frag} {mg : Str → Option Value} {base : Heap} {a : Adr}
set_option maxHeartbeats 4000000 in
theorem mkb_Table (T : Txt K mg a) : MkE P w K mg base CX0 1 "Table" a.C_Table (spTab K a.C_Table) ∧ MkD P w K mg base CX0 1 "Table" a.C_Table (spTab K a.C_Table) := by
  refine mkE_ofD (sp := (spTab K a.C_Table)) 0 T.c_Table T.i_Table sc_Table_init (fun vs H Q E h => ?_) (fun f cdv A outer s H vs Q E hr h => ?_)
  · obtain ⟨x, dx, pe, lv, xs, kvs, rfl, _⟩ := h
    rfl
  · obtain ⟨x, dx, pe, lv, xs, kvs, rfl, hx, hS, hd, q⟩ := h
    refine ⟨_, (pss_cons (ps_fldK (K := K) rfl (pv 0) (pe_callTy (call_listK (K := K) rfl) rfl T.z_list b_list (pa_cons (pv 1) pa_nil)))
      (pss_one (ps_fldK (K := K) rfl (pv 0) (pe_ifExp (pt_cmpR op_isNA (pv 2) pe_non (nomark _)) pe_dnewK (pe_callTy call_dict1 rfl T.z_dict b_dict (pa_cons (pv 2) pa_nil)))))), ?_⟩
    refine r_st (σ' := [some _, some _, some _]) rfl ?_
    rcases hd with ⟨rfl, rfl⟩ | ⟨pd, rfl, hd⟩
    · walk_at "rd"
      rename_i l hl d hd
      have nx := none_upd hd
      have nl := none_upd nx.1
      refine q l d _ hl nl.1 nl.2.symm (fun b o e ne => ?_) upd_same ?_ ?_
      · rw [upd_ne ne, upd_ne (ne_of_none (show upd (upd H l (.lst xs)) x _ b = some o from by rw [upd_ne ne, upd_ne (ne_of_none e hl)]; exact e) hd), upd_ne ne, upd_ne (ne_of_none e hl)]; exact e
      · rw [upd_ne (ne_of_none hx hl).symm, upd_ne nl.2.symm, upd_ne (ne_of_none hx hl).symm, upd_same]
      · rw [upd_ne nx.2, upd_same]
    · have npx : pd ≠ x := ne_of hd hx (by intro z; cases z)
      walk_at "rd"
      rename_i l hl d hd'
      have nx := none_upd hd'
      have nl := none_upd nx.1
      refine q l d _ hl nl.1 nl.2.symm (fun b o e ne => ?_) upd_same ?_ ?_
      · rw [upd_ne ne, upd_ne (ne_of_none (show upd (upd H l (.lst xs)) x _ b = some o from by rw [upd_ne ne, upd_ne (ne_of_none e hl)]; exact e) hd'), upd_ne ne, upd_ne (ne_of_none e hl)]; exact e
      · rw [upd_ne (ne_of_none hx hl).symm, upd_ne nl.2.symm, upd_ne (ne_of_none hx hl).symm, upd_same]
      · rw [upd_ne nx.2, upd_same]
theorem mk_Table (T : Txt K mg a) : MkE P w K mg base CX0 1 "Table" a.C_Table (spTab K a.C_Table) := (mkb_Table T).1
end
section
variable {P : Program} {w : World} {K : PySem.W.Frag} {mg : Str → Option Value} {base : Heap} {a : Adr}
set_option maxHeartbeats 4000000 in
theorem ok_sets_of (T : Txt K mg a) : FnE P w K mg base CX0 1 "sets_of" (spSets K) := by
  refine fnE_of (sp := (spSets K)) 0 T.fn_sets_of sc_sets_of (fun vs H Q E h => ?_) (fun f cdv A outer s H vs Q E hr h => ?_)
  · obtain ⟨p, e, rfl, _⟩ := h
    rfl
  · obtain ⟨p, e, rfl, ⟨pk, h1, h2⟩, q⟩ := h
    refine ⟨_, (pss_cons (ps_set (i := 1) sc_sets_of.nd rfl (Or.inl rfl) (pe_ix (ix_K (K := K) rfl) (pv 0) pe_int (fun _ _ => rfl)))
      (pss_one (ps_ret (pe_tup (pa_cons (pe_ix (ix_K (K := K) rfl) (pv 0) pe_int (fun _ _ => rfl)) (pa_cons (pe_ix (ix_K (K := K) rfl) (pv 1) pe_int (fun _ _ => rfl)) (pa_cons (pe_ix (ix_K (K := K) rfl) (pv 1) pe_int (fun _ _ => rfl)) (pa_cons (pe_ix (ix_K (K := K) rfl) (pv 1) pe_int (fun _ _ => rfl)) pa_nil)))))))), ?_⟩
    refine r_st (σ' := [some _, none]) rfl ?_
    walk_at "rd"
    exact q _ (by assumption)
end
section
variable {P : Program} {w : World} {K : PySem.W.Frag} {mg : Str → Option Value} {base : Heap} {a : Adr}
set_option maxHeartbeats 4000000 in
theorem ok_lowest_place (T : Txt K mg a) : FnE P w K mg base CX0 1 "lowest_place" spLow := by
  refine fnE_of (sp := spLow) 0 T.fn_lowest_place sc_lowest_place (fun vs H Q E h => ?_) (fun f cdv A outer s H vs Q E hr h => ?_)
  · obtain ⟨i, rfl, _⟩ := h
    rfl
  · obtain ⟨i, rfl, q⟩ := h
    refine ⟨_, (pss_one (ps_ret (pe_op op_sub (pe_bm0K (K := K) rfl PySem.F.plainAttrs_int PySem.F.slot_int_bit_length PySem.F.type_int_bit_length mt_bitlen (pe_op op_and (pv 0) (pe_un un_neg (pv 0)))) pe_int))), ?_⟩
    refine r_st (σ' := [some _]) rfl ?_
    walk_at "rd"
    exact q
end
section
variable {P : Program} {w : World} {K : PySem.W.Frag} {mg : Str → Option Value} {base : Heap} {a : Adr}
set_option maxHeartbeats 4000000 in
theorem me_Drop_told (T : Txt K mg a) (b : Int) : MethE P w K mg base CX0 1 a.C_Drop "told" (spTold a (.drop b)) := by
  refine methE_of (sp := (spTold a (.drop b))) 0 T.cl_Drop T.m_Drop_told sc_Drop_told (fun vs H Q E h => ?_) (fun f cdv A outer s H vs Q E hr h => ?_)
  · obtain ⟨x, rfl, _⟩ := h
    rfl
  · obtain ⟨x, rfl, ⟨dx, hx⟩, q⟩ := h
    change H x = some (.ins a.C_Drop dx (putF "box" (.int b) [])) at hx
    refine ⟨_, (pss_one (ps_ret (pe_tup (pa_cons pe_str (pa_cons (pe_fldK (K := K) rfl (pv 0)) pa_nil))))), ?_⟩
    refine r_st (σ' := [some _]) rfl ?_
    walk_at "rd"
    exact q _ (by assumption)
end
section
variable {P : Program} {w : World} {K : PySem.W.Frag} {mg : Str → Option Value} {base : Heap} {a : Adr}
set_option maxHeartbeats 4000000 in
theorem ok_kept_of (T : Txt K mg a) : FnE P w K mg base CX0 1 "kept_of" (spKeptOf K) := by
  refine fnE_of (sp := (spKeptOf K)) 0 T.fn_kept_of sc_kept_of (fun vs H Q E h => ?_) (fun f cdv A outer s H vs Q E hr h => ?_)
  · obtain ⟨p, bs, rfl, _⟩ := h
    rfl
  · obtain ⟨p, bs, rfl, hS, h8, q⟩ := h
    refine ⟨_, (pss_one (ps_ret (pe_tup (pa_cons (pe_ix (ix_K (K := K) rfl) (pv 0) pe_int (fun _ _ => rfl)) (pa_cons (pe_ix (ix_K (K := K) rfl) (pv 0) pe_int (fun _ _ => rfl)) (pa_cons (pe_ix (ix_K (K := K) rfl) (pv 0) pe_int (fun _ _ => rfl)) pa_nil)))))), ?_⟩
    refine r_st (σ' := [some _]) rfl ?_
    walk_at "rd"
    exact q _ (by assumption)
end
section
variable {P : Program} {w : World} {K : PySem.W.Frag} {mg : Str → Option Value} {base : Heap} {a : Adr}
set_option maxHeartbeats 4000000 in
theorem me_Machine_word_ahead_of (T : Txt K mg a)  : MethE P w K mg base CX0 1 a.C_Machine "word_ahead_of" (spWA a) := by
  refine methE_of (sp := (spWA a)) 0 T.cl_Machine T.m_Machine_word_ahead_of sc_Machine_word_ahead_of (fun vs H Q E h => ?_) (fun f cdv A outer s H vs Q E hr h => ?_)
  · obtain ⟨m, dx, fs, home, n, rfl, _⟩ := h
    rfl
  · obtain ⟨m, dx, fs, home, n, rfl, hm, hf, q⟩ := h
    unfold wordAhead at q
    refine ⟨_, (pss_cons (ps_if (pt_cmpR (op_eqK (K := K) rfl hr.units) (pv 1) (pe_fldK (K := K) rfl (pv 0)) (nomark _)) (pss_one (ps_ret pe_str)) pss_nil)
      (pss_one (ps_ret (pe_ifExp (pt_chain op_le op_lt pe_int (pv 1) (pe_fldK (K := K) rfl (pv 0))) pe_str pe_str)))), ?_⟩
    refine r_st (σ' := [some _, some _]) rfl ?_
    walk_at "rds"
    all_goals (repeat' split at q) <;> first | exact q | (exfalso; omega)
end
section
variable {P : Program} {w : World} {K : PySem.W.Frag} {mg : Str → Option Value} {base : Heap} {a : Adr}
set_option maxHeartbeats 4000000 in
theorem me_Machine_at (T : Txt K mg a)  : MethE P w K mg base CX0 1 a.C_Machine "at" (spFld a "coming") := by
  refine methE_of (sp := (spFld a "coming")) 0 T.cl_Machine T.m_Machine_at sc_Machine_at (fun vs H Q E h => ?_) (fun f cdv A outer s H vs Q E hr h => ?_)
  · obtain ⟨m, dx, fs, v, rfl, _⟩ := h
    rfl
  · obtain ⟨m, dx, fs, v, rfl, hm, hf, q⟩ := h
    refine ⟨_, (pss_one (ps_ret (pe_fldK (K := K) rfl (pv 0)))), ?_⟩
    refine r_st (σ' := [some _]) rfl ?_
    walk_at "rd"
    exact q
end
section
variable {P : Program} {w : World} {K : PySem.W.Frag} {mg : Str → Option Value} {base : Heap} {a : Adr}
set_option maxHeartbeats 4000000 in
theorem me_Machine_boxes (T : Txt K mg a)  : MethE P w K mg base CX0 1 a.C_Machine "boxes" (spLFld a "held") := by
  refine methE_of (sp := (spLFld a "held")) 0 T.cl_Machine T.m_Machine_boxes sc_Machine_boxes (fun vs H Q E h => ?_) (fun f cdv A outer s H vs Q E hr h => ?_)
  · obtain ⟨m, dx, p, fs, xs, rfl, _⟩ := h
    rfl
  · obtain ⟨m, dx, p, fs, xs, rfl, hm, hf, hp, q⟩ := h
    refine ⟨_, (pss_one (ps_ret (pe_callTy (call_listK (K := K) rfl) rfl T.z_list b_list (pa_cons (pe_fldK (K := K) rfl (pv 0)) pa_nil)))), ?_⟩
    refine r_st (σ' := [some _]) rfl ?_
    walk_at "rd"
    exact q _ (by assumption)
end
section
variable {P : Program} {w : World} {K : PySem.W.Frag} {mg : Str → Option Value} {base : Heap} {a : Adr}
set_option maxHeartbeats 4000000 in
theorem me_Machine_pile (T : Txt K mg a)  : MethE P w K mg base CX0 1 a.C_Machine "pile" (spLFld a "cells") := by
  refine methE_of (sp := (spLFld a "cells")) 0 T.cl_Machine T.m_Machine_pile sc_Machine_pile (fun vs H Q E h => ?_) (fun f cdv A outer s H vs Q E hr h => ?_)
  · obtain ⟨m, dx, p, fs, xs, rfl, _⟩ := h
    rfl
  · obtain ⟨m, dx, p, fs, xs, rfl, hm, hf, hp, q⟩ := h
    refine ⟨_, (pss_one (ps_ret (pe_callTy (call_listK (K := K) rfl) rfl T.z_list b_list (pa_cons (pe_fldK (K := K) rfl (pv 0)) pa_nil)))), ?_⟩
    refine r_st (σ' := [some _]) rfl ?_
    walk_at "rd"
    exact q _ (by assumption)
end
section
variable {P : Program} {w : World} {K : PySem.W.Frag} {mg : Str → Option Value} {base : Heap} {a : Adr}
set_option maxHeartbeats 4000000 in
theorem me_Machine_word (T : Txt K mg a)  : MethE P w K mg base CX0 1 a.C_Machine "word" (spFld a "state") := by
  refine methE_of (sp := (spFld a "state")) 0 T.cl_Machine T.m_Machine_word sc_Machine_word (fun vs H Q E h => ?_) (fun f cdv A outer s H vs Q E hr h => ?_)
  · obtain ⟨m, dx, fs, v, rfl, _⟩ := h
    rfl
  · obtain ⟨m, dx, fs, v, rfl, hm, hf, q⟩ := h
    refine ⟨_, (pss_one (ps_ret (pe_fldK (K := K) rfl (pv 0)))), ?_⟩
    refine r_st (σ' := [some _]) rfl ?_
    walk_at "rd"
    exact q
end
section
variable {P : Program} {w : World} {K : PySem.W.Frag} {mg : Str → Option Value} {base : Heap} {a : Adr}
set_option maxHeartbeats 4000000 in
theorem me_Machine_book (T : Txt K mg a)  : MethE P w K mg base CX0 1 a.C_Machine "book" (spBook a) := by
  refine methE_of (sp := (spBook a)) 0 T.cl_Machine T.m_Machine_book sc_Machine_book (fun vs H Q E h => ?_) (fun f cdv A outer s H vs Q E hr h => ?_)
  · obtain ⟨m, dx, pk, fs, cs, rfl, _⟩ := h
    rfl
  · obtain ⟨m, dx, pk, fs, cs, rfl, hm, hf, hk, q⟩ := h
    refine ⟨_, (pss_one (ps_ret (pe_revl (K := K) rfl rfl rfl T.z_list rfl T.z_reversed (pe_fldK (K := K) rfl (pv 0))))), ?_⟩
    refine r_st (σ' := [some _]) rfl ?_
    walk_at "rd"
    exact q _ (by assumption)
end
section
variable {P : Program} {w : World} {K : PySem.W.Frag} {mg : Str → Option Value} {base : Heap} {a : Adr}
set_option maxHeartbeats 4000000 in
theorem me_Machine_fault (T : Txt K mg a)  : MethE P w K mg base CX0 1 a.C_Machine "fault" (spFld a "dropped") := by
  refine methE_of (sp := (spFld a "dropped")) 0 T.cl_Machine T.m_Machine_fault sc_Machine_fault (fun vs H Q E h => ?_) (fun f cdv A outer s H vs Q E hr h => ?_)
  · obtain ⟨m, dx, fs, v, rfl, _⟩ := h
    rfl
  · obtain ⟨m, dx, fs, v, rfl, hm, hf, q⟩ := h
    refine ⟨_, (pss_one (ps_ret (pe_fldK (K := K) rfl (pv 0)))), ?_⟩
    refine r_st (σ' := [some _]) rfl ?_
    walk_at "rd"
    exact q
end
section
variable {P : Program} {w : World} {K : PySem.W.Frag} {mg : Str → Option Value} {base : Heap} {a : Adr}
set_option maxHeartbeats 4000000 in
theorem me_Machine_forget (T : Txt K mg a)  : MethE P w K mg base CX0 1 a.C_Machine "forget" (spForget a) := by
  refine methE_of (sp := (spForget a)) 0 T.cl_Machine T.m_Machine_forget sc_Machine_forget (fun vs H Q E h => ?_) (fun f cdv A outer s H vs Q E hr h => ?_)
  · obtain ⟨m, dx, pk, fs, k, xs, rfl, _⟩ := h
    rfl
  · obtain ⟨m, dx, pk, fs, k, xs, rfl, hm, hf, hk, k0, hl, q⟩ := h
    have ne : m ≠ pk := fun z => by rw [z, hk] at hm; cases hm
    refine ⟨_, (pss_cons (ps_set (i := 2) sc_Machine_forget.nd rfl (Or.inl rfl) (pe_callB (call_maxA rfl) rfl T.z_max b_max (pa_cons pe_int (pa_cons (pe_op op_sub (pe_callB (call_lenK (K := K) rfl) rfl T.z_len b_len (pa_cons (pe_fldK (K := K) rfl (pv 0)) pa_nil)) (pv 1)) pa_nil))))
      (pss_one (ps_while PassesOwn.never (pt_cmpR op_gt (pe_callB (call_lenK (K := K) rfl) rfl T.z_len b_len (pa_cons (pe_fldK (K := K) rfl (pv 0)) pa_nil)) (pv 2) (nomark _)) (pss_one (ps_expr (pe_bm0K (K := K) rfl PySem.F.plainAttrs_list PySem.F.slot_list_pop PySem.F.type_list_pop mt_pop (pe_fldK (K := K) rfl (pv 0)))))))), ?_⟩
    refine r_st (σ' := [some _, some _, none]) rfl ?_
    walk_at "rd"
    have hL : (if (xs.length : Int) - k > 0 then (xs.length : Int) - k else 0) = ((xs.length - k.toNat : Nat) : Int) := by split <;> omega
    rw [hL]
    refine ⟨fun w σ H2 => xs.length - k.toNat ≤ w ∧ w ≤ xs.length ∧ σ = [some (.ref m), some (.int k), some (.int ((xs.length - k.toNat : Nat) : Int))] ∧ H2 pk = some (.lst (xs.take w)) ∧ ∀ b, b ≠ pk → H2 b = H b, ⟨xs.length, by omega, Nat.le_refl _, rfl, by rw [List.take_length]; exact hk, fun b _ => rfl⟩, ?_⟩
    rintro j σ H2 ⟨j0, j1, rfl, hk2, hb⟩
    have hm2 : H2 m = some (.ins a.C_Machine dx fs) := by rw [hb m ne]; exact hm
    have lj : (xs.take j).length = j := by rw [List.length_take]; omega
    walk_at "rd"
    rw [lj]
    refine ifDec (fun hh => ?_) (fun hh => ?_)
    · refine ⟨_, fun σ' H' h => h, ?_⟩
      have hj : j - 1 < xs.length := by omega
      have ej : xs.take j = xs.take (j - 1) ++ [xs[j - 1]] := by
        have := List.take_append_getElem hj
        rw [this]
        congr 1; omega
      walk_at "rd"
      refine r_pop (by rw [← ej]; exact hk2) ?_
      walk_at "rd"
      exact ⟨j - 1, by omega, by omega, by omega, rfl, upd_same, fun b hb' => by rw [upd_ne hb']; exact hb b hb'⟩
    · have ej : j = xs.length - k.toNat := by omega
      subst ej
      walk_at "rd"
      exact q H2 hk2 hb
end
section
variable {P : Program} {w : World} {K : PySem.W.Frag} {mg : Str → Option Value} {base : Heap} {a : Adr}
set_option maxHeartbeats 4000000 in
theorem ok_law_cell_at (T : Txt K mg a) : FnE P w K mg base CX0 1 "_law_cell_at" (spCellAt K) := by
  refine fnE_of (sp := (spCellAt K)) 0 T.fn_law_cell_at sc_law_cell_at (fun vs H Q E h => ?_) (fun f cdv A outer s H vs Q E hr h => ?_)
  · obtain ⟨p, ns, k, rfl, _⟩ := h
    rfl
  · obtain ⟨p, ns, k, rfl, hS, h0, q⟩ := h
    refine ⟨_, (pss_cons (ps_if (pt_cmpR op_lt (pv 1) (pe_callB (call_lenK (K := K) rfl) rfl T.z_len b_len (pa_cons (pv 0) pa_nil)) (nomark _)) (pss_one (ps_ret (pe_ix (ix_K (K := K) rfl) (pv 0) (pv 1) (fun _ _ => rfl)))) pss_nil)
      (pss_one (ps_ret pe_int))), ?_⟩
    refine r_st (σ' := [some _, some _]) rfl ?_
    walk_at "rd"
    refine ifDec (fun hh => ?_) (fun hh => ?_)
    · walk_at "rd"
      exact q
    · walk_at "rd"
      have e := cellAt_out h0 hh
      rw [e] at q
      exact q
end
section
variable {P : Program} {w : World} {K : PySem.W.Frag} {mg : Str → Option Value} {base : Heap} {a : Adr}
set_option maxHeartbeats 4000000 in
theorem ok_law_entry (T : Txt K mg a) : FnE P w K mg base CX0 1 "_law_entry" (spAnyE K) := by
  refine fnE_of (sp := (spAnyE K)) 0 T.fn_law_entry sc_law_entry (fun vs H Q E h => ?_) (fun f cdv A outer s H vs Q E hr h => ?_)
  · obtain ⟨c, rfl, _⟩ := h
    rfl
  · obtain ⟨c, rfl, q⟩ := h
    refine ⟨_, (pss_cons (ps_if (pt_cmpR (op_eqK (K := K) rfl hr.units) (pe_op op_mod (pv 0) pe_int) pe_int (nomark _)) (pss_one (ps_ret pe_non)) pss_nil)
      (pss_cons (ps_set (i := 1) sc_law_entry.nd rfl (Or.inl rfl) (pe_op op_mod (pe_op op_fdiv (pv 0) pe_int) pe_int))
      (pss_cons (ps_set (i := 2) sc_law_entry.nd rfl (Or.inl rfl) (pe_op (op_plusK (K := K) rfl) (pe_lst (pa_cons pe_int (pa_cons pe_int (pa_cons pe_int (pa_cons pe_int (pa_cons pe_int pa_nil)))))) (pe_comp (own := ["_law_k"]) (fr := []) rfl ⟨rfl, (by walk_at "clok"), (by walk_at "frok"), rfl, (by decide +kernel), (by decide +kernel), rfl⟩ (pi_range1 rfl T.z_range (pa_cons (pv 1) pa_nil)) (fun _ _ _ _ => (pg_name (i := 0) (show List.Nodup [("_law_k" : Str)] from by decide +kernel) rfl (Or.inl rfl))) (fun _ _ _ _ => pts_nil) (fun _ _ _ _ => (pe_op op_shlB pe_int (pe_op (op_plusK (K := K) rfl) pe_int (pv 0)))))))
      (pss_cons (ps_set (i := 3) sc_law_entry.nd rfl (Or.inl rfl) (pe_op op_mod (pe_op op_fdiv (pv 0) pe_int) (pe_callB (call_lenK (K := K) rfl) rfl T.z_len b_len (pa_cons (pv 2) pa_nil))))
      (pss_cons (ps_set (i := 4) sc_law_entry.nd rfl (Or.inl rfl) (pe_op (op_plusK (K := K) rfl) pe_int (pe_op op_mod (pe_op op_fdiv (pv 0) pe_int) pe_int)))
      (pss_one (ps_ret (pe_tup (pa_cons (pv 1) (pa_cons (pe_ix (ix_K (K := K) rfl) (pv 2) (pv 3) (fun _ _ => rfl)) (pa_cons (pe_tup (pa_cons (pe_ix (ix_K (K := K) rfl) (pv 2) (pe_op op_mod (pe_op (op_plusK (K := K) rfl) (pv 3) (pv 4)) pe_int) (fun _ _ => rfl)) (pa_cons (pe_ix (ix_K (K := K) rfl) (pv 2) (pe_op op_mod (pe_op (op_plusK (K := K) rfl) (pv 3) (pe_op op_times pe_int (pv 4))) (pe_callB (call_lenK (K := K) rfl) rfl T.z_len b_len (pa_cons (pv 2) pa_nil))) (fun _ _ => rfl)) (pa_cons pe_int pa_nil)))) pa_nil))))))))))), ?_⟩
    refine r_st (σ' := [some _, none, none, none, none]) rfl ?_
    walk_at "rd"
    refine ifInt (fun hh => ?_) (fun hh => ?_)
    · walk_at "rd"
      exact q .non none H (Same.refl _) rfl
    · walk_at "rd"
      have hb : 0 ≤ c / 7 % 3 ∧ c / 7 % 3 ≤ 2 := by omega
      generalize c / 7 % 3 = g at hb ⊢
      obtain ⟨g0, g1⟩ := hb
      walk_at "rd"
      refine comp_mapR (fun k => .int ((2 ^ (8 + (0 + (k : Int))).toNat : Nat) : Int)) (fun σ => ∃ v, σ = [v]) (by walk_at "small") ⟨_, rfl⟩ ?_ ?_
      · rintro i ys σ H1 hi cc s ⟨v, rfl⟩
        walk_at "rd"
        refine r_I (shl_one (by omega) (by omega)) ?_
        rw [one_shl]
        exact cc.next (range_get hi) rfl (by walk_at "same") ⟨_, rfl⟩
      intro H1 s1
      rw [map_int]
      have hL : ((List.range g.toNat).map fun k : Nat => ((2 ^ (8 + (0 + (k : Int))).toNat : Nat) : Int)).length ≤ 2 := by rw [List.length_map, List.length_range]; omega
      generalize ((List.range g.toNat).map fun k : Nat => ((2 ^ (8 + (0 + (k : Int))).toNat : Nat) : Int)) = L at hL ⊢
      walk_at "rd"
      rw [show ([V.int 16, V.int 32, V.int 64, V.int 1, V.int 128] ++ List.map V.int L) = ([16, 32, 64, 1, 128] ++ L).map V.int from by rw [List.map_append]; rfl, List.length_map]
      have hx5 : 5 ≤ ([16, 32, 64, 1, 128] ++ L).length ∧ ([16, 32, 64, 1, 128] ++ L).length ≤ 7 := by rw [List.length_append]; show 5 ≤ 5 + L.length ∧ 5 + L.length ≤ 7; omega
      generalize ([16, 32, 64, 1, 128] ++ L) = xs at hx5 ⊢
      obtain ⟨x5, x7⟩ := hx5
      walk_at "rd"
      have hz : 0 ≤ c / 21 % (xs.length : Int) ∧ c / 21 % (xs.length : Int) < xs.length := ⟨Int.emod_nonneg _ (by omega), Int.emod_lt_of_pos _ (by omega)⟩
      generalize c / 21 % (xs.length : Int) = z at hz ⊢
      obtain ⟨z0, z1⟩ := hz
      walk_at "rd"
      have hy : 0 ≤ (z + 2 * (1 + c / 190 % 2)) % (xs.length : Int) ∧ (z + 2 * (1 + c / 190 % 2)) % (xs.length : Int) < xs.length := ⟨Int.emod_nonneg _ (by omega), Int.emod_lt_of_pos _ (by omega)⟩
      generalize (z + 2 * (1 + c / 190 % 2)) % (xs.length : Int) = y at hy ⊢
      obtain ⟨y0, y1⟩ := hy
      walk_at "rd"
      rename_i p np t nt
      exact q _ (some ⟨g, gI xs z, gI xs ((z + (1 + c / 190 % 2)) % 3), gI xs y, 64⟩) _ (by walk_at "same") ⟨t, rfl, p, SqT.of upd_same, SqT.of (look_new upd_same nt)⟩
end
section
variable {P : Program} {w : World} {K : PySem.W.Frag} {mg : Str → Option Value} {base : Heap} {a : Adr}
theorem CalVs.at3 {H : Hp} : ∀ {vs : List V} {cs : List Cal} {i : Nat} {v : V}, CalVs H vs cs → vs[i]? = some v → ∃ c, cs[i]? = some c ∧ CalV H v c
  | [], cs, i, v, _, e => by simp at e
  | u :: vs, [], i, v, h, _ => h.elim
  | u :: vs, c :: cs, 0, v, h, e => by
    cases e
    exact ⟨c, rfl, h.1⟩
  | u :: vs, c :: cs, i + 1, v, h, e => CalVs.at3 (vs := vs) (cs := cs) (i := i) h.2 (by simpa using e)
set_option maxHeartbeats 4000000 in
theorem ok_law_landing (T : Txt K mg a) : FnE P w K mg base CX0 1 "_law_landing" spLanding := by
  refine fnE_of (sp := spLanding) 0 T.fn_law_landing sc_law_landing (fun vs H Q E h => ?_) (fun f cdv A outer s H vs Q E hr h => ?_)
  · obtain ⟨p, d, home, us, cs, kvs, rfl, _⟩ := h
    rfl
  · obtain ⟨p, d, home, us, cs, kvs, rfl, hp, hcv, hu, hd, q⟩ := h
    have hlen := hcv.len
    refine ⟨_, (pss_cons (ps_for PassesOwn.never rfl (pi_range1 rfl T.z_range (pa_cons (pe_callB (call_lenK (K := K) rfl) rfl T.z_len b_len (pa_cons (pv 0) pa_nil)) pa_nil)) (pg_name (i := 3) sc_law_landing.nd rfl (Or.inl rfl)) (pss_one (ps_if (PW.pt (pw_and (pt_cmpR (op_neK (K := K) rfl hr.units) (pe_ix (ix_K (K := K) rfl) (pe_ix (ix_K (K := K) rfl) (pv 0) (pv 3) (fun _ _ => rfl)) pe_int (fun _ _ => rfl)) (pv 2) (nomark _)) (pw_and1 (pt_cmp (pc_din (hu_of hr) (pe_op op_sub (pe_ix (ix_K (K := K) rfl) (pe_ix (ix_K (K := K) rfl) (pv 0) (pv 3) (fun _ _ => rfl)) pe_int (fun _ _ => rfl)) pe_int) (pv 1)))))) (pss_one (ps_ret (pv 3))) pss_nil)))
      (pss_one (ps_ret (pe_un un_neg pe_int)))), ?_⟩
    refine r_st (σ' := [some _, some _, some _, none]) rfl ?_
    walk_at "rd"
    refine for_range (fun i σ H2 => (∃ w, σ = [some (.ref p), some (.ref d), some (.int home), w]) ∧ H2 = H ∧ ∀ j c, j < i → cs[j]? = some c → landAt home kvs c = false) ⟨⟨_, rfl⟩, rfl, fun j c hj => absurd hj (Nat.not_lt_zero _)⟩ ?_ ?_
    · rintro i σ H2 hi ⟨⟨w, rfl⟩, rfl, hno⟩
      have hi' : i < us.length := by omega
      obtain ⟨c, hc, hcal⟩ := CalVs.at3 hcv (List.getElem?_eq_getElem hi')
      obtain ⟨t, q', ex, hq1, hq2⟩ := id hcal
      have hat : atI us (0 + (i : Int)) = some (.ref t) := by rw [Int.zero_add]; exact atI_nat (by rw [List.getElem?_eq_getElem hi', ex])
      have inv : landAt home kvs c = false → ∀ j c', j < i + 1 → cs[j]? = some c' → landAt home kvs c' = false := fun hf j c' hj e => by
        rcases Nat.lt_or_ge j i with z | z
        · exact hno j c' z e
        · have : j = i := by omega
          subst this
          rw [hc] at e; cases e; exact hf
      by_cases hr1 : c.r = home
      · walk_at "rd"
        exact ⟨⟨_, rfl⟩, rfl, inv (by unfold landAt; rw [decide_eq_false (fun z => z hr1)]; rfl)⟩
      · walk_at "rd"
        refine r_dIn ?_
        walk_at "rd"
        refine r_dinI hd ?_
        cases hv : valV kvs (.inl (c.r - 1)) with
        | none =>
          walk_at "rd"
          exact ⟨⟨_, rfl⟩, rfl, inv (by unfold landAt; rw [hv, Bool.and_comm]; rfl)⟩
        | some val =>
          have hfi : cs.findIdx? (landAt home kvs) = some i := by
            rw [List.findIdx?_eq_some_iff_getElem]
            have hi2 : i < cs.length := (List.getElem?_eq_some_iff.mp hc).1
            have hci : cs[i] = c := (List.getElem?_eq_some_iff.mp hc).2
            refine ⟨hi2, ?_, fun j hj => ?_⟩
            · rw [hci]; unfold landAt; rw [hv, decide_eq_true hr1]; rfl
            · have hj' : j < cs.length := by omega
              have := hno j cs[j] hj (List.getElem?_eq_getElem hj')
              rw [this]; exact Bool.false_ne_true
          rw [show idxV cs home kvs = (i : Int) from by unfold idxV; rw [hfi]] at q
          rw [Option.isSome_some]
          walk_at "rd"
          rw [Int.zero_add]
          exact q
    · rintro σ H2 ⟨⟨w, rfl⟩, rfl, hno⟩
      have hfi : cs.findIdx? (landAt home kvs) = none := by
        rw [List.findIdx?_eq_none_iff]
        intro c hc
        obtain ⟨j, hj, e⟩ := List.mem_iff_getElem.mp hc
        exact hno j c (by omega) (by rw [List.getElem?_eq_getElem hj, e])
      rw [show idxV cs home kvs = -1 from by unfold idxV; rw [hfi]] at q
      walk_at "rd"
      exact q
end
section
variable {P : Program} {w : World} {K : PySem.W.Frag} {mg : Str → Option Value} {base : Heap} {a : Adr}
set_option maxHeartbeats 4000000 in
theorem mk_Set (T : Txt K mg a) : MkE P w K mg base CX0 2 "Set" a.C_Set (spIni2 a.C_Set Rw.set) := by
  refine mkE_of (sp := (spIni2 a.C_Set Rw.set)) 1 T.c_Set T.i_Set sc_Set_init (fun vs H Q E h => ?_) (fun f cdv A outer s H vs Q E hr h => ?_)
  · obtain ⟨x, dx, i, j, rfl, _⟩ := h
    rfl
  · obtain ⟨x, dx, i, j, rfl, ⟨⟨h1, h2⟩, ⟨h3, h4⟩⟩, hx, q⟩ := h
    refine ⟨_, (pss_cons (ps_fldK (K := K) rfl (pv 0) (pe_callE (ok_bounded (K := K) T) (hr.mono (by decide)) pass0 rfl (pa_cons (pv 1) (pa_cons (pe_glob (v := .int 7) rfl T.g_TOP_BOX.choose_spec ⟨_, rfl⟩) pa_nil))))
      (pss_one (ps_fldK (K := K) rfl (pv 0) (pe_callE (ok_bounded (K := K) T) (hr.mono (by decide)) pass0 rfl (pa_cons (pv 2) (pa_cons (pe_glob (v := .int 4294967295) rfl T.g_TOP_VALUE.choose_spec ⟨_, rfl⟩) pa_nil)))))), ?_⟩
    refine r_st (σ' := [some _, some _, some _]) rfl ?_
    walk_at "rd"
    exact q _ kp_two upd_same
end
section
variable {P : Program} {w : World} {K : PySem.W.Frag} {mg : Str → Option Value} {base : Heap} {a : Adr}
set_option maxHeartbeats 4000000 in
theorem me_Set_runs (T : Txt K mg a) (b n : Int) : MethE P w K mg base CX0 2 a.C_Set "runs" (spRuns K a (.set b n)) := by
  refine methE_of (sp := (spRuns K a (.set b n))) 1 T.cl_Set T.m_Set_runs sc_Set_runs (fun vs H Q E h => ?_) (fun f cdv A outer s H vs Q E hr h => ?_)
  · obtain ⟨x, bo, pi, z, bs, pl, rfl, _⟩ := h
    rfl
  · obtain ⟨x, bo, pi, z, bs, pl, rfl, ⟨dx, hx⟩, hk, hb, h8, hv, hp, hpl, q⟩ := h
    change H x = some (.ins a.C_Set dx (putF "number" (.int n) (putF "box" (.int b) []))) at hx
    obtain ⟨⟨k1, k2⟩, ⟨k3, k4⟩⟩ := hk
    refine ⟨_, (pss_one (ps_ret (pe_tup (pa_cons (pe_op (op_plusK (K := K) rfl) (pv 1) pe_int) (pa_cons (pe_callE (ok_with_box (K := K) T) (hr.mono (by decide)) pass0 rfl (pa_cons (pv 2) (pa_cons (pe_fldK (K := K) rfl (pv 0)) (pa_cons (pe_fldK (K := K) rfl (pv 0)) pa_nil)))) (pa_cons (pe_callTy (call_listK (K := K) rfl) rfl T.z_list b_list (pa_cons (pv 3) pa_nil)) pa_nil)))))), ?_⟩
    refine r_st (σ' := [some _, some _, some _, some _]) rfl ?_
    walk_at "rd"
    exact told_fin (by assumption) (by assumption) (by assumption) q
end
section
variable {P : Program} {w : World} {K : PySem.W.Frag} {mg : Str → Option Value} {base : Heap} {a : Adr}
set_option maxHeartbeats 4000000 in
theorem mk_Grow (T : Txt K mg a) : MkE P w K mg base CX0 2 "Grow" a.C_Grow (spIni1 a.C_Grow Rw.grow) := by
  refine mkE_of (sp := (spIni1 a.C_Grow Rw.grow)) 1 T.c_Grow T.i_Grow sc_Grow_init (fun vs H Q E h => ?_) (fun f cdv A outer s H vs Q E hr h => ?_)
  · obtain ⟨x, dx, i, rfl, _⟩ := h
    rfl
  · obtain ⟨x, dx, i, rfl, ⟨h1, h2⟩, hx, q⟩ := h
    refine ⟨_, (pss_one (ps_fldK (K := K) rfl (pv 0) (pe_callE (ok_bounded (K := K) T) (hr.mono (by decide)) pass0 rfl (pa_cons (pv 1) (pa_cons (pe_glob (v := .int 4000) rfl T.g_TOP_CELLS.choose_spec ⟨_, rfl⟩) pa_nil))))), ?_⟩
    refine r_st (σ' := [some _, some _]) rfl ?_
    walk_at "rd"
    exact q _ kp_one upd_same
end
section
variable {P : Program} {w : World} {K : PySem.W.Frag} {mg : Str → Option Value} {base : Heap} {a : Adr}
set_option maxHeartbeats 4000000 in
theorem me_Grow_runs (T : Txt K mg a) (m : Int) : MethE P w K mg base CX0 2 a.C_Grow "runs" (spRuns K a (.grow m)) := by
  refine methE_of (sp := (spRuns K a (.grow m))) 1 T.cl_Grow T.m_Grow_runs sc_Grow_runs (fun vs H Q E h => ?_) (fun f cdv A outer s H vs Q E hr h => ?_)
  · obtain ⟨x, bo, pi, z, bs, pl, rfl, _⟩ := h
    rfl
  · obtain ⟨x, bo, pi, z, bs, pl, rfl, ⟨dx, hx⟩, hk, hb, h8, hv, hp, hpl, q⟩ := h
    change H x = some (.ins a.C_Grow dx (putF "many" (.int m) [])) at hx
    obtain ⟨k1, k2⟩ := hk
    refine ⟨_, (pss_cons (ps_if (pt_cmpR op_isNA (pe_methK (P := P) (w := w) (K := K) (mg := mg) (base := base) (k := 1) ⟨rfl, rfl, rfl, rfl, rfl⟩ (pv 0) (hr.mono (by decide)) pass0 (pa_cons (pe_callB (call_lenK (K := K) rfl) rfl T.z_len b_len (pa_cons (pv 3) pa_nil)) pa_nil)) pe_non (nomark _)) (pss_one (ps_ret pe_non)) pss_nil)
      (pss_one (ps_ret (pe_tup (pa_cons (pe_op (op_plusK (K := K) rfl) (pv 1) pe_int) (pa_cons (pe_callTy (call_listK (K := K) rfl) rfl T.z_list b_list (pa_cons (pv 2) pa_nil)) (pa_cons (pe_op (op_plusK (K := K) rfl) (pe_callTy (call_listK (K := K) rfl) rfl T.z_list b_list (pa_cons (pv 3) pa_nil)) (pe_op op_times (pe_lst (pa_cons pe_int pa_nil)) (pe_fldK (K := K) rfl (pv 0)))) pa_nil))))))), ?_⟩
    refine r_st (σ' := [some _, some _, some _, some _]) rfl ?_
    walk_at "rd"
    refine r_methV hx (by walk_at "nolk") ((me_Grow_height T m).mono (by decide)) ?_
    walk_at "rd"
    refine ⟨x, _, rfl, ⟨dx, hx⟩, ?_⟩
    have q : toldRun H Q (if (pl.length : Int) + m > 4000 then none else some (z + 1, bs, pl ++ List.replicate m.toNat 0)) := q
    by_cases hh : (pl.length : Int) + m > 4000
    · rw [if_pos hh] at q
      rw [show optV (Rw.height (.grow m) (pl.length : Int)) = V.non from by simp only [Rw.height]; rw [if_pos hh]; rfl]
      walk_at "rd"
      exact q _ (by walk_at "same")
    rw [if_neg hh] at q
    rw [show optV (Rw.height (.grow m) (pl.length : Int)) = V.int (pl.length + m) from by simp only [Rw.height]; rw [if_neg hh]; rfl]
    walk_at "rd"
    walk_at "tf"

end
section
variable {P : Program} {w : World} {K : PySem.W.Frag} {mg : Str → Option Value} {base : Heap} {a : Adr}
set_option maxHeartbeats 4000000 in
theorem ok_looked_up (T : Txt K mg a) : FnE P w K mg base CX0 2 "looked_up" (spLook K) := by
  refine fnE_of (sp := (spLook K)) 1 T.fn_looked_up sc_looked_up (fun vs H Q E h => ?_) (fun f cdv A outer s H vs Q E hr h => ?_)
  · obtain ⟨s, pk, pp, kn, pc, rfl, _⟩ := h
    rfl
  · obtain ⟨s, pk, pp, kn, pc, rfl, h1, h8, h2, h0, q⟩ := h
    refine ⟨_, (pss_cons (ps_if (pt_cmpR op_le (pv 0) pe_int (nomark _)) (pss_one (ps_ret pe_non)) pss_nil)
      (pss_cons (ps_set (i := 3) sc_looked_up.nd rfl (Or.inl rfl) (pe_callE (ok_lowest_place (K := K) T) (hr.mono (by decide)) pass0 rfl (pa_cons (pv 0) pa_nil)))
      (pss_cons (ps_if (pt_cmpR op_lt (pv 3) (pe_glob (v := .int 8) rfl T.g_FIRST_CELL_BIT.choose_spec ⟨_, rfl⟩) (nomark _)) (pss_one (ps_ret (pe_ix (ix_K (K := K) rfl) (pv 1) (pv 3) (fun _ _ => rfl)))) pss_nil)
      (pss_cons (ps_set (i := 4) sc_looked_up.nd rfl (Or.inl rfl) (pe_op op_sub (pv 3) (pe_glob (v := .int 8) rfl T.g_FIRST_CELL_BIT.choose_spec ⟨_, rfl⟩)))
      (pss_one (ps_ret (pe_ifExp (pt_cmpR op_lt (pv 4) (pe_callB (call_lenK (K := K) rfl) rfl T.z_len b_len (pa_cons (pv 2) pa_nil)) (nomark _)) (pe_ix (ix_K (K := K) rfl) (pv 2) (pv 4) (fun _ _ => rfl)) pe_non))))))), ?_⟩
    refine r_st (σ' := [some _, some _, some _, none, none]) rfl ?_
    walk_at "rd"
    walk_at "cs"
    · walk_at "rd"
      rw [show lookM s kn pc = .non from by unfold lookM; rw [if_pos hh]] at q
      exact q
    have hp : 0 < s := by omega
    have hl := h0 hp
    walk_at "rd"
    walk_at "cs"
    · walk_at "rd"
      exact r_ixL h1 (lookM_in hp hl (by assumption) h8) q
    have h9 := hh
    have e : lookM s kn pc = if lowP s - 8 < pc.length then .int (gI pc (lowP s - 8)) else .non := by unfold lookM; rw [if_neg (by omega), if_neg h9]
    rw [e] at q
    walk_at "rd"
    walk_at "cs"
    · have h10 := hh
      rw [if_pos h10] at q
      walk_at "rd"
      exact q
    · have h10 := hh
      rw [if_neg h10] at q
      walk_at "rd"
      exact q
end
section
variable {P : Program} {w : World} {K : PySem.W.Frag} {mg : Str → Option Value} {base : Heap} {a : Adr}
set_option maxHeartbeats 4000000 in
theorem mk_Call (T : Txt K mg a) : MkE P w K mg base CX0 2 "Call" a.C_Call (spIni1 a.C_Call Rw.call) := by
  refine mkE_of (sp := (spIni1 a.C_Call Rw.call)) 1 T.c_Call T.i_Call sc_Call_init (fun vs H Q E h => ?_) (fun f cdv A outer s H vs Q E hr h => ?_)
  · obtain ⟨x, dx, i, rfl, _⟩ := h
    rfl
  · obtain ⟨x, dx, i, rfl, ⟨h1, h2⟩, hx, q⟩ := h
    refine ⟨_, (pss_one (ps_fldK (K := K) rfl (pv 0) (pe_callE (ok_bounded (K := K) T) (hr.mono (by decide)) pass0 rfl (pa_cons (pv 1) (pa_cons (pe_glob (v := .int 2000) rfl T.g_TOP_TARGET.choose_spec ⟨_, rfl⟩) pa_nil))))), ?_⟩
    refine r_st (σ' := [some _, some _]) rfl ?_
    walk_at "rd"
    exact q _ kp_one upd_same
end
section
variable {P : Program} {w : World} {K : PySem.W.Frag} {mg : Str → Option Value} {base : Heap} {a : Adr}
set_option maxHeartbeats 4000000 in
theorem me_Call_runs (T : Txt K mg a) (t : Int) : MethE P w K mg base CX0 2 a.C_Call "runs" (spRuns K a (.call t)) := by
  refine methE_of (sp := (spRuns K a (.call t))) 1 T.cl_Call T.m_Call_runs sc_Call_runs (fun vs H Q E h => ?_) (fun f cdv A outer s H vs Q E hr h => ?_)
  · obtain ⟨x, bo, pi, z, bs, pl, rfl, _⟩ := h
    rfl
  · obtain ⟨x, bo, pi, z, bs, pl, rfl, ⟨dx, hx⟩, hk, hb, h8, hv, hp, hpl, q⟩ := h
    change H x = some (.ins a.C_Call dx (putF "target" (.int t) [])) at hx
    obtain ⟨k1, k2⟩ := hk
    refine ⟨_, (pss_one (ps_ret (pe_tup (pa_cons (pe_fldK (K := K) rfl (pv 0)) (pa_cons (pe_callE (ok_with_box (K := K) T) (hr.mono (by decide)) pass0 rfl (pa_cons (pv 2) (pa_cons (pe_glob (v := .int 7) rfl T.g_LINK.choose_spec ⟨_, rfl⟩) (pa_cons (pe_op (op_plusK (K := K) rfl) (pv 1) pe_int) pa_nil)))) (pa_cons (pe_callTy (call_listK (K := K) rfl) rfl T.z_list b_list (pa_cons (pv 3) pa_nil)) pa_nil)))))), ?_⟩
    refine r_st (σ' := [some _, some _, some _, some _]) rfl ?_
    walk_at "rd"
    exact told_fin (by assumption) (by assumption) (by assumption) q
end
section
variable {P : Program} {w : World} {K : PySem.W.Frag} {mg : Str → Option Value} {base : Heap} {a : Adr}
set_option maxHeartbeats 4000000 in
theorem mk_Drop (T : Txt K mg a) : MkE P w K mg base CX0 2 "Drop" a.C_Drop (spIni1 a.C_Drop Rw.drop) := by
  refine mkE_of (sp := (spIni1 a.C_Drop Rw.drop)) 1 T.c_Drop T.i_Drop sc_Drop_init (fun vs H Q E h => ?_) (fun f cdv A outer s H vs Q E hr h => ?_)
  · obtain ⟨x, dx, i, rfl, _⟩ := h
    rfl
  · obtain ⟨x, dx, i, rfl, ⟨h1, h2⟩, hx, q⟩ := h
    refine ⟨_, (pss_one (ps_fldK (K := K) rfl (pv 0) (pe_callE (ok_bounded (K := K) T) (hr.mono (by decide)) pass0 rfl (pa_cons (pv 1) (pa_cons (pe_glob (v := .int 7) rfl T.g_TOP_BOX.choose_spec ⟨_, rfl⟩) pa_nil))))), ?_⟩
    refine r_st (σ' := [some _, some _]) rfl ?_
    walk_at "rd"
    exact q _ kp_one upd_same
end
section
variable {P : Program} {w : World} {K : PySem.W.Frag} {mg : Str → Option Value} {base : Heap} {a : Adr}
set_option maxHeartbeats 4000000 in
theorem me_Machine_go_on (T : Txt K mg a)  : MethE P w K mg base CX0 2 a.C_Machine "go_on" (spGoOn a) := by
  refine methE_of (sp := (spGoOn a)) 1 T.cl_Machine T.m_Machine_go_on sc_Machine_go_on (fun vs H Q E h => ?_) (fun f cdv A outer s H vs Q E hr h => ?_)
  · obtain ⟨m, dx, pc, pt, ph, pl, pk, pb, pp, fs, home, c, n, d, st, rfl, _⟩ := h
    rfl
  · obtain ⟨m, dx, pc, pt, ph, pl, pk, pb, pp, fs, home, c, n, d, st, rfl, hm, F, q⟩ := h
    have f5 := F.home
    have fl := F.len
    have fn := F.no "word_ahead_of" (by decide +kernel)
    refine ⟨_, (pss_cons (ps_fldK (K := K) rfl (pv 0) (pv 1))
      (pss_cons (ps_fldK (K := K) rfl (pv 0) (pv 2))
      (pss_cons (ps_fldK (K := K) rfl (pv 0) (pv 3))
      (pss_one (ps_fldK (K := K) rfl (pv 0) (pe_methK (P := P) (w := w) (K := K) (mg := mg) (base := base) (k := 1) ⟨rfl, rfl, rfl, rfl, rfl⟩ (pv 0) (hr.mono (by decide)) pass0 (pa_cons (pv 1) pa_nil))))))), ?_⟩
    refine r_st (σ' := [some _, some _, some _, some _]) rfl ?_
    walk_at "rd"
    refine r_methV upd_same (look_no (by decide +kernel) (look_no (by decide +kernel) (look_no (by decide +kernel) fn))) ((me_Machine_word_ahead_of T).mono (by decide)) ?_
    walk_at "rd"
    refine ⟨m, dx, _, home, n, rfl, upd_same, look_of (by decide +kernel) (look_of (by decide +kernel) (look_of (by decide +kernel) f5)), ?_⟩
    walk_at "rd"
    rw [upd_again, upd_again, upd_again]
    exact q _ ((((F.setComing n).setHeld pb).setCells pp).setState _)
end
section
variable {P : Program} {w : World} {K : PySem.W.Frag} {mg : Str → Option Value} {base : Heap} {a : Adr}
set_option maxHeartbeats 4000000 in
theorem ok_law_all (T : Txt K mg a) : FnE P w K mg base CX0 2 "_law_all" (spAll a) := by
  refine fnE_of (sp := (spAll a)) 1 T.fn_law_all sc_law_all (fun vs H Q E h => ?_) (fun f cdv A outer s H vs Q E hr h => ?_)
  · obtain ⟨m, pk, pt, S, rfl, _⟩ := h
    rfl
  · obtain ⟨m, pk, pt, S, rfl, MM, q⟩ := h
    obtain ⟨dx, pc, ph, pl, fs, prs, cs, M⟩ := id MM
    have f1 := M.f.coming
    have f2 := M.f.held
    have f3 := M.f.cells
    have f4 := M.f.calls
    have fn := M.f.no
    have hm := M.hm
    have hh := M.hh
    have hls := M.hl
    have hk := M.hk
    refine ⟨_, (pss_one (ps_ret (pe_tup (pa_cons (pe_methK0 (P := P) (w := w) (K := K) (mg := mg) (base := base) (k := 1) ⟨rfl, rfl, rfl, rfl, rfl⟩ (pv 0) (hr.mono (by decide)) pass0) (pa_cons (pe_methK0 (P := P) (w := w) (K := K) (mg := mg) (base := base) (k := 1) ⟨rfl, rfl, rfl, rfl, rfl⟩ (pv 0) (hr.mono (by decide)) pass0) (pa_cons (pe_methK0 (P := P) (w := w) (K := K) (mg := mg) (base := base) (k := 1) ⟨rfl, rfl, rfl, rfl, rfl⟩ (pv 0) (hr.mono (by decide)) pass0) (pa_cons (pe_methK0 (P := P) (w := w) (K := K) (mg := mg) (base := base) (k := 1) ⟨rfl, rfl, rfl, rfl, rfl⟩ (pv 0) (hr.mono (by decide)) pass0) pa_nil))))))), ?_⟩
    refine r_st (σ' := [some _]) rfl ?_
    walk_at "rd"
    refine r_methV hm (fn _ (by decide +kernel)) ((me_Machine_at T).mono (by decide)) ?_
    walk_at "rd"
    refine ⟨m, dx, fs, _, rfl, hm, f1, ?_⟩
    walk_at "rd"
    refine r_methV hm (fn _ (by decide +kernel)) ((me_Machine_boxes T).mono (by decide)) ?_
    walk_at "rd"
    refine ⟨m, dx, ph, fs, _, rfl, hm, f2, hh, fun lb nlb => ?_⟩
    walk_at "rd"
    refine r_methV (by walk_at "hlk") (fn _ (by decide +kernel)) ((me_Machine_pile T).mono (by decide)) ?_
    walk_at "rd"
    refine ⟨m, dx, pl, fs, _, rfl, by walk_at "hlk", f3, by walk_at "hlk", fun lp nlp => ?_⟩
    walk_at "rd"
    refine r_methV (by walk_at "hlk") (fn _ (by decide +kernel)) ((me_Machine_book T).mono (by decide)) ?_
    walk_at "rd"
    refine ⟨m, dx, pk, fs, cs, rfl, by walk_at "hlk", f4, by walk_at "hlk", fun lk nlk => ?_⟩
    walk_at "rd"
    rename_i t nt
    exact q t _ (by walk_at "same") ⟨lb, lp, lk, cs.reverse, ⟨(ne_of_none hk nlb).symm, (ne_of_none (look_new hk nlb) nlp).symm, (ne_of_none (look_new (look_new hk nlb) nlp) nlk).symm⟩, upd_same, by walk_at "hlk", by walk_at "hlk", by walk_at "hlk", (M.calls.rev).to fun b xs e => by walk_at "hlk"⟩
end
section
variable {P : Program} {w : World} {K : PySem.W.Frag} {mg : Str → Option Value} {base : Heap} {a : Adr}
theorem flds_runs (r : Rw) : r.flds.lookup ("runs" : Str) = none := by
  cases r <;> (show List.lookup _ (putF _ _ _) = none; walk_at "nolk")
theorem me_all_runs (T : Txt K mg a) {r : Rw} (hr : r.here) : MethE P w K mg base CX0 2 (r.cls a) "runs" (spRuns K a r) := by
  cases r
  · exact (me_Set_runs T _ _).mono (by decide)
  · exact hr.elim
  · exact hr.elim
  · exact hr.elim
  · exact hr.elim
  · exact hr.elim
  · exact (me_Grow_runs T _).mono (by decide)
  · exact hr.elim
  · exact hr.elim
  · exact hr.elim
  · exact hr.elim
  · exact hr.elim
  · exact (me_Call_runs T _).mono (by decide)
  · exact hr.elim
  · exact hr.elim
theorem ty_all (T : Txt K mg a) {H : Hp} {p : Addr} {r : Rw} (hr : r.here) (h : RowAt a H p r) : ∃ t', TyOf K H (.ref p) t' ∧ PySem.W.kitOne K t' (.ref a.C_Drop) = some r.isDrop ∧ PySem.W.kitOne K t' (.ref a.C_Call) = some r.isCall ∧ PySem.W.kitOne K t' (.ref a.C_Back) = some r.isBack := by
  obtain ⟨dx, e⟩ := h
  cases r
  · exact ⟨_, .ins e T.cl_Set T.ty_Set.1 T.ob1 T.ob2 T.ty_Set.2, T.is_Set_Drop, T.is_Set_Call, T.is_Set_Back⟩
  · exact hr.elim
  · exact hr.elim
  · exact hr.elim
  · exact hr.elim
  · exact hr.elim
  · exact ⟨_, .ins e T.cl_Grow T.ty_Grow.1 T.ob1 T.ob2 T.ty_Grow.2, T.is_Grow_Drop, T.is_Grow_Call, T.is_Grow_Back⟩
  · exact hr.elim
  · exact hr.elim
  · exact hr.elim
  · exact hr.elim
  · exact hr.elim
  · exact ⟨_, .ins e T.cl_Call T.ty_Call.1 T.ob1 T.ob2 T.ty_Call.2, T.is_Call_Drop, T.is_Call_Call, T.is_Call_Back⟩
  · exact hr.elim
  · exact hr.elim
end
section
variable {P : Program} {w : World} {K : PySem.W.Frag} {mg : Str → Option Value} {base : Heap} {a : Adr}
set_option maxHeartbeats 4000000 in
theorem ok_newest_caller (T : Txt K mg a) : FnE P w K mg base (CXD P w) 3 "newest_caller" (spNewX K a.C_Astray) := by
  refine fnD_of (sp := (spNewX K a.C_Astray)) 2 T.fn_newest_caller sc_newest_caller (fun vs H Q E h => ?_) (fun f cdv A outer s H vs Q E hr h => ?_)
  · obtain ⟨pe, pk, pp, at', ev, es, kn, pl, rfl, _⟩ := h
    rfl
  · obtain ⟨pe, pk, pp, at', ev, es, kn, pl, rfl, hpe, hev, hk, hkn, hpl, hpo, hnear, q, hE⟩ := h
    have hel := hev.1
    have h8 := hkn.1
    refine ⟨_, (pss_cons (ps_if (PT.nox (PW.pt (pw_or (pt_cmpR op_lt (pv 1) pe_int (nomark _)) (pw_or (pt_cmpR op_ge (pv 1) (pe_callB (call_lenK (K := K) rfl) rfl T.z_len b_len (pa_cons (pv 0) pa_nil)) (nomark _)) (pw_or1 (pt_cmpR op_isNA (pe_ix (ix_K (K := K) rfl) (pv 0) (pv 1) (fun _ _ => rfl)) pe_non (nomark _))))))) (pss_one (ps_raiseX (xinit_Astray (K := K) T) (hr.mono (by decide)) rfl (pa_cons (pv 1) pa_nil))) pss_nil)
      (pss_cons (PS.nox (ps_set (i := 4) sc_newest_caller.nd rfl (Or.inl rfl) (pe_ix (ix_K (K := K) rfl) (pv 0) (pv 1) (fun _ _ => rfl))))
      (pss_cons (PS.nox (ps_set (i := 5) sc_newest_caller.nd rfl (Or.inl rfl) (pe_op op_sub (pe_callB (call_lenK (K := K) rfl) rfl T.z_len b_len (pa_cons (pv 3) pa_nil)) (pe_ix (ix_K (K := K) rfl) (pv 4) pe_int (fun _ _ => rfl)))))
      (pss_cons (ps_if (PT.nox (PW.pt (pw_or (pt_cmpR op_lt (pv 5) pe_int (nomark _)) (pw_or1 (pt_cmpR op_gt (pv 5) (pe_callB (call_lenK (K := K) rfl) rfl T.z_len b_len (pa_cons (pv 3) pa_nil)) (nomark _)))))) (pss_one (ps_raiseX (xinit_Astray (K := K) T) (hr.mono (by decide)) rfl (pa_cons (pv 1) pa_nil))) pss_nil)
      (pss_cons (PS.nox (ps_set (i := 6) sc_newest_caller.nd rfl (Or.inr rfl) (pe_slice (sl_K (K := K) rfl) (pv 3) (po_some (pv 5)) po_none)))
      (pss_cons (PS.nox (ps_setC (i := 7) sc_newest_caller.nd rfl rfl (own := ["places"]) (fr := [("known", 2), ("piece", 6)]) rfl ⟨rfl, (by walk_at "clok"), (by walk_at "frok"), rfl, (by decide +kernel), (by decide +kernel), rfl⟩ (pi_seqK (K := K) rfl (pe_callE (ok_sets_of (K := K) T) (hr.mono (by decide)) pass0 rfl (pa_cons (pv 4) pa_nil))) (fun _ _ _ _ => (pg_name (i := 0) (show List.Nodup [("places" : Str), ("known" : Str), ("piece" : Str)] from by decide +kernel) rfl (Or.inl rfl))) (fun _ _ _ _ => pts_nil) (fun _ _ _ _ => (pe_callE (ok_looked_up (K := K) T) (hr.mono (by decide)) pass0 rfl (pa_cons (pv 0) (pa_cons (pv 1) (pa_cons (pv 2) pa_nil)))))))
      (pss_cons (ps_if (PT.nox (pt_cmpR (op_inK (K := K) rfl) pe_non (pv 7) rfl)) (pss_one (ps_raiseX (xinit_Astray (K := K) T) (hr.mono (by decide)) rfl (pa_cons (pv 1) pa_nil))) pss_nil)
      (pss_one (PS.nox (ps_ret (pe_tup (pa_cons (pe_ix (ix_K (K := K) rfl) (pv 7) pe_int (fun _ _ => rfl)) (pa_cons (pe_tup (pa_cons (pe_ix (ix_K (K := K) rfl) (pv 7) pe_int (fun _ _ => rfl)) (pa_cons (pe_ix (ix_K (K := K) rfl) (pv 7) pe_int (fun _ _ => rfl)) (pa_cons (pe_ix (ix_K (K := K) rfl) (pv 7) pe_int (fun _ _ => rfl)) pa_nil)))) (pa_cons (pv 5) pa_nil)))))))))))))), ?_⟩
    refine r_st (σ' := [some _, some _, some _, some _, none, none, none, none]) rfl ?_
    by_cases h0 : at' < 0
    · walk_at "rd"
      refine ⟨log_small (by have := hnear.1; omega) (by have := hnear.2; omega), fun d hd => ?_⟩
      exact hE (by unfold stepR; rw [if_neg (by omega)]) d _ (by walk_at "same") upd_same
    by_cases h1 : (ev.length : Int) ≤ at'
    · walk_at "rd"
      refine ⟨log_small (by have := hnear.1; omega) (by have := hnear.2; omega), fun d hd => ?_⟩
      exact hE (by unfold stepR; rw [if_neg (by omega)]) d _ (by walk_at "same") upd_same
    have hi : at'.toNat < es.length := by omega
    obtain ⟨v, e1, e2⟩ := hev.2 at'.toNat _ (List.getElem?_eq_getElem hi)
    have hat : atI ev at' = some v := by
      rw [show at' = ((at'.toNat : Nat) : Int) from by omega]
      exact atI_nat e1
    have hst : stepR es at' kn pl = upO es[at'.toNat] kn pl := by
      unfold stepR
      rw [if_pos (by omega), List.getD_eq_getElem?_getD, List.getElem?_eq_getElem hi]; rfl
    rw [hst] at q hE
    generalize es[at'.toNat] = oe at e2 q hE
    clear hst
    cases oe with
    | none =>
      cases e2
      walk_at "rd"
      refine ⟨log_small (by have := hnear.1; omega) (by have := hnear.2; omega), fun d hd => ?_⟩
      exact hE rfl d _ (by walk_at "same") upd_same
    | some e =>
      obtain ⟨p, rfl, ⟨qe, he1, he2⟩⟩ := e2
      have hup : upO (some e) kn pl = if 0 ≤ e.h ∧ e.h ≤ pl.length then calOf e kn pl else none := rfl
      rw [hup] at q hE
      by_cases h2 : 0 ≤ e.h ∧ e.h ≤ pl.length
      · rw [if_pos h2] at q hE
        walk_at "rd"
        rename_i lp hlp
        rw [cutI_drop pl (by omega) (by omega)]
        refine ⟨p, e, rfl, ⟨qe, by walk_at "sqt", by walk_at "sqt"⟩, fun t ht => ?_⟩
        walk_at "rd"
        refine comp_mapT (fun s => lookM s kn (pl.drop ((pl.length : Int) - e.h).toNat)) (fun σ => ∃ v, σ = [v, some (.ref pk), some (.ref lp)]) (SqT.of upd_same) (by show 4 ≤ sizeLine; decide) ⟨_, rfl⟩ ?_ ?_
        · rintro i x ys σ H1 hx cc ss ⟨v, rfl⟩
          walk_at "rd"
          refine r_look (by walk_at "sql") h8 (by walk_at "sql") (fun z => low_nn z) ?_
          exact cc.next hx rfl (by walk_at "same") ⟨_, rfl⟩
        intro H3 s5 f hf
        rw [show e.sets.map (fun s => lookM s kn (pl.drop ((pl.length : Int) - e.h).toNat)) = [lookM e.b kn (pl.drop ((pl.length : Int) - e.h).toNat), lookM e.v4 kn (pl.drop ((pl.length : Int) - e.h).toNat), lookM e.v5 kn (pl.drop ((pl.length : Int) - e.h).toNat), lookM e.v6 kn (pl.drop ((pl.length : Int) - e.h).toNat)] from rfl]
        have o1 := look_ok (s := e.b) hkn (hpo.drop ((pl.length : Int) - e.h).toNat)
        have o2 := look_ok (s := e.v4) hkn (hpo.drop ((pl.length : Int) - e.h).toNat)
        have o3 := look_ok (s := e.v5) hkn (hpo.drop ((pl.length : Int) - e.h).toNat)
        have o4 := look_ok (s := e.v6) hkn (hpo.drop ((pl.length : Int) - e.h).toNat)
        walk_at "rd"
        refine r_inL (SqL.of upd_same) rfl (flat_four o1 o2 o3 o4) ?_
        rw [if_neg Bool.false_ne_true]
        rcases in_four o1 o2 o3 o4 with ⟨hin, hno⟩ | ⟨hin, r, a1, b1, c1, g1, g2, g3, g4, _⟩
        · rw [hin]
          walk_at "rd"
          refine ⟨log_small (by have := hnear.1; omega) (by have := hnear.2; omega), fun d hd => ?_⟩
          exact hE (cal_none hno) d _ (by walk_at "same") upd_same
        · rw [hin, g1, g2, g3, g4]
          walk_at "rd"
          rename_i t2 ht2 t3 ht3
          exact q _ _ _ (cal_some g1 g2 g3 g4) (by walk_at "same") ⟨t3, t2, rfl, by rw [upd_same], look_new upd_same ht3⟩
      · rw [if_neg h2] at q hE
        by_cases h3 : (pl.length : Int) - e.h < 0
        · walk_at "rd"
          refine ⟨log_small (by have := hnear.1; omega) (by have := hnear.2; omega), fun d hd => ?_⟩
          exact hE rfl d _ (by walk_at "same") upd_same
        · walk_at "rd"
          refine ⟨log_small (by have := hnear.1; omega) (by have := hnear.2; omega), fun d hd => ?_⟩
          exact hE rfl d _ (by walk_at "same") upd_same
end
section
variable {P : Program} {w : World} {K : PySem.W.Frag} {mg : Str → Option Value} {base : Heap} {a : Adr}
set_option maxHeartbeats 4000000 in
theorem mkb_Machine (T : Txt K mg a) : MkE P w K mg base CX0 3 "Machine" a.C_Machine (spMach a) ∧ MkV P w K mg base CX0 3 "Machine" a.C_Machine (.int 0) (spMach a) := by
  refine mkE_ofV (sp := (spMach a)) 2 T.c_Machine T.i_Machine sc_Machine_init (fun vs H Q E h => ?_) (fun f cdv A outer s H vs Q E hr h => ?_)
  · obtain ⟨x, dx, c, t, b, dt, l, d, start, prs, rs, bs, es, kvs, rfl, _⟩ := h
    rfl
  · obtain ⟨x, dx, c, t, b, dt, l, d, start, prs, rs, bs, es, kvs, rfl, hx, hc, hrs, hpx, ht, htx, hl, hd, hb, h7, hm, q⟩ := h
    have cx : c ≠ x := fun z => by rw [z, hx] at hc; cases hc
    have bx : b ≠ x := fun z => by rw [z, hx] at hb; cases hb
    have lx : l ≠ x := fun z => by rw [z, hx] at hl; cases hl
    have ddx : d ≠ x := fun z => by rw [z, hx] at hd; cases hd
    have hlen := hrs.1
    unfold tabF at ht
    refine ⟨_, (pss_cons (ps_fldK (K := K) rfl (pv 0) (pe_callTy (call_listK (K := K) rfl) rfl T.z_list b_list (pa_cons (pv 1) pa_nil)))
      (pss_cons (ps_fldK (K := K) rfl (pv 0) (pe_makeE (mk_Table (K := K) T) (hr.mono (by decide)) pass0 rfl (pa_cons (pe_fldK (K := K) rfl (pv 2)) (pa_cons (pe_fldK (K := K) rfl (pv 2)) pa_nil))))
      (pss_cons (ps_fldK (K := K) rfl (pv 0) (pe_callB (call_lenK (K := K) rfl) rfl T.z_len b_len (pa_cons (pe_fldK (K := K) rfl (pv 0)) pa_nil)))
      (pss_cons (ps_fldK (K := K) rfl (pv 0) (pv 4))
      (pss_cons (ps_fldK (K := K) rfl (pv 0) (pe_op (op_plusK (K := K) rfl) (pe_callTy (call_listK (K := K) rfl) rfl T.z_list b_list (pa_cons (pv 3) pa_nil)) (pe_lst (pa_cons (pe_fldK (K := K) rfl (pv 0)) pa_nil))))
      (pss_cons (ps_fldK (K := K) rfl (pv 0) (pe_lst pa_nil))
      (pss_cons (ps_fldK (K := K) rfl (pv 0) (pe_lst (pa_cons (pe_tup (pa_cons (pe_fldK (K := K) rfl (pv 0)) (pa_cons (pe_callE (ok_kept_of (K := K) T) (hr.mono (by decide)) pass0 rfl (pa_cons (pe_fldK (K := K) rfl (pv 0)) pa_nil)) (pa_cons pe_int pa_nil)))) pa_nil)))
      (pss_cons (ps_fldK (K := K) rfl (pv 0) pe_non)
      (pss_one (ps_fldK (K := K) rfl (pv 0) (pe_methK (P := P) (w := w) (K := K) (mg := mg) (base := base) (k := 1) ⟨rfl, rfl, rfl, rfl, rfl⟩ (pv 0) (hr.mono (by decide)) pass0 (pa_cons (pv 4) pa_nil)))))))))))), ?_⟩
    refine r_st (σ' := [some _, some _, some _, some _, some _]) rfl ?_
    walk_at "rd"
    rename_i pc hpc
    have npx : pc ≠ x := (ne_of_none hx hpc).symm
    intro xt dxt nxt ndxt nne
    refine' r_tab (kvs := kvs) (xs := es) nxt ndxt ?h1 ?h2 ?q
    (case h1 => exact SqL.of (look_ne lx (look_new hl hpc)))
    (case h2 => exact .inr ⟨d, rfl, look_ne ddx (look_new hd hpc)⟩)
    (case q =>
      intro l2 dk2 H2 s2 nl2 nd2 n12 nxl nxd hxt hl2 hd2
      refine ⟨rfl, ?_⟩
      have e1 : H2 x = some (.ins a.C_Machine dx (putF "code" (.ref pc) [])) := s2 _ _ upd_same
      have e2 : H2 pc = some (.lst (prs.map V.ref)) := s2 _ _ (look_ne npx upd_same)
      have kp : ∀ b o, H b = some o → b ≠ x → H2 b = some o := fun b o e ne => s2 _ _ (by rw [upd_ne ne, upd_ne (ne_of_none e hpc)]; exact e)
      have fr : ∀ q, H2 q = none → H q = none := fun q e => by
        cases h : H q with
        | none => rfl
        | some o =>
          by_cases z : q = x
          · rw [z, e1] at e; cases e
          · rw [kp q o h z] at e; cases e
      have eb : H2 b = some (.lst (bs.map V.int)) := kp _ _ hb bx
      have h7b : ∀ y : Int, (bs ++ [y]).length = 8 := fun y => by rw [List.length_append, h7]; rfl
      have qx1 : x ≠ xt := ne_of_none upd_same nxt
      have qx2 := qx1.symm
      have ql1 : x ≠ l2 := ne_of_none upd_same nl2
      have ql2 := ql1.symm
      have fl2 : H l2 = none := (none_upd (none_upd nl2).1).1
      have fd2 : H dk2 = none := (none_upd (none_upd nd2).1).1
      have qd1 : x ≠ dk2 := ne_of_none upd_same nd2
      have qd2 := qd1.symm
      clear s2 nl2 nd2 nxt ndxt nne hx hc hb hl hd ht
      walk_at "rd"
      generalize hH : ((List.map V.ref prs).length : Int) = home at *
      have hH' : home = rs.length := by rw [← hH, List.length_map, hlen]
      subst hH'
      generalize hL : List.map V.int bs ++ [V.int (rs.length : Int)] = L at *
      have hL' : L = (bs ++ [(rs.length : Int)]).map V.int := by rw [← hL, List.map_append]; rfl
      subst hL'
      clear hL
      walk_at "rd"
      rename_i lb lh ph pl nlb nlh nph npl kt nkt t2 nt2 pk npk
      refine r_methV upd_same (by walk_at "nolk") ((me_Machine_word_ahead_of T).mono (by decide)) ?_
      walk_at "rd"
      refine ⟨x, dx, _, (rs.length : Int), start, rfl, upd_same, by walk_at "lk", ?_⟩
      walk_at "rd"
      have down : ∀ {y : Addr}, H2 y = none → H y = none ∧ y ≠ x ∧ y ≠ pc := fun {y} e => ⟨fr y e, (fun z => by rw [z, e1] at e; cases e), (fun z => by rw [z, e2] at e; cases e)⟩
      have d1 : H2 ph = none := by have h := nph; (repeat replace h := none_upd1 h); exact h
      have d2 : H2 pl = none := by have h := npl; (repeat replace h := none_upd1 h); exact h
      have d3 : H2 kt = none := by have h := nkt; (repeat replace h := none_upd1 h); exact h
      have d4 : H2 t2 = none := by have h := nt2; (repeat replace h := none_upd1 h); exact h
      have d5 : H2 pk = none := by have h := npk; (repeat replace h := none_upd1 h); exact h
      obtain ⟨g1, i1, j1⟩ := down d1
      obtain ⟨g2, i2, j2⟩ := down d2
      obtain ⟨g3, i3, j3⟩ := down d3
      obtain ⟨g4, i4, j4⟩ := down d4
      obtain ⟨g5, i5, j5⟩ := down d5
      have key : ∀ HF : Hp, (∀ b o, H b = some o → b ≠ x → HF b = some o) → MAt a HF x pk dx pc xt ph pl (putF "state" (.str (wordAhead rs.length start)) (putF "dropped" .non (putF "calls" (.ref pk) (putF "cells" (.ref pl) (putF "held" (.ref ph) (putF "coming" (.int start) (putF "home" (.int (rs.length : Int)) (putF "table" (.ref xt) (putF "code" (.ref pc) []))))))))) prs [.ref t2] (msStart rs bs start) → TabNew a H HF xt pk es kvs → Q .non HF := fun HF k M TT => q pk pc xt ph pl _ [.ref t2] HF g5 hpc g1 g2 k M TT
      refine' key _ (fun b o e ne => ?kf) ⟨upd_same, MF.start pc xt ph pl pk _ _ _, by (repeat first | (with_reducible assumption) | (exact upd_same) | ((with_reducible refine' look_ne ?zx ?_); (case zx => with_reducible assumption)) | ((with_reducible refine' look_new ?_ ?zy); (case zy => with_reducible assumption))), hrs.to (fun p hp o e => by (have e3 := kp p o e (hpx p hp)); (have ne := hpx p hp); (repeat first | (with_reducible assumption) | (exact upd_same) | ((with_reducible refine' look_ne ?zx ?_); (case zx => with_reducible assumption)) | ((with_reducible refine' look_new ?_ ?zy); (case zy => with_reducible assumption)))), by (repeat first | (with_reducible assumption) | (exact upd_same) | ((with_reducible refine' look_ne ?zx ?_); (case zx => with_reducible assumption)) | ((with_reducible refine' look_new ?_ ?zy); (case zy => with_reducible assumption))), by (repeat first | (with_reducible assumption) | (exact upd_same) | ((with_reducible refine' look_ne ?zx ?_); (case zx => with_reducible assumption)) | ((with_reducible refine' look_new ?_ ?zy); (case zy => with_reducible assumption))), by (repeat first | (with_reducible assumption) | (exact upd_same) | ((with_reducible refine' look_ne ?zx ?_); (case zx => with_reducible assumption)) | ((with_reducible refine' look_new ?_ ?zy); (case zy => with_reducible assumption))), ⟨rfl, fun i v c ev ec => ?_⟩, j5, ?_, ?_, hpx⟩ ⟨dxt, l2, dk2, (show _ = some (HO.ins a.C_Table dxt (putF "landings" (.ref dk2) (putF "entries" (.ref l2) []))) from by (repeat first | (with_reducible assumption) | (exact upd_same) | ((with_reducible refine' look_ne ?zx ?_); (case zx => with_reducible assumption)) | ((with_reducible refine' look_new ?_ ?zy); (case zy => with_reducible assumption)))), by (repeat first | (with_reducible assumption) | (exact upd_same) | ((with_reducible refine' look_ne ?zx ?_); (case zx => with_reducible assumption)) | ((with_reducible refine' look_new ?_ ?zy); (case zy => with_reducible assumption))), by (repeat first | (with_reducible assumption) | (exact upd_same) | ((with_reducible refine' look_ne ?zx ?_); (case zx => with_reducible assumption)) | ((with_reducible refine' look_new ?_ ?zy); (case zy => with_reducible assumption))), ne_of_none hl2 d5, fl2, fd2⟩
      · have e3 := kp b o e ne
        (repeat first | (with_reducible assumption) | (exact upd_same) | ((with_reducible refine' look_ne ?zx ?_); (case zx => with_reducible assumption)) | ((with_reducible refine' look_new ?_ ?zy); (case zy => with_reducible assumption)))
      · cases i with
        | zero =>
          cases ev
          cases ec
          exact ⟨t2, kt, rfl, by (repeat first | (with_reducible assumption) | (exact upd_same) | ((with_reducible refine' look_ne ?zx ?_); (case zx => with_reducible assumption)) | ((with_reducible refine' look_new ?_ ?zy); (case zy => with_reducible assumption))), by (repeat first | (with_reducible assumption) | (exact upd_same) | ((with_reducible refine' look_ne ?zx ?_); (case zx => with_reducible assumption)) | ((with_reducible refine' look_new ?_ ?zy); (case zy => with_reducible assumption)))⟩
        | succ i => simp at ev
      · exact (ne_of_none (show _ = some (HO.lst ((bs ++ [(rs.length : Int)]).map V.int)) from by (repeat first | (with_reducible assumption) | (exact upd_same) | ((with_reducible refine' look_ne ?zx ?_); (case zx => with_reducible assumption)) | ((with_reducible refine' look_new ?_ ?zy); (case zy => with_reducible assumption)))) npk).symm
      · exact (ne_of_none (show _ = some (HO.lst []) from by (repeat first | (with_reducible assumption) | (exact upd_same) | ((with_reducible refine' look_ne ?zx ?_); (case zx => with_reducible assumption)) | ((with_reducible refine' look_new ?_ ?zy); (case zy => with_reducible assumption)))) npk).symm)
theorem mk_Machine (T : Txt K mg a) : MkE P w K mg base CX0 3 "Machine" a.C_Machine (spMach a) := (mkb_Machine T).1
end
section
variable {P : Program} {w : World} {K : PySem.W.Frag} {mg : Str → Option Value} {base : Heap} {a : Adr}
set_option maxHeartbeats 4000000 in
theorem me_Machine_do (T : Txt K mg a)  : MethE P w K mg base CX0 3 a.C_Machine "do" (spDo a) := by
  refine methE_of (sp := (spDo a)) 2 T.cl_Machine T.m_Machine_do sc_Machine_do (fun vs H Q E h => ?_) (fun f cdv A outer s H vs Q E hr h => ?_)
  · obtain ⟨m, p, pk, pt, r, S, rfl, _⟩ := h
    rfl
  · obtain ⟨m, p, pk, pt, r, S, rfl, ⟨dx, pc, ph, pl, fs, prs, cs, M⟩, O, ⟨dxr, hrow⟩, hmem, hnd, pm, hlt, hcl, q⟩ := h
    have f1 := M.f.coming
    have f2 := M.f.held
    have f3 := M.f.cells
    have f4 := M.f.calls
    have f5 := M.f.home
    have fl := M.f.len
    have fn := M.f.no
    have hm := M.hm
    have hh := M.hh
    have hl := M.hl
    have hk := M.hk
    have h8 := O.h8
    have hcs : cs.length ≤ 50000 := by rw [M.calls.1]; exact hcl
    have x1 := M.nkm
    have x2 := M.nhm
    have x3 := M.nlm
    have x4 := M.n2
    have x5 := M.n3
    have x6 : p ≠ pk := fun z => by rw [z, hk] at hrow; cases hrow
    obtain ⟨rok, rh0⟩ := O.ok r hmem
    have rh := rh0 hnd
    refine ⟨_, (pss_cons (ps_set (i := 2) sc_Machine_do.nd rfl (Or.inl rfl) (pe_methK (P := P) (w := w) (K := K) (mg := mg) (base := base) (k := 2) ⟨rfl, rfl, rfl, rfl, rfl⟩ (pv 1) (hr.mono (by decide)) pass0 (pa_cons (pe_fldK (K := K) rfl (pv 0)) (pa_cons (pe_fldK (K := K) rfl (pv 0)) (pa_cons (pe_fldK (K := K) rfl (pv 0)) pa_nil)))))
      (pss_cons (ps_if (PW.pt (pw_or (pt_cmpR op_isNA (pv 2) pe_non (nomark _)) (pw_or1 (pt_cmpR (op_eqK (K := K) rfl hr.units) (pe_methK (P := P) (w := w) (K := K) (mg := mg) (base := base) (k := 1) ⟨rfl, rfl, rfl, rfl, rfl⟩ (pv 0) (hr.mono (by decide)) pass0 (pa_cons (pe_ix (ix_K (K := K) rfl) (pv 2) pe_int (fun _ _ => rfl)) pa_nil)) pe_str (nomark _))))) (pss_cons (ps_fldK (K := K) rfl (pv 0) pe_str)
      (pss_one ps_retN)) pss_nil)
      (pss_cons (ps_if (pt_truK (K := K) rfl (pe_callB (call_isiK (K := K) rfl) rfl T.z_isinstance b_isinstance (pa_cons (pv 1) (pa_cons (pe_glob (v := .ref a.C_Call) rfl T.c_Call rfl) pa_nil)))) (pss_one (ps_expr (pe_bmK (K := K) rfl PySem.F.plainAttrs_list PySem.F.slot_list_append PySem.F.type_list_append mt_append (pe_fldK (K := K) rfl (pv 0)) (pa_cons (pe_tup (pa_cons (pe_op (op_plusK (K := K) rfl) (pe_fldK (K := K) rfl (pv 0)) pe_int) (pa_cons (pe_callE (ok_kept_of (K := K) T) (hr.mono (by decide)) pass0 rfl (pa_cons (pe_fldK (K := K) rfl (pv 0)) pa_nil)) (pa_cons (pe_callB (call_lenK (K := K) rfl) rfl T.z_len b_len (pa_cons (pe_fldK (K := K) rfl (pv 0)) pa_nil)) pa_nil)))) pa_nil)))) pss_nil)
      (pss_cons (ps_if (pt_truK (K := K) rfl (pe_callB (call_isiK (K := K) rfl) rfl T.z_isinstance b_isinstance (pa_cons (pv 1) (pa_cons (pe_glob (v := .ref a.C_Back) rfl T.c_Back rfl) pa_nil)))) (pss_one (ps_expr (pe_methK (P := P) (w := w) (K := K) (mg := mg) (base := base) (k := 1) ⟨rfl, rfl, rfl, rfl, rfl⟩ (pv 0) (hr.mono (by decide)) pass0 (pa_cons pe_int pa_nil)))) pss_nil)
      (pss_one (ps_expr (pe_methK (P := P) (w := w) (K := K) (mg := mg) (base := base) (k := 2) ⟨rfl, rfl, rfl, rfl, rfl⟩ (pv 0) (hr.mono (by decide)) pass0 (pa_cons (pe_ix (ix_K (K := K) rfl) (pv 2) pe_int (fun _ _ => rfl)) (pa_cons (pe_ix (ix_K (K := K) rfl) (pv 2) pe_int (fun _ _ => rfl)) (pa_cons (pe_ix (ix_K (K := K) rfl) (pv 2) pe_int (fun _ _ => rfl)) pa_nil)))))))))), ?_⟩
    refine r_st (σ' := [some _, some _, none]) rfl ?_
    walk_at "rd"
    refine r_methV hrow (flds_runs _) ((me_all_runs T rh).mono (by decide)) ?_
    walk_at "rd"
    refine ⟨p, ph, pl, _, _, _, rfl, ⟨dxr, hrow⟩, rok, SqL.of hh, O.h8, O.hv, SqL.of hl, O.cl, ?_⟩
    unfold MS.doRow at q
    cases hrun : r.run S.coming S.held S.cells with
    | none =>
      rw [hrun] at q
      intro H1 s1
      have hm1 := s1 _ _ hm
      walk_at "rd"
      exact q _ (Kept2.upd1 (Kept2.of_same s1)) (M.faulted s1 _)
    | some tt =>
      obtain ⟨n, bs, pp⟩ := tt
      rw [hrun] at q
      dsimp only at q
      intro t b' p' H1 s1 nt nb np e1 e2 e3 ht hb hp
      have hm1 := s1 _ _ hm
      have hrow1 := s1 _ _ hrow
      have hk1 := s1 _ _ hk
      have hh1 := s1 _ _ hh
      have hl1 := s1 _ _ hl
      have y1 : pk ≠ b' := ne_of_none hk nb
      have y2 : pk ≠ p' := ne_of_none hk np
      walk_at "rd"
      refine r_methV hm1 (fn _ (by decide +kernel)) ((me_Machine_word_ahead_of T).mono (by decide)) ?_
      walk_at "rd"
      refine ⟨m, dx, fs, _, n, rfl, hm1, f5, ?_⟩
      by_cases hw : V.str (wordAhead S.rows.length n) = V.str "fault"
      · have hw' : wordAhead S.rows.length n = "fault" := by injection hw
        rw [if_pos hw'] at q
        walk_at "rd"
        exact q _ (Kept2.upd1 (Kept2.of_same s1)) (M.faulted s1 _)
      · have hw' : ¬ wordAhead S.rows.length n = "fault" := fun z => hw (by rw [z])
        rw [if_neg hw'] at q
        unfold MS.bookOf at q
        walk_at "rd"
        obtain ⟨t1, ty1, _, kc, kb⟩ := ty_all T rh ⟨dxr, hrow1⟩
        refine r_isi (fun z => by cases z) ty1 kc ?_
        cases hC : r.isCall with
        | true =>
          have hB : r.isBack = false := by cases r <;> first | rfl | cases hC
          rw [hC] at q
          walk_at "rd"
          rename_i k2 hk2 t2 ht2
          have nk2 := none_upd ht2
          obtain ⟨t3, ty3, _, _, kb3⟩ := ty_all T rh (H := upd (upd (upd H1 k2 (.tup [.int (gI S.held 4), .int (gI S.held 5), .int (gI S.held 6)])) t2 (.tup [.int (S.coming + 1), .ref k2, .int (S.cells.length : Int)])) pk (.lst (cs ++ [.ref t2]))) ⟨dxr, by walk_at "hlk"⟩
          refine r_isi (fun z => by cases z) ty3 kb3 ?_
          rw [hB]
          walk_at "rd"
          refine r_methV (by walk_at "hlk") (fn _ (by decide +kernel)) ((me_Machine_go_on T).mono (by decide)) ?_
          walk_at "rd"
          refine ⟨m, dx, pc, pt, ph, pl, pk, b', p', fs, _, _, n, _, _, rfl, by walk_at "hlk", M.f, fun fs' F' => ?_⟩
          walk_at "rd"
          have z1 : t2 ≠ pk := (ne_of_none hk1 nk2.1).symm
          have z2 : k2 ≠ pk := (ne_of_none hk1 hk2).symm
          have sm : Same H1 (upd (upd H1 k2 (.tup [.int (gI S.held 4), .int (gI S.held 5), .int (gI S.held 6)])) t2 (.tup [.int (S.coming + 1), .ref k2, .int (S.cells.length : Int)])) := (same_new hk2).trans (same_new ht2)
          refine q _ (Kept2.upd1 (Kept2.upd2 (Kept2.of_same (s1.trans sm)))) ⟨dx, pc, b', p', fs', prs, cs ++ [.ref t2], ?_⟩
          refine M.went (calls' := S.calls ++ [(S.coming + 1, gI S.held 4, gI S.held 5, gI S.held 6, (S.cells.length : Int))]) (Kept2.upd2 (Kept2.of_same (s1.trans sm))) (by walk_at "hlk") (by walk_at "hlk") (by walk_at "hlk") upd_same (ClsAt.snoc ?_ ⟨t2, k2, rfl, ?_, ?_⟩) y1 y2 F'
          · exact M.clsAt (Kept2.upd2 (Kept2.of_same (s1.trans sm)))
          · rw [upd_ne z1, upd_same]
          · rw [upd_ne z2, upd_ne nk2.2.symm, upd_same]
        | false =>
          rw [hC] at q
          walk_at "rd"
          refine r_isi (fun z => by cases z) ty1 kb ?_
          cases hB : r.isBack with
          | true =>
            rw [hB] at q
            walk_at "rd"
            refine r_methV hm1 (fn _ (by decide +kernel)) ((me_Machine_forget T).mono (by decide)) ?_
            walk_at "rd"
            refine ⟨m, dx, pk, fs, 1, cs, rfl, hm1, f4, hk1, by decide, by omega, fun H2 hk2 hb2 => ?_⟩
            have hm2 : H2 m = some (.ins a.C_Machine dx fs) := by rw [hb2 m x1.symm]; exact hm1
            have ht2 : H2 t = some (.tup [.int n, .ref b', .ref p']) := by rw [hb2 t (ne_of_none hk nt).symm]; exact ht
            have kp2 : Kept2 m pk H H2 := fun b o e n1 n2 => by rw [hb2 b n2]; exact s1 b o e
            walk_at "rd"
            refine r_methV hm2 (fn _ (by decide +kernel)) ((me_Machine_go_on T).mono (by decide)) ?_
            walk_at "rd"
            refine ⟨m, dx, pc, pt, ph, pl, pk, b', p', fs, _, _, n, _, _, rfl, hm2, M.f, fun fs' F' => ?_⟩
            walk_at "rd"
            refine q _ (Kept2.upd1 kp2) ⟨dx, pc, b', p', fs', prs, cs.take (cs.length - 1), ?_⟩
            refine M.went (calls' := S.calls.take (S.calls.length - 1)) kp2 hm2 (by rw [hb2 b' y1.symm]; exact hb) (by rw [hb2 p' y2.symm]; exact hp) hk2 ?_ y1 y2 F'
            rw [M.calls.1]
            exact (M.clsAt kp2).take _
          | false =>
            rw [hB] at q
            walk_at "rd"
            refine r_methV hm1 (fn _ (by decide +kernel)) ((me_Machine_go_on T).mono (by decide)) ?_
            walk_at "rd"
            refine ⟨m, dx, pc, pt, ph, pl, pk, b', p', fs, _, _, n, _, _, rfl, hm1, M.f, fun fs' F' => ?_⟩
            walk_at "rd"
            refine q _ (Kept2.upd1 (Kept2.of_same s1)) ⟨dx, pc, b', p', fs', prs, cs, ?_⟩
            exact M.went (calls' := S.calls) (Kept2.of_same s1) hm1 hb hp hk1 (M.clsAt (Kept2.of_same s1)) y1 y2 F'
end
section
variable {P : Program} {w : World} {K : PySem.W.Frag} {mg : Str → Option Value} {base : Heap} {a : Adr}
theorem cut13 {bs : List Int} (h : bs.length = 8) : cutI bs (some 1) (some 4) = [gI bs 1, gI bs 2, gI bs 3] := by
  match bs, h with | [x0, x1, x2, x3, x4, x5, x6, x7], _ => rfl
theorem abs_heapL {H8 HX : Hp} {R : Hp → Prop} {b : Addr} {xs : List V} (h : Same H8 HX) (hb : HX b = some (.lst xs)) (k : ∀ H9, Same H8 H9 → H9 b = some (.lst xs) → R H9) : R HX := k HX h hb
set_option maxHeartbeats 4000000 in
theorem me_Machine_land (T : Txt K mg a)  : MethE P w K mg base CX0 3 a.C_Machine "land" (spLand K a) := by
  refine methE_of (sp := (spLand K a)) 2 T.cl_Machine T.m_Machine_land sc_Machine_land (fun vs H Q E h => ?_) (fun f cdv A outer s H vs Q E hr h => ?_)
  · obtain ⟨m, pk, pt, t, v, n, k, c, S, es, kvs, rfl, _⟩ := h
    rfl
  · obtain ⟨m, pk, pt, t, v, n, k, c, S, es, kvs, rfl, MM, O, ⟨ev, TI, EV⟩, hcal, hc0, hcl, hval, q⟩ := h
    obtain ⟨dx, pc, ph, pl, fs, prs, cs, M⟩ := id MM
    have ptm := TI.ne M.hm M.f.code
    obtain ⟨dt, l, d, ht, hl, hd, hlk⟩ := TI
    unfold tabF at ht
    obtain ⟨t', q', et, hq1, hq2⟩ := hcal
    cases et
    have f1 := M.f.coming
    have f2 := M.f.held
    have f3 := M.f.cells
    have f4 := M.f.calls
    have f5 := M.f.home
    have f6 := M.f.table
    have fl := M.f.len
    have fn := M.f.no
    have hm := M.hm
    have hh := M.hh
    have hls := M.hl
    have hk := M.hk
    have h8 := O.h8
    have hcs : cs.length ≤ 50000 := by rw [M.calls.1]; exact hcl
    have x1 := M.nkm
    have x2 := M.nhm
    have x3 := M.nlm
    have x4 := M.n2
    have x5 := M.n3
    unfold MS.landed at q
    refine ⟨_, (pss_cons (ps_set (i := 4) sc_Machine_land.nd rfl (Or.inl rfl) (pe_dget (hu_of hr) (pe_fldK (K := K) rfl (pe_fldK (K := K) rfl (pv 0))) (pe_op op_sub (pe_ix (ix_K (K := K) rfl) (pv 2) pe_int (fun _ _ => rfl)) pe_int) (fun _ _ => rfl)))
      (pss_cons (ps_if (pt_cmpR (op_eqK (K := K) rfl hr.units) (pe_methK (P := P) (w := w) (K := K) (mg := mg) (base := base) (k := 1) ⟨rfl, rfl, rfl, rfl, rfl⟩ (pv 0) (hr.mono (by decide)) pass0 (pa_cons (pv 4) pa_nil)) pe_str (nomark _)) (pss_cons (ps_fldK (K := K) rfl (pv 0) pe_str)
      (pss_one ps_retN)) pss_nil)
      (pss_cons (ps_expr (pe_methK (P := P) (w := w) (K := K) (mg := mg) (base := base) (k := 1) ⟨rfl, rfl, rfl, rfl, rfl⟩ (pv 0) (hr.mono (by decide)) pass0 (pa_cons (pv 3) pa_nil)))
      (pss_cons (ps_set (i := 5) sc_Machine_land.nd rfl (Or.inl rfl) (pe_op (op_plusK (K := K) rfl) (pe_op (op_plusK (K := K) rfl) (pe_op (op_plusK (K := K) rfl) (pe_lst (pa_cons (pv 1) pa_nil)) (pe_slice (sl_K (K := K) rfl) (pe_fldK (K := K) rfl (pv 0)) (po_some pe_int) (po_some pe_int))) (pe_callTy (call_listK (K := K) rfl) rfl T.z_list b_list (pa_cons (pe_ix (ix_K (K := K) rfl) (pv 2) pe_int (fun _ _ => rfl)) pa_nil))) (pe_lst (pa_cons (pe_ix (ix_K (K := K) rfl) (pe_fldK (K := K) rfl (pv 0)) pe_int (fun _ _ => rfl)) pa_nil))))
      (pss_one (ps_expr (pe_methK (P := P) (w := w) (K := K) (mg := mg) (base := base) (k := 2) ⟨rfl, rfl, rfl, rfl, rfl⟩ (pv 0) (hr.mono (by decide)) pass0 (pa_cons (pv 4) (pa_cons (pv 5) (pa_cons (pe_slice (sl_K (K := K) rfl) (pe_fldK (K := K) rfl (pv 0)) po_none (po_some (pe_ix (ix_K (K := K) rfl) (pv 2) pe_int (fun _ _ => rfl)))) pa_nil)))))))))), ?_⟩
    refine r_st (σ' := [some _, some _, some _, some _, none, none]) rfl ?_
    walk_at "rd"
    refine r_dGet ?_
    walk_at "rd"
    refine r_dgetI hd hval ?_
    walk_at "rd"
    refine r_methV hm (fn _ (by decide +kernel)) ((me_Machine_word_ahead_of T).mono (by decide)) ?_
    walk_at "rd"
    refine ⟨m, dx, fs, _, n, rfl, hm, f5, ?_⟩
    by_cases hw : V.str (wordAhead S.rows.length n) = V.str "fault"
    · have hw' : wordAhead S.rows.length n = "fault" := by injection hw
      rw [if_pos hw'] at q
      walk_at "rd"
      exact q _ (Kept2.upd1 Kept2.refl) (M.faulted (Same.refl _) _)
    · have hw' : ¬ wordAhead S.rows.length n = "fault" := fun z => hw (by rw [z])
      rw [if_neg hw'] at q
      walk_at "rd"
      refine r_methV hm (fn _ (by decide +kernel)) ((me_Machine_forget T).mono (by decide)) ?_
      walk_at "rd"
      refine ⟨m, dx, pk, fs, (k : Int), cs, rfl, hm, f4, hk, by omega, by omega, fun H2 hk2 hb2 => ?_⟩
      have hm2 : H2 m = some (.ins a.C_Machine dx fs) := by rw [hb2 m x1.symm]; exact hm
      have hh2 : H2 ph = some (.lst (S.held.map V.int)) := by rw [hb2 ph x4.symm]; exact hh
      have hl2 : H2 pl = some (.lst (S.cells.map V.int)) := by rw [hb2 pl x5.symm]; exact hls
      have hq12 : H2 t = some (.tup [.int c.r, .ref q', .int c.n]) := by rw [hb2 t (fun z => by rw [z, hk] at hq1; cases hq1)]; exact hq1
      have hq22 : H2 q' = some (.tup [.int c.a, .int c.b, .int c.c]) := by rw [hb2 q' (fun z => by rw [z, hk] at hq2; cases hq2)]; exact hq2
      have kp2 : Kept2 m pk H H2 := fun b o e n1 n2 => by rw [hb2 b n2]; exact e
      walk_at "rd"
      rw [cut13 h8]
      walk_at "rd"
      rename_i e1 z1 e2 z2 e3 z3 e4 z4 e5 z5 e6 z6 bx zb
      rw [Int.toNat_natCast] at hk2
      have nb : H2 bx = none := by have h := zb; (repeat replace h := none_upd1 h); exact h
      have y1 : pk ≠ bx := ne_of_none hk2 nb
      refine abs_heapL (H8 := H2) (b := bx) (R := fun Hx => rMeth _ _ _ _ _ _ _ _ _ _ _ _ Hx _) (by walk_at "same") upd_same (fun H9 s9 hbx => ?_)
      clear z1 z2 z3 z4 z5 z6 zb
      have hm9 := s9 _ _ hm2
      have hk9 := s9 _ _ hk2
      have hl9 := s9 _ _ hl2
      have hq9 := s9 _ _ hq12
      refine r_methV hm9 (fn _ (by decide +kernel)) ((me_Machine_go_on T).mono (by decide)) ?_
      walk_at "rd"
      rename_i px zx
      rw [cutI_take _ hc0]
      refine ⟨m, dx, pc, pt, ph, pl, pk, bx, px, fs, _, _, n, _, _, rfl, by walk_at "hlk", M.f, fun fs' F' => ?_⟩
      walk_at "rd"
      have y2 : pk ≠ px := ne_of_none hk9 zx
      have kp9 : Kept2 m pk H (upd H9 px (.lst ((S.cells.take c.n.toNat).map V.int))) := kp2.trans (Kept2.of_same (s9.trans (same_new zx)))
      refine q _ (Kept2.upd1 kp9) ⟨dx, pc, bx, px, fs', prs, cs.take (cs.length - k), ?_⟩
      refine M.went (bs := [v, gI S.held 1, gI S.held 2, gI S.held 3, c.a, c.b, c.c, gI S.held 7]) (pp := S.cells.take c.n.toNat) (calls' := S.calls.take (S.calls.length - k)) kp9 (look_new hm9 zx) (look_new hbx zx) upd_same (look_new hk9 zx) ?_ y1 y2 F'
      rw [M.calls.1]
      exact (M.clsAt kp9).take _
end
section
variable {P : Program} {w : World} {K : PySem.W.Frag} {mg : Str → Option Value} {base : Heap} {a : Adr}
set_option maxHeartbeats 4000000 in
theorem ok_callers (T : Txt K mg a) : FnE P w K mg base (CXD P w) 4 "callers" (spCallX K a) := by
  refine fnD_of (sp := (spCallX K a)) 3 T.fn_callers sc_callers (fun vs H Q E h => ?_) (fun f cdv A outer s H vs Q E hr h => ?_)
  · obtain ⟨x, dx, l, d, pk, pp, at0, ev, es, kn, pl, rfl, _⟩ := h
    rfl
  · obtain ⟨x, dx, l, d, pk, pp, at0, ev, es, kn0, pl0, rfl, hx, hl, hev, hk, hkn0, hpl, hpo0, hn0, q, hE⟩ := h
    have hel := hev.1
    refine ⟨_, (pss_cons (PS.nox (ps_set (i := 4) sc_callers.nd rfl (Or.inl rfl) (pe_callB (call_lenK (K := K) rfl) rfl T.z_len b_len (pa_cons (pe_fldK (K := K) rfl (pv 0)) pa_nil))))
      (pss_cons (PS.nox (ps_set (i := 5) sc_callers.nd rfl (Or.inl rfl) (pe_lst pa_nil)))
      (pss_cons (PS.nox (ps_set (i := 6) sc_callers.nd rfl (Or.inl rfl) (pv 1)))
      (pss_cons (PS.nox (ps_set (i := 7) sc_callers.nd rfl (Or.inl rfl) (pe_callTy (call_listK (K := K) rfl) rfl T.z_list b_list (pa_cons (pv 2) pa_nil))))
      (pss_cons (PS.nox (ps_set (i := 8) sc_callers.nd rfl (Or.inl rfl) (pe_callTy (call_listK (K := K) rfl) rfl T.z_list b_list (pa_cons (pv 3) pa_nil))))
      (pss_cons (ps_while PassesOwn.leaving (PT.nox (pt_cmpR (op_neK (K := K) rfl hr.units) (pv 6) (pv 4) (nomark _))) (pss_cons (ps_if (PT.nox (pt_cmpR (op_eqK (K := K) rfl hr.units) (pe_callB (call_lenK (K := K) rfl) rfl T.z_len b_len (pa_cons (pv 5) pa_nil)) (pe_glob (v := .int 5000) rfl T.g_MOST_CALLERS.choose_spec ⟨_, rfl⟩) (nomark _))) (pss_one (ps_raiseX (xinit_Astray (K := K) T) (hr.mono (by decide)) rfl (pa_cons (pv 6) pa_nil))) pss_nil)
      (pss_cons (ps_set (i := 9) sc_callers.nd rfl (Or.inl rfl) (pe_callE (ok_newest_caller (K := K) T) (hr.mono (by decide)) pass_onD rfl (pa_cons (pe_fldK (K := K) rfl (pv 0)) (pa_cons (pv 6) (pa_cons (pv 7) (pa_cons (pv 8) pa_nil))))))
      (pss_cons (PS.nox (ps_expr (pe_bmK (K := K) rfl PySem.F.plainAttrs_list PySem.F.slot_list_append PySem.F.type_list_append mt_append (pv 5) (pa_cons (pv 9) pa_nil))))
      (pss_cons (PS.nox (ps_set (i := 6) sc_callers.nd rfl (Or.inl rfl) (pe_ix (ix_K (K := K) rfl) (pv 9) pe_int (fun _ _ => rfl))))
      (pss_cons (PS.nox (ps_set (i := 7) sc_callers.nd rfl (Or.inl rfl) (pe_op (op_plusK (K := K) rfl) (pe_op (op_plusK (K := K) rfl) (pe_lst (pa_cons pe_non (pa_cons pe_non (pa_cons pe_non (pa_cons pe_non pa_nil))))) (pe_callTy (call_listK (K := K) rfl) rfl T.z_list b_list (pa_cons (pe_ix (ix_K (K := K) rfl) (pv 9) pe_int (fun _ _ => rfl)) pa_nil))) (pe_lst (pa_cons pe_non pa_nil)))))
      (pss_one (PS.nox (ps_set (i := 8) sc_callers.nd rfl (Or.inl rfl) (pe_slice (sl_K (K := K) rfl) (pv 8) po_none (po_some (pe_ix (ix_K (K := K) rfl) (pv 9) pe_int (fun _ _ => rfl)))))))))))))
      (pss_one (PS.nox (ps_ret (pv 5)))))))))), ?_⟩
    refine r_st (σ' := [some _, some _, some _, some _, none, none, none, none, none, none]) rfl ?_
    unfold tabF at hx
    walk_at "rd"
    rename_i pt hpt p1 hp1 p2 hp2
    have n1 := none_upd hp1
    have n2 := none_upd hp2
    have n3 := none_upd n2.1
    generalize hW : walkF es 5000 at0 kn0 pl0 = W at q hE
    refine ⟨fun m σ H' => ∃ (at' : Int) (kn : List V) (pl : List Int) (vs : List V) (ds : List Cal) (pk' pl' : Addr) (cv : Option V), ds.length + m = 5000 ∧ W = (ds ++ (walkF es m at' kn pl).1, (walkF es m at' kn pl).2) ∧ σ = [some (.ref x), some (.int at0), some (.ref pk), some (.ref pp), some (.int ev.length), some (.ref pt), some (.int at'), some (.ref pk'), some (.ref pl'), cv] ∧ Same H H' ∧ H' pt = some (.lst vs) ∧ CalVs H' vs ds ∧
      H' pk' = some (.lst kn) ∧ KnOk kn ∧ H' pl' = some (.lst (pl.map V.int)) ∧ PlOk pl ∧ near at' ∧ pt ≠ pk' ∧ pt ≠ pl', ⟨5000, at0, kn0, pl0, [], [], p1, p2, none, rfl, hW.symm.trans (eta_app _), rfl, by walk_at "same", by walk_at "hlk", True.intro, by walk_at "hlk", hkn0, by walk_at "hlk", hpo0, hn0, n1.2.symm, n3.2.symm⟩, ?_⟩
    clear hW
    rintro m σ H' ⟨at', kn, pl, vs, ds, pk', pl', cv, hf, hw, rfl, sH, hvs, hcv, hk', hkn, hl', hpo, hnear, ne1, ne2⟩
    have hlen := hcv.len
    by_cases hhome : at' = ev.length
    · rw [walk_home (by omega)] at hw
      subst hhome
      walk_at "rd"
      rw [List.append_nil] at hw
      subst hw
      exact q rfl _ _ _ sH hpt hvs hcv
    have hne : at' ≠ es.length := by omega
    walk_at "rd"
    refine ⟨_, fun σ' H' h => h, ?_⟩
    by_cases hfull : m = 0
    · walk_at "rd"
      refine ⟨log_small (by have := hnear.1; omega) (by have := hnear.2; omega), fun d hd => ?_⟩
      exact hE at' (by rw [hw, walk_lost hne (.inl hfull)]) d _ (by walk_at "same") upd_same
    obtain ⟨m, rfl⟩ : ∃ m', m = m' + 1 := ⟨m - 1, by omega⟩
    walk_at "rd"
    refine ⟨_, _, _, at', ev, es, kn, pl, rfl, by walk_at "sql", hev.same (by walk_at "same"), by walk_at "sql", hkn, by walk_at "sql", hpo, hnear, fun c v H2 hst s2 hcal => ?_, fun hst d H2 s2 hd => ?_⟩
    · obtain ⟨t, qq, rfl, ht, hqq⟩ := id hcal
      obtain ⟨o1, o2, o3, o4⟩ := step_ok hkn hpo hst
      have hvs2 := s2 _ _ hvs
      have net : pt ≠ t := fun z => by subst z; rw [hvs2] at ht; cases ht
      have neq : pt ≠ qq := fun z => by subst z; rw [hvs2] at hqq; cases hqq
      have sH2 : Same H H2 := sH.trans s2
      have hk2 := s2 _ _ hk'
      have hl2 := s2 _ _ hl'
      have hcv2 : CalVs H2 vs ds := hcv.same s2
      walk_at "rd"
      rw [cutI_take _ o3]
      refine ⟨m, by omega, c.r, knOf c, pl.take c.n.toNat, vs ++ [.ref t], ds ++ [c], _, _, _, by rw [List.length_append, List.length_singleton]; omega, walk_push hne hst hw, rfl, by walk_at "same", by walk_at "hlk", ?_, by walk_at "hlk", o2, by walk_at "hlk", hpo.take _, o1, by walk_at "ne", by walk_at "ne"⟩
      refine CalVs.same (H := upd H2 pt (.lst (vs ++ [.ref t]))) (by walk_at "same") (CalVs.snoc ?_ ?_)
      · exact ⟨t, qq, rfl, by rw [upd_ne net.symm]; exact ht, by rw [upd_ne neq.symm]; exact hqq⟩
      · exact CalVs.upd hvs2 hcv2
    · exact hE at' (by rw [hw, walk_lost hne (.inr hst)]) d H2 (sH.trans s2) hd
end
section
variable {P : Program} {w : World} {K : PySem.W.Frag} {mg : Str → Option Value} {base : Heap} {a : Adr}
theorem for_enum {K : PySem.W.Frag} {b : Addr} {xs : List V} {g : TG} {tb : TS} {D : Ends} {σ : L2.St} {H : Hp} (Pv : Nat → L2.St → Hp → Prop) (h0 : Pv 0 σ H) (hl : ∀ i σ H, i ≤ xs.length → Pv i σ H → SqL K H b xs)
    (hs : ∀ i x T σ H, xs[i]? = some x → Pv i σ H → H T = none → g (.ref T) σ (upd H T (.tup [.int ((i : Int) + 1), x])) fun σ2 H2 => tb { D with nx := Pv (i + 1), ct := Pv (i + 1), bk := D.nx } σ2 H2) (hd : ∀ σ H, Pv xs.length σ H → D.nx σ H) : ForW (ItE K b) g tb D σ H := by
  refine ⟨fun i m σ H => m = xs.length - i ∧ i ≤ xs.length ∧ Pv i σ H, ⟨xs.length, by simp, Nat.zero_le _, h0⟩, ?_⟩
  rintro i m σ H ⟨rfl, hi, p⟩
  have q1 := hl i σ H hi p
  by_cases hlt : i < xs.length
  · refine .inr ⟨⟨xs, xs[i], q1, by simp [hlt]⟩, Pv (i + 1), fun σ' H' p' => ⟨xs.length - (i + 1), by omega, rfl, hlt, p'⟩, fun x H' y => ?_⟩
    obtain ⟨T, x', rfl, hT, rfl, hxy⟩ := y
    exact hs i x' T σ H (hxy _ q1) p hT
  · have e : i = xs.length := by omega
    subst e
    exact .inl ⟨⟨xs, q1, Nat.le_refl _⟩, hd σ H p⟩
theorem CalVs.at2 {H : Hp} : ∀ {vs : List V} {cs : List Cal} {i : Nat} {v : V}, CalVs H vs cs → vs[i]? = some v → ∃ c, cs[i]? = some c ∧ CalV H v c
  | [], cs, i, v, _, e => by simp at e
  | u :: vs, [], i, v, h, _ => h.elim
  | u :: vs, c :: cs, 0, v, h, e => by
    cases e
    exact ⟨c, rfl, h.1⟩
  | u :: vs, c :: cs, i + 1, v, h, e => CalVs.at2 (vs := vs) (cs := cs) (i := i) h.2 (by simpa using e)
set_option maxHeartbeats 4000000 in
theorem me_Machine_drop (T : Txt K mg a)  : MethE P w K mg base CX0 5 a.C_Machine "drop" (spDrop K a) := by
  refine methE_of (sp := (spDrop K a)) 4 T.cl_Machine T.m_Machine_drop sc_Machine_drop (fun vs H Q E h => ?_) (fun f cdv A outer s H vs Q E hr h => ?_)
  · obtain ⟨m, pk, pt, v, S, es, kvs, rfl, _⟩ := h
    rfl
  · obtain ⟨m, pk, pt, v, S, es, kvs, rfl, MM, O, TT, LO, hlt, hcl, q⟩ := h
    obtain ⟨ev, TI, EV⟩ := id TT
    obtain ⟨dx, pc, ph, pl, fs, prs, cs, M⟩ := id MM
    obtain ⟨dt, l, d, ht, hl, hd, hlk⟩ := id TI
    have f1 := M.f.coming
    have f2 := M.f.held
    have f3 := M.f.cells
    have f5 := M.f.home
    have f6 := M.f.table
    have fl := M.f.len
    have fn := M.f.no
    have hm := M.hm
    have hh := M.hh
    have hls := M.hl
    have hmany := O.many
    have ha0 := O.at0
    have hwl := walk_len 5000 S.coming (S.held.map V.int) S.cells (es := es)
    have hwv := O.walk es
    unfold MS.walk at hwv
    unfold MS.dropped at q
    refine ⟨_, (pss_cons (ps_tryDN rfl rfl rfl (pbD_set (i := 2) sc_Machine_drop.nd rfl (Or.inl rfl) (px_call (ok_callers (K := K) T) (hr.mono (by decide)) rfl (pa_cons (pe_fldK (K := K) rfl (pv 0)) (pa_cons (pe_fldK (K := K) rfl (pv 0)) (pa_cons (pe_fldK (K := K) rfl (pv 0)) (pa_cons (pe_fldK (K := K) rfl (pv 0)) pa_nil)))))) T.xo_Astray.choose_spec rfl (fun ea => (pss_cons (ps_fldK (K := K) rfl (pv 0) pe_str)
      (pss_one ps_retN))))
      (pss_cons (ps_for PassesOwn.never rfl (pi_enum (K := K) rfl rfl T.z_enumerate (pa_cons (pv 2) pa_nil) pe_int) (pg_tupK (K := K) rfl rfl (pgs_cons (pg_name (i := 3) sc_Machine_drop.nd rfl (Or.inl rfl)) (pgs_cons (pg_name (i := 4) sc_Machine_drop.nd rfl (Or.inl rfl)) pgs_nil))) (pss_one (ps_if (PW.pt (pw_and (pt_cmpR (op_neK (K := K) rfl hr.units) (pe_ix (ix_K (K := K) rfl) (pv 4) pe_int (fun _ _ => rfl)) (pe_fldK (K := K) rfl (pv 0)) (nomark _)) (pw_and1 (pt_cmp (pc_din (hu_of hr) (pe_op op_sub (pe_ix (ix_K (K := K) rfl) (pv 4) pe_int (fun _ _ => rfl)) pe_int) (pe_fldK (K := K) rfl (pe_fldK (K := K) rfl (pv 0)))))))) (pss_cons (ps_expr (pe_methK (P := P) (w := w) (K := K) (mg := mg) (base := base) (k := 3) ⟨rfl, rfl, rfl, rfl, rfl⟩ (pv 0) (hr.mono (by decide)) pass0 (pa_cons (pv 1) (pa_cons (pv 4) (pa_cons (pv 3) pa_nil)))))
      (pss_one ps_retN)) pss_nil)))
      (pss_cons (ps_fldK (K := K) rfl (pv 0) pe_str)
      (pss_one (ps_fldK (K := K) rfl (pv 0) (pv 1)))))), ?_⟩
    refine r_st (σ' := [some _, some _, none, none, none]) rfl ?_
    walk_at "rd"
    refine ⟨pt, dt, l, d, ph, pl, S.coming, ev, es, S.held.map V.int, S.cells, rfl, ht, hl, EV, SqL.of hh, O.kn, SqL.of hls, O.pl, ⟨by omega, by omega⟩, fun hW p us H1 s1 np hp hcv => ?_, fun r hW d1 H1 s1 hd1 => ⟨rfl, d1, rfl, ?_⟩⟩
    · rw [hW] at q
      dsimp only at q
      have hm1 := s1 _ _ hm
      have M1 := M.to s1
      have hd1 := s1 _ _ hd
      have ht1 := s1 _ _ ht
      unfold tabF at ht1
      generalize hcals : (walkF es 5000 S.coming (S.held.map V.int) S.cells).1 = cals at q hcv hwl hwv
      walk_at "rd"
      refine ⟨p, us, rfl, rfl, SqL.of hp, ?_⟩
      refine for_enum (xs := us) (fun i σ H2 => (∃ u w, σ = [some (.ref m), some (.int v), some (.ref p), u, w]) ∧ Same H1 H2 ∧ ∀ j c, j < i → cals[j]? = some c → landAt S.rows.length kvs c = false) ⟨⟨_, _, rfl⟩, Same.refl _, fun j c hj => absurd hj (Nat.not_lt_zero _)⟩ (fun i σ H2 _ ⟨_, s, _⟩ => SqL.of (s _ _ hp)) ?_ ?_
      · rintro i x T1 σ H2 hx ⟨⟨u, w, rfl⟩, s2, hno⟩ hT
        obtain ⟨c, hc, hcal⟩ := CalVs.at2 hcv hx
        obtain ⟨t, q', rfl, hq1, hq2⟩ := id hcal
        have hm2 := s2 _ _ hm1
        have hd2 := s2 _ _ hd1
        have ht2 := s2 _ _ ht1
        have hq12 := s2 _ _ hq1
        have inv : landAt S.rows.length kvs c = false → ∀ j c', j < i + 1 → cals[j]? = some c' → landAt S.rows.length kvs c' = false := fun hf j c' hj e => by
          rcases Nat.lt_or_ge j i with z | z
          · exact hno j c' z e
          · have : j = i := by omega
            subst this
            rw [hc] at e; cases e; exact hf
        by_cases hr1 : c.r = (S.rows.length : Int)
        · walk_at "rd"
          exact ⟨⟨_, _, rfl⟩, by walk_at "same", inv (by unfold landAt; rw [decide_eq_false (fun z => z hr1)]; rfl)⟩
        · walk_at "rd"
          refine r_dIn ?_
          walk_at "rd"
          refine r_dinI (by walk_at "hlk") ?_
          cases hv : valV kvs (.inl (c.r - 1)) with
          | none =>
            walk_at "rd"
            exact ⟨⟨_, _, rfl⟩, by walk_at "same", inv (by unfold landAt; rw [hv, Bool.and_comm]; rfl)⟩
          | some val =>
            obtain ⟨n, rfl⟩ := LO _ _ hv
            have hfi : cals.findIdx? (landAt S.rows.length kvs) = some i := by
              rw [List.findIdx?_eq_some_iff_getElem]
              have hi : i < cals.length := (List.getElem?_eq_some_iff.mp hc).1
              have hci : cals[i] = c := (List.getElem?_eq_some_iff.mp hc).2
              refine ⟨hi, ?_, fun j hj => ?_⟩
              · rw [hci]; unfold landAt; rw [hv, decide_eq_true hr1]; rfl
              · have hj' : j < cals.length := by omega
                have := hno j cals[j] hj (List.getElem?_eq_getElem hj')
                rw [this]; exact Bool.false_ne_true
            rw [hfi] at q
            dsimp only at q
            rw [hc] at q
            dsimp only at q
            have hln : landN kvs c = some n := by unfold landN; rw [hv]
            rw [hln] at q
            dsimp only at q
            rw [Option.isSome_some]
            walk_at "rd"
            refine r_methV (by walk_at "hlk") (fn _ (by decide +kernel)) ((me_Machine_land T).mono (by decide)) ?_
            walk_at "rd"
            have s12 : Same H (upd H2 T1 (.tup [.int ((i : Int) + 1), .ref t])) := s1.trans (s2.trans (same_new hT))
            refine ⟨m, pk, pt, t, v, n, i + 1, c, S, es, kvs, rfl, MM.to s12, O, TT.same s12, (hcal.same s2).same (same_new hT), (hwv c (List.mem_of_getElem? hc)).2.2.2, hcl, hv, fun H' k M' => ?_⟩
            walk_at "rd"
            exact q H' ((Kept2.of_same s12).trans k) M'
      · rintro σ H2 ⟨⟨u, w, rfl⟩, s2, hno⟩
        have hm2 := s2 _ _ hm1
        have hfi : cals.findIdx? (landAt S.rows.length kvs) = none := by
          rw [List.findIdx?_eq_none_iff]
          intro c hc
          obtain ⟨j, hj, e⟩ := List.mem_iff_getElem.mp hc
          have hlen := hcv.len
          exact hno j c (by omega) (by rw [List.getElem?_eq_getElem hj, e])
        rw [hfi] at q
        walk_at "rd"
        rw [upd_again]
        exact q _ (Kept2.upd1 (Kept2.of_same (s1.trans s2))) ⟨dx, pc, ph, pl, _, prs, cs, (M1.to s2).went Kept2.refl hm2 (M1.to s2).hh (M1.to s2).hl (M1.to s2).hk ((M1.to s2).clsAt Kept2.refl) M.n2 M.n3 ((M.f.setState _).setDrp _)⟩
    · rw [hW] at q
      have hm1 := s1 _ _ hm
      walk_at "rd"
      exact q _ (Kept2.upd1 (Kept2.of_same s1)) (M.faulted s1 _)
end
section
variable {P : Program} {w : World} {K : PySem.W.Frag} {mg : Str → Option Value} {base : Heap} {a : Adr}
set_option maxHeartbeats 4000000 in
theorem ok_law_told (T : Txt K mg a) : FnE P w K mg base CX0 5 "_law_told" (spToldM K a) := by
  refine fnE_of (sp := (spToldM K a)) 4 T.fn_law_told sc_law_told (fun vs H Q E h => ?_) (fun f cdv A outer s H vs Q E hr h => ?_)
  · obtain ⟨t, m, pk, pt, S, es, kvs, rfl, _⟩ := h
    rfl
  · obtain ⟨t, m, pk, pt, S, es, kvs, rfl, ⟨ev, TI, EV⟩, MM, O, hlt, q⟩ := h
    obtain ⟨dx, pc, ph, pl, fs, prs, cs, M⟩ := id MM
    obtain ⟨dt, l, d, ht, hl, hd, hlk⟩ := TI
    have f1 := M.f.coming
    have f2 := M.f.held
    have f3 := M.f.cells
    have fn := M.f.no
    have hm := M.hm
    have hh := M.hh
    have hls := M.hl
    have ha0 := O.at0
    have hmany := O.many
    refine ⟨_, (pss_cons (ps_set (i := 2) sc_law_told.nd rfl (Or.inl rfl) pe_non)
      (pss_cons (ps_tryDN rfl rfl rfl (pbD_set (i := 2) sc_law_told.nd rfl (Or.inl rfl) (px_call (ok_callers (K := K) T) (hr.mono (by decide)) rfl (pa_cons (pv 0) (pa_cons (pe_methK0 (P := P) (w := w) (K := K) (mg := mg) (base := base) (k := 1) ⟨rfl, rfl, rfl, rfl, rfl⟩ (pv 1) (hr.mono (by decide)) pass0) (pa_cons (pe_methK0 (P := P) (w := w) (K := K) (mg := mg) (base := base) (k := 1) ⟨rfl, rfl, rfl, rfl, rfl⟩ (pv 1) (hr.mono (by decide)) pass0) (pa_cons (pe_methK0 (P := P) (w := w) (K := K) (mg := mg) (base := base) (k := 1) ⟨rfl, rfl, rfl, rfl, rfl⟩ (pv 1) (hr.mono (by decide)) pass0) pa_nil)))))) T.xo_Astray.choose_spec rfl (fun ea => (pss_one (ps_set (i := 2) sc_law_told.nd rfl (Or.inl rfl) pe_non))))
      (pss_one (ps_ret (pv 2))))), ?_⟩
    refine r_st (σ' := [some _, some _, none]) rfl ?_
    walk_at "rd"
    refine r_methV hm (fn _ (by decide +kernel)) ((me_Machine_at T).mono (by decide)) ?_
    walk_at "rd"
    refine ⟨m, dx, fs, _, rfl, hm, f1, ?_⟩
    walk_at "rd"
    refine r_methV hm (fn _ (by decide +kernel)) ((me_Machine_boxes T).mono (by decide)) ?_
    walk_at "rd"
    refine ⟨m, dx, ph, fs, _, rfl, hm, f2, hh, fun lb nlb => ?_⟩
    walk_at "rd"
    refine r_methV (look_new hm nlb) (fn _ (by decide +kernel)) ((me_Machine_pile T).mono (by decide)) ?_
    walk_at "rd"
    refine ⟨m, dx, pl, fs, _, rfl, look_new hm nlb, f3, look_new hls nlb, fun lp nlp => ?_⟩
    walk_at "rd"
    have s0 : Same H (upd (upd H lb (.lst (S.held.map V.int))) lp (.lst (S.cells.map V.int))) := (same_new nlb).trans (same_new nlp)
    refine ⟨t, dt, l, d, lb, lp, S.coming, ev, es, S.held.map V.int, S.cells, rfl, s0 _ _ ht, s0 _ _ hl, EV.same s0, SqL.of (look_new upd_same nlp), O.kn, SqL.of upd_same, O.pl, ⟨by omega, by omega⟩, fun hW p us H1 s1 np hp hcv => ?_, fun r hW d1 H1 s1 hd1 => ⟨rfl, d1, rfl, ?_⟩⟩
    · walk_at "rd"
      exact q _ _ (s0.trans s1) (.inl ⟨hW, p, us, rfl, (ne_of_none (s0 _ _ M.hk) np).symm, hp, hcv⟩)
    · walk_at "rd"
      exact q _ _ (s0.trans s1) (.inr ⟨⟨r, hW⟩, rfl⟩)
end
section
variable {P : Program} {w : World} {K : PySem.W.Frag} {mg : Str → Option Value} {base : Heap} {a : Adr}
set_option maxHeartbeats 4000000 in
theorem me_Machine_step (T : Txt K mg a)  : MethE P w K mg base CX0 6 a.C_Machine "step" (spStepD K a) := by
  refine methE_of (sp := (spStepD K a)) 5 T.cl_Machine T.m_Machine_step sc_Machine_step (fun vs H Q E h => ?_) (fun f cdv A outer s H vs Q E hr h => ?_)
  · obtain ⟨m, pk, pt, S, es, kvs, rfl, _⟩ := h
    rfl
  · obtain ⟨m, pk, pt, S, es, kvs, rfl, MM, O, TT, LO, hcl, q⟩ := h
    obtain ⟨dx, pc, ph, pl, fs, prs, cs, M⟩ := id MM
    have f0 := M.f.state
    have f1 := M.f.coming
    have f2 := M.f.code
    have f3 := M.f.held
    have fn := M.f.no
    have hm := M.hm
    have hc := M.hc
    have hh := M.hh
    have h8 := O.h8
    unfold MS.stepD at q
    refine ⟨_, (pss_cons (ps_if (pt_cmpR (op_neK (K := K) rfl hr.units) (pe_fldK (K := K) rfl (pv 0)) pe_str (nomark _)) (pss_one ps_retN) pss_nil)
      (pss_cons (ps_set (i := 1) sc_Machine_step.nd rfl (Or.inl rfl) (pe_ix (ix_K (K := K) rfl) (pe_fldK (K := K) rfl (pv 0)) (pe_fldK (K := K) rfl (pv 0)) (fun _ _ => rfl)))
      (pss_one (ps_if (pt_truK (K := K) rfl (pe_callB (call_isiK (K := K) rfl) rfl T.z_isinstance b_isinstance (pa_cons (pv 1) (pa_cons (pe_glob (v := .ref a.C_Drop) rfl T.c_Drop rfl) pa_nil)))) (pss_one (ps_expr (pe_methK (P := P) (w := w) (K := K) (mg := mg) (base := base) (k := 5) ⟨rfl, rfl, rfl, rfl, rfl⟩ (pv 0) (hr.mono (by decide)) pass0 (pa_cons (pe_ix (ix_K (K := K) rfl) (pe_fldK (K := K) rfl (pv 0)) (pe_fldK (K := K) rfl (pv 1)) (fun _ _ => rfl)) pa_nil)))) (pss_one (ps_expr (pe_methK (P := P) (w := w) (K := K) (mg := mg) (base := base) (k := 3) ⟨rfl, rfl, rfl, rfl, rfl⟩ (pv 0) (hr.mono (by decide)) pass0 (pa_cons (pv 1) pa_nil)))))))), ?_⟩
    refine r_st (σ' := [some _, none]) rfl ?_
    by_cases hs : V.str S.state = V.str "runs"
    · have hs' : S.state = "runs" := by injection hs
      rw [if_pos hs'] at q
      obtain ⟨r, hr0, hmem⟩ := O.row hs'
      rw [hr0] at q
      dsimp only at q
      obtain ⟨rok, rh0⟩ := O.ok r hmem
      have a0 := O.at0
      have a1 := O.at1 hs'
      have hl : S.coming.toNat < prs.length := by rw [M.rows.1]; omega
      have hp : prs[S.coming.toNat]? = some prs[S.coming.toNat] := List.getElem?_eq_getElem hl
      generalize prs[S.coming.toNat] = p at hp
      obtain ⟨dxr, hrow⟩ := M.rows.2 _ _ _ hp hr0
      have hat : atI (prs.map V.ref) S.coming = some (.ref p) := by
        rw [show S.coming = ((S.coming.toNat : Nat) : Int) by omega]
        exact atI_nat (by rw [List.getElem?_map, hp]; rfl)
      walk_at "rd"
      cases hD : r.isDrop with
      | false =>
        have rh := rh0 hD
        rw [rowD_do hD] at q
        obtain ⟨t1, ty1, kd, _, _⟩ := ty_all T rh ⟨dxr, hrow⟩
        refine r_isi (fun z => by cases z) ty1 kd ?_
        rw [hD]
        walk_at "rd"
        refine r_methV hm (fn _ (by decide +kernel)) ((me_Machine_do T).mono (by decide)) ?_
        walk_at "rd"
        refine ⟨m, p, pk, pt, r, S, rfl, MM, O, ⟨dxr, hrow⟩, hmem, hD, M.n4 p (List.mem_of_getElem? hp), a1, hcl, fun H' k M' => ?_⟩
        walk_at "rd"
        exact q H' k M'
      | true =>
        obtain ⟨b, rfl⟩ : ∃ b, r = .drop b := by cases r <;> first | exact ⟨_, rfl⟩ | cases hD
        change H p = some (.ins a.C_Drop dxr (putF "box" (.int b) [])) at hrow
        obtain ⟨b0, b1⟩ : isBox b := rok
        refine r_isi (fun z => by cases z) (.ins hrow T.cl_Drop T.ty_Drop.1 T.ob1 T.ob2 T.ty_Drop.2) T.is_Drop_Drop ?_
        walk_at "rd"
        refine r_methV hm (fn _ (by decide +kernel)) ((me_Machine_drop T).mono (by decide)) ?_
        walk_at "rd"
        refine ⟨m, pk, pt, gI S.held b, S, es, kvs, rfl, MM, O, TT, LO, a1, hcl, fun H' k M' => ?_⟩
        walk_at "rd"
        exact q H' k M'
    · have hs' : ¬ S.state = "runs" := fun z => hs (by rw [z])
      rw [if_neg hs'] at q
      walk_at "rd"
      exact q H Kept2.refl MM
end
section
variable {P : Program} {w : World} {K : PySem.W.Frag} {mg : Str → Option Value} {base : Heap} {a : Adr}
set_option maxHeartbeats 4000000 in
theorem ok_law_stays (T : Txt K mg a) : FnE P w K mg base CX0 7 "_law_stays" (spStays K a) := by
  refine fnE_of (sp := (spStays K a)) 6 T.fn_law_stays sc_law_stays (fun vs H Q E h => ?_) (fun f cdv A outer s H vs Q E hr h => ?_)
  · obtain ⟨m, pk, pt, t, wd, lv, S, es, kvs, rfl, _⟩ := h
    rfl
  · obtain ⟨m, pk, pt, t, wd, lv, S, es, kvs, rfl, MM, O, TT, LO, hcl, hA, hw, hnr, hlv, hlo, q⟩ := h
    obtain ⟨dx, pc, ph, pl, fs, prs, cs, M⟩ := id MM
    have f0 := M.f.state
    have f7 := M.f.drp
    have fn := M.f.no
    have hm := M.hm
    have hk := M.hk
    rw [hw] at f0
    rw [hlv] at f7
    refine ⟨_, (pss_cons (ps_if (PW.pt (pw_or (pt_cmpR (op_neK (K := K) rfl hr.units) (pe_callE (ok_law_all (K := K) T) (hr.mono (by decide)) pass0 rfl (pa_cons (pv 0) pa_nil)) (pv 1) (nomark _)) (pw_or (pt_cmpR (op_neK (K := K) rfl hr.units) (pe_methK0 (P := P) (w := w) (K := K) (mg := mg) (base := base) (k := 1) ⟨rfl, rfl, rfl, rfl, rfl⟩ (pv 0) (hr.mono (by decide)) pass0) (pv 2) (nomark _)) (pw_or1 (pt_cmpR (op_neK (K := K) rfl hr.units) (pe_methK0 (P := P) (w := w) (K := K) (mg := mg) (base := base) (k := 1) ⟨rfl, rfl, rfl, rfl, rfl⟩ (pv 0) (hr.mono (by decide)) pass0) (pv 3) (nomark _)))))) (pss_one (ps_ret pe_bl)) pss_nil)
      (pss_cons (ps_expr (pe_methK0 (P := P) (w := w) (K := K) (mg := mg) (base := base) (k := 6) ⟨rfl, rfl, rfl, rfl, rfl⟩ (pv 0) (hr.mono (by decide)) pass0))
      (pss_one (ps_ret (pe_and (pe_cmpR (op_eqK (K := K) rfl hr.units) (pe_callE (ok_law_all (K := K) T) (hr.mono (by decide)) pass0 rfl (pa_cons (pv 0) pa_nil)) (pv 1) (nomark _)) (pe_and (pe_cmpR (op_eqK (K := K) rfl hr.units) (pe_methK0 (P := P) (w := w) (K := K) (mg := mg) (base := base) (k := 1) ⟨rfl, rfl, rfl, rfl, rfl⟩ (pv 0) (hr.mono (by decide)) pass0) (pv 2) (nomark _)) (pe_one (pe_cmpR (op_eqK (K := K) rfl hr.units) (pe_methK0 (P := P) (w := w) (K := K) (mg := mg) (base := base) (k := 1) ⟨rfl, rfl, rfl, rfl, rfl⟩ (pv 0) (hr.mono (by decide)) pass0) (pv 3) (nomark _))))))))), ?_⟩
    refine r_st (σ' := [some _, some _, some _, some _]) rfl ?_
    walk_at "rd"
    refine ⟨m, pk, pt, S, rfl, MM, fun t1 H1 s1 hA1 => ?_⟩
    have hm1 := s1 _ _ hm
    walk_at "rd"
    refine r_neT _ hA1.dp (hA.same s1).dp (shaped_all _ _ _ _) ?_
    walk_at "rd"
    refine r_methV hm1 (fn _ (by decide +kernel)) ((me_Machine_word T).mono (by decide)) ?_
    walk_at "rd"
    refine ⟨m, dx, fs, _, rfl, hm1, f0, ?_⟩
    walk_at "rd"
    refine r_methV hm1 (fn _ (by decide +kernel)) ((me_Machine_fault T).mono (by decide)) ?_
    walk_at "rd"
    refine ⟨m, dx, fs, _, rfl, hm1, f7, ?_⟩
    walk_at "rd"
    have hsc : scal lv lv = true := by rcases hlo with rfl | ⟨i, rfl⟩ <;> rfl
    refine r_neS hsc ?_
    rw [decide_eq_true (rfl : lv = lv)]
    walk_at "rd"
    refine r_methV hm1 (fn _ (by decide +kernel)) ((me_Machine_step T).mono (by decide)) ?_
    walk_at "rd"
    refine ⟨m, pk, pt, S, es, kvs, rfl, MM.to s1, O, TT.same s1, LO, hcl, fun H2 k2 M2 => ?_⟩
    rw [stepD_not (by rw [hw]; exact hnr)] at M2
    have hA2 := (hA.same s1).kept k2 hm1 (s1 _ _ hk)
    obtain ⟨dx2, pc2, ph2, pl2, fs2, prs2, cs2, N⟩ := id M2
    have g0 := N.f.state
    have g7 := N.f.drp
    have gn := N.f.no
    have hn := N.hm
    rw [hw] at g0
    rw [hlv] at g7
    walk_at "rd"
    refine ⟨m, pk, pt, S, rfl, M2, fun t2 H3 s3 hA3 => ?_⟩
    have hn3 := s3 _ _ hn
    walk_at "rd"
    refine r_eqT _ hA3.dp (hA2.same s3).dp (shaped_all _ _ _ _) ?_
    walk_at "rd"
    refine r_methV hn3 (gn _ (by decide +kernel)) ((me_Machine_word T).mono (by decide)) ?_
    walk_at "rd"
    refine ⟨m, dx2, fs2, _, rfl, hn3, g0, ?_⟩
    walk_at "rd"
    refine r_methV hn3 (gn _ (by decide +kernel)) ((me_Machine_fault T).mono (by decide)) ?_
    walk_at "rd"
    refine ⟨m, dx2, fs2, _, rfl, hn3, g7, ?_⟩
    walk_at "rd"
    refine r_eqS hsc ?_
    rw [decide_eq_true (rfl : lv = lv)]
    exact q H3 ((Kept2.of_same s1).trans (k2.trans (Kept2.of_same s3))) (M2.to s3)
end
section
variable {P : Program} {w : World} {K : PySem.W.Frag} {mg : Str → Option Value} {base : Heap} {a : Adr}
theorem CalVs.at4 {H : Hp} : ∀ {vs : List V} {cs : List Cal} {i : Nat} {v : V}, CalVs H vs cs → vs[i]? = some v → ∃ c, cs[i]? = some c ∧ CalV H v c
  | [], cs, i, v, _, e => by simp at e
  | u :: vs, [], i, v, h, _ => h.elim
  | u :: vs, c :: cs, 0, v, h, e => by
    cases e
    exact ⟨c, rfl, h.1⟩
  | u :: vs, c :: cs, i + 1, v, h, e => CalVs.at4 (vs := vs) (cs := cs) (i := i) h.2 (by simpa using e)
theorem str_dr : ("dropped" : Str) ≠ "runs" := by decide +kernel
theorem dr_ok : PyData.strOk "dropped" = true := by decide +kernel
theorem cut13d {bs : List Int} (h : bs.length = 8) : cutI bs (some 1) (some 4) = [gI bs 1, gI bs 2, gI bs 3] := by
  match bs, h with | [x0, x1, x2, x3, x4, x5, x6, x7], _ => rfl
theorem cut7d {bs : List Int} (h : bs.length = 8) : cutI bs (some 7) none = [gI bs 7] := by
  match bs, h with | [x0, x1, x2, x3, x4, x5, x6, x7], _ => rfl
theorem take_revN {cs : List Cl} (k : Nat) : (cs.take (cs.length - k)).reverse = cs.reverse.drop k := by
  rw [List.reverse_take]
  by_cases h : k ≤ cs.length
  · congr 1; omega
  · rw [List.drop_of_length_le (by rw [List.length_reverse]; omega), List.drop_of_length_le (by rw [List.length_reverse]; omega)]
theorem ClsAt.dropN {H : Hp} {vs : List V} {cs : List Cl} (h : ClsAt H vs cs) (k : Nat) : ClsAt H (vs.drop k) (cs.drop k) :=
  ⟨by rw [List.length_drop, List.length_drop, h.1], fun i v c e1 e2 => h.2 (k + i) v c (by rw [List.getElem?_drop] at e1; exact e1) (by rw [List.getElem?_drop] at e2; exact e2)⟩
theorem cut_fromN (dv : List V) (k : Nat) : cutV dv (some (k : Int)) none = dv.drop k := by
  unfold cutV
  have e1 : HT.sIx dv.length 0 (some (k : Int)) = min k dv.length := HT.sIx_nat _ _ k
  have e2 : HT.sIx dv.length dv.length none = dv.length := rfl
  rw [e1, e2]
  by_cases h : k ≤ dv.length
  · rw [Nat.min_eq_left h, List.take_of_length_le (by rw [List.length_drop]; exact Nat.le_refl _)]
  · rw [Nat.min_eq_right (by omega), List.drop_of_length_le (Nat.le_refl _), List.drop_of_length_le (by omega), List.take_nil]
theorem abs_heapD {H8 HX : Hp} {R : Hp → Prop} {b : Addr} {xs : List V} (h : Same H8 HX) (hb : HX b = some (.lst xs)) (k : ∀ H9, Same H8 H9 → H9 b = some (.lst xs) → R H9) : R HX := k HX h hb
set_option maxHeartbeats 4000000 in
theorem ok_law_dropped (T : Txt K mg a) : FnE P w K mg base CX0 8 "_law_dropped" (spDropped K a) := by
  refine fnE_of (sp := (spDropped K a)) 7 T.fn_law_dropped sc_law_dropped (fun vs H Q E h => ?_) (fun f cdv A outer s H vs Q E hr h => ?_)
  · obtain ⟨m, pk, pt, t, b, S, es, kvs, rfl, _⟩ := h
    rfl
  · obtain ⟨m, pk, pt, t, b, S, es, kvs, rfl, MM, O, TP, TT, LO, hcl, hs, hrow, ⟨b0, b1⟩, hdn, q⟩ := h
    obtain ⟨dx, pc, ph, pl, fs, prs, cs, M⟩ := id MM
    have f7 := M.f.drp
    rw [hdn] at f7
    have fn := M.f.no
    have hm := M.hm
    have hk := M.hk
    have h8 := O.h8
    have hlt := O.at1 hs
    have hwl := walk_len 5000 S.coming (S.held.map V.int) S.cells (es := es)
    have hst : S.stepD es kvs = S.dropped es kvs (gI S.held b) := stepD_at hs hrow
    rw [hst] at q
    refine ⟨_, (pss_cons (ps_set (i := 4) sc_law_dropped.nd rfl (Or.inl rfl) (pe_callE (ok_law_told (K := K) T) (hr.mono (by decide)) pass0 rfl (pa_cons (pv 1) (pa_cons (pv 0) pa_nil))))
      (pss_cons (ps_set (i := 5) sc_law_dropped.nd rfl (Or.inl rfl) (pe_callE (ok_law_all (K := K) T) (hr.mono (by decide)) pass0 rfl (pa_cons (pv 0) pa_nil)))
      (pss_cons (ps_set (i := 6) sc_law_dropped.nd rfl (Or.inl rfl) (pe_ix (ix_K (K := K) rfl) (pe_ix (ix_K (K := K) rfl) (pv 5) pe_int (fun _ _ => rfl)) (pv 2) (fun _ _ => rfl)))
      (pss_cons (ps_if (pt_cmpR op_notNA (pe_methK0 (P := P) (w := w) (K := K) (mg := mg) (base := base) (k := 1) ⟨rfl, rfl, rfl, rfl, rfl⟩ (pv 0) (hr.mono (by decide)) pass0) pe_non (nomark _)) (pss_one (ps_ret pe_bl)) pss_nil)
      (pss_cons (ps_expr (pe_methK0 (P := P) (w := w) (K := K) (mg := mg) (base := base) (k := 6) ⟨rfl, rfl, rfl, rfl, rfl⟩ (pv 0) (hr.mono (by decide)) pass0))
      (pss_cons (ps_if (pt_cmpR op_isNA (pv 4) pe_non (nomark _)) (pss_one (ps_ret (pe_callE (ok_law_stays (K := K) T) (hr.mono (by decide)) pass0 rfl (pa_cons (pv 0) (pa_cons (pv 5) (pa_cons pe_str (pa_cons pe_non pa_nil))))))) pss_nil)
      (pss_cons (ps_set (i := 7) sc_law_dropped.nd rfl (Or.inl rfl) (pe_callE (ok_law_landing (K := K) T) (hr.mono (by decide)) pass0 rfl (pa_cons (pv 4) (pa_cons (pe_fldK (K := K) rfl (pv 1)) (pa_cons (pv 3) pa_nil)))))
      (pss_cons (ps_if (pt_cmpR (op_eqK (K := K) rfl hr.units) (pv 7) (pe_un un_neg pe_int) (nomark _)) (pss_one (ps_ret (pe_callE (ok_law_stays (K := K) T) (hr.mono (by decide)) pass0 rfl (pa_cons (pv 0) (pa_cons (pv 5) (pa_cons pe_str (pa_cons (pv 6) pa_nil))))))) pss_nil)
      (pss_cons (ps_set (i := 8) sc_law_dropped.nd rfl (Or.inl rfl) (pe_dget (hu_of hr) (pe_fldK (K := K) rfl (pv 1)) (pe_op op_sub (pe_ix (ix_K (K := K) rfl) (pe_ix (ix_K (K := K) rfl) (pv 4) (pv 7) (fun _ _ => rfl)) pe_int (fun _ _ => rfl)) pe_int) (fun _ _ => rfl)))
      (pss_cons (ps_if (PW.pt (pw_or (pt_cmpR op_lt (pv 8) pe_int (nomark _)) (pw_or1 (pt_cmpR op_gt (pv 8) (pv 3) (nomark _))))) (pss_one (ps_ret (pe_callE (ok_law_stays (K := K) T) (hr.mono (by decide)) pass0 rfl (pa_cons (pv 0) (pa_cons (pv 5) (pa_cons pe_str (pa_cons pe_non pa_nil))))))) pss_nil)
      (pss_cons (ps_set (i := 9) sc_law_dropped.nd rfl (Or.inl rfl) (pe_op (op_plusK (K := K) rfl) (pe_op (op_plusK (K := K) rfl) (pe_op (op_plusK (K := K) rfl) (pe_lst (pa_cons (pv 6) pa_nil)) (pe_slice (sl_K (K := K) rfl) (pe_ix (ix_K (K := K) rfl) (pv 5) pe_int (fun _ _ => rfl)) (po_some pe_int) (po_some pe_int))) (pe_callTy (call_listK (K := K) rfl) rfl T.z_list b_list (pa_cons (pe_ix (ix_K (K := K) rfl) (pe_ix (ix_K (K := K) rfl) (pv 4) (pv 7) (fun _ _ => rfl)) pe_int (fun _ _ => rfl)) pa_nil))) (pe_slice (sl_K (K := K) rfl) (pe_ix (ix_K (K := K) rfl) (pv 5) pe_int (fun _ _ => rfl)) (po_some pe_int) po_none)))
      (pss_cons (ps_if (pt_cmpR (op_neK (K := K) rfl hr.units) (pe_callE (ok_law_all (K := K) T) (hr.mono (by decide)) pass0 rfl (pa_cons (pv 0) pa_nil)) (pe_tup (pa_cons (pv 8) (pa_cons (pv 9) (pa_cons (pe_slice (sl_K (K := K) rfl) (pe_ix (ix_K (K := K) rfl) (pv 5) pe_int (fun _ _ => rfl)) po_none (po_some (pe_ix (ix_K (K := K) rfl) (pe_ix (ix_K (K := K) rfl) (pv 4) (pv 7) (fun _ _ => rfl)) pe_int (fun _ _ => rfl)))) (pa_cons (pe_slice (sl_K (K := K) rfl) (pe_ix (ix_K (K := K) rfl) (pv 5) pe_int (fun _ _ => rfl)) (po_some (pe_op (op_plusK (K := K) rfl) (pv 7) pe_int)) po_none) pa_nil))))) (nomark _)) (pss_one (ps_ret pe_bl)) pss_nil)
      (pss_one (ps_ret (pe_and (pe_cmpR (op_eqK (K := K) rfl hr.units) (pe_methK0 (P := P) (w := w) (K := K) (mg := mg) (base := base) (k := 1) ⟨rfl, rfl, rfl, rfl, rfl⟩ (pv 0) (hr.mono (by decide)) pass0) (pe_ix (ix_K (K := K) rfl) (pe_lst (pa_cons pe_str (pa_cons pe_str pa_nil))) (pe_callTy call_int1 rfl T.z_int b_int (pa_cons (pe_cmpR (op_eqK (K := K) rfl hr.units) (pv 8) (pv 3) (nomark _)) pa_nil)) (fun _ _ => rfl)) (nomark _)) (pe_one (pe_cmpR op_isNA (pe_methK0 (P := P) (w := w) (K := K) (mg := mg) (base := base) (k := 1) ⟨rfl, rfl, rfl, rfl, rfl⟩ (pv 0) (hr.mono (by decide)) pass0) pe_non (nomark _)))))))))))))))))), ?_⟩
    refine r_st (σ' := [some _, some _, some _, some _, none, none, none, none, none, none]) rfl ?_
    walk_at "rd"
    refine ⟨t, m, pk, pt, S, es, kvs, rfl, TT, MM, O, hlt, fun vf H1 s1 hF => ?_⟩
    walk_at "rd"
    refine ⟨m, pk, pt, S, rfl, MM.to s1, fun ta H2 s2 hA => ?_⟩
    have s12 : Same H H2 := s1.trans s2
    have hm2 := s12 _ _ hm
    have hk2 := s12 _ _ hk
    obtain ⟨ab, ap, ak, acs, an, ha1, ha2, ha3, ha4, ha5⟩ := id hA
    walk_at "rd"
    refine r_methV hm2 (fn _ (by decide +kernel)) ((me_Machine_fault T).mono (by decide)) ?_
    walk_at "rd"
    refine ⟨m, dx, fs, _, rfl, hm2, f7, ?_⟩
    walk_at "rd"
    refine r_methV hm2 (fn _ (by decide +kernel)) ((me_Machine_step T).mono (by decide)) ?_
    walk_at "rd"
    refine ⟨m, pk, pt, S, es, kvs, rfl, MM.to s12, O, TP.same s12, LO, hcl, fun H3 k3 M3 => ?_⟩
    rw [hst] at M3
    have kp3 : Kept2 m pk H H3 := (Kept2.of_same s12).trans k3
    have hA3 := hA.kept k3 hm2 hk2
    have TP3 := (TP.same s12).kept (MM.to s12) k3
    have TT3 := (TT.same s12).kept (MM.to s12) k3
    unfold MS.walk at hF
    rcases hF with ⟨hW, p, us, rfl, npk, hp, hcv⟩ | ⟨⟨z, hW⟩, rfl⟩
    · have hp3 : H3 p = some (.lst us) := k3 _ _ (s2 _ _ hp) (fun z => by have e := s2 _ _ hp; rw [z, hm2] at e; cases e) npk
      have hcv3 : CalVs H3 us (walkF es 5000 S.coming (S.held.map V.int) S.cells).1 := CalVs.kept k3 hm2 hk2 (hcv.same s2)
      have hlen := hcv3.len
      obtain ⟨ev3, TI3, EV3⟩ := id TT3
      obtain ⟨dt3, l3, d3, ht3, hl3, hd3, hlk3⟩ := TI3
      unfold tabF at ht3
      generalize hcals : (walkF es 5000 S.coming (S.held.map V.int) S.cells).1 = cals at hcv3 hwl hlen
      walk_at "rd"
      refine ⟨p, d3, _, us, cals, kvs, rfl, hp3, hcv3, by omega, hd3, ?_⟩
      cases hfi : cals.findIdx? (landAt S.rows.length kvs) with
      | none =>
        rw [show idxV cals S.rows.length kvs = -1 from by unfold idxV; rw [hfi]]
        rw [dropped_none hW (by rw [hcals]; exact hfi)] at M3 q
        walk_at "rd"
        refine ⟨m, pk, pt, ta, "dropped", .int (gI S.held b), { S with state := "dropped", drp := .int (gI S.held b) }, es, kvs, rfl, M3, ⟨O.ok, O.many, O.at0, fun z => absurd z str_dr, O.h8, O.hv, O.cv, O.cl, dr_ok⟩, TP3, LO, hcl, hA3, rfl, str_dr, rfl, .inr ⟨_, rfl⟩, fun H4 k4 M4 => ?_⟩
        walk_at "rd"
        exact q H4 (kp3.trans k4) M4
      | some i =>
        rw [show idxV cals S.rows.length kvs = (i : Int) from by unfold idxV; rw [hfi]]
        obtain ⟨hi, hl1, _⟩ := List.findIdx?_eq_some_iff_getElem.mp hfi
        have hc : cals[i]? = some cals[i] := List.getElem?_eq_getElem hi
        generalize cals[i] = c at hc hl1
        have hiu : i < us.length := by omega
        obtain ⟨c', hc', hcal⟩ := CalVs.at4 hcv3 (List.getElem?_eq_getElem hiu)
        rw [hc] at hc'
        cases hc'
        obtain ⟨tc, qc, ex, hq1, hq2⟩ := id hcal
        have hat : atI us (i : Int) = some (.ref tc) := atI_nat (by rw [List.getElem?_eq_getElem hiu, ex])
        unfold landAt at hl1
        rw [Bool.and_eq_true] at hl1
        obtain ⟨val, hval⟩ := Option.isSome_iff_exists.mp hl1.2
        obtain ⟨n, rfl⟩ := LO _ _ hval
        have hcn := (O.walk es c (by unfold MS.walk; rw [hcals]; exact List.mem_of_getElem? hc)).2.2.2
        rw [dropped_some hW (by rw [hcals]; exact hfi) (by rw [hcals]; exact hc) hval] at M3 q
        unfold MS.landed at M3 q
        walk_at "rd"
        refine r_dGet ?_
        walk_at "rd"
        refine r_dgetI hd3 hval ?_
        by_cases hw : wordAhead S.rows.length n = "fault"
        · rw [if_pos hw] at M3 q
          have hout : n < 0 ∨ (S.rows.length : Int) < n := by
            unfold wordAhead at hw
            split at hw
            · exact absurd hw str_ef
            · split at hw
              · exact absurd hw str_rf
              · omega
          have fin : ∀ H4, Kept2 m pk H3 H4 → MachAt a H4 m pk pt { S with state := "fault" } → Q (.bl true) H4 := fun H4 k4 M4 => q H4 (kp3.trans k4) M4
          rcases hout with h1 | h1
          all_goals
            walk_at "rd"
            refine ⟨m, pk, pt, ta, "fault", .non, { S with state := "fault" }, es, kvs, rfl, M3, ⟨O.ok, O.many, O.at0, fun z => absurd z str_fr, O.h8, O.hv, O.cv, O.cl, ft_ok⟩, TP3, LO, hcl, hA3, rfl, str_fr, hdn, .inl rfl, fun H4 k4 M4 => ?_⟩
            walk_at "rd"
            exact fin H4 k4 M4
        · rw [if_neg hw] at M3 q
          have hin := ne_st hw
          obtain ⟨bb, bp, bk, bcs, bn, hb1, hb2, hb3, hb4, hb5⟩ := id hA3
          walk_at "rd"
          rw [cut13d h8]
          walk_at "rd"
          rw [cut7d h8]
          walk_at "rd"
          rename_i e1 z1 e2 z2 e3 z3 e4 z4 e5 z5 e6 z6 bx zb
          refine abs_heapD (H8 := H3) (b := bx) (R := fun Hx => spAll a _ Hx _ _) (by walk_at "same") upd_same (fun H4 s4 hbx => ?_)
          clear z1 z2 z3 z4 z5 z6 zb
          refine ⟨m, pk, pt, _, rfl, M3.to s4, fun t5 H5 s5 hA5 => ?_⟩
          have s45 : Same H3 H5 := s4.trans s5
          have hb15 := s45 _ _ hb1
          have hb35 := s45 _ _ hb3
          have hb45 := s45 _ _ hb4
          have hq15 := s45 _ _ hq1
          have hp5 := s45 _ _ hp3
          have hbx5 : H5 bx = some (.lst (([gI S.held b, gI S.held 1, gI S.held 2, gI S.held 3, c.a, c.b, c.c, gI S.held 7] : List Int).map V.int)) := s5 _ _ hbx
          have hcl5 : ClsAt H5 bcs S.calls.reverse := hb5.to fun b xs e => s45 _ _ e
          have M5 := M3.to s45
          have kp5 : Kept2 m pk H H5 := kp3.trans (Kept2.of_same s45)
          clear s4 s5 hbx
          walk_at "rd"
          rename_i l6 n6 l7 n7 t8 n8
          rw [cutI_take _ hcn, show ((i : Int) + 1) = ((i + 1 : Nat) : Int) from rfl, cut_fromN]
          refine r_neT (allD n [gI S.held b, gI S.held 1, gI S.held 2, gI S.held 3, c.a, c.b, c.c, gI S.held 7] (S.cells.take c.n.toNat) (S.calls.reverse.drop (i + 1))) ?_ ?_ (shaped_all _ _ _ _) ?_
          · rw [← take_revN]; exact (hA5.same (by walk_at "same")).dp
          · exact dp_tup (SqT.of upd_same) (dpAll_cons (dp_int _) (dpAll_cons (dp_ints (SqL.of (by walk_at "hlk"))) (dpAll_cons (dp_ints (SqL.of (by walk_at "hlk"))) (dpAll_cons (dp_lst (SqL.of (by walk_at "hlk")) (((hcl5.dropN (i + 1)).to fun b xs e => by walk_at "hlk").dp)) dpAll_nil))))
          obtain ⟨dx5, pc5, ph5, pl5, fs5, prs5, cs5, N⟩ := id M5
          have g0 : fs5.lookup ("state" : Str) = some (.str (wordAhead S.rows.length n)) := N.f.state
          have g7 : fs5.lookup ("dropped" : Str) = some .non := by have := N.f.drp; rw [← hdn]; exact this
          have gn := N.f.no
          have hn := N.hm
          walk_at "rd"
          refine r_methV (by walk_at "hlk") (gn _ (by decide +kernel)) ((me_Machine_word T).mono (by decide)) ?_
          walk_at "rd"
          refine ⟨m, dx5, fs5, _, rfl, by walk_at "hlk", g0, ?_⟩
          walk_at "rd"
          refine .inr ⟨_, rfl, ?_⟩
          show rIxA K _ (V.int (if decide (V.int n = V.int (S.rows.length : Int)) = true then 1 else 0)) _ _
          by_cases he : n = (S.rows.length : Int)
          · rw [if_pos (decide_eq_true (by rw [he]))]
            rw [show wordAhead S.rows.length n = "ended" from by unfold wordAhead; rw [if_pos he]]
            refine r_ixL (SqL.of upd_same) (v := .str "ended") rfl ?_
            refine r_eqS rfl ?_
            rw [decide_eq_true (rfl : V.str "ended" = V.str "ended")]
            walk_at "rd"
            refine r_methV (by walk_at "hlk") (gn _ (by decide +kernel)) ((me_Machine_fault T).mono (by decide)) ?_
            walk_at "rd"
            refine ⟨m, dx5, fs5, _, rfl, by walk_at "hlk", g7, ?_⟩
            walk_at "rd"
            exact q _ (kp5.trans (Kept2.of_same (by walk_at "same"))) (M5.to (by walk_at "same"))
          · rw [if_neg (by rw [decide_eq_false (fun z => he (by injection z))]; exact Bool.false_ne_true)]
            rw [show wordAhead S.rows.length n = "runs" from by unfold wordAhead; rw [if_neg he, if_pos (by omega)]]
            refine r_ixL (SqL.of upd_same) (v := .str "runs") rfl ?_
            refine r_eqS rfl ?_
            rw [decide_eq_true (rfl : V.str "runs" = V.str "runs")]
            walk_at "rd"
            refine r_methV (by walk_at "hlk") (gn _ (by decide +kernel)) ((me_Machine_fault T).mono (by decide)) ?_
            walk_at "rd"
            refine ⟨m, dx5, fs5, _, rfl, by walk_at "hlk", g7, ?_⟩
            walk_at "rd"
            exact q _ (kp5.trans (Kept2.of_same (by walk_at "same"))) (M5.to (by walk_at "same"))
    · rw [dropped_lost hW] at M3 q
      walk_at "rd"
      refine ⟨m, pk, pt, ta, "fault", .non, { S with state := "fault" }, es, kvs, rfl, M3, ⟨O.ok, O.many, O.at0, fun z => absurd z str_fr, O.h8, O.hv, O.cv, O.cl, ft_ok⟩, TP3, LO, hcl, hA3, rfl, str_fr, hdn, .inl rfl, fun H4 k4 M4 => ?_⟩
      walk_at "rd"
      exact q H4 (kp3.trans k4) M4
end
section
variable {P : Program} {w : World} {K : PySem.W.Frag} {mg : Str → Option Value} {base : Heap} {a : Adr}
theorem abs_heapC {H8 HX : Hp} {R : Hp → Prop} {b : Addr} {xs : List V} (h : Same H8 HX) (hb : HX b = some (.lst xs)) (k : ∀ H9, Same H8 H9 → H9 b = some (.lst xs) → R H9) : R HX := k HX h hb
def CodeAt (a : Adr) (H H1 : Hp) (lc : Addr) : Prop := ∃ (prs : List Addr) (rs : List Rw), Same H H1 ∧ H1 lc = some (.lst (prs.map V.ref)) ∧ RowsAt a H1 prs rs ∧ (∀ r ∈ rs, r.ok ∧ (r.isDrop = false → r.here)) ∧ 3 ≤ rs.length ∧ rs.length ≤ 5
theorem join_code {a : Adr} {H : Hp} {PP : Addr → Hp → Prop} {G : Prop} (key : ∀ lc H1, CodeAt a H H1 lc → PP lc H1) (use : (∀ lc H1, CodeAt a H H1 lc → PP lc H1) → G) : G := use key
local macro_rules | `(tactic| walk_at "rj") => `(tactic| repeat (first | walk_at "r1" | walk_at "r3" | walk_at "cond" | ((with_reducible refine' r_eqS ?h ?_); (case h => rfl))))
local macro_rules | `(tactic| walk_at "rk") => `(tactic| repeat (first | walk_at "r1" | walk_at "r3" | walk_at "cond" | walk_at "calls" | walk_at "mine" | ((with_reducible refine' r_eqS ?h ?_); (case h => rfl)) | ((with_reducible refine' r_neS ?h ?_); (case h => rfl)) | ((with_reducible refine' r_fldV ?h ?c ?n ?l ?_); (case h => walk_at "hlk"); (case c => walk_at "cls"); (case n => walk_at "noat"); (case l => walk_at "lk"))))
theorem LandOk.put {kvs : List (Key × V)} (h : LandOk kvs) (k : Key) (v : Int) : LandOk (putK kvs k (.int v)) := fun j w e => by
  rw [valV_put] at e
  split at e
  · cases e; exact ⟨_, rfl⟩
  · exact h j w e
theorem r_ix2p {K : PySem.W.Frag} {l : Addr} {x y p : Int} {H : Hp} {Q : VK} (h : SqL K H l [.int x, .int y]) (hx : 0 < x) (hx2 : x ≤ 4294967296) (hy : 0 < y) (hy2 : y ≤ 4294967296) (q : ∀ m : Int, 0 < m → m ≤ 4294967296 → Q (.int m) H) : rIxA K (.ref l) (.int (p % 2)) H Q := by
  have e : p % 2 = 0 ∨ p % 2 = 1 := by omega
  rcases e with e | e <;> rw [e]
  · exact r_ixL h (v := .int x) rfl (q x hx hx2)
  · exact r_ixL h (v := .int y) rfl (q y hy hy2)
theorem off2 {H : Hp} {b l d : Addr} {o : HO} {xs : List V} {kvs : List (Key × V)} (h : H b = some o) (hl : H l = some (.lst xs)) (hd : H d = some (.dK kvs)) (n1 : o ≠ .lst xs) (n2 : o ≠ .dK kvs) : upd (upd H l (.lst [])) d (.dK []) b = some o := by
  rw [upd_ne (fun z => by rw [z, hd] at h; exact n2 (by cases h; rfl)), upd_ne (fun z => by rw [z, hl] at h; exact n1 (by cases h; rfl))]; exact h
theorem SqT.off {K : PySem.W.Frag} {H : Hp} {l p : Addr} {o o' : HO} {ys : List V} (h : H l = some o) (ho : (∃ xs, o = .lst xs) ∨ ∃ kvs, o = .dK kvs) (q : SqT K H p ys) : SqT K (upd H l o') p ys := by
  rcases q with (q | ⟨u, q⟩) | q
  · exact .inl (.inl (by rw [upd_ne (fun z => by rw [z, h] at q; cases q; rcases ho with ⟨_, e⟩ | ⟨_, e⟩ <;> cases e)]; exact q))
  · exact .inl (.inr ⟨u, by rw [upd_ne (fun z => by rw [z, h] at q; cases q; rcases ho with ⟨_, e⟩ | ⟨_, e⟩ <;> cases e)]; exact q⟩)
  · exact .inr q
theorem EntVs.off {K : PySem.W.Frag} {H : Hp} {l : Addr} {o o' : HO} {vs : List V} {es : List (Option Ent)} (q : EntVs K H vs es) (h : H l = some o) (ho : (∃ xs, o = .lst xs) ∨ ∃ kvs, o = .dK kvs) : EntVs K (upd H l o') vs es := by
  refine ⟨q.1, fun i oe e => ?_⟩
  obtain ⟨v, e1, e2⟩ := q.2 i oe e
  refine ⟨v, e1, ?_⟩
  cases oe with
  | none => exact e2
  | some en =>
    obtain ⟨p, rfl, qq, h1, h2⟩ := e2
    exact ⟨p, rfl, qq, SqT.off h ho h1, SqT.off h ho h2⟩
theorem MAt.awayD {a : Adr} {H : Hp} {m pk dx pc pt ph pl : Addr} {fs : List (Str × V)} {prs : List Addr} {cs : List V} {S : MS} (M : MAt a H m pk dx pc pt ph pl fs prs cs S) {d : Addr} {kvs kvs' : List (Key × V)} (h : H d = some (.dK kvs)) : MAt a (upd H d (.dK kvs')) m pk dx pc pt ph pl fs prs cs S := by
  have k : ∀ {b : Addr} {o : HO}, H b = some o → o ≠ .dK kvs → upd H d (.dK kvs') b = some o := fun {b o} e n => by rw [upd_ne (fun z => by rw [z, h] at e; exact n (by cases e; rfl))]; exact e
  refine ⟨k M.hm (fun z => by cases z), M.f, k M.hc (fun z => by cases z), M.rows.to (fun p hp o e => ?_), k M.hh (fun z => by cases z), k M.hl (fun z => by cases z), k M.hk (fun z => by cases z), M.calls.to (fun b zs e => k e (fun z => by cases z)), M.n1, M.n2, M.n3, M.n4⟩
  obtain ⟨r, _, dxr, e2⟩ := M.rows.mem hp
  rw [e] at e2
  cases e2
  exact k e (fun z => by cases z)
theorem str_dn : ("dropped" : Str) ≠ "runs" := by decide +kernel
theorem dn_ok : PyData.strOk "dropped" = true := by decide +kernel
theorem MOk.landed {S : MS} (o : MOk S) {v n : Int} {c : Cal} {k : Nat} (hv : isVal v) (h1 : isVal c.a) (h2 : isVal c.b) (h3 : isVal c.c) : MOk (S.landed v c k n) := by
  unfold MS.landed
  split
  · exact ⟨o.ok, o.many, o.at0, fun z => absurd z str_fr, o.h8, o.hv, o.cv, o.cl, ft_ok⟩
  · rename_i hw
    have hin := ne_st hw
    refine ⟨o.ok, o.many, ?_, fun z => (wa_lt z).2, rfl, ?_, fun x hx => o.cv x (List.mem_of_mem_take hx), ?_, wa_ok _ _⟩
    · show 0 ≤ n
      omega
    · intro x hx
      have hx : x ∈ [v, gI S.held 1, gI S.held 2, gI S.held 3, c.a, c.b, c.c, gI S.held 7] := hx
      simp only [List.mem_cons, List.not_mem_nil, or_false] at hx
      rcases hx with rfl | rfl | rfl | rfl | rfl | rfl | rfl | rfl
      · exact hv
      · exact gI_any o.hv _
      · exact gI_any o.hv _
      · exact gI_any o.hv _
      · exact h1
      · exact h2
      · exact h3
      · exact gI_any o.hv _
    · show (S.cells.take c.n.toNat).length ≤ 4000
      rw [List.length_take]
      have := o.cl
      omega
theorem MOk.dropped {S : MS} (o : MOk S) {es : List (Option Ent)} {kvs : List (Key × V)} {v : Int} (hv : isVal v) : MOk (S.dropped es kvs v) := by
  have hw := o.walk es
  unfold MS.walk at hw
  unfold MS.dropped
  split
  · exact ⟨o.ok, o.many, o.at0, fun z => absurd z str_fr, o.h8, o.hv, o.cv, o.cl, ft_ok⟩
  · split
    · exact ⟨o.ok, o.many, o.at0, fun z => absurd z str_dn, o.h8, o.hv, o.cv, o.cl, dn_ok⟩
    · split
      · exact o
      · rename_i c hc
        split
        · exact o
        · obtain ⟨h1, h2, h3, _⟩ := hw c (List.mem_of_getElem? hc)
          exact o.landed hv h1 h2 h3
theorem MOk.stepD {S : MS} (o : MOk S) {es : List (Option Ent)} {kvs : List (Key × V)} : MOk (S.stepD es kvs) := by
  by_cases h : S.state = "runs"
  · obtain ⟨r, e, hr⟩ := o.row h
    rw [stepD_at h e]
    cases r with
    | drop b => exact o.dropped (gI_any o.hv _)
    | _ => exact o.doRow hr (o.at1 h)
  · rw [stepD_not h]; exact o
theorem landed_keep (S : MS) (v : Int) (c : Cal) (k : Nat) (n : Int) : (S.landed v c k n).rows = S.rows ∧ (S.landed v c k n).calls.length ≤ S.calls.length ∧ (S.landed v c k n).drp = S.drp := by
  unfold MS.landed
  split
  · exact ⟨rfl, Nat.le_refl _, rfl⟩
  · exact ⟨rfl, by show (S.calls.take _).length ≤ _; rw [List.length_take]; omega, rfl⟩
theorem dropped_keep (S : MS) (es : List (Option Ent)) (kvs : List (Key × V)) (v : Int) : (S.dropped es kvs v).rows = S.rows ∧ (S.dropped es kvs v).calls.length ≤ S.calls.length ∧ ((S.dropped es kvs v).state = "runs" → (S.dropped es kvs v).drp = S.drp) := by
  unfold MS.dropped
  split
  · exact ⟨rfl, Nat.le_refl _, fun _ => rfl⟩
  · split
    · exact ⟨rfl, Nat.le_refl _, fun z => absurd z str_dn⟩
    · split
      · exact ⟨rfl, Nat.le_refl _, fun _ => rfl⟩
      · split
        · exact ⟨rfl, Nat.le_refl _, fun _ => rfl⟩
        · obtain ⟨h1, h2, h3⟩ := landed_keep S v _ _ _
          exact ⟨h1, h2, fun _ => h3⟩
theorem doRow_drp (S : MS) (r : Rw) : (S.doRow r).drp = S.drp := by
  unfold MS.doRow
  split
  · rfl
  · split <;> rfl
theorem rowD_keep (S : MS) (es : List (Option Ent)) (kvs : List (Key × V)) (r : Rw) : (S.rowD es kvs r).rows = S.rows ∧ (S.rowD es kvs r).calls.length ≤ S.calls.length + 1 ∧ ((S.rowD es kvs r).state = "runs" → (S.rowD es kvs r).drp = S.drp) := by
  cases r with
  | drop b =>
    obtain ⟨h1, h2, h3⟩ := dropped_keep S es kvs (gI S.held b)
    exact ⟨h1, Nat.le_succ_of_le h2, h3⟩
  | _ => exact ⟨doRow_rows _ _, doRow_calls _ _, fun _ => doRow_drp _ _⟩
theorem stepD_keep (S : MS) (es : List (Option Ent)) (kvs : List (Key × V)) : (S.stepD es kvs).rows = S.rows ∧ (S.stepD es kvs).calls.length ≤ S.calls.length + 1 ∧ ((S.stepD es kvs).state = "runs" → S.state = "runs" ∧ (S.stepD es kvs).drp = S.drp) := by
  by_cases h : S.state = "runs"
  · cases e : S.rows[S.coming.toNat]? with
    | none =>
      have : S.stepD es kvs = S := by unfold MS.stepD; rw [if_pos h, e]
      rw [this]; exact ⟨rfl, Nat.le_succ _, fun z => ⟨z, rfl⟩⟩
    | some r =>
      rw [stepD_at h e]
      obtain ⟨h1, h2, h3⟩ := rowD_keep S es kvs r
      exact ⟨h1, h2, fun z => ⟨h, h3 z⟩⟩
  · rw [stepD_not h]; exact ⟨rfl, Nat.le_succ _, fun z => ⟨z, rfl⟩⟩
theorem stepD_rows {S : MS} {es : List (Option Ent)} {kvs : List (Key × V)} : (S.stepD es kvs).rows = S.rows := (stepD_keep S es kvs).1
theorem stepD_calls (S : MS) (es : List (Option Ent)) (kvs : List (Key × V)) : (S.stepD es kvs).calls.length ≤ S.calls.length + 1 := (stepD_keep S es kvs).2.1
theorem stepD_drp {S : MS} {es : List (Option Ent)} {kvs : List (Key × V)} (h : S.state = "runs" → S.drp = .non) (z : (S.stepD es kvs).state = "runs") : (S.stepD es kvs).drp = .non := by
  obtain ⟨h1, h2⟩ := (stepD_keep S es kvs).2.2 z
  rw [h2]; exact h h1
set_option maxHeartbeats 4000000 in
theorem law_fn {fa : Addr} {fd : FuncData} (T : Txt K mg a) (F : Fun K "law" "law" s_law fa fd) : FnOk P w K mg base CX0 9 fa fd ["_law_script"] (spLaw K) := by
  refine F.ok (k := 8) sc_law (fun vs H Q E h => ?_) (fun cdv A outer s H vs Q E hr h => ?_)
  · obtain ⟨a0, ns, rfl, _⟩ := h
    rfl
  · obtain ⟨a0, ns, rfl, hS, h63, q⟩ := h
    refine ⟨_, (pss_cons (ps_set (i := 1) sc_law.nd rfl (Or.inl rfl) (pe_callE (ok_law_cell_at (K := K) T) (hr.mono (by decide)) pass0 rfl (pa_cons (pv 0) (pa_cons pe_int pa_nil))))
      (pss_cons (ps_set (i := 2) sc_law.nd rfl (Or.inl rfl) (pe_op op_mod (pe_op op_fdiv (pv 1) pe_int) pe_int))
      (pss_cons (ps_set (i := 3) sc_law.nd rfl (Or.inl rfl) (pe_lst (pa_cons (pe_makeE (mk_Grow (K := K) T) (hr.mono (by decide)) pass0 rfl (pa_cons (pe_op op_mod (pe_op op_fdiv (pv 1) pe_int) pe_int) pa_nil)) (pa_cons (pe_makeE (mk_Set (K := K) T) (hr.mono (by decide)) pass0 rfl (pa_cons (pe_op (op_plusK (K := K) rfl) pe_int (pe_op op_mod (pe_op op_fdiv (pv 1) pe_int) pe_int)) (pa_cons (pe_op op_mod (pe_op op_fdiv (pv 1) pe_int) pe_int) pa_nil))) (pa_cons (pe_makeE (mk_Call (K := K) T) (hr.mono (by decide)) pass0 rfl (pa_cons pe_int pa_nil)) (pa_cons (pe_makeE (mk_Drop (K := K) T) (hr.mono (by decide)) pass0 rfl (pa_cons (pv 2) pa_nil)) pa_nil))))))
      (pss_cons (ps_if (pt_cmpR (op_eqK (K := K) rfl hr.units) (pe_op op_mod (pv 1) pe_int) pe_int (nomark _)) (pss_one (ps_set (i := 3) sc_law.nd rfl (Or.inl rfl) (pe_lst (pa_cons (pe_makeE (mk_Call (K := K) T) (hr.mono (by decide)) pass0 rfl (pa_cons pe_int pa_nil)) (pa_cons (pe_makeE (mk_Set (K := K) T) (hr.mono (by decide)) pass0 rfl (pa_cons pe_int (pa_cons pe_int pa_nil))) (pa_cons (pe_makeE (mk_Call (K := K) T) (hr.mono (by decide)) pass0 rfl (pa_cons pe_int pa_nil)) (pa_cons (pe_makeE (mk_Drop (K := K) T) (hr.mono (by decide)) pass0 rfl (pa_cons (pv 2) pa_nil)) (pa_cons (pe_makeE (mk_Drop (K := K) T) (hr.mono (by decide)) pass0 rfl (pa_cons pe_int pa_nil)) pa_nil)))))))) pss_nil)
      (pss_cons (ps_if (pt_cmpR (op_eqK (K := K) rfl hr.units) (pe_op op_mod (pv 1) pe_int) pe_int (nomark _)) (pss_one (ps_set (i := 3) sc_law.nd rfl (Or.inl rfl) (pe_lst (pa_cons (pe_makeE (mk_Set (K := K) T) (hr.mono (by decide)) pass0 rfl (pa_cons pe_int (pa_cons pe_int pa_nil))) (pa_cons (pe_makeE (mk_Grow (K := K) T) (hr.mono (by decide)) pass0 rfl (pa_cons pe_int pa_nil)) (pa_cons (pe_makeE (mk_Drop (K := K) T) (hr.mono (by decide)) pass0 rfl (pa_cons (pv 2) pa_nil)) pa_nil)))))) pss_nil)
      (pss_cons (ps_setC (i := 4) sc_law.nd rfl rfl (own := ["_law_k"]) (fr := [("_law_script", 0)]) rfl ⟨rfl, (by walk_at "clok"), (by walk_at "frok"), rfl, (by decide +kernel), (by decide +kernel), rfl⟩ (pi_range1 rfl T.z_range (pa_cons (pe_callB (call_lenK (K := K) rfl) rfl T.z_len b_len (pa_cons (pv 3) pa_nil)) pa_nil)) (fun _ _ _ _ => (pg_name (i := 0) (show List.Nodup [("_law_k" : Str), ("_law_script" : Str)] from by decide +kernel) rfl (Or.inl rfl))) (fun _ _ _ _ => pts_nil) (fun _ _ _ _ => (pe_callE (ok_law_entry (K := K) T) (hr.mono (by decide)) pass0 rfl (pa_cons (pe_callE (ok_law_cell_at (K := K) T) (hr.mono (by decide)) pass0 rfl (pa_cons (pv 1) (pa_cons (pe_op (op_plusK (K := K) rfl) pe_int (pv 0)) pa_nil))) pa_nil))))
      (pss_cons (ps_set (i := 5) sc_law.nd rfl (Or.inl rfl) pe_dnewK)
      (pss_cons (ps_for PassesOwn.never rfl (pi_range1 rfl T.z_range (pa_cons (pe_callB (call_lenK (K := K) rfl) rfl T.z_len b_len (pa_cons (pv 3) pa_nil)) pa_nil)) (pg_name (i := 6) sc_law.nd rfl (Or.inl rfl)) (pss_cons (ps_set (i := 7) sc_law.nd rfl (Or.inl rfl) (pe_callE (ok_law_cell_at (K := K) T) (hr.mono (by decide)) pass0 rfl (pa_cons (pv 0) (pa_cons (pe_op (op_plusK (K := K) rfl) pe_int (pv 6)) pa_nil))))
      (pss_one (ps_if (pt_cmpR op_gt (pe_op op_mod (pv 7) pe_int) pe_int (nomark _)) (pss_one (ps_dput (hu_of hr) (pv 5) (pv 6) (pe_op op_sub (pe_op op_mod (pe_op op_fdiv (pv 7) pe_int) (pe_op (op_plusK (K := K) rfl) (pe_callB (call_lenK (K := K) rfl) rfl T.z_len b_len (pa_cons (pv 3) pa_nil)) pe_int)) pe_int) rfl)) pss_nil))))
      (pss_cons (ps_set (i := 8) sc_law.nd rfl (Or.inl rfl) (pe_makeE (mk_Table (K := K) T) (hr.mono (by decide)) pass0 rfl (pa_cons (pv 4) (pa_cons (pv 5) pa_nil))))
      (pss_cons (ps_set (i := 9) sc_law.nd rfl (Or.inl rfl) (pe_lst pa_nil))
      (pss_cons (ps_for PassesOwn.never rfl (pi_range1 rfl T.z_range (pa_cons pe_int pa_nil)) (pg_name (i := 6) sc_law.nd rfl (Or.inl rfl)) (pss_cons (ps_set (i := 7) sc_law.nd rfl (Or.inl rfl) (pe_callE (ok_law_cell_at (K := K) T) (hr.mono (by decide)) pass0 rfl (pa_cons (pv 0) (pa_cons (pe_op (op_plusK (K := K) rfl) pe_int (pv 6)) pa_nil))))
      (pss_one (ps_expr (pe_bmK (K := K) rfl PySem.F.plainAttrs_list PySem.F.slot_list_append PySem.F.type_list_append mt_append (pv 9) (pa_cons (pe_op op_mod (pe_op op_fdiv (pv 7) pe_int) (pe_ix (ix_K (K := K) rfl) (pe_lst (pa_cons pe_int (pa_cons (pe_op (op_plusK (K := K) rfl) (pe_callB (call_lenK (K := K) rfl) rfl T.z_len b_len (pa_cons (pv 3) pa_nil)) pe_int) pa_nil))) (pe_op op_mod (pv 7) pe_int) (fun _ _ => rfl))) pa_nil))))))
      (pss_cons (ps_set (i := 10) sc_law.nd rfl (Or.inl rfl) (pe_makeE (mk_Table (K := K) T) (hr.mono (by decide)) pass0 rfl (pa_cons (pv 4) (pa_cons (pv 5) pa_nil))))
      (pss_cons (ps_set (i := 11) sc_law.nd rfl (Or.inl rfl) (pe_makeE (mk_Machine (K := K) T) (hr.mono (by decide)) pass0 rfl (pa_cons (pv 3) (pa_cons (pv 10) (pa_cons (pv 9) (pa_cons (pe_op op_mod (pe_callE (ok_law_cell_at (K := K) T) (hr.mono (by decide)) pass0 rfl (pa_cons (pv 0) (pa_cons pe_int pa_nil))) (pe_callB (call_lenK (K := K) rfl) rfl T.z_len b_len (pa_cons (pv 3) pa_nil))) pa_nil))))))
      (pss_cons (ps_expr (pe_bm0K (K := K) rfl PySem.F.plainAttrs_list PySem.F.slot_list_clear PySem.F.type_list_clear mt_clear (pe_fldK (K := K) rfl (pv 10))))
      (pss_cons (ps_expr (pe_bm0K (K := K) rfl PySem.F.plainAttrs_dict PySem.F.slot_dict_clear PySem.F.type_dict_clear mt_dclear (pe_fldK (K := K) rfl (pv 10))))
      (pss_cons (ps_for PassesOwn.never rfl (pi_range1 rfl T.z_range (pa_cons pe_int pa_nil)) (pg_name (i := 6) sc_law.nd rfl (Or.inl rfl)) (pss_cons (ps_if (pt_cmpR (op_neK (K := K) rfl hr.units) (pe_methK0 (P := P) (w := w) (K := K) (mg := mg) (base := base) (k := 1) ⟨rfl, rfl, rfl, rfl, rfl⟩ (pv 11) (hr.mono (by decide)) pass0) pe_str (nomark _)) (pss_one (ps_ret pe_bl)) pss_nil)
      (pss_one (ps_if (pt_truK (K := K) rfl (pe_callB (call_isiK (K := K) rfl) rfl T.z_isinstance b_isinstance (pa_cons (pe_ix (ix_K (K := K) rfl) (pv 3) (pe_methK0 (P := P) (w := w) (K := K) (mg := mg) (base := base) (k := 1) ⟨rfl, rfl, rfl, rfl, rfl⟩ (pv 11) (hr.mono (by decide)) pass0) (fun _ _ => rfl)) (pa_cons (pe_glob (v := .ref a.C_Drop) rfl T.c_Drop rfl) pa_nil)))) (pss_one (ps_if (pt_not (pt_truK (K := K) rfl (pe_callE (ok_law_dropped (K := K) T) (hr.mono (by decide)) pass0 rfl (pa_cons (pv 11) (pa_cons (pv 8) (pa_cons (pe_ix (ix_K (K := K) rfl) (pe_methK0 (P := P) (w := w) (K := K) (mg := mg) (base := base) (k := 1) ⟨rfl, rfl, rfl, rfl, rfl⟩ (pe_ix (ix_K (K := K) rfl) (pv 3) (pe_methK0 (P := P) (w := w) (K := K) (mg := mg) (base := base) (k := 1) ⟨rfl, rfl, rfl, rfl, rfl⟩ (pv 11) (hr.mono (by decide)) pass0) (fun _ _ => rfl)) (hr.mono (by decide)) pass0) pe_int (fun _ _ => rfl)) (pa_cons (pe_callB (call_lenK (K := K) rfl) rfl T.z_len b_len (pa_cons (pv 3) pa_nil)) pa_nil))))))) (pss_one (ps_ret pe_bl)) pss_nil)) (pss_one (ps_expr (pe_methK0 (P := P) (w := w) (K := K) (mg := mg) (base := base) (k := 6) ⟨rfl, rfl, rfl, rfl, rfl⟩ (pv 11) (hr.mono (by decide)) pass0)))))))
      (pss_one (ps_ret pe_bl)))))))))))))))))), ?_⟩
    refine r_st (σ' := [some _, none, none, none, none, none, none, none, none, none, none, none]) rfl ?_
    walk_at "rd"
    generalize cellAt ns 0 = c at *
    have hbx : 0 ≤ c / 3 % 8 ∧ c / 3 % 8 ≤ 7 := by omega
    generalize c / 3 % 8 = bx at hbx ⊢
    obtain ⟨bx0, bx1⟩ := hbx
    intro r1 dr1 m1 g1 _
    refine ⟨r1, dr1, _, rfl, ⟨by first | decide | omega, by first | decide | omega⟩, upd_same, fun H1 kp1 hH1 => ⟨rfl, ?_⟩⟩
    have s1 : Same H H1 := fun b o e => kp1 b o (by rw [upd_ne (ne_of_none e m1), upd_ne (ne_of_none e g1)]; exact e) (ne_of_none e m1)
    have w1 : RowAt a H1 r1 (.grow _) := ⟨dr1, hH1⟩
    clear kp1 hH1
    walk_at "rd"
    intro r2 dr2 m2 g2 _
    refine ⟨r2, dr2, _, _, rfl, ⟨⟨by first | decide | omega, by first | decide | omega⟩, ⟨by first | decide | omega, by first | decide | omega⟩⟩, upd_same, fun H2 kp2 hH2 => ⟨rfl, ?_⟩⟩
    have s2 : Same H1 H2 := fun b o e => kp2 b o (by rw [upd_ne (ne_of_none e m2), upd_ne (ne_of_none e g2)]; exact e) (ne_of_none e m2)
    have w2 : RowAt a H2 r2 (.set _ _) := ⟨dr2, hH2⟩
    clear kp2 hH2
    walk_at "rd"
    intro r3 dr3 m3 g3 _
    refine ⟨r3, dr3, _, rfl, ⟨by first | decide | omega, by first | decide | omega⟩, upd_same, fun H3 kp3 hH3 => ⟨rfl, ?_⟩⟩
    have s3 : Same H2 H3 := fun b o e => kp3 b o (by rw [upd_ne (ne_of_none e m3), upd_ne (ne_of_none e g3)]; exact e) (ne_of_none e m3)
    have w3 : RowAt a H3 r3 (.call _) := ⟨dr3, hH3⟩
    clear kp3 hH3
    walk_at "rd"
    intro r4 dr4 m4 g4 _
    refine ⟨r4, dr4, _, rfl, ⟨by first | decide | omega, by first | decide | omega⟩, upd_same, fun H4 kp4 hH4 => ⟨rfl, ?_⟩⟩
    have s4 : Same H3 H4 := fun b o e => kp4 b o (by rw [upd_ne (ne_of_none e m4), upd_ne (ne_of_none e g4)]; exact e) (ne_of_none e m4)
    have w4 : RowAt a H4 r4 (.drop _) := ⟨dr4, hH4⟩
    clear kp4 hH4
    walk_at "rd"
    rename_i l1 nl1
    refine' join_code (a := a) (H := H) (PP := ?PP) ?key (fun kk => ?use)
    case use =>
      refine ifInt (fun hh => ?_) (fun hh => ?_)
      · walk_at "rd"
        intro r5 dr5 m5 g5 _
        refine ⟨r5, dr5, _, rfl, ⟨by first | decide | omega, by first | decide | omega⟩, upd_same, fun H5 kp5 hH5 => ⟨rfl, ?_⟩⟩
        have s5 : Same (upd H4 l1 (.lst [.ref r1, .ref r2, .ref r3, .ref r4])) H5 := fun b o e => kp5 b o (by rw [upd_ne (ne_of_none e m5), upd_ne (ne_of_none e g5)]; exact e) (ne_of_none e m5)
        have w5 : RowAt a H5 r5 (.call _) := ⟨dr5, hH5⟩
        clear kp5 hH5
        walk_at "rd"
        intro r6 dr6 m6 g6 _
        refine ⟨r6, dr6, _, _, rfl, ⟨⟨by first | decide | omega, by first | decide | omega⟩, ⟨by first | decide | omega, by first | decide | omega⟩⟩, upd_same, fun H6 kp6 hH6 => ⟨rfl, ?_⟩⟩
        have s6 : Same H5 H6 := fun b o e => kp6 b o (by rw [upd_ne (ne_of_none e m6), upd_ne (ne_of_none e g6)]; exact e) (ne_of_none e m6)
        have w6 : RowAt a H6 r6 (.set _ _) := ⟨dr6, hH6⟩
        clear kp6 hH6
        walk_at "rd"
        intro r7 dr7 m7 g7 _
        refine ⟨r7, dr7, _, rfl, ⟨by first | decide | omega, by first | decide | omega⟩, upd_same, fun H7 kp7 hH7 => ⟨rfl, ?_⟩⟩
        have s7 : Same H6 H7 := fun b o e => kp7 b o (by rw [upd_ne (ne_of_none e m7), upd_ne (ne_of_none e g7)]; exact e) (ne_of_none e m7)
        have w7 : RowAt a H7 r7 (.call _) := ⟨dr7, hH7⟩
        clear kp7 hH7
        walk_at "rd"
        intro r8 dr8 m8 g8 _
        refine ⟨r8, dr8, _, rfl, ⟨by first | decide | omega, by first | decide | omega⟩, upd_same, fun H8 kp8 hH8 => ⟨rfl, ?_⟩⟩
        have s8 : Same H7 H8 := fun b o e => kp8 b o (by rw [upd_ne (ne_of_none e m8), upd_ne (ne_of_none e g8)]; exact e) (ne_of_none e m8)
        have w8 : RowAt a H8 r8 (.drop _) := ⟨dr8, hH8⟩
        clear kp8 hH8
        walk_at "rd"
        intro r9 dr9 m9 g9 _
        refine ⟨r9, dr9, _, rfl, ⟨by first | decide | omega, by first | decide | omega⟩, upd_same, fun H9 kp9 hH9 => ⟨rfl, ?_⟩⟩
        have s9 : Same H8 H9 := fun b o e => kp9 b o (by rw [upd_ne (ne_of_none e m9), upd_ne (ne_of_none e g9)]; exact e) (ne_of_none e m9)
        have w9 : RowAt a H9 r9 (.drop _) := ⟨dr9, hH9⟩
        clear kp9 hH9
        walk_at "rj"
        rename_i l2 nl2 hz2
        refine abs_heapC (H8 := H9) (b := l2) (R := fun Hx => rLen _ _ Hx _) (by walk_at "same") upd_same (fun HZ sZ hlZ => ?_)
        refine kk l2 HZ ⟨[r5, r6, r7, r8, r9], [.call 2, .set 1 2, .call 3, .drop bx, .drop 0], (s1.trans (s2.trans (s3.trans (s4.trans ((same_new nl1).trans (s5.trans (s6.trans (s7.trans (s8.trans (s9.trans sZ)))))))))), hlZ, (((((RowsAt.nil.snoc (w5.same (s6.trans (s7.trans (s8.trans (s9.trans sZ)))))).snoc (w6.same (s7.trans (s8.trans (s9.trans sZ))))).snoc (w7.same (s8.trans (s9.trans sZ)))).snoc (w8.same (s9.trans sZ))).snoc (w9.same sZ)), ?_, Nat.le_of_ble_eq_true rfl, Nat.le_of_ble_eq_true rfl⟩
        intro r hr1
        simp only [List.mem_cons, List.not_mem_nil, or_false] at hr1
        rcases hr1 with rfl | rfl | rfl | rfl | rfl
        · exact ⟨⟨by first | decide | omega, by first | decide | omega⟩, fun z => True.intro⟩
        · exact ⟨⟨⟨by first | decide | omega, by first | decide | omega⟩, ⟨by first | decide | omega, by first | decide | omega⟩⟩, fun z => True.intro⟩
        · exact ⟨⟨by first | decide | omega, by first | decide | omega⟩, fun z => True.intro⟩
        · exact ⟨⟨by first | decide | omega, by first | decide | omega⟩, fun z => (by cases z)⟩
        · exact ⟨⟨by first | decide | omega, by first | decide | omega⟩, fun z => (by cases z)⟩
      · walk_at "rj"
        refine ifInt (fun hh2 => ?_) (fun hh2 => ?_)
        · walk_at "rd"
          intro r5 dr5 m5 g5 _
          refine ⟨r5, dr5, _, _, rfl, ⟨⟨by first | decide | omega, by first | decide | omega⟩, ⟨by first | decide | omega, by first | decide | omega⟩⟩, upd_same, fun H5 kp5 hH5 => ⟨rfl, ?_⟩⟩
          have s5 : Same (upd H4 l1 (.lst [.ref r1, .ref r2, .ref r3, .ref r4])) H5 := fun b o e => kp5 b o (by rw [upd_ne (ne_of_none e m5), upd_ne (ne_of_none e g5)]; exact e) (ne_of_none e m5)
          have w5 : RowAt a H5 r5 (.set _ _) := ⟨dr5, hH5⟩
          clear kp5 hH5
          walk_at "rd"
          intro r6 dr6 m6 g6 _
          refine ⟨r6, dr6, _, rfl, ⟨by first | decide | omega, by first | decide | omega⟩, upd_same, fun H6 kp6 hH6 => ⟨rfl, ?_⟩⟩
          have s6 : Same H5 H6 := fun b o e => kp6 b o (by rw [upd_ne (ne_of_none e m6), upd_ne (ne_of_none e g6)]; exact e) (ne_of_none e m6)
          have w6 : RowAt a H6 r6 (.grow _) := ⟨dr6, hH6⟩
          clear kp6 hH6
          walk_at "rd"
          intro r7 dr7 m7 g7 _
          refine ⟨r7, dr7, _, rfl, ⟨by first | decide | omega, by first | decide | omega⟩, upd_same, fun H7 kp7 hH7 => ⟨rfl, ?_⟩⟩
          have s7 : Same H6 H7 := fun b o e => kp7 b o (by rw [upd_ne (ne_of_none e m7), upd_ne (ne_of_none e g7)]; exact e) (ne_of_none e m7)
          have w7 : RowAt a H7 r7 (.drop _) := ⟨dr7, hH7⟩
          clear kp7 hH7
          walk_at "rj"
          rename_i l2 nl2
          refine abs_heapC (H8 := H7) (b := l2) (R := fun Hx => rLen _ _ Hx _) (by walk_at "same") upd_same (fun HZ sZ hlZ => ?_)
          refine kk l2 HZ ⟨[r5, r6, r7], [.set 0 1, .grow 1, .drop bx], (s1.trans (s2.trans (s3.trans (s4.trans ((same_new nl1).trans (s5.trans (s6.trans (s7.trans sZ)))))))), hlZ, (((RowsAt.nil.snoc (w5.same (s6.trans (s7.trans sZ)))).snoc (w6.same (s7.trans sZ))).snoc (w7.same sZ)), ?_, Nat.le_of_ble_eq_true rfl, Nat.le_of_ble_eq_true rfl⟩
          intro r hr1
          simp only [List.mem_cons, List.not_mem_nil, or_false] at hr1
          rcases hr1 with rfl | rfl | rfl
          · exact ⟨⟨⟨by first | decide | omega, by first | decide | omega⟩, ⟨by first | decide | omega, by first | decide | omega⟩⟩, fun z => True.intro⟩
          · exact ⟨⟨by first | decide | omega, by first | decide | omega⟩, fun z => True.intro⟩
          · exact ⟨⟨by first | decide | omega, by first | decide | omega⟩, fun z => (by cases z)⟩
        · walk_at "rj"
          refine abs_heapC (H8 := H4) (b := l1) (R := fun Hx => rLen _ _ Hx _) (by walk_at "same") upd_same (fun HZ sZ hlZ => ?_)
          refine kk l1 HZ ⟨[r1, r2, r3, r4], [.grow (c / 24 % 3), .set (4 + c / 72 % 3) (c / 216 % 7), .call 3, .drop bx], (s1.trans (s2.trans (s3.trans (s4.trans sZ)))), hlZ, ((((RowsAt.nil.snoc (w1.same (s2.trans (s3.trans (s4.trans sZ))))).snoc (w2.same (s3.trans (s4.trans sZ)))).snoc (w3.same (s4.trans sZ))).snoc (w4.same sZ)), ?_, Nat.le_of_ble_eq_true rfl, Nat.le_of_ble_eq_true rfl⟩
          intro r hr1
          simp only [List.mem_cons, List.not_mem_nil, or_false] at hr1
          rcases hr1 with rfl | rfl | rfl | rfl
          · exact ⟨⟨by first | decide | omega, by first | decide | omega⟩, fun z => True.intro⟩
          · exact ⟨⟨⟨by first | decide | omega, by first | decide | omega⟩, ⟨by first | decide | omega, by first | decide | omega⟩⟩, fun z => True.intro⟩
          · exact ⟨⟨by first | decide | omega, by first | decide | omega⟩, fun z => True.intro⟩
          · exact ⟨⟨by first | decide | omega, by first | decide | omega⟩, fun z => (by cases z)⟩
    case key =>
      clear nl1 s1 s2 s3 s4 w1 w2 w3 w4 m1 m2 m3 m4 g1 g2 g3 g4 bx0 bx1
      rintro lc H1 ⟨prs, rs, s01, hlc, hrs, hok, n3, n5⟩
      have hS1 : SqL K H1 a0 (ns.map V.int) := Same.seq s01 hS
      clear s01
      refine r_lenL (SqL.of hlc) ?_
      rw [List.length_map, hrs.1]
      walk_at "rd"
      refine comp_range (fun i ys σ H2 => Same H1 H2 ∧ (∃ v, σ = [v, some (.ref a0)]) ∧ ys.length = i ∧ ∃ es, EntVs K H2 ys es) ⟨Same.refl _, ⟨_, rfl⟩, rfl, [], ⟨rfl, fun i oe e => by simp at e⟩⟩ ?_ ?_ ?_
      · rintro i ys σ H2 hi ⟨_, _, hl, _⟩
        rw [hl]
        walk_at "small"
      · rintro i ys σ H2 hi ⟨s2, ⟨v, rfl⟩, hl, es, hes⟩
        have hS2 := Same.seq s2 hS1
        walk_at "rd"
        refine ⟨_, rfl, fun v oe H3 s3 hv => ?_⟩
        exact ⟨s2.trans s3, ⟨_, rfl⟩, by rw [List.length_append, hl]; rfl, es ++ [oe], (hes.same s3).snoc hv⟩
      rintro ys σ H2 ⟨s2, _, hyl, es, hes⟩
      have hlc2 := s2 _ _ hlc
      have hrs2 := hrs.same s2
      have hS2 := Same.seq s2 hS1
      have hpl := hrs.1
      clear s2 hlc hrs hS1
      walk_at "rk"
      rename_i le nle ld nld
      refine r_lenL (SqL.of (by walk_at "hlk")) ?_
      rw [List.length_map, hpl]
      walk_at "rk"
      refine for_range (fun i σ H4 => (∃ u1 u2, σ = [some (.ref a0), some (.int c), some (.int bx), some (.ref lc), some (.ref le), some (.ref ld), u1, u2, none, none, none, none]) ∧ ∃ kvs, H4 = upd (upd H2 le (.lst ys)) ld (.dK kvs) ∧ LandOk kvs ∧ kvs.length ≤ i) ⟨⟨_, _, rfl⟩, [], rfl, (fun k v e => by cases e), Nat.le_refl _⟩ ?_ ?_
      · rintro i σ H4 hi ⟨⟨u1, u2, rfl⟩, kvs, rfl, hlo, hkl⟩
        walk_at "rk"
        refine ifDec (fun hh => ?_) (fun hh => ?_)
        · walk_at "rk"
          refine r_lenL (SqL.of (by walk_at "hlk")) ?_
          rw [List.length_map, hpl]
          walk_at "rk"
          rw [upd_again]
          exact ⟨⟨_, _, rfl⟩, _, rfl, hlo.put _ _, Nat.le_trans (length_putK _ _ _) (Nat.succ_le_succ hkl)⟩
        · walk_at "rk"
          exact ⟨⟨_, _, rfl⟩, kvs, rfl, hlo, Nat.le_succ_of_le hkl⟩
      rintro σ H4 ⟨⟨u1, u2, rfl⟩, kvs, rfl, hlo, hkl⟩
      walk_at "rk"
      intro xt dxt nxt ndxt nne
      refine' r_tab (kvs := kvs) (xs := ys) nxt ndxt ?h1 ?h2 ?q
      (case h1 => exact SqL.of (by walk_at "hlk"))
      (case h2 => exact .inr ⟨ld, rfl, upd_same⟩)
      (case q =>
        intro lt dt H5 s5 nlt ndt n12 nxl nxd hxt hlt hdt
        refine ⟨rfl, ?_⟩
        have sH5 : Same H2 H5 := (same_new nle).trans ((same_new nld).trans s5)
        have hle5 : H5 le = some (.lst ys) := s5 _ _ (by walk_at "hlk")
        have hld5 : H5 ld = some (.dK kvs) := s5 _ _ upd_same
        have hlc5 := sH5 _ _ hlc2
        have hrs5 := hrs2.same sH5
        have hS5 := Same.seq sH5 hS2
        have hes5 := hes.same sH5
        clear sH5 s5 nlt ndt nxl nxd nxt ndxt nne nle nld hlc2 hrs2 hS2 hes
        walk_at "rk"
        rename_i lb nlb
        refine for_range (fun i σ H6 => (∃ u1 u2, σ = [some (.ref a0), some (.int c), some (.int bx), some (.ref lc), some (.ref le), some (.ref ld), u1, u2, some (.ref xt), some (.ref lb), none, none]) ∧ Same H5 H6 ∧ ∃ bs : List Int, H6 lb = some (.lst (bs.map V.int)) ∧ bs.length = i ∧ ∀ x ∈ bs, isVal x) ⟨⟨_, _, rfl⟩, by walk_at "same", [], upd_same, rfl, (fun x hx => by cases hx)⟩ ?_ ?_
        · rintro i σ H6 hi ⟨⟨u1, u2, rfl⟩, s6, bs, hlb, hbl, hbv⟩
          have hlc6 := s6 _ _ hlc5
          have hS6 := Same.seq s6 hS5
          walk_at "rk"
          generalize cellAt ns (1 + (0 + (i : Int))) = p at *
          refine r_lenL (SqL.of (by walk_at "hlk")) ?_
          rw [List.length_map, hpl]
          walk_at "rk"
          refine r_ix2p (SqL.of upd_same) (by decide) (by decide) (by omega) (by omega) (fun m m0 m1 => ?_)
          walk_at "rk"
          refine ⟨⟨_, _, rfl⟩, by walk_at "same", bs ++ [p / 2 % m], by rw [List.map_append]; exact upd_same, by rw [List.length_append, hbl]; rfl, fun x hx => ?_⟩
          rcases List.mem_append.mp hx with z | z
          · exact hbv x z
          · have e : x = p / 2 % m := by simpa using z
            rw [e]
            exact ⟨Int.emod_nonneg _ (by omega), by have := Int.emod_lt_of_pos (p / 2) m0; omega⟩
        rintro σ H6 ⟨⟨u1, u2, rfl⟩, s6, bs, hlb, hbl, hbv⟩
        have hxt6 := s6 _ _ hxt
        have hlt6 := s6 _ _ hlt
        have hdt6 := s6 _ _ hdt
        have hlc6 := s6 _ _ hlc5
        have hrs6 := hrs5.same s6
        have hS6 := Same.seq s6 hS5
        have hes6 := hes5.same s6
        have hle6 := s6 _ _ hle5
        have hld6 := s6 _ _ hld5
        clear s6 hxt hlt hdt hlc5 hrs5 hS5 hes5 hle5 hld5 nlb
        walk_at "rk"
        intro xg dxg nxg ndxg nneg
        refine' r_tab (kvs := kvs) (xs := ys) nxg ndxg ?h3 ?h4 ?q2
        (case h3 => exact SqL.of (by walk_at "hlk"))
        (case h4 => exact .inr ⟨ld, rfl, by walk_at "hlk"⟩)
        (case q2 =>
          intro lg dg H7 s7 nlg ndg n12g nxlg nxdg hxg hlg hdg
          refine ⟨rfl, ?_⟩
          have nltg : lt ≠ lg := ne_of_none hlt6 nlg
          have ndtg : dt ≠ dg := ne_of_none hdt6 ndg
          have nlcg : lc ≠ lg := ne_of_none hlc6 nlg
          have hxt7 := s7 _ _ hxt6
          have hlt7 := s7 _ _ hlt6
          have hdt7 := s7 _ _ hdt6
          have hlc7 := s7 _ _ hlc6
          have hrs7 := hrs6.same s7
          have hS7 := Same.seq s7 hS6
          have hes7 := hes6.same s7
          have hlb7 := s7 _ _ hlb
          clear s7 nlg ndg nxlg nxdg nxg ndxg nneg hxt6 hlt6 hdt6 hlc6 hrs6 hS6 hes6 hlb hle6 hld6
          walk_at "rk"
          refine r_lenL (SqL.of (by walk_at "hlk")) ?_
          rw [List.length_map, hpl]
          walk_at "rk"
          intro xm dxm nxm ndxm nnem
          refine r_mach (prs := prs) (rs := rs) (bs := bs) (es := ys) (kvs := kvs) nxm ndxm hlc7 hrs7 hxg hlg hdg hlb7 (by rw [hbl]; rfl) (by omega) (fun pk pc pt ph pl fs cs H8 n1 n2 n3' n4 s8 M TN => ⟨rfl, ?_⟩)
          obtain ⟨dtm, lm, dm, hpt8, hlm8, hdm8, nlmpk, flm, fdm⟩ := TN
          have ngm : lg ≠ lm := ne_of_none hlg flm
          have ndm : dg ≠ dm := ne_of_none hdg fdm
          have ng1 : lg ≠ pk := ne_of_none hlg n1
          have ng2 : lg ≠ pc := ne_of_none hlg n2
          have ng3 : lg ≠ ph := ne_of_none hlg n3'
          have ng4 : lg ≠ pl := ne_of_none hlg n4
          have nlk : lt ≠ pk := ne_of_none hlt7 n1
          have nck : lc ≠ pk := ne_of_none hlc7 n1
          have hst0 : 0 ≤ cellAt ns 8 % (rs.length : Int) := Int.emod_nonneg _ (by omega)
          have hxt8 := s8 _ _ hxt7
          have hlt8 := s8 _ _ hlt7
          have hdt8 := s8 _ _ hdt7
          have hlc8 := s8 _ _ hlc7
          have hrs8 := hrs7.same s8
          have hes8 := hes7.same s8
          have hxg8 := s8 _ _ hxg
          have hlg8 := s8 _ _ hlg
          have hdg8 := s8 _ _ hdg
          have nxgl : xg ≠ lg := fun z => by rw [z, hlg8] at hxg8; cases hxg8
          have nxgd : xg ≠ dg := fun z => by rw [z, hdg8] at hxg8; cases hxg8
          have ndl := n12g.symm
          clear s8 n1 n2 n3' n4 nxm ndxm nnem hxt7 hlt7 hdt7 hlc7 hrs7 hes7 hS7 hlb7 hxg hlg hdg flm fdm
          walk_at "rk"
          refine r_tyD (by walk_at "hlk") ?_
          walk_at "rk"
          refine r_dclear (by walk_at "hlk") ?_
          walk_at "rk"
          have M1 := (M.away (ys := []) hlg8 ng1 ng2 ng3 ng4).awayD (kvs' := []) (show upd H8 lg (.lst []) dg = some (.dK kvs) from by rw [upd_ne ndl]; exact hdg8)
          have hesQ : EntVs K (upd (upd H8 lg (.lst [])) dg (.dK [])) ys es := (hes8.off hlg8 (.inl ⟨_, rfl⟩)).off (show upd H8 lg (.lst []) dg = some (.dK kvs) from by rw [upd_ne ndl]; exact hdg8) (.inr ⟨_, rfl⟩)
          have TP : TabAt K a (upd (upd H8 lg (.lst [])) dg (.dK [])) pt pk es kvs := ⟨ys, ⟨dtm, lm, dm, off2 hpt8 hlg8 hdg8 (fun z => by cases z) (fun z => by cases z), by rw [upd_ne (fun z => by rw [z, hdg8] at hlm8; cases hlm8), upd_ne ngm.symm]; exact hlm8, by rw [upd_ne ndm.symm, upd_ne (fun z => by rw [z, hlg8] at hdm8; cases hdm8)]; exact hdm8, nlmpk⟩, hesQ⟩
          have TT : TabAt K a (upd (upd H8 lg (.lst [])) dg (.dK [])) xt pk es kvs := ⟨ys, ⟨dxt, lt, dt, off2 hxt8 hlg8 hdg8 (fun z => by cases z) (fun z => by cases z), by rw [upd_ne (fun z => by rw [z, hdg8] at hlt8; cases hlt8), upd_ne nltg]; exact hlt8, by rw [upd_ne ndtg, upd_ne (fun z => by rw [z, hlg8] at hdt8; cases hdt8)]; exact hdt8, nlk⟩, hesQ⟩
          have hlcQ : (upd (upd H8 lg (.lst [])) dg (.dK [])) lc = some (.lst (prs.map V.ref)) := by rw [upd_ne (fun z => by rw [z, hdg8] at hlc8; cases hlc8), upd_ne nlcg]; exact hlc8
          have MM0 : MachAt a (upd (upd H8 lg (.lst [])) dg (.dK [])) xm pk pt (msStart rs bs (cellAt ns 8 % (rs.length : Int))) := ⟨_, _, _, _, _, _, _, M1⟩
          have hrsQ := M1.rows
          have hn4 := M1.n4
          have hmQ := M1.hm
          have hkQ := M1.hk
          have O0 : MOk (msStart rs bs (cellAt ns 8 % (rs.length : Int))) := by
            refine ⟨hok, by show rs.length ≤ 2000; omega, hst0, fun z => (wa_lt z).2, by show (bs ++ [(rs.length : Int)]).length = 8; rw [List.length_append, hbl]; rfl, ?_, fun x hx => (nomatch hx), Nat.zero_le _, wa_ok _ _⟩
            intro x hx
            rcases List.mem_append.mp (show x ∈ bs ++ [(rs.length : Int)] from hx) with z | z
            · exact hbv x z
            · have e : x = (rs.length : Int) := by simpa using z
              rw [e]; exact ⟨by omega, by omega⟩
          clear M M1 hesQ hlg8 hdg8 hxg8 hes8 hrs8 hlc8 hxt8 hlt8 hdt8 hpt8 hlm8 hdm8
          generalize (upd (upd H8 lg (.lst [])) dg (.dK [])) = HQ at *
          refine for_range (fun i σ H' => (∃ u1 u2, σ = [some (.ref a0), some (.int c), some (.int bx), some (.ref lc), some (.ref le), some (.ref ld), u1, u2, some (.ref xt), some (.ref lb), some (.ref xg), some (.ref xm)]) ∧ Kept2 xm pk HQ H' ∧ ∃ S, MachAt a H' xm pk pt S ∧ MOk S ∧ S.rows = rs ∧ (S.state = "runs" → S.drp = .non) ∧ S.calls.length ≤ 1 + i) ⟨⟨_, _, rfl⟩, Kept2.refl, _, MM0, O0, rfl, fun _ => rfl, Nat.le_refl _⟩ ?_ ?_
          · rintro i σ H' hi ⟨⟨u1, u2, rfl⟩, kp, S, MM, O, hSr, hdn, hcl⟩
            have hi12 : i < 12 := hi
            have TP' := TP.kept MM0 kp
            have TT' := TT.kept MM0 kp
            obtain ⟨dx2, pc2, ph2, pl2, fs2, prs2, cs2, N⟩ := id MM
            have gn := N.f.no
            have hm' := N.hm
            have f1 := N.f.coming
            have hlc' : H' lc = some (.lst (prs.map V.ref)) := kp _ _ hlcQ (fun z => by rw [z, hmQ] at hlcQ; cases hlcQ) nck
            walk_at "rk"
            refine r_methV hm' (gn _ (by decide +kernel)) ((me_Machine_word T).mono (by decide)) ?_
            walk_at "rk"
            refine ⟨xm, dx2, fs2, _, rfl, hm', N.f.state, ?_⟩
            by_cases hs : V.str S.state = V.str "runs"
            · have hs' : S.state = "runs" := by injection hs
              obtain ⟨r, hr0, hmem⟩ := O.row hs'
              have a1 := O.at1 hs'
              have a2 := O.at0
              obtain ⟨rok, rh0⟩ := O.ok r hmem
              have hr1 := hr0
              rw [hSr] at hr1
              have hl : S.coming.toNat < prs.length := by rw [hpl, ← hSr]; omega
              have hp : prs[S.coming.toNat]? = some prs[S.coming.toNat] := List.getElem?_eq_getElem hl
              generalize prs[S.coming.toNat] = p at hp
              obtain ⟨dxr, hrowQ⟩ := hrsQ.2 _ _ _ hp hr1
              have hrow : H' p = some (.ins (r.cls a) dxr r.flds) := kp _ _ hrowQ (hn4 p (List.mem_of_getElem? hp)) (fun z => by rw [z, hkQ] at hrowQ; cases hrowQ)
              have hat : atI (prs.map V.ref) S.coming = some (.ref p) := by
                rw [show S.coming = ((S.coming.toNat : Nat) : Int) by omega]
                exact atI_nat (by rw [List.getElem?_map, hp]; rfl)
              walk_at "rk"
              refine r_methV hm' (gn _ (by decide +kernel)) ((me_Machine_at T).mono (by decide)) ?_
              walk_at "rk"
              refine ⟨xm, dx2, fs2, _, rfl, hm', f1, ?_⟩
              walk_at "rk"
              cases hD : r.isDrop with
              | false =>
                have rh := rh0 hD
                obtain ⟨t1, ty1, kd, _, _⟩ := ty_all T rh ⟨dxr, hrow⟩
                refine r_isi (fun z => by cases z) ty1 kd ?_
                rw [hD]
                walk_at "rk"
                refine r_methV hm' (gn _ (by decide +kernel)) ((me_Machine_step T).mono (by decide)) ?_
                walk_at "rk"
                refine ⟨xm, pk, pt, S, es, kvs, rfl, MM, O, TP', hlo, by omega, fun H'' k'' M'' => ?_⟩
                walk_at "rk"
                exact ⟨⟨_, _, rfl⟩, kp.trans k'', _, M'', O.stepD, by rw [stepD_rows]; exact hSr, fun z => stepD_drp hdn z, by have := stepD_calls S es kvs; omega⟩
              | true =>
                obtain ⟨b, rfl⟩ : ∃ b, r = .drop b := by cases r <;> first | exact ⟨_, rfl⟩ | cases hD
                change H' p = some (.ins a.C_Drop dxr (putF "box" (.int b) [])) at hrow
                refine r_isi (fun z => by cases z) (.ins hrow T.cl_Drop T.ty_Drop.1 T.ob1 T.ob2 T.ty_Drop.2) T.is_Drop_Drop ?_
                walk_at "rk"
                refine r_methV hm' (gn _ (by decide +kernel)) ((me_Machine_at T).mono (by decide)) ?_
                walk_at "rk"
                refine ⟨xm, dx2, fs2, _, rfl, hm', f1, ?_⟩
                walk_at "rk"
                refine r_methV hrow (look_no (by decide +kernel) rfl) ((me_Drop_told T b).mono (by decide)) ?_
                walk_at "rk"
                refine ⟨p, rfl, ⟨dxr, hrow⟩, fun lw nlw => ?_⟩
                walk_at "rk"
                refine r_lenL (SqL.of (look_new hlc' nlw)) ?_
                rw [List.length_map, hpl, ← hSr]
                walk_at "rk"
                have sw : Same H' (upd H' lw (.tup (.str (Rw.drop b).told.1 :: (Rw.drop b).told.2.map V.int))) := same_new nlw
                refine ⟨xm, pk, pt, xt, b, S, es, kvs, rfl, MM.to sw, O, TP'.same sw, TT'.same sw, hlo, by omega, hs', hr0, rok, hdn hs', fun H'' k'' M'' => ?_⟩
                walk_at "rk"
                exact ⟨⟨_, _, rfl⟩, kp.trans ((Kept2.of_same sw).trans k''), _, M'', O.stepD, stepD_rows, fun z => stepD_drp hdn z, by have := stepD_calls S es kvs; omega⟩
            · walk_at "rk"
              exact q _
          · rintro σ H' ⟨⟨u1, u2, rfl⟩, _⟩
            walk_at "rk"
            exact q _))
end
theorem funD_mk2 {K : PySem.W.Frag} {x qual : Str} {st : Stmt} {f da : Addr} {n : Nat} {oc dc : Value} {od an dd : Option Addr} {osl dl : Array (Option Value)} {kV doc pm cdv ct : Value} (l : K.lookup f = some ⟨oc, od, .func (PySem.W.fnOf x qual (defArgs st) (defBody st) (defScope st) (.ref da) kV doc pm an cdv ct), osl⟩)
    (d : K.lookup da = some ⟨dc, dd, .seq #[.none] n, dl⟩) (c : PySem.W.codeIn K cdv qual = true) (k : PySem.W.keepIn K (.ref f) = true) : FunD K x qual st f (PySem.W.fnOf x qual (defArgs st) (defBody st) (defScope st) (.ref da) kV doc pm an cdv ct) := funD_mk l ⟨d, n, rfl⟩ c k
theorem bindsF {K : PySem.W.Frag} {x qual : Str} {st : Stmt} {f : Addr} {fd : FuncData} {ps : List Str} (F : FunD K x qual st f fd)
    (h : ∀ (da : Addr) (kV doc pm : Value) (an : Option Addr) (cdv ct : Value) (us : List Value), us.length = ps.length → ∃ k : Option (Array Value) → Sem (List (Str × Value)), bindArgs (PySem.W.fnOf x qual (defArgs st) (defBody st) (defScope st) (.ref da) kV doc pm an cdv ct) ⟨us, []⟩ = seqItems? (.ref da) >>= k ∧ k (some #[.none]) = pure (ps.zip us)) : Binds K fd ps [] := by
  obtain ⟨oc, od, da, kV, doc, pm, an, cdv, ct, osl, o, n, rfl, lk, hcd, ld, ed⟩ := F.ex
  intro s us KX hl
  rw [List.append_nil] at hl ⊢
  obtain ⟨k, h1, h2⟩ := h da kV doc pm an cdv ct us hl
  exact .of_defaults rfl (KX _ _ ld) ed h1 h2
set_option maxHeartbeats 8000000 in
theorem txt_mk {K : PySem.W.Frag} {h : Heap} {mg : Str → Option Value} {fa : Addr} (X : K.In h) (G : h.Ns mainGlobals mg) (hfa : mg "law" = some (.ref fa))
    {t_FIRST_CELL_BIT : Tok}
    {t_LINK : Tok}
    {t_MOST_CALLERS : Tok}
    {t_TOP_BOX : Tok}
    {t_TOP_CELLS : Tok}
    {t_TOP_TARGET : Tok}
    {t_TOP_VALUE : Tok}
    {C_Astray : Addr}
    {C_Back : Addr}
    {C_Call : Addr}
    {C_Drop : Addr}
    {C_FrameError : Addr}
    {C_Grow : Addr}
    {C_Machine : Addr}
    {C_NoRow : Addr}
    {C_Set : Addr}
    {C_Table : Addr}
    {f1 : Addr} {od1 an1 : Option Addr} {sl1 : Array (Option Value)} {oc1 kV1 dc1 pm1 cd1 ct1 : Value}
    {da1 : Addr} {dc1' : Value} {dd1 : Option Addr} {dn1 : Nat} {dl1 : Array (Option Value)}
    {f2 : Addr} {od2 an2 : Option Addr} {sl2 : Array (Option Value)} {oc2 kV2 dc2 pm2 cd2 ct2 : Value}
    {da2 : Addr} {dc2' : Value} {dd2 : Option Addr} {dn2 : Nat} {dl2 : Array (Option Value)}
    {dk2 : Tok}
    {f3 : Addr} {od3 an3 : Option Addr} {sl3 : Array (Option Value)} {oc3 kV3 dc3 pm3 cd3 ct3 : Value}
    {f4 : Addr} {od4 an4 : Option Addr} {sl4 : Array (Option Value)} {oc4 kV4 dc4 pm4 cd4 ct4 : Value}
    {f5 : Addr} {od5 an5 : Option Addr} {sl5 : Array (Option Value)} {oc5 kV5 dc5 pm5 cd5 ct5 : Value}
    {f6 : Addr} {od6 an6 : Option Addr} {sl6 : Array (Option Value)} {oc6 kV6 dc6 pm6 cd6 ct6 : Value}
    {f7 : Addr} {od7 an7 : Option Addr} {sl7 : Array (Option Value)} {oc7 kV7 dc7 pm7 cd7 ct7 : Value}
    {f8 : Addr} {od8 an8 : Option Addr} {sl8 : Array (Option Value)} {oc8 kV8 dc8 pm8 cd8 ct8 : Value}
    {f9 : Addr} {od9 an9 : Option Addr} {sl9 : Array (Option Value)} {oc9 kV9 dc9 pm9 cd9 ct9 : Value}
    {f10 : Addr} {od10 an10 : Option Addr} {sl10 : Array (Option Value)} {oc10 kV10 dc10 pm10 cd10 ct10 : Value}
    {f11 : Addr} {od11 an11 : Option Addr} {sl11 : Array (Option Value)} {oc11 kV11 dc11 pm11 cd11 ct11 : Value}
    {f12 : Addr} {od12 an12 : Option Addr} {sl12 : Array (Option Value)} {oc12 kV12 dc12 pm12 cd12 ct12 : Value}
    {f13 : Addr} {od13 an13 : Option Addr} {sl13 : Array (Option Value)} {oc13 kV13 dc13 pm13 cd13 ct13 : Value}
    {f14 : Addr} {od14 an14 : Option Addr} {sl14 : Array (Option Value)} {oc14 kV14 dc14 pm14 cd14 ct14 : Value}
    {f15 : Addr} {od15 an15 : Option Addr} {sl15 : Array (Option Value)} {oc15 kV15 dc15 pm15 cd15 ct15 : Value}
    {f16 : Addr} {od16 an16 : Option Addr} {sl16 : Array (Option Value)} {oc16 kV16 dc16 pm16 cd16 ct16 : Value}
    {f17 : Addr} {od17 an17 : Option Addr} {sl17 : Array (Option Value)} {oc17 kV17 dc17 pm17 cd17 ct17 : Value}
    {f18 : Addr} {od18 an18 : Option Addr} {sl18 : Array (Option Value)} {oc18 kV18 dc18 pm18 cd18 ct18 : Value}
    {f19 : Addr} {od19 an19 : Option Addr} {sl19 : Array (Option Value)} {oc19 kV19 dc19 pm19 cd19 ct19 : Value}
    {f20 : Addr} {od20 an20 : Option Addr} {sl20 : Array (Option Value)} {oc20 kV20 dc20 pm20 cd20 ct20 : Value}
    {f21 : Addr} {od21 an21 : Option Addr} {sl21 : Array (Option Value)} {oc21 kV21 dc21 pm21 cd21 ct21 : Value}
    {f22 : Addr} {od22 an22 : Option Addr} {sl22 : Array (Option Value)} {oc22 kV22 dc22 pm22 cd22 ct22 : Value}
    {f23 : Addr} {od23 an23 : Option Addr} {sl23 : Array (Option Value)} {oc23 kV23 dc23 pm23 cd23 ct23 : Value}
    {f24 : Addr} {od24 an24 : Option Addr} {sl24 : Array (Option Value)} {oc24 kV24 dc24 pm24 cd24 ct24 : Value}
    {f25 : Addr} {od25 an25 : Option Addr} {sl25 : Array (Option Value)} {oc25 kV25 dc25 pm25 cd25 ct25 : Value}
    {f26 : Addr} {od26 an26 : Option Addr} {sl26 : Array (Option Value)} {oc26 kV26 dc26 pm26 cd26 ct26 : Value}
    {f27 : Addr} {od27 an27 : Option Addr} {sl27 : Array (Option Value)} {oc27 kV27 dc27 pm27 cd27 ct27 : Value}
    {f28 : Addr} {od28 an28 : Option Addr} {sl28 : Array (Option Value)} {oc28 kV28 dc28 pm28 cd28 ct28 : Value}
    {f29 : Addr} {od29 an29 : Option Addr} {sl29 : Array (Option Value)} {oc29 kV29 dc29 pm29 cd29 ct29 : Value}
    {f30 : Addr} {od30 an30 : Option Addr} {sl30 : Array (Option Value)} {oc30 kV30 dc30 pm30 cd30 ct30 : Value}
    {f31 : Addr} {od31 an31 : Option Addr} {sl31 : Array (Option Value)} {oc31 kV31 dc31 pm31 cd31 ct31 : Value}
    {f32 : Addr} {od32 an32 : Option Addr} {sl32 : Array (Option Value)} {oc32 kV32 dc32 pm32 cd32 ct32 : Value}
    {f33 : Addr} {od33 an33 : Option Addr} {sl33 : Array (Option Value)} {oc33 kV33 dc33 pm33 cd33 ct33 : Value}
    {f34 : Addr} {od34 an34 : Option Addr} {sl34 : Array (Option Value)} {oc34 kV34 dc34 pm34 cd34 ct34 : Value}
    {f35 : Addr} {od35 an35 : Option Addr} {sl35 : Array (Option Value)} {oc35 kV35 dc35 pm35 cd35 ct35 : Value}
    {f36 : Addr} {od36 an36 : Option Addr} {sl36 : Array (Option Value)} {oc36 kV36 dc36 pm36 cd36 ct36 : Value}
    {f37 : Addr} {od37 an37 : Option Addr} {sl37 : Array (Option Value)} {oc37 kV37 dc37 pm37 cd37 ct37 : Value}
    {f38 : Addr} {od38 an38 : Option Addr} {sl38 : Array (Option Value)} {oc38 kV38 dc38 pm38 cd38 ct38 : Value}
    {f39 : Addr} {od39 an39 : Option Addr} {sl39 : Array (Option Value)} {oc39 kV39 dc39 pm39 cd39 ct39 : Value}
    {f40 : Addr} {od40 an40 : Option Addr} {sl40 : Array (Option Value)} {oc40 kV40 dc40 pm40 cd40 ct40 : Value}
    {f41 : Addr} {od41 an41 : Option Addr} {sl41 : Array (Option Value)} {oc41 kV41 dc41 pm41 cd41 ct41 : Value}
    {f42 : Addr} {od42 an42 : Option Addr} {sl42 : Array (Option Value)} {oc42 kV42 dc42 pm42 cd42 ct42 : Value}
    {f43 : Addr} {od43 an43 : Option Addr} {sl43 : Array (Option Value)} {oc43 kV43 dc43 pm43 cd43 ct43 : Value}
    {f44 : Addr} {od44 an44 : Option Addr} {sl44 : Array (Option Value)} {oc44 kV44 dc44 pm44 cd44 ct44 : Value}
    {f45 : Addr} {od45 an45 : Option Addr} {sl45 : Array (Option Value)} {oc45 kV45 dc45 pm45 cd45 ct45 : Value}
    {f46 : Addr} {od46 an46 : Option Addr} {sl46 : Array (Option Value)} {oc46 kV46 dc46 pm46 cd46 ct46 : Value}
    {f47 : Addr} {od47 an47 : Option Addr} {sl47 : Array (Option Value)} {oc47 kV47 dc47 pm47 cd47 ct47 : Value}
    {f48 : Addr} {od48 an48 : Option Addr} {sl48 : Array (Option Value)} {oc48 kV48 dc48 pm48 cd48 ct48 : Value}
    (z_dict : PySem.W.nsIn K mainGlobals "dict" = some none)
    (z_enumerate : PySem.W.nsIn K mainGlobals "enumerate" = some none)
    (z_int : PySem.W.nsIn K mainGlobals "int" = some none)
    (z_isinstance : PySem.W.nsIn K mainGlobals "isinstance" = some none)
    (z_len : PySem.W.nsIn K mainGlobals "len" = some none)
    (z_list : PySem.W.nsIn K mainGlobals "list" = some none)
    (z_max : PySem.W.nsIn K mainGlobals "max" = some none)
    (z_range : PySem.W.nsIn K mainGlobals "range" = some none)
    (z_reversed : PySem.W.nsIn K mainGlobals "reversed" = some none)
    (g_FIRST_CELL_BIT : PySem.W.nsIn K mainGlobals "FIRST_CELL_BIT" = some (some (Value.int 8 t_FIRST_CELL_BIT)))
    (g_LINK : PySem.W.nsIn K mainGlobals "LINK" = some (some (Value.int 7 t_LINK)))
    (g_MOST_CALLERS : PySem.W.nsIn K mainGlobals "MOST_CALLERS" = some (some (Value.int 5000 t_MOST_CALLERS)))
    (g_TOP_BOX : PySem.W.nsIn K mainGlobals "TOP_BOX" = some (some (Value.int 7 t_TOP_BOX)))
    (g_TOP_CELLS : PySem.W.nsIn K mainGlobals "TOP_CELLS" = some (some (Value.int 4000 t_TOP_CELLS)))
    (g_TOP_TARGET : PySem.W.nsIn K mainGlobals "TOP_TARGET" = some (some (Value.int 2000 t_TOP_TARGET)))
    (g_TOP_VALUE : PySem.W.nsIn K mainGlobals "TOP_VALUE" = some (some (Value.int 4294967295 t_TOP_VALUE)))
    (c_Astray : PySem.W.nsIn K mainGlobals "Astray" = some (some (.ref C_Astray)))
    (c_Back : PySem.W.nsIn K mainGlobals "Back" = some (some (.ref C_Back)))
    (c_Call : PySem.W.nsIn K mainGlobals "Call" = some (some (.ref C_Call)))
    (c_Drop : PySem.W.nsIn K mainGlobals "Drop" = some (some (.ref C_Drop)))
    (c_FrameError : PySem.W.nsIn K mainGlobals "FrameError" = some (some (.ref C_FrameError)))
    (c_Grow : PySem.W.nsIn K mainGlobals "Grow" = some (some (.ref C_Grow)))
    (c_Machine : PySem.W.nsIn K mainGlobals "Machine" = some (some (.ref C_Machine)))
    (c_NoRow : PySem.W.nsIn K mainGlobals "NoRow" = some (some (.ref C_NoRow)))
    (c_Set : PySem.W.nsIn K mainGlobals "Set" = some (some (.ref C_Set)))
    (c_Table : PySem.W.nsIn K mainGlobals "Table" = some (some (.ref C_Table)))
    (pg_Table : PySem.W.plainGet K C_Table Str.empty = true)
    (hd_Table : PySem.W.hasDictIn K C_Table = true)
    (po_Table : PySem.W.plainOver K C_Table = true)
    (sa_Table : PySem.W.findIn K (.ref C_Table) "__setattr__" = some (some (.builtin "object.__setattr__")))
    (mk_Table : PySem.W.makesIn K C_Table = true)
    (kc_Table : PySem.W.keepIn K (.ref C_Table) = true)
    (n_Table_entries : PySem.W.findIn K (.ref C_Table) "entries" = some none)
    (n_Table_landings : PySem.W.findIn K (.ref C_Table) "landings" = some none)
    (a1 : PySem.W.findIn K (.ref C_Table) "__init__" = some (some (.ref f1)))
    (i1 : PySem.W.isFn K (.ref f1) = true)
    (l1 : K.lookup f1 = some ⟨oc1, od1, .func (PySem.W.fnOf "__init__" "Table.__init__" (defArgs s_Table_init) (defBody s_Table_init) (defScope s_Table_init) (.ref da1) kV1 dc1 pm1 an1 cd1 ct1), sl1⟩)
    (d1 : K.lookup da1 = some ⟨dc1', dd1, .seq #[.none] dn1, dl1⟩)
    (c1 : PySem.W.codeIn K cd1 "Table.__init__" = true) (k1 : PySem.W.keepIn K (.ref f1) = true)
    (pg_Machine : PySem.W.plainGet K C_Machine Str.empty = true)
    (hd_Machine : PySem.W.hasDictIn K C_Machine = true)
    (po_Machine : PySem.W.plainOver K C_Machine = true)
    (sa_Machine : PySem.W.findIn K (.ref C_Machine) "__setattr__" = some (some (.builtin "object.__setattr__")))
    (mk_Machine : PySem.W.makesIn K C_Machine = true)
    (kc_Machine : PySem.W.keepIn K (.ref C_Machine) = true)
    (n_Machine_code : PySem.W.findIn K (.ref C_Machine) "code" = some none)
    (n_Machine_table : PySem.W.findIn K (.ref C_Machine) "table" = some none)
    (n_Machine_home : PySem.W.findIn K (.ref C_Machine) "home" = some none)
    (n_Machine_coming : PySem.W.findIn K (.ref C_Machine) "coming" = some none)
    (n_Machine_held : PySem.W.findIn K (.ref C_Machine) "held" = some none)
    (n_Machine_cells : PySem.W.findIn K (.ref C_Machine) "cells" = some none)
    (n_Machine_calls : PySem.W.findIn K (.ref C_Machine) "calls" = some none)
    (n_Machine_dropped : PySem.W.findIn K (.ref C_Machine) "dropped" = some none)
    (n_Machine_state : PySem.W.findIn K (.ref C_Machine) "state" = some none)
    (a2 : PySem.W.findIn K (.ref C_Machine) "__init__" = some (some (.ref f2)))
    (i2 : PySem.W.isFn K (.ref f2) = true)
    (l2 : K.lookup f2 = some ⟨oc2, od2, .func (PySem.W.fnOf "__init__" "Machine.__init__" (defArgs s_Machine_init) (defBody s_Machine_init) (defScope s_Machine_init) (.ref da2) kV2 dc2 pm2 an2 cd2 ct2), sl2⟩)
    (d2 : K.lookup da2 = some ⟨dc2', dd2, .seq #[.int 0 dk2] dn2, dl2⟩)
    (c2 : PySem.W.codeIn K cd2 "Machine.__init__" = true) (k2 : PySem.W.keepIn K (.ref f2) = true)
    (a3 : PySem.W.findIn K (.ref C_Machine) "at" = some (some (.ref f3)))
    (i3 : PySem.W.isFn K (.ref f3) = true)
    (l3 : K.lookup f3 = some ⟨oc3, od3, .func (PySem.W.fnOf "at" "Machine.at" (defArgs s_Machine_at) (defBody s_Machine_at) (defScope s_Machine_at) .none kV3 dc3 pm3 an3 cd3 ct3), sl3⟩)
    (c3 : PySem.W.codeIn K cd3 "Machine.at" = true) (k3 : PySem.W.keepIn K (.ref f3) = true)
    (a4 : PySem.W.findIn K (.ref C_Machine) "book" = some (some (.ref f4)))
    (i4 : PySem.W.isFn K (.ref f4) = true)
    (l4 : K.lookup f4 = some ⟨oc4, od4, .func (PySem.W.fnOf "book" "Machine.book" (defArgs s_Machine_book) (defBody s_Machine_book) (defScope s_Machine_book) .none kV4 dc4 pm4 an4 cd4 ct4), sl4⟩)
    (c4 : PySem.W.codeIn K cd4 "Machine.book" = true) (k4 : PySem.W.keepIn K (.ref f4) = true)
    (a5 : PySem.W.findIn K (.ref C_Machine) "boxes" = some (some (.ref f5)))
    (i5 : PySem.W.isFn K (.ref f5) = true)
    (l5 : K.lookup f5 = some ⟨oc5, od5, .func (PySem.W.fnOf "boxes" "Machine.boxes" (defArgs s_Machine_boxes) (defBody s_Machine_boxes) (defScope s_Machine_boxes) .none kV5 dc5 pm5 an5 cd5 ct5), sl5⟩)
    (c5 : PySem.W.codeIn K cd5 "Machine.boxes" = true) (k5 : PySem.W.keepIn K (.ref f5) = true)
    (a6 : PySem.W.findIn K (.ref C_Machine) "do" = some (some (.ref f6)))
    (i6 : PySem.W.isFn K (.ref f6) = true)
    (l6 : K.lookup f6 = some ⟨oc6, od6, .func (PySem.W.fnOf "do" "Machine.do" (defArgs s_Machine_do) (defBody s_Machine_do) (defScope s_Machine_do) .none kV6 dc6 pm6 an6 cd6 ct6), sl6⟩)
    (c6 : PySem.W.codeIn K cd6 "Machine.do" = true) (k6 : PySem.W.keepIn K (.ref f6) = true)
    (a7 : PySem.W.findIn K (.ref C_Machine) "drop" = some (some (.ref f7)))
    (i7 : PySem.W.isFn K (.ref f7) = true)
    (l7 : K.lookup f7 = some ⟨oc7, od7, .func (PySem.W.fnOf "drop" "Machine.drop" (defArgs s_Machine_drop) (defBody s_Machine_drop) (defScope s_Machine_drop) .none kV7 dc7 pm7 an7 cd7 ct7), sl7⟩)
    (c7 : PySem.W.codeIn K cd7 "Machine.drop" = true) (k7 : PySem.W.keepIn K (.ref f7) = true)
    (a8 : PySem.W.findIn K (.ref C_Machine) "fault" = some (some (.ref f8)))
    (i8 : PySem.W.isFn K (.ref f8) = true)
    (l8 : K.lookup f8 = some ⟨oc8, od8, .func (PySem.W.fnOf "fault" "Machine.fault" (defArgs s_Machine_fault) (defBody s_Machine_fault) (defScope s_Machine_fault) .none kV8 dc8 pm8 an8 cd8 ct8), sl8⟩)
    (c8 : PySem.W.codeIn K cd8 "Machine.fault" = true) (k8 : PySem.W.keepIn K (.ref f8) = true)
    (a9 : PySem.W.findIn K (.ref C_Machine) "forget" = some (some (.ref f9)))
    (i9 : PySem.W.isFn K (.ref f9) = true)
    (l9 : K.lookup f9 = some ⟨oc9, od9, .func (PySem.W.fnOf "forget" "Machine.forget" (defArgs s_Machine_forget) (defBody s_Machine_forget) (defScope s_Machine_forget) .none kV9 dc9 pm9 an9 cd9 ct9), sl9⟩)
    (c9 : PySem.W.codeIn K cd9 "Machine.forget" = true) (k9 : PySem.W.keepIn K (.ref f9) = true)
    (a10 : PySem.W.findIn K (.ref C_Machine) "go_on" = some (some (.ref f10)))
    (i10 : PySem.W.isFn K (.ref f10) = true)
    (l10 : K.lookup f10 = some ⟨oc10, od10, .func (PySem.W.fnOf "go_on" "Machine.go_on" (defArgs s_Machine_go_on) (defBody s_Machine_go_on) (defScope s_Machine_go_on) .none kV10 dc10 pm10 an10 cd10 ct10), sl10⟩)
    (c10 : PySem.W.codeIn K cd10 "Machine.go_on" = true) (k10 : PySem.W.keepIn K (.ref f10) = true)
    (a11 : PySem.W.findIn K (.ref C_Machine) "land" = some (some (.ref f11)))
    (i11 : PySem.W.isFn K (.ref f11) = true)
    (l11 : K.lookup f11 = some ⟨oc11, od11, .func (PySem.W.fnOf "land" "Machine.land" (defArgs s_Machine_land) (defBody s_Machine_land) (defScope s_Machine_land) .none kV11 dc11 pm11 an11 cd11 ct11), sl11⟩)
    (c11 : PySem.W.codeIn K cd11 "Machine.land" = true) (k11 : PySem.W.keepIn K (.ref f11) = true)
    (a12 : PySem.W.findIn K (.ref C_Machine) "pile" = some (some (.ref f12)))
    (i12 : PySem.W.isFn K (.ref f12) = true)
    (l12 : K.lookup f12 = some ⟨oc12, od12, .func (PySem.W.fnOf "pile" "Machine.pile" (defArgs s_Machine_pile) (defBody s_Machine_pile) (defScope s_Machine_pile) .none kV12 dc12 pm12 an12 cd12 ct12), sl12⟩)
    (c12 : PySem.W.codeIn K cd12 "Machine.pile" = true) (k12 : PySem.W.keepIn K (.ref f12) = true)
    (a13 : PySem.W.findIn K (.ref C_Machine) "step" = some (some (.ref f13)))
    (i13 : PySem.W.isFn K (.ref f13) = true)
    (l13 : K.lookup f13 = some ⟨oc13, od13, .func (PySem.W.fnOf "step" "Machine.step" (defArgs s_Machine_step) (defBody s_Machine_step) (defScope s_Machine_step) .none kV13 dc13 pm13 an13 cd13 ct13), sl13⟩)
    (c13 : PySem.W.codeIn K cd13 "Machine.step" = true) (k13 : PySem.W.keepIn K (.ref f13) = true)
    (a14 : PySem.W.findIn K (.ref C_Machine) "word" = some (some (.ref f14)))
    (i14 : PySem.W.isFn K (.ref f14) = true)
    (l14 : K.lookup f14 = some ⟨oc14, od14, .func (PySem.W.fnOf "word" "Machine.word" (defArgs s_Machine_word) (defBody s_Machine_word) (defScope s_Machine_word) .none kV14 dc14 pm14 an14 cd14 ct14), sl14⟩)
    (c14 : PySem.W.codeIn K cd14 "Machine.word" = true) (k14 : PySem.W.keepIn K (.ref f14) = true)
    (a15 : PySem.W.findIn K (.ref C_Machine) "word_ahead_of" = some (some (.ref f15)))
    (i15 : PySem.W.isFn K (.ref f15) = true)
    (l15 : K.lookup f15 = some ⟨oc15, od15, .func (PySem.W.fnOf "word_ahead_of" "Machine.word_ahead_of" (defArgs s_Machine_word_ahead_of) (defBody s_Machine_word_ahead_of) (defScope s_Machine_word_ahead_of) .none kV15 dc15 pm15 an15 cd15 ct15), sl15⟩)
    (c15 : PySem.W.codeIn K cd15 "Machine.word_ahead_of" = true) (k15 : PySem.W.keepIn K (.ref f15) = true)
    (pg_Grow : PySem.W.plainGet K C_Grow Str.empty = true)
    (hd_Grow : PySem.W.hasDictIn K C_Grow = true)
    (po_Grow : PySem.W.plainOver K C_Grow = true)
    (sa_Grow : PySem.W.findIn K (.ref C_Grow) "__setattr__" = some (some (.builtin "object.__setattr__")))
    (mk_Grow : PySem.W.makesIn K C_Grow = true)
    (kc_Grow : PySem.W.keepIn K (.ref C_Grow) = true)
    (n_Grow_many : PySem.W.findIn K (.ref C_Grow) "many" = some none)
    (a16 : PySem.W.findIn K (.ref C_Grow) "__init__" = some (some (.ref f16)))
    (i16 : PySem.W.isFn K (.ref f16) = true)
    (l16 : K.lookup f16 = some ⟨oc16, od16, .func (PySem.W.fnOf "__init__" "Grow.__init__" (defArgs s_Grow_init) (defBody s_Grow_init) (defScope s_Grow_init) .none kV16 dc16 pm16 an16 cd16 ct16), sl16⟩)
    (c16 : PySem.W.codeIn K cd16 "Grow.__init__" = true) (k16 : PySem.W.keepIn K (.ref f16) = true)
    (a17 : PySem.W.findIn K (.ref C_Grow) "height" = some (some (.ref f17)))
    (i17 : PySem.W.isFn K (.ref f17) = true)
    (l17 : K.lookup f17 = some ⟨oc17, od17, .func (PySem.W.fnOf "height" "Grow.height" (defArgs s_Grow_height) (defBody s_Grow_height) (defScope s_Grow_height) .none kV17 dc17 pm17 an17 cd17 ct17), sl17⟩)
    (c17 : PySem.W.codeIn K cd17 "Grow.height" = true) (k17 : PySem.W.keepIn K (.ref f17) = true)
    (a18 : PySem.W.findIn K (.ref C_Grow) "runs" = some (some (.ref f18)))
    (i18 : PySem.W.isFn K (.ref f18) = true)
    (l18 : K.lookup f18 = some ⟨oc18, od18, .func (PySem.W.fnOf "runs" "Grow.runs" (defArgs s_Grow_runs) (defBody s_Grow_runs) (defScope s_Grow_runs) .none kV18 dc18 pm18 an18 cd18 ct18), sl18⟩)
    (c18 : PySem.W.codeIn K cd18 "Grow.runs" = true) (k18 : PySem.W.keepIn K (.ref f18) = true)
    (a19 : PySem.W.findIn K (.ref C_Grow) "told" = some (some (.ref f19)))
    (i19 : PySem.W.isFn K (.ref f19) = true)
    (l19 : K.lookup f19 = some ⟨oc19, od19, .func (PySem.W.fnOf "told" "Grow.told" (defArgs s_Grow_told) (defBody s_Grow_told) (defScope s_Grow_told) .none kV19 dc19 pm19 an19 cd19 ct19), sl19⟩)
    (c19 : PySem.W.codeIn K cd19 "Grow.told" = true) (k19 : PySem.W.keepIn K (.ref f19) = true)
    (pg_Set : PySem.W.plainGet K C_Set Str.empty = true)
    (hd_Set : PySem.W.hasDictIn K C_Set = true)
    (po_Set : PySem.W.plainOver K C_Set = true)
    (sa_Set : PySem.W.findIn K (.ref C_Set) "__setattr__" = some (some (.builtin "object.__setattr__")))
    (mk_Set : PySem.W.makesIn K C_Set = true)
    (kc_Set : PySem.W.keepIn K (.ref C_Set) = true)
    (n_Set_box : PySem.W.findIn K (.ref C_Set) "box" = some none)
    (n_Set_number : PySem.W.findIn K (.ref C_Set) "number" = some none)
    (a20 : PySem.W.findIn K (.ref C_Set) "__init__" = some (some (.ref f20)))
    (i20 : PySem.W.isFn K (.ref f20) = true)
    (l20 : K.lookup f20 = some ⟨oc20, od20, .func (PySem.W.fnOf "__init__" "Set.__init__" (defArgs s_Set_init) (defBody s_Set_init) (defScope s_Set_init) .none kV20 dc20 pm20 an20 cd20 ct20), sl20⟩)
    (c20 : PySem.W.codeIn K cd20 "Set.__init__" = true) (k20 : PySem.W.keepIn K (.ref f20) = true)
    (a21 : PySem.W.findIn K (.ref C_Set) "height" = some (some (.ref f21)))
    (i21 : PySem.W.isFn K (.ref f21) = true)
    (l21 : K.lookup f21 = some ⟨oc21, od21, .func (PySem.W.fnOf "height" "Row.height" (defArgs s_Row_height) (defBody s_Row_height) (defScope s_Row_height) .none kV21 dc21 pm21 an21 cd21 ct21), sl21⟩)
    (c21 : PySem.W.codeIn K cd21 "Row.height" = true) (k21 : PySem.W.keepIn K (.ref f21) = true)
    (a22 : PySem.W.findIn K (.ref C_Set) "runs" = some (some (.ref f22)))
    (i22 : PySem.W.isFn K (.ref f22) = true)
    (l22 : K.lookup f22 = some ⟨oc22, od22, .func (PySem.W.fnOf "runs" "Set.runs" (defArgs s_Set_runs) (defBody s_Set_runs) (defScope s_Set_runs) .none kV22 dc22 pm22 an22 cd22 ct22), sl22⟩)
    (c22 : PySem.W.codeIn K cd22 "Set.runs" = true) (k22 : PySem.W.keepIn K (.ref f22) = true)
    (a23 : PySem.W.findIn K (.ref C_Set) "told" = some (some (.ref f23)))
    (i23 : PySem.W.isFn K (.ref f23) = true)
    (l23 : K.lookup f23 = some ⟨oc23, od23, .func (PySem.W.fnOf "told" "Set.told" (defArgs s_Set_told) (defBody s_Set_told) (defScope s_Set_told) .none kV23 dc23 pm23 an23 cd23 ct23), sl23⟩)
    (c23 : PySem.W.codeIn K cd23 "Set.told" = true) (k23 : PySem.W.keepIn K (.ref f23) = true)
    (pg_Call : PySem.W.plainGet K C_Call Str.empty = true)
    (hd_Call : PySem.W.hasDictIn K C_Call = true)
    (po_Call : PySem.W.plainOver K C_Call = true)
    (sa_Call : PySem.W.findIn K (.ref C_Call) "__setattr__" = some (some (.builtin "object.__setattr__")))
    (mk_Call : PySem.W.makesIn K C_Call = true)
    (kc_Call : PySem.W.keepIn K (.ref C_Call) = true)
    (n_Call_target : PySem.W.findIn K (.ref C_Call) "target" = some none)
    (a24 : PySem.W.findIn K (.ref C_Call) "__init__" = some (some (.ref f24)))
    (i24 : PySem.W.isFn K (.ref f24) = true)
    (l24 : K.lookup f24 = some ⟨oc24, od24, .func (PySem.W.fnOf "__init__" "Call.__init__" (defArgs s_Call_init) (defBody s_Call_init) (defScope s_Call_init) .none kV24 dc24 pm24 an24 cd24 ct24), sl24⟩)
    (c24 : PySem.W.codeIn K cd24 "Call.__init__" = true) (k24 : PySem.W.keepIn K (.ref f24) = true)
    (a25 : PySem.W.findIn K (.ref C_Call) "height" = some (some (.ref f25)))
    (i25 : PySem.W.isFn K (.ref f25) = true)
    (l25 : K.lookup f25 = some ⟨oc25, od25, .func (PySem.W.fnOf "height" "Row.height" (defArgs s_Row_height) (defBody s_Row_height) (defScope s_Row_height) .none kV25 dc25 pm25 an25 cd25 ct25), sl25⟩)
    (c25 : PySem.W.codeIn K cd25 "Row.height" = true) (k25 : PySem.W.keepIn K (.ref f25) = true)
    (a26 : PySem.W.findIn K (.ref C_Call) "runs" = some (some (.ref f26)))
    (i26 : PySem.W.isFn K (.ref f26) = true)
    (l26 : K.lookup f26 = some ⟨oc26, od26, .func (PySem.W.fnOf "runs" "Call.runs" (defArgs s_Call_runs) (defBody s_Call_runs) (defScope s_Call_runs) .none kV26 dc26 pm26 an26 cd26 ct26), sl26⟩)
    (c26 : PySem.W.codeIn K cd26 "Call.runs" = true) (k26 : PySem.W.keepIn K (.ref f26) = true)
    (a27 : PySem.W.findIn K (.ref C_Call) "told" = some (some (.ref f27)))
    (i27 : PySem.W.isFn K (.ref f27) = true)
    (l27 : K.lookup f27 = some ⟨oc27, od27, .func (PySem.W.fnOf "told" "Call.told" (defArgs s_Call_told) (defBody s_Call_told) (defScope s_Call_told) .none kV27 dc27 pm27 an27 cd27 ct27), sl27⟩)
    (c27 : PySem.W.codeIn K cd27 "Call.told" = true) (k27 : PySem.W.keepIn K (.ref f27) = true)
    (pg_Drop : PySem.W.plainGet K C_Drop Str.empty = true)
    (hd_Drop : PySem.W.hasDictIn K C_Drop = true)
    (po_Drop : PySem.W.plainOver K C_Drop = true)
    (sa_Drop : PySem.W.findIn K (.ref C_Drop) "__setattr__" = some (some (.builtin "object.__setattr__")))
    (mk_Drop : PySem.W.makesIn K C_Drop = true)
    (kc_Drop : PySem.W.keepIn K (.ref C_Drop) = true)
    (n_Drop_box : PySem.W.findIn K (.ref C_Drop) "box" = some none)
    (a28 : PySem.W.findIn K (.ref C_Drop) "__init__" = some (some (.ref f28)))
    (i28 : PySem.W.isFn K (.ref f28) = true)
    (l28 : K.lookup f28 = some ⟨oc28, od28, .func (PySem.W.fnOf "__init__" "Drop.__init__" (defArgs s_Drop_init) (defBody s_Drop_init) (defScope s_Drop_init) .none kV28 dc28 pm28 an28 cd28 ct28), sl28⟩)
    (c28 : PySem.W.codeIn K cd28 "Drop.__init__" = true) (k28 : PySem.W.keepIn K (.ref f28) = true)
    (a29 : PySem.W.findIn K (.ref C_Drop) "height" = some (some (.ref f29)))
    (i29 : PySem.W.isFn K (.ref f29) = true)
    (l29 : K.lookup f29 = some ⟨oc29, od29, .func (PySem.W.fnOf "height" "Row.height" (defArgs s_Row_height) (defBody s_Row_height) (defScope s_Row_height) .none kV29 dc29 pm29 an29 cd29 ct29), sl29⟩)
    (c29 : PySem.W.codeIn K cd29 "Row.height" = true) (k29 : PySem.W.keepIn K (.ref f29) = true)
    (a30 : PySem.W.findIn K (.ref C_Drop) "runs" = some (some (.ref f30)))
    (i30 : PySem.W.isFn K (.ref f30) = true)
    (l30 : K.lookup f30 = some ⟨oc30, od30, .func (PySem.W.fnOf "runs" "Drop.runs" (defArgs s_Drop_runs) (defBody s_Drop_runs) (defScope s_Drop_runs) .none kV30 dc30 pm30 an30 cd30 ct30), sl30⟩)
    (c30 : PySem.W.codeIn K cd30 "Drop.runs" = true) (k30 : PySem.W.keepIn K (.ref f30) = true)
    (a31 : PySem.W.findIn K (.ref C_Drop) "told" = some (some (.ref f31)))
    (i31 : PySem.W.isFn K (.ref f31) = true)
    (l31 : K.lookup f31 = some ⟨oc31, od31, .func (PySem.W.fnOf "told" "Drop.told" (defArgs s_Drop_told) (defBody s_Drop_told) (defScope s_Drop_told) .none kV31 dc31 pm31 an31 cd31 ct31), sl31⟩)
    (c31 : PySem.W.codeIn K cd31 "Drop.told" = true) (k31 : PySem.W.keepIn K (.ref f31) = true)
    (ha_Set : PySem.W.findIn K (.ref C_Set) "__class__" = some (some (.builtin "object.__class__"))) (hm_Set : PySem.W.mroIn K C_Set (.type "object") = some true)
    (is_Set_Drop : PySem.W.kitOne K (.ref C_Set) (.ref C_Drop) = some false)
    (is_Set_Call : PySem.W.kitOne K (.ref C_Set) (.ref C_Call) = some false)
    (is_Set_Back : PySem.W.kitOne K (.ref C_Set) (.ref C_Back) = some false)
    (ha_Grow : PySem.W.findIn K (.ref C_Grow) "__class__" = some (some (.builtin "object.__class__"))) (hm_Grow : PySem.W.mroIn K C_Grow (.type "object") = some true)
    (is_Grow_Drop : PySem.W.kitOne K (.ref C_Grow) (.ref C_Drop) = some false)
    (is_Grow_Call : PySem.W.kitOne K (.ref C_Grow) (.ref C_Call) = some false)
    (is_Grow_Back : PySem.W.kitOne K (.ref C_Grow) (.ref C_Back) = some false)
    (ha_Call : PySem.W.findIn K (.ref C_Call) "__class__" = some (some (.builtin "object.__class__"))) (hm_Call : PySem.W.mroIn K C_Call (.type "object") = some true)
    (is_Call_Drop : PySem.W.kitOne K (.ref C_Call) (.ref C_Drop) = some false)
    (is_Call_Call : PySem.W.kitOne K (.ref C_Call) (.ref C_Call) = some true)
    (is_Call_Back : PySem.W.kitOne K (.ref C_Call) (.ref C_Back) = some false)
    (ha_Drop : PySem.W.findIn K (.ref C_Drop) "__class__" = some (some (.builtin "object.__class__"))) (hm_Drop : PySem.W.mroIn K C_Drop (.type "object") = some true)
    (is_Drop_Drop : PySem.W.kitOne K (.ref C_Drop) (.ref C_Drop) = some true)
    (is_Drop_Call : PySem.W.kitOne K (.ref C_Drop) (.ref C_Call) = some false)
    (is_Drop_Back : PySem.W.kitOne K (.ref C_Drop) (.ref C_Back) = some false)
    (ob1 : PySem.W.specialIn K (.builtin "object.__class__") "__get__" = some (some (.builtin "getset_descriptor.__get__"))) (ob2 : PySem.W.takesIn K (.builtin "object.__class__") = some true)
    (a32 : PySem.W.findIn K (.ref C_Astray) "__init__" = some (some (.ref f32)))
    (i32 : PySem.W.isFn K (.ref f32) = true)
    (l32 : K.lookup f32 = some ⟨oc32, od32, .func (PySem.W.fnOf "__init__" "Astray.__init__" (defArgs s_Astray_init) (defBody s_Astray_init) (defScope s_Astray_init) .none kV32 dc32 pm32 an32 cd32 ct32), sl32⟩)
    (c32 : PySem.W.codeIn K cd32 "Astray.__init__" = true) (k32 : PySem.W.keepIn K (.ref f32) = true)
    (xw_Astray : excWith K C_Astray f32 = true)
    (xa_Astray : (PySem.W.clsIn K C_Astray).isSome = true)
    (xb_Astray : PySem.W.findIn K (.ref C_Astray) "__getattribute__" = some (some (.builtin "BaseException.__getattribute__")))
    (xc_Astray : PySem.W.findIn K (.ref C_Astray) "__getattr__" = some none)
    (xd_Astray : PySem.W.findIn K (.ref C_Astray) "__class__" = some (some (.builtin "object.__class__")))
    (xf_Astray : PySem.W.specialIn K (.builtin "object.__class__") "__get__" = some (some (.builtin "getset_descriptor.__get__")))
    (xg_Astray : PySem.W.takesIn K (.builtin "object.__class__") = some true)
    (xh_Astray : PySem.W.mroIn K C_Astray (.type "object") = some true)
    (xi_Astray : PySem.W.mroIn K C_Astray (.type "BaseException") = some true)
    (xj_Astray : PySem.W.findIn K (.ref C_Astray) "__setattr__" = some (some (.builtin "object.__setattr__")))
    (xl_Astray : ((PySem.W.clsIn K C_Astray).any fun cd => onlyExc cd.mro) = true)
    (xm_Astray : PySem.W.findIn K (.ref C_Astray) "row" = some none)
    (xn_Astray : ((PySem.W.clsIn K C_Astray).any (·.hasDict)) = true)
    (xp_Astray : PySem.W.specialIn K (.ref C_FrameError) "__getattribute__" = some (some (.builtin "type.__getattribute__")))
    (xq_Astray : PySem.W.readsIn K C_FrameError (.type "type") = true)
    (xr_Astray : (match PySem.W.findCls K (.ref C_FrameError) (.type "type") "__init__" with | some (.val v) => v == .builtin "ValueError.__init__" | _ => false) = true)
    (a33 : PySem.W.nsIn K mainGlobals "bounded" = some (some (.ref f33)))
    (l33 : K.lookup f33 = some ⟨oc33, od33, .func (PySem.W.fnOf "bounded" "bounded" (defArgs s_bounded) (defBody s_bounded) (defScope s_bounded) .none kV33 dc33 pm33 an33 cd33 ct33), sl33⟩)
    (c33 : PySem.W.codeIn K cd33 "bounded" = true) (k33 : PySem.W.keepIn K (.ref f33) = true)
    (a34 : PySem.W.nsIn K mainGlobals "with_box" = some (some (.ref f34)))
    (l34 : K.lookup f34 = some ⟨oc34, od34, .func (PySem.W.fnOf "with_box" "with_box" (defArgs s_with_box) (defBody s_with_box) (defScope s_with_box) .none kV34 dc34 pm34 an34 cd34 ct34), sl34⟩)
    (c34 : PySem.W.codeIn K cd34 "with_box" = true) (k34 : PySem.W.keepIn K (.ref f34) = true)
    (a35 : PySem.W.nsIn K mainGlobals "sets_of" = some (some (.ref f35)))
    (l35 : K.lookup f35 = some ⟨oc35, od35, .func (PySem.W.fnOf "sets_of" "sets_of" (defArgs s_sets_of) (defBody s_sets_of) (defScope s_sets_of) .none kV35 dc35 pm35 an35 cd35 ct35), sl35⟩)
    (c35 : PySem.W.codeIn K cd35 "sets_of" = true) (k35 : PySem.W.keepIn K (.ref f35) = true)
    (a36 : PySem.W.nsIn K mainGlobals "lowest_place" = some (some (.ref f36)))
    (l36 : K.lookup f36 = some ⟨oc36, od36, .func (PySem.W.fnOf "lowest_place" "lowest_place" (defArgs s_lowest_place) (defBody s_lowest_place) (defScope s_lowest_place) .none kV36 dc36 pm36 an36 cd36 ct36), sl36⟩)
    (c36 : PySem.W.codeIn K cd36 "lowest_place" = true) (k36 : PySem.W.keepIn K (.ref f36) = true)
    (a37 : PySem.W.nsIn K mainGlobals "looked_up" = some (some (.ref f37)))
    (l37 : K.lookup f37 = some ⟨oc37, od37, .func (PySem.W.fnOf "looked_up" "looked_up" (defArgs s_looked_up) (defBody s_looked_up) (defScope s_looked_up) .none kV37 dc37 pm37 an37 cd37 ct37), sl37⟩)
    (c37 : PySem.W.codeIn K cd37 "looked_up" = true) (k37 : PySem.W.keepIn K (.ref f37) = true)
    (a38 : PySem.W.nsIn K mainGlobals "newest_caller" = some (some (.ref f38)))
    (l38 : K.lookup f38 = some ⟨oc38, od38, .func (PySem.W.fnOf "newest_caller" "newest_caller" (defArgs s_newest_caller) (defBody s_newest_caller) (defScope s_newest_caller) .none kV38 dc38 pm38 an38 cd38 ct38), sl38⟩)
    (c38 : PySem.W.codeIn K cd38 "newest_caller" = true) (k38 : PySem.W.keepIn K (.ref f38) = true)
    (a39 : PySem.W.nsIn K mainGlobals "callers" = some (some (.ref f39)))
    (l39 : K.lookup f39 = some ⟨oc39, od39, .func (PySem.W.fnOf "callers" "callers" (defArgs s_callers) (defBody s_callers) (defScope s_callers) .none kV39 dc39 pm39 an39 cd39 ct39), sl39⟩)
    (c39 : PySem.W.codeIn K cd39 "callers" = true) (k39 : PySem.W.keepIn K (.ref f39) = true)
    (a40 : PySem.W.nsIn K mainGlobals "kept_of" = some (some (.ref f40)))
    (l40 : K.lookup f40 = some ⟨oc40, od40, .func (PySem.W.fnOf "kept_of" "kept_of" (defArgs s_kept_of) (defBody s_kept_of) (defScope s_kept_of) .none kV40 dc40 pm40 an40 cd40 ct40), sl40⟩)
    (c40 : PySem.W.codeIn K cd40 "kept_of" = true) (k40 : PySem.W.keepIn K (.ref f40) = true)
    (a41 : PySem.W.nsIn K mainGlobals "_law_cell_at" = some (some (.ref f41)))
    (l41 : K.lookup f41 = some ⟨oc41, od41, .func (PySem.W.fnOf "_law_cell_at" "_law_cell_at" (defArgs s_law_cell_at) (defBody s_law_cell_at) (defScope s_law_cell_at) .none kV41 dc41 pm41 an41 cd41 ct41), sl41⟩)
    (c41 : PySem.W.codeIn K cd41 "_law_cell_at" = true) (k41 : PySem.W.keepIn K (.ref f41) = true)
    (a42 : PySem.W.nsIn K mainGlobals "_law_entry" = some (some (.ref f42)))
    (l42 : K.lookup f42 = some ⟨oc42, od42, .func (PySem.W.fnOf "_law_entry" "_law_entry" (defArgs s_law_entry) (defBody s_law_entry) (defScope s_law_entry) .none kV42 dc42 pm42 an42 cd42 ct42), sl42⟩)
    (c42 : PySem.W.codeIn K cd42 "_law_entry" = true) (k42 : PySem.W.keepIn K (.ref f42) = true)
    (a43 : PySem.W.nsIn K mainGlobals "_law_told" = some (some (.ref f43)))
    (l43 : K.lookup f43 = some ⟨oc43, od43, .func (PySem.W.fnOf "_law_told" "_law_told" (defArgs s_law_told) (defBody s_law_told) (defScope s_law_told) .none kV43 dc43 pm43 an43 cd43 ct43), sl43⟩)
    (c43 : PySem.W.codeIn K cd43 "_law_told" = true) (k43 : PySem.W.keepIn K (.ref f43) = true)
    (a44 : PySem.W.nsIn K mainGlobals "_law_landing" = some (some (.ref f44)))
    (l44 : K.lookup f44 = some ⟨oc44, od44, .func (PySem.W.fnOf "_law_landing" "_law_landing" (defArgs s_law_landing) (defBody s_law_landing) (defScope s_law_landing) .none kV44 dc44 pm44 an44 cd44 ct44), sl44⟩)
    (c44 : PySem.W.codeIn K cd44 "_law_landing" = true) (k44 : PySem.W.keepIn K (.ref f44) = true)
    (a45 : PySem.W.nsIn K mainGlobals "_law_all" = some (some (.ref f45)))
    (l45 : K.lookup f45 = some ⟨oc45, od45, .func (PySem.W.fnOf "_law_all" "_law_all" (defArgs s_law_all) (defBody s_law_all) (defScope s_law_all) .none kV45 dc45 pm45 an45 cd45 ct45), sl45⟩)
    (c45 : PySem.W.codeIn K cd45 "_law_all" = true) (k45 : PySem.W.keepIn K (.ref f45) = true)
    (a46 : PySem.W.nsIn K mainGlobals "_law_stays" = some (some (.ref f46)))
    (l46 : K.lookup f46 = some ⟨oc46, od46, .func (PySem.W.fnOf "_law_stays" "_law_stays" (defArgs s_law_stays) (defBody s_law_stays) (defScope s_law_stays) .none kV46 dc46 pm46 an46 cd46 ct46), sl46⟩)
    (c46 : PySem.W.codeIn K cd46 "_law_stays" = true) (k46 : PySem.W.keepIn K (.ref f46) = true)
    (a47 : PySem.W.nsIn K mainGlobals "_law_dropped" = some (some (.ref f47)))
    (l47 : K.lookup f47 = some ⟨oc47, od47, .func (PySem.W.fnOf "_law_dropped" "_law_dropped" (defArgs s_law_dropped) (defBody s_law_dropped) (defScope s_law_dropped) .none kV47 dc47 pm47 an47 cd47 ct47), sl47⟩)
    (c47 : PySem.W.codeIn K cd47 "_law_dropped" = true) (k47 : PySem.W.keepIn K (.ref f47) = true)
    (a48 : PySem.W.nsIn K mainGlobals "law" = some (some (.ref f48)))
    (l48 : K.lookup f48 = some ⟨oc48, od48, .func (PySem.W.fnOf "law" "law" (defArgs s_law) (defBody s_law) (defScope s_law) .none kV48 dc48 pm48 an48 cd48 ct48), sl48⟩)
    (c48 : PySem.W.codeIn K cd48 "law" = true) (k48 : PySem.W.keepIn K (.ref f48) = true) :
    ∃ (a : Adr) (fd : FuncData), Txt K mg a ∧ Fun K "law" "law" s_law fa fd ∧ ∀ (s : Shared) (v : Value), BindsTo s fd ⟨[v], []⟩ [("_law_script", v)] := by
  have e := hfa.symm.trans (PySem.W.mg_of X G a48)
  cases e
  refine ⟨⟨0, C_Set, 0, 0, 0, 0, 0, C_Grow, 0, 0, 0, 0, 0, C_Call, C_Back, C_Drop, 0, 0, C_FrameError, C_NoRow, 0, 0, C_Table, 0, C_Machine, C_Astray, 0, 0, 0, 0, 0, 0⟩, _, ?_, fun_mk (st := s_law) l48 c48 k48, fun s v => .of_eq rfl⟩
  exact {
    z_dict := PySem.W.mg_none_of X G z_dict
    z_enumerate := PySem.W.mg_none_of X G z_enumerate
    z_int := PySem.W.mg_none_of X G z_int
    z_isinstance := PySem.W.mg_none_of X G z_isinstance
    z_len := PySem.W.mg_none_of X G z_len
    z_list := PySem.W.mg_none_of X G z_list
    z_max := PySem.W.mg_none_of X G z_max
    z_range := PySem.W.mg_none_of X G z_range
    z_reversed := PySem.W.mg_none_of X G z_reversed
    g_FIRST_CELL_BIT := ⟨_, PySem.W.mg_of X G g_FIRST_CELL_BIT⟩
    g_LINK := ⟨_, PySem.W.mg_of X G g_LINK⟩
    g_MOST_CALLERS := ⟨_, PySem.W.mg_of X G g_MOST_CALLERS⟩
    g_TOP_BOX := ⟨_, PySem.W.mg_of X G g_TOP_BOX⟩
    g_TOP_CELLS := ⟨_, PySem.W.mg_of X G g_TOP_CELLS⟩
    g_TOP_TARGET := ⟨_, PySem.W.mg_of X G g_TOP_TARGET⟩
    g_TOP_VALUE := ⟨_, PySem.W.mg_of X G g_TOP_VALUE⟩
    c_Astray := PySem.W.mg_of X G c_Astray
    c_Back := PySem.W.mg_of X G c_Back
    c_Call := PySem.W.mg_of X G c_Call
    c_Drop := PySem.W.mg_of X G c_Drop
    c_FrameError := PySem.W.mg_of X G c_FrameError
    c_Grow := PySem.W.mg_of X G c_Grow
    c_Machine := PySem.W.mg_of X G c_Machine
    c_NoRow := PySem.W.mg_of X G c_NoRow
    c_Set := PySem.W.mg_of X G c_Set
    c_Table := PySem.W.mg_of X G c_Table
    cl_Table := ⟨pg_Table, hd_Table, po_Table, sa_Table⟩
    n_Table_entries := n_Table_entries
    n_Table_landings := n_Table_landings
    i_Table := ⟨_, _, funD_mk2 (st := s_Table_init) l1 d1 c1 k1, ⟨mk_Table, a1, i1, kc_Table⟩, bindsF (funD_mk2 (st := s_Table_init) l1 d1 c1 k1) (ps := ["self", "entries", "landings"]) fun _ _ _ _ _ _ _ us hl => match us, hl with | [_, _, _], _ => ⟨_, rfl, rfl⟩, (funD_mk2 (st := s_Table_init) l1 d1 c1 k1).bindsD (ps := ["self", "entries", "landings"]) fun _ _ _ _ _ _ _ us hl => match us, hl with | [_, _], _ => ⟨_, rfl, rfl⟩⟩
    cl_Machine := ⟨pg_Machine, hd_Machine, po_Machine, sa_Machine⟩
    n_Machine_code := n_Machine_code
    n_Machine_table := n_Machine_table
    n_Machine_home := n_Machine_home
    n_Machine_coming := n_Machine_coming
    n_Machine_held := n_Machine_held
    n_Machine_cells := n_Machine_cells
    n_Machine_calls := n_Machine_calls
    n_Machine_dropped := n_Machine_dropped
    n_Machine_state := n_Machine_state
    i_Machine := ⟨_, _, _, funV_mk (st := s_Machine_init) l2 d2 c2 k2, ⟨mk_Machine, a2, i2, kc_Machine⟩, (funV_mk (st := s_Machine_init) l2 d2 c2 k2).binds (ps := ["self", "code", "table", "boxes", "start"]) fun _ _ _ _ _ _ _ us hl => match us, hl with | [_, _, _, _, _], _ => ⟨_, rfl, rfl⟩, (funV_mk (st := s_Machine_init) l2 d2 c2 k2).bindsD (ps := ["self", "code", "table", "boxes", "start"]) fun _ _ _ _ _ _ _ us hl => match us, hl with | [_, _, _, _], _ => ⟨_, rfl, rfl⟩, ⟨_, rfl⟩⟩
    m_Machine_at := ⟨_, _, fun_mk (st := s_Machine_at) l3 c3 k3, ⟨a3, i3, k3⟩, (fun_mk (st := s_Machine_at) l3 c3 k3).binds (ps := ["self"]) fun _ _ _ _ _ _ us hl => match us, hl with | [_], _ => rfl⟩
    m_Machine_book := ⟨_, _, fun_mk (st := s_Machine_book) l4 c4 k4, ⟨a4, i4, k4⟩, (fun_mk (st := s_Machine_book) l4 c4 k4).binds (ps := ["self"]) fun _ _ _ _ _ _ us hl => match us, hl with | [_], _ => rfl⟩
    m_Machine_boxes := ⟨_, _, fun_mk (st := s_Machine_boxes) l5 c5 k5, ⟨a5, i5, k5⟩, (fun_mk (st := s_Machine_boxes) l5 c5 k5).binds (ps := ["self"]) fun _ _ _ _ _ _ us hl => match us, hl with | [_], _ => rfl⟩
    m_Machine_do := ⟨_, _, fun_mk (st := s_Machine_do) l6 c6 k6, ⟨a6, i6, k6⟩, (fun_mk (st := s_Machine_do) l6 c6 k6).binds (ps := ["self", "row"]) fun _ _ _ _ _ _ us hl => match us, hl with | [_, _], _ => rfl⟩
    m_Machine_drop := ⟨_, _, fun_mk (st := s_Machine_drop) l7 c7 k7, ⟨a7, i7, k7⟩, (fun_mk (st := s_Machine_drop) l7 c7 k7).binds (ps := ["self", "value"]) fun _ _ _ _ _ _ us hl => match us, hl with | [_, _], _ => rfl⟩
    m_Machine_fault := ⟨_, _, fun_mk (st := s_Machine_fault) l8 c8 k8, ⟨a8, i8, k8⟩, (fun_mk (st := s_Machine_fault) l8 c8 k8).binds (ps := ["self"]) fun _ _ _ _ _ _ us hl => match us, hl with | [_], _ => rfl⟩
    m_Machine_forget := ⟨_, _, fun_mk (st := s_Machine_forget) l9 c9 k9, ⟨a9, i9, k9⟩, (fun_mk (st := s_Machine_forget) l9 c9 k9).binds (ps := ["self", "many"]) fun _ _ _ _ _ _ us hl => match us, hl with | [_, _], _ => rfl⟩
    m_Machine_go_on := ⟨_, _, fun_mk (st := s_Machine_go_on) l10 c10 k10, ⟨a10, i10, k10⟩, (fun_mk (st := s_Machine_go_on) l10 c10 k10).binds (ps := ["self", "coming", "boxes", "pile"]) fun _ _ _ _ _ _ us hl => match us, hl with | [_, _, _, _], _ => rfl⟩
    m_Machine_land := ⟨_, _, fun_mk (st := s_Machine_land) l11 c11 k11, ⟨a11, i11, k11⟩, (fun_mk (st := s_Machine_land) l11 c11 k11).binds (ps := ["self", "value", "caller", "looked_at"]) fun _ _ _ _ _ _ us hl => match us, hl with | [_, _, _, _], _ => rfl⟩
    m_Machine_pile := ⟨_, _, fun_mk (st := s_Machine_pile) l12 c12 k12, ⟨a12, i12, k12⟩, (fun_mk (st := s_Machine_pile) l12 c12 k12).binds (ps := ["self"]) fun _ _ _ _ _ _ us hl => match us, hl with | [_], _ => rfl⟩
    m_Machine_step := ⟨_, _, fun_mk (st := s_Machine_step) l13 c13 k13, ⟨a13, i13, k13⟩, (fun_mk (st := s_Machine_step) l13 c13 k13).binds (ps := ["self"]) fun _ _ _ _ _ _ us hl => match us, hl with | [_], _ => rfl⟩
    m_Machine_word := ⟨_, _, fun_mk (st := s_Machine_word) l14 c14 k14, ⟨a14, i14, k14⟩, (fun_mk (st := s_Machine_word) l14 c14 k14).binds (ps := ["self"]) fun _ _ _ _ _ _ us hl => match us, hl with | [_], _ => rfl⟩
    m_Machine_word_ahead_of := ⟨_, _, fun_mk (st := s_Machine_word_ahead_of) l15 c15 k15, ⟨a15, i15, k15⟩, (fun_mk (st := s_Machine_word_ahead_of) l15 c15 k15).binds (ps := ["self", "coming"]) fun _ _ _ _ _ _ us hl => match us, hl with | [_, _], _ => rfl⟩
    cl_Grow := ⟨pg_Grow, hd_Grow, po_Grow, sa_Grow⟩
    n_Grow_many := n_Grow_many
    i_Grow := ⟨_, _, fun_mk (st := s_Grow_init) l16 c16 k16, ⟨mk_Grow, a16, i16, kc_Grow⟩, (fun_mk (st := s_Grow_init) l16 c16 k16).binds (ps := ["self", "many"]) fun _ _ _ _ _ _ us hl => match us, hl with | [_, _], _ => rfl⟩
    m_Grow_height := ⟨_, _, fun_mk (st := s_Grow_height) l17 c17 k17, ⟨a17, i17, k17⟩, (fun_mk (st := s_Grow_height) l17 c17 k17).binds (ps := ["self", "high"]) fun _ _ _ _ _ _ us hl => match us, hl with | [_, _], _ => rfl⟩
    m_Grow_runs := ⟨_, _, fun_mk (st := s_Grow_runs) l18 c18 k18, ⟨a18, i18, k18⟩, (fun_mk (st := s_Grow_runs) l18 c18 k18).binds (ps := ["self", "at", "boxes", "pile"]) fun _ _ _ _ _ _ us hl => match us, hl with | [_, _, _, _], _ => rfl⟩
    m_Grow_told := ⟨_, _, fun_mk (st := s_Grow_told) l19 c19 k19, ⟨a19, i19, k19⟩, (fun_mk (st := s_Grow_told) l19 c19 k19).binds (ps := ["self"]) fun _ _ _ _ _ _ us hl => match us, hl with | [_], _ => rfl⟩
    cl_Set := ⟨pg_Set, hd_Set, po_Set, sa_Set⟩
    n_Set_box := n_Set_box
    n_Set_number := n_Set_number
    i_Set := ⟨_, _, fun_mk (st := s_Set_init) l20 c20 k20, ⟨mk_Set, a20, i20, kc_Set⟩, (fun_mk (st := s_Set_init) l20 c20 k20).binds (ps := ["self", "box", "number"]) fun _ _ _ _ _ _ us hl => match us, hl with | [_, _, _], _ => rfl⟩
    m_Set_height := ⟨_, _, fun_mk (st := s_Row_height) l21 c21 k21, ⟨a21, i21, k21⟩, (fun_mk (st := s_Row_height) l21 c21 k21).binds (ps := ["self", "high"]) fun _ _ _ _ _ _ us hl => match us, hl with | [_, _], _ => rfl⟩
    m_Set_runs := ⟨_, _, fun_mk (st := s_Set_runs) l22 c22 k22, ⟨a22, i22, k22⟩, (fun_mk (st := s_Set_runs) l22 c22 k22).binds (ps := ["self", "at", "boxes", "pile"]) fun _ _ _ _ _ _ us hl => match us, hl with | [_, _, _, _], _ => rfl⟩
    m_Set_told := ⟨_, _, fun_mk (st := s_Set_told) l23 c23 k23, ⟨a23, i23, k23⟩, (fun_mk (st := s_Set_told) l23 c23 k23).binds (ps := ["self"]) fun _ _ _ _ _ _ us hl => match us, hl with | [_], _ => rfl⟩
    cl_Call := ⟨pg_Call, hd_Call, po_Call, sa_Call⟩
    n_Call_target := n_Call_target
    i_Call := ⟨_, _, fun_mk (st := s_Call_init) l24 c24 k24, ⟨mk_Call, a24, i24, kc_Call⟩, (fun_mk (st := s_Call_init) l24 c24 k24).binds (ps := ["self", "target"]) fun _ _ _ _ _ _ us hl => match us, hl with | [_, _], _ => rfl⟩
    m_Call_height := ⟨_, _, fun_mk (st := s_Row_height) l25 c25 k25, ⟨a25, i25, k25⟩, (fun_mk (st := s_Row_height) l25 c25 k25).binds (ps := ["self", "high"]) fun _ _ _ _ _ _ us hl => match us, hl with | [_, _], _ => rfl⟩
    m_Call_runs := ⟨_, _, fun_mk (st := s_Call_runs) l26 c26 k26, ⟨a26, i26, k26⟩, (fun_mk (st := s_Call_runs) l26 c26 k26).binds (ps := ["self", "at", "boxes", "pile"]) fun _ _ _ _ _ _ us hl => match us, hl with | [_, _, _, _], _ => rfl⟩
    m_Call_told := ⟨_, _, fun_mk (st := s_Call_told) l27 c27 k27, ⟨a27, i27, k27⟩, (fun_mk (st := s_Call_told) l27 c27 k27).binds (ps := ["self"]) fun _ _ _ _ _ _ us hl => match us, hl with | [_], _ => rfl⟩
    cl_Drop := ⟨pg_Drop, hd_Drop, po_Drop, sa_Drop⟩
    n_Drop_box := n_Drop_box
    i_Drop := ⟨_, _, fun_mk (st := s_Drop_init) l28 c28 k28, ⟨mk_Drop, a28, i28, kc_Drop⟩, (fun_mk (st := s_Drop_init) l28 c28 k28).binds (ps := ["self", "box"]) fun _ _ _ _ _ _ us hl => match us, hl with | [_, _], _ => rfl⟩
    m_Drop_height := ⟨_, _, fun_mk (st := s_Row_height) l29 c29 k29, ⟨a29, i29, k29⟩, (fun_mk (st := s_Row_height) l29 c29 k29).binds (ps := ["self", "high"]) fun _ _ _ _ _ _ us hl => match us, hl with | [_, _], _ => rfl⟩
    m_Drop_runs := ⟨_, _, fun_mk (st := s_Drop_runs) l30 c30 k30, ⟨a30, i30, k30⟩, (fun_mk (st := s_Drop_runs) l30 c30 k30).binds (ps := ["self", "at", "boxes", "pile"]) fun _ _ _ _ _ _ us hl => match us, hl with | [_, _, _, _], _ => rfl⟩
    m_Drop_told := ⟨_, _, fun_mk (st := s_Drop_told) l31 c31 k31, ⟨a31, i31, k31⟩, (fun_mk (st := s_Drop_told) l31 c31 k31).binds (ps := ["self"]) fun _ _ _ _ _ _ us hl => match us, hl with | [_], _ => rfl⟩
    ty_Set := ⟨ha_Set, hm_Set⟩
    is_Set_Drop := is_Set_Drop
    is_Set_Call := is_Set_Call
    is_Set_Back := is_Set_Back
    ty_Grow := ⟨ha_Grow, hm_Grow⟩
    is_Grow_Drop := is_Grow_Drop
    is_Grow_Call := is_Grow_Call
    is_Grow_Back := is_Grow_Back
    ty_Call := ⟨ha_Call, hm_Call⟩
    is_Call_Drop := is_Call_Drop
    is_Call_Call := is_Call_Call
    is_Call_Back := is_Call_Back
    ty_Drop := ⟨ha_Drop, hm_Drop⟩
    is_Drop_Drop := is_Drop_Drop
    is_Drop_Call := is_Drop_Call
    is_Drop_Back := is_Drop_Back
    ob1 := ob1
    ob2 := ob2
    xi_Astray := ⟨_, _, fun_mk (st := s_Astray_init) l32 c32 k32, ⟨PySem.W.mg_of X G c_Astray, xw_Astray⟩, (fun_mk (st := s_Astray_init) l32 c32 k32).binds (ps := ["self", "row"]) fun _ _ _ _ _ _ us hl => match us, hl with | [_, _], _ => rfl⟩
    xo_Astray := ⟨_, PySem.W.mg_of X G c_Astray, xw_Astray⟩
    xk_Astray := ⟨xa_Astray, xb_Astray, xc_Astray, xd_Astray, xf_Astray, xg_Astray, xh_Astray, xi_Astray⟩
    xs_Astray := ⟨xj_Astray, xl_Astray, xm_Astray, xn_Astray⟩
    xn_Astray := xm_Astray
    xh_Astray := xn_Astray
    xb_FrameError := ⟨PySem.W.mg_of X G c_FrameError, xp_Astray, xq_Astray, xr_Astray⟩
    fn_bounded := ⟨_, _, fun_mk (st := s_bounded) l33 c33 k33, PySem.W.mg_of X G a33, (fun_mk (st := s_bounded) l33 c33 k33).binds (ps := ["number", "top"]) fun _ _ _ _ _ _ us hl => match us, hl with | [_, _], _ => rfl⟩
    fn_with_box := ⟨_, _, fun_mk (st := s_with_box) l34 c34 k34, PySem.W.mg_of X G a34, (fun_mk (st := s_with_box) l34 c34 k34).binds (ps := ["boxes", "box", "value"]) fun _ _ _ _ _ _ us hl => match us, hl with | [_, _, _], _ => rfl⟩
    fn_sets_of := ⟨_, _, fun_mk (st := s_sets_of) l35 c35 k35, PySem.W.mg_of X G a35, (fun_mk (st := s_sets_of) l35 c35 k35).binds (ps := ["entry"]) fun _ _ _ _ _ _ us hl => match us, hl with | [_], _ => rfl⟩
    fn_lowest_place := ⟨_, _, fun_mk (st := s_lowest_place) l36 c36 k36, PySem.W.mg_of X G a36, (fun_mk (st := s_lowest_place) l36 c36 k36).binds (ps := ["places"]) fun _ _ _ _ _ _ us hl => match us, hl with | [_], _ => rfl⟩
    fn_looked_up := ⟨_, _, fun_mk (st := s_looked_up) l37 c37 k37, PySem.W.mg_of X G a37, (fun_mk (st := s_looked_up) l37 c37 k37).binds (ps := ["places", "known", "piece"]) fun _ _ _ _ _ _ us hl => match us, hl with | [_, _, _], _ => rfl⟩
    fn_newest_caller := ⟨_, _, fun_mk (st := s_newest_caller) l38 c38 k38, PySem.W.mg_of X G a38, (fun_mk (st := s_newest_caller) l38 c38 k38).binds (ps := ["entries", "at", "known", "pile"]) fun _ _ _ _ _ _ us hl => match us, hl with | [_, _, _, _], _ => rfl⟩
    fn_callers := ⟨_, _, fun_mk (st := s_callers) l39 c39 k39, PySem.W.mg_of X G a39, (fun_mk (st := s_callers) l39 c39 k39).binds (ps := ["table", "row", "boxes", "pile"]) fun _ _ _ _ _ _ us hl => match us, hl with | [_, _, _, _], _ => rfl⟩
    fn_kept_of := ⟨_, _, fun_mk (st := s_kept_of) l40 c40 k40, PySem.W.mg_of X G a40, (fun_mk (st := s_kept_of) l40 c40 k40).binds (ps := ["boxes"]) fun _ _ _ _ _ _ us hl => match us, hl with | [_], _ => rfl⟩
    fn_law_cell_at := ⟨_, _, fun_mk (st := s_law_cell_at) l41 c41 k41, PySem.W.mg_of X G a41, (fun_mk (st := s_law_cell_at) l41 c41 k41).binds (ps := ["_law_script", "_law_k"]) fun _ _ _ _ _ _ us hl => match us, hl with | [_, _], _ => rfl⟩
    fn_law_entry := ⟨_, _, fun_mk (st := s_law_entry) l42 c42 k42, PySem.W.mg_of X G a42, (fun_mk (st := s_law_entry) l42 c42 k42).binds (ps := ["_law_cell"]) fun _ _ _ _ _ _ us hl => match us, hl with | [_], _ => rfl⟩
    fn_law_told := ⟨_, _, fun_mk (st := s_law_told) l43 c43 k43, PySem.W.mg_of X G a43, (fun_mk (st := s_law_told) l43 c43 k43).binds (ps := ["_law_table", "_law_machine"]) fun _ _ _ _ _ _ us hl => match us, hl with | [_, _], _ => rfl⟩
    fn_law_landing := ⟨_, _, fun_mk (st := s_law_landing) l44 c44 k44, PySem.W.mg_of X G a44, (fun_mk (st := s_law_landing) l44 c44 k44).binds (ps := ["_law_found", "_law_landings", "_law_home"]) fun _ _ _ _ _ _ us hl => match us, hl with | [_, _, _], _ => rfl⟩
    fn_law_all := ⟨_, _, fun_mk (st := s_law_all) l45 c45 k45, PySem.W.mg_of X G a45, (fun_mk (st := s_law_all) l45 c45 k45).binds (ps := ["_law_machine"]) fun _ _ _ _ _ _ us hl => match us, hl with | [_], _ => rfl⟩
    fn_law_stays := ⟨_, _, fun_mk (st := s_law_stays) l46 c46 k46, PySem.W.mg_of X G a46, (fun_mk (st := s_law_stays) l46 c46 k46).binds (ps := ["_law_machine", "_law_then", "_law_word", "_law_lost"]) fun _ _ _ _ _ _ us hl => match us, hl with | [_, _, _, _], _ => rfl⟩
    fn_law_dropped := ⟨_, _, fun_mk (st := s_law_dropped) l47 c47 k47, PySem.W.mg_of X G a47, (fun_mk (st := s_law_dropped) l47 c47 k47).binds (ps := ["_law_machine", "_law_table", "_law_box", "_law_home"]) fun _ _ _ _ _ _ us hl => match us, hl with | [_, _, _, _], _ => rfl⟩
    fn_law := ⟨_, _, fun_mk (st := s_law) l48 c48 k48, PySem.W.mg_of X G a48, (fun_mk (st := s_law) l48 c48 k48).binds (ps := ["_law_script"]) fun _ _ _ _ _ _ us hl => match us, hl with | [_], _ => rfl⟩ }
theorem walk {l : PySem.W.OpenLaw} {q : Program} {loose : List Str} {XP : (Str → Option Value) → Heap → Prop} {YP : World → Heap → Prop} {d : DefRec} {K : Params → PySem.W.Frag} (hn : l.most = some 63) (hdf : d.params.defaults = [])
    (hY : ∀ (w : World) (h : Heap), YP w h → (K w.params).In h)
    (F : ∀ (w : World) (mg : Str → Option Value) (fa : Addr) (h : Heap), (K w.params).In h → h.Ns mainGlobals mg → mg d.name = some (.ref fa) →
      ∃ fd : FuncData, (∀ (s : Shared) (u : Value), BindsTo s fd ⟨[u], []⟩ [("_law_script", u)]) ∧ ∀ base : Heap, (K w.params).In base → base.Ns mainGlobals mg → FnOk l.prog w (K w.params) mg base CX0 9 fa fd ["_law_script"] (spLaw (K w.params))) :
    PySem.W.WalkO q loose XP YP l.row.toRowW d [] (fun f vs => PySem.call f vs) :=
  L2.walk_of (n := 63) (k := 9) (x := "_law_script") (CX := fun _ => CX0) (sp := fun w => spLaw (K w.params)) hn (by decide) hdf ⟨rfl, by decide, by decide⟩ hY F (fun _ _ a ns hl _ hS => ⟨a, ns, rfl, hS, hl, fun _ => rfl⟩) fun _ _ _ _ _ z => z
end FB
def PySem.W.Fast.tw14638512026905913714 : Nat := 0
def PySem.W.Fast.tw16604590198655622490 : Nat := 0
def PySem.W.Fast.tw17723836175541378599 : Nat := 0
def PySem.W.Fast.tw12961743956268399483 : Nat := 0
def PySem.W.Fast.tw727404379509283636 : Nat := 0
def PySem.W.Fast.tw2659290795897838334 : Nat := 0
def PySem.W.Fast.tw7523562470852753625 : Nat := 0
def PySem.W.Fast.tw8001982075863483728 : Nat := 0
def PySem.W.Fast.tw5642504477131876097 : Nat := 0
def PySem.W.Fast.tw8237257259921157186 : Nat := 0
def PySem.W.Fast.tw10666251167382731342 : Nat := 0
def PySem.W.Fast.tw12446221266638479591 : Nat := 0
def PySem.W.Fast.tw15552276280528257413 : Nat := 0
def PySem.W.Fast.tw7208912056850376366 : Nat := 0
def PySem.W.Fast.tw15198436067508114044 : Nat := 0
def PySem.W.Fast.tw11000217184276169289 : Nat := 0
def PySem.W.Fast.tw2446964628700910022 : Nat := 0
def PySem.W.Fast.tw11583512668871141494 : Nat := 0
def PySem.W.Fast.tw16787032846289817250 : Nat := 0
def PySem.W.Fast.tw6359190939988317861 : Nat := 0
def PySem.W.Fast.tw4836224371863728148 : Nat := 0
def PySem.W.Fast.tw4515909296573715210 : Nat := 0
def PySem.W.Fast.tw5045532826209127103 : Nat := 0
def PySem.W.Fast.tw4100635648614426334 : Nat := 0
def PySem.W.Fast.tw1742694265344095847 : Nat := 0
def PySem.W.Fast.tw1336601882939655119 : Nat := 0
def PySem.W.Fast.tw1725006490392278481 : Nat := 0
def PySem.W.Fast.tw14548619653175934127 : Nat := 0
def PySem.W.Fast.tw8390483767022156026 : Nat := 0
def PySem.W.Fast.tw4510499088521068737 : Nat := 0
def PySem.W.Fast.tw16538805907048125087 : Nat := 0
def PySem.W.Fast.tw9882831479618378560 : Nat := 0
def PySem.W.Fast.tw14868603666930136156 : Nat := 0
def PySem.W.Fast.tw664546465465785383 : Nat := 0
def PySem.W.Fast.tw9468351140120907477 : Nat := 0
def PySem.W.Fast.tw2622261957287381954 : Nat := 0
def PySem.W.Fast.tw14980281549526076660 : Nat := 0
def PySem.W.Fast.tw5047553988822756319 : Nat := 0
def PySem.W.Fast.tw10605957548193975074 : Nat := 0
def PySem.W.Fast.tw12108875447326477991 : Nat := 0
def PySem.W.Fast.tw12590169291481898460 : Nat := 0
def PySem.W.Fast.tw17605395539026961360 : Nat := 0
def PySem.W.Fast.tw8110204227316268096 : Nat := 0
def PySem.W.Fast.tw17898437841959022975 : Nat := 0
def PySem.W.Fast.tw10412036164448706093 : Nat := 0
def PySem.W.Fast.tw3461892295067344330 : Nat := 0
def PySem.W.Fast.tw12194662764718427725 : Nat := 0
def PySem.W.Fast.tw5214608066918948133 : Nat := 0
def PySem.W.Fast.tw17604339107194928802 : Nat := 0
def PySem.W.Fast.tw10808220106032494122 : Nat := 0
def PySem.W.Fast.tw8973311642056045562 : Nat := 0
def PySem.W.Fast.tw1302330588183302766 : Nat := 0
def PySem.W.Fast.tw5012633342635409626 : Nat := 0
def PySem.W.Fast.tw1439009836570574759 : Nat := 0
def PySem.W.Fast.tw534712236476058295 : Nat := 0
def PySem.W.Fast.tw1011091563331320538 : Nat := 0
def PySem.W.Fast.tw4073029759957226271 : Nat := 0
def PySem.W.Fast.tw15913814276917384160 : Nat := 0
def PySem.W.Fast.tw15375709333655001628 : Nat := 0
def PySem.W.Fast.tw7070424480879715599 : Nat := 0
def PySem.W.Fast.tw13192175731971596211 : Nat := 0
def PySem.W.Fast.tw15584327968087236972 : Nat := 0
def PySem.W.Fast.tw13574727897354716111 : Nat := 0
def PySem.W.Fast.tw11610375101794848426 : Nat := 0
def PySem.W.Fast.tw2002995074800839134 : Nat := 0
def PySem.W.Fast.tw13028585399541997713 : Nat := 0
def PySem.W.Fast.tw17230617849050717868 : Nat := 0
def PySem.W.Fast.tw5882107039094079091 : Nat := 0
def PySem.W.Fast.tw16285836841021583096 : Nat := 0
def PySem.W.Fast.tw4961953145109647735 : Nat := 0
def PySem.W.Fast.tw8277764500483964873 : Nat := 0
def PySem.W.Fast.tw1618476843133305347 : Nat := 0
def PySem.W.Fast.tw1446364460861497605 : Nat := 0
def PySem.W.Fast.tw6497972198420206160 : Nat := 0
def PySem.W.Fast.tw17442695971817135281 : Nat := 0
def PySem.W.Fast.tw17975509879301760756 : Nat := 0
def PySem.W.Fast.tw3504792834438094553 : Nat := 0
def PySem.W.Fast.tw5274389936211238893 : Nat := 0
def PySem.W.Fast.tw16651678405982696865 : Nat := 0
def PySem.W.Fast.tw14966492543710064875 : Nat := 0
def PySem.W.Fast.tw5188354841131845794 : Nat := 0
def PySem.W.Fast.tw6884837431971540153 : Nat := 0
def PySem.W.Fast.tw2449351652209814971 : Nat := 0
def PySem.W.Fast.tw6670727022691062288 : Nat := 0
def PySem.W.Fast.tw17746606729802385460 : Nat := 0
def PySem.W.Fast.tw3475419737830093360 : Nat := 0
def PySem.W.Fast.tw12600752600398742027 : Nat := 0
def PySem.W.Fast.tw6436313624486191579 : Nat := 0
def PySem.W.Fast.tw11704607391947143118 : Nat := 0
def PySem.W.Fast.tw12337244382205301000 : Nat := 0
def PySem.W.Fast.tw17466440950688511899 : Nat := 0
def PySem.W.Fast.tw7989602315966837374 : Nat := 0
def PySem.W.Fast.tw7167686840203311633 : Nat := 0
def PySem.W.Fast.tw8253220654667900893 : Nat := 0
def PySem.W.Fast.tw16243423069623273692 : Nat := 0
def PySem.W.Fast.tw5448949746609462876 : Nat := 0
def PySem.W.Fast.tw11999020377872632009 : Nat := 0
def PySem.W.Fast.tw8062750598730059730 : Nat := 0
def PySem.W.Fast.tw12262283522559360013 : Nat := 0
def PySem.W.Fast.tw4115828728668095889 : Nat := 0
def PySem.W.Fast.tw7094695780847401882 : Nat := 0
def PySem.W.Fast.tw16430788504785776345 : Nat := 0
def PySem.W.Fast.tw2838989610147290218 : Nat := 0
def PySem.W.Fast.tw4099686661879630203 : Nat := 0
def PySem.W.Fast.tw11581226892448283567 : Nat := 0
def PySem.W.Fast.tw7795344866989273211 : Nat := 0
def PySem.W.Fast.tw265932262789183869 : Nat := 0
def PySem.W.Fast.tw7544525822238923573 : Nat := 0
def PySem.W.Fast.tw8169278216734037052 : Nat := 0
def PySem.W.Fast.tw10143944918860715188 : Nat := 0
def PySem.W.Fast.tw3044548079336636284 : Nat := 0
def PySem.W.Fast.tw14905995764887558057 : Nat := 0
def PySem.W.Fast.tw16312292096543308182 : Nat := 0
def PySem.W.Fast.tw17129875067205698815 : Nat := 0
def PySem.W.Fast.tw10619554242039167698 : Nat := 0
def PySem.W.Fast.tw16644193023884754051 : Nat := 0
def PySem.W.Fast.tw18140874753171053973 : Nat := 0
def PySem.W.Fast.tw15656352338328810193 : Nat := 0
def PySem.W.Fast.tw16397690910532847216 : Nat := 0
def PySem.W.Fast.tw6608140215027484680 : Nat := 0
def PySem.W.Fast.tw11611270596918433673 : Nat := 0
def PySem.W.Fast.tw7249362630798561399 : Nat := 0
def PySem.W.Fast.tw14806340074142132657 : Nat := 0
def PySem.W.Fast.tw13949065810312802501 : Nat := 0
def PySem.W.Fast.tw13331535264145906808 : Nat := 0
def PySem.W.Fast.tw16598695330005189759 : Nat := 0
def PySem.W.Fast.tw9992809040211634584 : Nat := 0
def PySem.W.Fast.tw14768524969113643750 : Nat := 0
def PySem.W.Fast.tw6009531032442378792 : Nat := 0
def PySem.W.Fast.tw5575284445896371099 : Nat := 0
def PySem.W.Fast.tw10136887137883320813 : Nat := 0
def PySem.W.Fast.tw2183374323584090309 : Nat := 0
def PySem.W.Fast.tw6211897290591586818 : Nat := 0
def PySem.W.Fast.tw15009984242201756322 : Nat := 0
def PySem.W.Fast.tw15730565842889833020 : Nat := 0
def PySem.W.Fast.tw17394664709201472662 : Nat := 0
def PySem.W.Fast.tw13438840239330496493 : Nat := 0
def PySem.W.Fast.tw13163055825687893908 : Nat := 0
def PySem.W.Fast.tw7214018342474561357 : Nat := 0
def PySem.W.Fast.tw189108467281611420 : Nat := 0
def PySem.W.Fast.tw13643380358650170539 : Nat := 0
def PySem.W.Fast.tw14071089600684824967 : Nat := 0
def PySem.W.Fast.tw15427513908606627239 : Nat := 0
def PySem.W.Fast.tw12984242588943868752 : Nat := 0
def PySem.W.Fast.tw15529237295644765262 : Nat := 0
def PySem.W.Fast.tw9457115193195216965 : Nat := 0
def PySem.W.Fast.tw11260111286893873333 : Nat := 0
def PySem.W.Fast.tw6072453582187831206 : Nat := 0
def PySem.W.Fast.tw13258158766268975790 : Nat := 0
def PySem.W.Fast.tw6278401114926630718 : Nat := 0
def PySem.W.Fast.tw6860199526267955216 : Nat := 0
def PySem.W.Fast.tw11474796153191315975 : Nat := 0
def PySem.W.Fast.tw18133066002325265592 : Nat := 0
def PySem.W.Fast.tw11618674689624291748 : Nat := 0
def PySem.W.Fast.tw11457981699349483598 : Nat := 0
def PySem.W.Fast.tw16232647128671629636 : Nat := 0
def PySem.W.Fast.tw16964334502921447004 : Nat := 0
def PySem.W.Fast.tw5481420198932533290 : Nat := 0
def PySem.W.Fast.tw85226811002492519 : Nat := 0
def PySem.W.Fast.tw15521430790994493089 : Nat := 0
def PySem.W.Fast.tw17483705623147173819 : Nat := 0
def PySem.W.Fast.tw5035568614596903175 : Nat := 0
def PySem.W.Fast.tw18419167250809509312 : Nat := 0
def PySem.W.Fast.tw2789395039053039580 : Nat := 0
def PySem.W.Fast.tw8965615005224706791 : Nat := 0
def PySem.W.Fast.tw1264868399334217956 : Nat := 0
def PySem.W.Fast.tw4000731646501794088 : Nat := 0
def PySem.W.Fast.tw5584873374832058072 : Nat := 0
def PySem.W.Fast.tw12006368358457083271 : Nat := 0
def PySem.W.Fast.tw8169428767270688820 : Nat := 0
def PySem.W.Fast.tw14532162568408391461 : Nat := 0
def PySem.W.Fast.tw14007686248561578008 : Nat := 0
def PySem.W.Fast.tw15371278443449333550 : Nat := 0
def PySem.W.Fast.tw1780976935953200550 : Nat := 0
def PySem.W.Fast.tw6644017773569702226 : Nat := 0
def PySem.W.Fast.tw8124682243620146824 : Nat := 0
def PySem.W.Fast.tw15656831165912621118 : Nat := 0
def PySem.W.Fast.tw556669988218894661 : Nat := 0
def PySem.W.Fast.tw16503779214206269950 : Nat := 0
def PySem.W.Fast.tw8257431571329885397 : Nat := 0
def PySem.W.Fast.tw4303382691071949159 : Nat := 0
def PySem.W.Fast.tw17906445818359954813 : Nat := 0
def PySem.W.Fast.tw16145117752990441249 : Nat := 0
def PySem.W.Fast.tw9831137456864944798 : Nat := 0
def PySem.W.Fast.tw1786671656687452482 : Nat := 0
def PySem.W.Fast.tw14238879722287666715 : Nat := 0
def PySem.W.Fast.tw9368625455244120193 : Nat := 0
def PySem.W.Fast.tw5667484634657412438 : Nat := 0
def PySem.W.Fast.tw13275623104195409953 : Nat := 0
def PySem.W.Fast.tw18205919603842718261 : Nat := 0
def PySem.W.Fast.tw7802164247265056859 : Nat := 0
def PySem.W.Fast.tw10832393347203306438 : Nat := 0
def PySem.W.Fast.tw12242641930434609810 : Nat := 0
def PySem.W.Fast.tw5363064452102306508 : Nat := 0
def PySem.W.Fast.tw2043878522392328643 : Nat := 0
def PySem.W.Fast.tw10641800926125919577 : Nat := 0
def PySem.W.Fast.tw5099357329831388446 : Nat := 0
def PySem.W.Fast.tw12938553121667319719 : Nat := 0
def PySem.W.Fast.tw4699836054919585117 : Nat := 0
def PySem.W.Fast.tw8042560014009963961 : Nat := 0
def PySem.W.Fast.tw5479025741572664848 : Nat := 0
def PySem.W.Fast.tw16363700445911813512 : Nat := 0
def PySem.W.Fast.tw11143616753286608630 : Nat := 0
def PySem.W.Fast.tw2134555281049725880 : Nat := 0
def PySem.W.Fast.tw8644262403668957133 : Nat := 0
def PySem.W.Fast.tw10626590745773469410 : Nat := 0
def PySem.W.Fast.tw18118539424674610843 : Nat := 0
def PySem.W.Fast.tw393297018269537236 : Nat := 0
def PySem.W.Fast.tw18207856186327419052 : Nat := 0
def PySem.W.Fast.tw12397596479992139930 : Nat := 0
def PySem.W.Fast.tw10954313968118755918 : Nat := 0
def PySem.W.Fast.tw12041458555568493727 : Nat := 0
def PySem.W.Fast.tw9207964826828007431 : Nat := 0
def PySem.W.Fast.tw8575719562449351943 : Nat := 0
def PySem.W.Fast.tw11008061436278889325 : Nat := 0
def PySem.W.Fast.tw18293875949749018137 : Nat := 0
def PySem.W.Fast.tw18150448313245027161 : Nat := 0
def PySem.W.Fast.tw12451058027744916391 : Nat := 0
def PySem.W.Fast.tw1265954811873874435 : Nat := 0
def PySem.W.Fast.tw5564329125823169321 : Nat := 0
def PySem.W.Fast.tw1018153436563134770 : Nat := 0
def PySem.W.Fast.tw1110247665647229692 : Nat := 0
def PySem.W.Fast.tw10216309036231749838 : Nat := 0
def PySem.W.Fast.tw18132593822333361318 : Nat := 0
def PySem.W.Fast.tw6482917474652840518 : Nat := 0
def PySem.W.Fast.tw7770443212266218177 : Nat := 0
def PySem.W.Fast.tw15375923280587444470 : Nat := 0
def PySem.W.Fast.tw6153541505532116993 : Nat := 0
def PySem.W.Fast.tw11166258962984543421 : Nat := 0
def PySem.W.Fast.tw11604567367745239222 : Nat := 0
def PySem.W.Fast.tw6134815929234061648 : Nat := 0
def PySem.W.Fast.tw6135052627046713103 : Nat := 0
def PySem.W.Fast.tw6853401120178222788 : Nat := 0
def PySem.W.Fast.tw1112530165710598914 : Nat := 0
def PySem.W.Fast.tw4028256591735907227 : Nat := 0
def PySem.W.Fast.tw16228797816211240501 : Nat := 0
def PySem.W.Fast.tw6596153142113919462 : Nat := 0
def PySem.W.Fast.tw16644159942407753884 : Nat := 0
def PySem.W.Fast.tw2731733100488219035 : Nat := 0
def PySem.W.Fast.tw11277964769535209045 : Nat := 0
def PySem.W.Fast.tw17489452419310546531 : Nat := 0
def PySem.W.Fast.tw4965876617801820082 : Nat := 0
def PySem.W.Fast.tw907072413097166834 : Nat := 0
def PySem.W.Fast.tw5852724191505166679 : Nat := 0
def PySem.W.Fast.tw6620850333976379086 : Nat := 0
def PySem.W.Fast.tw2820874089851488421 : Nat := 0
def PySem.W.Fast.tw9908520801552864300 : Nat := 0
def PySem.W.Fast.tw18338450792417624705 : Nat := 0
def PySem.W.Fast.tw4853670183196058654 : Nat := 0
def PySem.W.Fast.tw8041000755170679382 : Nat := 0
def PySem.W.Fast.tw15782505775096527387 : Nat := 0
def PySem.W.Fast.tw4497872317687021509 : Nat := 0
def PySem.W.Fast.tw13732848152980127958 : Nat := 0
def PySem.W.Fast.tw5078086879369817494 : Nat := 0
def PySem.W.Fast.tw8403549688531745089 : Nat := 0
def PySem.W.Fast.tw7009918606085224404 : Nat := 0
def PySem.W.Fast.tw18362953043973073165 : Nat := 0
def PySem.W.Fast.tw5478971113585289781 : Nat := 0
def PySem.W.Fast.tw14422909457465649503 : Nat := 0
def PySem.W.Fast.tw10750384788653801655 : Nat := 0
def PySem.W.Fast.tw4886606605920046942 : Nat := 0
def PySem.W.Fast.tw16746444521348947175 : Nat := 0
def PySem.W.Fast.tw6392819550307868548 : Nat := 0
def PySem.W.Fast.tw12734028704708980246 : Nat := 0
def PySem.W.Fast.tw12233133626467457323 : Nat := 0
def PySem.W.Fast.tw11752837378097070105 : Nat := 0
def PySem.W.Fast.tw2628114520226183142 : Nat := 0
def PySem.W.Fast.tw15732373051049434346 : Nat := 0
def PySem.W.Fast.tw981378982956948324 : Nat := 0
def PySem.W.Fast.tw16691054873402042929 : Nat := 0
def PySem.W.Fast.tw17814123695499960855 : Nat := 0
def PySem.W.Fast.tw12637514482937076924 : Nat := 0
def PySem.W.Fast.tw15669874697687300559 : Nat := 0
def PySem.W.Fast.tw17555610572075114169 : Nat := 0
def PySem.W.Fast.tw9664874689730806414 : Nat := 0
def PySem.W.Fast.tw11695515055591559502 : Nat := 0
def PySem.W.Fast.tw735142942770630655 : Nat := 0
def PySem.W.Fast.tw13963338494923292230 : Nat := 0
def PySem.W.Fast.tw11268745770166340504 : Nat := 0
def PySem.W.Fast.tw1619643982936056763 : Nat := 0
def PySem.W.Fast.tw11778216276503297189 : Nat := 0
def PySem.W.Fast.tw18150036796350491768 : Nat := 0
def PySem.W.Fast.tw14312015426724876526 : Nat := 0
def PySem.W.Fast.tw11619645382748326115 : Nat := 0
def PySem.W.Fast.tw15576239263924490525 : Nat := 0
def PySem.W.Fast.tw17353583703206620185 : Nat := 0
def PySem.W.Fast.tw6546671904400993162 : Nat := 0
def PySem.W.Fast.tw18323567854576297146 : Nat := 0
def PySem.W.Fast.tw15212410053772708791 : Nat := 0
def PySem.W.Fast.tw18274602505196245963 : Nat := 0
def PySem.W.Fast.tw13925557493161848547 : Nat := 0
def PySem.W.Fast.tw8937063631776602417 : Nat := 0
def PySem.W.Fast.tw14337373554574163484 : Nat := 0
def PySem.W.Fast.tw13044026793022956353 : Nat := 0
def PySem.W.Fast.tw17722941077415080186 : Nat := 0
def PySem.W.Fast.tw13506262465699047059 : Nat := 0
def PySem.W.Fast.tw2522688972264879288 : Nat := 0
def PySem.W.Fast.tw4685183031813311718 : Nat := 0
def PySem.W.Fast.tw14787388536103234075 : Nat := 0
def PySem.W.Fast.tw18271763352011244137 : Nat := 0
def PySem.W.Fast.tw6776207267324884609 : Nat := 0
def PySem.W.Fast.tw3446193505182946739 : Nat := 0
def PySem.W.Fast.tw3404729168203781174 : Nat := 0
def PySem.W.Fast.tw3777963382573241522 : Nat := 0
def PySem.W.Fast.tw15605713668478721456 : Nat := 0
def PySem.W.Fast.tw10680416807206607744 : Nat := 0
def PySem.W.Fast.tw8536720653260101093 : Nat := 0
def PySem.W.Fast.tw8936745603868899887 : Nat := 0
def PySem.W.Fast.tw5806722195242955377 : Nat := 0
def PySem.W.Fast.tw6779942244217016315 : Nat := 0
def PySem.W.Fast.tw16361256466440462354 : Nat := 0
def PySem.W.Fast.tw12870537361077256943 : Nat := 0
def PySem.W.Fast.tw16946235268659663303 : Nat := 0
def PySem.W.Fast.tw12767578744749203736 : Nat := 0
def PySem.W.Fast.tw8500418876812350236 : Nat := 0
def PySem.W.Fast.tw16055309109270832269 : Nat := 0
def PySem.W.Fast.tw4300908526801008192 : Nat := 0
def PySem.W.Fast.tw13525026865605444783 : Nat := 0
def PySem.W.Fast.tw13640124212882151289 : Nat := 0
def PySem.W.Fast.tw11583949805049306567 : Nat := 0
def PySem.W.Fast.tw17922663125652534063 : Nat := 0
def PySem.W.Fast.tw18436574141010457618 : Nat := 0
def PySem.W.Fast.tw16223135024047416318 : Nat := 0
def PySem.W.Fast.tw9193416598748791434 : Nat := 0
def PySem.W.Fast.tw11489163522345352071 : Nat := 0
def PySem.W.Fast.tw12394854099188460975 : Nat := 0
def PySem.W.Fast.tw4554105811426242495 : Nat := 0
def PySem.W.Fast.tw7491618902979166231 : Nat := 0
def PySem.W.Fast.tw8206307209718731216 : Nat := 0
def PySem.W.Fast.tw7236852413697569892 : Nat := 0
def PySem.W.Fast.tw1785307669153136071 : Nat := 0
def PySem.W.Fast.tw8784219452999926186 : Nat := 0
def PySem.W.Fast.tw9234463390833043061 : Nat := 0
def PySem.W.Fast.tw1070579869734988601 : Nat := 0
def PySem.W.Fast.tw5304736863568872690 : Nat := 0
def PySem.W.Fast.tw9368220739108452826 : Nat := 0
def PySem.W.Fast.tw7051211774635598272 : Nat := 0
def PySem.W.Fast.tw18314087179609218528 : Nat := 0
def PySem.W.Fast.tw7777043165925745888 : Nat := 0
def PySem.W.Fast.tw8773381756960387969 : Nat := 0
def PySem.W.Fast.tw2036803642236435719 : Nat := 0
def PySem.W.Fast.tw16494248663322231467 : Nat := 0
def PySem.W.Fast.tw2062115430933992179 : Nat := 0
def PySem.W.Fast.tw10812902137737807239 : Nat := 0
def PySem.W.Fast.tw17186801433878309150 : Nat := 0
def PySem.W.Fast.tw407326399048893523 : Nat := 0
def PySem.W.Fast.tw172560188535279333 : Nat := 0
def PySem.W.Fast.tw1460124799917087634 : Nat := 0
def PySem.W.Fast.tw9735923029059401892 : Nat := 0
def PySem.W.Fast.tw9727011835181396004 : Nat := 0
def PySem.W.Fast.tw1131335341327422256 : Nat := 0
def PySem.W.Fast.tw16233756069523528758 : Nat := 0
def PySem.W.Fast.tw17529444368215643926 : Nat := 0
def PySem.W.Fast.tw13003734378589583168 : Nat := 0
def PySem.W.Fast.tw2987655088986777585 : Nat := 0
def PySem.W.Fast.tw6992899993103110245 : Nat := 0
def PySem.W.Fast.tw5021219297636515095 : Nat := 0
def PySem.W.Fast.tw16379888801652643904 : Nat := 0
def PySem.W.Fast.tw9031768252767764492 : Nat := 0
def PySem.W.Fast.tw17094435296788358520 : Nat := 0
def PySem.W.Fast.tw15461410760620805564 : Nat := 0
def PySem.W.Fast.tw8461204695961270683 : Nat := 0
def PySem.W.Fast.tw14705544319088461010 : Nat := 0
def PySem.W.Fast.tw11568863679270072256 : Nat := 0
def PySem.W.Fast.tw7971759721098911511 : Nat := 0
def PySem.W.Fast.tw206704514479021438 : Nat := 0
def PySem.W.Fast.tw16141731333819337586 : Nat := 0
def PySem.W.Fast.tw8934371666661586067 : Nat := 0
def PySem.W.Fast.tw4206910394526903193 : Nat := 0
def PySem.W.Fast.tw11858027963861203610 : Nat := 0
def PySem.W.Fast.tw1492812984885833751 : Nat := 0
def PySem.W.Fast.tw9735327241113765308 : Nat := 0
def PySem.W.Fast.tw16360076416892128081 : Nat := 0
def PySem.W.Fast.tw12241623396963474004 : Nat := 0
def PySem.W.Fast.tw6861591818977476457 : Nat := 0
def PySem.W.Fast.tw16869270279477259677 : Nat := 0
def PySem.W.Fast.tw12891577172404807746 : Nat := 0
def PySem.W.Fast.tw8527096840885052610 : Nat := 0
def PySem.W.Fast.tw1334606880610450850 : Nat := 0
def PySem.W.Fast.tw8351481781749208026 : Nat := 0
def PySem.W.Fast.tw8363069079583100858 : Nat := 0
def PySem.W.Fast.tw5034908683476335543 : Nat := 0
def PySem.W.Fast.tw18226989863638415054 : Nat := 0
def PySem.W.Fast.tw6904426725435397853 : Nat := 0
def PySem.W.Fast.tw5988293866740602503 : Nat := 0
def PySem.W.Fast.tw7055919061479789375 : Nat := 0
def PySem.W.Fast.tw3969848896278772940 : Nat := 0
def PySem.W.Fast.tw341398623200707283 : Nat := 0
def PySem.W.Fast.tw15294900315917102185 : Nat := 0
def PySem.W.Fast.tw8729990446470100376 : Nat := 0
def PySem.W.Fast.tw10214331823253876258 : Nat := 0
def PySem.W.Fast.tw5046493595583474488 : Nat := 0
def PySem.W.Fast.tw10727001724519739751 : Nat := 0
def PySem.W.Fast.tw8053686747080913065 : Nat := 0
def PySem.W.Fast.tw3758274408365075756 : Nat := 0
def PySem.W.Fast.tw943116340072019502 : Nat := 0
def PySem.W.Fast.tw2477429447489534175 : Nat := 0
def PySem.W.Fast.tw2280403351710392982 : Nat := 0
def PySem.W.Fast.tw2713361458899244469 : Nat := 0
def PySem.W.Fast.tw2160589299905168786 : Nat := 0
def PySem.W.Fast.tw2525603365429300790 : Nat := 0
def PySem.W.Fast.tw6026945333621229074 : Nat := 0
def PySem.W.Fast.tw4119350972752387138 : Nat := 0
def PySem.W.Fast.tw15449503067630779088 : Nat := 0
def PySem.W.Fast.tw2699107999792802980 : Nat := 0
def PySem.W.Fast.tw12879130261319946334 : Nat := 0
def PySem.W.Fast.tw15428206802748072528 : Nat := 0
def PySem.W.Fast.tw7768465048139810306 : Nat := 0
def PySem.W.Fast.tw4180130854709188524 : Nat := 0
def PySem.W.Fast.tw17340908212103460735 : Nat := 0
def PySem.W.Fast.tw6488969742368093714 : Nat := 0
def PySem.W.Fast.tw2283004456072150206 : Nat := 0
def PySem.W.Fast.tw4590031454309270141 : Nat := 0
def PySem.W.Fast.tw3217525631994280652 : Nat := 0
def PySem.W.Fast.tw5418285272986897079 : Nat := 0
def PySem.W.Fast.tw4713393792774436722 : Nat := 0
def PySem.W.Fast.tw16131219027539327535 : Nat := 0
def PySem.W.Fast.tw11722138589867443126 : Nat := 0
def PySem.W.Fast.tw728862022752611558 : Nat := 0
def PySem.W.Fast.tw12876062516856205354 : Nat := 0
def PySem.W.Fast.tw711906092090262916 : Nat := 0
def PySem.W.Fast.tw91303378462653996 : Nat := 0
def PySem.W.Fast.tw16308052989421673603 : Nat := 0
def PySem.W.Fast.tw8165211986406145010 : Nat := 0
def PySem.W.Fast.tw17082196897313907430 : Nat := 0
def PySem.W.Fast.tw11394324319269123273 : Nat := 0
def PySem.W.Fast.tw14257681768375938481 : Nat := 0
def PySem.W.Fast.tw11310294809607599611 : Nat := 0
def PySem.W.Fast.tw15863336992992263151 : Nat := 0
def PySem.W.Fast.tw6448373147320217130 : Nat := 0
def PySem.W.Fast.tw8448416020722849495 : Nat := 0
def PySem.W.Fast.tw7277127816329141535 : Nat := 0
def PySem.W.Fast.tw7776412321321354284 : Nat := 0
def PySem.W.Fast.tw5208416989958243368 : Nat := 0
def PySem.W.Fast.tw12889549333957464848 : Nat := 0
def PySem.W.Fast.tw2132064074602885625 : Nat := 0
def PySem.W.Fast.tw11616818683290007766 : Nat := 0
def PySem.W.Fast.tw14091050851869680344 : Nat := 0
def PySem.W.Fast.tw5184707500233926819 : Nat := 0
def PySem.W.Fast.tw16779176940894983177 : Nat := 0
def PySem.W.Fast.tw4480220280677070672 : Nat := 0
def PySem.W.Fast.tw15379811384370190150 : Nat := 0
def PySem.W.Fast.tw15350036426097866673 : Nat := 0
def PySem.W.Fast.tw3774134215459072691 : Nat := 0
def PySem.W.Fast.tw58668753583018657 : Nat := 0
def PySem.W.Fast.tw4158494471484896255 : Nat := 0
def PySem.W.Fast.tw8644627183365171834 : Nat := 0
def PySem.W.Fast.tw6611081240566602715 : Nat := 0
def PySem.W.Fast.tw8834673202247904207 : Nat := 0
def PySem.W.Fast.tw812439845369634373 : Nat := 0
def PySem.W.Fast.tw13938372116008294726 : Nat := 0
def PySem.W.Fast.tw2874379076922997073 : Nat := 0
def PySem.W.Fast.tw12688586486987703361 : Nat := 0
def PySem.W.Fast.tw4366617304254777344 : Nat := 0
def PySem.W.Fast.tw10418020827116772529 : Nat := 0
def PySem.W.Fast.tw1754625510569819581 : Nat := 0
def PySem.W.Fast.tw5037713229561650011 : Nat := 0
def PySem.W.Fast.tw15819741874659560836 : Nat := 0
def PySem.W.Fast.tw5375829593268387288 : Nat := 0
def PySem.W.Fast.tw6762062000499684709 : Nat := 0
def PySem.W.Fast.tw11261660383871532715 : Nat := 0
def PySem.W.Fast.tw2184099804933148159 : Nat := 0
def PySem.W.Fast.tw10107053660056257855 : Nat := 0
def PySem.W.Fast.tw16938626207092499722 : Nat := 0
def PySem.W.Fast.tw15860244664144294412 : Nat := 0
def PySem.W.Fast.tw742691734241694630 : Nat := 0
def PySem.W.Fast.tw16908114993903537770 : Nat := 0
def PySem.W.Fast.tw15019148540522601796 : Nat := 0
def PySem.W.Fast.tw15837968449477970290 : Nat := 0
def PySem.W.Fast.tw7222624839561980100 : Nat := 0
def PySem.W.Fast.tw1711478174626156072 : Nat := 0
def PySem.W.Fast.tw18408140707948417871 : Nat := 0
def PySem.W.Fast.tw14111711755226186222 : Nat := 0
def PySem.W.Fast.tw2144426301913700971 : Nat := 0
def PySem.W.Fast.tw13850715681127392357 : Nat := 0
def PySem.W.Fast.tw9868157035409829654 : Nat := 0
def PySem.W.Fast.tw16992045087787128088 : Nat := 0
def PySem.W.Fast.tw2429461704057665957 : Nat := 0
def PySem.W.Fast.tw3339240013127006601 : Nat := 0
def PySem.W.Fast.tw2049183312564457068 : Nat := 0
def PySem.W.Fast.tw561128796654167118 : Nat := 0
def PySem.W.Fast.tw11459186534559382163 : Nat := 0
def PySem.W.Fast.tw14168957737151875645 : Nat := 0
def PySem.W.Fast.tw2820309274822933551 : Nat := 0
def PySem.W.Fast.tw7924436056541265219 : Nat := 0
def PySem.W.Fast.tw2713269776038287215 : Nat := 0
def PySem.W.Fast.tw5071950136214458848 : Nat := 0
def PySem.W.Fast.tw10204587808858065834 : Nat := 0
def PySem.W.Fast.tw4725733240448447268 : Nat := 0
def PySem.W.Fast.tw18145318911445894240 : Nat := 0
def PySem.W.Fast.tw9892881125260167131 : Nat := 0
def PySem.W.Fast.tw9142176749961395881 : Nat := 0
def PySem.W.Fast.tw5714227633671922436 : Nat := 0
def PySem.W.Fast.tw15741868543142632989 : Nat := 0
def PySem.W.Fast.tw5539642500652875234 : Nat := 0
def PySem.W.Fast.tw2504436294497267749 : Nat := 0
def PySem.W.Fast.tw16217276846106149618 : Nat := 0
def PySem.W.Fast.tw5910505397216082929 : Nat := 0
def PySem.W.Fast.tw8975498794893179892 : Nat := 0
def PySem.W.Fast.tw6783930405958638608 : Nat := 0
def PySem.W.Fast.tw7572850617918324776 : Nat := 0
def PySem.W.Fast.tw4343747558362984234 : Nat := 0
def PySem.W.Fast.tw6131757993391666195 : Nat := 0
def PySem.W.Fast.tw1339196665748125525 : Nat := 0
def PySem.W.Fast.tw1900209605005775959 : Nat := 0
def PySem.W.Fast.tw5495346078008622213 : Nat := 0
def PySem.W.Fast.tw4939175659469206540 : Nat := 0
def PySem.W.Fast.tw17630272027432436511 : Nat := 0
def PySem.W.Fast.tw7958117095224000682 : Nat := 0
def PySem.W.Fast.tw16246488058353797458 : Nat := 0
def PySem.W.Fast.tw8596397825944724998 : Nat := 0
def PySem.W.Fast.tw18110226672656147032 : Nat := 0
def PySem.W.Fast.tw13603834887163959712 : Nat := 0
def PySem.W.Fast.tw18050486833492584296 : Nat := 0
def PySem.W.Fast.tw3197528435070680393 : Nat := 0
def PySem.W.Fast.tw16619165424097099581 : Nat := 0
def PySem.W.Fast.tw4823528451650241096 : Nat := 0
def PySem.W.Fast.tw2104487158332850553 : Nat := 0
def PySem.W.Fast.tw13889506603887091825 : Nat := 0
def PySem.W.Fast.tw9032055303537675847 : Nat := 0
def PySem.W.Fast.tw8190534881347699545 : Nat := 0
def PySem.W.Fast.tw14586279747058867979 : Nat := 0
def PySem.W.Fast.tw13857238883720433907 : Nat := 0
def PySem.W.Fast.tw4470429222092422079 : Nat := 0
def PySem.W.Fast.tw9925386481771417452 : Nat := 0
def PySem.W.Fast.tw11868789326213252428 : Nat := 0
def PySem.W.Fast.tw17249166662042420547 : Nat := 0
def PySem.W.Fast.tw5141013595713011251 : Nat := 0
def PySem.W.Fast.tw15366371029917079477 : Nat := 0
def PySem.W.Fast.tw15002499371092740146 : Nat := 0
def PySem.W.Fast.tw5127371207715043981 : Nat := 0
def PySem.W.Fast.tw14706467862747086968 : Nat := 0
def PySem.W.Fast.tw9789491968154783622 : Nat := 0
def PySem.W.Fast.tw16818362890038446145 : Nat := 0
def PySem.W.Fast.tw7476472441350566742 : Nat := 0
def PySem.W.Fast.tw15228535041096914749 : Nat := 0
def PySem.W.Fast.tw1305446647490427153 : Nat := 0
def PySem.W.Fast.tw10501996753120195900 : Nat := 0
def PySem.W.Fast.tw17635597644802697664 : Nat := 0
def PySem.W.Fast.tw12437899618428020580 : Nat := 0
def PySem.W.Fast.tw6074494513546558528 : Nat := 0
def PySem.W.Fast.tw4560648634870143986 : Nat := 0
def PySem.W.Fast.tw9245295942476880917 : Nat := 0
def PySem.W.Fast.tw10740818022600595554 : Nat := 0
def PySem.W.Fast.tw1470190372175529599 : Nat := 0
def PySem.W.Fast.tw981678320395839371 : Nat := 0
def PySem.W.Fast.tw2209227030304614192 : Nat := 0
def PySem.W.Fast.tw8637804027174579480 : Nat := 0
def PySem.W.Fast.tw17146147300610873682 : Nat := 0
def PySem.W.Fast.tw7341551911464359322 : Nat := 0
def PySem.W.Fast.tw17503537903002362511 : Nat := 0
def PySem.W.Fast.tw2008195572336245080 : Nat := 0
def PySem.W.Fast.tw3083072570409346746 : Nat := 0
def PySem.W.Fast.tw5976127072116445250 : Nat := 0
def PySem.W.Fast.tw3487290871561956019 : Nat := 0
def PySem.W.Fast.tw7618729301083231020 : Nat := 0
def PySem.W.Fast.tw2321119203642775488 : Nat := 0
def PySem.W.Fast.tw8478098927488699622 : Nat := 0
def PySem.W.Fast.tw15390847354763091346 : Nat := 0
def PySem.W.Fast.tw2067281055769473969 : Nat := 0
def PySem.W.Fast.tw8293197778205990683 : Nat := 0
def PySem.W.Fast.tw14466661889224410348 : Nat := 0
def PySem.W.Fast.tw7308391235565773377 : Nat := 0
def PySem.W.Fast.tw2555399250851594151 : Nat := 0
def PySem.W.Fast.tw10690317210939799466 : Nat := 0
def PySem.W.Fast.tw10342449920049718149 : Nat := 0
def PySem.W.Fast.tw3932554334943150145 : Nat := 0
def PySem.W.Fast.tw15735659732117040580 : Nat := 0
def PySem.W.Fast.tw16906172226586424665 : Nat := 0
def PySem.W.Fast.tw3381454257325374673 : Nat := 0
def PySem.W.Fast.tw8960734338181078435 : Nat := 0
def PySem.W.Fast.tw15160078512189233362 : Nat := 0
def PySem.W.Fast.tw8648889503291850928 : Nat := 0
def PySem.W.Fast.tw14402486549561053635 : Nat := 0
def PySem.W.Fast.tw8599185795564583305 : Nat := 0
def PySem.W.Fast.tw317680516805167277 : Nat := 0
def PySem.W.Fast.tw13737789319133130499 : Nat := 0
def PySem.W.Fast.tw5513193689914907298 : Nat := 0
def PySem.W.Fast.tw13395149994966102827 : Nat := 0
def PySem.W.Fast.tw17926312066628603512 : Nat := 0
def PySem.W.Fast.tw14014517201834424820 : Nat := 0
def PySem.W.Fast.tw14075219419203853399 : Nat := 0
def PySem.W.Fast.tw5123670948275058840 : Nat := 0
def PySem.W.Fast.tw13148330423613464564 : Nat := 0
def PySem.W.Fast.tw15409735383139512288 : Nat := 0
def PySem.W.Fast.tw8411188540437146432 : Nat := 0
def PySem.W.Fast.tw7799624450260824037 : Nat := 0
def PySem.W.Fast.tw13750168414985079853 : Nat := 0
def PySem.W.Fast.tw4367575906182749615 : Nat := 0
def PySem.W.Fast.tw7040625186612945988 : Nat := 0
def PySem.W.Fast.tw3350020880232806984 : Nat := 0
def PySem.W.Fast.tw202279571470757318 : Nat := 0
def PySem.W.Fast.tw12774247707495237606 : Nat := 0
def PySem.W.Fast.tw5853295190082216653 : Nat := 0
def PySem.W.Fast.tw9372342284641344128 : Nat := 0
def PySem.W.Fast.tw7399492659959547692 : Nat := 0
def PySem.W.Fast.tw1160682248198554163 : Nat := 0
def PySem.W.Fast.tw2808450565902842125 : Nat := 0
def PySem.W.Fast.tw5306103313144956195 : Nat := 0
def PySem.W.Fast.tw6603200558795930862 : Nat := 0
def PySem.W.Fast.tw9447617108744820011 : Nat := 0
def PySem.W.Fast.tw15000851610642903403 : Nat := 0
def PySem.W.Fast.tw9118822303740373539 : Nat := 0
def PySem.W.Fast.tw12343030193442674292 : Nat := 0
def PySem.W.Fast.tw5340260624929956465 : Nat := 0
def PySem.W.Fast.tw7967094250513213580 : Nat := 0
def PySem.W.Fast.tw4616535301782557088 : Nat := 0
def PySem.W.Fast.tw6386664838014440571 : Nat := 0
def PySem.W.Fast.tw14378339229966115425 : Nat := 0
def PySem.W.Fast.tw17875311024186328162 : Nat := 0
def PySem.W.Fast.tw4086812472650393155 : Nat := 0
def PySem.W.Fast.tw1351724002739539223 : Nat := 0
def PySem.W.Fast.tw11960511110076604866 : Nat := 0
def PySem.W.Fast.tw14817744070085730201 : Nat := 0
def PySem.W.Fast.tw17429684476230172036 : Nat := 0
def PySem.W.Fast.tw13412972800947492858 : Nat := 0
def PySem.W.Fast.tw14546780045616783495 : Nat := 0
def PySem.W.Fast.tw13642104592116050192 : Nat := 0
def PySem.W.Fast.tw17012650461248487967 : Nat := 0
def PySem.W.Fast.tw1031882791084141020 : Nat := 0
def PySem.W.Fast.tw6909776078703788569 : Nat := 0
def PySem.W.Fast.tw7877870082681269123 : Nat := 0
def PySem.W.Fast.tw17336381938634576548 : Nat := 0
def PySem.W.Fast.tw7965146574180201603 : Nat := 0
def PySem.W.Fast.tw6023556798835457843 : Nat := 0
def PySem.W.Fast.tw15468362252205715950 : Nat := 0
def PySem.W.Fast.tw10094878556046440023 : Nat := 0
def PySem.W.Fast.tw6994143546384028798 : Nat := 0
def PySem.W.Fast.tw15421528936615351074 : Nat := 0
def PySem.W.Fast.tw10127652336736272886 : Nat := 0
def PySem.W.Fast.tw12070526637932412684 : Nat := 0
def PySem.W.Fast.tw7211961549935513830 : Nat := 0
def PySem.W.Fast.tw17619449400937427255 : Nat := 0
def PySem.W.Fast.tw558726277112512926 : Nat := 0
def PySem.W.Fast.tw13677726398530425149 : Nat := 0
def PySem.W.Fast.tw2608847337985677274 : Nat := 0
def PySem.W.Fast.tw10596336054386528775 : Nat := 0
def PySem.W.Fast.tw3471694211074959957 : Nat := 0
def PySem.W.Fast.tw9257745676404216288 : Nat := 0
def PySem.W.Fast.tw17907228617654187343 : Nat := 0
def PySem.W.Fast.tw6804015929316398017 : Nat := 0
def PySem.W.Fast.tw14985371632669685675 : Nat := 0
def PySem.W.Fast.tw15498813420284778764 : Nat := 0
def PySem.W.Fast.tw9266364162378496498 : Nat := 0
def PySem.W.Fast.tw1090506896923448001 : Nat := 0
def PySem.W.Fast.tw11673354297473643486 : Nat := 0
def PySem.W.Fast.tw15256826509286632515 : Nat := 0
def PySem.W.Fast.tw5847542819427097745 : Nat := 0
def PySem.W.Fast.tw14962233849294406668 : Nat := 0
def PySem.W.Fast.tw13247118210945871754 : Nat := 0
def PySem.W.Fast.tw17581879115867116715 : Nat := 0
def PySem.W.Fast.tw2336336898564800902 : Nat := 0
def PySem.W.Fast.tw9775311559141109903 : Nat := 0
def PySem.W.Fast.tw5195232806751906119 : Nat := 0
def PySem.W.Fast.tw2849217857042140673 : Nat := 0
def PySem.W.Fast.tw3767817047690270622 : Nat := 0
def PySem.W.Fast.tw10209277060413120734 : Nat := 0
def PySem.W.Fast.tw11817343422173829820 : Nat := 0
def PySem.W.Fast.tw17130985370091024486 : Nat := 0
def PySem.W.Fast.tw12343406039480543199 : Nat := 0
def PySem.W.Fast.tw1264212831141687169 : Nat := 0
def PySem.W.Fast.tw14422098430870553395 : Nat := 0
def PySem.W.Fast.tw6403926472773954287 : Nat := 0
def PySem.W.Fast.tw17867633135224678 : Nat := 0
def PySem.W.Fast.tw8090473308861061218 : Nat := 0
def PySem.W.Fast.tw15063934743733527112 : Nat := 0
def PySem.W.Fast.tw12862748054158885246 : Nat := 0
def PySem.W.Fast.tw10025333846444709575 : Nat := 0
def PySem.W.Fast.tw15398711944624748583 : Nat := 0
def PySem.W.Fast.tw2098195588281022588 : Nat := 0
def PySem.W.Fast.tw1946845947253697643 : Nat := 0
def PySem.W.Fast.tw17651052287291914828 : Nat := 0
def PySem.W.Fast.tw7587665681545287577 : Nat := 0
def PySem.W.Fast.tw6702622873706270811 : Nat := 0
def PySem.W.Fast.tw16544338940569815703 : Nat := 0
def PySem.W.Fast.tw8752473592005019139 : Nat := 0
def PySem.W.Fast.tw5218813662309910838 : Nat := 0
def PySem.W.Fast.tw14678272933166831811 : Nat := 0
def PySem.W.Fast.tw2193963454010507076 : Nat := 0
def PySem.W.Fast.tw3353434908998329352 : Nat := 0
def PySem.W.Fast.tw9943735337009222757 : Nat := 0
def PySem.W.Fast.tw14023519278787368252 : Nat := 0
def PySem.W.Fast.tw4011463220276027972 : Nat := 0
def PySem.W.Fast.tw7924001235306572086 : Nat := 0
def PySem.W.Fast.tw8161175122451341403 : Nat := 0
def PySem.W.Fast.tw6026076251512534888 : Nat := 0
def PySem.W.Fast.tw14953641237680348719 : Nat := 0
def PySem.W.Fast.tw18151413871631324153 : Nat := 0
def PySem.W.Fast.tw8421488134245737510 : Nat := 0
def PySem.W.Fast.tw7349304806430824641 : Nat := 0
def PySem.W.Fast.tw299192207817472923 : Nat := 0
def PySem.W.Fast.tw9295325838337470135 : Nat := 0
open PySem PySem.W PyProof.Rows
set_option maxRecDepth 100000 in
set_option maxHeartbeats 0 in
theorem PySem.Challenge.cw_frameback_k13_where_a_drop_lands_holds : PySem.Challenge.rw_frameback_k13_where_a_drop_lands.Holds := by
  w_on; o_law; k_head; (case hw => w_witness2)
  k_fill
  refine FB.walk (l := PySem.Challenge.rw_frameback_k13_where_a_drop_lands) rfl rfl (fun w h Y => PySem.W.kIn_of Y) ?F
  case F =>
    intro w mg fa h KX G hmg
    have T : ∃ (a : FB.Adr) (fd : FuncData), FB.Txt (L2.KOf KX) mg a ∧ L2.Fun (L2.KOf KX) "law" "law" FB.s_law fa fd ∧ ∀ (s : Shared) (v : Value), BindsTo s fd ⟨[v], []⟩ [("_law_script", v)] := by
      dsimp only [L2.KOf]
      refine' FB.txt_mk KX G hmg ?z_dict ?z_enumerate ?z_int ?z_isinstance ?z_len ?z_list ?z_max ?z_range ?z_reversed ?g_FIRST_CELL_BIT ?g_LINK ?g_MOST_CALLERS ?g_TOP_BOX ?g_TOP_CELLS ?g_TOP_TARGET ?g_TOP_VALUE ?c_Astray ?c_Back ?c_Call ?c_Drop ?c_FrameError ?c_Grow ?c_Machine ?c_NoRow ?c_Set ?c_Table ?pg_Table ?hd_Table ?po_Table ?sa_Table ?mk_Table ?kc_Table ?n_Table_entries ?n_Table_landings ?a1 ?i1 ?l1 ?d1 ?c1 ?k1 ?pg_Machine ?hd_Machine ?po_Machine ?sa_Machine ?mk_Machine ?kc_Machine ?n_Machine_code ?n_Machine_table ?n_Machine_home ?n_Machine_coming ?n_Machine_held ?n_Machine_cells ?n_Machine_calls ?n_Machine_dropped ?n_Machine_state ?a2 ?i2 ?l2 ?d2 ?c2 ?k2 ?a3 ?i3 ?l3 ?c3 ?k3 ?a4 ?i4 ?l4 ?c4 ?k4 ?a5 ?i5 ?l5 ?c5 ?k5 ?a6 ?i6 ?l6 ?c6 ?k6 ?a7 ?i7 ?l7 ?c7 ?k7 ?a8 ?i8 ?l8 ?c8 ?k8 ?a9 ?i9 ?l9 ?c9 ?k9 ?a10 ?i10 ?l10 ?c10 ?k10 ?a11 ?i11 ?l11 ?c11 ?k11 ?a12 ?i12 ?l12 ?c12 ?k12 ?a13 ?i13 ?l13 ?c13 ?k13 ?a14 ?i14 ?l14 ?c14 ?k14 ?a15 ?i15 ?l15 ?c15 ?k15 ?pg_Grow ?hd_Grow ?po_Grow ?sa_Grow ?mk_Grow ?kc_Grow ?n_Grow_many ?a16 ?i16 ?l16 ?c16 ?k16 ?a17 ?i17 ?l17 ?c17 ?k17 ?a18 ?i18 ?l18 ?c18 ?k18 ?a19 ?i19 ?l19 ?c19 ?k19 ?pg_Set ?hd_Set ?po_Set ?sa_Set ?mk_Set ?kc_Set ?n_Set_box ?n_Set_number ?a20 ?i20 ?l20 ?c20 ?k20 ?a21 ?i21 ?l21 ?c21 ?k21 ?a22 ?i22 ?l22 ?c22 ?k22 ?a23 ?i23 ?l23 ?c23 ?k23 ?pg_Call ?hd_Call ?po_Call ?sa_Call ?mk_Call ?kc_Call ?n_Call_target ?a24 ?i24 ?l24 ?c24 ?k24 ?a25 ?i25 ?l25 ?c25 ?k25 ?a26 ?i26 ?l26 ?c26 ?k26 ?a27 ?i27 ?l27 ?c27 ?k27 ?pg_Drop ?hd_Drop ?po_Drop ?sa_Drop ?mk_Drop ?kc_Drop ?n_Drop_box ?a28 ?i28 ?l28 ?c28 ?k28 ?a29 ?i29 ?l29 ?c29 ?k29 ?a30 ?i30 ?l30 ?c30 ?k30 ?a31 ?i31 ?l31 ?c31 ?k31 ?ha_Set ?hm_Set ?is_Set_Drop ?is_Set_Call ?is_Set_Back ?ha_Grow ?hm_Grow ?is_Grow_Drop ?is_Grow_Call ?is_Grow_Back ?ha_Call ?hm_Call ?is_Call_Drop ?is_Call_Call ?is_Call_Back ?ha_Drop ?hm_Drop ?is_Drop_Drop ?is_Drop_Call ?is_Drop_Back ?ob1 ?ob2 ?a32 ?i32 ?l32 ?c32 ?k32 ?xw_Astray ?xa_Astray ?xb_Astray ?xc_Astray ?xd_Astray ?xf_Astray ?xg_Astray ?xh_Astray ?xi_Astray ?xj_Astray ?xl_Astray ?xm_Astray ?xn_Astray ?xp_Astray ?xq_Astray ?xr_Astray ?a33 ?l33 ?c33 ?k33 ?a34 ?l34 ?c34 ?k34 ?a35 ?l35 ?c35 ?k35 ?a36 ?l36 ?c36 ?k36 ?a37 ?l37 ?c37 ?k37 ?a38 ?l38 ?c38 ?k38 ?a39 ?l39 ?c39 ?k39 ?a40 ?l40 ?c40 ?k40 ?a41 ?l41 ?c41 ?k41 ?a42 ?l42 ?c42 ?k42 ?a43 ?l43 ?c43 ?k43 ?a44 ?l44 ?c44 ?k44 ?a45 ?l45 ?c45 ?k45 ?a46 ?l46 ?c46 ?k46 ?a47 ?l47 ?c47 ?k47 ?a48 ?l48 ?c48 ?k48
      (case z_dict => first | k_is | kit_is | rfl | kernel_rfl)
      (case z_enumerate => first | k_is | kit_is | rfl | kernel_rfl)
      (case z_int => first | k_is | kit_is | rfl | kernel_rfl)
      (case z_isinstance => first | k_is | kit_is | rfl | kernel_rfl)
      (case z_len => first | k_is | kit_is | rfl | kernel_rfl)
      (case z_list => first | k_is | kit_is | rfl | kernel_rfl)
      (case z_max => first | k_is | kit_is | rfl | kernel_rfl)
      (case z_range => first | k_is | kit_is | rfl | kernel_rfl)
      (case z_reversed => first | k_is | kit_is | rfl | kernel_rfl)
      (case g_FIRST_CELL_BIT => first | k_is | kit_is | rfl | kernel_rfl)
      (case g_LINK => first | k_is | kit_is | rfl | kernel_rfl)
      (case g_MOST_CALLERS => first | k_is | kit_is | rfl | kernel_rfl)
      (case g_TOP_BOX => first | k_is | kit_is | rfl | kernel_rfl)
      (case g_TOP_CELLS => first | k_is | kit_is | rfl | kernel_rfl)
      (case g_TOP_TARGET => first | k_is | kit_is | rfl | kernel_rfl)
      (case g_TOP_VALUE => first | k_is | kit_is | rfl | kernel_rfl)
      (case c_Astray => first | k_is | kit_is | rfl | kernel_rfl)
      (case c_Back => first | k_is | kit_is | rfl | kernel_rfl)
      (case c_Call => first | k_is | kit_is | rfl | kernel_rfl)
      (case c_Drop => first | k_is | kit_is | rfl | kernel_rfl)
      (case c_FrameError => first | k_is | kit_is | rfl | kernel_rfl)
      (case c_Grow => first | k_is | kit_is | rfl | kernel_rfl)
      (case c_Machine => first | k_is | kit_is | rfl | kernel_rfl)
      (case c_NoRow => first | k_is | kit_is | rfl | kernel_rfl)
      (case c_Set => first | k_is | kit_is | rfl | kernel_rfl)
      (case c_Table => first | k_is | kit_is | rfl | kernel_rfl)
      (case pg_Table => first | k_is | kit_is | rfl | kernel_rfl)
      (case hd_Table => first | k_is | kit_is | rfl | kernel_rfl)
      (case po_Table => first | k_is | kit_is | rfl | kernel_rfl)
      (case sa_Table => first | k_is | kit_is | rfl | kernel_rfl)
      (case mk_Table => first | k_is | kit_is | rfl | kernel_rfl)
      (case kc_Table => first | k_is | kit_is | rfl | kernel_rfl)
      (case n_Table_entries => first | k_is | kit_is | rfl | kernel_rfl)
      (case n_Table_landings => first | k_is | kit_is | rfl | kernel_rfl)
      (case a1 => first | k_is | kit_is | rfl | kernel_rfl)
      (case i1 => first | k_is | kit_is | rfl | kernel_rfl)
      (case l1 => first | k_is | kit_is | rfl | kernel_rfl)
      (case d1 => first | k_is | kit_is | rfl | kernel_rfl)
      (case c1 => first | k_is | kit_is | rfl | kernel_rfl)
      (case k1 => first | k_is | kit_is | rfl | kernel_rfl)
      (case pg_Machine => first | k_is | kit_is | rfl | kernel_rfl)
      (case hd_Machine => first | k_is | kit_is | rfl | kernel_rfl)
      (case po_Machine => first | k_is | kit_is | rfl | kernel_rfl)
      (case sa_Machine => first | k_is | kit_is | rfl | kernel_rfl)
      (case mk_Machine => first | k_is | kit_is | rfl | kernel_rfl)
      (case kc_Machine => first | k_is | kit_is | rfl | kernel_rfl)
      (case n_Machine_code => first | k_is | kit_is | rfl | kernel_rfl)
      (case n_Machine_table => first | k_is | kit_is | rfl | kernel_rfl)
      (case n_Machine_home => first | k_is | kit_is | rfl | kernel_rfl)
      (case n_Machine_coming => first | k_is | kit_is | rfl | kernel_rfl)
      (case n_Machine_held => first | k_is | kit_is | rfl | kernel_rfl)
      (case n_Machine_cells => first | k_is | kit_is | rfl | kernel_rfl)
      (case n_Machine_calls => first | k_is | kit_is | rfl | kernel_rfl)
      (case n_Machine_dropped => first | k_is | kit_is | rfl | kernel_rfl)
      (case n_Machine_state => first | k_is | kit_is | rfl | kernel_rfl)
      (case a2 => first | k_is | kit_is | rfl | kernel_rfl)
      (case i2 => first | k_is | kit_is | rfl | kernel_rfl)
      (case l2 => first | k_is | kit_is | rfl | kernel_rfl)
      (case d2 => first | k_is | kit_is | rfl | kernel_rfl)
      (case c2 => first | k_is | kit_is | rfl | kernel_rfl)
      (case k2 => first | k_is | kit_is | rfl | kernel_rfl)
      (case a3 => first | k_is | kit_is | rfl | kernel_rfl)
      (case i3 => first | k_is | kit_is | rfl | kernel_rfl)
      (case l3 => first | k_is | kit_is | rfl | kernel_rfl)
      (case c3 => first | k_is | kit_is | rfl | kernel_rfl)
      (case k3 => first | k_is | kit_is | rfl | kernel_rfl)
      (case a4 => first | k_is | kit_is | rfl | kernel_rfl)
      (case i4 => first | k_is | kit_is | rfl | kernel_rfl)
      (case l4 => first | k_is | kit_is | rfl | kernel_rfl)
      (case c4 => first | k_is | kit_is | rfl | kernel_rfl)
      (case k4 => first | k_is | kit_is | rfl | kernel_rfl)
      (case a5 => first | k_is | kit_is | rfl | kernel_rfl)
      (case i5 => first | k_is | kit_is | rfl | kernel_rfl)
      (case l5 => first | k_is | kit_is | rfl | kernel_rfl)
      (case c5 => first | k_is | kit_is | rfl | kernel_rfl)
      (case k5 => first | k_is | kit_is | rfl | kernel_rfl)
      (case a6 => first | k_is | kit_is | rfl | kernel_rfl)
      (case i6 => first | k_is | kit_is | rfl | kernel_rfl)
      (case l6 => first | k_is | kit_is | rfl | kernel_rfl)
      (case c6 => first | k_is | kit_is | rfl | kernel_rfl)
      (case k6 => first | k_is | kit_is | rfl | kernel_rfl)
      (case a7 => first | k_is | kit_is | rfl | kernel_rfl)
      (case i7 => first | k_is | kit_is | rfl | kernel_rfl)
      (case l7 => first | k_is | kit_is | rfl | kernel_rfl)
      (case c7 => first | k_is | kit_is | rfl | kernel_rfl)
      (case k7 => first | k_is | kit_is | rfl | kernel_rfl)
      (case a8 => first | k_is | kit_is | rfl | kernel_rfl)
      (case i8 => first | k_is | kit_is | rfl | kernel_rfl)
      (case l8 => first | k_is | kit_is | rfl | kernel_rfl)
      (case c8 => first | k_is | kit_is | rfl | kernel_rfl)
      (case k8 => first | k_is | kit_is | rfl | kernel_rfl)
      (case a9 => first | k_is | kit_is | rfl | kernel_rfl)
      (case i9 => first | k_is | kit_is | rfl | kernel_rfl)
      (case l9 => first | k_is | kit_is | rfl | kernel_rfl)
      (case c9 => first | k_is | kit_is | rfl | kernel_rfl)
      (case k9 => first | k_is | kit_is | rfl | kernel_rfl)
      (case a10 => first | k_is | kit_is | rfl | kernel_rfl)
      (case i10 => first | k_is | kit_is | rfl | kernel_rfl)
      (case l10 => first | k_is | kit_is | rfl | kernel_rfl)
      (case c10 => first | k_is | kit_is | rfl | kernel_rfl)
      (case k10 => first | k_is | kit_is | rfl | kernel_rfl)
      (case a11 => first | k_is | kit_is | rfl | kernel_rfl)
      (case i11 => first | k_is | kit_is | rfl | kernel_rfl)
      (case l11 => first | k_is | kit_is | rfl | kernel_rfl)
      (case c11 => first | k_is | kit_is | rfl | kernel_rfl)
      (case k11 => first | k_is | kit_is | rfl | kernel_rfl)
      (case a12 => first | k_is | kit_is | rfl | kernel_rfl)
      (case i12 => first | k_is | kit_is | rfl | kernel_rfl)
      (case l12 => first | k_is | kit_is | rfl | kernel_rfl)
      (case c12 => first | k_is | kit_is | rfl | kernel_rfl)
      (case k12 => first | k_is | kit_is | rfl | kernel_rfl)
      (case a13 => first | k_is | kit_is | rfl | kernel_rfl)
      (case i13 => first | k_is | kit_is | rfl | kernel_rfl)
      (case l13 => first | k_is | kit_is | rfl | kernel_rfl)
      (case c13 => first | k_is | kit_is | rfl | kernel_rfl)
      (case k13 => first | k_is | kit_is | rfl | kernel_rfl)
      (case a14 => first | k_is | kit_is | rfl | kernel_rfl)
      (case i14 => first | k_is | kit_is | rfl | kernel_rfl)
      (case l14 => first | k_is | kit_is | rfl | kernel_rfl)
      (case c14 => first | k_is | kit_is | rfl | kernel_rfl)
      (case k14 => first | k_is | kit_is | rfl | kernel_rfl)
      (case a15 => first | k_is | kit_is | rfl | kernel_rfl)
      (case i15 => first | k_is | kit_is | rfl | kernel_rfl)
      (case l15 => first | k_is | kit_is | rfl | kernel_rfl)
      (case c15 => first | k_is | kit_is | rfl | kernel_rfl)
      (case k15 => first | k_is | kit_is | rfl | kernel_rfl)
      (case pg_Grow => first | k_is | kit_is | rfl | kernel_rfl)
      (case hd_Grow => first | k_is | kit_is | rfl | kernel_rfl)
      (case po_Grow => first | k_is | kit_is | rfl | kernel_rfl)
      (case sa_Grow => first | k_is | kit_is | rfl | kernel_rfl)
      (case mk_Grow => first | k_is | kit_is | rfl | kernel_rfl)
      (case kc_Grow => first | k_is | kit_is | rfl | kernel_rfl)
      (case n_Grow_many => first | k_is | kit_is | rfl | kernel_rfl)
      (case a16 => first | k_is | kit_is | rfl | kernel_rfl)
      (case i16 => first | k_is | kit_is | rfl | kernel_rfl)
      (case l16 => first | k_is | kit_is | rfl | kernel_rfl)
      (case c16 => first | k_is | kit_is | rfl | kernel_rfl)
      (case k16 => first | k_is | kit_is | rfl | kernel_rfl)
      (case a17 => first | k_is | kit_is | rfl | kernel_rfl)
      (case i17 => first | k_is | kit_is | rfl | kernel_rfl)
      (case l17 => first | k_is | kit_is | rfl | kernel_rfl)
      (case c17 => first | k_is | kit_is | rfl | kernel_rfl)
      (case k17 => first | k_is | kit_is | rfl | kernel_rfl)
      (case a18 => first | k_is | kit_is | rfl | kernel_rfl)
      (case i18 => first | k_is | kit_is | rfl | kernel_rfl)
      (case l18 => first | k_is | kit_is | rfl | kernel_rfl)
      (case c18 => first | k_is | kit_is | rfl | kernel_rfl)
      (case k18 => first | k_is | kit_is | rfl | kernel_rfl)
      (case a19 => first | k_is | kit_is | rfl | kernel_rfl)
      (case i19 => first | k_is | kit_is | rfl | kernel_rfl)
      (case l19 => first | k_is | kit_is | rfl | kernel_rfl)
      (case c19 => first | k_is | kit_is | rfl | kernel_rfl)
      (case k19 => first | k_is | kit_is | rfl | kernel_rfl)
      (case pg_Set => first | k_is | kit_is | rfl | kernel_rfl)
      (case hd_Set => first | k_is | kit_is | rfl | kernel_rfl)
      (case po_Set => first | k_is | kit_is | rfl | kernel_rfl)
      (case sa_Set => first | k_is | kit_is | rfl | kernel_rfl)
      (case mk_Set => first | k_is | kit_is | rfl | kernel_rfl)
      (case kc_Set => first | k_is | kit_is | rfl | kernel_rfl)
      (case n_Set_box => first | k_is | kit_is | rfl | kernel_rfl)
      (case n_Set_number => first | k_is | kit_is | rfl | kernel_rfl)
      (case a20 => first | k_is | kit_is | rfl | kernel_rfl)
      (case i20 => first | k_is | kit_is | rfl | kernel_rfl)
      (case l20 => first | k_is | kit_is | rfl | kernel_rfl)
      (case c20 => first | k_is | kit_is | rfl | kernel_rfl)
      (case k20 => first | k_is | kit_is | rfl | kernel_rfl)
      (case a21 => first | k_is | kit_is | rfl | kernel_rfl)
      (case i21 => first | k_is | kit_is | rfl | kernel_rfl)
      (case l21 => first | k_is | kit_is | rfl | kernel_rfl)
      (case c21 => first | k_is | kit_is | rfl | kernel_rfl)
      (case k21 => first | k_is | kit_is | rfl | kernel_rfl)
      (case a22 => first | k_is | kit_is | rfl | kernel_rfl)
      (case i22 => first | k_is | kit_is | rfl | kernel_rfl)
      (case l22 => first | k_is | kit_is | rfl | kernel_rfl)
      (case c22 => first | k_is | kit_is | rfl | kernel_rfl)
      (case k22 => first | k_is | kit_is | rfl | kernel_rfl)
      (case a23 => first | k_is | kit_is | rfl | kernel_rfl)
      (case i23 => first | k_is | kit_is | rfl | kernel_rfl)
      (case l23 => first | k_is | kit_is | rfl | kernel_rfl)
      (case c23 => first | k_is | kit_is | rfl | kernel_rfl)
      (case k23 => first | k_is | kit_is | rfl | kernel_rfl)
      (case pg_Call => first | k_is | kit_is | rfl | kernel_rfl)
      (case hd_Call => first | k_is | kit_is | rfl | kernel_rfl)
      (case po_Call => first | k_is | kit_is | rfl | kernel_rfl)
      (case sa_Call => first | k_is | kit_is | rfl | kernel_rfl)
      (case mk_Call => first | k_is | kit_is | rfl | kernel_rfl)
      (case kc_Call => first | k_is | kit_is | rfl | kernel_rfl)
      (case n_Call_target => first | k_is | kit_is | rfl | kernel_rfl)
      (case a24 => first | k_is | kit_is | rfl | kernel_rfl)
      (case i24 => first | k_is | kit_is | rfl | kernel_rfl)
      (case l24 => first | k_is | kit_is | rfl | kernel_rfl)
      (case c24 => first | k_is | kit_is | rfl | kernel_rfl)
      (case k24 => first | k_is | kit_is | rfl | kernel_rfl)
      (case a25 => first | k_is | kit_is | rfl | kernel_rfl)
      (case i25 => first | k_is | kit_is | rfl | kernel_rfl)
      (case l25 => first | k_is | kit_is | rfl | kernel_rfl)
      (case c25 => first | k_is | kit_is | rfl | kernel_rfl)
      (case k25 => first | k_is | kit_is | rfl | kernel_rfl)
      (case a26 => first | k_is | kit_is | rfl | kernel_rfl)
      (case i26 => first | k_is | kit_is | rfl | kernel_rfl)
      (case l26 => first | k_is | kit_is | rfl | kernel_rfl)
      (case c26 => first | k_is | kit_is | rfl | kernel_rfl)
      (case k26 => first | k_is | kit_is | rfl | kernel_rfl)
      (case a27 => first | k_is | kit_is | rfl | kernel_rfl)
      (case i27 => first | k_is | kit_is | rfl | kernel_rfl)
      (case l27 => first | k_is | kit_is | rfl | kernel_rfl)
      (case c27 => first | k_is | kit_is | rfl | kernel_rfl)
      (case k27 => first | k_is | kit_is | rfl | kernel_rfl)
      (case pg_Drop => first | k_is | kit_is | rfl | kernel_rfl)
      (case hd_Drop => first | k_is | kit_is | rfl | kernel_rfl)
      (case po_Drop => first | k_is | kit_is | rfl | kernel_rfl)
      (case sa_Drop => first | k_is | kit_is | rfl | kernel_rfl)
      (case mk_Drop => first | k_is | kit_is | rfl | kernel_rfl)
      (case kc_Drop => first | k_is | kit_is | rfl | kernel_rfl)
      (case n_Drop_box => first | k_is | kit_is | rfl | kernel_rfl)
      (case a28 => first | k_is | kit_is | rfl | kernel_rfl)
      (case i28 => first | k_is | kit_is | rfl | kernel_rfl)
      (case l28 => first | k_is | kit_is | rfl | kernel_rfl)
      (case c28 => first | k_is | kit_is | rfl | kernel_rfl)
      (case k28 => first | k_is | kit_is | rfl | kernel_rfl)
      (case a29 => first | k_is | kit_is | rfl | kernel_rfl)
      (case i29 => first | k_is | kit_is | rfl | kernel_rfl)
      (case l29 => first | k_is | kit_is | rfl | kernel_rfl)
      (case c29 => first | k_is | kit_is | rfl | kernel_rfl)
      (case k29 => first | k_is | kit_is | rfl | kernel_rfl)
      (case a30 => first | k_is | kit_is | rfl | kernel_rfl)
      (case i30 => first | k_is | kit_is | rfl | kernel_rfl)
      (case l30 => first | k_is | kit_is | rfl | kernel_rfl)
      (case c30 => first | k_is | kit_is | rfl | kernel_rfl)
      (case k30 => first | k_is | kit_is | rfl | kernel_rfl)
      (case a31 => first | k_is | kit_is | rfl | kernel_rfl)
      (case i31 => first | k_is | kit_is | rfl | kernel_rfl)
      (case l31 => first | k_is | kit_is | rfl | kernel_rfl)
      (case c31 => first | k_is | kit_is | rfl | kernel_rfl)
      (case k31 => first | k_is | kit_is | rfl | kernel_rfl)
      (case ha_Set => first | k_is | kit_is | rfl | kernel_rfl)
      (case hm_Set => first | k_is | kit_is | rfl | kernel_rfl)
      (case is_Set_Drop => first | k_is | kit_is | rfl | kernel_rfl)
      (case is_Set_Call => first | k_is | kit_is | rfl | kernel_rfl)
      (case is_Set_Back => first | k_is | kit_is | rfl | kernel_rfl)
      (case ha_Grow => first | k_is | kit_is | rfl | kernel_rfl)
      (case hm_Grow => first | k_is | kit_is | rfl | kernel_rfl)
      (case is_Grow_Drop => first | k_is | kit_is | rfl | kernel_rfl)
      (case is_Grow_Call => first | k_is | kit_is | rfl | kernel_rfl)
      (case is_Grow_Back => first | k_is | kit_is | rfl | kernel_rfl)
      (case ha_Call => first | k_is | kit_is | rfl | kernel_rfl)
      (case hm_Call => first | k_is | kit_is | rfl | kernel_rfl)
      (case is_Call_Drop => first | k_is | kit_is | rfl | kernel_rfl)
      (case is_Call_Call => first | k_is | kit_is | rfl | kernel_rfl)
      (case is_Call_Back => first | k_is | kit_is | rfl | kernel_rfl)
      (case ha_Drop => first | k_is | kit_is | rfl | kernel_rfl)
      (case hm_Drop => first | k_is | kit_is | rfl | kernel_rfl)
      (case is_Drop_Drop => first | k_is | kit_is | rfl | kernel_rfl)
      (case is_Drop_Call => first | k_is | kit_is | rfl | kernel_rfl)
      (case is_Drop_Back => first | k_is | kit_is | rfl | kernel_rfl)
      (case ob1 => first | k_is | kit_is | rfl | kernel_rfl)
      (case ob2 => first | k_is | kit_is | rfl | kernel_rfl)
      (case a32 => first | k_is | kit_is | rfl | kernel_rfl)
      (case i32 => first | k_is | kit_is | rfl | kernel_rfl)
      (case l32 => first | k_is | kit_is | rfl | kernel_rfl)
      (case c32 => first | k_is | kit_is | rfl | kernel_rfl)
      (case k32 => first | k_is | kit_is | rfl | kernel_rfl)
      (case xw_Astray => first | k_is | kit_is | rfl | kernel_rfl)
      (case xa_Astray => first | k_is | kit_is | rfl | kernel_rfl)
      (case xb_Astray => first | k_is | kit_is | rfl | kernel_rfl)
      (case xc_Astray => first | k_is | kit_is | rfl | kernel_rfl)
      (case xd_Astray => first | k_is | kit_is | rfl | kernel_rfl)
      (case xf_Astray => first | k_is | kit_is | rfl | kernel_rfl)
      (case xg_Astray => first | k_is | kit_is | rfl | kernel_rfl)
      (case xh_Astray => first | k_is | kit_is | rfl | kernel_rfl)
      (case xi_Astray => first | k_is | kit_is | rfl | kernel_rfl)
      (case xj_Astray => first | k_is | kit_is | rfl | kernel_rfl)
      (case xl_Astray => first | k_is | kit_is | rfl | kernel_rfl)
      (case xm_Astray => first | k_is | kit_is | rfl | kernel_rfl)
      (case xn_Astray => first | k_is | kit_is | rfl | kernel_rfl)
      (case xp_Astray => first | k_is | kit_is | rfl | kernel_rfl)
      (case xq_Astray => first | k_is | kit_is | rfl | kernel_rfl)
      (case xr_Astray => first | k_is | kit_is | rfl | kernel_rfl)
      (case a33 => first | k_is | kit_is | rfl | kernel_rfl)
      (case l33 => first | k_is | kit_is | rfl | kernel_rfl)
      (case c33 => first | k_is | kit_is | rfl | kernel_rfl)
      (case k33 => first | k_is | kit_is | rfl | kernel_rfl)
      (case a34 => first | k_is | kit_is | rfl | kernel_rfl)
      (case l34 => first | k_is | kit_is | rfl | kernel_rfl)
      (case c34 => first | k_is | kit_is | rfl | kernel_rfl)
      (case k34 => first | k_is | kit_is | rfl | kernel_rfl)
      (case a35 => first | k_is | kit_is | rfl | kernel_rfl)
      (case l35 => first | k_is | kit_is | rfl | kernel_rfl)
      (case c35 => first | k_is | kit_is | rfl | kernel_rfl)
      (case k35 => first | k_is | kit_is | rfl | kernel_rfl)
      (case a36 => first | k_is | kit_is | rfl | kernel_rfl)
      (case l36 => first | k_is | kit_is | rfl | kernel_rfl)
      (case c36 => first | k_is | kit_is | rfl | kernel_rfl)
      (case k36 => first | k_is | kit_is | rfl | kernel_rfl)
      (case a37 => first | k_is | kit_is | rfl | kernel_rfl)
      (case l37 => first | k_is | kit_is | rfl | kernel_rfl)
      (case c37 => first | k_is | kit_is | rfl | kernel_rfl)
      (case k37 => first | k_is | kit_is | rfl | kernel_rfl)
      (case a38 => first | k_is | kit_is | rfl | kernel_rfl)
      (case l38 => first | k_is | kit_is | rfl | kernel_rfl)
      (case c38 => first | k_is | kit_is | rfl | kernel_rfl)
      (case k38 => first | k_is | kit_is | rfl | kernel_rfl)
      (case a39 => first | k_is | kit_is | rfl | kernel_rfl)
      (case l39 => first | k_is | kit_is | rfl | kernel_rfl)
      (case c39 => first | k_is | kit_is | rfl | kernel_rfl)
      (case k39 => first | k_is | kit_is | rfl | kernel_rfl)
      (case a40 => first | k_is | kit_is | rfl | kernel_rfl)
      (case l40 => first | k_is | kit_is | rfl | kernel_rfl)
      (case c40 => first | k_is | kit_is | rfl | kernel_rfl)
      (case k40 => first | k_is | kit_is | rfl | kernel_rfl)
      (case a41 => first | k_is | kit_is | rfl | kernel_rfl)
      (case l41 => first | k_is | kit_is | rfl | kernel_rfl)
      (case c41 => first | k_is | kit_is | rfl | kernel_rfl)
      (case k41 => first | k_is | kit_is | rfl | kernel_rfl)
      (case a42 => first | k_is | kit_is | rfl | kernel_rfl)
      (case l42 => first | k_is | kit_is | rfl | kernel_rfl)
      (case c42 => first | k_is | kit_is | rfl | kernel_rfl)
      (case k42 => first | k_is | kit_is | rfl | kernel_rfl)
      (case a43 => first | k_is | kit_is | rfl | kernel_rfl)
      (case l43 => first | k_is | kit_is | rfl | kernel_rfl)
      (case c43 => first | k_is | kit_is | rfl | kernel_rfl)
      (case k43 => first | k_is | kit_is | rfl | kernel_rfl)
      (case a44 => first | k_is | kit_is | rfl | kernel_rfl)
      (case l44 => first | k_is | kit_is | rfl | kernel_rfl)
      (case c44 => first | k_is | kit_is | rfl | kernel_rfl)
      (case k44 => first | k_is | kit_is | rfl | kernel_rfl)
      (case a45 => first | k_is | kit_is | rfl | kernel_rfl)
      (case l45 => first | k_is | kit_is | rfl | kernel_rfl)
      (case c45 => first | k_is | kit_is | rfl | kernel_rfl)
      (case k45 => first | k_is | kit_is | rfl | kernel_rfl)
      (case a46 => first | k_is | kit_is | rfl | kernel_rfl)
      (case l46 => first | k_is | kit_is | rfl | kernel_rfl)
      (case c46 => first | k_is | kit_is | rfl | kernel_rfl)
      (case k46 => first | k_is | kit_is | rfl | kernel_rfl)
      (case a47 => first | k_is | kit_is | rfl | kernel_rfl)
      (case l47 => first | k_is | kit_is | rfl | kernel_rfl)
      (case c47 => first | k_is | kit_is | rfl | kernel_rfl)
      (case k47 => first | k_is | kit_is | rfl | kernel_rfl)
      (case a48 => first | k_is | kit_is | rfl | kernel_rfl)
      (case l48 => first | k_is | kit_is | rfl | kernel_rfl)
      (case c48 => first | k_is | kit_is | rfl | kernel_rfl)
      (case k48 => first | k_is | kit_is | rfl | kernel_rfl)
    obtain ⟨a, fd, T, FF, B⟩ := T
    exact ⟨fd, B, fun base _ _ => FB.law_fn T FF⟩
