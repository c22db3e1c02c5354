import PyProof.Rows.All
import Wide.All
import OpenK.AllK
import Wide.FinOn
import Lean
import PyProof.EqAt
import PyProof.EqKinds
import PyProof.TupleCall
import PySem.Challenge.RW_frameback_k31_the_checker_by_its_words
set_option Elab.async false
set_option linter.all false
set_option maxRecDepth 100000

namespace L2
open PySem PySem.Spec PyProof.Rows


abbrev Key := Sum Int Str
def keyIs : Key → Value → Bool
  | .inl k, v => Value.isInt k v
  | .inr x, v => Value.isStrOf x v
def keyH (w : World) : Key → Int
  | .inl k => hashInt k
  | .inr x => hashStr w x
theorem keyIs_shape : ∀ {k : Key} {v : Value}, keyIs k v = true → (∃ i t, k = Sum.inl i ∧ v = Value.int i t) ∨ (∃ x t, k = Sum.inr x ∧ v = Value.str x t)
  | .inl i, v, h => by
    obtain ⟨t, e⟩ := Value.isInt_shape (k := i) (v := v) h
    exact .inl ⟨i, t, rfl, e⟩
  | .inr x, v, h => by
    obtain ⟨t, e⟩ := Value.isStrOf_shape (x := x) (v := v) h
    exact .inr ⟨x, t, rfl, e⟩
theorem keyIs_int (i : Int) (t : Tok) : keyIs (.inl i) (.int i t) = true := by simp [keyIs, Value.isInt]
theorem keyIs_str (x : Str) (t : Tok) : keyIs (.inr x) (.str x t) = true := by simp [keyIs, Value.isStrOf]
theorem key_ll (a b : Int) : decide ((Sum.inl a : Key) = Sum.inl b) = (a == b) := by
  by_cases e : a = b
  · subst e; simp
  · have h : ¬ (Sum.inl a : Key) = Sum.inl b := fun q => e (Sum.inl.inj q)
    rw [decide_eq_false h]
    exact (beq_eq_false_iff_ne.mpr e).symm
theorem key_rr (a b : Str) : decide ((Sum.inr a : Key) = Sum.inr b) = decide (a = b) := by
  by_cases e : a = b
  · subst e; simp
  · have h : ¬ (Sum.inr a : Key) = Sum.inr b := fun q => e (Sum.inr.inj q)
    rw [decide_eq_false h, decide_eq_false e]
theorem key_lr (a : Int) (b : Str) : decide ((Sum.inl a : Key) = Sum.inr b) = false := decide_eq_false (fun q => nomatch q)
theorem key_rl (a : Str) (b : Int) : decide ((Sum.inr a : Key) = Sum.inl b) = false := decide_eq_false (fun q => nomatch q)

def mixKind (prog : Program) (w : World) : PySem.KeyKind prog w Key where
  is := keyIs
  hash := keyH w
  inj := fun v a b ha hb => by
    rcases keyIs_shape ha with ⟨i, t, rfl, rfl⟩ | ⟨x, t, rfl, rfl⟩
    · rcases keyIs_shape hb with ⟨j, u, rfl, e⟩ | ⟨y, u, rfl, e⟩
      · injection e with e1 _; rw [e1]
      · exact nomatch e
    · rcases keyIs_shape hb with ⟨j, u, rfl, e⟩ | ⟨y, u, rfl, e⟩
      · exact nomatch e
      · injection e with e1 _; rw [e1]
  byValue := fun k v h => by
    rcases keyIs_shape h with ⟨i, t, rfl, rfl⟩ | ⟨x, t, rfl, rfl⟩ <;> rfl
  pyHash := fun hv h => by
    rcases keyIs_shape hv with ⟨i, t, rfl, rfl⟩ | ⟨x, t, rfl, rfl⟩
    · exact wpAny_pyHash_int h
    · exact wpAny_pyHash_str h
  eqBool := fun hu hv h => by
    rcases keyIs_shape hu with ⟨i, t, rfl, rfl⟩ | ⟨x, t, rfl, rfl⟩
    · rcases keyIs_shape hv with ⟨j, u, rfl, rfl⟩ | ⟨y, u, rfl, rfl⟩
      · rw [key_ll] at h; exact wpAny_eqBool_int h
      · rw [key_lr] at h; exact SeqAt.EqAt.int_str i t y u _ _ _ _ h
    · rcases keyIs_shape hv with ⟨j, u, rfl, rfl⟩ | ⟨y, u, rfl, rfl⟩
      · rw [key_rl] at h; exact SeqAt.EqAt.str_int x t j u _ _ _ _ h
      · rw [key_rr] at h; exact wpAny_eqBool_str h
  «strs» := fun k x t v h => by
    rcases keyIs_shape h with ⟨i, u, rfl, e⟩ | ⟨y, u, rfl, e⟩
    · exact nomatch e
    · injection e with e1 _
      subst e1
      cases v <;> rfl

theorem mixKind_int (prog : Program) (w : World) (i : Int) (t : Tok) : (mixKind prog w).is (.inl i) (.int i t) = true := keyIs_int i t
theorem mixKind_str (prog : Program) (w : World) (x : Str) (t : Tok) : (mixKind prog w).is (.inr x) (.str x t) = true := keyIs_str x t
end L2

namespace L2
open PySem PySem.Spec PyProof.Rows


inductive V where
  | non | bl (b : Bool) | int (i : Int) | str (x : Str) | byt (b : Array UInt8) | flt (b : UInt64) | ref (a : Addr) | ty (n : String)
  deriving DecidableEq

def RelV : V → Value → Prop
  | .non, u => u = Value.none
  | .bl b, u => u = Value.bool b
  | .int i, u => ∃ t, u = Value.int i t
  | .str x, u => ∃ t, u = Value.str x t
  | .byt b, u => ∃ t, u = Value.bytes b t
  | .flt b, u => ∃ t, u = Value.float b t
  | .ref a, u => u = Value.ref a
  | .ty n, u => u = Value.type n

abbrev Vals : List V → List Value → Prop := Paired RelV
theorem Vals.length {xs : List V} {us : List Value} (r : Vals xs us) : xs.length = us.length := Paired.length r
theorem Vals.get : ∀ {xs : List V} {us : List Value} {i : Nat} {x : V}, Vals xs us → xs[i]? = some x → ∃ u, us[i]? = some u ∧ RelV x u
  | _, _, _, _, .nil, e => by simp at e
  | _, _, 0, _, .cons r _, e => by simp at e; subst e; exact ⟨_, rfl, r⟩
  | _, _, i + 1, x, .cons _ t, e => by
    obtain ⟨u, h1, h2⟩ := Vals.get (i := i) (x := x) t (by simpa using e)
    exact ⟨u, by simpa using h1, h2⟩
theorem Vals.append : ∀ {xs ys : List V} {us ws : List Value}, Vals xs us → Vals ys ws → Vals (xs ++ ys) (us ++ ws)
  | _, _, _, _, .nil, s => s
  | _, _, _, _, .cons r t, s => .cons r (Vals.append t s)
theorem Vals.take : ∀ {xs : List V} {us : List Value} (n : Nat), Vals xs us → Vals (xs.take n) (us.take n)
  | _, _, 0, _ => .nil
  | _, _, _ + 1, .nil => .nil
  | _, _, n + 1, .cons r t => .cons r (Vals.take n t)
theorem Vals.drop : ∀ {xs : List V} {us : List Value} (n : Nat), Vals xs us → Vals (xs.drop n) (us.drop n)
  | _, _, 0, r => r
  | _, _, _ + 1, .nil => .nil
  | _, _, n + 1, .cons _ t => Vals.drop n t
def RelO : Option V → Option Value → Prop
  | some v, some u => RelV v u
  | none, none => True
  | _, _ => False
def KV {κ : Type} : List (κ × V) → List (κ × Value) → Prop := Paired fun (p : κ × V) (q : κ × Value) => p.1 = q.1 ∧ RelV p.2 q.2


def kV : Key → V
  | .inl i => .int i
  | .inr x => .str x


inductive HO where
  
  | lst (xs : List V)
  
  | tup (xs : List V)
  
  | dK (kvs : List (Key × V)) | dT (kvs : List (List Key × V))
  
  | set (S : Int → Bool) (n : Nat)
  
  | ins (C dx : Addr) (fs : List (Str × V))
  
  | own (x : Addr)
  
  | xd (fs : List (Str × V))
  
  | met (f x : Addr)
  
  | rng (lo hi : Int)
  
  | frz (o : Obj) (u : HO)
  
  | tbl (ps : Array Value)
  
  | ext (φ : Heap → Prop)

abbrev Hp := Addr → Option HO
def upd (H : Hp) (a : Addr) (o : HO) : Hp := fun b => if b = a then some o else H b
theorem upd_same {H : Hp} {a : Addr} {o : HO} : upd H a o a = some o := by unfold upd; rw [if_pos rfl]
theorem upd_ne {H : Hp} {a b : Addr} {o : HO} (h : b ≠ a) : upd H a o b = H b := by unfold upd; rw [if_neg h]
theorem ne_of {H : Hp} {a b : Addr} {o u : HO} (h : H a = some o) (h' : H b = some u) (d : o ≠ u) : a ≠ b := by
  intro e; subst e; rw [h] at h'; exact d (Option.some.inj h')
theorem ne_of_none {H : Hp} {a b : Addr} {o : HO} (h : H a = some o) (h' : H b = none) : a ≠ b := by
  intro e; subst e; rw [h] at h'; cases h'

section
variable (P : Program) (w : World)
def ObjOk (H : Hp) (h : Heap) (a : Addr) : HO → Prop
  | .lst xs => xs.length ≤ sizeLine ∧ ∃ (its : List Value) (n : Nat), Vals xs its ∧ h.get? a = some { cls := .type "list", data := .seq its.toArray n }
  | .tup xs => xs.length ≤ sizeLine ∧ ∃ its : List Value, Vals xs its ∧ IsTup h a its.toArray
  | .dK kvs => kvs.length ≤ sizeLine ∧ (a == sysModules) = false ∧ ∃ vs, KV kvs vs ∧ h.DictOf (mixKind P w) a vs
  | .dT kvs => kvs.length ≤ sizeLine ∧ (a == sysModules) = false ∧ ∃ xs : List (List Key × Addr × Value),
      Paired (fun (p : List Key × V) (q : List Key × Addr × Value) => p.1 = q.1 ∧ H q.2.1 = some (.tup (p.1.map kV)) ∧ RelV p.2 q.2.2) kvs xs ∧
      ∃ o es ep, h.get? a = some o ∧ o.ExactDict ∧ o.data = .dict es ep ∧ es.toList = xs.map (entryOfKey (tupleKind (mixKind P w))) ∧ (xs.map (·.1)).Nodup
  | .set S n => h.SetOf (intKind P w) a S n
  | .ins C dx fs => H dx = some (.own a) ∧ fs.length ≤ 1000 ∧ dx ≠ a ∧ h.get? a = some (PySem.W.instObj C dx) ∧
      ∃ mA, h.Ns1 dx mA ∧ (∀ f, RelO (fs.lookup f) (mA f)) ∧ PySem.Within mA (fs.map (·.1))
  | .own _ => ∃ o, h.get? a = some o
  | .xd fs => ∃ mA, h.Ns1 a mA ∧ ∀ f, RelO (fs.lookup f) (mA f)
  | .rng lo hi => ∃ t u v, h.get? a = some { cls := .type "range", data := .fields #[.int lo t, .int hi u, .int 1 v] }
  | .frz o u => h.get? a = some o ∧ ObjOk H h a u
  | .tbl ps => h.get? a = some { cls := .none, data := .fields ps }
  | .met f x => h.get? a = some (PySem.W.methodObj (.ref f) (.ref x))
  | .ext φ => φ h ∧ (∃ o, h.get? a = some o) ∧ ∀ h1 h2 : Heap, φ h1 → (∀ o, h1.get? a = some o → h2.get? a = some o) → φ h2

def HOk (H : Hp) (h : Heap) : Prop := ∀ a o, H a = some o → ObjOk P w H h a o
end

section
variable {P : Program} {w : World} {H H' : Hp} {h h' : Heap} {a : Addr} {o : HO}
theorem ObjOk.lt (x : ObjOk P w H h a o) : a < h.objs.size := by
  cases o with
  | lst xs => obtain ⟨_, _, _, _, e⟩ := x; exact Heap.lt_size e
  | tup xs => obtain ⟨_, _, _, p⟩ := x; exact p.lt
  | dK kvs => obtain ⟨_, _, _, _, o, _, _, e, _⟩ := x; exact Heap.lt_size e
  | dT kvs => obtain ⟨_, _, _, _, o, _, _, e, _⟩ := x; exact Heap.lt_size e
  | set S n => obtain ⟨o, _, _, _, e, _⟩ := x; exact Heap.lt_size e
  | ins C dx fs => obtain ⟨_, _, _, e, _⟩ := x; exact Heap.lt_size e
  | own y => obtain ⟨_, e⟩ := x; exact Heap.lt_size e
  | xd fs => obtain ⟨_, ⟨_, _, _, e, _⟩, _⟩ := x; exact Heap.lt_size e
  | rng lo hi => obtain ⟨_, _, _, e⟩ := x; exact Heap.lt_size e
  | frz ob u => obtain ⟨e, _⟩ := x; exact Heap.lt_size e
  | tbl ps => exact Heap.lt_size (show h.get? a = some _ from x)
  | met f y => exact Heap.lt_size (show h.get? a = some _ from x)
  | ext φ => obtain ⟨_, ⟨_, e⟩, _⟩ := x; exact Heap.lt_size e
theorem Paired.mapP {α β : Type} {F G : α → β → Prop} : ∀ {l₁ : List α} {l₂ : List β}, Paired F l₁ l₂ → (∀ a b, F a b → G a b) → Paired G l₁ l₂
  | _, _, .nil, _ => .nil
  | _, _, .cons r t, f => .cons (f _ _ r) (Paired.mapP t f)
theorem ObjOk.stay (x : ObjOk P w H h a o) (k : ∀ b u, (b = a ∨ H b = some (.own a)) → h.get? b = some u → h'.get? b = some u)
    (ho : ∀ b, H b = some (.own a) → H' b = some (.own a)) (ht : ∀ b xs, H b = some (.tup xs) → H' b = some (.tup xs)) : ObjOk P w H' h' a o := by
  induction o with
  | lst xs => obtain ⟨z, its, n, r, e⟩ := x; exact ⟨z, its, n, r, k _ _ (.inl rfl) e⟩
  | tup xs => obtain ⟨z, its, r, ob, e, c⟩ := x; exact ⟨z, its, r, ob, k _ _ (.inl rfl) e, c⟩
  | dK kvs => obtain ⟨z, y, vs, r, ob, es, ep, e, c⟩ := x; exact ⟨z, y, vs, r, ob, es, ep, k _ _ (.inl rfl) e, c⟩
  | dT kvs =>
    obtain ⟨z, y, xs, r, ob, es, ep, e, c⟩ := x
    exact ⟨z, y, xs, Paired.mapP r fun p q z => ⟨z.1, ht _ _ z.2.1, z.2.2⟩, ob, es, ep, k _ _ (.inl rfl) e, c⟩
  | set S n => obtain ⟨ob, es, ep, t, e, c⟩ := x; exact ⟨ob, es, ep, t, k _ _ (.inl rfl) e, c⟩
  | ins C dx fs =>
    obtain ⟨d, z, ne, e, mA, ⟨od, es, ep, e2, c⟩, r⟩ := x
    exact ⟨ho _ d, z, ne, k _ _ (.inl rfl) e, mA, ⟨od, es, ep, k _ _ (.inr d) e2, c⟩, r⟩
  | own y => obtain ⟨ob, e⟩ := x; exact ⟨ob, k _ _ (.inl rfl) e⟩
  | xd fs => obtain ⟨mA, ⟨od, es, ep, e, c⟩, r⟩ := x; exact ⟨mA, ⟨od, es, ep, k _ _ (.inl rfl) e, c⟩, r⟩
  | rng lo hi => obtain ⟨t, u, v, e⟩ := x; exact ⟨t, u, v, k _ _ (.inl rfl) e⟩
  | frz ob u ih => obtain ⟨e, q⟩ := x; exact ⟨k _ _ (.inl rfl) e, ih q⟩
  | tbl ps =>
    have e : h.get? a = some { cls := .none, data := .fields ps } := x
    show h'.get? a = some { cls := .none, data := .fields ps }
    exact k a _ (.inl rfl) e
  | met f y =>
    have e : h.get? a = some (PySem.W.methodObj (.ref f) (.ref y)) := x
    show h'.get? a = some (PySem.W.methodObj (.ref f) (.ref y))
    exact k a _ (.inl rfl) e
  | ext φ => obtain ⟨p, ⟨o, e⟩, st⟩ := x; exact ⟨st _ _ p fun o q => k _ _ (.inl rfl) q, ⟨o, k _ _ (.inl rfl) e⟩, st⟩
theorem HOk.lt (x : HOk P w H h) (e : H a = some o) : a < h.objs.size := (x a o e).lt
theorem HOk.fresh (x : HOk P w H h) (e : h.objs.size ≤ a) : H a = none := by
  cases q : H a with
  | none => rfl
  | some u => exact absurd (Nat.lt_of_lt_of_le (x.lt q) e) (Nat.lt_irrefl _)

theorem HOk.kept (x : HOk P w H h) (k : ∀ b u, h.get? b = some u → h'.get? b = some u) : HOk P w H h' := fun a o e =>
  (x a o e).stay (fun b u _ q => k b u q) (fun _ q => q) fun _ _ q => q

theorem HOk.laid (x : HOk P w H h) (k : ∀ b u, h.get? b = some u → h'.get? b = some u) (hp : h.objs.size ≤ a) (new : ObjOk P w (upd H a o) h' a o) : HOk P w (upd H a o) h' := fun b u e => by
  have hn := x.fresh hp
  by_cases hb : b = a
  · subst hb; rw [upd_same] at e; cases e; exact new
  · rw [upd_ne hb] at e
    exact (x b u e).stay (fun c v _ q => k c v q) (fun c q => by rw [upd_ne (ne_of_none q hn)]; exact q) fun c xs q => by rw [upd_ne (ne_of_none q hn)]; exact q
end


def Rd (H : Hp) (a : Addr) (u : HO) : Prop := H a = some u ∨ ∃ o, H a = some (.frz o u)
theorem Rd.ok {P : Program} {w : World} {H : Hp} {h : Heap} {a : Addr} {u : HO} (r : Rd H a u) (x : HOk P w H h) : ObjOk P w H h a u := by
  rcases r with r | ⟨o, r⟩
  · exact x a u r
  · obtain ⟨_, q⟩ := x a _ r
    exact q

def Mut : Option HO → Prop
  | some (.lst _) => True
  | some (.dK _) => True
  | some (.dT _) => True
  | some (.set _ _) => True
  | some (.ins _ _ _) => True
  | some (.ext _) => True
  | _ => False
section
variable {P : Program} {w : World} {H : Hp} {h h' : Heap} {x e : Addr} {o' : HO}

theorem HOk.write (ok : HOk P w H h) (mu : Mut (H x)) (he : e = x ∨ H e = some (.own x)) (k : ∀ b u, b ≠ e → h.get? b = some u → h'.get? b = some u) (heo : ∃ u, h'.get? e = some u)
    (new : ObjOk P w (upd H x o') h' x o') : HOk P w (upd H x o') h' := fun b u q => by
  have nown : ∀ c y, H c = some (.own y) → c ≠ x := fun c y r z => by subst z; rw [r] at mu; exact mu
  have ntup : ∀ c xs, H c = some (.tup xs) → c ≠ x := fun c xs r z => by subst z; rw [r] at mu; exact mu
  by_cases hb : b = x
  · subst hb; rw [upd_same] at q; cases q; exact new
  · rw [upd_ne hb] at q
    by_cases hbe : b = e
    · have q' : H b = some (.own x) := by
        rcases he with z | z
        · exact absurd (hbe.trans z) hb
        · rw [hbe]; exact z
      rw [q] at q'; cases q'
      obtain ⟨v, hv⟩ := heo
      exact ⟨v, by rw [hbe]; exact hv⟩
    · refine (ok b u q).stay (fun c v hc r => k c v ?_ r) (fun c r => by rw [upd_ne (nown c b r)]; exact r) fun c xs r => by rw [upd_ne (ntup c xs r)]; exact r
      rcases hc with rfl | hc
      · exact hbe
      · rintro rfl
        rcases he with z | z
        · exact nown c b hc z
        · rw [hc] at z; cases z; exact hb rfl
end


structure Un (fs ex : List Addr) (H H' : Hp) (h h' : Heap) : Prop where
  keep : ∀ b o, h.get? b = some o → H b = none → b ∉ fs → b ∉ ex → h'.get? b = some o
  slot : ∀ b o, h.get? b = some o → H b = none → b ∈ fs → b ∉ ex → ∃ sl, h'.get? b = some { o with slots := sl }
  free : ∀ b o, h.get? b = some o → H b = none → b ∉ ex → H' b = none
  there : ∀ b o, h.get? b = some o → b ∉ ex → ∃ o', h'.get? b = some o'
  tups : ∀ b xs, H b = some (.tup xs) → H' b = some (.tup xs)
  frzs : ∀ b o u, H b = some (.frz o u) → H' b = some (.frz o u)
  tbls : ∀ b ps, H b = some (.tbl ps) → ∃ more, H' b = some (.tbl (ps ++ more))
section
variable {fs fs' ex ex' : List Addr} {H H1 H2 : Hp} {h h1 h2 h' : Heap} {a x e : Addr} {o : HO}
theorem Un.any (u : Un fs ex H H1 h h1) {b : Addr} {ob : Obj} (q : h.get? b = some ob) (n : H b = none) (hx : b ∉ ex) : ∃ sl, h1.get? b = some { ob with slots := sl } := by
  by_cases hb : b ∈ fs
  · exact u.slot b ob q n hb hx
  · exact ⟨ob.slots, u.keep b ob q n hb hx⟩
theorem Un.kept (k : ∀ b u, h.get? b = some u → h'.get? b = some u) : Un fs ex H H h h' :=
  ⟨fun b ob q _ _ _ => k b ob q, fun b ob q _ _ _ => ⟨ob.slots, k b ob q⟩, fun _ _ _ n _ => n, fun b ob q _ => ⟨ob, k b ob q⟩, fun _ _ q => q, fun _ _ _ q => q, fun _ ps q => ⟨#[], by rw [q]; simp⟩⟩
theorem Un.refl : Un fs ex H H h h := Un.kept fun _ _ q => q
theorem Un.laid (k : ∀ b u, h.get? b = some u → h'.get? b = some u) (hp : h.objs.size ≤ a) (hn : H a = none) : Un fs ex H (upd H a o) h h' where
  keep := fun b u q _ _ _ => k b u q
  slot := fun b u q _ _ _ => ⟨u.slots, k b u q⟩
  free := fun b u q n _ => by rw [upd_ne (Nat.ne_of_lt (Nat.lt_of_lt_of_le (Heap.lt_size q) hp))]; exact n
  there := fun b u q _ => ⟨u, k b u q⟩
  tups := fun b xs q => by rw [upd_ne (ne_of_none q hn)]; exact q
  frzs := fun b u xs q => by rw [upd_ne (ne_of_none q hn)]; exact q
  tbls := fun b ps q => ⟨#[], by rw [upd_ne (ne_of_none q hn), q]; simp⟩
theorem Un.write (mu : Mut (H x)) (he : e = x ∨ H e = some (.own x)) (k : ∀ b u, b ≠ e → h.get? b = some u → h'.get? b = some u) (heo : ∃ u, h'.get? e = some u) : Un fs ex H (upd H x o) h h' := by
  have hx : ∀ b, H b = none → b ≠ x := fun b n z => by subst z; rw [n] at mu; exact mu
  have hb : ∀ b, H b = none → b ≠ e := fun b n z => by
    subst z
    rcases he with r | r
    · exact hx b n r
    · rw [n] at r; cases r
  have hm : ∀ b u, H b = some u → ¬ Mut (some u) → b ≠ x := fun b u q nm z => by subst z; rw [q] at mu; exact nm mu
  refine ⟨fun b u q n _ _ => k b u (hb b n) q, fun b u q n _ _ => ⟨u.slots, k b u (hb b n) q⟩, fun b u q n _ => by rw [upd_ne (hx b n)]; exact n, fun b u q _ => ?_,
    fun b xs q => by rw [upd_ne (hm b _ q fun z => z)]; exact q, fun b u xs q => by rw [upd_ne (hm b _ q fun z => z)]; exact q, fun b ps q => ⟨#[], by rw [upd_ne (hm b _ q fun z => z), q]; simp⟩⟩
  by_cases hbe : b = e
  · subst hbe; exact heo
  · exact ⟨u, k b u hbe q⟩
end


def trk (h : Heap) (H : Hp) : List Addr := (List.range h.objs.size).filter fun a => (H a).isSome
def hidT (h : Heap) (H : Hp) : Heap := PySem.W.hideAll h (trk h H)
theorem hidT_size (h : Heap) (H : Hp) : (hidT h H).objs.size = h.objs.size := PySem.W.hideAll_size _ _
theorem hidT_get {h : Heap} {H : Hp} {b : Addr} {o : Obj} (e : h.get? b = some o) (n : H b = none) : (hidT h H).get? b = some o :=
  PySem.W.hideAll_get _ e fun hm => by
    have q : (H b).isSome = true := (List.mem_filter.mp hm).2
    rw [n] at q; simp at q
theorem of_hidT {h : Heap} {H : Hp} {b : Addr} {o : Obj} (e : (hidT h H).get? b = some o) : h.get? b = some o ∧ H b = none := by
  have e' : h.get? b = some o := PySem.W.of_hideAll (trk h H) e
  refine ⟨e', ?_⟩
  cases q : H b with
  | none => rfl
  | some x =>
    have hm : b ∈ trk h H := List.mem_filter.mpr ⟨List.mem_range.mpr (Heap.lt_size e'), by simp [q]⟩
    have z : (hidT h H).get? b = none := PySem.W.hideAll_none (trk h H) hm
    rw [z] at e; cases e


end L2

namespace L2
open PySem PySem.Spec PyProof.Rows


structure Mod (K : PySem.W.Frag) (mg : Str → Option Value) (base : Heap) : Prop where
  kin : K.In base
  glob : base.Ns mainGlobals mg
  blt : ∃ mb, base.Ns builtinsNs mb ∧ ∀ x : Str, x ≠ "__name__" → mb x = bootBuiltins x
  nolimit : base.NoLimit


structure Cx where
  prog : Program
  w : World
  K : PySem.W.Frag
  mg : Str → Option Value
  base : Heap
  A : Around
  N : List Str
  s₀ : Shared
  H₀ : Hp
  env : Env
  outer : List Env
  stack : List Env
  ex : List Addr
  fn : Str → Bool
  calm : Bool
  pn : List (Addr × Obj)
  xe : Value → Shared → Prop

def frs (l : List Env) : List Addr := l.filterMap (·.frame)
abbrev Cx.fs (X : Cx) : List Addr := frs X.outer

def Vis (sc : Scope) (x : Str) : Prop := sc.names.lookup x = some .local ∨ sc.names.lookup x = some .cell ∨ sc.names.lookup x = some .free
def Loc (sc : Scope) (x : Str) : Prop := sc.names.lookup x = some .local ∨ sc.names.lookup x = some .cell
def Look (env : Env) (h : Heap) (m : Str → Option Value) (x : Str) (u : Value) : Prop :=
  (env.kindOf x = some .local ∧ m x = some u) ∨ ((env.kindOf x = some .cell ∨ env.kindOf x = some .free) ∧ ∃ c, env.cells.lookup x = some c ∧ h.IsCell c (some u))

structure Cx.Ok (X : Cx) : Prop where
  mod : Mod X.K X.mg X.base
  kind : X.env.scope.kind = .function
  glob : X.env.globals = mainGlobals
  blt : X.env.builtins = builtinsNs
  above : X.s₀.heap.objs.size ≤ X.env.locals
  inj : ∀ x y c, X.env.cells.lookup x = some c → X.env.cells.lookup y = some c → x = y
  has : ∀ x, (X.env.kindOf x = some .cell ∨ X.env.kindOf x = some .free) → ∃ c, X.env.cells.lookup x = some c
  cab : ∀ x c, X.fn x = true → X.env.cells.lookup x = some c → X.s₀.heap.objs.size ≤ c
  hd : X.calm = true → X.A.handled = none
  frames : X.A.frames = some X.stack
  stk : X.stack = X.outer ∨ (X.stack = X.env :: X.outer ∧ X.env.frame = some X.env.locals)
  exf : ∀ b ∈ X.ex, b ≠ X.env.locals ∧ ∀ x c, X.env.cells.lookup x = some c → c ≠ b
  bs : ∀ b o, X.base.get? b = some o → X.s₀.heap.get? b = some o ∧ X.H₀ b = none
  bsz : X.base.objs.size ≤ X.s₀.heap.objs.size
  noex : ∀ b o, X.base.get? b = some o → b ∉ X.ex
  exfs : ∀ b ∈ X.ex, b ∉ X.fs
  funs : X.s₀.heap.FunFrames X.base X.outer
  frf : ∀ b ∈ X.fs, X.H₀ b = none

structure Inv (X : Cx) (pins : List (Addr × Obj)) (σ : List (Option V)) (H : Hp) (s : Shared) : Prop where
  ok : X.Ok
  os : s.os = X.s₀.os
  bare : AllBare s.gens
  base : Un X.fs X.ex X.H₀ H X.s₀.heap s.heap
  loc : ∃ m, s.heap.Ns X.env.locals m ∧ ∀ (i : Nat) (x : Str) (v : V), X.N[i]? = some x → σ[i]? = some (some v) → Vis X.env.scope x → ∃ u, RelV v u ∧ Look X.env s.heap m x u
  cell : ∀ x c, X.env.cells.lookup x = some c → ∃ v, s.heap.IsCell c v
  free : H X.env.locals = none
  freeC : ∀ x c, X.env.cells.lookup x = some c → H c = none
  pin : ∀ p ∈ X.pn ++ pins, s.heap.get? p.1 = some p.2 ∧ H p.1 = none ∧ p.1 ≠ X.env.locals ∧ p.1 ∉ X.fs ∧ ∀ v, p.2.data ≠ .cell v
  hok : HOk X.prog X.w H s.heap
  len : σ.length = X.N.length

section
variable {X : Cx} {pins : List (Addr × Obj)} {σ : List (Option V)} {H H' : Hp} {s : Shared} {h' : Heap}

theorem Cx.Ok.nofr (ok : X.Ok) {b : Addr} {o : Obj} (e : X.base.get? b = some o) : b ∉ X.fs := fun hb => by
  have := (ok.funs.mem hb).1
  rw [e] at this; cases this
theorem Inv.bs (I : Inv X pins σ H s) : ∀ b o, X.base.get? b = some o → s.heap.get? b = some o ∧ H b = none := fun b o e =>
  ⟨I.base.keep b o (I.ok.bs b o e).1 (I.ok.bs b o e).2 (I.ok.nofr e) (I.ok.noex b o e), I.base.free b o (I.ok.bs b o e).1 (I.ok.bs b o e).2 (I.ok.noex b o e)⟩
theorem Inv.bk (I : Inv X pins σ H s) : ∀ b o, X.base.get? b = some o → s.heap.get? b = some o := fun b o e => (I.bs b o e).1
theorem Inv.mod (I : Inv X pins σ H s) : Mod X.K X.mg X.base := I.ok.mod
theorem Inv.kIn (I : Inv X pins σ H s) : X.K.In s.heap := I.ok.mod.kin.keeps I.bk
theorem Inv.lt (I : Inv X pins σ H s) : X.env.locals < s.heap.objs.size := let ⟨_, hn, _⟩ := I.loc; hn.lt
theorem Inv.sz (I : Inv X pins σ H s) : X.s₀.heap.objs.size ≤ s.heap.objs.size := Nat.le_trans I.ok.above (Nat.le_of_lt I.lt)
theorem Inv.nofs (I : Inv X pins σ H s) {a : Addr} (h : s.heap.objs.size ≤ a) : a ∉ X.fs := fun hb => by
  obtain ⟨_, o, ho, _⟩ := I.ok.funs.mem hb
  exact absurd (Nat.lt_of_lt_of_le (Heap.lt_size ho) (Nat.le_trans I.sz h)) (Nat.lt_irrefl _)
theorem Inv.cne (I : Inv X pins σ H s) : ∀ x c, X.env.cells.lookup x = some c → c ≠ X.env.locals := fun x c e z => by
  obtain ⟨v, o, ho, hd⟩ := I.cell x c e
  obtain ⟨m, ⟨o', es, ep, ho', hd', _⟩, _⟩ := I.loc
  rw [z, ho'] at ho; cases ho; rw [hd'] at hd; cases hd
theorem Inv.funs (I : Inv X pins σ H s) : s.heap.FunFrames X.base X.outer := by
  have all : ∀ (l : List Env), (∀ b ∈ frs l, b ∈ X.fs) → X.s₀.heap.FunFrames X.base l → s.heap.FunFrames X.base l := by
    intro l
    induction l with
    | nil => intro _ _; trivial
    | cons env r ih =>
      intro hs hl
      obtain ⟨hk, ⟨L, o, hf, hn, ho, hd⟩, hr⟩ := hl
      have hL : L ∈ X.fs := hs L (by unfold frs; rw [List.filterMap_cons, hf]; exact List.mem_cons_self)
      obtain ⟨sl, e⟩ := I.base.slot L o ho (I.ok.frf L hL) hL fun z => I.ok.exfs L z hL
      exact ⟨hk, ⟨L, _, hf, hn, e, hd⟩, ih (fun b hb => hs b (by unfold frs; rw [List.filterMap_cons, hf]; exact List.mem_cons_of_mem _ hb)) hr⟩
  exact all X.outer (fun _ hb => hb) I.ok.funs


theorem Inv.stack (I : Inv X pins σ H s) : s.heap.FunFrames X.base X.stack := by
  rcases I.ok.stk with e | ⟨e, hf⟩
  · rw [e]; exact I.funs
  · rw [e]
    obtain ⟨m, hn, _⟩ := I.loc
    refine .cons (by rw [I.ok.kind]; decide) hf hn ?_ I.funs
    exact Heap.get?_none_of_le (Nat.le_trans I.ok.bsz I.ok.above)
theorem Inv.stkSub (I : Inv X pins σ H s) : ∀ b ∈ frs X.stack, b ∈ X.env.locals :: X.fs := fun b hb => by
  rcases I.ok.stk with e | ⟨e, hf⟩
  · rw [e] at hb; exact List.mem_cons_of_mem _ hb
  · rw [e] at hb
    unfold frs at hb
    rw [List.filterMap_cons, hf] at hb
    exact hb
theorem Inv.stkFree (I : Inv X pins σ H s) : ∀ b ∈ frs X.stack, H b = none := fun b hb => by
  rcases List.mem_cons.mp (I.stkSub b hb) with e | hb
  · rw [e]; exact I.free
  · obtain ⟨_, o, ho, _⟩ := I.ok.funs.mem hb
    exact I.base.free b o ho (I.ok.frf b hb) fun z => I.ok.exfs b z hb


theorem Inv.step {g' : Array GenState} {t' : Nat} {d' : Drawn} {ch : List Addr} (I : Inv X pins σ H s)
    (hch : ∀ b ∈ ch, (b ∈ X.ex ∨ X.s₀.heap.objs.size ≤ b) ∧ b ≠ X.env.locals ∧ (∀ x c, X.env.cells.lookup x = some c → c ≠ b) ∧ ∀ p ∈ X.pn ++ pins, p.1 ≠ b)
    (keep : ∀ b o, b ≠ X.env.locals → b ∉ X.fs → b ∉ ch → s.heap.get? b = some o → H b = none → h'.get? b = some o)
    (slot : ∀ b o, b ≠ X.env.locals → b ∈ X.fs → b ∉ ch → s.heap.get? b = some o → H b = none → ∃ sl, h'.get? b = some { o with slots := sl }) (free : ∀ b o, b ∉ ch → s.heap.get? b = some o → H b = none → H' b = none)
    (there : ∀ b o, b ∉ ch → s.heap.get? b = some o → ∃ o', h'.get? b = some o')
    (tups : ∀ b xs, H b = some (.tup xs) → H' b = some (.tup xs)) (frzs : ∀ b o u, H b = some (.frz o u) → H' b = some (.frz o u)) (tbls : ∀ b ps, H b = some (.tbl ps) → ∃ more, H' b = some (.tbl (ps ++ more)))
    (ns : ∀ m, s.heap.Ns X.env.locals m → h'.Ns X.env.locals m) (hok : HOk X.prog X.w H' h') (hg : AllBare g') :
    Inv X pins σ H' { s with heap := h', gens := g', drawn := d', toks := t' } := by
  have neL : ∀ b o, X.s₀.heap.get? b = some o → b ≠ X.env.locals := fun b o e => Nat.ne_of_lt (Nat.lt_of_lt_of_le (Heap.lt_size e) I.ok.above)
  have neC : ∀ b o, X.s₀.heap.get? b = some o → b ∉ X.ex → b ∉ ch := fun b o e hx hb => by
    rcases (hch b hb).1 with z | z
    · exact hx z
    · exact absurd (Nat.lt_of_lt_of_le (Heap.lt_size e) z) (Nat.lt_irrefl _)
  have cellK : ∀ x c, X.env.cells.lookup x = some c → ∀ v, s.heap.IsCell c v → h'.IsCell c v := fun x c e v ⟨o, ho, hd⟩ => by
    have nch : c ∉ ch := fun z => (hch c z).2.2.1 x c e rfl
    by_cases hc : c ∈ X.fs
    · obtain ⟨sl, q⟩ := slot c o (I.cne x c e) hc nch ho (I.freeC x c e)
      exact ⟨_, q, hd⟩
    · exact ⟨o, keep c o (I.cne x c e) hc nch ho (I.freeC x c e), hd⟩
  refine ⟨I.ok, I.os, hg, ⟨fun b o e n hb hx => ?_, fun b o e n hb hx => ?_, fun b o e n hx => ?_, fun b o e hx => ?_, fun b xs e => tups b xs (I.base.tups b xs e), fun b o xs e => frzs b o xs (I.base.frzs b o xs e), fun b ps e => ?_⟩, ?_, fun x c e => ?_, ?_, fun x c e => ?_, fun p hp => ?_, hok, I.len⟩
  · exact keep b o (neL b o e) hb (neC b o e hx) (I.base.keep b o e n hb hx) (I.base.free b o e n hx)
  · obtain ⟨sl, e1⟩ := I.base.slot b o e n hb hx
    obtain ⟨sl', e2⟩ := slot b _ (neL b o e) hb (neC b o e hx) e1 (I.base.free b o e n hx)
    exact ⟨sl', e2⟩
  · obtain ⟨o', e1⟩ := I.base.there b o e hx
    exact free b o' (neC b o e hx) e1 (I.base.free b o e n hx)
  · obtain ⟨o', e1⟩ := I.base.there b o e hx
    exact there b o' (neC b o e hx) e1
  · obtain ⟨m1, e1⟩ := I.base.tbls b ps e
    obtain ⟨m2, e2⟩ := tbls b _ e1
    exact ⟨m1 ++ m2, by rw [e2, Array.append_assoc]⟩
  · obtain ⟨m, hn, hl⟩ := I.loc
    refine ⟨m, ns m hn, fun i x v e1 e2 e3 => ?_⟩
    obtain ⟨u, r, l⟩ := hl i x v e1 e2 e3
    refine ⟨u, r, ?_⟩
    rcases l with l | ⟨k, c, e, z⟩
    · exact .inl l
    · exact .inr ⟨k, c, e, cellK x c e _ z⟩
  · obtain ⟨v, z⟩ := I.cell x c e
    exact ⟨v, cellK x c e v z⟩
  · obtain ⟨m, ⟨o, _, _, ho, _⟩, _⟩ := I.loc
    exact free _ o (fun z => (hch _ z).2.1 rfl) ho I.free
  · obtain ⟨v, o, ho, hd⟩ := I.cell x c e
    exact free c o (fun z => (hch c z).2.2.1 x c e rfl) ho (I.freeC x c e)
  · obtain ⟨e, n, ne, nf, d⟩ := I.pin p hp
    have nch : p.1 ∉ ch := fun z => (hch p.1 z).2.2.2 p hp rfl
    exact ⟨keep p.1 p.2 ne nf nch e n, free p.1 p.2 nch e n, ne, nf, d⟩

theorem Inv.un {t' : Nat} (I : Inv X pins σ H s) (u : Un X.fs [] H H' s.heap h') (hok : HOk X.prog X.w H' h') : Inv X pins σ H' { s with heap := h', toks := t' } := by
  obtain ⟨m, ⟨o, es, ep, ho, r⟩, _⟩ := id I.loc
  obtain ⟨sl, hL⟩ := u.any ho I.free (by simp)
  exact I.step (g' := s.gens) (d' := s.drawn) (ch := []) (fun _ z => nomatch z) (fun b o _ hb _ e n => u.keep b o e n hb (by simp)) (fun b o _ hb _ e n => u.slot b o e n hb (by simp)) (fun b o _ e n => u.free b o e n (by simp)) (fun b o _ e => u.there b o e (by simp)) u.tups u.frzs u.tbls (fun m' hm => by
    obtain ⟨o', es', ep', ho', r'⟩ := hm
    rw [ho] at ho'; cases ho'
    exact ⟨_, es', ep', hL, r'⟩) hok I.bare

theorem Inv.call {g' : Array GenState} {t' : Nat} {d' : Drawn} {ch : List Addr} (I : Inv X pins σ H s) (u : Un (frs X.stack) ch H H' s.heap h') (hok : HOk X.prog X.w H' h') (hg : AllBare g')
    (hch : ∀ b ∈ ch, (b ∈ X.ex ∨ X.s₀.heap.objs.size ≤ b) ∧ b ≠ X.env.locals ∧ (∀ x c, X.env.cells.lookup x = some c → c ≠ b) ∧ ∀ p ∈ X.pn ++ pins, p.1 ≠ b) :
    Inv X pins σ H' { s with heap := h', gens := g', drawn := d', toks := t' } := by
  obtain ⟨m, ⟨o, es, ep, ho, r⟩, _⟩ := id I.loc
  obtain ⟨sl, hL⟩ := u.any ho I.free fun z => (hch _ z).2.1 rfl
  exact I.step (ch := ch) hch (fun b o hL hb hc e n => u.keep b o e n (fun z => (List.mem_cons.mp (I.stkSub b z)).elim hL hb) hc) (fun b o _ _ hc e n => u.any e n hc) (fun b o hc e n => u.free b o e n hc) (fun b o hc e => u.there b o e hc) u.tups u.frzs u.tbls (fun m' hm => by
    obtain ⟨o', es', ep', ho', r'⟩ := hm
    rw [ho] at ho'; cases ho'
    exact ⟨_, es', ep', hL, r'⟩) hok hg

theorem Inv.turned {t' : Nat} {it : Addr} (I : Inv X pins σ H s) (k : ∀ b o, b ≠ it → s.heap.get? b = some o → h'.get? b = some o) (hn : H it = none) (hL : it ≠ X.env.locals)
    (h1 : it ∈ X.ex ∨ X.s₀.heap.objs.size ≤ it) (h2 : ∀ x c, X.env.cells.lookup x = some c → c ≠ it) (h3 : ∀ p ∈ X.pn ++ pins, p.1 ≠ it) : Inv X pins σ H { s with heap := h', toks := t' } := by
  have nit : ∀ b u, H b = some u → b ≠ it := fun b u e z => by rw [z, hn] at e; cases e
  refine I.step (g' := s.gens) (d' := s.drawn) (ch := [it]) (fun b hb => ?_) (fun b o _ _ hc e _ => k b o (fun z => hc (by simp [z])) e) (fun b o _ _ hc e _ => ⟨o.slots, k b o (fun z => hc (by simp [z])) e⟩) (fun _ _ _ _ n => n)
    (fun b o hc e => ⟨o, k b o (fun z => hc (by simp [z])) e⟩) (fun _ _ e => e) (fun _ _ _ e => e) (fun b ps e => ⟨#[], by rw [e]; simp⟩) (fun m hm => ?_) (fun b u e => ?_) I.bare
  · have e : b = it := by simpa using hb
    subst e
    exact ⟨h1, hL, h2, h3⟩
  · obtain ⟨o, es, ep, ho, r⟩ := hm
    exact ⟨o, es, ep, k _ o (Ne.symm hL) ho, r⟩
  · refine (I.hok b u e).stay (fun c v hc q => k c v ?_ q) (fun _ q => q) fun _ _ q => q
    rcases hc with z | z
    · rw [z]; exact nit b u e
    · exact nit c _ z
theorem Inv.tok (I : Inv X pins σ H s) (t : Nat) : Inv X pins σ H { s with toks := t } := I.un (h' := s.heap) (t' := t) Un.refl I.hok

theorem Inv.kept {t' : Nat} (I : Inv X pins σ H s) (k : ∀ b u, s.heap.get? b = some u → h'.get? b = some u) : Inv X pins σ H { s with heap := h', toks := t' } := I.un (Un.kept k) (I.hok.kept k)

theorem Inv.laid {a : Addr} {o : HO} {t' : Nat} (I : Inv X pins σ H s) (k : ∀ b u, s.heap.get? b = some u → h'.get? b = some u) (hp : s.heap.objs.size ≤ a) (new : ObjOk X.prog X.w (upd H a o) h' a o) :
    Inv X pins σ (upd H a o) { s with heap := h', toks := t' } := I.un (Un.laid k hp (I.hok.fresh hp)) (I.hok.laid k hp new)

theorem Inv.write {x e : Addr} {o : HO} {t' : Nat} (I : Inv X pins σ H s) (mu : Mut (H x)) (he : e = x ∨ H e = some (.own x)) (k : ∀ b u, b ≠ e → s.heap.get? b = some u → h'.get? b = some u) (heo : ∃ u, h'.get? e = some u)
    (new : ObjOk X.prog X.w (upd H x o) h' x o) : Inv X pins σ (upd H x o) { s with heap := h', toks := t' } := I.un (Un.write mu he k heo) (I.hok.write mu he k heo new)

theorem Inv.pins_of {pins' : List (Addr × Obj)} (I : Inv X pins σ H s) (h : ∀ p ∈ pins', s.heap.get? p.1 = some p.2 ∧ H p.1 = none ∧ p.1 ≠ X.env.locals ∧ p.1 ∉ X.fs ∧ ∀ v, p.2.data ≠ .cell v) : Inv X pins' σ H s :=
  ⟨I.ok, I.os, I.bare, I.base, I.loc, I.cell, I.free, I.freeC, fun p hp => (List.mem_append.mp hp).elim (fun z => I.pin p (List.mem_append_left _ z)) (h p), I.hok, I.len⟩

theorem nodup_ix {N : List Str} (hN : N.Nodup) {i j : Nat} {x : Str} (a : N[i]? = some x) (b : N[j]? = some x) : i = j := by
  obtain ⟨h1, e1⟩ := List.getElem?_eq_some_iff.mp a
  obtain ⟨h2, e2⟩ := List.getElem?_eq_some_iff.mp b
  exact (List.getElem_inj hN).mp (e1.trans e2.symm)


theorem store_ok2 {M : Model} {A : Around} {E : Value → Shared → Prop} {i : Nat} {x : Str} {v : V} {u : Value} {Q : Unit → Shared → Prop} (I : Inv X pins σ H s) (hN : X.N.Nodup) (hi : X.N[i]? = some x) (hx : Loc X.env.scope x) (r : RelV v u)
    (h : ∀ s', Inv X pins (σ.set i (some v)) H s' → (∃ a, Heap.SameBut a s.heap s'.heap ∧ (a = X.env.locals ∨ X.env.cells.lookup x = some a)) → Q () s') (hf : X.fn x = true ∨ X.env.scope.names.lookup x = some .local := by first | exact .inl rfl | exact .inr rfl | assumption) : wpAny M A (storeName X.env x u) Q E s := by
  obtain ⟨m, hn, hl⟩ := id I.loc
  have hcls : (X.env.scope.kind == .class || (X.env.scope.kind == .module && X.env.locals != X.env.globals)) = false := by rw [I.ok.kind]; rfl
  have hiσ : i < σ.length := by rw [I.len]; exact (List.getElem?_eq_some_iff.mp hi).1
  have cne := I.cne
  have tracked : ∀ {a : Addr} {h' : Heap}, (∃ o, s.heap.get? a = some o ∧ H a = none) → Heap.SameBut a s.heap h' → HOk X.prog X.w H h' := fun {a h'} ha hs b ob e => by
    obtain ⟨_, _, hfree⟩ := ha
    refine (I.hok b ob e).stay (fun c w' hc q => (hs.2 c ?_).trans q) (fun _ q => q) fun _ _ q => q
    rintro rfl
    rcases hc with rfl | hc
    · rw [hfree] at e; cases e
    · rw [hfree] at hc; cases hc
  rcases hx with hk | hk
  · refine wpAny_storeName_local hk hn (fun h' hn' hs => ?_) hcls
    obtain ⟨oL, _, _, hoL, _⟩ := id hn
    refine h _ ⟨I.ok, I.os, I.bare, ⟨fun b o e n hb hx => ?_, fun b o e n hb hx => ?_, I.base.free, fun b o e hx => ?_, I.base.tups, I.base.frzs, I.base.tbls⟩, ⟨_, hn', fun j y v' e1 e2 e3 => ?_⟩, fun y c e => ?_, I.free, I.freeC, fun p hp => ?_, tracked ⟨oL, hoL, I.free⟩ hs, by simpa using I.len⟩ ⟨_, hs, .inl rfl⟩
    · exact (hs.2 b (Nat.ne_of_lt (Nat.lt_of_lt_of_le (Heap.lt_size e) I.ok.above))).trans (I.base.keep b o e n hb hx)
    · obtain ⟨sl, e1⟩ := I.base.slot b o e n hb hx
      exact ⟨sl, (hs.2 b (Nat.ne_of_lt (Nat.lt_of_lt_of_le (Heap.lt_size e) I.ok.above))).trans e1⟩
    · obtain ⟨o', e1⟩ := I.base.there b o e hx
      exact ⟨o', (hs.2 b (Nat.ne_of_lt (Nat.lt_of_lt_of_le (Heap.lt_size e) I.ok.above))).trans e1⟩
    · by_cases hj : j = i
      · subst hj
        rw [hi] at e1; cases e1
        rw [List.getElem?_set_self hiσ] at e2
        cases e2
        exact ⟨u, r, .inl ⟨hk, by simp⟩⟩
      · rw [List.getElem?_set_ne (Ne.symm hj)] at e2
        obtain ⟨u', r', q⟩ := hl j y v' e1 e2 e3
        refine ⟨u', r', ?_⟩
        rcases q with ⟨k, e⟩ | ⟨k, c, e, z⟩
        · refine .inl ⟨k, ?_⟩
          have : y ≠ x := fun e => hj (nodup_ix hN e1 (e ▸ hi))
          simp [this, e]
        · exact .inr ⟨k, c, e, z.sameBut hs (cne y c e)⟩
    · obtain ⟨w', z⟩ := I.cell y c e
      exact ⟨w', z.sameBut hs (cne y c e)⟩
    · obtain ⟨e, n, ne, nf, d⟩ := I.pin p hp
      exact ⟨(hs.2 p.1 ne).trans e, n, ne, nf, d⟩
  · have hfn : X.fn x = true := by
      rcases hf with z | z
      · exact z
      · rw [z] at hk; cases hk
    obtain ⟨c, hc⟩ := I.ok.has x (.inl hk)
    obtain ⟨w', z⟩ := I.cell x c hc
    refine wpAny_storeName_cell I.ok.kind hk hc z (fun h' hc' hs => ?_)
    obtain ⟨oc, hoc, hocd⟩ := id z
    refine h { s with heap := h' } ⟨I.ok, I.os, I.bare, ⟨fun b o e n hb hx => ?_, fun b o e n hb hx => ?_, I.base.free, fun b o e hx => ?_, I.base.tups, I.base.frzs, I.base.tbls⟩, ⟨m, hn.sameBut hs (Ne.symm (cne x c hc)), fun j y v' e1 e2 e3 => ?_⟩, fun y c' e => ?_, I.free, I.freeC, fun p hp => ?_, tracked ⟨oc, hoc, I.freeC x c hc⟩ hs, by simpa using I.len⟩ ⟨c, hs, .inr hc⟩
    · exact (hs.2 b (Nat.ne_of_lt (Nat.lt_of_lt_of_le (Heap.lt_size e) (I.ok.cab x c hfn hc)))).trans (I.base.keep b o e n hb hx)
    · obtain ⟨sl, e1⟩ := I.base.slot b o e n hb hx
      exact ⟨sl, (hs.2 b (Nat.ne_of_lt (Nat.lt_of_lt_of_le (Heap.lt_size e) (I.ok.cab x c hfn hc)))).trans e1⟩
    · obtain ⟨o', e1⟩ := I.base.there b o e hx
      exact ⟨o', (hs.2 b (Nat.ne_of_lt (Nat.lt_of_lt_of_le (Heap.lt_size e) (I.ok.cab x c hfn hc)))).trans e1⟩
    · by_cases hj : j = i
      · subst hj
        rw [hi] at e1; cases e1
        rw [List.getElem?_set_self hiσ] at e2
        cases e2
        exact ⟨u, r, .inr ⟨.inl hk, c, hc, hc'⟩⟩
      · rw [List.getElem?_set_ne (Ne.symm hj)] at e2
        obtain ⟨u', r', q⟩ := hl j y v' e1 e2 e3
        refine ⟨u', r', ?_⟩
        rcases q with q | ⟨k, c', e, z'⟩
        · exact .inl q
        · refine .inr ⟨k, c', e, z'.sameBut hs ?_⟩
          rintro rfl
          exact hj (nodup_ix hN e1 (I.ok.inj _ _ _ e hc ▸ hi))
    · by_cases hcc : c' = c
      · subst hcc; exact ⟨_, hc'⟩
      · obtain ⟨w2, z2⟩ := I.cell y c' e
        exact ⟨w2, z2.sameBut hs hcc⟩
    · obtain ⟨e, n, ne, nf, d⟩ := I.pin p hp
      refine ⟨(hs.2 p.1 ?_).trans e, n, ne, nf, d⟩
      intro q
      rw [q, hoc] at e
      have q' : oc = p.2 := Option.some.inj e
      exact d w' (by rw [← q']; exact hocd)
theorem store_ok {M : Model} {A : Around} {E : Value → Shared → Prop} {i : Nat} {x : Str} {v : V} {u : Value} {Q : Unit → Shared → Prop} (I : Inv X pins σ H s) (hN : X.N.Nodup) (hi : X.N[i]? = some x) (hx : Loc X.env.scope x) (r : RelV v u)
    (h : ∀ s', Inv X pins (σ.set i (some v)) H s' → Q () s') (hf : X.fn x = true ∨ X.env.scope.names.lookup x = some .local := by first | exact .inl rfl | exact .inr rfl | assumption) : wpAny M A (storeName X.env x u) Q E s :=
  store_ok2 I hN hi hx r (fun s' I' _ => h s' I') hf

theorem Inv.call' {s' : Shared} {ch : List Addr} (I : Inv X pins σ H s) (ho : s'.os = s.os) (u : Un (frs X.stack) ch H H' s.heap s'.heap) (hok : HOk X.prog X.w H' s'.heap) (hg : AllBare s'.gens)
    (hch : ∀ b ∈ ch, (b ∈ X.ex ∨ X.s₀.heap.objs.size ≤ b) ∧ b ≠ X.env.locals ∧ (∀ x c, X.env.cells.lookup x = some c → c ≠ b) ∧ ∀ p ∈ X.pn ++ pins, p.1 ≠ b) : Inv X pins σ H' s' := by
  obtain ⟨h', g', d', t', o'⟩ := s'
  have e : o' = s.os := ho
  subst e
  exact I.call (g' := g') (t' := t') (d' := d') u hok hg hch
end



abbrev XK := Value → Option Addr → Hp → Prop
abbrev St := List (Option V)
abbrev VK := V → Hp → Prop

abbrev TE := St → Hp → VK → Prop
abbrev TT := St → Hp → (Bool → Hp → Prop) → Prop
abbrev TA := St → Hp → (List V → Hp → Prop) → Prop

structure Ends where
  nx : St → Hp → Prop
  rt : VK
  bk : St → Hp → Prop := fun _ _ => False
  ct : St → Hp → Prop := fun _ _ => False
abbrev TS := Ends → St → Hp → Prop

def EP (X : Cx) (pins : List (Addr × Obj)) (σ : St) (Q : VK) (u : Value) (s' : Shared) : Prop := ∃ v H', Inv X pins σ H' s' ∧ RelV v u ∧ Q v H'
def TP (X : Cx) (pins : List (Addr × Obj)) (σ : St) (Q : Bool → Hp → Prop) (b : Bool) (s' : Shared) : Prop := ∃ H', Inv X pins σ H' s' ∧ Q b H'
def AP (X : Cx) (pins : List (Addr × Obj)) (σ : St) (Q : List V → Hp → Prop) (us : List Value) (s' : Shared) : Prop := ∃ vs H', Inv X pins σ H' s' ∧ Vals vs us ∧ Q vs H'
def SP (X : Cx) (pins : List (Addr × Obj)) (D : Ends) (f : Flow) (s' : Shared) : Prop :=
  match f with
  | .next => ∃ σ' H', Inv X pins σ' H' s' ∧ D.nx σ' H'
  | .brk => ∃ σ' H', Inv X pins σ' H' s' ∧ D.bk σ' H'
  | .cont => ∃ σ' H', Inv X pins σ' H' s' ∧ D.ct σ' H'
  | .ret u => ∃ v σ' H', Inv X pins σ' H' s' ∧ RelV v u ∧ D.rt v H'

def PE (X : Cx) (e : Expr) (t : TE) : Prop :=
  ∀ (pins : List (Addr × Obj)) (s : Shared) (σ : St) (H : Hp) (Q : VK), Inv X pins σ H s → t σ H Q → wpAny (model X.prog X.w) X.A (eval e X.env) (EP X pins σ Q) X.xe s
def PT (X : Cx) (e : Expr) (t : TT) : Prop :=
  ∀ (pins : List (Addr × Obj)) (s : Shared) (σ : St) (H : Hp) (Q : Bool → Hp → Prop), Inv X pins σ H s → t σ H Q → wpAny (model X.prog X.w) X.A (isTrue e X.env (eval e X.env)) (TP X pins σ Q) X.xe s

def PW (X : Cx) (e : Expr) (t : TT) : Prop :=
  ∀ (whole : Sem Value) (pins : List (Addr × Obj)) (s : Shared) (σ : St) (H : Hp) (Q : Bool → Hp → Prop), Inv X pins σ H s → t σ H Q → wpAny (model X.prog X.w) X.A (isTrue e X.env whole) (TP X pins σ Q) X.xe s
theorem PW.pt {X : Cx} {e : Expr} {t : TT} (h : PW X e t) : PT X e t := h _

def PA (X : Cx) (es : List Expr) (t : TA) : Prop :=
  ∀ (pos : Pos) (pins : List (Addr × Obj)) (s : Shared) (σ : St) (H : Hp) (Q : List V → Hp → Prop), Inv X pins σ H s → t σ H Q → wpAny (model X.prog X.w) X.A (spliced (backTo pos (starEach es X.env))) (AP X pins σ Q) X.xe s
def PS (X : Cx) (st : Stmt) (t : TS) : Prop :=
  ∀ (pins : List (Addr × Obj)) (s : Shared) (σ : St) (H : Hp) (D : Ends), Inv X pins σ H s → t D σ H → wpAny (model X.prog X.w) X.A (exec st X.env) (SP X pins D) X.xe s
def PSs (X : Cx) (st : List Stmt) (t : TS) : Prop :=
  ∀ (pins : List (Addr × Obj)) (s : Shared) (σ : St) (H : Hp) (D : Ends), Inv X pins σ H s → t D σ H → wpAny (model X.prog X.w) X.A (execs st X.env) (SP X pins D) X.xe s

theorem thn {α : Type} {t : Sem α} {Q Q' : α → Shared → Prop} {M : Model} {A : Around} {E : Value → Shared → Prop} {s : Shared} (h : wpAny M A t Q E s) (hQ : ∀ a s, Q a s → Q' a s) : wpAny M A t Q' E s := wpAny_mono h hQ fun _ _ x => x
end L2

namespace L2
open PySem PySem.Spec PyProof.Rows
section
variable {X : Cx}


def tVar (i : Nat) : TE := fun σ H Q => ∃ v, σ[i]? = some (some v) ∧ Q v H
def tC (v : V) : TE := fun _ H Q => Q v H
theorem pe_var {i : Nat} {x : Str} {pos : Pos} (hN : X.N[i]? = some x) (hv : Vis X.env.scope x) (hd : (x == ("__debug__" : Str)) = false := by decide) (hcd : (x == ("__classdict__" : Str)) = false := by decide) : PE X (.Name x pos) (tVar i) := by
  intro pins s σ H Q I h
  obtain ⟨v, e, h⟩ := h
  obtain ⟨m, hn, hl⟩ := I.loc
  obtain ⟨u, r, l⟩ := hl i x v hN e hv
  have fin : EP X pins σ Q u s := ⟨v, H, I, r, h⟩
  rcases l with ⟨hk, hm⟩ | ⟨hk, c, hc, hcell⟩
  · exact wpAny_Name (wpAny_loadName_local I.ok.kind hk hn hm fin) hd
  · rcases hk with hk | hk
    · exact wpAny_Name (wpAny_loadName_cell I.ok.kind hk hc hcell fin) hd
    · exact wpAny_Name (wpAny_loadName_free I.ok.kind hk hc hcell fin hcd) hd
theorem pe_int {i j pos} : PE X (.Constant (.int i) j pos) (tC (.int i)) := fun _ _ _ H _ I h => wpAny_Constant_int ⟨.int i, H, I.tok _, ⟨_, rfl⟩, h⟩
theorem pe_bl {b j pos} : PE X (.Constant (.bool b) j pos) (tC (.bl b)) := fun _ _ _ H _ I h => Constant_bool ⟨.bl b, H, I, rfl, h⟩
theorem pe_non {j pos} : PE X (.Constant .none j pos) (tC .non) := fun _ _ _ H _ I h => Constant_none ⟨.non, H, I, rfl, h⟩
theorem pe_str {x j pos} : PE X (.Constant (.str x) j pos) (tC (.str x)) := fun _ _ _ H _ I h => Calls.Constant_str ⟨.str x, H, I.tok _, ⟨_, rfl⟩, h⟩


def Gl (X : Cx) (x : Str) : Prop := X.env.kindOf x = some .globalImplicit
theorem ld_glob {E : Value → Shared → Prop} {pins : List (Addr × Obj)} {s : Shared} {σ : St} {H : Hp} {x : Str} {u : Value} {pos : Pos} {Q : Value → Shared → Prop} (I : Inv X pins σ H s) (hg : Gl X x) (hm : X.mg x = some u) (h : Q u s)
    (hd : (x == ("__debug__" : Str)) = false := by decide) : wpAny (model X.prog X.w) X.A (eval (.Name x pos) X.env) Q E s :=
  Calls.Name_function_global I.ok.kind hg (Calls.loadGlobal_global (by rw [I.ok.glob]; exact I.mod.glob.keeps I.bk) hm h) hd
theorem ld_blt {E : Value → Shared → Prop} {pins : List (Addr × Obj)} {s : Shared} {σ : St} {H : Hp} {x : Str} {u : Value} {pos : Pos} {Q : Value → Shared → Prop} (I : Inv X pins σ H s) (hg : Gl X x) (hm : X.mg x = none) (hv : bootBuiltins x = some u) (h : Q u s)
    (hn : x ≠ "__name__" := by decide) (hd : (x == ("__debug__" : Str)) = false := by decide) : wpAny (model X.prog X.w) X.A (eval (.Name x pos) X.env) Q E s := by
  obtain ⟨mb, h1, h2⟩ := I.mod.blt
  exact Calls.Name_function_global I.ok.kind hg (Calls.loadGlobal_builtin (by rw [I.ok.glob]; exact I.mod.glob.keeps I.bk) hm (by rw [I.ok.blt]; exact h1.keeps I.bk) ((h2 x hn).trans hv) h) hd

theorem pe_glob {x : Str} {v : V} {u : Value} {pos : Pos} (hg : Gl X x) (hm : X.mg x = some u) (r : RelV v u) (hd : (x == ("__debug__" : Str)) = false := by decide) : PE X (.Name x pos) (tC v) :=
  fun _ _ _ H _ I h => ld_glob I hg hm ⟨v, H, I, r, h⟩ hd
theorem pe_bltn {x : Str} {v : V} {u : Value} {pos : Pos} (hg : Gl X x) (hm : X.mg x = none) (hv : bootBuiltins x = some u) (r : RelV v u) (hn : x ≠ "__name__" := by decide) (hd : (x == ("__debug__" : Str)) = false := by decide) : PE X (.Name x pos) (tC v) :=
  fun _ _ _ H _ I h => ld_blt I hg hm hv ⟨v, H, I, r, h⟩ hn hd



variable {a b : Expr} {ta tb : TE} {pos : Pos}
variable {tA tB' : TT} {rest : List Expr}
def tAnd (t u : TT) : TT := fun σ H Q => t σ H fun c H1 => if c = true then u σ H1 Q else Q false H1
def tOr (t u : TT) : TT := fun σ H Q => t σ H fun c H1 => if c = true then Q true H1 else u σ H1 Q
def tNot (t : TT) : TT := fun σ H Q => t σ H fun c H1 => Q (!c) H1
theorem pw_and1 (ha : PT X a tA) : PW X (.BoolOp .And [a] pos) tA := by
  intro wh pins s σ H Q I h
  refine isTrue_and (thn (ha pins s σ H Q I h) fun c s1 e => ?_)
  cases c with
  | true => exact isTrue_and_nil e
  | false => exact e
theorem pw_or1 (ha : PT X a tA) : PW X (.BoolOp .Or [a] pos) tA := by
  intro wh pins s σ H Q I h
  refine isTrue_or (thn (ha pins s σ H Q I h) fun c s1 e => ?_)
  cases c with
  | false => exact isTrue_or_nil e
  | true => exact e
theorem pw_and (ha : PT X a tA) (hb : PW X (.BoolOp .And (b :: rest) pos) tB') : PW X (.BoolOp .And (a :: b :: rest) pos) (tAnd tA tB') := by
  intro wh pins s σ H Q I h
  refine isTrue_and (thn (ha pins s σ H _ I h) fun c s1 ⟨H1, I1, q1⟩ => ?_)
  cases c with
  | true => exact hb wh pins s1 σ H1 Q I1 q1
  | false => exact ⟨H1, I1, q1⟩
theorem pw_or (ha : PT X a tA) (hb : PW X (.BoolOp .Or (b :: rest) pos) tB') : PW X (.BoolOp .Or (a :: b :: rest) pos) (tOr tA tB') := by
  intro wh pins s σ H Q I h
  refine isTrue_or (thn (ha pins s σ H _ I h) fun c s1 ⟨H1, I1, q1⟩ => ?_)
  cases c with
  | true => exact ⟨H1, I1, q1⟩
  | false => exact hb wh pins s1 σ H1 Q I1 q1
theorem pt_not (ha : PT X a tA) : PT X (.UnaryOp .Not a pos) (tNot tA) := by
  intro pins s σ H Q I h
  exact isTrue_not (ha pins s σ H (fun c H1 => Q (!c) H1) I h)

def tAndV (ta tb : TE) : TE := fun σ H Q => ta σ H fun x H1 => ∃ c, x = .bl c ∧ if c = true then tb σ H1 Q else Q (.bl false) H1
def tOrV (ta tb : TE) : TE := fun σ H Q => ta σ H fun x H1 => ∃ c, x = .bl c ∧ if c = true then Q (.bl true) H1 else tb σ H1 Q
theorem pe_one {op} {t : TE} (h : PE X a t) : PE X (.BoolOp op [a] pos) t := fun pins s σ H Q I hw => BoolOp_one (h pins s σ H Q I hw)
theorem pe_and (ha : PE X a ta) (hb : PE X (.BoolOp .And (b :: rest) pos) tb) : PE X (.BoolOp .And (a :: b :: rest) pos) (tAndV ta tb) := by
  intro pins s σ H Q I h
  refine BoolOp_and (thn (ha pins s σ H _ I h) fun v s1 ⟨x, H1, I1, r1, q1⟩ => ?_)
  obtain ⟨c, rfl, q1⟩ := q1
  cases r1
  refine wpAny_truthy_bool ?_
  cases c with
  | true => exact hb pins s1 σ H1 Q I1 q1
  | false => exact ⟨.bl false, H1, I1, rfl, q1⟩
theorem pe_or (ha : PE X a ta) (hb : PE X (.BoolOp .Or (b :: rest) pos) tb) : PE X (.BoolOp .Or (a :: b :: rest) pos) (tOrV ta tb) := by
  intro pins s σ H Q I h
  refine BoolOp_or (thn (ha pins s σ H _ I h) fun v s1 ⟨x, H1, I1, r1, q1⟩ => ?_)
  obtain ⟨c, rfl, q1⟩ := q1
  cases r1
  refine wpAny_truthy_bool ?_
  cases c with
  | false => exact hb pins s1 σ H1 Q I1 q1
  | true => exact ⟨.bl true, H1, I1, rfl, q1⟩
def tIf (t : TT) (ta tb : TE) : TE := fun σ H Q => t σ H fun c H1 => if c = true then ta σ H1 Q else tb σ H1 Q
theorem pe_ifExp {c : Expr} (hc : PT X c tA) (ha : PE X a ta) (hb : PE X b tb) : PE X (.IfExp c a b pos) (tIf tA ta tb) := by
  intro pins s σ H Q I h
  refine wpAny_IfExp (thn (hc pins s σ H _ I h) fun d s1 ⟨H1, I1, q1⟩ => ?_)
  cases d with
  | true => exact ha pins s1 σ H1 Q I1 q1
  | false => exact hb pins s1 σ H1 Q I1 q1
end
end L2

namespace L2
open PySem PySem.Spec PyProof.Rows


def SqL (K : PySem.W.Frag) (H : Hp) (a : Addr) (xs : List V) : Prop :=
  Rd H a (.lst xs) ∨
    ∃ (o : Obj) (its : Array Value) (n : Nat), K.lookup a = some o ∧ o.cls = .type "list" ∧ o.dict = none ∧ o.data = .seq its n ∧ its.size ≤ sizeLine ∧ Vals xs its.toList
def SqT (K : PySem.W.Frag) (H : Hp) (a : Addr) (xs : List V) : Prop :=
  Rd H a (.tup xs) ∨
    ∃ (o : Obj) (its : Array Value) (n : Nat), K.lookup a = some o ∧ o.cls = .type "tuple" ∧ o.data = .seq its n ∧ its.size ≤ sizeLine ∧ Vals xs its.toList
def absV : Value → Option V
  | .none => some .non
  | .bool b => some (.bl b)
  | .int i _ => some (.int i)
  | .str x _ => some (.str x)
  | .bytes b _ => some (.byt b)
  | .float b _ => some (.flt b)
  | .ref a => some (.ref a)
  | .type n => some (.ty n)
  | _ => none
theorem RelV.abs {x : V} {u : Value} (r : RelV x u) : absV u = some x := by
  cases x with
  | non => cases r; rfl
  | bl _ => cases r; rfl
  | int _ => obtain ⟨t, rfl⟩ := r; rfl
  | str _ => obtain ⟨t, rfl⟩ := r; rfl
  | byt _ => obtain ⟨t, rfl⟩ := r; rfl
  | flt _ => obtain ⟨t, rfl⟩ := r; rfl
  | ref _ => cases r; rfl
  | ty _ => cases r; rfl
theorem RelV.inj {x y : V} {u : Value} (r : RelV x u) (q : RelV y u) : x = y := Option.some.inj (r.abs.symm.trans q.abs)
theorem Vals.inj : ∀ {xs ys : List V} {us : List Value}, Vals xs us → Vals ys us → xs = ys
  | _, _, _, .nil, .nil => rfl
  | _, _, _, .cons r t, .cons r' t' => by rw [r.inj r', Vals.inj t t']
section
variable {X : Cx} {pins : List (Addr × Obj)} {σ : St} {H : Hp} {s : Shared} {a : Addr} {xs ys : List V}
theorem SqL.of {K : PySem.W.Frag} (h : H a = some (.lst xs)) : SqL K H a xs := .inl (.inl h)
theorem SqT.of {K : PySem.W.Frag} (h : H a = some (.tup xs)) : SqT K H a xs := .inl (.inl h)
theorem Inv.list (I : Inv X pins σ H s) (h : SqL X.K H a xs) : ∃ its : List Value, Vals xs its ∧ PlainL s.heap a its.toArray ∧ xs.length ≤ sizeLine := by
  rcases h with h | ⟨o, its, n, hk, hc, hd, hs, hz, r⟩
  · obtain ⟨z, its, n, r, e⟩ := h.ok I.hok
    exact ⟨its, r, ⟨_, n, e, rfl, rfl, rfl⟩, z⟩
  · refine ⟨its.toList, r, ⟨o, n, I.kIn a o hk, hc, hd, by simpa using hs⟩, ?_⟩
    have e := r.length
    simp only [Array.length_toList] at e
    omega
theorem Inv.tuple (I : Inv X pins σ H s) (h : SqT X.K H a xs) : ∃ its : List Value, Vals xs its ∧ IsTup s.heap a its.toArray ∧ xs.length ≤ sizeLine := by
  rcases h with h | ⟨o, its, n, hk, hc, hs, hz, r⟩
  · obtain ⟨z, its, r, p⟩ := h.ok I.hok
    exact ⟨its, r, p, z⟩
  · refine ⟨its.toList, r, ⟨o, I.kIn a o hk, hc, n, by simpa using hs⟩, ?_⟩
    have e := r.length
    simp only [Array.length_toList] at e
    omega
theorem Inv.list_inj (I : Inv X pins σ H s) (h : SqL X.K H a xs) (h' : SqL X.K H a ys) : xs = ys := by
  obtain ⟨its, r, ⟨o, n, e, _, _, d⟩, _⟩ := I.list h
  obtain ⟨its', r', ⟨o', n', e', _, _, d'⟩, _⟩ := I.list h'
  rw [e] at e'; cases e'
  rw [d] at d'
  injection d' with d1 _
  have : its = its' := by simpa using congrArg Array.toList d1
  subst this
  exact r.inj r'
theorem Inv.tuple_inj (I : Inv X pins σ H s) (h : SqT X.K H a xs) (h' : SqT X.K H a ys) : xs = ys := by
  obtain ⟨its, r, ⟨o, e, _, n, d⟩, _⟩ := I.tuple h
  obtain ⟨its', r', ⟨o', e', _, n', d'⟩, _⟩ := I.tuple h'
  rw [e] at e'; cases e'
  rw [d] at d'
  injection d' with d1 _
  have : its = its' := by simpa using congrArg Array.toList d1
  subst this
  exact r.inj r'
end


abbrev Cx.wish (X : Cx) (E : Value → Shared → Prop) : Cx := { X with xe := E }

abbrev Cx.nox (X : Cx) : Cx := X.wish fun _ _ => False
theorem Cx.Ok.wish {X : Cx} (ok : X.Ok) (E : Value → Shared → Prop) : (X.wish E).Ok :=
  ⟨ok.mod, ok.kind, ok.glob, ok.blt, ok.above, ok.inj, ok.has, ok.cab, ok.hd, ok.frames, ok.stk, ok.exf, ok.bs, ok.bsz, ok.noex, ok.exfs, ok.funs, ok.frf⟩
theorem Cx.Ok.unwish {X : Cx} {E : Value → Shared → Prop} (ok : (X.wish E).Ok) : X.Ok :=
  ⟨ok.mod, ok.kind, ok.glob, ok.blt, ok.above, ok.inj, ok.has, ok.cab, ok.hd, ok.frames, ok.stk, ok.exf, ok.bs, ok.bsz, ok.noex, ok.exfs, ok.funs, ok.frf⟩
section
variable {X : Cx} {pins : List (Addr × Obj)} {σ : St} {H : Hp} {s : Shared} {E : Value → Shared → Prop}
theorem Inv.wish (I : Inv X pins σ H s) (E : Value → Shared → Prop) : Inv (X.wish E) pins σ H s := ⟨I.ok.wish E, I.os, I.bare, I.base, I.loc, I.cell, I.free, I.freeC, I.pin, I.hok, I.len⟩
theorem Inv.unwish (I : Inv (X.wish E) pins σ H s) : Inv X pins σ H s := ⟨I.ok.unwish, I.os, I.bare, I.base, I.loc, I.cell, I.free, I.freeC, I.pin, I.hok, I.len⟩
theorem SP.unwish {D : Ends} {f : Flow} {s' : Shared} (h : SP (X.wish E) pins D f s') : SP X pins D f s' := by
  cases f with
  | next => obtain ⟨σ', H', I, q⟩ := h; exact ⟨σ', H', I.unwish, q⟩
  | brk => obtain ⟨σ', H', I, q⟩ := h; exact ⟨σ', H', I.unwish, q⟩
  | cont => obtain ⟨σ', H', I, q⟩ := h; exact ⟨σ', H', I.unwish, q⟩
  | ret u => obtain ⟨v, σ', H', I, r, q⟩ := h; exact ⟨v, σ', H', I.unwish, r, q⟩
theorem PSs.nox {st : List Stmt} {t : TS} (h : PSs X.nox st t) : PSs X st t := fun pins s σ H D I hw =>
  wpAny_mono (h pins s σ H D (I.wish _) hw) (fun _ _ q => q.unwish) fun _ _ z => False.elim z
end


section
variable {X : Cx} {st : Stmt} {rest : List Stmt} {t u : TS} {e : Expr} {te : TE} {pos : Pos}
def tNext : TS := fun D σ H => D.nx σ H
def tSeq (t u : TS) : TS := fun D σ H => t { D with nx := u D } σ H
theorem pss_nil : PSs X [] tNext := fun _ _ σ H _ I h => wpAny_execs_nil ⟨σ, H, I, h⟩
theorem pss_cons (h1 : PS X st t) (h2 : PSs X rest u) : PSs X (st :: rest) (tSeq t u) := by
  intro pins s σ H D I h
  refine wpAny_execs_cons (thn (h1 pins s σ H { D with nx := u D } I h) fun f s1 q => ?_)
  cases f with
  | next =>
    obtain ⟨σ', H', I', q⟩ := q
    exact h2 pins s1 σ' H' D I' q
  | ret v => exact q
  | brk => exact q
  | cont => exact q
theorem pss_one (h1 : PS X st t) : PSs X [st] t := by
  intro pins s σ H D I h
  refine wpAny_execs_cons (thn (h1 pins s σ H D I h) fun f s1 q => ?_)
  cases f with
  | next => exact wpAny_execs_nil q
  | ret v => exact q
  | brk => exact q
  | cont => exact q
theorem Inv.quiet {pins : List (Addr × Obj)} {σ : St} {H : Hp} {s : Shared} (I : Inv X pins σ H s) : interactive X.env = false := by simp [interactive, I.ok.kind]

def tDrop (te : TE) : TS := fun D σ H => te σ H fun _ H1 => D.nx σ H1
theorem ps_expr (he : PE X e te) (hs : swapsWith e none pos.line X.env = pure false := by rfl) : PS X (.Expr e pos) (tDrop te) := by
  intro pins s σ H D I h
  exact wpAny_Expr_any (thn (he pins s σ H _ I h) fun v s1 ⟨x, H1, I1, r1, q1⟩ => ⟨σ, H1, I1, q1⟩) I.quiet hs
def tRet (te : TE) : TS := fun D σ H => te σ H D.rt
theorem ps_ret (he : PE X e te) : PS X (.Return (some e) pos) (tRet te) := by
  intro pins s σ H D I h
  exact wpAny_Return_some (thn (he pins s σ H _ I h) fun v s1 ⟨x, H1, I1, r1, q1⟩ => ⟨x, σ, H1, I1, r1, q1⟩)
def tIfS (c : TT) (t u : TS) : TS := fun D σ H => c σ H fun b H1 => if b = true then t D σ H1 else u D σ H1
theorem ps_if {c : Expr} {a b : List Stmt} {tc : TT} (hc : PT X c tc) (ha : PSs X a t) (hb : PSs X b u) : PS X (.If c a b pos) (tIfS tc t u) := by
  intro pins s σ H D I h
  refine wpAny_If (thn (hc pins s σ H _ I h) fun d s1 ⟨H1, I1, q1⟩ => ?_)
  cases d with
  | true => exact ha pins s1 σ H1 D I1 q1
  | false => exact hb pins s1 σ H1 D I1 q1

def tNever : TS := fun _ _ _ => False
theorem ps_never : PS X st tNever := fun _ _ _ _ _ _ h => h.elim
end


abbrev TG := V → St → Hp → (St → Hp → Prop) → Prop
abbrev TGs := List V → St → Hp → (St → Hp → Prop) → Prop
def PG (X : Cx) (target : Expr) (t : TG) : Prop :=
  ∀ (pins : List (Addr × Obj)) (s : Shared) (σ : St) (H : Hp) (v : V) (u : Value) (Q : St → Hp → Prop), Inv X pins σ H s → RelV v u → t v σ H Q →
    wpAny (model X.prog X.w) X.A (assign target X.env u) (fun _ s' => ∃ σ' H', Inv X pins σ' H' s' ∧ Q σ' H') X.xe s

def PGs (X : Cx) (ts : List Expr) (t : TGs) : Prop :=
  ∀ (pins : List (Addr × Obj)) (s : Shared) (σ : St) (H : Hp) (vs : List V) (us : List Value) (Q : St → Hp → Prop), Inv X pins σ H s → Vals vs us → t vs σ H Q →
    wpAny (model X.prog X.w) X.A (assignInOrder ((assignEach ts X.env).map (·.2)) us) (fun _ s' => ∃ σ' H', Inv X pins σ' H' s' ∧ Q σ' H') X.xe s

section
variable {X : Cx} {pos : Pos}
def gName (i : Nat) : TG := fun v σ H Q => Q (σ.set i (some v)) H
theorem pg_name {i : Nat} {x : Str} (hN : X.N.Nodup) (hi : X.N[i]? = some x) (hx : Loc X.env.scope x) (hf : X.fn x = true ∨ X.env.scope.names.lookup x = some .local := by first | exact .inl rfl | exact .inr rfl | assumption) : PG X (.Name x pos) (gName i) := by
  intro pins s σ H v u Q I r h
  exact wpAny_assign_Name (store_ok I hN hi hx r (fun s' I' => ⟨_, H, I', h⟩) hf)
def gNil : TGs := fun vs σ H Q => vs = [] ∧ Q σ H
def gCons (t : TG) (u : TGs) : TGs := fun vs σ H Q => ∃ v r, vs = v :: r ∧ t v σ H fun σ' H' => u r σ' H' Q
theorem pgs_nil : PGs X [] gNil := by
  intro pins s σ H vs us Q I r h
  obtain ⟨e, h⟩ := h
  subst e
  cases r
  exact assignInOrder_nil ⟨σ, H, I, h⟩
theorem pgs_cons {e : Expr} {es : List Expr} {t : TG} {u : TGs} (h1 : PG X e t) (h2 : PGs X es u)
    (hs : (assignEach (e :: es) X.env).map (·.2) = assign e X.env :: (assignEach es X.env).map (·.2) := by rfl) : PGs X (e :: es) (gCons t u) := by
  intro pins s σ H vs us Q I r h
  obtain ⟨v, vr, e1, h⟩ := h
  subst e1
  cases r with
  | cons r rr =>
    rw [hs]
    refine assignInOrder_cons (thn (h1 pins s σ H _ _ _ I r h) fun _ s1 ⟨σ1, H1, I1, q1⟩ => ?_)
    exact h2 pins s1 σ1 H1 _ _ Q I1 rr q1

def gTup (K : PySem.W.Frag) (n : Nat) (t : TGs) : TG := fun v σ H Q => ∃ a xs, v = .ref a ∧ SqT K H a xs ∧ xs.length = n ∧ t xs σ H Q
theorem pg_tup {es : List Expr} {k : Nat} {t : TGs} {n : Nat} (hc : X.calm = true) (h : PGs X es t)
    (hn : (assignEach es X.env).length = n := by rfl) (hst : (assignEach es X.env).findIdx? (·.1) = none := by rfl) : PG X (.Tuple es k pos) (gTup X.K n t) := by
  intro pins s σ H v u Q I r hw
  obtain ⟨a, xs, e1, hq, hl, hw⟩ := hw
  subst e1
  cases r
  obtain ⟨its, rv, ht, hz⟩ := I.tuple hq
  refine assign_Tuple_tuple (I.ok.hd hc) ht (by simp [hn, ← hl, rv.length]) hst fun h' hx => ?_
  have I1 : Inv X pins σ H { s with heap := h' } := I.kept (t' := s.toks) fun b o e => hx b o (Nat.ne_of_lt (Heap.lt_size e)) e
  exact h pins _ σ H xs _ Q I1 (by simpa using rv) hw

def tAsg (te : TE) (g : TG) : TS := fun D σ H => te σ H fun x H1 => g x σ H1 D.nx
theorem ps_set {i : Nat} {x : Str} {e : Expr} {te : TE} {pos' : Pos} (hN : X.N.Nodup) (hi : X.N[i]? = some x) (hx : Loc X.env.scope x) (he : PE X e te) (hs : swapsWith e (some (.Name x pos')) pos.line X.env = pure false := by rfl) (hf : X.fn x = true ∨ X.env.scope.names.lookup x = some .local := by first | exact .inl rfl | exact .inr rfl | assumption) :
    PS X (.Assign [.Name x pos'] e pos) (tAsg te (gName i)) := by
  intro pins s σ H D I h
  refine wpAny_Assign_Name (thn (he pins s σ H _ I h) fun v s1 ⟨y, H1, I1, r1, q1⟩ => ?_) hs
  exact store_ok I1 hN hi hx r1 (fun s2 I2 => ⟨_, H1, I2, q1⟩) hf

end


section
variable {X : Cx} {pos : Pos}

end



structure It where
  go : Nat → Hp → Prop
  yld : Nat → Hp → V → Hp → Prop
  stop : Nat → Hp → Prop

def FpOk (X : Cx) (pins : List (Addr × Obj)) (H : Hp) (b : Addr) : Prop :=
  H b = none ∧ b ≠ X.env.locals ∧ b ∉ X.fs ∧ (b ∈ X.ex ∨ X.s₀.heap.objs.size ≤ b) ∧ (∀ x c, X.env.cells.lookup x = some c → c ≠ b) ∧ ∀ p ∈ X.pn ++ pins, p.1 ≠ b
theorem Inv.fpOk {X : Cx} {pins : List (Addr × Obj)} {σ : St} {H H' : Hp} {s : Shared} {b : Addr} (I : Inv X pins σ H s) (hb : s.heap.objs.size ≤ b) (hn : H' b = none) : FpOk X pins H' b := by
  refine ⟨hn, Nat.ne_of_gt (Nat.lt_of_lt_of_le I.lt hb), I.nofs hb, .inr (Nat.le_trans I.sz hb), fun x c e z => ?_, fun p hp z => ?_⟩
  · obtain ⟨v, q⟩ := I.cell x c e
    exact absurd (Nat.lt_of_lt_of_le q.lt (by rw [z]; exact hb)) (Nat.lt_irrefl _)
  · exact absurd (Nat.lt_of_lt_of_le (Heap.lt_size (I.pin p hp).1) (by rw [z]; exact hb)) (Nat.lt_irrefl _)
structure Turn (P : Program) (w : World) (K : PySem.W.Frag) (tg : Expr) (J : It) (fp : List Addr) (it : Addr) (tn : Nat → Heap → Prop) : Prop where
  mem : it ∈ fp
  obj : ∀ i h, tn i h → ∀ b ∈ fp, ∃ o, h.get? b = some o ∧ ∀ v, o.data ≠ .cell v
  keep : ∀ i h h', tn i h → (∀ b ∈ fp, ∀ o, h.get? b = some o → h'.get? b = some o) → tn i h'
  item : ∀ (X : Cx), X.prog = P → X.w = w → X.K = K → X.calm = true → ∀ (i : Nat) (pins : List (Addr × Obj)) (s : Shared) (σ : St) (H : Hp) (E : Value → Shared → Prop), Inv X pins σ H s → (∀ b ∈ fp, FpOk X pins H b) → tn i s.heap → J.go i H →
    wpAny (model P w) X.A (pyNext (.ref it)) (fun r s1 => ∃ u, r = some u ∧
      wpAny (model P w) X.A (letOwnedTupleGo tg (.ref it) u) (fun _ s2 => ∃ x H', Inv X pins σ H' s2 ∧ RelV x u ∧ J.yld i H x H' ∧ tn (i + 1) s2.heap ∧ ∀ b ∈ fp, H' b = none) E s1) E s
  done : ∀ (X : Cx), X.prog = P → X.w = w → X.K = K → X.calm = true → ∀ (i : Nat) (pins : List (Addr × Obj)) (s : Shared) (σ : St) (H : Hp) (E : Value → Shared → Prop), Inv X pins σ H s → (∀ b ∈ fp, FpOk X pins H b) → tn i s.heap → J.stop i H →
    wpAny (model P w) X.A (pyNext (.ref it)) (fun r s1 => r = none ∧ Inv X pins σ H s1) E s
  self : ∀ (A : Around) (i : Nat) (s : Shared) (Q : Value → Shared → Prop) (E : Value → Shared → Prop), tn i s.heap → Q (.ref it) s → wpAny (model P w) A (pyIter (.ref it)) Q E s
abbrev TI := St → Hp → (It → Hp → Prop) → Prop

def PIE (X : Cx) (pins : List (Addr × Obj)) (σ : St) (tg : Expr) (R : It → Hp → Prop) (itv : Value) (s2 : Shared) : Prop :=
  ∃ (it : Addr) (fp : List Addr) (tn : Nat → Heap → Prop) (J : It) (H' : Hp), itv = .ref it ∧ Inv X pins σ H' s2 ∧ Turn X.prog X.w X.K tg J fp it tn ∧ tn 0 s2.heap ∧ (∀ b ∈ fp, FpOk X pins H' b) ∧ R J H'
def PI (X : Cx) (tg iter : Expr) (wi : TI) : Prop :=
  ∀ (pins : List (Addr × Obj)) (s : Shared) (σ : St) (H : Hp) (R : It → Hp → Prop), Inv X pins σ H s → wi σ H R →
    wpAny (model X.prog X.w) X.A (eval iter X.env) (fun v s1 => wpAny (model X.prog X.w) X.A (pyIter v) (PIE X pins σ tg R) X.xe s1) X.xe s


theorem go_of {M : Model} {A : Around} {E : Value → Shared → Prop} {s : Shared} {tg : Expr} {it : Addr} {u : Value} {o : Obj} {n : String} {vs : Array Value} {Q : Unit → Shared → Prop} (ho : s.heap.get? it = some o) (hc : o.cls = .type n) (hd : o.data = .fields vs)
    (hn : ["enumerate", "zip", "dict_itemiterator", "dict_reverseitemiterator", "odict_iterator", "itertools.zip_longest", "itertools.pairwise"].contains n = false) (hQ : Q () s) : wpAny M A (letOwnedTupleGo tg (.ref it) u) Q E s := by
  unfold letOwnedTupleGo
  cases tg <;> first
    | exact wpAny_pure hQ
    | (cases u <;> first
        | exact wpAny_pure hQ
        | (refine wpAny_bind (wpAny_load ho ?_)
           rw [hc, hd]
           show wpAny M A (if (["enumerate", "zip", "dict_itemiterator", "dict_reverseitemiterator", "odict_iterator", "itertools.zip_longest", "itertools.pairwise"].contains n && vs[0]? == some (rawInt _)) = true then _ else _) Q E s
           rw [if_neg (by intro h; rw [hn, Bool.false_and] at h; cases h)]
           exact wpAny_pure hQ))


def Itl (K : PySem.W.Frag) (a : Addr) : It :=
  ⟨fun i H => ∃ xs x, SqL K H a xs ∧ xs[i]? = some x, fun i H x H' => H' = H ∧ ∀ xs, SqL K H a xs → xs[i]? = some x, fun i H => ∃ xs, SqL K H a xs ∧ xs.length ≤ i⟩
def Itt (K : PySem.W.Frag) (a : Addr) : It :=
  ⟨fun i H => ∃ xs x, SqT K H a xs ∧ xs[i]? = some x, fun i H x H' => H' = H ∧ ∀ xs, SqT K H a xs → xs[i]? = some x, fun i H => ∃ xs, SqT K H a xs ∧ xs.length ≤ i⟩

def Itr (lo : Int) (n : Nat) : It := ⟨fun i _ => i < n, fun i H x H' => H' = H ∧ x = .int (lo + i), fun i _ => n ≤ i⟩
theorem turn_list {P : Program} {w : World} {K : PySem.W.Frag} {tg : Expr} (a it : Addr) : Turn P w K tg (Itl K a) [it] it (fun i h => h.IsListIter it a i) where
  mem := by simp
  obj := fun i h st b hb => by
    have e : b = it := by simpa using hb
    subst e
    obtain ⟨o, e, c, d⟩ := st
    exact ⟨o, e, fun v z => by rw [d] at z; cases z⟩
  keep := fun i h h' st k => st.at fun o e => k it (by simp) o e
  item := by
    intro X hP hw hK hc i pins s σ H E I hf st hg
    subst hP hw hK
    obtain ⟨xs, x, hq, hx⟩ := hg
    obtain ⟨its, rv, p, hz⟩ := I.list hq
    obtain ⟨u, hu, ru⟩ := rv.get hx
    obtain ⟨f0, f1, f2, f3, f4, f5⟩ := hf it (by simp)
    refine wpAny_pyNext_list_item st p.isList (x := u) (by simpa using hu) fun h' st' sb => ?_
    have I1 : Inv X pins σ H { s with heap := h' } := I.turned (t' := s.toks) (fun b o hb e => (sb.2 b hb).trans e) f0 f1 f3 f4 f5
    obtain ⟨o, e, c, d⟩ := id st'
    exact ⟨u, rfl, go_of (s := { s with heap := h' }) e c d (by decide) ⟨x, H, I1, ru, ⟨rfl, fun ys hy => by rw [I.list_inj hy hq]; exact hx⟩, st', fun b hb => (hf b hb).1⟩⟩
  done := by
    intro X hP hw hK hc i pins s σ H E I hf st hg
    subst hP hw hK
    obtain ⟨xs, hq, hx⟩ := hg
    obtain ⟨its, rv, p, hz⟩ := I.list hq
    obtain ⟨f0, f1, f2, f3, f4, f5⟩ := hf it (by simp)
    have hl := rv.length
    exact wpAny_pyNext_list_end (I.ok.hd hc) st p.isList (by simp; omega) fun h' eb => ⟨rfl, I.turned (t' := s.toks) (fun b o hb e => eb b o hb e) f0 f1 f3 f4 f5⟩
  self := fun _ _ _ _ _ st h => wpAny_pyIter_listiter st h
theorem turn_tuple {P : Program} {w : World} {K : PySem.W.Frag} {tg : Expr} (a it : Addr) : Turn P w K tg (Itt K a) [it] it (fun i h => h.IsTupleIter it a i) where
  mem := by simp
  obj := fun i h st b hb => by
    have e : b = it := by simpa using hb
    subst e
    obtain ⟨o, e, c, d⟩ := st
    exact ⟨o, e, fun v z => by rw [d] at z; cases z⟩
  keep := fun i h h' st k => st.at fun o e => k it (by simp) o e
  item := by
    intro X hP hw hK hc i pins s σ H E I hf st hg
    subst hP hw hK
    obtain ⟨xs, x, hq, hx⟩ := hg
    obtain ⟨its, rv, p, hz⟩ := I.tuple hq
    obtain ⟨u, hu, ru⟩ := rv.get hx
    obtain ⟨f0, f1, f2, f3, f4, f5⟩ := hf it (by simp)
    refine wpAny_pyNext_tuple_item st (show s.heap.IsTuple a its.toArray from p) (x := u) (by simpa using hu) fun h' st' sb => ?_
    have I1 : Inv X pins σ H { s with heap := h' } := I.turned (t' := s.toks) (fun b o hb e => (sb.2 b hb).trans e) f0 f1 f3 f4 f5
    obtain ⟨o, e, c, d⟩ := id st'
    exact ⟨u, rfl, go_of (s := { s with heap := h' }) e c d (by decide) ⟨x, H, I1, ru, ⟨rfl, fun ys hy => by rw [I.tuple_inj hy hq]; exact hx⟩, st', fun b hb => (hf b hb).1⟩⟩
  done := by
    intro X hP hw hK hc i pins s σ H E I hf st hg
    subst hP hw hK
    obtain ⟨xs, hq, hx⟩ := hg
    obtain ⟨its, rv, p, hz⟩ := I.tuple hq
    obtain ⟨f0, f1, f2, f3, f4, f5⟩ := hf it (by simp)
    have hl := rv.length
    exact wpAny_pyNext_tuple_end (I.ok.hd hc) st (show s.heap.IsTuple a its.toArray from p) (by simp; omega) fun h' eb => ⟨rfl, I.turned (t' := s.toks) (fun b o hb e => eb b o hb e) f0 f1 f3 f4 f5⟩
  self := fun _ _ _ _ _ st h => wpAny_pyIter_tupleiter st h
theorem turn_range {P : Program} {w : World} {K : PySem.W.Frag} {tg : Expr} (it : Addr) (lo : Int) (n : Nat) : Turn P w K tg (Itr lo n) [it] it (fun i h => IsRangeIter h it (lo + (i : Nat) * 1) ((n : Int) - (i : Nat)) 1) where
  mem := by simp
  obj := fun i h st b hb => by
    have e : b = it := by simpa using hb
    subst e
    exact ⟨_, st, fun v z => by
      have z' : Data.fields _ = Data.cell v := z
      cases z'⟩
  keep := fun i h h' st k => k it (by simp) _ st
  item := by
    intro X hP hw hK hc i pins s σ H E I hf st hg
    subst hP hw hK
    obtain ⟨f0, f1, f2, f3, f4, f5⟩ := hf it (by simp)
    have W := Walks.range (prog := X.prog) (w := X.w) (I.ok.hd hc) it lo 1 n
    refine W.item i s _ _ hg st fun v h' tk hv st' kk => ?_
    obtain ⟨t, rfl⟩ := hv
    have I1 : Inv X pins σ H { s with heap := h', toks := tk } := I.turned (fun b o hb e => kk b o (by simpa using hb) e) f0 f1 f3 f4 f5
    refine ⟨_, rfl, go_of (s := { s with heap := h', toks := tk }) (n := "range_iterator") st' rfl rfl (by decide) ⟨.int (lo + i), H, I1, ⟨t, ?_⟩, ⟨rfl, rfl⟩, st', fun b hb => (hf b hb).1⟩⟩
    rw [Int.mul_one]
  done := by
    intro X hP hw hK hc i pins s σ H E I hf st hg
    subst hP hw hK
    obtain ⟨f0, f1, f2, f3, f4, f5⟩ := hf it (by simp)
    exact wpAny_pyNext_range_end (I.ok.hd hc) st (by have : n ≤ i := hg; omega) fun h' eb => ⟨rfl, I.turned (t' := s.toks) (fun b o hb e => eb b o hb e) f0 f1 f3 f4 f5⟩
  self := fun _ _ _ _ _ st h => wpAny_pyIter_rangeiter st h
end L2

namespace L2
open PySem PySem.Spec PyProof.Rows
section
variable {X : Cx} {tg : Expr}
theorem range_it {pins : List (Addr × Obj)} {σ : St} {H : Hp} {s : Shared} {R : It → Hp → Prop} {E : Value → Shared → Prop} {lo hi : Int} {t u v : Tok} {tk : Nat} (I : Inv X pins σ H s) (h1 : -(2 ^ 62) ≤ lo) (h2 : lo < 2 ^ 62) (h3 : -(2 ^ 62) ≤ hi) (h4 : hi < 2 ^ 62)
    (q : R (Itr lo (hi - lo).toNat) H) : wpAny (model X.prog X.w) X.A (pyIter (.ref s.heap.objs.size)) (PIE X pins σ tg R) E { s with heap := s.heap.push { cls := .type "range", data := .fields #[.int lo t, .int hi u, .int 1 v] }, toks := tk } := by
  refine wpAny_pyIter_range (IsRange.new ..) (small_one h1 h2 h3 h4) ?_
  have I1 : Inv X pins σ H { s with heap := s.heap.push { cls := .type "range", data := .fields #[.int lo t, .int hi u, .int 1 v] }, toks := tk } := I.kept fun b o e => Heap.get?_push_of_some _ e
  refine ⟨(s.heap.push { cls := .type "range", data := .fields #[.int lo t, .int hi u, .int 1 v] }).objs.size, [(s.heap.push { cls := .type "range", data := .fields #[.int lo t, .int hi u, .int 1 v] }).objs.size], _, _, H, rfl,
    I1.kept (t' := tk) fun b o e => Heap.get?_push_of_some _ e, turn_range _ lo (hi - lo).toNat, ?_, fun b hb => ?_, q⟩
  · have e1 : lo + ((0 : Nat) : Int) * 1 = lo := by simp
    have e2 : (((hi - lo).toNat : Nat) : Int) - ((0 : Nat) : Int) = Builtin.Range.rangeSize lo hi 1 := by rw [rangeSize_one]; split <;> omega
    show IsRangeIter _ _ (lo + ((0 : Nat) : Int) * 1) ((((hi - lo).toNat : Nat) : Int) - ((0 : Nat) : Int)) 1
    rw [e1, e2]
    exact Heap.get?_push_size _ rfl
  · have e : b = (s.heap.push { cls := .type "range", data := .fields #[.int lo t, .int hi u, .int 1 v] }).objs.size := by simpa using hb
    subst e
    exact I1.fpOk (Nat.le_refl _) (I1.hok.fresh (Nat.le_refl _))
def iRng1 (ta : TA) : TI := fun σ H R => ta σ H fun vs H1 => ∃ j : Int, vs = [.int j] ∧ -(2 ^ 62) ≤ j ∧ j < 2 ^ 62 ∧ R (Itr 0 j.toNat) H1
def iRng2 (ta : TA) : TI := fun σ H R => ta σ H fun vs H1 => ∃ i j : Int, vs = [.int i, .int j] ∧ (-(2 ^ 62) ≤ i ∧ i < 2 ^ 62 ∧ -(2 ^ 62) ≤ j ∧ j < 2 ^ 62) ∧ R (Itr i (j - i).toNat) H1
theorem pi_range1 {a : Expr} {ta : TA} {p pos : Pos} (hg : Gl X "range") (hm : X.mg "range" = none) (ha : PA X [a] ta) (hs : starEach [a] X.env = [(false, eval a X.env)] := by rfl) : PI X tg (.Call (.Name "range" p) [a] [] pos) (iRng1 ta) := by
  intro pins s σ H R I h
  refine Call_ (ld_blt I hg hm boot_range (PyProof.Rows.callWith_type1 (thn (ha pos pins s σ H _ I h) fun us s1 ⟨vs, H1, I1, r1, q1⟩ => ?_) hs rfl))
  obtain ⟨j, e, q1, q2, q⟩ := q1
  subst e
  cases r1 with
  | cons r rr =>
    cases rr
    obtain ⟨t, rfl⟩ := r
    exact call_range_1 (range_it I1 (by omega) (by omega) q1 q2 (by simpa using q))
theorem pi_range2 {a b : Expr} {ta : TA} {p pos : Pos} (hg : Gl X "range") (hm : X.mg "range" = none) (ha : PA X [a, b] ta) (hs : starEach [a, b] X.env = [(false, eval a X.env), (false, eval b X.env)] := by rfl) (hs2 : starEach [b] X.env = [(false, eval b X.env)] := by rfl) :
    PI X tg (.Call (.Name "range" p) [a, b] [] pos) (iRng2 ta) := by
  intro pins s σ H R I h
  refine Call_ (ld_blt I hg hm boot_range (PyProof.Rows.callWith_type1 (thn (ha pos pins s σ H _ I h) fun us s1 ⟨vs, H1, I1, r1, q1⟩ => ?_) (by rw [hs, hs2]) (by rw [hs2]; rfl)))
  obtain ⟨i, j, e, ⟨q1, q2, q3, q4⟩, q⟩ := q1
  subst e
  cases r1 with
  | cons r rr =>
    cases rr with
    | cons r' rr =>
      cases rr
      obtain ⟨t, rfl⟩ := r
      obtain ⟨t', rfl⟩ := r'
      exact call_range_2 (range_it I1 q1 q2 q3 q4 q)



def tFor (wi : TI) (g : TG) (tb : TS) : TS := fun D σ H => wi σ H fun J H1 => ∃ W : Nat → Nat → St → Hp → Prop, (∃ m, W 0 m σ H1) ∧ ∀ i m σ H, W i m σ H →
  (J.stop i H ∧ D.nx σ H) ∨ (J.go i H ∧ ∃ N : St → Hp → Prop, (∀ σ' H', N σ' H' → ∃ m', m' < m ∧ W (i + 1) m' σ' H') ∧ ∀ x H', J.yld i H x H' → g x σ H' fun σ2 H2 => tb { D with nx := N, ct := N, bk := D.nx } σ2 H2)

def pinsAt (fp : List Addr) (h : Heap) : List (Addr × Obj) := fp.filterMap fun b => (h.get? b).map fun o => (b, o)
theorem mem_pinsAt {fp : List Addr} {h : Heap} {b : Addr} {o : Obj} (hb : b ∈ fp) (e : h.get? b = some o) : (b, o) ∈ pinsAt fp h := List.mem_filterMap.mpr ⟨b, hb, by rw [e]; rfl⟩
theorem of_pinsAt {fp : List Addr} {h : Heap} {p : Addr × Obj} (hp : p ∈ pinsAt fp h) : p.1 ∈ fp ∧ h.get? p.1 = some p.2 := by
  obtain ⟨b, hb, e⟩ := List.mem_filterMap.mp hp
  cases q : h.get? b with
  | none => rw [q] at e; cases e
  | some o =>
    rw [q] at e
    have e' : (b, o) = p := Option.some.inj e
    subst e'
    exact ⟨hb, q⟩
theorem Inv.pinned {pins : List (Addr × Obj)} {σ : St} {H : Hp} {s : Shared} {fp : List Addr} (I : Inv X pins σ H s) (hf : ∀ b ∈ fp, FpOk X pins H b) (ho : ∀ b ∈ fp, ∃ o, s.heap.get? b = some o ∧ ∀ v, o.data ≠ .cell v) : Inv X (pins ++ pinsAt fp s.heap) σ H s :=
  I.pins_of fun p hp => (List.mem_append.mp hp).elim (fun z => I.pin p (List.mem_append_right _ z)) fun z => by
    obtain ⟨hb, e⟩ := of_pinsAt z
    obtain ⟨f0, f1, f2, _⟩ := hf p.1 hb
    obtain ⟨o, e', d⟩ := ho p.1 hb
    rw [e] at e'; cases e'
    exact ⟨e, f0, f1, f2, d⟩
theorem Inv.unpinned {pins pl : List (Addr × Obj)} {σ : St} {H : Hp} {s : Shared} (I : Inv X (pins ++ pl) σ H s) : Inv X pins σ H s := I.pins_of fun p hp => I.pin p (List.mem_append_right _ (List.mem_append_left _ hp))
theorem ps_for {iter : Expr} {body : List Stmt} {wi : TI} {g : TG} {tb : TS} {pos : Pos} (hp : PassesOwn (model X.prog X.w) X.A X.env X.xe) (hc : X.calm = true) (hi : PI X tg iter wi) (hg : PG X tg g) (hb : PSs X body tb)
    (hs : ∀ x, foldedSetIterable iter X.env x = pure x := by intro _; rfl) : PS X (.For tg iter body [] pos) (tFor wi g tb) := by
  intro pins s σ H D I h
  refine wpAny_For (thn (hi pins s σ H _ I h) fun v s1 h1 => thn h1 fun itv s2 h2 => ?_) hs
  obtain ⟨it, fp, tn, J, H2, e, I2, T, st2, f2, W, ⟨m0, w0⟩, turn⟩ := h2
  subst e
  -- what stays true of the iterator's objects through the loop
  have stat : ∀ {H' : Hp}, (∀ b ∈ fp, H' b = none) → ∀ b ∈ fp, FpOk X pins H' b := fun hn b hb => ⟨hn b hb, (f2 b hb).2⟩
  refine codeAny_forLoop_any (fun n s' => ∃ i σ' H', Inv X pins σ' H' s' ∧ tn i s'.heap ∧ (∀ b ∈ fp, H' b = none) ∧ W i n σ' H') ?_ m0 ⟨0, σ, H2, I2, st2, fun b hb => (f2 b hb).1, w0⟩
  rintro n s3 ⟨i, σ3, H3, I3, st3, fr3, w3⟩
  rcases turn i n σ3 H3 w3 with ⟨stop, qn⟩ | ⟨go, N, hN, step⟩
  · refine wpAny_passesOwn hp (thn (T.done X rfl rfl rfl hc i pins s3 σ3 H3 X.xe I3 (stat fr3) st3 stop) fun r s4 ⟨hr, I4⟩ => ?_)
    subst hr
    exact wpAny_execs_nil ⟨σ3, H3, I4, qn⟩
  · refine wpAny_passesOwn hp (thn (T.item X rfl rfl rfl hc i pins s3 σ3 H3 X.xe I3 (stat fr3) st3 go) fun r s4 ⟨u, hr, h4⟩ => ?_)
    subst hr
    refine wpAny_passesOwn hp (thn h4 fun _ s5 ⟨x, H5, I5, r5, y5, st5, fr5⟩ => ?_)
    have I5' := I5.pinned (stat fr5) (T.obj _ _ st5)
    refine wpAny_passesOwn hp (thn (hg _ s5 σ3 H5 x u _ I5' r5 (step x H5 y5)) fun _ s6 ⟨σ6, H6, I6, q6⟩ => ?_)
    refine wpAny_passesOwn hp (thn (hb _ s6 σ6 H6 _ I6 q6) fun f s7 q7 => ?_)
    have again : ∀ {σ7 : St} {H7 : Hp}, Inv X (pins ++ pinsAt fp s5.heap) σ7 H7 s7 → N σ7 H7 → ∃ m, m < n ∧ ∃ i σ' H', Inv X pins σ' H' s7 ∧ tn i s7.heap ∧ (∀ b ∈ fp, H' b = none) ∧ W i m σ' H' := fun {σ7 H7} I7 n7 => by
      obtain ⟨m', hm, w7⟩ := hN σ7 H7 n7
      refine ⟨m', hm, i + 1, σ7, H7, I7.unpinned, T.keep _ _ _ st5 fun b hb o e => (I7.pin (b, o) (List.mem_append_right _ (List.mem_append_right _ (mem_pinsAt hb e)))).1, fun b hb => ?_, w7⟩
      obtain ⟨o, e, d⟩ := T.obj _ _ st5 b hb
      exact (I7.pin (b, o) (List.mem_append_right _ (List.mem_append_right _ (mem_pinsAt hb e)))).2.1
    cases f with
    | next => obtain ⟨σ7, H7, I7, n7⟩ := q7; exact again I7 n7
    | cont => obtain ⟨σ7, H7, I7, n7⟩ := q7; exact again I7 n7
    | brk => obtain ⟨σ7, H7, I7, q7⟩ := q7; exact ⟨σ7, H7, I7.unpinned, q7⟩
    | ret v => obtain ⟨x7, σ7, H7, I7, r7, q7⟩ := q7; exact ⟨x7, σ7, H7, I7.unpinned, r7, q7⟩
end



theorem for_list {K : PySem.W.Frag} {a : Addr} {xs : List V} {g : TG} {tb : TS} {D : Ends} {σ : St} {H : Hp} (Pv : Nat → St → Hp → Prop) (h0 : Pv 0 σ H) (hl : ∀ i σ H, i ≤ xs.length → Pv i σ H → SqL K H a xs)
    (hs : ∀ i x σ H, xs[i]? = some x → Pv i σ H → g x σ H fun σ2 H2 => tb { D with nx := Pv (i + 1), ct := Pv (i + 1), bk := D.nx } σ2 H2) (hd : ∀ σ H, Pv xs.length σ H → D.nx σ H) :
    ∃ W : Nat → Nat → St → Hp → Prop, (∃ m, W 0 m σ H) ∧ ∀ i m σ H, W i m σ H →
      ((Itl K a).stop i H ∧ D.nx σ H) ∨ ((Itl K a).go i H ∧ ∃ N : St → Hp → Prop, (∀ σ' H', N σ' H' → ∃ m', m' < m ∧ W (i + 1) m' σ' H') ∧ ∀ x H', (Itl K a).yld i H x H' → g x σ H' fun σ2 H2 => tb { D with nx := N, ct := N, bk := D.nx } σ2 H2) := by
  refine ⟨fun i m σ H => m = xs.length - i ∧ i ≤ xs.length ∧ Pv i σ H, ⟨xs.length, by simp, Nat.zero_le _, h0⟩, ?_⟩
  rintro i m σ H ⟨rfl, hi, p⟩
  have q := hl i σ H hi p
  by_cases hlt : i < xs.length
  · refine .inr ⟨⟨xs, xs[i], q, by simp [hlt]⟩, Pv (i + 1), fun σ' H' p' => ⟨xs.length - (i + 1), by omega, rfl, hlt, p'⟩, fun x H' y => ?_⟩
    obtain ⟨e, y⟩ := y
    subst e
    exact hs i x σ _ (y xs q) p
  · have e : i = xs.length := by omega
    subst e
    exact .inl ⟨⟨xs, q, Nat.le_refl _⟩, hd σ H p⟩
theorem for_range {lo : Int} {n : Nat} {g : TG} {tb : TS} {D : Ends} {σ : St} {H : Hp} (Pv : Nat → St → Hp → Prop) (h0 : Pv 0 σ H)
    (hs : ∀ i σ H, i < n → Pv i σ H → g (.int (lo + i)) σ H fun σ2 H2 => tb { D with nx := Pv (i + 1), ct := Pv (i + 1), bk := D.nx } σ2 H2) (hd : ∀ σ H, Pv n σ H → D.nx σ H) :
    ∃ W : Nat → Nat → St → Hp → Prop, (∃ m, W 0 m σ H) ∧ ∀ i m σ H, W i m σ H →
      ((Itr lo n).stop i H ∧ D.nx σ H) ∨ ((Itr lo n).go i H ∧ ∃ N : St → Hp → Prop, (∀ σ' H', N σ' H' → ∃ m', m' < m ∧ W (i + 1) m' σ' H') ∧ ∀ x H', (Itr lo n).yld i H x H' → g x σ H' fun σ2 H2 => tb { D with nx := N, ct := N, bk := D.nx } σ2 H2) := by
  refine ⟨fun i m σ H => m = n - i ∧ i ≤ n ∧ Pv i σ H, ⟨n, by simp, Nat.zero_le _, h0⟩, ?_⟩
  rintro i m σ H ⟨rfl, hi, p⟩
  by_cases hlt : i < n
  · refine .inr ⟨hlt, Pv (i + 1), fun σ' H' p' => ⟨n - (i + 1), by omega, rfl, hlt, p'⟩, fun x H' y => ?_⟩
    obtain ⟨e, y⟩ := y
    subst e y
    exact hs i σ _ hlt p
  · have e : i = n := by omega
    subst e
    exact .inl ⟨Nat.le_refl _, hd σ H p⟩

end L2

namespace L2
open PySem PySem.Spec PyProof.Rows

abbrev R2 := V → V → Hp → VK → Prop

def OpR (X : Cx) (f : Value → Value → Sem Value) (r : R2) : Prop :=
  ∀ (pins : List (Addr × Obj)) (s : Shared) (σ : St) (H : Hp) (x y : V) (v u : Value) (Q : VK), Inv X pins σ H s → RelV x v → RelV y u → r x y H Q →
    wpAny (model X.prog X.w) X.A (f v u) (EP X pins σ Q) X.xe s

def UnR (X : Cx) (f : Value → Sem Value) (r : V → Hp → VK → Prop) : Prop :=
  ∀ (pins : List (Addr × Obj)) (s : Shared) (σ : St) (H : Hp) (x : V) (v : Value) (Q : VK), Inv X pins σ H s → RelV x v → r x H Q →
    wpAny (model X.prog X.w) X.A (f v) (EP X pins σ Q) X.xe s

def CallR (X : Cx) (f : Value) (r : List V → Hp → VK → Prop) : Prop :=
  ∀ (pins : List (Addr × Obj)) (s : Shared) (σ : St) (H : Hp) (xs : List V) (us : List Value) (Q : VK), Inv X pins σ H s → Vals xs us → r xs H Q →
    wpAny (model X.prog X.w) X.A (call f us) (EP X pins σ Q) X.xe s

def TruR (X : Cx) (r : V → Hp → (Bool → Hp → Prop) → Prop) : Prop :=
  ∀ (pins : List (Addr × Obj)) (s : Shared) (σ : St) (H : Hp) (x : V) (v : Value) (Q : Bool → Hp → Prop), Inv X pins σ H s → RelV x v → r x H Q →
    wpAny (model X.prog X.w) X.A (truthy v) (TP X pins σ Q) X.xe s

def tOp (r : R2) (ta tb : TE) : TE := fun σ H Q => ta σ H fun x H1 => tb σ H1 fun y H2 => r x y H2 Q
def tUn (r : V → Hp → VK → Prop) (ta : TE) : TE := fun σ H Q => ta σ H fun x H1 => r x H1 Q

def rI (C : Int → Int → Prop) (g : Int → Int → V) : R2 := fun x y H Q => ∃ i j, x = .int i ∧ y = .int j ∧ C i j ∧ Q (g i j) H
def rI0 (g : Int → Int → V) : R2 := fun x y H Q => ∃ i j, x = .int i ∧ y = .int j ∧ Q (g i j) H
def rU (g : Int → V) : V → Hp → VK → Prop := fun x H Q => ∃ i, x = .int i ∧ Q (g i) H

section
variable {X : Cx} {a b c : Expr} {ta tb tc : TE} {pos : Pos}

theorem binT (ha : PE X a ta) (hb : PE X b tb) {pins : List (Addr × Obj)} {s : Shared} {σ : St} {H : Hp} {R : V → V → Hp → Prop} (I : Inv X pins σ H s)
    (h : ta σ H fun x H1 => tb σ H1 fun y H2 => R x y H2) {Q : Value → Shared → Prop} {f : Value → Value → Sem Value}
    (hf : ∀ v u s2 x y H2, Inv X pins σ H2 s2 → RelV x v → RelV y u → R x y H2 → wpAny (model X.prog X.w) X.A (f v u) Q X.xe s2) :
    wpAny (model X.prog X.w) X.A (eval a X.env) (fun v s₁ => wpAny (model X.prog X.w) X.A (eval b X.env) (fun u s₂ => wpAny (model X.prog X.w) X.A (f v u) Q X.xe s₂) X.xe s₁) X.xe s := by
  refine thn (ha pins s σ H _ I h) fun v s1 ⟨x, H1, I1, r1, q1⟩ => ?_
  refine thn (hb pins s1 σ H1 _ I1 q1) fun u s2 ⟨y, H2, I2, r2, q2⟩ => ?_
  exact hf v u s2 x y H2 I2 r1 r2 q2

theorem pe_op {op : Operator} {r : R2} (ho : OpR X (binaryOp op) r) (ha : PE X a ta) (hb : PE X b tb) : PE X (.BinOp a op b pos) (tOp r ta tb) := by
  intro pins s σ H Q I h
  exact wpAny_BinOp (binT ha hb I h fun v u s2 x y H2 I2 rx ry q => ho pins s2 σ H2 x y v u Q I2 rx ry q)
theorem pe_un {op : UnaryOp} {r : V → Hp → VK → Prop} (ho : UnR X (unaryOp op) r) (ha : PE X a ta) : PE X (.UnaryOp op a pos) (tUn r ta) := by
  intro pins s σ H Q I h
  exact UnaryOp_ (thn (ha pins s σ H _ I h) fun v s1 ⟨x, H1, I1, r1, q1⟩ => ho pins s1 σ H1 x v Q I1 r1 q1)

theorem opI {f : Value → Value → Sem Value} {C : Int → Int → Prop} {g : Int → Int → Int}
    (rule : ∀ (i j : Int) (t u : Tok) (s : Shared) (Q : Value → Shared → Prop) (E : Value → Shared → Prop), C i j → Q (.int (g i j) s.toks) { s with toks := s.toks + 1 } → wpAny (model X.prog X.w) X.A (f (.int i t) (.int j u)) Q E s) :
    OpR X f (rI C fun i j => .int (g i j)) := by
  intro pins s σ H x y v u Q I rx ry h
  obtain ⟨i, j, rfl, rfl, hc, q⟩ := h
  obtain ⟨t, rfl⟩ := rx
  obtain ⟨t', rfl⟩ := ry
  exact rule i j t t' s _ _ hc ⟨.int (g i j), H, I.tok _, ⟨_, rfl⟩, q⟩
theorem opI0 {f : Value → Value → Sem Value} {g : Int → Int → Int}
    (rule : ∀ (i j : Int) (t u : Tok) (s : Shared) (Q : Value → Shared → Prop) (E : Value → Shared → Prop), Q (.int (g i j) s.toks) { s with toks := s.toks + 1 } → wpAny (model X.prog X.w) X.A (f (.int i t) (.int j u)) Q E s) :
    OpR X f (rI0 fun i j => .int (g i j)) := by
  intro pins s σ H x y v u Q I rx ry h
  obtain ⟨i, j, rfl, rfl, q⟩ := h
  obtain ⟨t, rfl⟩ := rx
  obtain ⟨t', rfl⟩ := ry
  exact rule i j t t' s _ _ ⟨.int (g i j), H, I.tok _, ⟨_, rfl⟩, q⟩
theorem opB0 {f : Value → Value → Sem Value} {g : Int → Int → Bool}
    (rule : ∀ (i j : Int) (t u : Tok) (s : Shared) (Q : Value → Shared → Prop) (E : Value → Shared → Prop), Q (.bool (g i j)) s → wpAny (model X.prog X.w) X.A (f (.int i t) (.int j u)) Q E s) :
    OpR X f (rI0 fun i j => .bl (g i j)) := by
  intro pins s σ H x y v u Q I rx ry h
  obtain ⟨i, j, rfl, rfl, q⟩ := h
  obtain ⟨t, rfl⟩ := rx
  obtain ⟨t', rfl⟩ := ry
  exact rule i j t t' s _ _ ⟨.bl (g i j), H, I, rfl, q⟩

def CDiv (i j : Int) : Prop := 0 < j ∧ j < 1073741824
theorem two_pow_nn (k : Nat) : (0 : Int) ≤ 2 ^ k := by
  rw [two_pow_cast]
  exact Int.natCast_nonneg _

theorem op_add : OpR X (binaryOp .Add) (rI0 fun i j => .int (i + j)) := opI0 fun _ _ _ _ _ _ _ q => add_int q
theorem op_sub : OpR X (binaryOp .Sub) (rI0 fun i j => .int (i - j)) := opI0 fun _ _ _ _ _ _ _ q => sub_int q
theorem op_fdiv : OpR X (binaryOp .FloorDiv) (rI CDiv fun i j => .int (i / j)) := opI fun i j _ _ _ _ _ hc q => by
  have h1 : (0 : Int) < j := hc.1
  have h2 : j < 1073741824 := hc.2
  exact floordiv_int (by omega) (by rw [Int.fdiv_eq_ediv_of_nonneg i (by omega)]; exact q) (.inl (PyProof.noPylong_small (by omega)))
theorem op_mod : OpR X (binaryOp .Mod) (rI (fun _ j => 0 < j) fun i j => .int (i % j)) := opI fun i j _ _ _ _ _ hc q => by
  have h1 : (0 : Int) < j := hc
  exact mod_int' (by omega) (by rw [Int.fmod_eq_emod_of_nonneg i (by omega)]; exact q)
theorem op_shr : OpR X (binaryOp .RShift) (rI (fun _ j => 0 ≤ j) fun i j => .int (i / 2 ^ j.toNat)) := opI fun i j _ _ _ _ _ hc q =>
  rshift_int hc (by rw [Int.fdiv_eq_ediv_of_nonneg i (two_pow_nn _)]; exact q)
theorem op_and : OpR X (binaryOp .BitAnd) (rI0 fun i j => .int (Builtin.bitAnd i j)) := opI0 fun _ _ _ _ _ _ _ q => and_int q
theorem op_or : OpR X (binaryOp .BitOr) (rI0 fun i j => .int (Builtin.bitOr i j)) := opI0 fun _ _ _ _ _ _ _ q => or_int q
theorem unI {f : Value → Sem Value} {g : Int → Int}
    (rule : ∀ (i : Int) (t : Tok) (s : Shared) (Q : Value → Shared → Prop) (E : Value → Shared → Prop), Q (.int (g i) s.toks) { s with toks := s.toks + 1 } → wpAny (model X.prog X.w) X.A (f (.int i t)) Q E s) :
    UnR X f (rU fun i => .int (g i)) := by
  intro pins s σ H x v Q I rx h
  obtain ⟨i, rfl, q⟩ := h
  obtain ⟨t, rfl⟩ := rx
  exact rule i t s _ _ ⟨.int (g i), H, I.tok _, ⟨_, rfl⟩, q⟩
theorem un_neg : UnR X (unaryOp .USub) (rU fun i => .int (-i)) := unI fun _ _ _ _ _ q => neg_int q
theorem un_inv : UnR X (unaryOp .Invert) (rU fun i => .int (Builtin.bitNot i)) := unI fun _ _ _ _ _ q => invert_int q


end



def scal : V → V → Bool
  | .non, .non => true | .non, .int _ => true | .int _, .non => true | .non, .bl _ => true | .bl _, .non => true | .non, .str _ => true | .str _, .non => true
  | .int _, .int _ => true | .bl _, .bl _ => true | .str _, .str _ => true | .byt _, .byt _ => true
  | .int _, .str _ => true | .str _, .int _ => true | .bl _, .str _ => true | .str _, .bl _ => true
  | _, _ => false
def rEq : R2 := fun x y H Q => scal x y = true ∧ Q (.bl (decide (x = y))) H
def rNe : R2 := fun x y H Q => scal x y = true ∧ Q (.bl (!decide (x = y))) H

theorem dec_int {i j : Int} : decide (V.int i = V.int j) = (i == j) := by
  rw [Bool.eq_iff_iff]
  simp
theorem dec_bl {i j : Bool} : decide (V.bl i = V.bl j) = (i == j) := by
  rw [Bool.eq_iff_iff]
  simp
theorem dec_str {i j : Str} : decide (V.str i = V.str j) = (i == j) := by
  rw [Bool.eq_iff_iff]
  simp
theorem dec_byt {i j : Array UInt8} : decide (V.byt i = V.byt j) = (i.toList == j.toList) := by
  rw [Bool.eq_iff_iff]
  cases i
  cases j
  simp

section
variable {X : Cx} {a b c : Expr} {ta tb tc : TE} {pos : Pos}
theorem fin_bl {pins : List (Addr × Obj)} {σ : St} {H : Hp} {s : Shared} {Q : VK} {k k' : Bool} (I : Inv X pins σ H s) (q : Q (.bl k) H) (e : k = k') : EP X pins σ Q (.bool k') s := by
  subst e
  exact ⟨.bl k, H, I, rfl, q⟩
theorem op_eq : OpR X (compareOp .Eq) rEq := by
  intro pins s σ H x y v u Q I rx ry h
  obtain ⟨hs, q⟩ := h
  cases x with
  | non =>
    cases rx
    cases y with
    | non => cases ry; exact PySem.EqNone.eq_none_none (fin_bl I q (by simp))
    | bl j => cases ry; exact PySem.EqNone.eq_none_bool (fin_bl I q (by simp))
    | int j => obtain ⟨t', rfl⟩ := ry; exact PySem.EqNone.eq_none_int (fin_bl I q (by simp))
    | str j => obtain ⟨t', rfl⟩ := ry; exact PySem.EqNone.eq_none_str (fin_bl I q (by simp))
    | _ => exact absurd (show false = true from hs) Bool.false_ne_true
  | bl i =>
    cases rx
    cases y with
    | non => cases ry; exact PySem.EqNone.eq_bool_none (fin_bl I q (by simp))
    | bl j => cases ry; exact eq_bool (fin_bl I q dec_bl)
    | str j => obtain ⟨t', rfl⟩ := ry; exact PySem.EqMixed.eq_bool_str (fin_bl I q (by simp))
    | _ => exact absurd (show false = true from hs) Bool.false_ne_true
  | int i =>
    obtain ⟨t, rfl⟩ := rx
    cases y with
    | non => cases ry; exact PySem.EqNone.eq_int_none (fin_bl I q (by simp))
    | int j => obtain ⟨t', rfl⟩ := ry; exact eq_int (fin_bl I q dec_int)
    | str j => obtain ⟨t', rfl⟩ := ry; exact PySem.EqMixed.eq_int_str (fin_bl I q (by simp))
    | _ => exact absurd (show false = true from hs) Bool.false_ne_true
  | str i =>
    obtain ⟨t, rfl⟩ := rx
    cases y with
    | non => cases ry; exact PySem.EqNone.eq_str_none (fin_bl I q (by simp))
    | bl j => cases ry; exact PySem.EqMixed.eq_str_bool (fin_bl I q (by simp))
    | int j => obtain ⟨t', rfl⟩ := ry; exact PySem.EqMixed.eq_str_int (fin_bl I q (by simp))
    | str j => obtain ⟨t', rfl⟩ := ry; exact eq_str (fin_bl I q dec_str)
    | _ => exact absurd (show false = true from hs) Bool.false_ne_true
  | byt i =>
    obtain ⟨t, rfl⟩ := rx
    cases y with
    | byt j => obtain ⟨t', rfl⟩ := ry; exact PySem.W.eq_bytes (fin_bl I q dec_byt)
    | _ => exact absurd (show false = true from hs) Bool.false_ne_true
  | _ => cases y <;> exact absurd (show false = true from hs) Bool.false_ne_true
theorem op_ne : OpR X (compareOp .NotEq) rNe := by
  intro pins s σ H x y v u Q I rx ry h
  obtain ⟨hs, q⟩ := h
  cases x with
  | non =>
    cases rx
    cases y with
    | non => cases ry; exact PySem.EqNone.ne_none_none (fin_bl I q (by simp))
    | bl j => cases ry; exact PySem.EqNone.ne_none_bool (fin_bl I q (by simp))
    | int j => obtain ⟨t', rfl⟩ := ry; exact PySem.EqNone.ne_none_int (fin_bl I q (by simp))
    | str j => obtain ⟨t', rfl⟩ := ry; exact PySem.EqNone.ne_none_str (fin_bl I q (by simp))
    | _ => exact absurd (show false = true from hs) Bool.false_ne_true
  | bl i =>
    cases rx
    cases y with
    | non => cases ry; exact PySem.EqNone.ne_bool_none (fin_bl I q (by simp))
    | bl j => cases ry; exact ne_bool (fin_bl I q (congrArg not dec_bl))
    | str j => obtain ⟨t', rfl⟩ := ry; exact PySem.EqMixed.ne_bool_str (fin_bl I q (by simp))
    | _ => exact absurd (show false = true from hs) Bool.false_ne_true
  | int i =>
    obtain ⟨t, rfl⟩ := rx
    cases y with
    | non => cases ry; exact PySem.EqNone.ne_int_none (fin_bl I q (by simp))
    | int j => obtain ⟨t', rfl⟩ := ry; exact ne_int (fin_bl I q (congrArg not dec_int))
    | str j => obtain ⟨t', rfl⟩ := ry; exact PySem.EqMixed.ne_int_str (fin_bl I q (by simp))
    | _ => exact absurd (show false = true from hs) Bool.false_ne_true
  | str i =>
    obtain ⟨t, rfl⟩ := rx
    cases y with
    | non => cases ry; exact PySem.EqNone.ne_str_none (fin_bl I q (by simp))
    | bl j => cases ry; exact PySem.EqMixed.ne_str_bool (fin_bl I q (by simp))
    | int j => obtain ⟨t', rfl⟩ := ry; exact PySem.EqMixed.ne_str_int (fin_bl I q (by simp))
    | str j => obtain ⟨t', rfl⟩ := ry; exact ne_str (fin_bl I q (congrArg not dec_str))
    | _ => exact absurd (show false = true from hs) Bool.false_ne_true
  | byt i =>
    obtain ⟨t, rfl⟩ := rx
    cases y with
    | byt j => obtain ⟨t', rfl⟩ := ry; exact PySem.W.ne_bytes (fin_bl I q (congrArg not dec_byt))
    | _ => exact absurd (show false = true from hs) Bool.false_ne_true
  | _ => cases y <;> exact absurd (show false = true from hs) Bool.false_ne_true

theorem op_lt : OpR X (compareOp .Lt) (rI0 fun i j => .bl (decide (i < j))) := opB0 fun _ _ _ _ _ _ _ q => lt_int q
theorem op_le : OpR X (compareOp .LtE) (rI0 fun i j => .bl (decide (i ≤ j))) := opB0 fun _ _ _ _ _ _ _ q => le_int q
theorem op_gt : OpR X (compareOp .Gt) (rI0 fun i j => .bl (decide (j < i))) := opB0 fun _ _ _ _ _ _ _ q => gt_int q
theorem op_ge : OpR X (compareOp .GtE) (rI0 fun i j => .bl (decide (j ≤ i))) := opB0 fun _ _ _ _ _ _ _ q => ge_int q
theorem op_isN : OpR X (compareOp .Is) (fun x y H Q => y = .non ∧ Q (.bl (decide (x = .non))) H) := by
  intro pins s σ H x y v u Q I rx ry h
  obtain ⟨rfl, q⟩ := h
  cases ry
  refine is_none_gen (fin_bl I q ?_)
  cases x <;> first
    | (cases rx; rfl)
    | (obtain ⟨t, rfl⟩ := rx; rfl)
theorem op_notN : OpR X (compareOp .IsNot) (fun x y H Q => y = .non ∧ Q (.bl (!decide (x = .non))) H) := by
  intro pins s σ H x y v u Q I rx ry h
  obtain ⟨rfl, q⟩ := h
  cases ry
  refine isnot_none_gen (fin_bl I q ?_)
  cases x <;> first
    | (cases rx; rfl)
    | (obtain ⟨t, rfl⟩ := rx; rfl)

theorem OpR.or {f : Value → Value → Sem Value} {r r' : R2} (h : OpR X f r) (h' : OpR X f r') : OpR X f (fun x y H Q => r x y H Q ∨ r' x y H Q) := by
  intro pins s σ H x y v u Q I rx ry q
  rcases q with q | q
  · exact h pins s σ H x y v u Q I rx ry q
  · exact h' pins s σ H x y v u Q I rx ry q

theorem nomark (b : Expr) {op : CmpOp} (h : op ≠ .In := by decide) (h2 : op ≠ .NotIn := by decide) : behindInMarks op b = false := by
  have e1 : (op == CmpOp.In) = false := by cases op <;> first | rfl | exact absurd rfl h
  have e2 : (op == CmpOp.NotIn) = false := by cases op <;> first | rfl | exact absurd rfl h2
  cases b <;> simp [behindInMarks, e1, e2]

theorem pe_cmpR {op : CmpOp} {r : R2} (ho : OpR X (compareOp op) r) (ha : PE X a ta) (hb : PE X b tb) (hm : behindInMarks op b = false) : PE X (.Compare a [op] [b] pos) (tOp r ta tb) := by
  intro pins s σ H Q I h
  exact wpAny_Compare1 (binT ha hb I h fun v u s2 x y H2 I2 rx ry q => ho pins s2 σ H2 x y v u Q I2 rx ry q) hm

def tTest (t : TE) : TT := fun σ H Q => t σ H fun x H' => ∃ k, x = .bl k ∧ Q k H'
theorem pt_cmpR {op : CmpOp} {r : R2} (ho : OpR X (compareOp op) r) (ha : PE X a ta) (hb : PE X b tb) (hm : behindInMarks op b = false) : PT X (.Compare a [op] [b] pos) (tTest (tOp r ta tb)) := by
  intro pins s σ H Q I h
  refine wpAny_isTrue_Compare1 (thn (ha pins s σ H _ I h) fun v s1 ⟨x, H1, I1, r1, q1⟩ => thn (hb pins s1 σ H1 _ I1 q1) fun u s2 ⟨y, H2, I2, r2, q2⟩ =>
    thn (ho pins s2 σ H2 x y v u _ I2 r1 r2 q2) fun c s3 ⟨z, H3, I3, r3, k, e, q3⟩ => ?_) hm
  subst e
  cases r3
  exact wpAny_truthy_bool ⟨H3, I3, q3⟩

def tChain (r r' : R2) (ta tb tc : TE) : TE := fun σ H Q => ta σ H fun x H1 => tb σ H1 fun y H2 => r x y H2 fun z H3 => ∃ k, z = .bl k ∧
  (if k = true then tc σ H3 fun w' H4 => r' y w' H4 Q else Q (.bl false) H3)
theorem pe_chain {op op' : CmpOp} {r r' : R2} (ho : OpR X (compareOp op) r) (ho' : OpR X (compareOp op') r') (ha : PE X a ta) (hb : PE X b tb) (hc : PE X c tc)
    (hm : lastMarks [op, op'] [b, c] = false := by with_unfolding_all rfl) : PE X (.Compare a [op, op'] [b, c] pos) (tChain r r' ta tb tc) := by
  intro pins s σ H Q I h
  refine Compare_chain (thn (ha pins s σ H _ I h) fun v s1 ⟨x, H1, I1, r1, q1⟩ => chain_link (thn (hb pins s1 σ H1 _ I1 q1) fun u s2 ⟨y, H2, I2, r2, q2⟩ =>
    thn (ho pins s2 σ H2 x y v u _ I2 r1 r2 q2) fun d s3 ⟨z, H3, I3, r3, k, e, q3⟩ => ?_)) hm
  subst e
  cases r3
  refine wpAny_truthy_bool ?_
  cases k with
  | false => exact ite_ff ⟨.bl false, H3, I3, rfl, q3⟩
  | true => exact ite_tt (chain_last (thn (hc pins s3 σ H3 _ I3 q3) fun w' s4 ⟨z', H4, I4, r4, q4⟩ => ho' pins s4 σ H4 y z' u w' Q I4 r2 r4 q4))
theorem pt_chain {op op' : CmpOp} {r r' : R2} (ho : OpR X (compareOp op) r) (ho' : OpR X (compareOp op') r') (ha : PE X a ta) (hb : PE X b tb) (hc : PE X c tc)
    (hm : lastMarks [op, op'] [b, c] = false := by with_unfolding_all rfl) : PT X (.Compare a [op, op'] [b, c] pos) (tTest (tChain r r' ta tb tc)) := by
  intro pins s σ H Q I h
  refine isTrue_chain (thn (ha pins s σ H _ I h) fun v s1 ⟨x, H1, I1, r1, q1⟩ => test_link (thn (hb pins s1 σ H1 _ I1 q1) fun u s2 ⟨y, H2, I2, r2, q2⟩ =>
    thn (ho pins s2 σ H2 x y v u _ I2 r1 r2 q2) fun d s3 ⟨z, H3, I3, r3, k, e, q3⟩ => ?_)) hm
  subst e
  cases r3
  refine wpAny_truthy_bool ?_
  cases k with
  | false =>
    obtain ⟨k', e', q'⟩ := q3
    cases e'
    exact ite_ff ⟨H3, I3, q'⟩
  | true =>
    refine ite_tt (test_last (thn (hc pins s3 σ H3 _ I3 q3) fun w' s4 ⟨z', H4, I4, r4, q4⟩ => thn (ho' pins s4 σ H4 y z' u w' _ I4 r2 r4 q4) fun d' s5 ⟨z2, H5, I5, r5, k2, e2, q5⟩ => ?_))
    subst e2
    cases r5
    exact wpAny_truthy_bool ⟨H5, I5, q5⟩



def TruV (K : PySem.W.Frag) (x : V) (H : Hp) (k : Bool) : Prop :=
  match x with
  | .non => k = false
  | .bl b => k = b
  | .int i => k = (i != 0)
  | .str y => y.length ≤ sizeLine ∧ k = ((y.length : Int) != 0)
  | .byt y => y.size ≤ sizeLine ∧ k = ((y.size : Int) != 0)
  | .ref p => (∃ xs, SqL K H p xs ∧ k = !xs.isEmpty) ∨ (∃ xs, SqT K H p xs ∧ k = !xs.isEmpty) ∨ ∃ kvs, H p = some (.dK kvs) ∧ k = !kvs.isEmpty
  | _ => False
theorem isEmpty_kv {κ : Type} {kvs : List (κ × V)} {vs : List (κ × Value)} (r : KV kvs vs) : (!vs.isEmpty) = !kvs.isEmpty := by
  cases r <;> rfl
theorem isEmpty_of {xs : List V} {its : List Value} (r : Vals xs its) : (!its.toArray.isEmpty) = !xs.isEmpty := by
  cases r <;> simp
theorem line63 : (sizeLine : Nat) < 2 ^ 63 := by rw [sizeLine_eq]; decide
theorem tru_ok : TruR X (fun x H Q => ∃ k, TruV X.K x H k ∧ Q k H) := by
  intro pins s σ H x v Q I rx h
  obtain ⟨k, e, q⟩ := h
  have hl := line63
  have hs : sizeLine = 16777216 := sizeLine_eq
  cases x with
  | non =>
    cases rx
    have e' : k = false := e
    subst e'
    exact truthy_none ⟨H, I, q⟩
  | bl b =>
    cases rx
    have e' : k = b := e
    subst e'
    exact wpAny_truthy_bool ⟨H, I, q⟩
  | int i =>
    obtain ⟨t, rfl⟩ := rx
    have e' : k = (i != 0) := e
    subst e'
    exact PySem.P.truthy_int ⟨H, I, q⟩
  | str y =>
    obtain ⟨t, rfl⟩ := rx
    obtain ⟨hy, e'⟩ : y.length ≤ sizeLine ∧ k = ((y.length : Int) != 0) := e
    subst e'
    exact PySem.P.truthy_str (by omega) ⟨H, I.tok _, q⟩
  | byt y =>
    obtain ⟨t, rfl⟩ := rx
    obtain ⟨hy, e'⟩ : y.size ≤ sizeLine ∧ k = ((y.size : Int) != 0) := e
    subst e'
    exact PySem.W.truthy_bytes (by omega) ⟨H, I.tok _, q⟩
  | ref p =>
    cases rx
    have e' : (∃ xs, SqL X.K H p xs ∧ k = !xs.isEmpty) ∨ (∃ xs, SqT X.K H p xs ∧ k = !xs.isEmpty) ∨ ∃ kvs, H p = some (.dK kvs) ∧ k = !kvs.isEmpty := e
    rcases e' with ⟨xs, hx, e'⟩ | ⟨xs, hx, e'⟩ | ⟨kvs, hx, e'⟩
    · subst e'
      obtain ⟨its, r, pl, hz⟩ := I.list hx
      have hlen := r.length
      exact wpAny_truthy_list pl.isList (by simp only [List.size_toArray]; omega) ⟨H, I.tok _, by rw [isEmpty_of r]; exact q⟩
    · subst e'
      obtain ⟨its, r, pl, hz⟩ := I.tuple hx
      have hlen := r.length
      exact truthy_tuple pl (by simp only [List.size_toArray]; omega) ⟨H, I.tok _, by rw [isEmpty_of r]; exact q⟩
    · subst e'
      obtain ⟨hz, hS, vs, r, m⟩ : kvs.length ≤ sizeLine ∧ (p == sysModules) = false ∧ ∃ vs, KV kvs vs ∧ s.heap.DictOf (mixKind X.prog X.w) p vs := I.hok p _ hx
      have hlen : kvs.length = vs.length := Paired.length r
      exact wpAny_truthy_dict hS m (by omega) ⟨H, I.tok _, by rw [isEmpty_kv r]; exact q⟩
  | _ => exact (show False from e).elim

theorem pt_truth (ha : PE X a ta) (he : ∀ whole, isTrue a X.env whole = (do let v ← whole; standAt a.pos; holding [v] (truthy v))) :
    PT X a (fun σ H Q => ta σ H fun x H' => ∃ k, TruV X.K x H' k ∧ Q k H') := by
  intro pins s σ H Q I h
  exact isTrue_plain (thn (ha pins s σ H _ I h) fun v s1 ⟨x, H1, I1, r1, q1⟩ => tru_ok pins s1 σ H1 x v Q I1 r1 q1) (he _)


theorem op_add_str : OpR X (binaryOp .Add) (fun x y H Q => ∃ i j, x = .str i ∧ y = .str j ∧ i.length + j.length ≤ sizeLine ∧ Q (.str (i ++ j)) H) := by
  intro pins s σ H x y v u Q I rx ry h
  obtain ⟨i, j, rfl, rfl, hz, q⟩ := h
  obtain ⟨t, rfl⟩ := rx
  obtain ⟨t', rfl⟩ := ry
  exact add_str (fun t' tk => ⟨.str (i ++ j), H, I.tok _, ⟨_, rfl⟩, q⟩) hz
theorem vals1 {x : V} {us : List Value} (r : Vals [x] us) : ∃ u, us = [u] ∧ RelV x u := by
  cases r with
  | cons r1 r2 => cases r2; exact ⟨_, rfl, r1⟩
theorem vals2 {x y : V} {us : List Value} (r : Vals [x, y] us) : ∃ u w', us = [u, w'] ∧ RelV x u ∧ RelV y w' := by
  cases r with
  | cons r1 r2 =>
    cases r2 with
    | cons r3 r4 => cases r4; exact ⟨_, _, rfl, r1, r3⟩
theorem call_max2 (hc : X.calm = true) : CallR X (.builtin "max") (fun xs H Q => ∃ i j, xs = [.int i, .int j] ∧ Q (.int (if j > i then j else i)) H) := by
  intro pins s σ H xs us Q I r h
  obtain ⟨i, j, rfl, q⟩ := h
  obtain ⟨u, w', rfl, ⟨t, rfl⟩, ⟨t', rfl⟩⟩ := vals2 r
  refine max_two_ints (I.ok.hd hc) fun h' tk k => ⟨_, H, I.kept k, ?_, q⟩
  by_cases hj : j > i
  · rw [if_pos hj, if_pos hj]; exact ⟨_, rfl⟩
  · rw [if_neg hj, if_neg hj]; exact ⟨_, rfl⟩
def LenV (K : PySem.W.Frag) (x : V) (H : Hp) (n : Nat) : Prop :=
  match x with
  | .str y => y.length ≤ sizeLine ∧ n = y.length
  | .byt y => y.size ≤ sizeLine ∧ n = y.size
  | .ref p => (∃ xs, SqL K H p xs ∧ n = xs.length) ∨ ∃ xs, SqT K H p xs ∧ n = xs.length
  | _ => False
theorem call_len : CallR X (.builtin "len") (fun xs H Q => ∃ x n, xs = [x] ∧ LenV X.K x H n ∧ Q (.int n) H) := by
  intro pins s σ H xs us Q I r h
  obtain ⟨x, n, rfl, e, q⟩ := h
  obtain ⟨u, rfl, rx⟩ := vals1 r
  have hl := line63
  have hs : sizeLine = 16777216 := sizeLine_eq
  cases x with
  | str y =>
    obtain ⟨t, rfl⟩ := rx
    obtain ⟨hy, e'⟩ : y.length ≤ sizeLine ∧ n = y.length := e
    subst e'
    exact len_str (by omega) ⟨.int _, H, I.tok _, ⟨_, rfl⟩, q⟩
  | byt y =>
    obtain ⟨t, rfl⟩ := rx
    obtain ⟨hy, e'⟩ : y.size ≤ sizeLine ∧ n = y.size := e
    subst e'
    exact PySem.W.len_bytes (by omega) ⟨.int _, H, I.tok _, ⟨_, rfl⟩, q⟩
  | ref p =>
    cases rx
    have e' : (∃ xs, SqL X.K H p xs ∧ n = xs.length) ∨ ∃ xs, SqT X.K H p xs ∧ n = xs.length := e
    rcases e' with ⟨xs, hx, e'⟩ | ⟨xs, hx, e'⟩
    · subst e'
      obtain ⟨its, r', pl, hz⟩ := I.list hx
      have hlen := r'.length
      exact Calls.call_len_list pl.isList (by simp only [List.size_toArray]; omega) ⟨.int xs.length, H, I.tok _, ⟨_, by simp only [List.size_toArray]; rw [hlen]⟩, q⟩
    · subst e'
      obtain ⟨its, r', pl, hz⟩ := I.tuple hx
      have hlen := r'.length
      exact len_tuple pl (by simp only [List.size_toArray]; omega) ⟨.int xs.length, H, I.tok _, ⟨_, by simp only [List.size_toArray]; rw [hlen]⟩, q⟩
  | _ => exact (show False from e).elim

end
end L2

namespace L2
open PySem PySem.Spec PyProof.Rows


structure ObjM (h : Heap) (x dx C : Addr) (mA : Str → Option Value) : Prop where
  obj : h.get? x = some (PySem.W.instObj C dx)
  ns : h.Ns1 dx mA
  ne : dx ≠ x

theorem lookIn_ns {h : Heap} {dx : Addr} {mA : Str → Option Value} (n : h.Ns1 dx mA) : ∃ od, h.get? dx = some od ∧ ∀ name, PySem.W.lookIn name od = some (mA name) := by
  obtain ⟨o, es, ep, ho, hd, hk, _, hm⟩ := n
  refine ⟨o, ho, fun name => ?_⟩
  have e := hm name
  unfold nsFind findBy at e
  rw [← Array.find?_toList] at e
  unfold PySem.W.lookIn
  rw [hd]
  dsimp only
  split
  · rename_i y q
    rw [q] at e
    exact congrArg some e
  · rename_i q
    rw [q] at e
    have a : es.toList.any (·.refKey) = false := by
      rw [List.any_eq_false]
      intro y hy
      obtain ⟨z, t, hkey⟩ := hk y (Array.mem_toList_iff.mp hy)
      simp [DictEntry.refKey, hkey]
    have a' : ¬ es.toList.any (·.refKey) = true := by rw [a]; exact Bool.false_ne_true
    rw [if_neg a']
    exact congrArg some e

theorem ObjM.look {h : Heap} {x dx C : Addr} {mA : Str → Option Value} (I : ObjM h x dx C mA) : ∃ od, PySem.W.InstAt h x (PySem.W.instObj C dx) C (some od) ∧ ∀ name, PySem.W.lookIn name od = some (mA name) :=
  let ⟨od, ho, hl⟩ := lookIn_ns I.ns
  ⟨od, ⟨I.obj, rfl, rfl, ho⟩, hl⟩

section
variable {prog : Program} {w : World} {A : Around} {E : Value → Shared → Prop} {s : Shared} {K : PySem.W.Frag} {x dx C f : Addr} {mA : Str → Option Value} {name : Str} {v : Value}

theorem get_map {expr : Bool} {Q : Value → Shared → Prop} (X : K.In s.heap) (I : ObjM s.heap x dx C mA) (hg : PySem.W.plainGet K C name = true) (hh : PySem.W.hasDictIn K C = true)
    (ha : PySem.W.findIn K (.ref C) name = some none) (hv : mA name = some v) (hv' : PySem.W.handedIn v = true) (h : Q v { s with toks := s.toks + 1 }) :
    wpAny (model prog w) A (getAttr (.ref x) name expr) Q E s := by
  obtain ⟨od, J, hl⟩ := I.look
  exact PySem.W.get_value X J (PySem.W.plainGet_of hg).1 (PySem.W.findObj_own hh ha rfl (by rw [hl, hv])) hv' h

theorem get_meth {pl : Sem Bool} {Q : Value × List Value → Shared → Prop} (X : K.In s.heap) (I : ObjM s.heap x dx C mA) (hg : PySem.W.plainGet K C name = true)
    (hf : PySem.W.findIn K (.ref C) name = some (some (.ref f))) (ht : PySem.W.isFn K (.ref f) = true) (hv : mA name = none) (h : Q (.ref f, [.ref x]) s) :
    wpAny (model prog w) A (getMethod (.ref x) name pl) Q E s := by
  obtain ⟨od, J, hl⟩ := I.look
  exact PySem.W.method_fn X J (PySem.W.plainGet_of hg).1 (PySem.W.plainGet_of hg).2 hf (beq_iff_eq.mp ht) (by show (PySem.W.lookIn name od).map (·.isSome) = some false; rw [hl, hv]; rfl) h

theorem set_map {ns : List Str} {Q : Unit → Shared → Prop} (X : K.In s.heap) (I : ObjM s.heap x dx C mA)
    (hs : PySem.W.findIn K (.ref C) "__setattr__" = some (some (.builtin "object.__setattr__"))) (hp : PySem.W.plainOver K C = true) (ht : PySem.W.takerIn K C name = some none) (hh : PySem.W.hasDictIn K C = true)
    (hw : PySem.Within mA ns) (hsz : ns.length ≤ sizeLine)
    (h : ∀ h', ObjM h' x dx C (fun y => if y = name then some v else mA y) → Heap.SameBut dx s.heap h' → Q () { s with heap := h', toks := s.toks + 2 }) :
    wpAny (model prog w) A (setAttr (.ref x) name v) Q E s := by
  obtain ⟨od, J, hl⟩ := I.look
  refine PySem.W.set_plain X J hs (PySem.W.osa_open (s := { s with toks := s.toks + 1 }) (r := none) X J hp ht fun b => ?_)
  obtain ⟨cd, hc, hd'⟩ := PySem.W.any_some hh
  have hx : s.heap.get? x = some ⟨.ref C, some dx, .plain, #[]⟩ := I.obj
  refine wpAny_bind (wpAny_pure (wpAny_bind (wpAny_bind (wpAny_loadPart hx (wpAny_bind (PySem.W.Looks.here (s := { s with toks := s.toks + 1 }) (PySem.W.looks_clsIn X hc) ?_))))))
  rw [hd']
  refine wpAny_pure (a := some dx) (wpAny_bind (wpAny_pure (wpAny_bind ?_)))
  refine wpAny_nsSet1 (s := { s with toks := s.toks + 1 }) I.ns fun h' hn2 hs2 => ?_
  obtain ⟨oD, esD, epD, hoD, hdD, hcD⟩ := hn2.count (PySem.Within.cons name v hw)
  refine wpAny_bind (wpAny_lookBehind hoD (by rw [hdD]; exact pastItsLine_dict (Nat.le_trans hcD (by rw [List.length_cons]; omega))) ?_)
  exact wpAny_pure (h _ ⟨(hs2.2 _ (Ne.symm I.ne)).trans I.obj, hn2, I.ne⟩ hs2)


theorem make_map {R : Result → Shared → Prop} {vs : List Value} {kw : List (Str × Value)} (X : K.In s.heap) (hm : PySem.W.makesIn K C = true)
    (hi : PySem.W.findIn K (.ref C) "__init__" = some (some (.ref f))) (hf : PySem.W.typeIn K (.ref f) = some (.type "function"))
    (h : codeAny (model prog w) (A.under (.builtin "type.__call__" ⟨.ref C :: vs, kw⟩)) (.call (.ref f) ⟨.ref (s.heap.objs.size + 1) :: vs, kw⟩) (PySem.W.InitBack (s.heap.objs.size + 1) R)
      { s with heap := (s.heap.push PySem.W.emptyDict).push (PySem.W.instObj C s.heap.objs.size) }) :
    codeAny (model prog w) A (.call (.ref C) ⟨vs, kw⟩) R s := by
  obtain ⟨hh, g, d, t, os⟩ := s
  exact PySem.W.make_core (PySem.W.makes_of X hm) (PySem.W.looks_findIn X hi) (fun self => PySem.W.bind_fn X self hf) (.inl rfl) h

end


def putF (f : Str) (v : V) : List (Str × V) → List (Str × V)
  | [] => [(f, v)]
  | (g, x) :: r => if g = f then (g, v) :: r else (g, x) :: putF f v r
theorem lookup_putF (f g : Str) (v : V) : ∀ fs : List (Str × V), (putF f v fs).lookup g = if g = f then some v else fs.lookup g
  | [] => by
    show List.lookup g [(f, v)] = _
    by_cases h : g = f
    · have hb : (g == f) = true := beq_iff_eq.mpr h
      simp only [List.lookup, hb, if_pos h]
    · have hb : (g == f) = false := beq_eq_false_iff_ne.mpr h
      simp only [List.lookup, hb, if_neg h]
  | (k, x) :: r => by
    have ih := lookup_putF f g v r
    rw [show putF f v ((k, x) :: r) = (if k = f then (k, v) :: r else (k, x) :: putF f v r) from rfl]
    by_cases hk : k = f
    · rw [if_pos hk]
      by_cases h : g = k
      · have hb : (g == k) = true := beq_iff_eq.mpr h
        simp only [List.lookup, hb, if_pos (h.trans hk)]
      · have hb : (g == k) = false := beq_eq_false_iff_ne.mpr h
        simp only [List.lookup, hb, if_neg (fun e : g = f => h (e.trans hk.symm))]
    · rw [if_neg hk]
      by_cases h : g = k
      · have hb : (g == k) = true := beq_iff_eq.mpr h
        simp only [List.lookup, hb, if_neg (fun e : g = f => hk (h.symm.trans e))]
      · have hb : (g == k) = false := beq_eq_false_iff_ne.mpr h
        simp only [List.lookup, hb]
        exact ih
theorem keys_putF (f : Str) (v : V) : ∀ fs : List (Str × V), f ∈ (putF f v fs).map (·.1) ∧ ∀ g, g ∈ fs.map (·.1) → g ∈ (putF f v fs).map (·.1)
  | [] => ⟨by simp [putF], fun g h => by simp at h⟩
  | (k, x) :: r => by
    obtain ⟨i1, i2⟩ := keys_putF f v r
    rw [show putF f v ((k, x) :: r) = (if k = f then (k, v) :: r else (k, x) :: putF f v r) from rfl]
    by_cases hk : k = f
    · rw [if_pos hk]
      subst hk
      exact ⟨by simp, fun g h => by simpa using h⟩
    · rw [if_neg hk]
      refine ⟨?_, fun g h => ?_⟩
      · rw [List.map_cons]
        exact List.mem_cons_of_mem _ i1
      · rw [List.map_cons] at h ⊢
        rcases List.mem_cons.mp h with e | e
        · exact List.mem_cons.mpr (.inl e)
        · exact List.mem_cons_of_mem _ (i2 g e)
theorem length_putF (f : Str) (v : V) : ∀ fs : List (Str × V), (putF f v fs).length ≤ fs.length + 1
  | [] => by simp [putF]
  | (k, x) :: r => by
    have ih := length_putF f v r
    rw [show putF f v ((k, x) :: r) = (if k = f then (k, v) :: r else (k, x) :: putF f v r) from rfl]
    by_cases hk : k = f
    · rw [if_pos hk, List.length_cons, List.length_cons]; omega
    · rw [if_neg hk, List.length_cons, List.length_cons]; omega

theorem RelO.some_of {v : V} {o : Option Value} (r : RelO (some v) o) : ∃ u, o = some u ∧ RelV v u := by
  cases o with
  | none => exact (show False from r).elim
  | some u => exact ⟨u, rfl, r⟩
theorem RelO.none_of {o : Option Value} (r : RelO none o) : o = none := by
  cases o with
  | none => rfl
  | some u => exact (show False from r).elim
theorem handed_of {v : V} {u : Value} (r : RelV v u) : PySem.W.handedIn u = true := by
  cases v with
  | non => cases (show u = Value.none from r); rfl
  | bl b => cases (show u = Value.bool b from r); rfl
  | int i => obtain ⟨t, e⟩ := (show ∃ t, u = Value.int i t from r); cases e; rfl
  | str x => obtain ⟨t, e⟩ := (show ∃ t, u = Value.str x t from r); cases e; rfl
  | byt b => obtain ⟨t, e⟩ := (show ∃ t, u = Value.bytes b t from r); cases e; rfl
  | flt b => obtain ⟨t, e⟩ := (show ∃ t, u = Value.float b t from r); cases e; rfl
  | ref a => cases (show u = Value.ref a from r); rfl
  | ty n => cases (show u = Value.type n from r); rfl

section
variable {P : Program} {w : World} {H H' : Hp} {h h' : Heap} {a C dx : Addr} {fs fs' : List (Str × V)}
theorem ins_get (hok : HOk P w H h) (e : H a = some (.ins C dx fs)) : ∃ mA, ObjM h a dx C mA ∧ (∀ f, RelO (fs.lookup f) (mA f)) ∧ PySem.Within mA (fs.map (·.1)) ∧ fs.length ≤ 1000 ∧ H dx = some (.own a) := by
  obtain ⟨d, z, ne, ob, mA, n, r, q⟩ := (show ObjOk P w H h a (.ins C dx fs) from hok a _ e)
  exact ⟨mA, ⟨ob, n, ne⟩, r, q, z, d⟩
end


structure Cls (K : PySem.W.Frag) (C : Addr) : Prop where
  pg : PySem.W.plainGet K C Str.empty = true
  hd : PySem.W.hasDictIn K C = true
  po : PySem.W.plainOver K C = true
  sa : PySem.W.findIn K (.ref C) "__setattr__" = some (some (.builtin "object.__setattr__"))
theorem Cls.get {K : PySem.W.Frag} {C : Addr} (c : Cls K C) (f : Str) : PySem.W.plainGet K C f = true := c.pg

def NoAttr (K : PySem.W.Frag) (C : Addr) (f : Str) : Prop := PySem.W.findIn K (.ref C) f = some none
theorem NoAttr.taker {K : PySem.W.Frag} {C : Addr} {f : Str} (n : NoAttr K C f) : PySem.W.takerIn K C f = some none := by
  unfold PySem.W.takerIn
  rw [show PySem.W.findIn K (.ref C) f = some none from n]
  rfl

structure Meth (K : PySem.W.Frag) (C : Addr) (m : Str) (f : Addr) : Prop where
  at_ : PySem.W.findIn K (.ref C) m = some (some (.ref f))
  fn : PySem.W.isFn K (.ref f) = true
  kp : PySem.W.keepIn K (.ref f) = true

section
variable {X : Cx} {pins : List (Addr × Obj)} {σ : St} {H : Hp} {s : Shared} {a C dx : Addr} {fs : List (Str × V)} {f : Str} {v : V} {A : Around} {E : Value → Shared → Prop}

theorem getattr_ok {b : Bool} {Q : Value → Shared → Prop} (I : Inv X pins σ H s) (e : H a = some (.ins C dx fs)) (c : Cls X.K C) (n : NoAttr X.K C f) (l : fs.lookup f = some v)
    (h : ∀ u s', Inv X pins σ H s' → RelV v u → Q u s') : wpAny (model X.prog X.w) A (getAttr (.ref a) f b) Q E s := by
  obtain ⟨mA, O, r, _, _, _⟩ := ins_get I.hok e
  obtain ⟨u, hu, ru⟩ := RelO.some_of (v := v) (o := mA f) (by rw [← l]; exact r f)
  exact get_map I.kIn O (c.get f) c.hd n hu (handed_of ru) (h u _ (I.tok _) ru)

theorem getmeth_ok {m : Str} {g : Addr} {pl : Sem Bool} {Q : Value × List Value → Shared → Prop} (I : Inv X pins σ H s) (e : H a = some (.ins C dx fs)) (c : Cls X.K C) (k : Meth X.K C m g) (l : fs.lookup m = none)
    (h : Q (.ref g, [.ref a]) s) : wpAny (model X.prog X.w) A (getMethod (.ref a) m pl) Q E s := by
  obtain ⟨mA, O, r, _, _, _⟩ := ins_get I.hok e
  have hn : mA m = none := RelO.none_of (by rw [← l]; exact r m)
  exact get_meth I.kIn O (c.get m) k.at_ k.fn hn h

theorem setattr_ok {y : V} {u : Value} {Q : Unit → Shared → Prop} (I : Inv X pins σ H s) (e : H a = some (.ins C dx fs)) (c : Cls X.K C) (n : NoAttr X.K C f) (hl : fs.length < 1000) (ry : RelV y u)
    (h : ∀ s', Inv X pins σ (upd H a (.ins C dx (putF f y fs))) s' → Q () s') : wpAny (model X.prog X.w) A (setAttr (.ref a) f u) Q E s := by
  obtain ⟨mA, O, r, wi, _, ho⟩ := ins_get I.hok e
  have hz : (fs.map (·.1)).length ≤ sizeLine := by rw [List.length_map, sizeLine_eq]; omega
  refine set_map I.kIn O c.sa c.po n.taker c.hd wi hz fun h' O' sb => h _ ?_
  have hd : ∃ o, h'.get? dx = some o := let ⟨o, _, _, e', _⟩ := O'.ns; ⟨o, e'⟩
  refine I.write (x := a) (e := dx) (by rw [e]; exact True.intro) (.inr ho) (fun b q hb z => (sb.2 b hb).trans z) hd ?_
  refine ⟨by rw [upd_ne O.ne]; exact ho, ?_, O.ne, O'.obj, _, O'.ns, fun g => ?_, fun g hg => ?_⟩
  · have := length_putF f y fs; omega
  · show RelO ((putF f y fs).lookup g) (if g = f then some u else mA g)
    rw [lookup_putF]
    by_cases q : g = f
    · rw [if_pos q, if_pos q]; exact ry
    · rw [if_neg q, if_neg q]; exact r g
  · by_cases q : g = f
    · rw [q]; exact (keys_putF f y fs).1
    · refine (keys_putF f y fs).2 g (wi g fun z => hg ?_)
      show (if g = f then some u else mA g) = none
      rw [if_neg q]; exact z


theorem Inv.made (I : Inv X pins σ H s) : Inv X pins σ (upd (upd H s.heap.objs.size (.own (s.heap.objs.size + 1))) (s.heap.objs.size + 1) (.ins C s.heap.objs.size []))
    { s with heap := (s.heap.push PySem.W.emptyDict).push (PySem.W.instObj C s.heap.objs.size) } := by
  have e1 : (s.heap.push PySem.W.emptyDict).get? s.heap.objs.size = some PySem.W.emptyDict := Heap.get?_push_size s.heap rfl
  have e2 : ((s.heap.push PySem.W.emptyDict).push (PySem.W.instObj C s.heap.objs.size)).get? (s.heap.objs.size + 1) = some (PySem.W.instObj C s.heap.objs.size) := by
    have := Heap.get?_push_size (s.heap.push PySem.W.emptyDict) (o := PySem.W.instObj C s.heap.objs.size) rfl
    rwa [Heap.size_push] at this
  have e3 : (s.heap.push PySem.W.emptyDict).Ns s.heap.objs.size (fun _ => none) := ⟨PySem.W.emptyDict, #[], _, e1, rfl, (fun e he => absurd he (by simp)), fun _ => rfl⟩
  have I1 := I.laid (a := s.heap.objs.size) (o := .own (s.heap.objs.size + 1)) (h' := s.heap.push PySem.W.emptyDict) (t' := s.toks) (fun b u q => Heap.get?_push_of_some _ q) (Nat.le_refl _) ⟨_, e1⟩
  refine I1.laid (a := s.heap.objs.size + 1) (o := .ins C s.heap.objs.size []) (t' := s.toks) (fun b u q => Heap.get?_push_of_some _ q) (Nat.le_of_eq (Heap.size_push _ _)) ?_
  have ne : s.heap.objs.size ≠ s.heap.objs.size + 1 := Nat.ne_of_lt (Nat.lt_succ_self _)
  refine ⟨by rw [upd_ne ne, upd_same], Nat.zero_le _, ne, e2, fun _ => none, (Heap.Ns1.of_empty e3).at fun o q => Heap.get?_push_of_some _ q, fun _ => True.intro, fun y hy => absurd rfl hy⟩


theorem attr_of {prog : Program} {w : World} {env : Env} {e : Expr} {f : Str} {pos : Pos} {s : Shared} {Q : Value → Shared → Prop} (hb : attributeBase e f env (eval e env) = eval e env)
    (h : wpAny (model prog w) A (eval e env) (fun o s₁ => wpAny (model prog w) A (getAttr o f true) Q E s₁) E s) : wpAny (model prog w) A (eval (.Attribute e f pos) env) Q E s :=
  Attribute_any_ h (by rw [arm_eval_Attribute, hb])
end



def tFld (K : PySem.W.Frag) (ta : TE) (f : Str) : TE := fun σ H Q => ta σ H fun x H1 => ∃ a C dx fs v, x = .ref a ∧ H1 a = some (.ins C dx fs) ∧ Cls K C ∧ NoAttr K C f ∧ fs.lookup f = some v ∧ Q v H1

def sFld (K : PySem.W.Frag) (ta tv : TE) (f : Str) : TS := fun D σ H => tv σ H fun y H1 => ta σ H1 fun x H2 => ∃ a C dx fs, x = .ref a ∧ H2 a = some (.ins C dx fs) ∧ Cls K C ∧ NoAttr K C f ∧ fs.length < 1000 ∧
  D.nx σ (upd H2 a (.ins C dx (putF f y fs)))

section
variable {X : Cx} {o e value : Expr} {f : Str} {pos pos' tpos : Pos} {ta tv : TE}
theorem pe_fld (he : PE X e ta) (hb : attributeBase e f X.env (eval e X.env) = eval e X.env) : PE X (.Attribute e f pos) (tFld X.K ta f) := by
  intro pins s σ H Q I h
  refine attr_of hb (thn (he pins s σ H _ I h) fun u s1 ⟨x, H1, I1, rx, a, C, dx, fs, v, ex, ea, c, n, l, q⟩ => ?_)
  subst ex
  obtain rfl : u = Value.ref a := rx
  exact getattr_ok I1 ea c n l fun u' s2 I2 ru => ⟨v, H1, I2, ru, q⟩
theorem ps_fld (ha : PE X o ta) (hv : PE X value tv) (hs : swapsWith value (some (.Attribute o f pos')) pos.line X.env = pure false) : PS X (.Assign [.Attribute o f pos'] value pos) (sFld X.K ta tv f) := by
  intro pins s σ H D I h
  refine plainObj_wpAny_Assign_Attribute (thn (hv pins s σ H _ I h) fun u s1 ⟨y, H1, I1, ry, q⟩ => thn (ha pins s1 σ H1 _ I1 q) fun ov s2 ⟨x, H2, I2, rx, a, C, dx, fs, ex, ea, c, n, l, q2⟩ => ?_) hs
  subst ex
  obtain rfl : ov = Value.ref a := rx
  exact setattr_ok I2 ea c n l ry fun s3 I3 => ⟨σ, _, I3, q2⟩
end


section
variable {X : Cx} {pins : List (Addr × Obj)} {σ : St} {H : Hp} {s : Shared} {A : Around} {E : Value → Shared → Prop} {Q : Value → Shared → Prop} {c : Value} {b : Bool}

inductive TyOf (K : PySem.W.Frag) (H : Hp) : V → Value → Prop where
  | non : TyOf K H .non (.type "NoneType")
  | bl (x : Bool) : TyOf K H (.bl x) (.type "bool")
  | int (i : Int) : TyOf K H (.int i) (.type "int")
  | str (x : Str) : TyOf K H (.str x) (.type "str")
  | flt (x : UInt64) : TyOf K H (.flt x) (.type "float")
  | lst {a : Addr} {xs : List V} (e : H a = some (.lst xs)) : TyOf K H (.ref a) (.type "list")
  | frz {a : Addr} {o : Obj} {xs : List V} (e : H a = some (.frz o (.lst xs))) : TyOf K H (.ref a) (.type "list")
  | tup {a : Addr} {xs : List V} (e : H a = some (.tup xs)) : TyOf K H (.ref a) (.type "tuple")
  | dK {a : Addr} {kvs : List (Key × V)} (e : H a = some (.dK kvs)) : TyOf K H (.ref a) (.type "dict")
  | dT {a : Addr} {kvs : List (List Key × V)} (e : H a = some (.dT kvs)) : TyOf K H (.ref a) (.type "dict")
  | ins {a C dx : Addr} {fs : List (Str × V)} (e : H a = some (.ins C dx fs)) (cl : Cls K C) (ha : PySem.W.findIn K (.ref C) "__class__" = some (some (.builtin "object.__class__")))
      (hn : PySem.W.specialIn K (.builtin "object.__class__") "__get__" = some (some (.builtin "getset_descriptor.__get__"))) (htk : PySem.W.takesIn K (.builtin "object.__class__") = some true)
      (hm : PySem.W.mroIn K C (.type "object") = some true) : TyOf K H (.ref a) (.ref C)

theorem isinst_ok {x : V} {u t : Value} (I : Inv X pins σ H s) (rx : RelV x u) (ty : TyOf X.K H x t) (e : PySem.W.kitOne X.K t c = some b) (h : ∀ tk, Q (.bool b) { s with toks := tk }) :
    wpAny (model X.prog X.w) A (call (.builtin "isinstance") [u, c]) Q E s := by
  cases ty with
  | non => cases (show u = Value.none from rx); exact PySem.W.kia_one PySem.W.kitx_none I.kIn True.intro e (fun z => nomatch z) h
  | bl y => cases (show u = Value.bool y from rx); exact PySem.W.kia_one PySem.W.kitx_bool I.kIn True.intro e (fun z => nomatch z) h
  | int i => obtain ⟨t, q⟩ := (show ∃ t, u = Value.int i t from rx); cases q; exact PySem.W.kia_one PySem.W.kitx_int I.kIn True.intro e (fun z => nomatch z) h
  | str y => obtain ⟨t, q⟩ := (show ∃ t, u = Value.str y t from rx); cases q; exact PySem.W.kia_one PySem.W.kitx_str I.kIn True.intro e (fun z => nomatch z) h
  | flt y => obtain ⟨t, q⟩ := (show ∃ t, u = Value.float y t from rx); cases q; exact PySem.W.kia_one PySem.W.kitx_float I.kIn True.intro e (fun z => nomatch z) h
  | @lst a xs ea =>
    cases (show u = Value.ref a from rx)
    obtain ⟨_, _, n, _, h1⟩ := (show ObjOk X.prog X.w H s.heap a (.lst xs) from I.hok a _ ea)
    exact PySem.W.kia_one PySem.W.kitx_list I.kIn ⟨_, h1, rfl⟩ e (fun z => nomatch z) h
  | @frz a ob xs ea =>
    cases (show u = Value.ref a from rx)
    obtain ⟨_, _, _, n, _, h1⟩ := (show ObjOk X.prog X.w H s.heap a (.frz ob (.lst xs)) from I.hok a _ ea)
    exact PySem.W.kia_one PySem.W.kitx_list I.kIn ⟨_, h1, rfl⟩ e (fun z => nomatch z) h
  | @tup a xs ea =>
    cases (show u = Value.ref a from rx)
    obtain ⟨_, _, _, p⟩ := (show ObjOk X.prog X.w H s.heap a (.tup xs) from I.hok a _ ea)
    obtain ⟨o, h1, h2, _⟩ := p
    exact PySem.W.kia_one PySem.W.kitx_tuple I.kIn ⟨o, h1, h2⟩ e (fun z => nomatch z) h
  | @dK a kvs ea =>
    cases (show u = Value.ref a from rx)
    obtain ⟨_, _, vs, _, p⟩ := (show ObjOk X.prog X.w H s.heap a (.dK kvs) from I.hok a _ ea)
    obtain ⟨o, es, ep, h1, h2, _⟩ := p
    exact PySem.W.kia_one PySem.W.kitx_dict I.kIn ⟨o, h1, h2.1⟩ e (fun z => nomatch z) h
  | @dT a kvs ea =>
    cases (show u = Value.ref a from rx)
    obtain ⟨_, _, xs, _, o, es, ep, h1, h2, _⟩ := (show ObjOk X.prog X.w H s.heap a (.dT kvs) from I.hok a _ ea)
    exact PySem.W.kia_one PySem.W.kitx_dict I.kIn ⟨o, h1, h2.1⟩ e (fun z => nomatch z) h
  | @ins a C dx fs ea cl ha hn htk hm =>
    cases (show u = Value.ref a from rx)
    obtain ⟨mA, O, _⟩ := ins_get I.hok ea
    obtain ⟨od, J, _⟩ := O.look
    exact PySem.W.kia_one (PySem.W.kitx_own (cl.get _) cl.hd ha hn htk hm) I.kIn J e (fun z => nomatch z) h
end
end L2

namespace L2
open PySem PySem.Spec PyProof.Rows


structure Room (k : Nat) (A : Around) : Prop where
  hd : A.handled = none
  dp : A.depth + 3 * k + 5 < recursionLimit
  un : A.units + 16 * k + 200 < cLine
theorem Room.mono {j k : Nat} {A : Around} (r : Room k A) (h : j ≤ k) : Room j A := ⟨r.hd, by have := r.dp; omega, by have := r.un; omega⟩
theorem Room.deeper {k : Nat} {A : Around} (r : Room (k + 1) A) (env : Env) : Room k (A.deeper env) :=
  ⟨r.hd, by have := r.dp; show A.depth + 1 + 3 * k + 5 < _; omega, by have := r.un; show A.units + 3 + 16 * k + 200 < _; omega⟩
theorem make_depth {A : Around} {C : Addr} {us : List Value} {kw : List (Str × Value)} : (A.under (.builtin "type.__call__" ⟨.ref C :: us, kw⟩)).depth = A.depth + 1 := by
  first | rfl | simp [Around.under, Code.weight, Code.isCreation, Code.isGuard, Code.isCaller, Code.frames, Code.isFrame, guardIds]
theorem make_units {A : Around} {C : Addr} {us : List Value} {kw : List (Str × Value)} : (A.under (.builtin "type.__call__" ⟨.ref C :: us, kw⟩)).units = A.units + 1 := by
  first | rfl | simp [Around.under, Code.cUnits, Code.frames, Code.isFrame]
theorem Room.make {k : Nat} {A : Around} (r : Room (k + 1) A) (C : Addr) (us : List Value) (kw : List (Str × Value)) : Room k (A.under (.builtin "type.__call__" ⟨.ref C :: us, kw⟩)) :=
  ⟨r.hd, by have := r.dp; rw [make_depth]; omega, by have := r.un; rw [make_units]; omega⟩
theorem Room.depth {k : Nat} {A : Around} (r : Room k A) : A.depth < recursionLimit := by have := r.dp; omega
theorem Room.units {k : Nat} {A : Around} (r : Room k A) : A.units + 64 < cLine := by have := r.un; omega
def tNil : TA := fun _ H Q => Q [] H
def tCons (ta : TE) (tr : TA) : TA := fun σ H Q => ta σ H fun x H1 => tr σ H1 fun xs H2 => Q (x :: xs) H2
section
variable {X : Cx} {e : Expr} {es : List Expr} {te : TE} {t : TA} {pos : Pos}
theorem pa_nil : PA X [] tNil := fun _ _ _ _ H Q I h => Calls.spliced_nil ⟨[], H, I, .nil, h⟩
theorem pa_cons (ha : PE X e te) (hr : PA X es t) (hs : starEach (e :: es) X.env = (false, eval e X.env) :: starEach es X.env := by rfl) : PA X (e :: es) (tCons te t) := by
  intro pos pins s σ H Q I h
  rw [hs]
  show wpAny _ _ (spliced ((false, eval e X.env) :: backTo pos (starEach es X.env))) _ _ s
  refine Calls.spliced_cons (thn (ha pins s σ H _ I h) fun u s1 ⟨x, H1, I1, r1, q1⟩ => ?_)
  exact thn (hr pos pins s1 σ H1 _ I1 q1) fun us s2 ⟨xs, H2, I2, r2, q2⟩ => ⟨x :: xs, H2, I2, .cons r1 r2, q2⟩


def tTup (t : TA) : TE := fun σ H Q => t σ H fun xs H1 => xs.length ≤ sizeLine ∧ ∀ p, H1 p = none → Q (.ref p) (upd H1 p (.tup xs))
def tLst (t : TA) : TE := fun σ H Q => t σ H fun xs H1 => xs.length ≤ sizeLine ∧ ∀ p, H1 p = none → Q (.ref p) (upd H1 p (.lst xs))
theorem pe_tup {x1} (h : PA X es t) : PE X (.Tuple es x1 pos) (tTup t) := by
  intro pins s σ H Q I hq
  refine wpAny_Tuple_spliced (thn (h pos pins s σ H _ I hq) fun us s1 ⟨xs, H1, I1, r, z, q⟩ => ⟨by rw [← r.length]; exact z, ?_⟩)
  have hf : H1 s1.heap.objs.size = none := I1.hok.fresh (Nat.le_refl _)
  refine ⟨.ref s1.heap.objs.size, upd H1 s1.heap.objs.size (.tup xs), I1.laid (t' := s1.toks) (fun b u e => Heap.get?_push_of_some _ e) (Nat.le_refl _) ?_, rfl, q _ hf⟩
  exact ⟨z, us, r, ⟨_, Heap.get?_push_size _ rfl, rfl, _, rfl⟩⟩
theorem pe_lst (h : PA X es t) : PE X (.List es pos) (tLst t) := by
  intro pins s σ H Q I hq
  refine wpAny_List_spliced (thn (h pos pins s σ H _ I hq) fun us s1 ⟨xs, H1, I1, r, z, q⟩ => ⟨by rw [← r.length]; exact z, ?_⟩)
  have hf : H1 s1.heap.objs.size = none := I1.hok.fresh (Nat.le_refl _)
  refine ⟨.ref s1.heap.objs.size, upd H1 s1.heap.objs.size (.lst xs), I1.laid (t' := s1.toks) (fun b u e => Heap.get?_push_of_some _ e) (Nat.le_refl _) ?_, rfl, q _ hf⟩
  exact ⟨z, us, 0, r, Heap.get?_push_size _ rfl⟩
end



abbrev Sp := List V → Hp → VK → XK → Prop

abbrev CXT := List Env → Hp → Shared → XK → Value → Shared → Prop


structure Env0 (P : Program) (w : World) (K : PySem.W.Frag) (mg : Str → Option Value) (base : Heap) (A : Around) (outer : List Env) (s : Shared) (H : Hp) : Prop where
  frames : A.frames = some outer
  mod : Mod K mg base
  bs : ∀ b o, base.get? b = some o → s.heap.get? b = some o ∧ H b = none
  bsz : base.objs.size ≤ s.heap.objs.size
  funs : s.heap.FunFrames base outer
  frf : ∀ b ∈ frs outer, H b = none
  hok : HOk P w H s.heap
  bare : AllBare s.gens

def CE (outer : List Env) (P : Program) (w : World) (H : Hp) (s : Shared) (Q : VK) (u : Value) (s' : Shared) : Prop :=
  ∃ v H', s'.os = s.os ∧ AllBare s'.gens ∧ Un (frs outer) [] H H' s.heap s'.heap ∧ HOk P w H' s'.heap ∧ RelV v u ∧ Q v H'
def CR (CX : CXT) (outer : List Env) (P : Program) (w : World) (H : Hp) (s : Shared) (Q : VK) (E : XK) (r : Result) (s' : Shared) : Prop :=
  match r with
  | .ok (.ret u) => CE outer P w H s Q u s'
  | .ok _ => False
  | .error e => CX outer H s E e s'
structure FnOk (P : Program) (w : World) (K : PySem.W.Frag) (mg : Str → Option Value) (base : Heap) (CX : CXT) (k : Nat) (f : Addr) (fd : FuncData) (ps : List Str) (sp : Sp) : Prop where
  len : ∀ vs H Q E, sp vs H Q E → vs.length = ps.length
  run : ∀ (A : Around) (outer : List Env) (s : Shared) (H : Hp) (args : Args) (us : List Value) (vs : List V) (Q : VK) (E : XK), Room k A → Env0 P w K mg base A outer s H → BindsTo s fd args (ps.zip us) → Vals vs us → sp vs H Q E →
    codeAny (model P w) A (.call (.ref f) args) (CR CX outer P w H s Q E) s
theorem FnOk.mono {P : Program} {w : World} {K : PySem.W.Frag} {mg : Str → Option Value} {base : Heap} {CX : CXT} {j k : Nat} {f : Addr} {fd : FuncData} {ps : List Str} {sp : Sp} (F : FnOk P w K mg base CX j f fd ps sp) (h : j ≤ k) :
    FnOk P w K mg base CX k f fd ps sp := ⟨F.len, fun A outer s H args us vs Q E hr => F.run A outer s H args us vs Q E (hr.mono h)⟩

theorem Env0.make {P : Program} {w : World} {K : PySem.W.Frag} {mg : Str → Option Value} {base : Heap} {A : Around} {outer : List Env} {s : Shared} {H : Hp} (e : Env0 P w K mg base A outer s H) (C : Addr) (us : List Value) (kw : List (Str × Value)) :
    Env0 P w K mg base (A.under (.builtin "type.__call__" ⟨.ref C :: us, kw⟩)) outer s H := ⟨by first | exact e.frames | (simpa [Around.under, Code.envs, Code.isFrame, pushEnvs] using e.frames), e.mod, e.bs, e.bsz, e.funs, e.frf, e.hok, e.bare⟩
section
variable {X : Cx} {pins : List (Addr × Obj)} {σ : St} {H : Hp} {s s' : Shared}

theorem Inv.env0 (I : Inv X pins σ H s) : Env0 X.prog X.w X.K X.mg X.base X.A X.stack s H :=
  ⟨I.ok.frames, I.ok.mod, I.bs, Nat.le_trans I.ok.bsz I.sz, I.stack, I.stkFree, I.hok, I.bare⟩

theorem Inv.after {Q : VK} {u : Value} (I : Inv X pins σ H s) (h : CE X.stack X.prog X.w H s Q u s') : EP X pins σ Q u s' := by
  obtain ⟨v, H', os, bare, un, hok, r, q⟩ := h
  obtain ⟨hh, g, d, t, os'⟩ := s'
  obtain rfl : os' = s.os := os
  exact ⟨v, H', I.call (h' := hh) (g' := g) (d' := d) (t' := t) (ch := []) un hok bare (fun b z => absurd z (by simp)), r, q⟩
end



def tCall (sp : Sp) (dvs : List V) (E : XK) (t : TA) : TE := fun σ H Q => t σ H fun vs H1 => sp (vs ++ dvs) H1 Q E

def tMake (C : Addr) (sp : Sp) (dvs : List V) (E : XK) (t : TA) : TE := fun σ H Q => t σ H fun vs H1 => ∀ x dx, H1 x = none → H1 dx = none → dx ≠ x →
  sp (.ref x :: (vs ++ dvs)) (upd (upd H1 dx (.own x)) x (.ins C dx [])) (fun v H2 => v = .non ∧ Q (.ref x) H2) E


def Binds (K : PySem.W.Frag) (fd : FuncData) (ps : List Str) (ds : List Value) : Prop :=
  ∀ (s : Shared) (us : List Value), K.In s.heap → (us ++ ds).length = ps.length → BindsTo s fd ⟨us, []⟩ (ps.zip (us ++ ds))

theorem Binds.all {K : PySem.W.Frag} {fd : FuncData} {ps : List Str} (h : ∀ us : List Value, us.length = ps.length → bindArgs fd ⟨us, []⟩ = pure (ps.zip us)) : Binds K fd ps [] := fun s us _ hl => by
  rw [List.append_nil] at hl ⊢
  exact .of_eq (h us hl)


def Passes (CX : CXT) (X : Cx) (E : XK) : Prop := ∀ (pins : List (Addr × Obj)) (σ : St) (H : Hp) (s : Shared) (e : Value) (s' : Shared), Inv X pins σ H s → CX X.stack H s E e s' → X.xe e s'

section
variable {X : Cx} {CX : CXT} {k : Nat} {f C : Addr} {fd : FuncData} {ps : List Str} {sp : Sp} {dvs : List V} {ds : List Value} {E : XK} {x m : Str} {p pos apos : Pos} {e o : Expr} {es : List Expr} {ta : TE} {t : TA}


theorem run_fn {pins : List (Addr × Obj)} {σ : St} {H : Hp} {s : Shared} {Q : VK} {us : List Value} {vs : List V} (F : FnOk X.prog X.w X.K X.mg X.base CX k f fd ps sp) (hr : Room k X.A) (hb : Binds X.K fd ps ds) (hd : Vals dvs ds) (hx : Passes CX X E)
    (I : Inv X pins σ H s) (r : Vals vs us) (h : sp (vs ++ dvs) H Q E) : wpAny (model X.prog X.w) X.A (call (.ref f) us) (EP X pins σ Q) X.xe s := by
  have r2 : Vals (vs ++ dvs) (us ++ ds) := r.append hd
  have hl : (us ++ ds).length = ps.length := by rw [← r2.length]; exact F.len _ _ _ _ h
  refine wpAny_call (codeAny_mono (F.run X.A X.stack s H ⟨us, []⟩ (us ++ ds) (vs ++ dvs) Q E hr I.env0 (hb s us I.kIn hl) r2 h) fun r s' hq => ?_)
  cases r with
  | error e => exact hx pins σ H s e s' I hq
  | ok fl =>
    cases fl with
    | ret u => exact I.after hq
    | next => exact False.elim hq
    | brk => exact False.elim hq
    | cont => exact False.elim hq

theorem pe_call (F : FnOk X.prog X.w X.K X.mg X.base CX k f fd ps sp) (hr : Room k X.A) (hg : Gl X x) (hm : X.mg x = some (.ref f)) (hk : PySem.W.keepIn X.K (.ref f) = true) (hb : Binds X.K fd ps ds) (hd : Vals dvs ds) (hx : Passes CX X E)
    (ha : PA X (e :: es) t) (hdb : (x == ("__debug__" : Str)) = false := by decide) (he : starEach (e :: es) X.env = (false, eval e X.env) :: starEach es X.env := by rfl) (hpl : (backTo pos (starEach es X.env)).any (·.1) = false := by rfl) :
    PE X (.Call (.Name x p) (e :: es) [] pos) (tCall sp dvs E t) := by
  intro pins s σ H Q I h
  refine wpAny_Call_Name_kw (ld_glob I hg hm ?_ hdb)
  refine PySem.W.callWith_K (h₀ := X.base) I.ok.mod.kin hk (thn (ha pos pins s σ H _ I h) fun us s1 ⟨vs, H1, I1, r, q⟩ => ⟨I1.kIn, ?_⟩) he hpl
  exact run_fn F hr hb hd hx I1 r q
structure Mk (K : PySem.W.Frag) (C f : Addr) : Prop where
  makes : PySem.W.makesIn K C = true
  init : PySem.W.findIn K (.ref C) "__init__" = some (some (.ref f))
  fn : PySem.W.isFn K (.ref f) = true
  kp : PySem.W.keepIn K (.ref C) = true

theorem run_make {pins : List (Addr × Obj)} {σ : St} {H : Hp} {s : Shared} {Q : VK} {us : List Value} {vs : List V} (M : Mk X.K C f) (F : FnOk X.prog X.w X.K X.mg X.base CX k f fd ps sp) (hr : Room (k + 1) X.A) (hb : Binds X.K fd ps ds) (hd : Vals dvs ds)
    (hx : Passes CX X E) (I : Inv X pins σ H s) (r : Vals vs us)
    (h : ∀ x dx, H x = none → H dx = none → dx ≠ x → sp (.ref x :: (vs ++ dvs)) (upd (upd H dx (.own x)) x (.ins C dx [])) (fun v H2 => v = .non ∧ Q (.ref x) H2) E) :
    wpAny (model X.prog X.w) X.A (call (.ref C) us) (EP X pins σ Q) X.xe s := by
  have hq := h (s.heap.objs.size + 1) s.heap.objs.size (I.hok.fresh (Nat.le_succ _)) (I.hok.fresh (Nat.le_refl _)) (Nat.ne_of_lt (Nat.lt_succ_self _))
  have I2 := Inv.made (C := C) I
  have r2 : Vals (V.ref (s.heap.objs.size + 1) :: (vs ++ dvs)) (Value.ref (s.heap.objs.size + 1) :: (us ++ ds)) := .cons rfl (r.append hd)
  have hl : (Value.ref (s.heap.objs.size + 1) :: us ++ ds).length = ps.length := by
    have e := r2.length
    rw [F.len _ _ _ _ hq] at e
    exact e.symm
  refine wpAny_call (make_map (f := f) I.kIn M.makes M.init (beq_iff_eq.mp M.fn) (codeAny_mono (F.run _ X.stack _ _ ⟨Value.ref (s.heap.objs.size + 1) :: us, []⟩ (Value.ref (s.heap.objs.size + 1) :: (us ++ ds)) _ _ E (hr.make C us [])
    (I2.env0.make C us []) (hb _ (Value.ref (s.heap.objs.size + 1) :: us) I2.kIn hl) r2 hq) fun r s' hq' => ?_))
  cases r with
  | error e => exact hx pins σ _ _ e s' I2 hq'
  | ok fl =>
    cases fl with
    | ret u =>
      obtain ⟨v, H', I3, rv, ev, q3⟩ := I2.after hq'
      subst ev
      exact ⟨rv, ⟨V.ref (s.heap.objs.size + 1), H', I3, rfl, q3⟩⟩
    | next => exact False.elim hq'
    | brk => exact False.elim hq'
    | cont => exact False.elim hq'
theorem pe_make (M : Mk X.K C f) (F : FnOk X.prog X.w X.K X.mg X.base CX k f fd ps sp) (hr : Room (k + 1) X.A) (hg : Gl X x) (hm : X.mg x = some (.ref C)) (hb : Binds X.K fd ps ds) (hd : Vals dvs ds) (hx : Passes CX X E)
    (ha : PA X (e :: es) t) (hdb : (x == ("__debug__" : Str)) = false := by decide) (he : starEach (e :: es) X.env = (false, eval e X.env) :: starEach es X.env := by rfl) (hpl : (backTo pos (starEach es X.env)).any (·.1) = false := by rfl) :
    PE X (.Call (.Name x p) (e :: es) [] pos) (tMake C sp dvs E t) := by
  intro pins s σ H Q I h
  refine wpAny_Call_Name_kw (ld_glob I hg hm ?_ hdb)
  refine PySem.W.callWith_K (h₀ := X.base) I.ok.mod.kin M.kp (thn (ha pos pins s σ H _ I h) fun us s1 ⟨vs, H1, I1, r, q⟩ => ⟨I1.kIn, ?_⟩) he hpl
  exact run_make M F hr hb hd hx I1 r q
end



section
variable {X : Cx} {CX : CXT} {k : Nat} {f C : Addr} {fd : FuncData} {ps ks : List Str} {sp : Sp} {E : XK} {x m : Str} {p pos apos kpos : Pos} {e o : Expr} {es : List Expr} {kws : List Keyword} {te ta : TE} {t tk : TA} {nm : Option Str}
variable {g : List Value → List Value → List Value} {gV : List V → List V → List V}
end



structure FnScope (N P : List Str) (sc : Scope) : Prop where
  kind : sc.kind = .function
  co : sc.isCoroutine = false
  gen : sc.isGenerator = false
  nd : N.Nodup
  pre : N.take P.length = P
  par : ∀ x ∈ P, sc.names.lookup x = some .local ∨ sc.names.lookup x = some .cell
  nofree : ∀ y ∈ sc.names, y.2 ≠ .free

theorem bindL_out {kindOf : Str → Option NameKind} {x : Str} : ∀ {binds : List (Str × Value)} {m : Str → Option Value}, (∀ v, (x, v) ∉ binds) → bindL kindOf binds m x = m x
  | [], _, _ => rfl
  | (n, v) :: r, m, h => by
    unfold bindL
    rw [bindL_out fun w hw => h w (List.mem_cons_of_mem _ hw)]
    split
    · have : x ≠ n := by rintro rfl; exact h v List.mem_cons_self
      simp [this]
    · rfl
theorem bindC_out {kindOf : Str → Option NameKind} {x : Str} : ∀ {binds : List (Str × Value)} {m : Str → Option Value}, (∀ v, (x, v) ∉ binds) → bindC kindOf binds m x = m x
  | [], _, _ => rfl
  | (n, v) :: r, m, h => by
    unfold bindC
    rw [bindC_out fun w hw => h w (List.mem_cons_of_mem _ hw)]
    split
    · rfl
    · have : x ≠ n := by rintro rfl; exact h v List.mem_cons_self
      simp [this]
theorem bindL_get {kindOf : Str → Option NameKind} {x : Str} {v : Value} : ∀ {P : List Str} {vs : List Value} {i : Nat} {m : Str → Option Value}, P.Nodup → P[i]? = some x → vs[i]? = some v → kindOf x = some .local →
    bindL kindOf (P.zip vs) m x = some v
  | [], _, _, _, _, h, _, _ => by simp at h
  | _ :: _, [], _, _, _, _, h, _ => by simp at h
  | p :: P, w :: vs, 0, m, nd, h1, h2, hk => by
    simp at h1 h2; subst h1; subst h2
    show bindL kindOf ((p, w) :: P.zip vs) m p = _
    unfold bindL
    rw [bindL_out fun v hv => (List.nodup_cons.mp nd).1 (List.of_mem_zip hv).1, if_pos hk]
    simp
  | p :: P, w :: vs, i + 1, m, nd, h1, h2, hk => by
    show bindL kindOf ((p, w) :: P.zip vs) m x = _
    unfold bindL
    exact bindL_get (i := i) (List.nodup_cons.mp nd).2 (by simpa using h1) (by simpa using h2) hk
theorem bindC_get {kindOf : Str → Option NameKind} {x : Str} {v : Value} : ∀ {P : List Str} {vs : List Value} {i : Nat} {m : Str → Option Value}, P.Nodup → P[i]? = some x → vs[i]? = some v → kindOf x ≠ some .local →
    bindC kindOf (P.zip vs) m x = some v
  | [], _, _, _, _, h, _, _ => by simp at h
  | _ :: _, [], _, _, _, _, h, _ => by simp at h
  | p :: P, w :: vs, 0, m, nd, h1, h2, hk => by
    simp at h1 h2; subst h1; subst h2
    show bindC kindOf ((p, w) :: P.zip vs) m p = _
    unfold bindC
    rw [bindC_out fun v hv => (List.nodup_cons.mp nd).1 (List.of_mem_zip hv).1, if_neg hk]
    simp
  | p :: P, w :: vs, i + 1, m, nd, h1, h2, hk => by
    show bindC kindOf ((p, w) :: P.zip vs) m x = _
    unfold bindC
    exact bindC_get (i := i) (List.nodup_cons.mp nd).2 (by simpa using h1) (by simpa using h2) hk


def start (N : List Str) (vs : List V) : St := vs.map some ++ List.replicate (N.length - vs.length) none


def cxOf (CX : CXT) (P : Program) (w : World) (K : PySem.W.Frag) (mg : Str → Option Value) (base : Heap) (N : List Str) (qual : Str) (scope : Scope) (f : Addr) (cd : Value) (A : Around) (outer : List Env) (s : Shared) (H : Hp) (E : XK) : Cx where
  prog := P
  w := w
  K := K
  mg := mg
  base := base
  A := A.deeper (envOfC qual scope s.heap.objs.size f cd)
  N := N
  s₀ := s
  H₀ := H
  env := envOfC qual scope s.heap.objs.size f cd
  outer := outer
  stack := envOfC qual scope s.heap.objs.size f cd :: outer
  ex := []
  calm := true
  fn := fun _ => true
  pn := []
  xe := fun e s' => wpAny (model P w) (A.deeper (envOfC qual scope s.heap.objs.size f cd)) (leaving (envOfC qual scope s.heap.objs.size f cd) e) (fun _ s'' => CX outer H s E e s'') (fun e' s'' => CX outer H s E e' s'') s'

theorem cell_has {sc : Scope} {n : Nat} {x : Str} (h : sc.names.lookup x = some .cell) : ∃ c, (cellsFrom n sc.names []).lookup x = some c := by
  have q := PySem.W.cellsFrom_some sc.names n [] (.inl h)
  exact Option.isSome_iff_exists.mp q

theorem inv_start {CX : CXT} {P : Program} {w : World} {K : PySem.W.Frag} {mg : Str → Option Value} {base : Heap} {N ps : List Str} {qual : Str} {scope : Scope} {f : Addr} {cd : Value} {A : Around} {outer : List Env} {s s1 : Shared} {H : Hp} {E : XK} {us : List Value} {vs : List V}
    (S : FnScope N ps scope) (hd : A.handled = none) (e0 : Env0 P w K mg base A outer s H) (hl : vs.length = ps.length) (r : Vals vs us)
    (x : InCallC s s.heap.objs.size (bindL (envOfC qual scope s.heap.objs.size f cd).kindOf (ps.zip us) fun _ => none) (cellsFrom (s.heap.objs.size + 1) scope.names []) (bindC (envOfC qual scope s.heap.objs.size f cd).kindOf (ps.zip us) fun _ => none) s1) :
    Inv (cxOf CX P w K mg base N qual scope f cd A outer s H E) [] (start N vs) H s1 := by
  have hpl : ps.length ≤ N.length := by have := congrArg List.length S.pre; rw [List.length_take] at this; omega
  obtain ⟨h1, tk, rfl, hk⟩ := x.done
  have noA : ∀ b : Addr, b ∉ (cxOf CX P w K mg base N qual scope f cd A outer s H E).ex := fun b z => absurd (show b ∈ ([] : List Addr) from z) (by simp)
  refine ⟨⟨e0.mod, S.kind, rfl, rfl, Nat.le_refl _, fun y z c h1 h2 => ?_, fun y hy => ?_, fun y c _ h => ?_, fun _ => hd, Around.frames_deeper e0.frames, .inr ⟨rfl, rfl⟩, fun b z => absurd z (noA b), e0.bs, e0.bsz, fun b _ _ => noA b, fun b z => absurd z (noA b), e0.funs, e0.frf⟩,
    rfl, e0.bare, Un.kept hk, ⟨_, x.toInCall.ns, fun i y v h1 h2 h3 => ?_⟩, fun y c h => ⟨_, x.cell y c h⟩, e0.hok.fresh (Nat.le_refl _), fun y c h => ?_, fun p hp => absurd (show p ∈ ([] : List (Addr × Obj)) from hp) (by simp), e0.hok.kept hk, ?_⟩
  · exact name_of_addr x.apart (PySem.mem_of_lookup h1) (PySem.mem_of_lookup h2)
  · have hy : scope.names.lookup y = some .cell ∨ scope.names.lookup y = some .free := hy
    rcases hy with hy | hy
    · exact cell_has hy
    · exact absurd rfl (S.nofree _ (PySem.mem_of_lookup hy))
  · exact Nat.le_of_lt (x.above y c (PySem.mem_of_lookup h))
  · have hi : i < vs.length := by
      unfold start at h2
      by_cases hi : i < vs.length
      · exact hi
      · rw [List.getElem?_append_right (by simpa using hi)] at h2
        rw [List.getElem?_replicate] at h2
        split at h2 <;> cases h2
    have ha : vs[i]? = some v := by
      unfold start at h2
      rw [List.getElem?_append_left (by simpa using hi), List.getElem?_map] at h2
      cases e : vs[i]? with
      | none => rw [e] at h2; cases h2
      | some a => rw [e] at h2; cases h2; rfl
    obtain ⟨u, hu, rv⟩ := r.get ha
    have hp : ps[i]? = some y := by
      rw [← S.pre, List.getElem?_take_of_lt (by omega)]; exact h1
    have ndP : ps.Nodup := by rw [← S.pre]; exact S.nd.sublist (List.take_sublist _ _)
    refine ⟨u, rv, ?_⟩
    rcases S.par y (List.mem_of_getElem? hp) with k | k
    · exact .inl ⟨k, bindL_get ndP hp hu k⟩
    · obtain ⟨c, e⟩ := cell_has (n := s.heap.objs.size + 1) k
      refine .inr ⟨.inl k, c, e, ?_⟩
      have q := x.cell y c e
      rw [bindC_get ndP hp hu (by show scope.names.lookup y ≠ _; rw [k]; decide)] at q
      exact q
  · exact e0.hok.fresh (Nat.le_of_lt (x.above y c (PySem.mem_of_lookup h)))
  · unfold start
    show _ = N.length
    rw [List.length_append, List.length_map, List.length_replicate]
    omega


theorem fn_of {CX : CXT} {P : Program} {w : World} {K : PySem.W.Frag} {mg : Str → Option Value} {base : Heap} {k : Nat} {f : Addr} {name qual : Str} {params : Arguments} {body : List Stmt} {scope : Scope} {dV kV doc pm cdv ct oc : Value} {an od : Option Addr}
    {osl : Array (Option Value)} {N ps : List Str} {sp : Sp} (lk : K.lookup f = some ⟨oc, od, .func (PySem.W.fnOf name qual params body scope dV kV doc pm an cdv ct), osl⟩) (hcd : PySem.W.codeIn K cdv qual = true) (S : FnScope N ps scope)
    (len : ∀ vs H Q E, sp vs H Q E → vs.length = ps.length)
    (hbody : ∀ (A : Around) (outer : List Env) (s : Shared) (H : Hp) (vs : List V) (Q : VK) (E : XK), Room k (A.deeper (envOfC qual scope s.heap.objs.size f cdv)) → sp vs H Q E →
      ∃ t, PSs (cxOf CX P w K mg base N qual scope f cdv A outer s H E) body t ∧ t { nx := fun _ H' => Q .non H', rt := Q } (start N vs) H) :
    FnOk P w K mg base CX (k + 1) f (PySem.W.fnOf name qual params body scope dV kV doc pm an cdv ct) ps sp := by
  refine ⟨len, fun A outer s H args us vs Q E hr e0 hb r hsp => ?_⟩
  have hl := len _ _ _ _ hsp
  have KX : K.In s.heap := e0.mod.kin.keeps fun b o e => (e0.bs b o e).1
  have lim : s.heap.NoLimit := e0.mod.nolimit.keeps fun b o e => (e0.bs b o e).1
  have hkind : ∀ y ∈ ps.zip us, scope.names.lookup y.1 = some .local ∨ (scope.names.lookup y.1 = some .cell ∧ ((cellsFrom (s.heap.objs.size + 1) scope.names []).lookup y.1).isSome = true) := fun ⟨n, v⟩ hy => by
    rcases S.par n (List.of_mem_zip hy).1 with q | q
    · exact .inl q
    · exact .inr ⟨q, PySem.W.cellsFrom_some _ _ _ (.inl q)⟩
  refine codeAny_call_function hr.depth (KX _ _ lk) rfl S.co S.gen rfl (PySem.W.codeRec_of KX hcd) (hb _ _ _ _ ?_)
  refine wpAny_newFunctionEnv_cells S.kind hkind fun env he s1 x => ?_
  subst he
  refine ⟨lim.keeps x.toInCall.keep, codeAny_func ?_⟩
  obtain ⟨t, ht, hq⟩ := hbody A outer s H vs Q E (hr.deeper _) hsp
  have I : Inv (cxOf CX P w K mg base N qual scope f cdv A outer s H E) [] (start N vs) H s1 := inv_start S hr.hd e0 hl r x
  refine wpAny_mono (ht [] s1 (start N vs) H _ I hq) (fun fl s' hs => ?_) fun e s' hs => hs
  have fin : ∀ {σ' : St} {H' : Hp} {v : V} {u : Value}, Inv (cxOf CX P w K mg base N qual scope f cdv A outer s H E) [] σ' H' s' → RelV v u → Q v H' → CE outer P w H s Q u s' :=
    fun {σ' H' v u} J rv q => ⟨v, H', J.os, J.bare, J.base, J.hok, rv, q⟩
  cases fl with
  | ret u =>
    obtain ⟨v, σ', H', J, rv, q⟩ := hs
    exact fin J rv q
  | next =>
    obtain ⟨σ', H', J, q⟩ := hs
    exact fin (v := V.non) (u := Value.none) J rfl q
  | brk =>
    obtain ⟨_, _, _, q⟩ := hs
    exact False.elim q
  | cont =>
    obtain ⟨_, _, _, q⟩ := hs
    exact False.elim q
end L2

namespace L2
open PySem PySem.Spec PyProof.Rows
section
variable {X : Cx} {x : Str} {p pos : Pos} {e : Expr} {es : List Expr} {t : TA} {id T : String} {r : List V → Hp → VK → Prop}

def tCB (r : List V → Hp → VK → Prop) (t : TA) : TE := fun σ H Q => t σ H fun vs H1 => r vs H1 Q

theorem pe_callB (hc : CallR X (.builtin id) r) (hg : Gl X x) (hm : X.mg x = none) (hv : bootBuiltins x = some (.builtin id)) (ha : PA X (e :: es) t) (hn : x ≠ "__name__" := by decide) (hdb : (x == ("__debug__" : Str)) = false := by decide)
    (he : starEach (e :: es) X.env = (false, eval e X.env) :: starEach es X.env := by rfl) (hpl : (backTo pos (starEach es X.env)).any (·.1) = false := by rfl) : PE X (.Call (.Name x p) (e :: es) [] pos) (tCB r t) := by
  intro pins s σ H Q I h
  refine wpAny_Call_Name_kw (ld_blt I hg hm hv ?_ hn hdb)
  exact PyProof.Rows.callWith_builtin1 (thn (ha pos pins s σ H _ I h) fun us s1 ⟨vs, H1, I1, r1, q1⟩ => hc pins s1 σ H1 vs us Q I1 r1 q1) he hpl

theorem pe_callTy (hc : CallR X (.type T) r) (hg : Gl X x) (hm : X.mg x = none) (hv : bootBuiltins x = some (.type T)) (ha : PA X (e :: es) t) (hn : x ≠ "__name__" := by decide) (hdb : (x == ("__debug__" : Str)) = false := by decide)
    (he : starEach (e :: es) X.env = (false, eval e X.env) :: starEach es X.env := by rfl) (hpl : (backTo pos (starEach es X.env)).any (·.1) = false := by rfl) : PE X (.Call (.Name x p) (e :: es) [] pos) (tCB r t) := by
  intro pins s σ H Q I h
  refine wpAny_Call_Name_kw (ld_blt I hg hm hv ?_ hn hdb)
  exact PyProof.Rows.callWith_type1 (thn (ha pos pins s σ H _ I h) fun us s1 ⟨vs, H1, I1, r1, q1⟩ => hc pins s1 σ H1 vs us Q I1 r1 q1) he hpl

end
end L2

namespace HT
open PySem PyProof.Rows


section
open PySem.SeqAt
open PySem.AutoSeq1 (wpAny_loadPart')
open PySem.MeetsSeq PySem.MeetsSeq2 PySem.MeetsSeq3

end

section
variable {prog : Program} {w : World} {A : Around} {E : Value → Shared → Prop} {s : Shared}

theorem cat_tup {t b : Addr} {vs ws : List Value} {Q : Value → Shared → Prop} (ht : IsTup s.heap t vs.toArray) (hb : IsTup s.heap b ws.toArray) (hv : vs ≠ [])
    (h1 : ws = [] → Q (.ref t) s) (h2 : ws ≠ [] → Q (.ref s.heap.objs.size) { s with heap := s.heap.push { cls := .type "tuple", data := .seq (vs ++ ws).toArray } })
    (hsz : vs.length + ws.length ≤ sizeLine) : wpAny (model prog w) A (binaryOp .Add (.ref t) (.ref b)) Q E s := by
  obtain ⟨⟨cls, dd, data, sl⟩, ho, hc, n, hd⟩ := id ht
  obtain ⟨⟨cls2, dd2, data2, sl2⟩, ho2, hc2, n2, hd2⟩ := id hb
  simp only at hc hd hc2 hd2
  subst hc hd hc2 hd2
  have e : vs.toArray ++ ws.toArray = (vs ++ ws).toArray := by simp
  by_cases hw : ws = []
  · exact concat_meets ⟨_, ho, rfl⟩ ⟨_, ho2, rfl⟩ noFill_tuple_add seq_tuple_add PySem.F.slot_tuple_add PySem.F.entry_tuple_add (PySem.F.args_tuple_add_2 _ _)
      (tuple_addW1 t b vs.toArray ws.toArray n n2 dd dd2 sl sl2 (by simpa using hv) (by simp [hw])) ⟨ho, ho2, h1 hw⟩
  · refine concat_meets ⟨_, ho, rfl⟩ ⟨_, ho2, rfl⟩ noFill_tuple_add seq_tuple_add PySem.F.slot_tuple_add PySem.F.entry_tuple_add (PySem.F.args_tuple_add_2 _ _)
      (tuple_addW2 t b vs.toArray ws.toArray n n2 dd dd2 sl sl2 (by simpa using hv) (by simpa using hw) (by rw [List.size_toArray, List.size_toArray]; exact hsz)) ⟨ho, ho2, ?_⟩
    rw [e]
    exact h2 hw



def sIx (n d : Nat) : Option Int → Nat
  | none => d
  | some v => if v < 0 then (v + (n : Int)).toNat else min v.toNat n
theorem sIx_nat (n d k : Nat) : sIx n d (some (k : Int)) = min k n := by
  show (if (k : Int) < 0 then ((k : Int) + (n : Int)).toNat else min (k : Int).toNat n) = min k n
  rw [if_neg (by omega), Int.toNat_natCast]
theorem sIx_le (n d : Nat) (hd : d ≤ n) (o : Option Int) : sIx n d o ≤ n := by
  cases o with
  | none => exact hd
  | some v =>
    show (if v < 0 then (v + (n : Int)).toNat else min v.toNat n) ≤ n
    by_cases hv : v < 0
    · rw [if_pos hv]; omega
    · rw [if_neg hv]; exact Nat.min_le_right _ _
theorem clip_eq (v : Int) (n d : Nat) : (if v < 0 then max (v + (n : Int)) 0 else min v (n : Int)) = ((sIx n d (some v) : Nat) : Int) := by
  show (if v < 0 then max (v + (n : Int)) 0 else min v (n : Int)) = (((if v < 0 then (v + (n : Int)).toNat else min v.toNat n) : Nat) : Int)
  by_cases hv : v < 0
  · simp only [if_pos hv]; omega
  · simp only [if_neg hv]; omega
theorem adjust_gen (lo hi : Option Int) (n : Nat) : Builtin.Slice.sliceAdjust lo hi 1 (n : Int) = (((sIx n 0 lo : Nat) : Int), ((sIx n n hi : Nat) : Int)) := by
  have h1 : ¬ ((1 : Int) < 0) := by omega
  unfold Builtin.Slice.sliceAdjust
  simp only [h1, if_false]
  refine Prod.ext ?_ ?_
  · cases lo with
    | none => rfl
    | some v => exact clip_eq v n 0
  · cases hi with
    | none => rfl
    | some v => exact clip_eq v n n
theorem places_gen (i j : Nat) : Builtin.Slice.slicePlaces (i : Int) (j : Int) 1 = j - i := by
  unfold Builtin.Slice.slicePlaces
  have h1 : (1 : Int) > 0 := by omega
  simp only [h1, if_true, Int.ediv_one]
  split <;> omega
theorem slicePart_ {v : Value} {o : Option Int} {Q : Option Int → Shared → Prop} (p : IsPart v o) (h : Q o s) : wpAny (model prog w) A (Builtin.Slice.slicePartIndex v) Q E s := by
  cases p with
  | none => exact slicePart_none h
  | int i t => exact slicePart_int h
theorem sliceApplied_gen {sl : Addr} {vl vu : Value} {lo hi : Option Int} {n : Nat} {Q : Int × Int × Nat → Shared → Prop} (hs : s.heap.IsSliceOf sl vl vu .none) (pl : IsPart vl lo) (pu : IsPart vu hi)
    (h : Q (((sIx n 0 lo : Nat) : Int), 1, sIx n n hi - sIx n 0 lo) s) : wpAny (model prog w) A (Builtin.Slice.sliceApplied (.ref sl) (pure (n : Int))) Q E s := by
  obtain ⟨os, hos, hcs, hds⟩ := id hs
  unfold Builtin.Slice.sliceApplied Builtin.Slice.sliceFields
  refine wpAny_bind (wpAny_bind (wpAny_field hos hds (x := vl) rfl (wpAny_bind (wpAny_field hos hds (x := vu) rfl (wpAny_bind (wpAny_field hos hds (x := .none) rfl (wpAny_pure ?_)))))))
  refine wpAny_bind (slicePart_none ?_)
  show wpAny _ _ (if ((1 : Int) == 0) = true then _ else _) _ _ s
  rw [if_neg (by decide)]
  refine wpAny_bind (slicePart_ pl (wpAny_bind (slicePart_ pu (wpAny_bind (wpAny_pure ?_)))))
  show wpAny _ _ (match Builtin.Slice.sliceAdjust lo hi 1 (n : Int) with | (lo, hi) => pure (lo, (1 : Int), Builtin.Slice.slicePlaces lo hi 1)) _ _ s
  rw [adjust_gen lo hi n]
  show wpAny _ _ (pure (((sIx n 0 lo : Nat) : Int), (1 : Int), Builtin.Slice.slicePlaces ((sIx n 0 lo : Nat) : Int) ((sIx n n hi : Nat) : Int) 1)) _ _ s
  rw [places_gen]
  exact wpAny_pure h
theorem pick_gen (xs : Array Value) (i k : Nat) : ((List.range k).filterMap fun (m : Nat) => xs[((i : Int) + (m : Int) * 1).toNat]?).toArray = ((xs.toList.drop i).take k).toArray := by
  have e : (fun (m : Nat) => xs[((i : Int) + (m : Int) * 1).toNat]?) = fun m => xs[i + m]? := by
    funext m
    have : ((i : Int) + (m : Int) * 1).toNat = i + m := by omega
    rw [this]
  rw [e]
  have := pick_run xs i k
  rw [List.filterMap_map] at this
  have e2 : ((fun x => xs[x]?) ∘ fun x => i + x) = fun m => xs[i + m]? := rfl
  rw [e2] at this
  rw [this]

theorem getItem_tuple_cut {t sl : Addr} {items : Array Value} {vl vu : Value} {lo hi : Option Int} {Q : Value → Shared → Prop} (ht : IsTup s.heap t items) (hs : s.heap.IsSliceOf sl vl vu .none) (pl : IsPart vl lo) (pu : IsPart vu hi)
    (hw : ¬ (sIx items.size 0 lo = 0 ∧ sIx items.size items.size hi = items.size))
    (h : Q (.ref s.heap.objs.size) { s with heap := s.heap.push { cls := .type "tuple", data := .seq ((items.toList.drop (sIx items.size 0 lo)).take (sIx items.size items.size hi - sIx items.size 0 lo)).toArray } })
    (hsz : items.size ≤ sizeLine) : wpAny (model prog w) A (getItem (.ref t) (.ref sl)) Q E s := by
  have htake : sizeOk (.seq ((items.toList.drop (sIx items.size 0 lo)).take (sIx items.size items.size hi - sIx items.size 0 lo)).toArray) := by
    show ((items.toList.drop (sIx items.size 0 lo)).take (sIx items.size items.size hi - sIx items.size 0 lo)).toArray.size ≤ sizeLine
    rw [List.size_toArray, List.length_take, List.length_drop, Array.length_toList]
    omega
  have hj : sIx items.size items.size hi ≤ items.size := sIx_le _ _ (Nat.le_refl _) hi
  obtain ⟨os, hos, hcs, hds⟩ := id hs
  have hTs : s.TypeIs (.ref sl) "slice" := ⟨os, hos, hcs⟩
  unfold getItem
  try with_reducible refine wpAny_holding ?_
  first | refine wpAny_bind (wpAny_pure ?_) | skip
  refine wpAny_bind (wpAny_sequenceKey ht.typeIs (by decide) ?_)
  refine wpAny_bind (wpAny_callSpecial?_slot (name := Str.ofString "__getitem__") ht.typeIs PyProof.Rows.slot_tuple_getitem
    (wpAny_call_entry PyProof.Rows.slot_tuple_getitem ht.typeIs entry_tuple_getitem ?_ (args_tuple_getitem _ _)))
  show wpAny _ _ (Builtin.Tuple.tupleItemsOf (.ref t) >>= _) _ _ s
  refine wpAny_bind (tupleItemsOf_ ht ?_)
  refine wpAny_bind (wpAny_typeOf hTs ?_)
  rw [if_pos (by decide)]
  refine wpAny_bind (sliceApplied_gen hs pl pu ?_)
  have hno : ¬ ((((sIx items.size 0 lo : Nat) : Int) == 0 && (1 : Int) == 1 && (sIx items.size items.size hi - sIx items.size 0 lo) == items.size) = true) := by
    intro q
    rw [Bool.and_eq_true, Bool.and_eq_true] at q
    have q1 : ((sIx items.size 0 lo : Nat) : Int) = 0 := eq_of_beq q.1.1
    have q2 : sIx items.size items.size hi - sIx items.size 0 lo = items.size := eq_of_beq q.2
    exact hw ⟨by omega, by omega⟩
  show wpAny _ _ (if (((sIx items.size 0 lo : Nat) : Int) == 0 && (1 : Int) == 1 && (sIx items.size items.size hi - sIx items.size 0 lo) == items.size) = true then _ else _) _ _ s
  rw [if_neg hno, pick_gen]
  first
    | exact wpAny_bind (m := Builtin.Tuple.tupleExact _) (wpAny_newObj_type (wpAny_pure ⟨_, rfl, wpAny_pure h⟩) htake)
    | exact wpAny_bind (m := Builtin.Tuple.tupleExact _) (wpAny_newObj_type (wpAny_bind (wpAny_pure (wpAny_pure ⟨_, rfl, wpAny_pure h⟩))) htake)
    | exact wpAny_bind (wpAny_bind (m := Builtin.Tuple.tupleExact _) (wpAny_newObj_type (wpAny_pure (wpAny_pure ⟨_, rfl, wpAny_pure h⟩)) htake))
    | exact wpAny_bind (wpAny_bind (m := Builtin.Tuple.tupleExact _) (wpAny_newObj_type (wpAny_pure ⟨_, rfl, wpAny_pure h⟩) htake))
end
end HT

namespace L2
open PySem PySem.Spec PyProof.Rows


abbrev TO := St → Hp → (Option Int → Hp → Prop) → Prop

def PO (X : Cx) (e : Option Expr) (t : TO) : Prop :=
  ∀ (pins : List (Addr × Obj)) (s : Shared) (σ : St) (H : Hp) (Q : Option Int → Hp → Prop), Inv X pins σ H s → t σ H Q →
    wpAny (model X.prog X.w) X.A (evalPart e X.env) (fun u s' => ∃ o H', Inv X pins σ H' s' ∧ IsPart u o ∧ Q o H') X.xe s
def tNoPart : TO := fun _ H Q => Q none H
def tPart (t : TE) : TO := fun σ H Q => t σ H fun x H1 => ∃ i, x = .int i ∧ Q (some i) H1

section
variable {X : Cx} {e : Expr} {te : TE} {lo hi : Option Expr} {tl th : TO} {pos p2 : Pos}

theorem po_none : PO X none tNoPart := by
  intro pins s σ H Q I h
  rw [evalPart_none]
  exact wpAny_pure ⟨none, H, I, .none, h⟩
theorem po_some (h : PE X e te) : PO X (some e) (tPart te) := by
  intro pins s σ H Q I hw
  rw [evalPart_some]
  refine thn (h pins s σ H _ I hw) fun u s1 ⟨x, H1, I1, r1, q1⟩ => ?_
  obtain ⟨i, rfl, q⟩ := q1
  obtain ⟨t, rfl⟩ := r1
  exact ⟨some i, H1, I1, .int i t, q⟩


def SlR (X : Cx) (r : V → Option Int → Option Int → Hp → VK → Prop) : Prop :=
  ∀ (pins : List (Addr × Obj)) (s : Shared) (σ : St) (H : Hp) (x : V) (v vl vu : Value) (lo hi : Option Int) (sl : Addr) (Q : VK), Inv X pins σ H s → RelV x v → s.heap.IsSliceOf sl vl vu .none → IsPart vl lo → IsPart vu hi → r x lo hi H Q →
    ∃ T id, typeLookup (.type T) "__getitem__" = pure (some (.builtin id)) ∧ s.TypeIs v T ∧ wpAny (model X.prog X.w) X.A (getItem v (.ref sl)) (EP X pins σ Q) X.xe s
theorem SlR.or {r r' : V → Option Int → Option Int → Hp → VK → Prop} (h : SlR X r) (h' : SlR X r') : SlR X (fun x lo hi H Q => r x lo hi H Q ∨ r' x lo hi H Q) := by
  intro pins s σ H x v vl vu lo hi sl Q I rx hs pl pu q
  rcases q with q | q
  · exact h pins s σ H x v vl vu lo hi sl Q I rx hs pl pu q
  · exact h' pins s σ H x v vl vu lo hi sl Q I rx hs pl pu q
def tSl (r : V → Option Int → Option Int → Hp → VK → Prop) (te : TE) (tl th : TO) : TE := fun σ H Q => te σ H fun x H1 => tl σ H1 fun l H2 => th σ H2 fun u H3 => r x l u H3 Q

theorem pe_slice {r : V → Option Int → Option Int → Hp → VK → Prop} (hr : SlR X r) (he : PE X e te) (hl : PO X lo tl) (hu : PO X hi th) : PE X (.Subscript e (.Slice lo hi none p2) pos) (tSl r te tl th) := by
  intro pins s σ H Q I h
  refine Subscript_ (thn (he pins s σ H _ I h) fun v s1 ⟨x, H1, I1, r1, q1⟩ => ?_)
  refine wpAny_Slice (thn (hl pins s1 σ H1 _ I1 q1) fun vl s2 ⟨l, H2, I2, pl, q2⟩ => thn (hu pins s2 σ H2 _ I2 q2) fun vu s3 ⟨u, H3, I3, pu, q3⟩ => ?_)
  rw [evalPart_none]
  refine wpAny_pure ?_
  have I4 : Inv X pins σ H3 { s3 with heap := s3.heap.push { cls := .type "slice", data := .fields #[vl, vu, .none] } } := I3.kept (t' := s3.toks) fun b ob q => Heap.get?_push_of_some _ q
  obtain ⟨T, id, hT, ht, hg⟩ := hr pins { s3 with heap := s3.heap.push { cls := .type "slice", data := .fields #[vl, vu, .none] } } σ H3 x v vl vu l u s3.heap.objs.size Q I4 r1 (Heap.IsSliceOf.new ..) pl pu q3
  show wpAny (model X.prog X.w) X.A (subscriptTail e (.Slice lo hi none p2) v (.ref s3.heap.objs.size)) (EP X pins σ Q) X.xe { s3 with heap := s3.heap.push { cls := .type "slice", data := .fields #[vl, vu, .none] } }
  exact tail_any (ops := [.ref s3.heap.objs.size, v]) ht hT hg (by with_unfolding_all rfl)


def cutV (xs : List V) (lo hi : Option Int) : List V := (xs.drop (HT.sIx xs.length 0 lo)).take (HT.sIx xs.length xs.length hi - HT.sIx xs.length 0 lo)
theorem cutV_length (xs : List V) (lo hi : Option Int) : (cutV xs lo hi).length ≤ xs.length := by
  unfold cutV
  rw [List.length_take, List.length_drop]
  omega

def rSlT (K : PySem.W.Frag) : V → Option Int → Option Int → Hp → VK → Prop := fun x lo hi H Q => ∃ a xs, x = .ref a ∧ SqT K H a xs ∧
  ¬ (HT.sIx xs.length 0 lo = 0 ∧ HT.sIx xs.length xs.length hi = xs.length) ∧ ∀ p, H p = none → Q (.ref p) (upd H p (.tup (cutV xs lo hi)))
theorem sl_tup : SlR X (rSlT X.K) := by
  intro pins s σ H x v vl vu lo hi sl Q I rx hs pl pu h
  obtain ⟨a, xs, rfl, hx, hw, q⟩ := h
  cases rx
  obtain ⟨its, r, ht, hz⟩ := I.tuple hx
  have hlen : its.toArray.size = xs.length := by rw [List.size_toArray]; exact r.length.symm
  refine ⟨"tuple", _, PyProof.Rows.slot_tuple_getitem.lookup, ht.typeIs, ?_⟩
  refine HT.getItem_tuple_cut ht hs pl pu (by rw [hlen]; exact hw) ?_ (by rw [hlen]; exact hz)
  rw [hlen]
  refine ⟨.ref s.heap.objs.size, _, I.laid (t' := s.toks) (o := .tup (cutV xs lo hi)) (fun b ob q => Heap.get?_push_of_some _ q) (Nat.le_refl _) ?_, rfl, q _ (I.hok.fresh (Nat.le_refl _))⟩
  exact ⟨Nat.le_trans (cutV_length xs lo hi) hz, _, (r.drop (HT.sIx xs.length 0 lo)).take (HT.sIx xs.length xs.length hi - HT.sIx xs.length 0 lo), IsTup.new _ _⟩


def rCatT (K : PySem.W.Frag) : R2 := fun x y H Q => ∃ a b xs ys, x = .ref a ∧ y = .ref b ∧ SqT K H a xs ∧ SqT K H b ys ∧ xs ≠ [] ∧ xs.length + ys.length ≤ sizeLine ∧
  (ys = [] → Q (.ref a) H) ∧ (ys ≠ [] → ∀ p, H p = none → Q (.ref p) (upd H p (.tup (xs ++ ys))))
theorem Vals.nil_iff {xs : List V} {us : List Value} (r : Vals xs us) : us = [] ↔ xs = [] := by
  cases r with
  | nil => simp
  | cons _ _ => simp
theorem op_catT : OpR X (binaryOp .Add) (rCatT X.K) := by
  intro pins s σ H x y v u Q I rx ry h
  obtain ⟨a, b, xs, ys, rfl, rfl, ha, hb, hx, hz, q1, q2⟩ := h
  cases rx
  cases ry
  obtain ⟨its, r1, p1, _⟩ := I.tuple ha
  obtain ⟨its2, r2, p2, _⟩ := I.tuple hb
  refine HT.cat_tup p1 p2 (fun z => hx (r1.nil_iff.mp z)) (fun z => ⟨.ref a, H, I, rfl, q1 (r2.nil_iff.mp z)⟩) (fun z => ?_) (by rw [← r1.length, ← r2.length]; exact hz)
  refine ⟨.ref s.heap.objs.size, _, I.laid (t' := s.toks) (o := .tup (xs ++ ys)) (fun b ob q => Heap.get?_push_of_some _ q) (Nat.le_refl _) ?_, rfl, q2 (fun w => z (r2.nil_iff.mpr w)) _ (I.hok.fresh (Nat.le_refl _))⟩
  exact ⟨by rw [List.length_append]; exact hz, _, r1.append r2, IsTup.new _ _⟩

end
end L2

namespace L2
open PySem PySem.Spec PyProof.Rows



def ixN (n : Nat) (i : Int) : Option Nat := if 0 ≤ i then (if i < n then some i.toNat else none) else if -(n : Int) ≤ i then some (i + n).toNat else none
def atI {α : Type} (xs : List α) (i : Int) : Option α := (ixN xs.length i).bind fun j => xs[j]?
theorem ixN_seq {n : Nat} {i : Int} {j : Nat} (h : ixN n i = some j) : seqIndex? i n = some j ∧ j < n ∧ -(n : Int) ≤ i ∧ i < n := by
  unfold ixN at h
  by_cases h0 : 0 ≤ i
  · rw [if_pos h0] at h
    by_cases h1 : i < n
    · rw [if_pos h1] at h
      have e : i.toNat = j := Option.some.inj h
      exact ⟨by rw [seqIndex_of h0 h1, e], by omega, by omega, h1⟩
    · rw [if_neg h1] at h; cases h
  · rw [if_neg h0] at h
    by_cases h1 : -(n : Int) ≤ i
    · rw [if_pos h1] at h
      have e : (i + n).toNat = j := Option.some.inj h
      exact ⟨by rw [seqIndex_neg (by omega) h1, e], by omega, h1, by omega⟩
    · rw [if_neg h1] at h; cases h
theorem atI_get {α : Type} {xs : List α} {i : Int} {v : α} (h : atI xs i = some v) : ∃ j, seqIndex? i xs.length = some j ∧ xs[j]? = some v ∧ j < xs.length ∧ -(xs.length : Int) ≤ i ∧ i < xs.length := by
  unfold atI at h
  cases e : ixN xs.length i with
  | none => rw [e] at h; cases h
  | some j =>
    rw [e] at h
    obtain ⟨h1, h2, h3, h4⟩ := ixN_seq e
    exact ⟨j, h1, h, h2, h3, h4⟩
theorem atI_nat {α : Type} {xs : List α} {j : Nat} {v : α} (h : xs[j]? = some v) : atI xs (j : Int) = some v := by
  have hj : j < xs.length := (List.getElem?_eq_some_iff.mp h).1
  have e : ixN xs.length (j : Int) = some j := by
    unfold ixN
    rw [if_pos (by omega), if_pos (by omega)]; simp
  unfold atI; rw [e]; exact h
def PlainIx (b : Expr) : Prop := ∀ o i, subscripted b false o i = operate [o, i] (getItem o i)

def IxR (X : Cx) (r : R2) : Prop :=
  ∀ (value slice : Expr) (pins : List (Addr × Obj)) (s : Shared) (σ : St) (H : Hp) (x y : V) (v u : Value) (Q : VK), Inv X pins σ H s → RelV x v → RelV y u → r x y H Q →
    subscripted slice false v u = operate [v, u] (getItem v u) → wpAny (model X.prog X.w) X.A (subscriptTail value slice v u) (EP X pins σ Q) X.xe s

def MtR (X : Cx) (id : String) (r : V → List V → Hp → VK → Prop) : Prop :=
  ∀ (pins : List (Addr × Obj)) (s : Shared) (σ : St) (H : Hp) (x : V) (xs : List V) (v : Value) (us : List Value) (Q : VK), Inv X pins σ H s → RelV x v → Vals xs us → r x xs H Q →
    wpAny (model X.prog X.w) X.A (call (.builtin id) (v :: us)) (EP X pins σ Q) X.xe s
section
variable {X : Cx} {a b : Expr} {ta tb : TE} {pos : Pos}
theorem IxR.or {r r' : R2} (h : IxR X r) (h' : IxR X r') : IxR X (fun x y H Q => r x y H Q ∨ r' x y H Q) := by
  intro value slice pins s σ H x y v u Q I rx ry q hs
  rcases q with q | q
  · exact h value slice pins s σ H x y v u Q I rx ry q hs
  · exact h' value slice pins s σ H x y v u Q I rx ry q hs
theorem pe_ix {r : R2} (hr : IxR X r) (ha : PE X a ta) (hb : PE X b tb) (hs : PlainIx b) : PE X (.Subscript a b pos) (tOp r ta tb) := by
  intro pins s σ H Q I h
  exact Subscript_ (binT ha hb I h fun v u s2 x y H2 I2 rx ry q => hr a b pins s2 σ H2 x y v u Q I2 rx ry q (hs _ _))

def rIxL (K : PySem.W.Frag) : R2 := fun x y H Q => ∃ p xs i v, x = .ref p ∧ y = .int i ∧ SqL K H p xs ∧ atI xs i = some v ∧ Q v H
def rIxT (K : PySem.W.Frag) : R2 := fun x y H Q => ∃ p xs i v, x = .ref p ∧ y = .int i ∧ SqT K H p xs ∧ atI xs i = some v ∧ Q v H
def rIxS : R2 := fun x y H Q => ∃ z i c, x = .str z ∧ y = .int i ∧ z.length ≤ sizeLine ∧ atI z.cps.toList i = some c ∧ Q (.str ⟨#[c]⟩) H
theorem ix_list : IxR X (rIxL X.K) := by
  intro value slice pins s σ H x y v u Q I rx ry h hs
  obtain ⟨p, xs, i, z, rfl, rfl, hq, he, q⟩ := h
  cases rx
  obtain ⟨t, rfl⟩ := ry
  obtain ⟨its, r, pl, hz⟩ := I.list hq
  obtain ⟨j, h1, h2, h3, h4, h5⟩ := atI_get he
  obtain ⟨w, ew, rw'⟩ := r.get h2
  have hl := r.length
  have hn := line63
  have fin : EP X pins σ Q w s := ⟨z, H, I, rw', q⟩
  by_cases h0 : 0 ≤ i
  · have hj : i.toNat = j := by
      rw [seqIndex_of h0 h5] at h1
      exact Option.some.inj h1
    exact item_listR pl.isList h0 (by omega) (by rw [hj]; simpa using ew) fin hs
  · have hj : (i + (its.toArray.size : Int)).toNat = j := by
      rw [seqIndex_neg (by omega) h4] at h1
      rw [List.size_toArray, ← hl]
      exact Option.some.inj h1
    exact subscriptTail_builtinR (x := w) pl.isList.typeIs slot_list_getitem.lookup
      (wpAny_getItem_list_neg (Q := fun r s' => r = w ∧ EP X pins σ Q r s') pl.isList (by omega) (by rw [List.size_toArray] <;> omega) (by omega) (by rw [hj]; simpa using ew) ⟨rfl, fin⟩) hs
theorem ix_tup : IxR X (rIxT X.K) := by
  intro value slice pins s σ H x y v u Q I rx ry h hs
  obtain ⟨p, xs, i, z, rfl, rfl, hq, he, q⟩ := h
  cases rx
  obtain ⟨t, rfl⟩ := ry
  obtain ⟨its, r, pl, hz⟩ := I.tuple hq
  obtain ⟨j, h1, h2, h3, h4, h5⟩ := atI_get he
  obtain ⟨w, ew, rw'⟩ := r.get h2
  have hl := r.length
  have hn := line63
  have fin : EP X pins σ Q w s := ⟨z, H, I, rw', q⟩
  exact subscriptTail_builtinR (x := w) pl.typeIs slot_tuple_getitem.lookup
    (getItem_tuple (j := j) (Q := fun r s' => r = w ∧ EP X pins σ Q r s') pl (by omega) (by omega) (by rw [List.size_toArray, ← hl]; exact h1) (by simpa using ew) ⟨rfl, fin⟩) hs
theorem ix_str : IxR X rIxS := by
  intro value slice pins s σ H x y v u Q I rx ry h hs
  obtain ⟨z, i, c, rfl, rfl, hz, he, q⟩ := h
  obtain ⟨t, rfl⟩ := rx
  obtain ⟨t', rfl⟩ := ry
  obtain ⟨j, h1, h2, h3, h4, h5⟩ := atI_get he
  have hl : z.cps.toList.length = z.length := by simp [Str.length]
  rw [hl] at h1 h4 h5
  have hn := line63
  exact tail_any (typeIs_str s z t) slot_str_getitem.lookup (getItem_str (c := c) (by
    have e1 : decide (i < -(2 ^ 63 : Int)) = false := decide_eq_false (by omega)
    have e2 : decide (i ≥ 2 ^ 63) = false := decide_eq_false (by omega)
    rw [e1, e2, Bool.or_false]) (by rw [h1]; simpa using h2) ⟨.str ⟨#[c]⟩, H, I.tok _, ⟨_, rfl⟩, q⟩) hs

def rIx (K : PySem.W.Frag) : R2 := fun x y H Q => rIxL K x y H Q ∨ rIxT K x y H Q ∨ rIxS x y H Q
theorem ix_seq : IxR X (rIx X.K) := ix_list.or (ix_tup.or ix_str)



theorem slice_bounds (lo hi : Option Int) (n : Nat) : (sliceBounds lo hi none n).1 = ((HT.sIx n 0 lo : Nat) : Int) ∧ (sliceBounds lo hi none n).2.1 = ((HT.sIx n n hi : Nat) : Int) ∧ (sliceBounds lo hi none n).2.2 = 1 := by
  refine ⟨?_, ?_, rfl⟩
  · cases lo with
    | none => simp [sliceBounds, HT.sIx]
    | some i =>
      simp only [sliceBounds, HT.sIx, Option.getD_none, show (1 : Int) > 0 by decide, if_true]
      by_cases h : i < 0
      · simp only [h, if_true] <;> omega
      · simp only [h, if_false] <;> omega
  · cases hi with
    | none => simp [sliceBounds, HT.sIx]
    | some i =>
      simp only [sliceBounds, HT.sIx, Option.getD_none, show (1 : Int) > 0 by decide, if_true]
      by_cases h : i < 0
      · simp only [h, if_true] <;> omega
      · simp only [h, if_false] <;> omega
theorem slicePick_cut (its : List Value) (lo hi : Option Int) : slicePick its.toArray lo hi none = ((its.drop (HT.sIx its.length 0 lo)).take (HT.sIx its.length its.length hi - HT.sIx its.length 0 lo)).toArray := by
  obtain ⟨h1, h2, h3⟩ := slice_bounds lo hi its.toArray.size
  unfold slicePick
  rw [h1, h2, h3]
  simp only [sliceRange_one, pick_run, List.size_toArray] <;> rfl

def rSlL (K : PySem.W.Frag) : V → Option Int → Option Int → Hp → VK → Prop := fun x lo hi H Q => ∃ a xs, x = .ref a ∧ SqL K H a xs ∧ ∀ p, H p = none → Q (.ref p) (upd H p (.lst (cutV xs lo hi)))
theorem sl_list : SlR X (rSlL X.K) := by
  intro pins s σ H x v vl vu lo hi sl Q I rx hs pl pu h
  obtain ⟨a, xs, rfl, hx, q⟩ := h
  cases rx
  obtain ⟨its, r, ht, hz⟩ := I.list hx
  have hlen := r.length
  refine ⟨"list", _, slot_list_getitem.lookup, ht.isList.typeIs, ?_⟩
  refine wpAny_getItem_list_slice ht.isList hs pl pu .none (by simp) ?_ (by rw [List.size_toArray] <;> omega)
  rw [slicePick_cut, ← hlen]
  refine ⟨.ref s.heap.objs.size, _, I.laid (t' := s.toks) (o := .lst (cutV xs lo hi)) (fun b ob q => Heap.get?_push_of_some _ q) (Nat.le_refl _) ?_, rfl, q _ (I.hok.fresh (Nat.le_refl _))⟩
  exact ⟨Nat.le_trans (cutV_length xs lo hi) hz, _, 0, (r.drop (HT.sIx xs.length 0 lo)).take (HT.sIx xs.length xs.length hi - HT.sIx xs.length 0 lo), Heap.get?_push_size _ rfl⟩


def flatV : V → Bool
  | .non => true
  | .bl _ => true
  | .int _ => true
  | .str _ => true
  | _ => false

def eqV : V → V → Bool
  | .non, .non => true
  | .bl a, .bl b => a == b
  | .bl a, .int b => (if a then 1 else 0) == b
  | .int a, .bl b => a == (if b then 1 else 0)
  | .int a, .int b => a == b
  | .str a, .str b => a == b
  | _, _ => false
theorem eqAt_V {A : Around} {s : Shared} {y x : V} {u v : Value} (ry : RelV y u) (rx : RelV x v) (fy : flatV y = true) (fx : flatV x = true) : SeqAt.EqAt A s u v (eqV y x) := by
  cases y with
  | non =>
    cases ry
    cases x with
    | non => cases rx; exact SeqAt.EqAt.same _
    | bl b => cases rx; exact SeqAt.EqAt.none_bool b
    | int b => obtain ⟨t, rfl⟩ := rx; exact SeqAt.EqAt.none_int b t
    | str b => obtain ⟨t, rfl⟩ := rx; exact SeqAt.EqAt.none_str b t
    | _ => exact absurd (show false = true from fx) Bool.false_ne_true
  | bl a =>
    cases ry
    cases x with
    | non => cases rx; exact SeqAt.EqAt.bool_none a
    | bl b => cases rx; exact SeqAt.EqAt.bool_bool a b
    | int b => obtain ⟨t, rfl⟩ := rx; exact SeqAt.EqAt.bool_int a b t
    | str b => obtain ⟨t, rfl⟩ := rx; exact SeqAt.EqAt.bool_str a b t
    | _ => exact absurd (show false = true from fx) Bool.false_ne_true
  | int a =>
    obtain ⟨t', rfl⟩ := ry
    cases x with
    | non => cases rx; exact SeqAt.EqAt.int_none a t'
    | bl b => cases rx; exact SeqAt.EqAt.int_bool a t' b
    | int b => obtain ⟨t, rfl⟩ := rx; exact SeqAt.EqAt.int_int a t' b t
    | str b => obtain ⟨t, rfl⟩ := rx; exact SeqAt.EqAt.int_str a t' b t
    | _ => exact absurd (show false = true from fx) Bool.false_ne_true
  | str a =>
    obtain ⟨t', rfl⟩ := ry
    cases x with
    | non => cases rx; exact SeqAt.EqAt.str_none a t'
    | bl b => cases rx; exact SeqAt.EqAt.str_bool a t' b
    | int b => obtain ⟨t, rfl⟩ := rx; exact SeqAt.EqAt.str_int a t' b t
    | str b => obtain ⟨t, rfl⟩ := rx; exact SeqAt.EqAt.str_str a t' b t
    | _ => exact absurd (show false = true from fx) Bool.false_ne_true
  | _ => exact absurd (show false = true from fy) Bool.false_ne_true

def eqU (x : V) (u : Value) : Bool := match u with
  | .none => eqV .non x
  | .bool b => eqV (.bl b) x
  | .int i _ => eqV (.int i) x
  | .str z _ => eqV (.str z) x
  | _ => false
theorem eqU_of {x y : V} {u : Value} (r : RelV y u) (f : flatV y = true) : eqU x u = eqV y x := by
  cases y with
  | non => cases r; rfl
  | bl b => cases r; rfl
  | int i => obtain ⟨t, rfl⟩ := r; rfl
  | str z => obtain ⟨t, rfl⟩ := r; rfl
  | _ => exact absurd (show false = true from f) Bool.false_ne_true
theorem any_eqU {x : V} : ∀ {xs : List V} {us : List Value}, Vals xs us → xs.all flatV = true → us.any (eqU x) = xs.any fun y => eqV y x
  | _, _, .nil, _ => rfl
  | y :: xs, u :: us, .cons r t, f => by
    rw [List.all_cons, Bool.and_eq_true] at f
    rw [List.any_cons, List.any_cons, eqU_of r f.1, any_eqU t f.2]
theorem mem_eqAt {A : Around} {s : Shared} {x : V} {v : Value} (rx : RelV x v) (fx : flatV x = true) : ∀ {xs : List V} {us : List Value}, Vals xs us → xs.all flatV = true → ∀ u ∈ us, SeqAt.EqAt A s u v (eqU x u)
  | _, _, .nil, _ => fun u hu => by cases hu
  | y :: xs, u :: us, .cons r t, f => fun u' hu => by
    rw [List.all_cons, Bool.and_eq_true] at f
    rcases List.mem_cons.mp hu with rfl | hu
    · rw [eqU_of r f.1]; exact eqAt_V r rx f.1 fx
    · exact mem_eqAt rx fx t f.2 u' hu
def inV (x : V) (xs : List V) : Bool := xs.any fun y => eqV y x

def rIn (K : PySem.W.Frag) (neg : Bool) : R2 := fun x y H Q => ∃ p xs, y = .ref p ∧ (SqL K H p xs ∨ SqT K H p xs) ∧ flatV x = true ∧ xs.all flatV = true ∧ Q (.bl (if neg then !inV x xs else inV x xs)) H
theorem op_notIn_seq : OpR X (compareOp .NotIn) (rIn X.K true) := by
  intro pins s σ H x y v u Q I rx ry h
  obtain ⟨p, xs, rfl, hq, fx, fs, q⟩ := h
  cases ry
  rcases hq with hq | hq
  · obtain ⟨its, r, pl, hz⟩ := I.list hq
    refine SeqAt.notIn_listAt (eqU x) pl.isList (fun w hw => mem_eqAt rx fx r fs w (by simpa using hw)) ⟨.bl _, H, I, rfl, ?_⟩
    rw [show its.toArray.any (eqU x) = its.any (eqU x) by simp, any_eqU r fs]
    exact q
  · obtain ⟨its, r, pl, hz⟩ := I.tuple hq
    refine SeqAt.notIn_tupleAt (eqU x) pl (fun w hw => mem_eqAt rx fx r fs w (by simpa using hw)) ⟨.bl _, H, I, rfl, ?_⟩
    rw [show its.toArray.any (eqU x) = its.any (eqU x) by simp, any_eqU r fs]
    exact q
theorem call_list_of : CallR X (.type "list") (fun xs H Q => ∃ p ys, xs = [.ref p] ∧ (SqL X.K H p ys ∨ SqT X.K H p ys) ∧ ∀ l, H l = none → Q (.ref l) (upd H l (.lst ys))) := by
  intro pins s σ H xs us Q I r h
  obtain ⟨p, ys, rfl, hq, q⟩ := h
  obtain ⟨u, rfl, rx⟩ := vals1 r
  cases rx
  have fin : ∀ (its : List Value), Vals ys its → ys.length ≤ sizeLine → ∀ (h' : Heap) (c' : Nat), (∀ b o', s.heap.get? b = some o' → h'.get? b = some o') →
      h'.get? s.heap.objs.size = some { cls := .type "list", dict := none, data := .seq its.toArray c', slots := #[] } → EP X pins σ Q (.ref s.heap.objs.size) { s with heap := h' } := fun its r' hz h' c' kp e =>
    ⟨.ref s.heap.objs.size, _, I.laid (t' := s.toks) kp (Nat.le_refl _) (show ObjOk X.prog X.w _ h' _ (.lst ys) from ⟨hz, its, c', r', e⟩), rfl, q _ (I.hok.fresh (Nat.le_refl _))⟩
  rcases hq with hq | hq
  · obtain ⟨its, r', pl, hz⟩ := I.list hq
    have hlen := r'.length
    obtain ⟨o, ho, hc, n, hd⟩ := pl.isList
    exact call_list_seq p (.inl rfl) ho hc hd (fun h' c' kp e => fin its r' hz h' c' kp e) (by simp only [List.size_toArray] <;> omega)
  · obtain ⟨its, r', pl, hz⟩ := I.tuple hq
    have hlen := r'.length
    obtain ⟨o, ho, hc, n, hd⟩ := pl
    exact call_list_seq p (.inr rfl) ho hc hd (fun h' c' kp e => fin its r' hz h' c' kp e) (by simp only [List.size_toArray] <;> omega)
def tyV (K : PySem.W.Frag) (T : String) (x : V) (H : Hp) : Prop := match x with
  | .str _ => T = "str"
  | .int _ => T = "int"
  | .ref p => (T = "list" ∧ ∃ xs, SqL K H p xs) ∨ (T = "tuple" ∧ ∃ o, K.lookup p = some o ∧ o.cls = .type "tuple" ∧ o.dict = none) ∨
      (T = "dict" ∧ ((∃ kvs, H p = some (.dK kvs)) ∨ ∃ kvs, H p = some (.dT kvs))) ∨ (T = "set" ∧ ∃ S n, H p = some (.set S n))
  | _ => False
theorem tyV_is {pins : List (Addr × Obj)} {σ : St} {H : Hp} {s : Shared} {T : String} {x : V} {v : Value} (I : Inv X pins σ H s) (r : RelV x v) (ty : tyV X.K T x H) :
    s.TypeIs v T ∧ ∀ a, v = .ref a → ∃ ob, s.heap.get? a = some ob ∧ ob.dict = none := by
  cases x with
  | str z =>
    obtain ⟨t, rfl⟩ := r
    cases (show T = "str" from ty)
    exact ⟨typeIs_str s z t, fun _ e => nomatch e⟩
  | int i =>
    obtain ⟨t, rfl⟩ := r
    cases (show T = "int" from ty)
    exact ⟨typeIs_int s i t, fun _ e => nomatch e⟩
  | ref p =>
    cases r
    rcases ty with ⟨rfl, xs, hq⟩ | ⟨rfl, o, hk, hc, hd⟩ | ⟨rfl, hk⟩ | ⟨rfl, S, n, hk⟩
    · obtain ⟨its, _, pl, _⟩ := I.list hq
      refine ⟨pl.isList.typeIs, fun a e => ?_⟩
      cases e
      obtain ⟨o, n, e, c, hd, _⟩ := pl
      exact ⟨o, e, hd⟩
    · refine ⟨⟨o, I.kIn p o hk, hc⟩, fun a e => ?_⟩
      cases e
      exact ⟨o, I.kIn _ o hk, hd⟩
    · have z : ∃ o, s.heap.get? p = some o ∧ o.ExactDict := by
        rcases hk with ⟨kvs, hk⟩ | ⟨kvs, hk⟩
        · obtain ⟨_, _, _, _, o, _, _, e, ex, _⟩ := I.hok p _ hk
          exact ⟨o, e, ex⟩
        · obtain ⟨_, _, _, _, o, _, _, e, ex, _⟩ := I.hok p _ hk
          exact ⟨o, e, ex⟩
      obtain ⟨o, e, ex⟩ := z
      refine ⟨⟨o, e, ex.1⟩, fun a e2 => ?_⟩
      cases e2
      exact ⟨o, e, ex.2.1⟩
    · obtain ⟨o, _, _, _, e, ex, _⟩ := I.hok p _ hk
      refine ⟨⟨o, e, ex.1⟩, fun a e2 => ?_⟩
      cases e2
      exact ⟨o, e, ex.2.1⟩
  | _ => exact False.elim ty
def tBM (K : PySem.W.Frag) (T : String) (r : V → List V → Hp → VK → Prop) (to : TE) (t : TA) : TE := fun σ H Q => to σ H fun x H1 => tyV K T x H1 ∧ t σ H1 fun xs H2 => r x xs H2 Q
variable {o e : Expr} {es : List Expr} {to : TE} {t : TA} {name : Str} {apos cpos : Pos} {T id : String} {r : V → List V → Hp → VK → Prop}
theorem pe_bm (pa : PlainAttrs T) (slot : Slot T name id) (hty : typeOf (.builtin id) = pure (.type "method_descriptor")) (hm : MtR X id r) (ho : PE X o to) (ha : PA X (e :: es) t)
    (hbase : attributeBase o name X.env (eval o X.env) = eval o X.env := by rfl)
    (hfew : ((backTo cpos (starEach (e :: es) X.env)).all (fun x => !x.1) && (backToKw cpos (keywordEach [] X.env)).all (fun x => x.1.isSome)
      && decide ((e :: es).length + ([] : List Keyword).length + (if ([] : List Keyword).isEmpty then 0 else 1) < 30)) = true := by rfl)
    (hline : (apos.endLine == cpos.line) = true := by rfl) (hs : starEach (e :: es) X.env = (false, eval e X.env) :: starEach es X.env := by rfl) (hplain : (backTo cpos (starEach es X.env)).any (·.1) = false := by rfl) :
    PE X (.Call (.Attribute o name apos) (e :: es) [] cpos) (tBM X.K T r to t) := by
  intro pins s σ H Q I h
  refine wpAny_Call_method_late hbase hfew hline rfl (thn (ho pins s σ H _ I h) fun v s1 ⟨x, H1, I1, r1, ty, q1⟩ => ?_)
  obtain ⟨h1, h2⟩ := tyV_is I1 r1 ty
  refine ⟨T, id, pa, slot, hty, h1, h2, ?_⟩
  have hA := ha cpos pins s1 σ H1 _ I1 q1
  rw [hs] at hA ⊢
  refine Calls.callWith_builtin (by show (false || (backTo cpos (starEach es X.env)).any (·.1)) = false; rw [hplain] <;> rfl) (Calls.evalArgs_plain ?_)
  exact thn hA fun us s2 ⟨vs, H2, I2, r2, q2⟩ => hm pins s2 σ H2 x vs v us Q I2 r1 r2 q2

end
end L2

namespace L2
open PySem PySem.Spec PyProof.Rows

def MtM (X : Cx) (id : String) (r : V → List V → Hp → VK → Prop) : Prop :=
  ∀ (pins : List (Addr × Obj)) (s : Shared) (σ : St) (H : Hp) (x : V) (xs : List V) (v : Value) (us : List Value) (Q : VK), Inv X pins σ H s → RelV x v → Vals xs us → r x xs H Q →
    wpAny (model X.prog X.w) X.A (call (.builtin id) (v :: us)) (EP X pins σ Q) X.xe s


theorem Vals.one : ∀ {x : V} {us : List Value}, Vals [x] us → ∃ u, us = [u] ∧ RelV x u
  | _, _, .cons r .nil => ⟨_, rfl, r⟩
section
variable {X : Cx} {pins : List (Addr × Obj)} {σ : St} {H : Hp} {s : Shared} {l b : Addr} {xs ys zs : List V}


theorem Inv.lset {its its' : List Value} {n : Nat} {f : Array Value → Array Value} {t' : Nat} (I : Inv X pins σ H s) (hH : H l = some (.lst xs))
    (e : s.heap.get? l = some { cls := .type "list", data := .seq its.toArray n }) (hf : f its.toArray = its'.toArray) (hv : Vals ys its') (hz : ys.length ≤ sizeLine) :
    Inv X pins σ (upd H l (.lst ys)) { s with heap := s.heap.update l (Obj.mapSeq f), toks := t' } := by
  have q := PySem.IsL.update e f
  rw [hf] at q
  refine I.write (x := l) (e := l) (by rw [hH]; exact trivial) (.inl rfl) (fun b' u hb hu => (Heap.get?_update_other s.heap (Obj.mapSeq f) (Ne.symm hb)).trans hu) ⟨_, q⟩ ?_
  exact ⟨hz, its', _, hv, q⟩
theorem Inv.lnew {its : List Value} {t' : Nat} (I : Inv X pins σ H s) (hv : Vals ys its) (hz : ys.length ≤ sizeLine) :
    Inv X pins σ (upd H s.heap.objs.size (.lst ys)) { s with heap := s.heap.push { cls := .type "list", data := .seq its.toArray }, toks := t' } :=
  I.laid (fun _ _ q => Heap.get?_push_of_some _ q) (Nat.le_refl _) ⟨hz, its, 0, hv, Heap.get?_push_size _ rfl⟩
theorem Inv.fresh (I : Inv X pins σ H s) : H s.heap.objs.size = none := I.hok.fresh (Nat.le_refl _)
theorem Inv.lstM (I : Inv X pins σ H s) (hH : H l = some (.lst xs)) : xs.length ≤ sizeLine ∧ ∃ (its : List Value) (n : Nat), Vals xs its ∧ xs.length = its.length ∧ s.heap.get? l = some { cls := .type "list", data := .seq its.toArray n } := by
  obtain ⟨z, its, n, r, e⟩ := I.hok l _ hH
  exact ⟨z, its, n, r, r.length, e⟩

theorem notLongL {n : Nat} (h : n ≤ sizeLine) : Builtin.List.listTooLong n = false := by
  unfold Builtin.List.listTooLong
  exact decide_eq_false (by omega)
end

section
variable {X : Cx}


def rAppend : V → List V → Hp → VK → Prop := fun x vs H Q => ∃ l xs y, x = .ref l ∧ vs = [y] ∧ H l = some (.lst xs) ∧ xs.length < sizeLine ∧ Q .non (upd H l (.lst (xs ++ [y])))
theorem mt_append : MtM X "list.append" rAppend := by
  intro pins s σ H x vs v us Q I rx rv h
  obtain ⟨l, xs, y, rfl, rfl, hH, hz, q⟩ := h
  cases rx
  obtain ⟨u, rfl, ru⟩ := rv.one
  obtain ⟨z, its, n, r, hl, e⟩ := I.lstM hH
  refine call_meets F.slot_list_append ⟨_, e, rfl⟩ F.entry_list_append (F.args_list_append_2 _ _) (PySem.list_append l its.toArray n u (by rw [List.size_toArray]; omega)) ⟨e, ?_⟩
  refine ⟨.non, _, I.lset (its' := its ++ [u]) hH e (by simp) (r.append (.cons ru .nil)) ?_, rfl, q⟩
  rw [List.length_append, List.length_singleton]
  omega

def rExtend : V → List V → Hp → VK → Prop := fun x vs H Q => ∃ l b xs zs, x = .ref l ∧ vs = [.ref b] ∧ H l = some (.lst xs) ∧ H b = some (.lst zs) ∧ xs.length + zs.length ≤ sizeLine ∧ Q .non (upd H l (.lst (xs ++ zs)))
theorem mt_extend : MtM X "list.extend" rExtend := by
  intro pins s σ H x vs v us Q I rx rv h
  obtain ⟨l, b, xs, zs, rfl, rfl, hH, hB, hz, q⟩ := h
  cases rx
  obtain ⟨u, rfl, ru⟩ := rv.one
  cases ru
  obtain ⟨z, its, n, r, hl, e⟩ := I.lstM hH
  obtain ⟨z2, its2, n2, r2, hl2, e2⟩ := I.lstM hB
  have hsz : its.toArray.size + its2.toArray.size ≤ sizeLine := by rw [List.size_toArray, List.size_toArray]; omega
  have hlong : ¬ (!its.toArray.isEmpty && Builtin.List.listTooLong (its.toArray.size + its2.toArray.size)) = true := by
    rw [notLongL hsz, Bool.and_false]
    exact Bool.false_ne_true
  refine call_meets F.slot_list_extend ⟨_, e, rfl⟩ F.entry_list_extend (F.args_list_extend_2 _ _)
    (AutoSeq1.list_extend_list_list_0 l its.toArray n b its2.toArray n2 hlong (by rw [List.size_toArray]; omega) (by omega)) ⟨e, e2, ?_⟩
  refine ⟨.non, _, I.lset (its' := its ++ its2) hH e (by simp) (r.append r2) ?_, rfl, q⟩
  rw [List.length_append]
  omega

def rCat : R2 := fun x y H Q => ∃ l b xs zs, x = .ref l ∧ y = .ref b ∧ H l = some (.lst xs) ∧ H b = some (.lst zs) ∧ xs.length + zs.length ≤ sizeLine ∧ ∀ p, H p = none → Q (.ref p) (upd H p (.lst (xs ++ zs)))
theorem op_cat : OpR X (binaryOp .Add) rCat := by
  intro pins s σ H x y v u Q I rx ry h
  obtain ⟨l, b, xs, zs, rfl, rfl, hH, hB, hz, q⟩ := h
  cases rx
  cases ry
  obtain ⟨z, its, n, r, hl, e⟩ := I.lstM hH
  obtain ⟨z2, its2, n2, r2, hl2, e2⟩ := I.lstM hB
  refine PySem.P.add_list e e2 ?_ (by rw [List.size_toArray, List.size_toArray]; omega)
  have ea : its.toArray ++ its2.toArray = (its ++ its2).toArray := by simp
  rw [ea]
  exact ⟨.ref _, _, I.lnew (t' := s.toks) (r.append r2) (by rw [List.length_append]; omega), rfl, q _ I.fresh⟩

end


section
variable {prog : Program} {w : World} {A : Around} {E : Value → Shared → Prop} {s : Shared}
end

section
variable {X : Cx}

end
end L2

namespace L2
open PySem PySem.Spec PyProof.Rows


section
variable {κ : Type} [DecidableEq κ]
def valV (kvs : List (κ × V)) (k : κ) : Option V := (kvs.find? fun kv => decide (kv.1 = k)).map (·.2)

def putK (kvs : List (κ × V)) (k : κ) (v : V) : List (κ × V) :=
  if (kvs.any fun kv => decide (kv.1 = k)) = true then kvs.map (fun kv => if kv.1 = k then (kv.1, v) else kv) else kvs ++ [(k, v)]
theorem valV_pos {p : κ × V} {r : List (κ × V)} {k : κ} (e : p.1 = k) : valV (p :: r) k = some p.2 := by simp [valV, List.find?_cons, e]
theorem valV_neg {p : κ × V} {r : List (κ × V)} {k : κ} (e : ¬ p.1 = k) : valV (p :: r) k = valV r k := by simp [valV, List.find?_cons, e]
theorem valV_any (k : κ) : ∀ kvs : List (κ × V), (kvs.any fun kv => decide (kv.1 = k)) = (valV kvs k).isSome
  | [] => rfl
  | p :: r => by
    rw [List.any_cons]
    by_cases e : p.1 = k
    · simp only [valV_pos e, decide_eq_true e, Bool.true_or, Option.isSome_some]
    · rw [valV_neg e, decide_eq_false e, Bool.false_or]; exact valV_any k r
theorem length_putK (kvs : List (κ × V)) (k : κ) (v : V) : (putK kvs k v).length ≤ kvs.length + 1 := by
  unfold putK
  split
  · rw [List.length_map]; omega
  · rw [List.length_append, List.length_cons, List.length_nil]; omega
theorem putK_new {kvs : List (κ × V)} {k : κ} (v : V) (h : valV kvs k = none) : putK kvs k v = kvs ++ [(k, v)] := by
  unfold putK
  rw [valV_any, h]
  exact if_neg (by decide)

theorem RelO.isSome_eq {o : Option V} {u : Option Value} (r : RelO o u) : o.isSome = u.isSome := by
  cases o with
  | none => cases u with
    | none => rfl
    | some _ => exact (show False from r).elim
  | some _ => cases u with
    | none => exact (show False from r).elim
    | some _ => rfl
theorem KV.val {kvs : List (κ × V)} {vs : List (κ × Value)} (r : KV kvs vs) (k : κ) : RelO (valV kvs k) (valueAt vs k) := by
  unfold KV at r
  induction r with
  | nil => exact True.intro
  | @cons p q ps qs h t ih =>
    obtain ⟨h1, h2⟩ := h
    by_cases e : p.1 = k
    · have e' : q.1 = k := h1.symm.trans e
      have b : valueAt (q :: qs) k = some q.2 := by simp [valueAt, List.find?_cons, e']
      rw [valV_pos e, b]; exact h2
    · have e' : ¬ q.1 = k := fun z => e (h1.trans z)
      have b : valueAt (q :: qs) k = valueAt qs k := by simp [valueAt, List.find?_cons, e']
      rw [valV_neg e, b]; exact ih
theorem KV.any {kvs : List (κ × V)} {vs : List (κ × Value)} (r : KV kvs vs) (k : κ) : (kvs.any fun kv => decide (kv.1 = k)) = vs.any fun kv => decide (kv.1 = k) := by
  unfold KV at r
  induction r with
  | nil => rfl
  | cons h t ih => rw [List.any_cons, List.any_cons, ih, h.1]
theorem KV.repl {kvs : List (κ × V)} {vs : List (κ × Value)} (r : KV kvs vs) (k : κ) {y : V} {u : Value} (ry : RelV y u) :
    KV (kvs.map fun kv => if kv.1 = k then (kv.1, y) else kv) (vs.map fun kv => if kv.1 = k then (kv.1, u) else kv) := by
  unfold KV at r ⊢
  induction r with
  | nil => exact .nil
  | @cons p q ps qs h t ih =>
    rw [List.map_cons, List.map_cons]
    refine .cons ?_ ih
    obtain ⟨h1, h2⟩ := h
    by_cases e : p.1 = k
    · rw [if_pos e, if_pos (h1.symm.trans e)]; exact ⟨h1, ry⟩
    · rw [if_neg e, if_neg (fun z => e (h1.trans z))]; exact ⟨h1, h2⟩
theorem KV.put {kvs : List (κ × V)} {vs : List (κ × Value)} (r : KV kvs vs) (k : κ) {y : V} {u : Value} (ry : RelV y u) : KV (putK kvs k y) (stored vs k u) := by
  unfold putK stored
  rw [r.any k]
  by_cases e : (vs.any fun kv => decide (kv.1 = k)) = true
  · rw [if_pos e, if_pos e]; exact r.repl k ry
  · rw [if_neg e, if_neg e]; exact Paired.snoc r ⟨rfl, ry⟩
theorem KV.length {kvs : List (κ × V)} {vs : List (κ × Value)} (r : KV kvs vs) : kvs.length = vs.length := Paired.length r
end



theorem kV_is {P : Program} {w : World} {k : Key} {u : Value} (r : RelV (kV k) u) : (mixKind P w).is k u = true := by
  cases k with
  | inl i => obtain ⟨t, e⟩ := (show ∃ t, u = Value.int i t from r); subst e; exact mixKind_int P w i t
  | inr x => obtain ⟨t, e⟩ := (show ∃ t, u = Value.str x t from r); subst e; exact mixKind_str P w x t
theorem items_are {P : Program} {w : World} : ∀ {ks : List Key} {us : List Value}, Vals (ks.map kV) us → ItemsAre (mixKind P w) ks us
  | [], _, r => by rw [List.map_nil] at r; cases r; exact .nil
  | k :: ks, _, r => by
    rw [List.map_cons] at r
    cases r with
    | cons h t => exact .cons (kV_is h) (items_are t)


abbrev KT (H : Hp) : List (List Key × V) → List (List Key × Addr × Value) → Prop := Paired fun p q => p.1 = q.1 ∧ H q.2.1 = some (.tup (p.1.map kV)) ∧ RelV p.2 q.2.2
theorem KT.val {H : Hp} {kvs : List (List Key × V)} {xs : List (List Key × Addr × Value)} (r : KT H kvs xs) (k : List Key) : RelO (valV kvs k) ((atKey xs k).map (·.2)) := by
  induction r with
  | nil => exact True.intro
  | @cons p q ps qs h t ih =>
    obtain ⟨h1, _, h2⟩ := h
    by_cases e : p.1 = k
    · have e' : q.1 = k := h1.symm.trans e
      have b : atKey (q :: qs) k = some q.2 := by simp [atKey, List.find?_cons, e']
      rw [valV_pos e, b]; exact h2
    · have e' : ¬ q.1 = k := fun z => e (h1.trans z)
      have b : atKey (q :: qs) k = atKey qs k := by simp [atKey, List.find?_cons, e']
      rw [valV_neg e, b]; exact ih
theorem KT.repl {H : Hp} {kvs : List (List Key × V)} {xs : List (List Key × Addr × Value)} (r : KT H kvs xs) (k : List Key) {y : V} {u : Value} (ry : RelV y u) :
    KT H (kvs.map fun kv => if kv.1 = k then (kv.1, y) else kv) (xs.map (putAt k u)) := by
  induction r with
  | nil => exact .nil
  | @cons p q ps qs h t ih =>
    rw [List.map_cons, List.map_cons]
    refine .cons ?_ ih
    obtain ⟨h1, h2, h3⟩ := h
    unfold putAt
    by_cases e : p.1 = k
    · rw [if_pos e, if_pos (h1.symm.trans e)]; exact ⟨h1, h2, ry⟩
    · rw [if_neg e, if_neg (fun z => e (h1.trans z))]; exact ⟨h1, h2, h3⟩
theorem KT.put {H : Hp} {kvs : List (List Key × V)} {xs : List (List Key × Addr × Value)} (r : KT H kvs xs) (k : List Key) {b : Addr} {y : V} {u : Value} (hb : H b = some (.tup (k.map kV))) (ry : RelV y u) :
    KT H (putK kvs k y) (storedH xs k b u) := by
  have e : (kvs.any fun kv => decide (kv.1 = k)) = (atKey xs k).isSome := by
    rw [valV_any, (r.val k).isSome_eq, Option.isSome_map]
  unfold putK storedH
  rw [e]
  by_cases q : (atKey xs k).isSome = true
  · rw [if_pos q, if_pos q]; exact r.repl k ry
  · rw [if_neg q, if_neg q]; exact Paired.snoc r ⟨rfl, hb, ry⟩
theorem KT.keeps {H H' : Hp} {kvs : List (List Key × V)} {xs : List (List Key × Addr × Value)} (r : KT H kvs xs) (ht : ∀ b ys, H b = some (.tup ys) → H' b = some (.tup ys)) : KT H' kvs xs :=
  Paired.mapP r fun _ _ z => ⟨z.1, ht _ _ z.2.1, z.2.2⟩

section
variable {P : Program} {w : World} {H : Hp} {h : Heap} {a : Addr}
theorem rd_of {u : HO} (ok : HOk P w H h) (e : Rd H a u) : ObjOk P w H h a u := e.ok ok
theorem dk_rd {kvs : List (Key × V)} (ok : HOk P w H h) (e : Rd H a (.dK kvs)) : kvs.length ≤ sizeLine ∧ (a == sysModules) = false ∧ ∃ vs, KV kvs vs ∧ h.DictOf (mixKind P w) a vs :=
  show ObjOk P w H h a (.dK kvs) from rd_of ok e
theorem dk_of {kvs : List (Key × V)} (ok : HOk P w H h) (e : H a = some (.dK kvs)) : kvs.length ≤ sizeLine ∧ (a == sysModules) = false ∧ ∃ vs, KV kvs vs ∧ h.DictOf (mixKind P w) a vs := dk_rd ok (.inl e)

theorem key_of {ks : List Key} (ok : HOk P w H h) (e : H a = some (.tup (ks.map kV))) : (tupleKind (mixKind P w)).is h ks a := by
  obtain ⟨_, its, r, o, h1, h2, n, h3⟩ := (show ObjOk P w H h a (.tup (ks.map kV)) from ok a _ e)
  exact ⟨o, its.toArray, n, h1, h2, h3, by simpa using items_are r⟩
theorem dt_rd {kvs : List (List Key × V)} (ok : HOk P w H h) (e : Rd H a (.dT kvs)) : kvs.length ≤ sizeLine ∧ (a == sysModules) = false ∧
    ∃ xs, KT H kvs xs ∧ h.DictOfH (tupleKind (mixKind P w)) a xs := by
  obtain ⟨z, y, xs, r, o, es, ep, h1, h2, h3, h4, h5⟩ := (show ObjOk P w H h a (.dT kvs) from rd_of ok e)
  refine ⟨z, y, xs, r, o, es, ep, h1, h2, h3, h4, fun x hx => ?_, h5⟩
  have all : ∀ {l : List (List Key × V)} {m : List (List Key × Addr × Value)}, KT H l m → ∀ x ∈ m, (tupleKind (mixKind P w)).is h x.1 x.2.1 := by
    intro l m q
    induction q with
    | nil => intro x hx; exact nomatch hx
    | @cons p q ps qs hq t ih =>
      intro x hx
      rcases List.mem_cons.mp hx with e | hx
      · subst e
        exact key_of ok (by rw [← hq.1]; exact hq.2.1)
      · exact ih x hx
  exact all r x hx
theorem dt_of {kvs : List (List Key × V)} (ok : HOk P w H h) (e : H a = some (.dT kvs)) : kvs.length ≤ sizeLine ∧ (a == sysModules) = false ∧
    ∃ xs, KT H kvs xs ∧ h.DictOfH (tupleKind (mixKind P w)) a xs := dt_rd ok (.inl e)
end


def DGet (H : Hp) (a : Addr) (y : V) (r : Option V) : Prop :=
  (∃ kvs k, Rd H a (.dK kvs) ∧ y = kV k ∧ r = valV kvs k) ∨ ∃ kvs k b, Rd H a (.dT kvs) ∧ y = .ref b ∧ H b = some (.tup (k.map kV)) ∧ r = valV kvs k

def DPut (H : Hp) (a : Addr) (y v : V) (H' : Hp) : Prop :=
  (∃ kvs k, H a = some (.dK kvs) ∧ y = kV k ∧ kvs.length < sizeLine ∧ H' = upd H a (.dK (putK kvs k v))) ∨
  ∃ kvs k b, H a = some (.dT kvs) ∧ y = .ref b ∧ H b = some (.tup (k.map kV)) ∧ kvs.length < sizeLine ∧ H' = upd H a (.dT (putK kvs k v))
theorem DGet.k {H : Hp} {a : Addr} {kvs : List (Key × V)} {k : Key} (e : H a = some (.dK kvs)) : DGet H a (kV k) (valV kvs k) := .inl ⟨kvs, k, .inl e, rfl, rfl⟩
theorem DPut.k {H : Hp} {a : Addr} {kvs : List (Key × V)} {k : Key} {v : V} (e : H a = some (.dK kvs)) (hl : kvs.length < sizeLine) : DPut H a (kV k) v (upd H a (.dK (putK kvs k v))) := .inl ⟨kvs, k, e, rfl, hl, rfl⟩
section
variable {X : Cx} {pins : List (Addr × Obj)} {σ : St} {H : Hp} {s : Shared} {a : Addr} {y v : V} {u r : Value} {o : Option V} {A : Around} {E : Value → Shared → Prop}

theorem Inv.big (I : Inv X pins σ H s) : sysModules < s.heap.objs.size := by
  have h : mainGlobals < s.heap.objs.size := (I.mod.glob.keeps I.bk).lt
  exact Nat.lt_trans (by decide) h


theorem d_getItem {Q : Value → Shared → Prop} (hu : A.units + 1 < cLine) (I : Inv X pins σ H s) (g : DGet H a y (some v)) (ry : RelV y u) (h : ∀ w' s', Inv X pins σ H s' → RelV v w' → Q w' s') :
    wpAny (model X.prog X.w) A (getItem (.ref a) u) Q E s := by
  rcases g with ⟨kvs, k, e, ey, l⟩ | ⟨kvs, k, b, e, ey, eb, l⟩
  · subst ey
    obtain ⟨z, hd, vs, rel, dd⟩ := dk_rd I.hok e
    obtain ⟨w', hw, rw'⟩ := RelO.some_of (v := v) (o := valueAt vs k) (by rw [l]; exact rel.val k)
    exact wpAny_getItem_of (kV_is ry) dd.mapOf hw (h w' _ (I.tok _) rw')
  · subst ey
    cases (show u = Value.ref b from ry)
    obtain ⟨z, hd, xs, rel, dd⟩ := dt_rd I.hok e
    obtain ⟨w', hw, rw'⟩ := RelO.some_of (v := v) (o := (atKey xs k).map (·.2)) (by rw [l]; exact rel.val k)
    obtain ⟨p, hp, hp2⟩ := Option.map_eq_some_iff.mp hw
    refine wpAny_getItem_heap (tupleKind_room_in1 hu) (key_of I.hok eb) dd hp ?_
    rw [hp2]
    exact h w' _ (I.tok _) rw'

theorem d_write {h' : Heap} {t' : Nat} {ob : HO} (I : Inv X pins σ H s) (mu : Mut (H a)) (hs : Heap.SameBut a s.heap h') (he : ∃ q, h'.get? a = some q) (new : ObjOk X.prog X.w (upd H a ob) h' a ob) :
    Inv X pins σ (upd H a ob) { s with heap := h', toks := t' } :=
  I.write (x := a) (e := a) mu (.inl rfl) (fun b q hb z => (hs.2 b hb).trans z) he new
theorem dk_new {P : Program} {w : World} {H' : Hp} {h' : Heap} {kvs : List (Key × V)} {vs : List (Key × Value)} (z : kvs.length ≤ sizeLine) (hd : (a == sysModules) = false) (rel : KV kvs vs) (dd : h'.DictOf (mixKind P w) a vs) :
    ObjOk P w H' h' a (.dK kvs) := ⟨z, hd, vs, rel, dd⟩

theorem d_setItem {H' : Hp} {Q : Unit → Shared → Prop} (hu : A.units + 1 < cLine) (I : Inv X pins σ H s) (g : DPut H a y v H') (ry : RelV y u) (rv : RelV v r) (h : ∀ s', Inv X pins σ H' s' → Q () s') :
    wpAny (model X.prog X.w) A (setItem (.ref a) u r) Q E s := by
  rcases g with ⟨kvs, k, e, ey, l, eH⟩ | ⟨kvs, k, b, e, ey, eb, l, eH⟩
  · subst ey eH
    obtain ⟨z, hd, vs, rel, dd⟩ := dk_of I.hok e
    have hz : vs.length ≤ sizeLine := by rw [← rel.length]; exact z
    have hl : (putK kvs k v).length ≤ sizeLine := by have := length_putK kvs k v; omega
    refine wpAny_setItem_pairs (hsz := hz) (kV_is ry) dd fun h' dd' hs => h _ ?_
    have he : ∃ q, h'.get? a = some q := let ⟨q, _, _, hq, _⟩ := dd'; ⟨q, hq⟩
    exact d_write I (by rw [e]; exact True.intro) hs he (dk_new hl hd (rel.put k rv) dd')
  · subst ey eH
    cases (show u = Value.ref b from ry)
    obtain ⟨z, hd, xs, rel, dd⟩ := dt_of I.hok e
    have hz : xs.length ≤ sizeLine := by rw [← Paired.length rel]; exact z
    have hl : (putK kvs k v).length ≤ sizeLine := by have := length_putK kvs k v; omega
    refine wpAny_setItem_heap (hsz := hz) (tupleKind_room_in1 hu) (key_of I.hok eb) dd fun h' dd' hs => h _ ?_
    obtain ⟨q, es, ep, hq, h2, h3, h4, _, h5⟩ := dd'
    refine d_write I (by rw [e]; exact True.intro) hs ⟨q, hq⟩ ⟨hl, hd, _, (rel.put k eb rv).keeps fun c ys ec => ?_, q, es, ep, hq, h2, h3, h4, h5⟩
    rw [upd_ne (ne_of ec e (fun z => nomatch z))]
    exact ec
end

section
variable {X : Cx} {pins : List (Addr × Obj)} {σ : St} {H : Hp} {s : Shared} {a : Addr} {kvs : List (Key × V)} {k : Key} {u : Value} {A : Around} {E : Value → Shared → Prop}

end




def NoSl (i : Expr) : Prop := ∀ ov iv, subscripted i false ov iv = operate [ov, iv] (getItem ov iv)
theorem subD_of {prog : Program} {w : World} {A : Around} {E : Value → Shared → Prop} {s : Shared} {env : Env} {value slice : Expr} {pos : Pos} {T id : String} {Q : Value → Shared → Prop}
    (hl : typeLookup (.type T) "__getitem__" = pure (some (.builtin id))) (hs : NoSl slice)
    (h : wpAny (model prog w) A (eval value env) (fun o s₁ => wpAny (model prog w) A (eval slice env) (fun i s₂ => s₂.TypeIs o T ∧ wpAny (model prog w) A (getItem o i) Q E s₂) E s₁) E s) :
    wpAny (model prog w) A (eval (.Subscript value slice pos) env) Q E s := by
  refine Subscript_ (wpAny_mono h (fun o s₁ h₁ => wpAny_mono h₁ (fun i s₂ h₂ => ?_) fun _ _ x => x) fun _ _ x => x)
  obtain ⟨hT, h₂⟩ := h₂
  unfold subscriptTail
  refine wpAny_bind ?_
  rw [getitemInPython_of_ne hT.not_modules]
  refine wpAny_bind (wpAny_specialOf hT hl ?_)
  have fin : wpAny (model prog w) A (subscripted slice false o i) (fun r s₃ => wpAny (model prog w) A (letTemporaryGo value o r >>= fun _ => pure r) Q E s₃) E s₂ := by
    rw [hs o i]
    exact wpAny_operating (wpAny_mono h₂ (fun r s₃ h₃ => wpAny_bind (wpAny_letTemporaryGo (wpAny_pure h₃))) fun _ _ x => x)
  first
    | exact wpAny_pure (wpAny_bind fin)
    | exact wpAny_bind (wpAny_pure (wpAny_bind fin))
    | exact wpAny_bind fin

theorem dict_typeIs {X : Cx} {pins : List (Addr × Obj)} {σ : St} {H : Hp} {s : Shared} {a : Addr} {y : V} {o : Option V} (I : Inv X pins σ H s) (g : DGet H a y o) : s.TypeIs (.ref a) "dict" := by
  rcases g with ⟨kvs, k, e, _, _⟩ | ⟨kvs, k, b, e, _, _, _⟩
  · obtain ⟨_, _, vs, _, dd⟩ := dk_rd I.hok e
    exact dd.typeIs
  · obtain ⟨_, _, xs, _, dd⟩ := dt_rd I.hok e
    exact dd.typeIs
def tDGet (td ty : TE) : TE := fun σ H Q => td σ H fun x H1 => ty σ H1 fun y H2 => ∃ a v, x = .ref a ∧ DGet H2 a y (some v) ∧ Q v H2

def sDPut (td ty tv : TE) : TS := fun D σ H => tv σ H fun v H1 => td σ H1 fun x H2 => ty σ H2 fun y H3 => ∃ a H4, x = .ref a ∧ DPut H3 a y v H4 ∧ D.nx σ H4

section
variable {X : Cx} {o i e value : Expr} {pos pos' tpos : Pos} {td ty tv : TE}
theorem pe_dget (hu : X.A.units + 1 < cLine) (ho : PE X o td) (hi : PE X i ty) (hs : NoSl i) : PE X (.Subscript o i pos) (tDGet td ty) := by
  intro pins s σ H Q I h
  refine subD_of PySem.F.slot_dict_getitem.lookup hs (thn (ho pins s σ H _ I h) fun u s1 ⟨x, H1, I1, rx, q1⟩ => thn (hi pins s1 σ H1 _ I1 q1) fun iv s2 ⟨y, H2, I2, ry, a, v, ex, g, q2⟩ => ?_)
  subst ex
  obtain rfl : u = Value.ref a := rx
  exact ⟨dict_typeIs I2 g, d_getItem hu I2 g ry fun w' s3 I3 rw' => ⟨v, H2, I3, rw', q2⟩⟩
theorem ps_dput (hu : X.A.units + 1 < cLine) (ho : PE X o td) (hi : PE X i ty) (hv : PE X value tv) (hs : swapsWith value (some (.Subscript o i pos')) pos.line X.env = pure false) :
    PS X (.Assign [.Subscript o i pos'] value pos) (sDPut td ty tv) := by
  intro pins s σ H D I h
  refine wpAny_Assign_Subscript (thn (hv pins s σ H _ I h) fun r s1 ⟨v, H1, I1, rv, q1⟩ => thn (ho pins s1 σ H1 _ I1 q1) fun u s2 ⟨x, H2, I2, rx, q2⟩ => thn (hi pins s2 σ H2 _ I2 q2) fun iv s3 ⟨y, H3, I3, ry, a, H4, ex, g, q3⟩ => ?_) hs
  subst ex
  obtain rfl : u = Value.ref a := rx
  exact d_setItem hu I3 g ry rv fun s4 I4 => ⟨σ, H4, I4, q3⟩
end



theorem dk_empty {P : Program} {w : World} {H : Hp} (h : Heap) (hb : sysModules < h.objs.size) : ObjOk P w H (h.push { cls := .type "dict", data := .dict #[] }) h.objs.size (.dK []) :=
  ⟨Nat.zero_le _, beq_eq_false_iff_ne.mpr (Ne.symm (Nat.ne_of_lt hb)), [], .nil, Heap.DictOf.new h⟩
def tDNewK : TE := fun _ H Q => ∀ p, H p = none → Q (.ref p) (upd H p (.dK []))
section
variable {X : Cx} {pos : Pos}
theorem pe_dnewK : PE X (.Dict [] [] pos) tDNewK := fun pins s σ H Q I h =>
  wpAny_Dict_empty ⟨.ref s.heap.objs.size, _, I.laid (a := s.heap.objs.size) (o := .dK []) (t' := s.toks) (fun _ _ q => Heap.get?_push_of_some _ q) (Nat.le_refl _) (dk_empty s.heap I.big), rfl, h _ (I.hok.fresh (Nat.le_refl _))⟩
end


section
variable {X : Cx} {pins : List (Addr × Obj)} {σ : St} {H : Hp} {s : Shared} {a : Addr} {y d : V} {u r : Value} {o : Option V} {A : Around} {E : Value → Shared → Prop}

end

section
variable {X : Cx} {o e f : Expr} {apos cpos : Pos} {td ty tx : TE}
end


section
variable {X : Cx} {pins : List (Addr × Obj)} {σ : St} {H : Hp} {s : Shared} {a : Addr} {kvs : List (Key × V)} {A : Around} {E : Value → Shared → Prop}
theorem d_copyOf {Q : Value → Shared → Prop} (I : Inv X pins σ H s) (e : Rd H a (.dK kvs)) (h : ∀ p s', H p = none → Inv X pins σ (upd H p (.dK kvs)) s' → Q (.ref p) s') : wpAny (model X.prog X.w) A (call (.type "dict") [.ref a]) Q E s := by
  obtain ⟨z, hd, vs, rel, dd⟩ := dk_rd I.hok e
  refine kt_call_dict hd dd (by rw [← rel.length]; exact z) fun h' dd' hs => ?_
  refine h _ _ (I.hok.fresh (Nat.le_refl _)) (I.laid (a := s.heap.objs.size) (o := .dK kvs) (t' := s.toks) (fun b q hq => ?_) (Nat.le_refl _) (dk_new z (beq_eq_false_iff_ne.mpr (Ne.symm (Nat.ne_of_lt I.big))) rel dd'))
  exact (hs.2 b (Nat.ne_of_lt (Heap.lt_size hq))).trans (Heap.get?_push_of_some _ hq)
end


section
variable {X : Cx} {pins : List (Addr × Obj)} {σ : St} {H : Hp} {s : Shared} {a : Addr} {y : V} {u : Value} {A : Around} {E : Value → Shared → Prop}

end
end L2

namespace Att
open PySem PySem.W PySem.Calls PyProof.Rows


theorem ints_of_wellAll {P : Params} {h : Heap} : ∀ (ns : List Int) (vs : List Value), WellAll P h vs (ns.map WData.int) → IntsAre vs ns := by
  intro ns
  induction ns with
  | nil =>
    intro vs w
    rw [List.map_nil] at w
    cases w
    exact .nil
  | cons n ns ih =>
    intro vs w
    rw [List.map_cons] at w
    cases w with
    | cons a b =>
      cases a
      exact .cons _ _ (ih _ b)

theorem script_of {l : OpenLaw} {n : Nat} (hn : l.most = some n) {P : Params} {h : Heap} {args : List WData} {vals : List Value}
    (hpre : l.row.toRowW.claim.pre args = true) (hwl : WellAll P h vals args) :
    ∃ a vs ns, vals = [Value.ref a] ∧ args = [WData.list (ns.map WData.int)] ∧ h.get? a = some { cls := .type "list", data := .seq vs.toArray } ∧ IntsAre vs ns ∧ ns.length ≤ n := by
  have hsh : WShape.hasAll [] args [.list .int] = true := (pre_splitW hpre).1
  have hc : l.pre.holds [] { args := args } = true := (pre_splitW hpre).2
  obtain ⟨d, r, rfl, h1, h2⟩ := hasAllW_cons hsh
  obtain rfl := hasAllW_nil h2
  obtain ⟨xs, rfl, h3⟩ := hasW_list h1
  obtain ⟨ns, rfl⟩ := items_int h3
  have hlen : ns.length ≤ n := by
    unfold OpenLaw.pre at hc
    have h4 : (WTm.not (.lt (.lit (.int (n : Int))) (.len (.arg 0)))).holds [] { args := [.list (ns.map .int)] } = true := by
      have h4 := (holds_andW hc).1
      rw [hn] at h4
      exact h4
    have h5 := condW_of h4 (w_not (w_lt w_lit (w_len_list (w_arg rfl))))
    rw [List.length_map] at h5
    refine Nat.le_of_not_lt fun q => ?_
    have q' : (n : Int) < ((ns.length : Nat) : Int) := by omega
    first
      | (rw [decide_eq_true q'] at h5; exact absurd h5 (by decide))
      | (simp at h5; omega)
  cases hwl with
  | cons w1 w2 =>
    cases w2
    cases w1 with
    | list ho hall => exact ⟨_, _, ns, rfl, rfl, ho, ints_of_wellAll ns _ hall, hlen⟩

theorem post_true (l : OpenLaw) (args : List WData) : l.row.toRowW.claim.post args (.bool true) args = true :=
  postW_of (r := l.row.toRowW) (X := (true == true))
    (show WShape.has [] (.bool true) .bool = true by first | rfl | decide | simp [WShape.has, WShape.arms, WShape.armsAll])
    (show (WTm.eq .res (.lit (.bool true))).value [] { args := args, res := some (.bool true), after := args } = some (.bool (true == true)) from w_eq_bool (w_res rfl) w_lit) rfl


theorem attach_call {l : OpenLaw} {n : Nat} {q : Program} {loose : List Str} {XP : (Str → Option Value) → Heap → Prop} {YP : World → Heap → Prop} {d : DefRec}
    (hn : l.most = some n) (hdf : d.params.defaults = [])
    (call : ∀ (w : World) (s₀ s₁ : Shared) (mg mb : Str → Option Value) (fa : Addr) (o : Obj) (pm cd doc : Value) (a : Addr) (vs : List Value) (ns : List Int),
      Ground q loose [] XP w s₀ mg mb s₁.heap → YP w s₁.heap →
      s₁.heap.get? fa = some o → o.data = .func (docDef d.name d.params d.body d.scope pm cd doc) → s₁.heap.CodeRec cd d.name → mg d.name = some (.ref fa) →
      s₁.heap.get? a = some { cls := .type "list", data := .seq vs.toArray } → IntsAre vs ns → ns.length ≤ n → s₁.gens = #[] →
      codeAny (model l.prog w) callerA (.call (.ref fa) ⟨[.ref a], []⟩) (fun r s' => r = .ok (.ret (.bool true)) ∧ OldK s₁.heap s'.heap ∧ s'.os = s₁.os ∧ AllBare s'.gens) s₁) :
    WalkO q loose XP YP l.row.toRowW d [] (fun f vs => PySem.call f vs) := by
  intro w s₀ s₁ mg mb G Y fa o pm cd doc dV kV ho hd hcd hD hmg hg args vals as hpre hlay hrd hwl hlo
  obtain rfl : dV = .none := Dflts.none hD hdf
  obtain rfl : kV = .none := Dflts.noKw hD
  obtain ⟨a, vs, ns, rfl, rfl, hobj, hints, hlen⟩ := script_of hn hpre hwl
  refine enter_call (codeAny_mono (call w s₀ s₁ mg mb fa o pm cd doc a vs ns G Y ho (fd_plain hd) hcd hmg hobj hints hlen hg) fun r s' hq => ?_)
  obtain ⟨rfl, h2, h3, h4⟩ := hq
  exact ⟨.inl ⟨.bool true, .bool true, [], rfl, fun _ => rfl, .bool true, post_true l _, fun _ => ⟨List.Pairwise.nil, fun _ hm => (nomatch hm)⟩⟩, h2, h3, h4⟩


section
variable {prog : Program} {w : World} {A : Around} {E : Value → Shared → Prop} {s : Shared} {K : Frag}


end
end Att

namespace L2
open PySem PySem.Spec PyProof.Rows

theorem vals_ints : ∀ {vs : List Value} {ns : List Int}, IntsAre vs ns → Vals (ns.map V.int) vs
  | _, _, .nil => .nil
  | _, _, .cons n t h => .cons ⟨t, rfl⟩ (vals_ints h)


def Only (H : Hp) : Prop := ∀ b, H b = none ∨ ∃ o xs, H b = some (.frz o (.lst xs))


theorem law_call {P : Program} {w : World} {K : PySem.W.Frag} {mg mb : Str → Option Value} {CX : CXT} {k : Nat} {fa a : Addr} {fd : FuncData} {x : Str} {sp : Sp} {s₁ : Shared} {vs : List Value} {ns : List Int}
    (KX : K.In s₁.heap) (hns : s₁.heap.Ns mainGlobals mg) (hb : s₁.heap.Ns builtinsNs mb) (hbb : ∀ x : Str, x ≠ "__name__" → mb x = bootBuiltins x) (hlim : s₁.heap.NoLimit) (hg : s₁.gens = #[])
    (ha : s₁.heap.get? a = some { cls := .type "list", data := .seq vs.toArray }) (hi : IntsAre vs ns) (hl : ns.length ≤ sizeLine) (hr : Room k callerA)
    (F : ∀ base : Heap, K.In base → base.Ns mainGlobals mg → FnOk P w K mg base CX k fa fd [x] sp) (hbind : ∀ (s : Shared) (u : Value), BindsTo s fd ⟨[u], []⟩ [(x, u)])
    (hsp : ∀ H : Hp, Only H → SqL K H a (ns.map V.int) → sp [.ref a] H (fun v _ => v = .bl true) fun _ _ _ => False)
    (hCX : ∀ H e s', CX [] H s₁ (fun _ _ _ => False) e s' → False) :
    codeAny (model P w) callerA (.call (.ref fa) ⟨[.ref a], []⟩) (fun r s' => r = .ok (.ret (.bool true)) ∧ OldK s₁.heap s'.heap ∧ s'.os = s₁.os ∧ AllBare s'.gens) s₁ := by
  have rv := vals_ints hi
  have lenV := hi.length
  -- from an abstract heap in which nothing but the script may be tracked
  have core : ∀ H : Hp, Only H → SqL K H a (ns.map V.int) → HOk P w H s₁.heap → (∀ b, H b ≠ none → b = a) → (H a ≠ none → K.lookup a = none) →
      codeAny (model P w) callerA (.call (.ref fa) ⟨[.ref a], []⟩) (fun r s' => r = .ok (.ret (.bool true)) ∧ OldK s₁.heap s'.heap ∧ s'.os = s₁.os ∧ AllBare s'.gens) s₁ := by
    intro H hO hS hok hA hK
    have base_of : ∀ {b : Addr} {o : Obj}, s₁.heap.get? b = some o → H b = none → (hidT s₁.heap H).get? b = some o := fun e n => hidT_get e n
    have noA : ∀ {b : Addr} {o : Obj} {es : Array DictEntry} {ep : Nat}, s₁.heap.get? b = some o → o.data = .dict es ep → H b = none := fun {b o es ep} e d => by
      cases q : H b with
      | none => rfl
      | some u =>
        have e' : b = a := hA b (by rw [q]; simp)
        subst e'
        rw [ha] at e; cases e
        have d' : Data.seq vs.toArray _ = Data.dict es ep := d
        cases d'
    have nsK : ∀ {b : Addr} {m : Str → Option Value}, s₁.heap.Ns b m → (hidT s₁.heap H).Ns b m := fun {b m} ⟨o, es, ep, e, d, r⟩ => ⟨o, es, ep, base_of e (noA e d), d, r⟩
    have hKb : K.In (hidT s₁.heap H) := fun b o e => base_of (KX b o e) (by
      cases q : H b with
      | none => rfl
      | some u =>
        have e' : b = a := hA b (by rw [q]; simp)
        subst e'
        rw [hK (by rw [q]; simp)] at e; cases e)
    have hM : Mod K mg (hidT s₁.heap H) := ⟨hKb, nsK hns, ⟨mb, nsK hb, hbb⟩, let ⟨mc, h1, h2⟩ := hlim; ⟨mc, nsK h1, h2⟩⟩
    have e0 : Env0 P w K mg (hidT s₁.heap H) callerA [] s₁ H := ⟨rfl, hM, fun b o e => of_hidT e, Nat.le_of_eq (hidT_size _ _), trivial, fun b hb => absurd (show b ∈ ([] : List Addr) from hb) (by simp), hok, .of_eq hg⟩
    refine codeAny_mono ((F _ hKb (nsK hns)).run callerA [] s₁ H ⟨[.ref a], []⟩ [.ref a] [.ref a] _ _ hr e0 (hbind s₁ (.ref a)) (.cons rfl .nil) (hsp H hO hS)) fun r s' h => ?_
    cases r with
    | error e => exact (hCX H e s' h).elim
    | ok fl =>
      cases fl with
      | next => exact False.elim h
      | brk => exact False.elim h
      | cont => exact False.elim h
      | ret u =>
        obtain ⟨v, H', os, bare, un, hok', r', q⟩ := h
        have q' : v = .bl true := q
        subst q'
        obtain rfl : u = Value.bool true := r'
        refine ⟨rfl, OldK.of_keep fun b o e => ?_, os, bare⟩
        cases q : H b with
        | none => exact un.keep b o e q (by intro z; exact absurd (show b ∈ ([] : List Addr) from z) (by simp)) (by simp)
        | some u =>
          rcases hO b with z | ⟨ob, xs, z⟩
          · rw [q] at z; cases z
          · have z2 := un.frzs b ob _ z
            obtain ⟨e1, _⟩ := hok b _ z
            obtain ⟨e2, _⟩ := hok' b _ z2
            rw [e] at e1; cases e1
            exact e2
  cases hk : K.lookup a with
  | some o =>
    -- the script is one of the module's own objects
    have e := KX a o hk
    rw [ha] at e
    cases e
    refine core (fun _ => none) (fun _ => .inl rfl) (.inr ⟨_, vs.toArray, _, hk, rfl, rfl, rfl, by rw [List.size_toArray, lenV]; exact hl, by simpa using rv⟩) (fun b u z => by have z' : (none : Option HO) = some u := z; cases z') (fun b z => absurd rfl z) fun z => absurd rfl z
  | none =>
    refine core (fun b => if b = a then some (.frz { cls := .type "list", data := .seq vs.toArray } (.lst (ns.map V.int))) else none) (fun b => ?_) (.inl (.inr ⟨{ cls := .type "list", data := .seq vs.toArray }, if_pos rfl⟩)) (fun b u z => ?_) (fun b z => ?_) fun _ => hk
    · by_cases hb : b = a
      · exact .inr ⟨_, _, if_pos hb⟩
      · exact .inl (if_neg hb)
    · by_cases hb : b = a
      · have z' := (if_pos hb).symm.trans z
        cases z'
        subst hb
        exact ⟨ha, by rw [List.length_map]; exact hl, vs, _, rv, ha⟩
      · have z' := (if_neg hb).symm.trans z
        cases z'
    · by_cases hb : b = a
      · exact hb
      · exact absurd (if_neg hb) z
end L2

namespace L2
open PySem PySem.Spec PyProof.Rows

abbrev KOf {K : PySem.W.Frag} {h : Heap} (_ : K.In h) : PySem.W.Frag := K


theorem walk_of {l : PySem.W.OpenLaw} {n k : Nat} {q : Program} {loose : List Str} {XP : (Str → Option Value) → Heap → Prop} {YP : World → Heap → Prop} {d : DefRec} {K : Params → PySem.W.Frag} {CX : World → CXT} {sp : World → Sp} {x : Str}
    (hn : l.most = some n) (hn2 : n ≤ sizeLine) (hdf : d.params.defaults = []) (hr : Room k callerA)
    (hY : ∀ (w : World) (h : Heap), YP w h → (K w.params).In h)
    (F : ∀ (w : World) (mg : Str → Option Value) (fa : Addr) (h : Heap), (K w.params).In h → h.Ns mainGlobals mg → mg d.name = some (.ref fa) →
      ∃ fd : FuncData, (∀ (s : Shared) (u : Value), BindsTo s fd ⟨[u], []⟩ [(x, u)]) ∧
        ∀ base : Heap, (K w.params).In base → base.Ns mainGlobals mg → FnOk l.prog w (K w.params) mg base (CX w) k fa fd [x] (sp w))
    (hsp : ∀ (w : World) (H : Hp) (a : Addr) (ns : List Int), ns.length ≤ n → Only H → SqL (K w.params) H a (ns.map V.int) → sp w [.ref a] H (fun v _ => v = .bl true) fun _ _ _ => False)
    (hCX : ∀ (w : World) (H : Hp) (s : Shared) (e : Value) (s' : Shared), CX w [] H s (fun _ _ _ => False) e s' → False) :
    PySem.W.WalkO q loose XP YP l.row.toRowW d [] (fun f vs => PySem.call f vs) := by
  refine Att.attach_call hn hdf fun w s₀ s₁ mg mb fa o pm cd doc a vs ns G Y ho hd hcd hmg hobj hints hlen hg => ?_
  have KX := hY w _ Y
  obtain ⟨fd, hb, hF⟩ := F w mg fa _ KX G.T.g hmg
  exact law_call KX G.T.g G.T.b G.T.builtins G.T.nolimit hg hobj hints (Nat.le_trans hlen hn2) hr hF hb (fun H hO hS => hsp w H a ns hlen hO hS) fun H e s' => hCX w H s₁ e s'

end L2




namespace L2
open PySem PySem.Spec PyProof.Rows



def inClass (s : Stmt) (j : Nat) : Stmt := match s with
  | .ClassDef _ _ _ body _ _ _ _ _ _ _ => body.getD j (.Pass ⟨0, 0, 0, 0⟩)
  | _ => .Pass ⟨0, 0, 0, 0⟩
def defArgs (s : Stmt) : Arguments := match s with
  | .FunctionDef _ a _ _ _ _ _ _ _ _ => a
  | _ => { posonlyargs := [], args := [], vararg := none, kwonlyargs := [], kw_defaults := [], kwarg := none, defaults := [] }
def defBody (s : Stmt) : List Stmt := match s with
  | .FunctionDef _ _ b _ _ _ _ _ _ _ => b
  | _ => []
def defScope (s : Stmt) : Scope := match s with
  | .FunctionDef _ _ _ _ _ _ sc _ _ _ => sc
  | _ => { kind := .function, names := [], isGenerator := false, isCoroutine := false }


abbrev CX0 : CXT := fun _ _ _ _ _ _ => False
abbrev E0 : XK := fun _ _ _ => False
theorem pass0 {X : Cx} : Passes CX0 X E0 := fun _ _ _ _ _ _ _ h => h.elim


structure Fun (K : PySem.W.Frag) (x qual : Str) (st : Stmt) (f : Addr) (fd : FuncData) : Prop where
  ex : ∃ (oc : Value) (od : Option Addr) (kV doc pm : Value) (an : Option Addr) (cdv ct : Value) (osl : Array (Option Value)),
    fd = PySem.W.fnOf x qual (defArgs st) (defBody st) (defScope st) .none kV doc pm an cdv ct ∧ K.lookup f = some ⟨oc, od, .func fd, osl⟩ ∧ PySem.W.codeIn K cdv qual = true
  kp : PySem.W.keepIn K (.ref f) = true
section
variable {P : Program} {w : World} {K : PySem.W.Frag} {mg : Str → Option Value} {base : Heap}

theorem Fun.ok {x qual : Str} {st : Stmt} {f : Addr} {fd : FuncData} {N ps : List Str} {k : Nat} {sp : Sp} (F : Fun K x qual st f fd) (S : FnScope N ps (defScope st)) (len : ∀ vs H Q E, sp vs H Q E → vs.length = ps.length)
    (hbody : ∀ (cdv : Value) (A : Around) (outer : List Env) (s : Shared) (H : Hp) (vs : List V) (Q : VK) (E : XK), Room k (A.deeper (envOfC qual (defScope st) s.heap.objs.size f cdv)) → sp vs H Q E →
      ∃ t, PSs (cxOf CX0 P w K mg base N qual (defScope st) f cdv A outer s H E).nox (defBody st) t ∧ t { nx := fun _ H' => Q .non H', rt := Q } (start N vs) H) : FnOk P w K mg base CX0 (k + 1) f fd ps sp := by
  obtain ⟨oc, od, kV, doc, pm, an, cdv, ct, osl, rfl, lk, hcd⟩ := F.ex
  refine fn_of lk hcd S len fun A outer s H vs Q E hr hsp => ?_
  obtain ⟨t, h, q⟩ := hbody cdv A outer s H vs Q E hr hsp
  exact ⟨t, h.nox, q⟩

theorem Fun.binds {x qual : Str} {st : Stmt} {f : Addr} {fd : FuncData} {ps : List Str} (F : Fun K x qual st f fd)
    (h : ∀ (kV doc pm : Value) (an : Option Addr) (cdv ct : Value) (us : List Value), us.length = ps.length → bindArgs (PySem.W.fnOf x qual (defArgs st) (defBody st) (defScope st) .none kV doc pm an cdv ct) ⟨us, []⟩ = pure (ps.zip us)) : Binds K fd ps [] := by
  obtain ⟨oc, od, kV, doc, pm, an, cdv, ct, osl, rfl, lk, hcd⟩ := F.ex
  exact .all (h kV doc pm an cdv ct)
theorem fun_mk {x qual : Str} {st : Stmt} {f : Addr} {oc : Value} {od an : Option Addr} {osl : Array (Option Value)} {kV doc pm cdv ct : Value} (l : K.lookup f = some ⟨oc, od, .func (PySem.W.fnOf x qual (defArgs st) (defBody st) (defScope st) .none kV doc pm an cdv ct), osl⟩)
    (c : PySem.W.codeIn K cdv qual = true) (k : PySem.W.keepIn K (.ref f) = true) : Fun K x qual st f (PySem.W.fnOf x qual (defArgs st) (defBody st) (defScope st) .none kV doc pm an cdv ct) := ⟨⟨oc, od, kV, doc, pm, an, cdv, ct, osl, rfl, l, c⟩, k⟩
end
theorem hu_of {A : Around} {k : Nat} (hr : Room k A) : A.units + 1 < cLine := Nat.lt_of_le_of_lt (Nat.add_le_add_left (by decide : 1 ≤ 64) _) hr.units
section
variable {X : Cx}
theorem pv (i : Nat) {x : Str} {pos : Pos} (hN : X.N[i]? = some x := by rfl) (hv : Vis X.env.scope x := by first | exact Or.inl rfl | exact Or.inr (Or.inl rfl) | exact Or.inr (Or.inr rfl)) (hd : (x == ("__debug__" : Str)) = false := by decide)
    (hcd : (x == ("__classdict__" : Str)) = false := by decide) : PE X (.Name x pos) (tVar i) := pe_var hN hv hd hcd

end


theorem iteF {A B : Prop} (h : B) : if false = true then A else B := by
  rw [if_neg Bool.false_ne_true]
  exact h
theorem iteT {A B : Prop} (h : A) : if true = true then A else B := by
  rw [if_pos rfl]
  exact h
def Same (H H' : Hp) : Prop := ∀ b o, H b = some o → H' b = some o
theorem Same.refl (H : Hp) : Same H H := fun _ _ h => h
theorem Same.trans {H H1 H2 : Hp} (a : Same H H1) (b : Same H1 H2) : Same H H2 := fun c o h => b c o (a c o h)
theorem Same.seq {K : PySem.W.Frag} {H H' : Hp} {a : Addr} {xs : List V} (e : Same H H') (h : SqL K H a xs) : SqL K H' a xs := by
  rcases h with (h | ⟨o, h⟩) | h
  · exact .inl (.inl (e _ _ h))
  · exact .inl (.inr ⟨o, e _ _ h⟩)
  · exact .inr h


section
variable {κ : Type} [DecidableEq κ]
end
end L2

namespace Bt
theorem add_or (a b : Nat) (h : a &&& b = 0) : a + b = a ||| b := by
  have ha : a < 2 ^ (a + b + 1) := Nat.lt_of_lt_of_le Nat.lt_two_pow_self (Nat.pow_le_pow_right (by decide) (by omega))
  have hb : b < 2 ^ (a + b + 1) := Nat.lt_of_lt_of_le Nat.lt_two_pow_self (Nat.pow_le_pow_right (by decide) (by omega))
  have hab : a + b < 2 ^ (a + b + 1) := Nat.lt_of_lt_of_le Nat.lt_two_pow_self (Nat.pow_le_pow_right (by decide) (by omega))
  have e := BitVec.add_eq_or_of_and_eq_zero (BitVec.ofNat (a + b + 1) a) (BitVec.ofNat (a + b + 1) b) (by
    apply BitVec.eq_of_toNat_eq
    rw [BitVec.toNat_and, BitVec.toNat_ofNat, BitVec.toNat_ofNat, Nat.mod_eq_of_lt ha, Nat.mod_eq_of_lt hb, h]
    simp)
  have e2 := congrArg BitVec.toNat e
  rw [BitVec.toNat_or, BitVec.toNat_add, BitVec.toNat_ofNat, BitVec.toNat_ofNat, Nat.mod_eq_of_lt ha, Nat.mod_eq_of_lt hb, Nat.mod_eq_of_lt hab] at e2
  exact e2

def wo (s p : Nat) : Nat := s - (s &&& p)
theorem wo_eq (s p : Nat) : wo s p = s ^^^ (s &&& p) := by
  unfold wo
  have h : (s ^^^ (s &&& p)) + (s &&& p) = s := by
    have e : (s ^^^ (s &&& p)) &&& (s &&& p) = 0 := by
      apply Nat.eq_of_testBit_eq; intro i
      simp only [Nat.testBit_and, Nat.testBit_xor, Nat.zero_testBit]
      cases s.testBit i <;> cases p.testBit i <;> rfl
    rw [add_or _ _ e]
    apply Nat.eq_of_testBit_eq; intro i
    simp only [Nat.testBit_or, Nat.testBit_and, Nat.testBit_xor]
    cases s.testBit i <;> cases p.testBit i <;> rfl
  omega
theorem wo_bit (s p i : Nat) : (wo s p).testBit i = (s.testBit i && !p.testBit i) := by
  rw [wo_eq]; simp only [Nat.testBit_and, Nat.testBit_xor]
  cases s.testBit i <;> cases p.testBit i <;> rfl

end Bt
namespace L3
open PySem PySem.Spec PyProof.Rows L2
abbrev St := L2.St


def lstO (its : List Value) : Obj := { cls := .type "list", data := .seq its.toArray its.length }
theorem lstO_snoc (its : List Value) (y : Value) : ({ cls := .type "list", data := .seq (its.toArray.push y) (its.length + 1) } : Obj) = lstO (its ++ [y]) := by
  show ({ cls := .type "list", data := .seq (its.toArray.push y) (its.length + 1) } : Obj) = { cls := .type "list", data := .seq (its ++ [y]).toArray (its ++ [y]).length }
  rw [List.length_append, List.length_singleton, List.push_toArray]

section
variable {prog : Program} {w : World} {A : Around} {R : Result → Shared → Prop} {s : Shared}

theorem compLoop_go {elt target iter : Expr} {ifs : List Expr} {scope : Scope} {pos : Pos} {it acc : Value} {env : Env} (I : Nat → Shared → Prop)
    (turn : ∀ n s, I n s → wpAny (model prog w) A (pyNext it) (fun r s1 => match r with
      | none => R (.ok .next) s1
      | some v => wpAny (model prog w) A (letOwnedTupleGo target it v) (fun _ s2 => wpAny (model prog w) A (assign target env v) (fun _ s3 =>
          wpAny (model prog w) A (forIn ifs true fun c r => if r = true then do let ok ← isTrue c env (eval c env); pure (ForInStep.yield ok) else pure (ForInStep.yield r)) (fun ok s4 =>
            if ok = true then wpAny (model prog w) A (eval elt env) (fun x s5 =>
              wpAny (model prog w) A (call (.builtin "list.append") [acc, x]) (fun _ s6 => ∃ m, m < n ∧ I m s6) (notedBy (model prog w) A env fun e s' => R (.error e) s') s5) (notedBy (model prog w) A env fun e s' => R (.error e) s') s4
            else ∃ m, m < n ∧ I m s4) (notedBy (model prog w) A env fun e s' => R (.error e) s') s3) (notedBy (model prog w) A env fun e s' => R (.error e) s') s2)
          (notedBy (model prog w) A env fun e s' => R (.error e) s') s1) (notedBy (model prog w) A env fun e s' => R (.error e) s') s)
    (n : Nat) (h : I n s) :
    codeAny (model prog w) A (.compLoop (.ListComp elt [⟨target, iter, ifs, 0⟩] scope pos) 0 it acc env) R s := by
  refine codeAny_loop rfl I (fun n s hI => ?_) n h
  show wpAny _ A ((compTurn (.ListComp elt [⟨target, iter, ifs, 0⟩] scope pos) 0 it acc env).onRaise (fun x => do noteFrame x env; theTreesLotGoes x)) _ _ s
  refine wpAny_noted ?_
  rw [compTurn_list]
  refine wpAny_bind (wpAny_standAt (wpAny_bind (wpAny_mono (turn n s hI) (fun r s1 h1 => ?_) fun _ _ h' => h')))
  cases r with
  | none => exact wpAny_pure h1
  | some v =>
    refine wpAny_bind (wpAny_mono h1 (fun _ s2 h2 => ?_) fun _ _ h' => h')
    refine wpAny_bind (wpAny_mono h2 (fun _ s3 h3 => wpAny_bind (wpAny_mono h3 (fun ok s4 h4 => ?_) fun _ _ h' => h')) fun _ _ h' => h')
    cases ok with
    | false => exact wpAny_pure ⟨rfl, h4⟩
    | true =>
      exact wpAny_bind (wpAny_bind (wpAny_mono h4 (fun x s5 h5 => wpAny_bind (wpAny_mono h5 (fun _ s6 h6 => wpAny_pure (wpAny_pure ⟨rfl, h6⟩)) fun _ _ h' => h')) fun _ _ h' => h'))
end


def cxComp (X : Cx) (scope : Scope) (cl : List (Str × Addr)) (own : List Str) (fr : List (Str × Nat)) (C : Addr) (s2 : Shared) (H2 : Hp) (fp : List Addr) : Cx :=
  { prog := X.prog, w := X.w, K := X.K, mg := X.mg, base := X.base, A := X.A, N := own ++ fr.map (·.1), s₀ := s2, H₀ := H2, env := compEnvC scope cl C X.env, outer := X.stack, stack := X.stack,
    ex := fp, fn := fun _ => false, calm := X.calm, pn := [], xe := fun _ _ => False }

def innerS (own : List Str) (fr : List (Str × Nat)) (σ : St) : St := own.map (fun _ => none) ++ fr.map fun p => (σ[p.2]?).join
def ClOk (env : Env) : List (Str × Addr) → Prop
  | [] => True
  | (n, c) :: r => env.cells.lookup n = some c ∧ ClOk env r
theorem ClOk.get {env : Env} : ∀ {cl : List (Str × Addr)} {x : Str} {c : Addr}, ClOk env cl → cl.lookup x = some c → env.cells.lookup x = some c
  | [], _, _, _, h => by simp at h
  | (n, d) :: r, x, c, ok, h => by
    rw [List.lookup_cons] at h
    cases e : x == n with
    | true =>
      rw [e] at h
      have e' : x = n := by simpa using e
      cases h
      rw [e']
      exact ok.1
    | false =>
      rw [e] at h
      exact ClOk.get ok.2 h
def CellK (sc : Scope) (x : Str) : Prop := sc.names.lookup x = some .cell ∨ sc.names.lookup x = some .free
def FrOk (X : Cx) (scope : Scope) (cl : List (Str × Addr)) : List (Str × Nat) → Prop
  | [] => True
  | (x, j) :: r => (X.N[j]? = some x ∧ CellK X.env.scope x ∧ CellK (relabel scope X.env) x ∧ (cl.lookup x).isSome = true) ∧ FrOk X scope cl r
theorem FrOk.get {X : Cx} {scope : Scope} {cl : List (Str × Addr)} : ∀ {fr : List (Str × Nat)} {i : Nat} {p : Str × Nat}, FrOk X scope cl fr → fr[i]? = some p →
    X.N[p.2]? = some p.1 ∧ CellK X.env.scope p.1 ∧ CellK (relabel scope X.env) p.1 ∧ (cl.lookup p.1).isSome = true
  | [], _, _, _, h => by simp at h
  | (x, j) :: r, 0, p, ok, h => by
    simp at h
    subst h
    exact ok.1
  | (x, j) :: r, i + 1, p, ok, h => FrOk.get (i := i) ok.2 (by simpa using h)
structure CompSc (X : Cx) (scope : Scope) (cl : List (Str × Addr)) (own : List Str) (fr : List (Str × Nat)) : Prop where
  clos : closureFor scope X.env = pure cl
  cells : ClOk X.env cl
  frs : FrOk X scope cl fr
  kind : scope.kind = .function
  nocell : ∀ y ∈ scope.names, y.2 ≠ .cell
  names : ∀ y ∈ scope.names, y.2 = .local → scope.names.lookup y.1 = some .local
  has : (scope.names.all fun y => y.2 != .free || (cl.lookup y.1).isSome) = true

theorem lookup_relabel_has {env : Env} {cl : List (Str × Addr)} : ∀ {names : List (Str × NameKind)} {x : Str}, (∀ y ∈ names, y.2 ≠ .cell) → (names.all fun y => y.2 != .free || (cl.lookup y.1).isSome) = true →
    ((names.map fun (n, k) => if (k == NameKind.free && env.scope.kind == .function && env.kindOf n == some .cell) then (n, NameKind.cell) else (n, k)).lookup x = some .cell ∨
     (names.map fun (n, k) => if (k == NameKind.free && env.scope.kind == .function && env.kindOf n == some .cell) then (n, NameKind.cell) else (n, k)).lookup x = some .free) → ∃ c, cl.lookup x = some c
  | [], _, _, _, h => by rcases h with h | h <;> simp at h
  | (n, k) :: r, x, nc, ha, h => by
    rw [List.all_cons, Bool.and_eq_true] at ha
    have ih := @lookup_relabel_has env cl r x (fun y hy => nc y (List.mem_cons_of_mem _ hy)) ha.2
    have nk : k ≠ .cell := nc (n, k) List.mem_cons_self
    have hk := ha.1
    cases hx : x == n with
    | true =>
      have ex : x = n := by simpa using hx
      subst ex
      by_cases hf : k = .free
      · subst hf
        have z : (cl.lookup x).isSome = true := by simpa using hk
        exact Option.isSome_iff_exists.mp z
      · exfalso
        have hb : (k == NameKind.free) = false := by simpa using hf
        rcases h with h | h
        · rw [List.map_cons] at h
          simp only [hb, Bool.false_and, Bool.false_eq_true, if_false, List.lookup_cons, beq_self_eq_true] at h
          exact nk (Option.some.inj h)
        · rw [List.map_cons] at h
          simp only [hb, Bool.false_and, Bool.false_eq_true, if_false, List.lookup_cons, beq_self_eq_true] at h
          exact hf (Option.some.inj h)
    | false =>
      refine ih ?_
      rcases h with h | h
      · left
        rw [List.map_cons] at h
        by_cases hc : (k == NameKind.free && env.scope.kind == .function && env.kindOf n == some .cell) = true
        · simp only [hc, if_true, List.lookup_cons, hx] at h; exact h
        · simp only [hc, Bool.false_eq_true, if_false, List.lookup_cons, hx] at h; exact h
      · right
        rw [List.map_cons] at h
        by_cases hc : (k == NameKind.free && env.scope.kind == .function && env.kindOf n == some .cell) = true
        · simp only [hc, if_true, List.lookup_cons, hx] at h; exact h
        · simp only [hc, Bool.false_eq_true, if_false, List.lookup_cons, hx] at h; exact h


def PTs (Y : Cx) (ifs : List Expr) (t : TT) : Prop :=
  ∀ (pins : List (Addr × Obj)) (s : Shared) (σ : St) (H : Hp) (Q : Bool → Hp → Prop), Inv Y pins σ H s → t σ H Q →
    wpAny (model Y.prog Y.w) Y.A (forIn ifs true fun c r => if r = true then do let ok ← isTrue c Y.env (eval c Y.env); pure (ForInStep.yield ok) else pure (ForInStep.yield r)) (TP Y pins σ Q) Y.xe s
def tTrue : TT := fun _ H Q => Q true H
theorem pts_nil {Y : Cx} : PTs Y [] tTrue := fun _ _ _ H _ I h => wpAny_tests_nil ⟨H, I, h⟩
theorem pts_one {Y : Cx} {c : Expr} {t : TT} (h : PT Y c t) : PTs Y [c] t := fun pins s σ H Q I hw => wpAny_tests_one (h pins s σ H Q I hw)


def tComp (own : List Str) (fr : List (Str × Nat)) (wi : TI) (g : TG) (tc : TT) (te : TE) (fin : List V → Hp → Prop) : St → Hp → Prop := fun σ H => wi σ H fun J H1 =>
  ∃ W : Nat → Nat → List V → St → Hp → Prop, (∃ m, W 0 m [] (innerS own fr σ) H1) ∧ ∀ i m ys σ' H', W i m ys σ' H' →
    (J.stop i H' ∧ ys.length ≤ sizeLine ∧ fin ys H') ∨
    (J.go i H' ∧ ∃ N : List V → St → Hp → Prop, (∀ ys2 σ2 H2, N ys2 σ2 H2 → ys2.length ≤ sizeLine ∧ ∃ m', m' < m ∧ W (i + 1) m' ys2 σ2 H2) ∧
      ∀ x H2, J.yld i H' x H2 → g x σ' H2 fun σ3 H3 => tc σ3 H3 fun b H4 => if b = true then te σ3 H4 fun y H5 => N (ys ++ [y]) σ3 H5 else N ys σ3 H4)


structure Off (X : Cx) (pins : List (Addr × Obj)) (H : Hp) (C : Addr) : Prop where
  none : H C = none
  loc : C ≠ X.env.locals
  above : X.s₀.heap.objs.size ≤ C
  cell : ∀ x c, X.env.cells.lookup x = some c → c ≠ C
  pin : ∀ p ∈ X.pn ++ pins, p.1 ≠ C

section
variable {X : Cx} {tg elt iter : Expr} {ifs : List Expr} {scope : Scope} {cl : List (Str × Addr)} {own : List Str} {fr : List (Str × Nat)} {wi : TI} {g : TG} {tc : TT} {te : TE} {pos : Pos}

theorem comp_core (hc : X.calm = true) (S : CompSc X scope cl own fr) (hi : PI X tg iter wi) (hg : ∀ C s2 H2 fp, PG (cxComp X scope cl own fr C s2 H2 fp) tg g)
    (ht : ∀ C s2 H2 fp, PTs (cxComp X scope cl own fr C s2 H2 fp) ifs tc) (he : ∀ C s2 H2 fp, PE (cxComp X scope cl own fr C s2 H2 fp) elt te)
    {pins : List (Addr × Obj)} {s : Shared} {σ : St} {H : Hp} {fin : List V → Hp → Prop} (I : Inv X pins σ H s) (h : tComp own fr wi g tc te fin σ H)
    {RR : Value → Addr → Result → Shared → Prop}
    (hR : ∀ (D C : Addr) (s4 : Shared) (H3 : Hp) (ys : List V) (m : Str → Option Value), H3 D = none → Inv X pins σ (upd H3 D (.lst ys)) s4 → s4.heap.Ns C m → Off X pins (upd H3 D (.lst ys)) C → fin ys H3 → RR (.ref D) C (.ok .next) s4) :
    wpAny (model X.prog X.w) X.A (eval iter X.env) (fun x s1 => wpAny (model X.prog X.w) X.A (pyIter x) (fun itv s2 => wpAny (model X.prog X.w) X.A (newList []) (fun acc s3 =>
      wpAny (model X.prog X.w) X.A (newFunctionEnv scope X.env.globals cl [] X.env.qual none .none (some X.env)) (fun cenv s4 =>
        codeAny (model X.prog X.w) X.A (.compStart (.ListComp elt [⟨tg, iter, ifs, 0⟩] scope pos) 0 itv acc { cenv with scope := relabel scope X.env }) (RR acc cenv.locals) s4) X.xe s3) X.xe s2) X.xe s1) X.xe s := by
  refine thn (hi pins s σ H _ I h) fun v s1 h1 => thn h1 fun itv s2 h2 => ?_
  obtain ⟨it, fp, tn, J, H2, rfl, I2, T, st2, f2, W, ⟨m0, w0⟩, turn⟩ := h2
  refine wpAny_newObj_type (wpAny_newFunctionEnv S.nocell (by intro y hy; simp at hy) (fun h1 hns1 hsb1 => ?_) S.kind)
  dsimp only at hns1 hsb1 ⊢
  generalize hHP : s2.heap.push { cls := .type "list", dict := none, data := .seq ([] : List Value).toArray } = HP at hns1 hsb1 ⊢
  have hC : HP.objs.size = s2.heap.objs.size + 1 := by rw [← hHP, Heap.size_push]
  have hDC : s2.heap.objs.size ≠ HP.objs.size := by rw [hC]; exact Nat.ne_of_lt (Nat.lt_succ_self _)
  have below : ∀ b, b < s2.heap.objs.size → b ≠ HP.objs.size ∧ b ≠ s2.heap.objs.size := fun b hb => ⟨by rw [hC]; exact Nat.ne_of_lt (Nat.lt_succ_of_lt hb), Nat.ne_of_lt hb⟩
  have old : ∀ b o, s2.heap.get? b = some o → h1.get? b = some o := fun b o e => hsb1.extBut b o (below b (Heap.lt_size e)).1 (Heap.get?_push_of_some _ (hHP ▸ Heap.get?_push_of_some _ e))
  have hacc : h1.get? s2.heap.objs.size = some (lstO []) := hsb1.extBut _ _ hDC (Heap.get?_push_of_some _ (hHP ▸ Heap.get?_push_size _ rfl))
  have hfpo : ∀ b ∈ fp, b < s2.heap.objs.size := fun b hb => by obtain ⟨o, e, _⟩ := T.obj 0 _ st2 b hb; exact Heap.lt_size e
  have hcells : ∀ x c, cl.lookup x = some c → X.env.cells.lookup x = some c := fun x c e => S.cells.get e
  have hcD : ∀ x c, X.env.cells.lookup x = some c → c < s2.heap.objs.size := fun x c e => by obtain ⟨v, q⟩ := I2.cell x c e; exact q.lt
  have st1 : tn 0 h1 := T.keep _ _ _ st2 fun b _ o e => old b o e
  have hDfree : H2 s2.heap.objs.size = none := I2.hok.fresh (Nat.le_refl _)
  have hCfree : H2 HP.objs.size = none := I2.hok.fresh (by rw [hC]; exact Nat.le_succ _)
  have nostk : ∀ b, s2.heap.objs.size ≤ b → b ∉ L2.frs X.stack := fun b hb hm => by
    rcases List.mem_cons.mp (I2.stkSub b hm) with e | e
    · exact absurd I2.lt (by rw [← e]; exact Nat.not_lt.mpr hb)
    · exact I2.nofs hb e
  have hDlt : s2.heap.objs.size < h1.objs.size := Heap.lt_size hacc
  -- the block's context
  have YOk : (cxComp X scope cl own fr HP.objs.size s2 H2 fp).Ok := by
    refine ⟨I2.ok.mod, S.kind, I2.ok.glob, I2.ok.blt, ?_, fun x y c e1 e2 => I2.ok.inj x y c (hcells _ _ e1) (hcells _ _ e2), fun x hx => ?_, fun x c hf => ?_, I2.ok.hd, I2.ok.frames, .inl rfl, fun b hb => ⟨?_, fun x c e => ?_⟩,
      I2.bs, Nat.le_trans I2.ok.bsz I2.sz, fun b o e hb => ?_, fun b hb hm => ?_, I2.stack, I2.stkFree⟩
    · show s2.heap.objs.size ≤ HP.objs.size
      rw [hC]; exact Nat.le_succ _
    · exact lookup_relabel_has (env := X.env) S.nocell S.has hx
    · cases hf
    · exact (below b (hfpo b hb)).1
    · exact (f2 b hb).2.2.2.2.1 x c (hcells _ _ e)
    · rcases (f2 b hb).2.2.2.1 with z | z
      · exact I2.ok.noex b o e z
      · exact absurd (Heap.lt_size (I2.ok.bs b o e).1) (Nat.not_lt.mpr z)
    · rcases List.mem_cons.mp (I2.stkSub b hm) with e | e
      · exact (f2 b hb).2.1 e
      · exact (f2 b hb).2.2.1 e
  have hpinD : ∀ {h' : Heap} {its : List Value} {H' : Hp}, h'.get? s2.heap.objs.size = some (lstO its) → H' s2.heap.objs.size = none → ∀ p ∈ ([(s2.heap.objs.size, lstO its)] : List (Addr × Obj)),
      h'.get? p.1 = some p.2 ∧ H' p.1 = none ∧ p.1 ≠ HP.objs.size ∧ p.1 ∉ L2.frs X.stack ∧ ∀ v, p.2.data ≠ .cell v := fun {h' its H'} e n p hp => by
    have e1 : p = (s2.heap.objs.size, lstO its) := by simpa using hp
    subst e1
    exact ⟨e, n, hDC, nostk _ (Nat.le_refl _), fun v z => by cases z⟩
  have IY : Inv (cxComp X scope cl own fr HP.objs.size s2 H2 fp) [(s2.heap.objs.size, lstO [])] (innerS own fr σ) H2 { s2 with heap := h1, toks := s2.toks + ([] : List (Str × Value)).length } := by
    refine ⟨YOk, rfl, I2.bare, Un.kept old, ⟨_, hns1, fun i x v e1 e2 e3 => ?_⟩, fun x c e => ?_, hCfree, fun x c e => I2.freeC x c (hcells _ _ e), hpinD hacc hDfree, I2.hok.kept old, ?_⟩
    · have e1' : (own ++ fr.map (·.1))[i]? = some x := e1
      have e2' : (own.map (fun _ => (none : Option V)) ++ fr.map fun p => (σ[p.2]?).join)[i]? = some (some v) := e2
      by_cases hi' : i < own.length
      · rw [List.getElem?_append_left (by simpa using hi'), List.getElem?_map] at e2'
        rw [List.getElem?_eq_getElem hi'] at e2'
        cases e2'
      · rw [List.getElem?_append_right (by simpa using hi'), List.getElem?_map] at e2'
        rw [List.getElem?_append_right (Nat.not_lt.mp hi'), List.getElem?_map] at e1'
        rw [List.length_map] at e2'
        cases ef : fr[i - own.length]? with
        | none => rw [ef] at e1'; cases e1'
        | some p =>
          rw [ef] at e1' e2'
          have ex : p.1 = x := Option.some.inj e1'
          have ev : (σ[p.2]?).join = some v := Option.some.inj e2'
          obtain ⟨hN, hk, hk2, hs⟩ := S.frs.get ef
          have eσ : σ[p.2]? = some (some v) := by
            cases q : σ[p.2]? with
            | none => rw [q] at ev; cases ev
            | some o => rw [q] at ev; exact congrArg some ev
          obtain ⟨m, hn, hl⟩ := I2.loc
          obtain ⟨u, r, l⟩ := hl p.2 p.1 v hN eσ (by rcases hk with k | k; exact .inr (.inl k); exact .inr (.inr k))
          subst ex
          obtain ⟨c, ec⟩ := Option.isSome_iff_exists.mp hs
          refine ⟨u, r, .inr ⟨hk2, c, ec, ?_⟩⟩
          rcases l with ⟨hl1, _⟩ | ⟨_, c', ec', z⟩
          · have hl1' : X.env.scope.names.lookup p.1 = some .local := hl1
            rcases hk with z | z
            · rw [z] at hl1'; cases hl1'
            · rw [z] at hl1'; cases hl1'
          · have := hcells _ _ ec
            rw [ec'] at this
            cases this
            exact z.keeps old
    · obtain ⟨v, z⟩ := I2.cell x c (hcells _ _ e)
      exact ⟨v, z.keeps old⟩
    · show (own.map (fun _ => (none : Option V)) ++ fr.map fun p => (σ[p.2]?).join).length = (own ++ fr.map (·.1)).length
      simp
  have stat : ∀ {its : List Value} {H' : Hp}, (∀ b ∈ fp, H' b = none) → ∀ b ∈ fp, FpOk (cxComp X scope cl own fr HP.objs.size s2 H2 fp) [(s2.heap.objs.size, lstO its)] H' b := fun {its H'} hn b hb =>
    ⟨hn b hb, (below b (hfpo b hb)).1, fun hm => by
        rcases List.mem_cons.mp (I2.stkSub b hm) with e | e
        · exact (f2 b hb).2.1 e
        · exact (f2 b hb).2.2.1 e, .inl hb, fun x c e => (f2 b hb).2.2.2.2.1 x c (hcells _ _ e), fun p hp => by
        have e1 : p = (s2.heap.objs.size, lstO its) := by
          have hp' : p ∈ ([] : List (Addr × Obj)) ++ [(s2.heap.objs.size, lstO its)] := hp
          simpa using hp'
        subst e1
        exact (below b (hfpo b hb)).2.symm⟩
  have loop : ∀ s3 : Shared, s3 = { s2 with heap := h1, toks := s2.toks + ([] : List (Str × Value)).length } →
      codeAny (model X.prog X.w) X.A (.compLoop (.ListComp elt [⟨tg, iter, ifs, 0⟩] scope pos) 0 (.ref it) (.ref s2.heap.objs.size) (compEnvC scope cl HP.objs.size X.env)) (RR (.ref s2.heap.objs.size) HP.objs.size) s3 := by
    rintro s3 rfl
    refine compLoop_go (fun n s' => ∃ i ys its σ' H', Inv (cxComp X scope cl own fr HP.objs.size s2 H2 fp) [(s2.heap.objs.size, lstO its)] σ' H' s' ∧ Vals ys its ∧ tn i s'.heap ∧ (∀ b ∈ fp, H' b = none) ∧ W i n ys σ' H') ?_ m0
      ⟨0, [], [], innerS own fr σ, H2, IY, .nil, st1, fun b hb => (f2 b hb).1, w0⟩
    rintro n s3 ⟨i, ys, its, σ3, H3, I3, rv, st3, fr3, w3⟩
    rcases turn i n ys σ3 H3 w3 with ⟨stop, hz, qn⟩ | ⟨go, N, hN, step⟩
    · refine wpAny_mono (T.done (cxComp X scope cl own fr HP.objs.size s2 H2 fp) rfl rfl rfl hc i _ s3 σ3 H3 (fun _ _ => False) I3 (stat fr3) st3 stop) (fun r s4 h4 => ?_) fun _ _ f => f.elim
      obtain ⟨hr, I4⟩ := h4
      subst hr
      obtain ⟨eD, nD, _⟩ := I4.pin (s2.heap.objs.size, lstO its) (by simp [cxComp])
      obtain ⟨m, hn, _⟩ := id I4.loc
      have nC : H3 HP.objs.size = none := I4.free
      have bu := I4.base
      have J4 : Inv X pins σ (upd H3 s2.heap.objs.size (.lst ys)) s4 := by
        refine I2.call' (ch := fp) I4.os ⟨fun b o e n hb hx => bu.keep b o e n hb hx, fun b o e n hb hx => bu.slot b o e n hb hx, fun b o e n hx => ?_, fun b o e hx => bu.there b o e hx, fun b xs e => ?_, fun b o u e => ?_, fun b ps e => ?_⟩ ?_ I4.bare ?_
        · rw [upd_ne (below b (Heap.lt_size e)).2]; exact bu.free b o e n hx
        · have z := bu.tups b xs e
          rw [upd_ne (ne_of_none z nD)]; exact z
        · have z := bu.frzs b o u e
          rw [upd_ne (ne_of_none z nD)]; exact z
        · obtain ⟨more, z⟩ := bu.tbls b ps e
          exact ⟨more, by rw [upd_ne (ne_of_none z nD)]; exact z⟩
        · intro b o e
          by_cases hb : b = s2.heap.objs.size
          · subst hb
            rw [upd_same] at e
            cases e
            exact ⟨hz, its, its.length, rv, eD⟩
          · rw [upd_ne hb] at e
            exact (I4.hok b o e).stay (fun c u _ q => q) (fun c q => by rw [upd_ne (ne_of_none q nD)]; exact q) fun c xs q => by rw [upd_ne (ne_of_none q nD)]; exact q
        · intro b hb
          exact ⟨(f2 b hb).2.2.2.1, (f2 b hb).2.1, (f2 b hb).2.2.2.2.1, (f2 b hb).2.2.2.2.2⟩
      refine hR _ _ s4 H3 ys m nD J4 hn ⟨?_, ?_, ?_, ?_, ?_⟩ qn
      · rw [upd_ne hDC.symm]; exact nC
      · exact Nat.ne_of_gt (Nat.lt_of_lt_of_le I2.lt (by rw [hC]; exact Nat.le_succ _))
      · exact Nat.le_trans I2.sz (by rw [hC]; exact Nat.le_succ _)
      · exact fun x c e => (below c (hcD x c e)).1
      · exact fun p hp => (below p.1 (Heap.lt_size (I2.pin p hp).1)).1
    · refine wpAny_mono (T.item (cxComp X scope cl own fr HP.objs.size s2 H2 fp) rfl rfl rfl hc i _ s3 σ3 H3 (fun _ _ => False) I3 (stat fr3) st3 go) (fun r s4 h4 => ?_) fun _ _ f => f.elim
      obtain ⟨u, hr, h4⟩ := h4
      subst hr
      refine wpAny_mono h4 (fun _ s5 h5 => ?_) fun _ _ f => f.elim
      obtain ⟨x, H5, I5, r5, y5, st5, fr5⟩ := h5
      have I5' := I5.pinned (stat fr5) (T.obj _ _ st5)
      refine wpAny_mono (hg _ _ _ _ _ s5 σ3 H5 x u _ I5' r5 (step x H5 y5)) (fun _ s6 h6 => ?_) fun _ _ f => f.elim
      obtain ⟨σ6, H6, I6, q6⟩ := h6
      refine wpAny_mono (ht _ _ _ _ _ s6 σ6 H6 _ I6 q6) (fun ok s7 h7 => ?_) fun _ _ f => f.elim
      obtain ⟨H7, I7, q7⟩ := h7
      have keepT : ∀ {σ8 : St} {H8 : Hp} {s8 : Shared} {l : List (Addr × Obj)}, Inv (cxComp X scope cl own fr HP.objs.size s2 H2 fp) (l ++ pinsAt fp s5.heap) σ8 H8 s8 → tn (i + 1) s8.heap ∧ ∀ b ∈ fp, H8 b = none := fun {σ8 H8 s8 l} I8 => by
        refine ⟨T.keep _ _ _ st5 fun b hb o e => (I8.pin (b, o) (List.mem_append_right _ (List.mem_append_right _ (mem_pinsAt hb e)))).1, fun b hb => ?_⟩
        obtain ⟨o, e, _⟩ := T.obj _ _ st5 b hb
        exact (I8.pin (b, o) (List.mem_append_right _ (List.mem_append_right _ (mem_pinsAt hb e)))).2.1
      cases ok with
      | false =>
        rw [if_neg Bool.false_ne_true] at q7 ⊢
        obtain ⟨_, m', hm, w7⟩ := hN _ _ _ q7
        exact ⟨m', hm, i + 1, ys, its, σ6, H7, I7.unpinned, rv, (keepT I7).1, (keepT I7).2, w7⟩
      | true =>
        rw [if_pos rfl] at q7 ⊢
        refine wpAny_mono (he _ _ _ _ _ s7 σ6 H7 _ I7 q7) (fun y s8 h8 => ?_) fun _ _ f => f.elim
        obtain ⟨yv, H8, I8, r8, n8⟩ := h8
        obtain ⟨hlt', m', hm, w8⟩ := hN _ _ _ n8
        have hlt : ys.length < sizeLine := by rw [List.length_append] at hlt'; exact hlt'
        obtain ⟨eD, nD, nL, _, _⟩ := I8.pin (s2.heap.objs.size, lstO its) (by simp [cxComp])
        refine append_at (its := its.toArray) (n := its.length) (hsz := by rw [List.size_toArray, ← rv.length]; exact Nat.le_of_lt hlt) eD fun h9 sb9 eD9 => ?_
        have I8p : Inv (cxComp X scope cl own fr HP.objs.size s2 H2 fp) (pinsAt fp s5.heap) σ6 H8 s8 := I8.pins_of fun p hp => I8.pin p (List.mem_append_right _ (List.mem_append_right _ hp))
        have I9p : Inv (cxComp X scope cl own fr HP.objs.size s2 H2 fp) (pinsAt fp s5.heap) σ6 H8 { s8 with heap := h9 } :=
          I8p.turned (t' := s8.toks) (fun b o hb e => (sb9.2 b hb).trans e) nD nL (.inr (Nat.le_refl _)) (fun x c e => (below c (hcD x c (hcells _ _ e))).2) fun p hp => by
            have hp' : p ∈ pinsAt fp s5.heap := by simpa [cxComp] using hp
            exact (below p.1 (hfpo _ (of_pinsAt hp').1)).2
        have eD9' : h9.get? s2.heap.objs.size = some (lstO (its ++ [y])) := eD9.trans (congrArg some (lstO_snoc its y))
        have I9 : Inv (cxComp X scope cl own fr HP.objs.size s2 H2 fp) [(s2.heap.objs.size, lstO (its ++ [y]))] σ6 H8 { s8 with heap := h9 } := I9p.pins_of (hpinD eD9' nD)
        have K9 := keepT (l := []) (by simpa using I9p)
        exact ⟨m', hm, i + 1, ys ++ [yv], its ++ [y], σ6, H8, I9, rv.append (.cons r8 .nil), K9.1, K9.2, w8⟩
  exact codeAny_compStart_list (loop _ rfl) (T.self _ 0 _ _ _ st1 (loop _ rfl))


def tCompE (own : List Str) (fr : List (Str × Nat)) (wi : TI) (g : TG) (tc : TT) (te : TE) : TE := fun σ H Q => tComp own fr wi g tc te (fun ys H3 => ∀ p, H3 p = none → Q (.ref p) (upd H3 p (.lst ys))) σ H
theorem pe_comp (hc : X.calm = true) (S : CompSc X scope cl own fr) (hi : PI X tg iter wi) (hg : ∀ C s2 H2 fp, PG (cxComp X scope cl own fr C s2 H2 fp) tg g)
    (ht : ∀ C s2 H2 fp, PTs (cxComp X scope cl own fr C s2 H2 fp) ifs tc) (he : ∀ C s2 H2 fp, PE (cxComp X scope cl own fr C s2 H2 fp) elt te)
    (hs : ∀ x, foldedSetIterable iter X.env x = pure x := by intro _; rfl) : PE X (.ListComp elt [⟨tg, iter, ifs, 0⟩] scope pos) (tCompE own fr wi g tc te) := by
  intro pins s σ H Q I h
  rw [eval_ListComp]
  refine wpAny_comprehension_free (use := none) rfl hs S.clos S.kind S.names ?_
  refine comp_core hc S hi hg ht he I h fun D C s4 H3 ys m nD J hn off q => ?_
  refine ⟨m, hn, fun h' sb => ⟨.ref D, _, J.turned (t' := s4.toks) (fun b o hb e => (sb.2 b hb).trans e) off.none off.loc (.inr off.above) off.cell off.pin, rfl, q D nD⟩⟩

def tCompS (i : Nat) (own : List Str) (fr : List (Str × Nat)) (wi : TI) (g : TG) (tc : TT) (te : TE) : TS := fun D σ H => tComp own fr wi g tc te (fun ys H3 => ∀ p, H3 p = none → D.nx (σ.set i (some (.ref p))) (upd H3 p (.lst ys))) σ H
theorem ps_setC {i : Nat} {y : Str} {py spos : Pos} (hN : X.N.Nodup) (hi' : X.N[i]? = some y) (hx : X.env.scope.names.lookup y = some .local) (hc : X.calm = true) (S : CompSc X scope cl own fr) (hi : PI X tg iter wi) (hg : ∀ C s2 H2 fp, PG (cxComp X scope cl own fr C s2 H2 fp) tg g)
    (ht : ∀ C s2 H2 fp, PTs (cxComp X scope cl own fr C s2 H2 fp) ifs tc) (he : ∀ C s2 H2 fp, PE (cxComp X scope cl own fr C s2 H2 fp) elt te)
    (hsw : swapsWith (.ListComp elt [⟨tg, iter, ifs, 0⟩] scope pos) (some (.Name y py)) spos.line X.env = pure true := by rfl)
    (hs : ∀ x, foldedSetIterable iter X.env x = pure x := by intro _; rfl) : PS X (.Assign [.Name y py] (.ListComp elt [⟨tg, iter, ifs, 0⟩] scope pos) spos) (tCompS i own fr wi g tc te) := by
  intro pins s σ H D I h
  rw [exec_Assign_Name_used _ _ _ _ hsw]
  refine wpAny_bind (wpAny_standAt (wpAny_bind ?_))
  show wpAny _ X.A (do let _ ← comprehension (.ListComp elt [⟨tg, iter, ifs, 0⟩] scope pos) scope X.env _ (newList []) false (eval iter X.env) (some (assign (.Name y py) X.env))) _ _ s
  refine wpAny_bind (wpAny_mono (wpAny_comprehension_free (use := some (assign (.Name y py) X.env)) (Q := fun _ s' => SP X pins D .next s') rfl hs S.clos S.kind S.names ?_) (fun _ s' hq => wpAny_pure (wpAny_pure hq)) fun _ _ e => e)
  refine comp_core hc S hi hg ht he I h fun Da C s4 H3 ys m nD J hn off q => ?_
  show wpAny _ X.A (assign (.Name y py) X.env (.ref Da)) _ _ _
  refine wpAny_assign_Name (store_ok2 J hN hi' (.inl hx) (v := .ref Da) rfl (fun s5 I5 hsb => ?_) (.inr hx))
  obtain ⟨a, sb, ha⟩ := hsb
  have nCa : C ≠ a := by
    rcases ha with z | z
    · rw [z]; exact off.loc
    · exact (off.cell _ _ z).symm
  refine ⟨m, hn.sameBut sb nCa, fun h' sb' => ⟨_, _, I5.turned (t' := s5.toks) (fun b o hb e => (sb'.2 b hb).trans e) off.none off.loc (.inr off.above) off.cell off.pin, q Da nD⟩⟩
end
section
variable {K : PySem.W.Frag} {a : Addr} {xs : List V} {own : List Str} {fr : List (Str × Nat)} {g : TG} {tc : TT} {te : TE} {fin : List V → Hp → Prop} {σ : St} {H : Hp}

def CompW (J : It) (g : TG) (tc : TT) (te : TE) (fin : List V → Hp → Prop) (σ0 : St) (H1 : Hp) : Prop :=
  ∃ W : Nat → Nat → List V → St → Hp → Prop, (∃ m, W 0 m [] σ0 H1) ∧ ∀ i m ys σ' H', W i m ys σ' H' →
    (J.stop i H' ∧ ys.length ≤ sizeLine ∧ fin ys H') ∨
    (J.go i H' ∧ ∃ N : List V → St → Hp → Prop, (∀ ys2 σ2 H2, N ys2 σ2 H2 → ys2.length ≤ sizeLine ∧ ∃ m', m' < m ∧ W (i + 1) m' ys2 σ2 H2) ∧
      ∀ x H2, J.yld i H' x H2 → g x σ' H2 fun σ3 H3 => tc σ3 H3 fun b H4 => if b = true then te σ3 H4 fun y H5 => N (ys ++ [y]) σ3 H5 else N ys σ3 H4)
theorem comp_list {σ0 : St} (Pv : Nat → List V → St → Hp → Prop) (h0 : Pv 0 [] σ0 H) (hl : ∀ i ys σ H, i ≤ xs.length → Pv i ys σ H → SqL K H a xs ∧ ys.length ≤ sizeLine)
    (hs : ∀ i x ys σ H, xs[i]? = some x → Pv i ys σ H → g x σ H fun σ3 H3 => tc σ3 H3 fun b H4 => if b = true then te σ3 H4 fun y H5 => Pv (i + 1) (ys ++ [y]) σ3 H5 else Pv (i + 1) ys σ3 H4)
    (hd : ∀ ys σ H, Pv xs.length ys σ H → fin ys H) : CompW (Itl K a) g tc te fin σ0 H := by
  refine ⟨fun i m ys σ H => m = xs.length - i ∧ i ≤ xs.length ∧ Pv i ys σ H, ⟨xs.length, by simp, Nat.zero_le _, h0⟩, ?_⟩
  rintro i m ys σ H ⟨rfl, hi, p⟩
  obtain ⟨q, hz⟩ := hl i ys σ H hi p
  by_cases hlt : i < xs.length
  · refine .inr ⟨⟨xs, xs[i], q, by simp [hlt]⟩, Pv (i + 1), fun ys2 σ2 H2 p' => ⟨(hl (i + 1) ys2 σ2 H2 hlt p').2, xs.length - (i + 1), by omega, rfl, hlt, p'⟩, fun x H2 y => ?_⟩
    obtain ⟨e, y⟩ := y
    subst e
    exact hs i x ys σ _ (y xs q) p
  · have e : i = xs.length := by omega
    subst e
    exact .inl ⟨⟨xs, q, Nat.le_refl _⟩, hz, hd ys σ H p⟩
theorem comp_range {σ0 : St} {lo : Int} {n : Nat} (Pv : Nat → List V → St → Hp → Prop) (h0 : Pv 0 [] σ0 H) (hl : ∀ i ys σ H, i ≤ n → Pv i ys σ H → ys.length ≤ sizeLine)
    (hs : ∀ i ys σ H, i < n → Pv i ys σ H → g (.int (lo + i)) σ H fun σ3 H3 => tc σ3 H3 fun b H4 => if b = true then te σ3 H4 fun y H5 => Pv (i + 1) (ys ++ [y]) σ3 H5 else Pv (i + 1) ys σ3 H4)
    (hd : ∀ ys σ H, Pv n ys σ H → fin ys H) : CompW (Itr lo n) g tc te fin σ0 H := by
  refine ⟨fun i m ys σ H => m = n - i ∧ i ≤ n ∧ Pv i ys σ H, ⟨n, by simp, Nat.zero_le _, h0⟩, ?_⟩
  rintro i m ys σ H ⟨rfl, hi, p⟩
  by_cases hlt : i < n
  · refine .inr ⟨hlt, Pv (i + 1), fun ys2 σ2 H2 p' => ⟨hl (i + 1) ys2 σ2 H2 hlt p', n - (i + 1), by omega, rfl, hlt, p'⟩, fun x H2 y => ?_⟩
    obtain ⟨e, y⟩ := y
    subst e y
    exact hs i ys σ _ hlt p
  · have e : i = n := by omega
    subst e
    exact .inl ⟨Nat.le_refl _, hl _ ys σ H hi p, hd ys σ H p⟩
end
end L3
namespace L3
open PySem PySem.Spec PyProof.Rows L2 PySem.SeqAt


theorem look_new {H : Hp} {p q : Addr} {o u : HO} (hq : H q = some u) (hp : H p = none) : upd H p o q = some u := by
  rw [upd_ne (ne_of_none hq hp)]; exact hq
theorem look_ne {H : Hp} {p q : Addr} {o : HO} {u : Option HO} (hne : q ≠ p) (hq : H q = u) : upd H p o q = u := by
  rw [upd_ne hne]; exact hq
theorem none_upd {H : Hp} {p q : Addr} {o : HO} (h : upd H p o q = none) : H q = none ∧ q ≠ p := by
  by_cases e : q = p
  · subst e; rw [upd_same] at h; cases h
  · rw [upd_ne e] at h; exact ⟨h, e⟩
theorem same_new {H : Hp} {p : Addr} {o : HO} (h : H p = none) : Same H (upd H p o) := fun b u q => look_new q h
theorem same_upd {H H1 : Hp} {p : Addr} {o : HO} (s : Same H H1) (h : H p = none) : Same H (upd H1 p o) := fun b u q => by
  rw [upd_ne (ne_of_none q h)]; exact s b u q
theorem SqT_same {K : PySem.W.Frag} {H H' : Hp} {a : Addr} {xs : List V} (e : Same H H') (h : SqT K H a xs) : SqT K H' a xs := by
  rcases h with (h | ⟨o, h⟩) | h
  · exact .inl (.inl (e _ _ h))
  · exact .inl (.inr ⟨o, e _ _ h⟩)
  · exact .inr h


mutual
def Dp (K : PySem.W.Frag) (H : Hp) : PyData → V → Prop
  | .none, v => v = .non
  | .bool b, v => v = .bl b
  | .int i, v => v = .int i
  | .str x, v => v = .str x
  | .list ds, v => ∃ a xs, v = .ref a ∧ SqL K H a xs ∧ DpAll K H ds xs
  | .tuple ds, v => ∃ a xs, v = .ref a ∧ SqT K H a xs ∧ DpAll K H ds xs
  | .dict _, _ => False
def DpAll (K : PySem.W.Frag) (H : Hp) : List PyData → List V → Prop
  | [], vs => vs = []
  | d :: ds, vs => ∃ v r, vs = v :: r ∧ Dp K H d v ∧ DpAll K H ds r
end
theorem dpAll_ints {K : PySem.W.Frag} {H : Hp} : ∀ ns : List Int, DpAll K H (ns.map PyData.int) (ns.map V.int)
  | [] => by rw [List.map_nil, List.map_nil, DpAll]
  | n :: ns => by
    rw [List.map_cons, List.map_cons, DpAll]
    exact ⟨_, _, rfl, by rw [Dp], dpAll_ints ns⟩
theorem dp_ints {K : PySem.W.Frag} {H : Hp} {a : Addr} {ns : List Int} (h : SqL K H a (ns.map V.int)) : Dp K H (.list (ns.map PyData.int)) (.ref a) := by
  rw [Dp]; exact ⟨a, _, rfl, h, dpAll_ints ns⟩
theorem dp_int {K : PySem.W.Frag} {H : Hp} (i : Int) : Dp K H (.int i) (.int i) := by rw [Dp]
theorem dp_str {K : PySem.W.Frag} {H : Hp} (x : Str) : Dp K H (.str x) (.str x) := by rw [Dp]
theorem dp_lst {K : PySem.W.Frag} {H : Hp} {a : Addr} {xs : List V} {ds : List PyData} (h : SqL K H a xs) (q : DpAll K H ds xs) : Dp K H (.list ds) (.ref a) := by
  rw [Dp]; exact ⟨a, _, rfl, h, q⟩
theorem dp_tup {K : PySem.W.Frag} {H : Hp} {a : Addr} {xs : List V} {ds : List PyData} (h : SqT K H a xs) (q : DpAll K H ds xs) : Dp K H (.tuple ds) (.ref a) := by
  rw [Dp]; exact ⟨a, _, rfl, h, q⟩
theorem dpAll_nil {K : PySem.W.Frag} {H : Hp} : DpAll K H [] [] := by rw [DpAll]
theorem dpAll_cons {K : PySem.W.Frag} {H : Hp} {d : PyData} {ds : List PyData} {v : V} {r : List V} (h : Dp K H d v) (q : DpAll K H ds r) : DpAll K H (d :: ds) (v :: r) := by
  rw [DpAll]; exact ⟨_, _, rfl, h, q⟩
theorem canLay_ints : ∀ ns : List Int, PyData.canLayAll0 (ns.map PyData.int) = true
  | [] => rfl
  | n :: ns => by
    rw [List.map_cons, PyData.canLayAll0, canLay_ints ns]; rfl
theorem depth_ints : ∀ ns : List Int, PyData.depthAll (ns.map PyData.int) = 0
  | [] => rfl
  | n :: ns => by
    rw [List.map_cons, PyData.depthAll, depth_ints ns]; rfl
theorem shaped_ints (ns : List Int) : shaped (.list (ns.map PyData.int)) = true := by
  unfold shaped
  rw [PyData.canLay0, canLay_ints, PyData.depth, depth_ints]; rfl

section
variable {X : Cx} {pins : List (Addr × Obj)} {σ : St} {H : Hp} {s : Shared}
mutual
theorem dp_reads (I : Inv X pins σ H s) : ∀ (d : PyData) (v : V) (u : Value), Dp X.K H d v → RelV v u → ∃ as, Reads s.heap u d as
  | .none, v, u, h, r => by
    rw [Dp] at h; subst h; cases (show u = Value.none from r); exact ⟨_, .none⟩
  | .bool b, v, u, h, r => by
    rw [Dp] at h; subst h; cases (show u = Value.bool b from r); exact ⟨_, .bool b⟩
  | .int i, v, u, h, r => by
    rw [Dp] at h; subst h; obtain ⟨t, e⟩ := (show ∃ t, u = Value.int i t from r); subst e; exact ⟨_, .int i t⟩
  | .str x, v, u, h, r => by
    rw [Dp] at h; subst h; obtain ⟨t, e⟩ := (show ∃ t, u = Value.str x t from r); subst e; exact ⟨_, .str x t⟩
  | .list ds, v, u, h, r => by
    rw [Dp] at h
    obtain ⟨a, xs, e, hq, ha⟩ := h
    subst e
    cases (show u = Value.ref a from r)
    obtain ⟨its, rv, pl, hz⟩ := I.list hq
    obtain ⟨o, ho, hc, n, hd⟩ := pl.isList
    obtain ⟨as, z⟩ := dpAll_reads I ds xs its ha rv
    exact ⟨_, .list ho hc hd (by simpa using z)⟩
  | .tuple ds, v, u, h, r => by
    rw [Dp] at h
    obtain ⟨a, xs, e, hq, ha⟩ := h
    subst e
    cases (show u = Value.ref a from r)
    obtain ⟨its, rv, pl, hz⟩ := I.tuple hq
    obtain ⟨o, ho, hc, n, hd⟩ := pl
    obtain ⟨as, z⟩ := dpAll_reads I ds xs its ha rv
    exact ⟨_, .tuple ho hc hd (by simpa using z)⟩
  | .dict _, v, u, h, r => by rw [Dp] at h; exact h.elim
theorem dpAll_reads (I : Inv X pins σ H s) : ∀ (ds : List PyData) (vs : List V) (us : List Value), DpAll X.K H ds vs → Vals vs us → ∃ as, ReadsAll s.heap us ds as
  | [], vs, us, h, r => by
    rw [DpAll] at h; subst h; cases r; exact ⟨_, .nil⟩
  | d :: ds, vs, us, h, r => by
    rw [DpAll] at h
    obtain ⟨v, rr, e, h1, h2⟩ := h
    subst e
    cases r with
    | cons r1 r2 =>
      obtain ⟨as, z1⟩ := dp_reads I d _ _ h1 r1
      obtain ⟨bs, z2⟩ := dpAll_reads I ds _ _ h2 r2
      exact ⟨_, .cons z1 z2⟩
end
end
def rEqD (K : PySem.W.Frag) : R2 := fun x y H Q => ∃ dx dy, Dp K H dx x ∧ Dp K H dy y ∧ shaped dx = true ∧ shaped dy = true ∧ Q (.bl (PyData.eqv dx dy)) H
def rNeD (K : PySem.W.Frag) : R2 := fun x y H Q => ∃ dx dy, Dp K H dx x ∧ Dp K H dy y ∧ shaped dx = true ∧ shaped dy = true ∧ Q (.bl (!PyData.eqv dx dy)) H

def rEqA (K : PySem.W.Frag) : R2 := fun x y H Q => rEq x y H Q ∨ rEqD K x y H Q
def rNeA (K : PySem.W.Frag) : R2 := fun x y H Q => rNe x y H Q ∨ rNeD K x y H Q
section
variable {X : Cx}
theorem op_eqD (hu : X.A.units + 64 < cLine) : OpR X (compareOp .Eq) (rEqD X.K) := by
  intro pins s σ H x y v u Q I rx ry h
  obtain ⟨dx, dy, hx, hy, sx, sy, q⟩ := h
  obtain ⟨as, ra⟩ := dp_reads I dx x v hx rx
  obtain ⟨bs, rb⟩ := dp_reads I dy y u hy ry
  exact eq_dataH ra rb sx sy hu ⟨.bl _, H, I, rfl, q⟩
theorem op_neD (hu : X.A.units + 64 < cLine) : OpR X (compareOp .NotEq) (rNeD X.K) := by
  intro pins s σ H x y v u Q I rx ry h
  obtain ⟨dx, dy, hx, hy, sx, sy, q⟩ := h
  obtain ⟨as, ra⟩ := dp_reads I dx x v hx rx
  obtain ⟨bs, rb⟩ := dp_reads I dy y u hy ry
  exact ne_dataH ra rb sx sy hu ⟨.bl _, H, I, rfl, q⟩
theorem op_eqA (hu : X.A.units + 64 < cLine) : OpR X (compareOp .Eq) (rEqA X.K) := op_eq.or (op_eqD hu)
theorem op_neA (hu : X.A.units + 64 < cLine) : OpR X (compareOp .NotEq) (rNeA X.K) := op_ne.or (op_neD hu)
end
theorem canLay_of (d : PyData) (h : shaped d = true) : d.canLay0 = true := (Bool.and_eq_true_iff.mp h).1
theorem r_eqS {K : PySem.W.Frag} {x y : V} {H : Hp} {Q : VK} (h : scal x y = true) (q : Q (.bl (decide (x = y))) H) : rEqA K x y H Q := .inl ⟨h, q⟩
theorem r_neS {K : PySem.W.Frag} {x y : V} {H : Hp} {Q : VK} (h : scal x y = true) (q : Q (.bl (!decide (x = y))) H) : rNeA K x y H Q := .inl ⟨h, q⟩
theorem r_eqT {K : PySem.W.Frag} {x y : V} {H : Hp} {Q : VK} (d : PyData) (hx : Dp K H d x) (hy : Dp K H d y) (hs : shaped d = true) (q : Q (.bl true) H) : rEqA K x y H Q :=
  .inr ⟨d, d, hx, hy, hs, hs, by rw [eqv_refl d (canLay_of d hs)]; exact q⟩
theorem r_neT {K : PySem.W.Frag} {x y : V} {H : Hp} {Q : VK} (d : PyData) (hx : Dp K H d x) (hy : Dp K H d y) (hs : shaped d = true) (q : Q (.bl false) H) : rNeA K x y H Q :=
  .inr ⟨d, d, hx, hy, hs, hs, by rw [eqv_refl d (canLay_of d hs)]; exact q⟩


def clsOf : V → Value
  | .ty n => .type n
  | .ref a => .ref a
  | _ => .none
theorem clsOf_eq {c : V} {u : Value} (r : RelV c u) (h : clsOf c ≠ .none) : u = clsOf c := by
  cases c <;> first | exact r | exact (h rfl).elim
def rIsi (K : PySem.W.Frag) : List V → Hp → VK → Prop := fun xs H Q => ∃ x c t b, xs = [x, c] ∧ clsOf c ≠ .none ∧ TyOf K H x t ∧ PySem.W.kitOne K t (clsOf c) = some b ∧ Q (.bl b) H
theorem call_isi {X : Cx} : CallR X (.builtin "isinstance") (rIsi X.K) := by
  intro pins s σ H xs us Q I r h
  obtain ⟨x, c, t, b, rfl, hc, ty, e, q⟩ := h
  obtain ⟨u, w', rfl, rx, rc⟩ := vals2 r
  cases clsOf_eq rc hc
  exact isinst_ok I rx ty e fun tk => ⟨.bl b, H, I.tok _, rfl, q⟩
theorem r_isi {K : PySem.W.Frag} {x c : V} {H : Hp} {Q : VK} {t : Value} {b : Bool} (hc : clsOf c ≠ .none) (ty : TyOf K H x t) (e : PySem.W.kitOne K t (clsOf c) = some b) (q : Q (.bl b) H) : rIsi K [x, c] H Q := ⟨x, c, t, b, rfl, hc, ty, e, q⟩


theorem bool_index : typeLookup (.type "bool") "__index__" = pure (some (.builtin "int.__index__")) := by rw [typeLookup_type, builtinLookup_eq_fast]; kernel_rfl
theorem listSubscript_bool {M : Model} {A : Around} {E : Value → Shared → Prop} {s : Shared} {b : Bool} {Q : Option Int → Shared → Prop} (h : Q (some (if b then 1 else 0)) s) :
    wpAny M A (Builtin.List.listSubscript? (.bool b)) Q E s := by
  unfold Builtin.List.listSubscript?
  refine wpAny_bind (wpAny_specialOf (T := "bool") (show s.TypeIs (.bool b) "bool" from rfl) bool_index ?_)
  show wpAny M A (asIndex (.bool b) >>= _) Q E s
  refine wpAny_bind (wpAny_of_eq (a := if b then 1 else 0) rfl ?_)
  show wpAny M A (if (!Builtin.List.listFitsIndex (if b then 1 else 0)) = true then _ else _) Q E s
  rw [if_neg (by cases b <;> decide)]
  exact wpAny_pure h
theorem getItem_list_bool {prog : Program} {w : World} {A : Around} {E : Value → Shared → Prop} {s : Shared} {l : Addr} {items : Array Value} {b : Bool} {x : Value} {Q : Value → Shared → Prop} (hl : s.heap.IsList l items)
    (hx : items[if b then 1 else 0]? = some x) (h : Q x s) : wpAny (model prog w) A (getItem (.ref l) (.bool b)) Q E s := by
  obtain ⟨o, ho, hc, ne, hd⟩ := id hl
  unfold getItem
  try with_reducible refine wpAny_holding ?_
  first | refine wpAny_bind (wpAny_pure ?_) | skip
  refine wpAny_bind (wpAny_sequenceKey hl.typeIs (by decide) ?_)
  refine wpAny_bind (wpAny_callSpecial?_slot (name := Str.ofString "__getitem__") hl.typeIs slot_list_getitem
    (wpAny_call_entry slot_list_getitem hl.typeIs entry_list_getitem ?_ (args_list_getitem _ _)))
  show wpAny _ _ (Builtin.List.listSubscript? (.bool b) >>= _) _ _ s
  refine wpAny_bind (listSubscript_bool ?_)
  cases b with
  | true =>
    have hx' : items[1]? = some x := hx
    show wpAny _ _ ((seqItemAt l 1 >>= fun r => pure (r.map (1, ·))) >>= _) _ _ s
    refine wpAny_bind (wpAny_bind (wpAny_seqItemAt ho hd (wpAny_pure ?_)))
    rw [hx']
    first
      | exact wpAny_bind (wpAny_pure (wpAny_pure ⟨x, rfl, wpAny_pure h⟩))
      | exact wpAny_pure ⟨x, rfl, wpAny_pure h⟩
  | false =>
    have hx' : items[0]? = some x := hx
    show wpAny _ _ ((seqItemAt l 0 >>= fun r => pure (r.map (0, ·))) >>= _) _ _ s
    refine wpAny_bind (wpAny_bind (wpAny_seqItemAt ho hd (wpAny_pure ?_)))
    rw [hx']
    first
      | exact wpAny_bind (wpAny_pure (wpAny_pure ⟨x, rfl, wpAny_pure h⟩))
      | exact wpAny_pure ⟨x, rfl, wpAny_pure h⟩
def rIxB (K : PySem.W.Frag) : R2 := fun x y H Q => ∃ p xs b v, x = .ref p ∧ y = .bl b ∧ SqL K H p xs ∧ xs[if b then 1 else 0]? = some v ∧ Q v H
theorem ix_bool {X : Cx} : IxR X (rIxB X.K) := by
  intro value slice pins s σ H x y v u Q I rx ry h hs
  obtain ⟨p, xs, b, z, rfl, rfl, hq, he, q⟩ := h
  cases rx
  cases ry
  obtain ⟨its, r, pl, hz⟩ := I.list hq
  obtain ⟨w, ew, rw'⟩ := r.get he
  exact subscriptTail_builtinR (x := w) pl.isList.typeIs slot_list_getitem.lookup
    (getItem_list_bool (Q := fun r s' => r = w ∧ EP X pins σ Q r s') pl.isList (by simpa using ew) ⟨rfl, z, H, I, rw', q⟩) hs

def rIxA (K : PySem.W.Frag) : R2 := fun x y H Q => rIx K x y H Q ∨ rIxB K x y H Q
theorem ix_any {X : Cx} : IxR X (rIxA X.K) := ix_seq.or ix_bool
theorem r_ixL {K : PySem.W.Frag} {p : Addr} {xs : List V} {i : Int} {v : V} {H : Hp} {Q : VK} (h : SqL K H p xs) (e : atI xs i = some v) (q : Q v H) : rIxA K (.ref p) (.int i) H Q := .inl (.inl ⟨p, xs, i, v, rfl, rfl, h, e, q⟩)
theorem r_ixT {K : PySem.W.Frag} {p : Addr} {xs : List V} {i : Int} {v : V} {H : Hp} {Q : VK} (h : SqT K H p xs) (e : atI xs i = some v) (q : Q v H) : rIxA K (.ref p) (.int i) H Q := .inl (.inr (.inl ⟨p, xs, i, v, rfl, rfl, h, e, q⟩))
def rStr : R2 := fun x y H Q => ∃ i j, x = .str i ∧ y = .str j ∧ i.length + j.length ≤ sizeLine ∧ Q (.str (i ++ j)) H
def rPlus (K : PySem.W.Frag) : R2 := fun x y H Q => rI0 (fun i j => .int (i + j)) x y H Q ∨ rCat x y H Q ∨ rCatT K x y H Q ∨ rStr x y H Q
theorem op_plus {X : Cx} : OpR X (binaryOp .Add) (rPlus X.K) := op_add.or (op_cat.or (op_catT.or op_add_str))
theorem r_plusI {K : PySem.W.Frag} {i j : Int} {H : Hp} {Q : VK} (q : Q (.int (i + j)) H) : rPlus K (.int i) (.int j) H Q := .inl ⟨i, j, rfl, rfl, q⟩
theorem r_plusL {K : PySem.W.Frag} {a b : Addr} {xs ys : List V} {H : Hp} {Q : VK} (ha : H a = some (.lst xs)) (hb : H b = some (.lst ys)) (hz : xs.length + ys.length ≤ sizeLine) (q : ∀ p, H p = none → Q (.ref p) (upd H p (.lst (xs ++ ys)))) :
    rPlus K (.ref a) (.ref b) H Q := .inr (.inl ⟨a, b, xs, ys, rfl, rfl, ha, hb, hz, q⟩)
def rSlA (K : PySem.W.Frag) : V → Option Int → Option Int → Hp → VK → Prop := fun x lo hi H Q => rSlL K x lo hi H Q ∨ rSlT K x lo hi H Q
theorem sl_any {X : Cx} : SlR X (rSlA X.K) := sl_list.or sl_tup


structure FnE (P : Program) (w : World) (K : PySem.W.Frag) (mg : Str → Option Value) (base : Heap) (CX : CXT) (k : Nat) (x : Str) (sp : Sp) : Prop where
  ex : ∃ (f : Addr) (fd : FuncData) (ps : List Str), FnOk P w K mg base CX k f fd ps sp ∧ mg x = some (.ref f) ∧ PySem.W.keepIn K (.ref f) = true ∧ Binds K fd ps []
structure MethE (P : Program) (w : World) (K : PySem.W.Frag) (mg : Str → Option Value) (base : Heap) (CX : CXT) (k : Nat) (C : Addr) (m : Str) (sp : Sp) : Prop where
  cl : Cls K C
  ex : ∃ (f : Addr) (fd : FuncData) (ps : List Str), Meth K C m f ∧ FnOk P w K mg base CX k f fd ps sp ∧ Binds K fd ps []
structure MkE (P : Program) (w : World) (K : PySem.W.Frag) (mg : Str → Option Value) (base : Heap) (CX : CXT) (k : Nat) (x : Str) (C : Addr) (sp : Sp) : Prop where
  ex : ∃ (f : Addr) (fd : FuncData) (ps : List Str), Mk K C f ∧ FnOk P w K mg base CX k f fd ps sp ∧ mg x = some (.ref C) ∧ Binds K fd ps []
theorem MethE.mono {P : Program} {w : World} {K : PySem.W.Frag} {mg : Str → Option Value} {base : Heap} {CX : CXT} {j k : Nat} {C : Addr} {m : Str} {sp : Sp} (M : MethE P w K mg base CX j C m sp) (h : j ≤ k) : MethE P w K mg base CX k C m sp := by
  obtain ⟨f, fd, ps, a, b, c⟩ := M.ex
  exact ⟨M.cl, f, fd, ps, a, b.mono h, c⟩
def tCallE (sp : Sp) (E : XK) (t : TA) : TE := fun σ H Q => t σ H fun vs H1 => sp vs H1 Q E
def tMakeE (C : Addr) (sp : Sp) (E : XK) (t : TA) : TE := fun σ H Q => t σ H fun vs H1 => ∀ x dx, H1 x = none → H1 dx = none → dx ≠ x →
  sp (.ref x :: vs) (upd (upd H1 dx (.own x)) x (.ins C dx [])) (fun v H2 => v = .non ∧ Q (.ref x) H2) E
def tMethE (P : Program) (w : World) (K : PySem.W.Frag) (mg : Str → Option Value) (base : Heap) (CX : CXT) (k : Nat) (m : Str) (E : XK) (ta : TE) (t : TA) : TE := fun σ H Q => ta σ H fun x H1 =>
  ∃ a C dx fs sp, x = .ref a ∧ H1 a = some (.ins C dx fs) ∧ fs.lookup m = none ∧ MethE P w K mg base CX k C m sp ∧ t σ H1 fun vs H2 => sp (.ref a :: vs) H2 Q E
section
variable {X : Cx} {CX : CXT} {k : Nat} {C : Addr} {sp : Sp} {E : XK} {x m : Str} {p pos apos : Pos} {e o : Expr} {es : List Expr} {ta : TE} {t : TA}
theorem pe_callE (G : FnE X.prog X.w X.K X.mg X.base CX k x sp) (hr : Room k X.A) (hx : Passes CX X E) (hg : Gl X x) (ha : PA X (e :: es) t) (hdb : (x == ("__debug__" : Str)) = false := by decide)
    (he : starEach (e :: es) X.env = (false, eval e X.env) :: starEach es X.env := by rfl) (hpl : (backTo pos (starEach es X.env)).any (·.1) = false := by rfl) : PE X (.Call (.Name x p) (e :: es) [] pos) (tCallE sp E t) := by
  obtain ⟨f, fd, ps, F, hm, hk, hb⟩ := G.ex
  have z := pe_call (p := p) (pos := pos) F hr hg hm hk hb .nil hx ha hdb he hpl
  intro pins s σ H Q I h
  refine z pins s σ H Q I ?_
  have e1 : tCall sp [] E t = tCallE sp E t := by
    funext σ H Q
    show t σ H (fun vs H1 => sp (vs ++ []) H1 Q E) = t σ H (fun vs H1 => sp vs H1 Q E)
    simp only [List.append_nil]
  rw [e1]; exact h
theorem pe_makeE (G : MkE X.prog X.w X.K X.mg X.base CX k x C sp) (hr : Room (k + 1) X.A) (hx : Passes CX X E) (hg : Gl X x) (ha : PA X (e :: es) t) (hdb : (x == ("__debug__" : Str)) = false := by decide)
    (he : starEach (e :: es) X.env = (false, eval e X.env) :: starEach es X.env := by rfl) (hpl : (backTo pos (starEach es X.env)).any (·.1) = false := by rfl) : PE X (.Call (.Name x p) (e :: es) [] pos) (tMakeE C sp E t) := by
  obtain ⟨f, fd, ps, M, F, hm, hb⟩ := G.ex
  have z := pe_make (p := p) (pos := pos) M F hr hg hm hb .nil hx ha hdb he hpl
  intro pins s σ H Q I h
  refine z pins s σ H Q I ?_
  have e1 : tMake C sp [] E t = tMakeE C sp E t := by
    funext σ H Q
    show t σ H (fun vs H1 => ∀ x dx, H1 x = none → H1 dx = none → dx ≠ x → sp (.ref x :: (vs ++ [])) _ _ E) = t σ H (fun vs H1 => ∀ x dx, H1 x = none → H1 dx = none → dx ≠ x → sp (.ref x :: vs) _ _ E)
    simp only [List.append_nil]
  rw [e1]; exact h
theorem pe_methE {pl : Sem Bool} (he : PE X o ta) (hr : Room k X.A) (hx : Passes CX X E) (ha : PA X (e :: es) t)
    (hst : starEach (e :: es) X.env = (false, eval e X.env) :: starEach es X.env := by rfl) (hpl : (backTo pos (starEach es X.env)).any (·.1) = false := by rfl)
    (ht : eval (.Call (.Attribute o m apos) (e :: es) [] pos) X.env = (do
      let ov ← eval o X.env
      standAt apos.atName
      let (f, first) ← holding [ov] (getMethod ov m pl)
      callWith pos f first (backTo pos (starEach (e :: es) X.env)) (backToKw pos (keywordEach [] X.env))) := by rfl) :
    PE X (.Call (.Attribute o m apos) (e :: es) [] pos) (tMethE X.prog X.w X.K X.mg X.base CX k m E ta t) := by
  intro pins s σ H Q I h
  refine PySem.W.methodCall_KW (pl := pl) (thn (he pins s σ H _ I h) fun u s1 ⟨x, H1, I1, rx, a, C, dx, fs, sp, ex, ea, l, M, q⟩ => ?_) ht
  subst ex
  obtain rfl : u = Value.ref a := rx
  obtain ⟨f, fd, ps, hm, F, hb⟩ := M.ex
  refine getmeth_ok I1 ea M.cl hm l ?_
  refine PySem.W.callWith_K (first := [.ref a]) (h₀ := X.base) I.ok.mod.kin hm.kp (thn (ha pos pins s1 σ H1 _ I1 q) fun us s2 ⟨vs, H2, I2, r, q2⟩ => ⟨I2.kIn, ?_⟩) hst hpl
  exact run_fn (us := .ref a :: us) (vs := .ref a :: vs) F hr hb .nil hx I2 (.cons rfl r) (by rw [List.append_nil]; exact q2)
theorem pe_methE0 {pl : Sem Bool} (he : PE X o ta) (hr : Room k X.A) (hx : Passes CX X E)
    (ht : eval (.Call (.Attribute o m apos) [] [] pos) X.env = (do
      let ov ← eval o X.env
      standAt apos.atName
      let (f, first) ← holding [ov] (getMethod ov m pl)
      callWith pos f first (backTo pos (starEach [] X.env)) (backToKw pos (keywordEach [] X.env))) := by rfl) :
    PE X (.Call (.Attribute o m apos) [] [] pos) (tMethE X.prog X.w X.K X.mg X.base CX k m E ta tNil) := by
  intro pins s σ H Q I h
  refine PySem.W.methodCall_KW (pl := pl) (thn (he pins s σ H _ I h) fun u s1 ⟨x, H1, I1, rx, a, C, dx, fs, sp, ex, ea, l, M, q⟩ => ?_) ht
  subst ex
  obtain rfl : u = Value.ref a := rx
  obtain ⟨f, fd, ps, hm, F, hb⟩ := M.ex
  refine getmeth_ok I1 ea M.cl hm l ?_
  exact PySem.W.callWith_K0 (first := [.ref a]) I1.kIn hm.kp (run_fn (us := [.ref a]) (vs := [.ref a]) F hr hb .nil hx I1 (.cons rfl .nil) q)
end


theorem b_len : bootBuiltins "len" = some (.builtin "len") := by decide +kernel
theorem b_all : bootBuiltins "all" = some (.builtin "all") := by decide +kernel
theorem b_isinstance : bootBuiltins "isinstance" = some (.builtin "isinstance") := by decide +kernel
theorem b_max : bootBuiltins "max" = some (.builtin "max") := by decide +kernel
theorem b_bool : bootBuiltins "bool" = some (.type "bool") := by decide +kernel
theorem b_list : bootBuiltins "list" = some (.type "list") := by decide +kernel
theorem b_tuple : bootBuiltins "tuple" = some (.type "tuple") := by decide +kernel
def rFld (K : PySem.W.Frag) (f : Str) : V → Hp → VK → Prop := fun x H1 Q => ∃ a C dx fs v, x = .ref a ∧ H1 a = some (.ins C dx fs) ∧ Cls K C ∧ NoAttr K C f ∧ fs.lookup f = some v ∧ Q v H1
def rMeth (P : Program) (w : World) (K : PySem.W.Frag) (mg : Str → Option Value) (base : Heap) (CX : CXT) (k : Nat) (m : Str) (E : XK) (σ : St) (t : TA) : V → Hp → VK → Prop := fun x H1 Q =>
  ∃ a C dx fs sp, x = .ref a ∧ H1 a = some (.ins C dx fs) ∧ fs.lookup m = none ∧ MethE P w K mg base CX k C m sp ∧ t σ H1 fun vs H2 => sp (.ref a :: vs) H2 Q E
def sFldV (K : PySem.W.Frag) (f : Str) (y : V) (D : Ends) (σ : St) : V → Hp → Prop := fun x H2 => ∃ a C dx fs, x = .ref a ∧ H2 a = some (.ins C dx fs) ∧ Cls K C ∧ NoAttr K C f ∧ fs.length < 1000 ∧ D.nx σ (upd H2 a (.ins C dx (putF f y fs)))
def rLen (K : PySem.W.Frag) : List V → Hp → VK → Prop := fun xs H Q => ∃ x n, xs = [x] ∧ LenV K x H n ∧ Q (.int n) H
theorem call_lenA {X : Cx} : CallR X (.builtin "len") (rLen X.K) := call_len
theorem r_lenL {K : PySem.W.Frag} {p : Addr} {xs : List V} {H : Hp} {Q : VK} (h : SqL K H p xs) (q : Q (.int xs.length) H) : rLen K [.ref p] H Q := ⟨.ref p, xs.length, rfl, .inl ⟨xs, h, rfl⟩, q⟩
theorem r_lenT {K : PySem.W.Frag} {p : Addr} {xs : List V} {H : Hp} {Q : VK} (h : SqT K H p xs) (q : Q (.int xs.length) H) : rLen K [.ref p] H Q := ⟨.ref p, xs.length, rfl, .inr ⟨xs, h, rfl⟩, q⟩
def rLst (K : PySem.W.Frag) : List V → Hp → VK → Prop := fun xs H Q => ∃ p ys, xs = [.ref p] ∧ (SqL K H p ys ∨ SqT K H p ys) ∧ ∀ l, H l = none → Q (.ref l) (upd H l (.lst ys))
theorem call_listA {X : Cx} : CallR X (.type "list") (rLst X.K) := call_list_of
theorem r_listL {K : PySem.W.Frag} {p : Addr} {xs : List V} {H : Hp} {Q : VK} (h : SqL K H p xs) (q : ∀ l, H l = none → Q (.ref l) (upd H l (.lst xs))) : rLst K [.ref p] H Q := ⟨p, xs, rfl, .inl h, q⟩
def rTwo (g : Int → Int → Int) : List V → Hp → VK → Prop := fun xs H Q => ∃ i j, xs = [.int i, .int j] ∧ Q (.int (g i j)) H
theorem call_maxA {X : Cx} (hc : X.calm = true) : CallR X (.builtin "max") (rTwo fun i j => if j > i then j else i) := call_max2 hc
theorem r_two {g : Int → Int → Int} {i j : Int} {H : Hp} {Q : VK} (q : Q (.int (g i j)) H) : rTwo g [.int i, .int j] H Q := ⟨i, j, rfl, q⟩
theorem r_slL {K : PySem.W.Frag} {p : Addr} {xs : List V} {lo hi : Option Int} {H : Hp} {Q : VK} (h : SqL K H p xs) (q : ∀ l, H l = none → Q (.ref l) (upd H l (.lst (cutV xs lo hi)))) : rSlA K (.ref p) lo hi H Q := .inl ⟨p, xs, rfl, h, q⟩
def rTru (K : PySem.W.Frag) (x : V) (H : Hp) (Q : Bool → Hp → Prop) : Prop := ∃ k, TruV K x H k ∧ Q k H
theorem r_truB {K : PySem.W.Frag} {b : Bool} {H : Hp} {Q : Bool → Hp → Prop} (q : Q b H) : rTru K (.bl b) H Q := ⟨b, rfl, q⟩
theorem r_truI {K : PySem.W.Frag} {i : Int} {H : Hp} {Q : Bool → Hp → Prop} (q : Q (i != 0) H) : rTru K (.int i) H Q := ⟨_, rfl, q⟩
theorem iteNT {A B : Prop} (h : B) : if (!true) = true then A else B := h
theorem iteNF {A B : Prop} (h : A) : if (!false) = true then A else B := h
theorem sql_new {K : PySem.W.Frag} {H : Hp} {a p : Addr} {xs : List V} {o : HO} (h : SqL K H a xs) (hp : H p = none) : SqL K (upd H p o) a xs := Same.seq (same_new hp) h
theorem sqt_new {K : PySem.W.Frag} {H : Hp} {a p : Addr} {xs : List V} {o : HO} (h : SqT K H a xs) (hp : H p = none) : SqT K (upd H p o) a xs := SqT_same (same_new hp) h
theorem r_append {l : Addr} {xs : List V} {y : V} {H : Hp} {Q : VK} (h : H l = some (.lst xs)) (z : xs.length < sizeLine) (q : Q .non (upd H l (.lst (xs ++ [y])))) : rAppend (.ref l) [y] H Q := ⟨l, xs, y, rfl, rfl, h, z, q⟩
theorem ty_list {K : PySem.W.Frag} {H : Hp} {p : Addr} {xs : List V} (h : H p = some (.lst xs)) : tyV K "list" (.ref p) H := .inl ⟨rfl, xs, SqL.of h⟩

def ForW (J : It) (g : TG) (tb : TS) (D : Ends) (σ : St) (H1 : Hp) : Prop := ∃ W : Nat → Nat → St → Hp → Prop, (∃ m, W 0 m σ H1) ∧ ∀ i m σ H, W i m σ H →
  (J.stop i H ∧ D.nx σ H) ∨ (J.go i H ∧ ∃ N : St → Hp → Prop, (∀ σ' H', N σ' H' → ∃ m', m' < m ∧ W (i + 1) m' σ' H') ∧ ∀ x H', J.yld i H x H' → g x σ H' fun σ2 H2 => tb { D with nx := N, ct := N, bk := D.nx } σ2 H2)
theorem r_for {wi : TI} {g : TG} {tb : TS} {D : Ends} {σ : St} {H : Hp} (q : wi σ H fun J H1 => ForW J g tb D σ H1) : tFor wi g tb D σ H := q

def iSeq (K : PySem.W.Frag) (tl : TE) : TI := fun σ H R => tl σ H fun x H1 => ∃ a, x = .ref a ∧ (((∃ xs, SqL K H1 a xs) ∧ R (Itl K a) H1) ∨ ((∃ xs, SqT K H1 a xs) ∧ R (Itt K a) H1))
theorem r_iSeq {K : PySem.W.Frag} {tl : TE} {σ : St} {H : Hp} {R : It → Hp → Prop} (q : tl σ H fun x H1 => ∃ a, x = .ref a ∧ (((∃ xs, SqL K H1 a xs) ∧ R (Itl K a) H1) ∨ ((∃ xs, SqT K H1 a xs) ∧ R (Itt K a) H1))) : iSeq K tl σ H R := q
theorem r_rng1 {ta : TA} {σ : St} {H : Hp} {R : It → Hp → Prop} (q : ta σ H fun vs H1 => ∃ j : Int, vs = [.int j] ∧ -(2 ^ 62) ≤ j ∧ j < 2 ^ 62 ∧ R (Itr 0 j.toNat) H1) : iRng1 ta σ H R := q
theorem r_rng2 {ta : TA} {σ : St} {H : Hp} {R : It → Hp → Prop} (q : ta σ H fun vs H1 => ∃ i j : Int, vs = [.int i, .int j] ∧ (-(2 ^ 62) ≤ i ∧ i < 2 ^ 62 ∧ -(2 ^ 62) ≤ j ∧ j < 2 ^ 62) ∧ R (Itr i (j - i).toNat) H1) : iRng2 ta σ H R := q
theorem pi_seq {X : Cx} {tg l : Expr} {tl : TE} (hl : PE X l tl) : PI X tg l (iSeq X.K tl) := by
  intro pins s σ H R I h
  refine thn (hl pins s σ H _ I h) fun v s1 ⟨x, H1, I1, r1, q1⟩ => ?_
  obtain ⟨a, e, hq⟩ := q1
  subst e
  cases r1
  rcases hq with ⟨⟨xs, hq⟩, q⟩ | ⟨⟨xs, hq⟩, q⟩
  · obtain ⟨its, rv, p, hz⟩ := I1.list hq
    refine wpAny_pyIter_list p.isList ?_
    refine ⟨s1.heap.objs.size, [s1.heap.objs.size], _, _, H1, rfl, I1.kept (t' := s1.toks) fun b o e => Heap.get?_push_of_some _ e, turn_list a _, ⟨_, Heap.get?_push_size _ rfl, rfl, rfl⟩, fun b hb => ?_, q⟩
    have e : b = s1.heap.objs.size := by simpa using hb
    subst e
    exact I1.fpOk (Nat.le_refl _) (I1.hok.fresh (Nat.le_refl _))
  · obtain ⟨its, rv, p, hz⟩ := I1.tuple hq
    refine wpAny_pyIter_tuple (show s1.heap.IsTuple a its.toArray from p) ?_
    refine ⟨s1.heap.objs.size, [s1.heap.objs.size], _, _, H1, rfl, I1.kept (t' := s1.toks) fun b o e => Heap.get?_push_of_some _ e, turn_tuple a _, ⟨_, Heap.get?_push_size _ rfl, rfl, rfl⟩, fun b hb => ?_, q⟩
    have e : b = s1.heap.objs.size := by simpa using hb
    subst e
    exact I1.fpOk (Nat.le_refl _) (I1.hok.fresh (Nat.le_refl _))
section
variable {σ : St} {H : Hp} {Q : VK}
theorem r_var {i : Nat} {v : V} (h : σ[i]? = some (some v)) (q : Q v H) : tVar i σ H Q := ⟨v, h, q⟩
theorem r_c {v : V} (q : Q v H) : tC v σ H Q := q
theorem r_op {r : R2} {ta tb : TE} (q : ta σ H fun x H1 => tb σ H1 fun y H2 => r x y H2 Q) : tOp r ta tb σ H Q := q
theorem r_un {r : V → Hp → VK → Prop} {ta : TE} (q : ta σ H fun x H1 => r x H1 Q) : tUn r ta σ H Q := q
theorem r_U {g : Int → V} {i : Int} (q : Q (g i) H) : rU g (.int i) H Q := ⟨i, rfl, q⟩
theorem r_I0 {g : Int → Int → V} {i j : Int} (q : Q (g i j) H) : rI0 g (.int i) (.int j) H Q := ⟨i, j, rfl, rfl, q⟩
theorem r_I {C : Int → Int → Prop} {g : Int → Int → V} {i j : Int} (h : C i j) (q : Q (g i j) H) : rI C g (.int i) (.int j) H Q := ⟨i, j, rfl, rfl, h, q⟩
theorem r_cb {r : List V → Hp → VK → Prop} {t : TA} (q : t σ H fun vs H1 => r vs H1 Q) : tCB r t σ H Q := q
theorem r_callE {sp : Sp} {E : XK} {t : TA} (q : t σ H fun vs H1 => sp vs H1 Q E) : tCallE sp E t σ H Q := q
theorem r_makeE {C : Addr} {sp : Sp} {E : XK} {t : TA} (q : t σ H fun vs H1 => ∀ x dx, H1 x = none → H1 dx = none → dx ≠ x → sp (.ref x :: vs) (upd (upd H1 dx (.own x)) x (.ins C dx [])) (fun v H2 => v = .non ∧ Q (.ref x) H2) E) : tMakeE C sp E t σ H Q := q
theorem r_methE {P : Program} {w : World} {K : PySem.W.Frag} {mg : Str → Option Value} {base : Heap} {CX : CXT} {k : Nat} {m : Str} {E : XK} {ta : TE} {t : TA} (q : ta σ H fun x H1 => rMeth P w K mg base CX k m E σ t x H1 Q) : tMethE P w K mg base CX k m E ta t σ H Q := q
theorem r_methV {P : Program} {w : World} {K : PySem.W.Frag} {mg : Str → Option Value} {base : Heap} {CX : CXT} {k : Nat} {m : Str} {E : XK} {t : TA} {p C dx : Addr} {fs : List (Str × V)} {sp : Sp} (h : H p = some (.ins C dx fs)) (l : fs.lookup m = none) (M : MethE P w K mg base CX k C m sp)
    (q : t σ H fun vs H2 => sp (.ref p :: vs) H2 Q E) : rMeth P w K mg base CX k m E σ t (.ref p) H Q := ⟨p, C, dx, fs, sp, rfl, h, l, M, q⟩
theorem r_fld {K : PySem.W.Frag} {ta : TE} {f : Str} (q : ta σ H fun x H1 => rFld K f x H1 Q) : tFld K ta f σ H Q := q
theorem r_fldV {K : PySem.W.Frag} {f : Str} {p C dx : Addr} {fs : List (Str × V)} {v : V} (h : H p = some (.ins C dx fs)) (c : Cls K C) (n : NoAttr K C f) (l : fs.lookup f = some v) (q : Q v H) : rFld K f (.ref p) H Q := ⟨p, C, dx, fs, v, rfl, h, c, n, l, q⟩
theorem r_tup {t : TA} (q : t σ H fun xs H1 => xs.length ≤ sizeLine ∧ ∀ p, H1 p = none → Q (.ref p) (upd H1 p (.tup xs))) : tTup t σ H Q := q
theorem r_lst {t : TA} (q : t σ H fun xs H1 => xs.length ≤ sizeLine ∧ ∀ p, H1 p = none → Q (.ref p) (upd H1 p (.lst xs))) : tLst t σ H Q := q
theorem r_andV {ta tb : TE} (q : ta σ H fun x H1 => ∃ c, x = .bl c ∧ if c = true then tb σ H1 Q else Q (.bl false) H1) : tAndV ta tb σ H Q := q
theorem r_orV {ta tb : TE} (q : ta σ H fun x H1 => ∃ c, x = .bl c ∧ if c = true then Q (.bl true) H1 else tb σ H1 Q) : tOrV ta tb σ H Q := q
theorem r_if {t : TT} {ta tb : TE} (q : t σ H fun c H1 => if c = true then ta σ H1 Q else tb σ H1 Q) : tIf t ta tb σ H Q := q
theorem r_sl {r : V → Option Int → Option Int → Hp → VK → Prop} {te : TE} {tl th : TO} (q : te σ H fun x H1 => tl σ H1 fun l H2 => th σ H2 fun u H3 => r x l u H3 Q) : tSl r te tl th σ H Q := q
theorem r_bm {K : PySem.W.Frag} {T : String} {r : V → List V → Hp → VK → Prop} {to : TE} {t : TA} (q : to σ H fun x H1 => tyV K T x H1 ∧ t σ H1 fun xs H2 => r x xs H2 Q) : tBM K T r to t σ H Q := q
end
section
variable {σ : St} {H : Hp} {Q : List V → Hp → Prop}
theorem r_nil (q : Q [] H) : tNil σ H Q := q
theorem r_cons {ta : TE} {tr : TA} (q : ta σ H fun x H1 => tr σ H1 fun xs H2 => Q (x :: xs) H2) : tCons ta tr σ H Q := q
end
section
variable {σ : St} {H : Hp} {Q : Option Int → Hp → Prop}
theorem r_noPart (q : Q none H) : tNoPart σ H Q := q
theorem r_part {t : TE} (q : t σ H fun x H1 => ∃ i, x = .int i ∧ Q (some i) H1) : tPart t σ H Q := q
end
section
variable {σ : St} {H : Hp} {Q : Bool → Hp → Prop}
theorem r_test {t : TE} (q : t σ H fun x H' => ∃ k, x = .bl k ∧ Q k H') : tTest t σ H Q := q
theorem r_and {t u : TT} (q : t σ H fun c H1 => if c = true then u σ H1 Q else Q false H1) : tAnd t u σ H Q := q
theorem r_or {t u : TT} (q : t σ H fun c H1 => if c = true then Q true H1 else u σ H1 Q) : tOr t u σ H Q := q
theorem r_not {t : TT} (q : t σ H fun c H1 => Q (!c) H1) : tNot t σ H Q := q
theorem r_true (q : Q true H) : tTrue σ H Q := q
def tTru (K : PySem.W.Frag) (ta : TE) : TT := fun σ H Q => ta σ H fun x H' => rTru K x H' Q
theorem pt_tru {X : Cx} {a : Expr} {ta : TE} (ha : PE X a ta) (he : ∀ whole, isTrue a X.env whole = (do let v ← whole; standAt a.pos; holding [v] (truthy v)) := by intro _; rfl) : PT X a (tTru X.K ta) := pt_truth ha he
theorem r_tru {K : PySem.W.Frag} {ta : TE} (q : ta σ H fun x H' => rTru K x H' Q) : tTru K ta σ H Q := q
end
section
variable {D : Ends} {σ : St} {H : Hp}
theorem r_next (q : D.nx σ H) : tNext D σ H := q
theorem r_seq {t u : TS} (q : t { D with nx := u D } σ H) : tSeq t u D σ H := q
theorem r_ret {te : TE} (q : te σ H D.rt) : tRet te D σ H := q
theorem r_ifS {c : TT} {t u : TS} (q : c σ H fun b H1 => if b = true then t D σ H1 else u D σ H1) : tIfS c t u D σ H := q
theorem r_asg {te : TE} {g : TG} (q : te σ H fun x H1 => g x σ H1 D.nx) : tAsg te g D σ H := q
theorem r_drop {te : TE} (q : te σ H fun _ H1 => D.nx σ H1) : tDrop te D σ H := q
theorem r_sFld {K : PySem.W.Frag} {ta tv : TE} {f : Str} (q : tv σ H fun y H1 => ta σ H1 fun x H2 => sFldV K f y D σ x H2) : sFld K ta tv f D σ H := q
theorem r_sFldV {K : PySem.W.Frag} {f : Str} {y : V} {p C dx : Addr} {fs : List (Str × V)} (h : H p = some (.ins C dx fs)) (c : Cls K C) (n : NoAttr K C f) (l : fs.length < 1000) (q : D.nx σ (upd H p (.ins C dx (putF f y fs)))) : sFldV K f y D σ (.ref p) H := ⟨p, C, dx, fs, rfl, h, c, n, l, q⟩
end
theorem ifDec {c A B : Prop} [Decidable c] (h1 : c → A) (h2 : ¬ c → B) : if decide c = true then A else B := by
  by_cases h : c
  · rw [if_pos (decide_eq_true h)]; exact h1 h
  · rw [if_neg (by rw [decide_eq_false h]; exact Bool.false_ne_true)]; exact h2 h
theorem ifDecN {c A B : Prop} [Decidable c] (h1 : ¬ c → A) (h2 : c → B) : if (!decide c) = true then A else B := by
  by_cases h : c
  · rw [if_neg (by rw [decide_eq_true h]; decide)]; exact h2 h
  · rw [if_pos (by rw [decide_eq_false h]; rfl)]; exact h1 h
theorem ifInt {a b : Int} {A B : Prop} (h1 : a = b → A) (h2 : a ≠ b → B) : if decide (V.int a = V.int b) = true then A else B :=
  ifDec (fun e => h1 (by cases e; rfl)) fun e => h2 fun z => e (by rw [z])
theorem ifIntN {a b : Int} {A B : Prop} (h1 : a ≠ b → A) (h2 : a = b → B) : if (!decide (V.int a = V.int b)) = true then A else B :=
  ifDecN (fun e => h1 fun z => e (by rw [z])) fun e => h2 (by cases e; rfl)
end L3
namespace L3
open PySem PySem.Spec PyProof.Rows L2
section
variable {P : Program} {w : World} {K : PySem.W.Frag} {mg : Str → Option Value} {base : Heap} {x qual : Str} {st : Stmt} {N ps : List Str} {sp : Sp} {C : Addr}

def BodyOk (P : Program) (w : World) (K : PySem.W.Frag) (mg : Str → Option Value) (base : Heap) (k : Nat) (qual : Str) (st : Stmt) (N : List Str) (sp : Sp) : Prop :=
  ∀ (f : Addr) (cdv : Value) (A : Around) (outer : List Env) (s : Shared) (H : Hp) (vs : List V) (Q : VK) (E : XK), Room k (A.deeper (envOfC qual (defScope st) s.heap.objs.size f cdv)) → sp vs H Q E →
    ∃ t, PSs (cxOf CX0 P w K mg base N qual (defScope st) f cdv A outer s H E).nox (defBody st) t ∧ t { nx := fun _ H' => Q .non H', rt := Q } (start N vs) H
theorem fnE_of (k : Nat) (h : ∃ f fd, Fun K x qual st f fd ∧ mg x = some (.ref f) ∧ Binds K fd ps []) (S : FnScope N ps (defScope st)) (len : ∀ vs H Q E, sp vs H Q E → vs.length = ps.length)
    (hbody : BodyOk P w K mg base k qual st N sp) : FnE P w K mg base CX0 (k + 1) x sp := by
  obtain ⟨f, fd, F, hm, hb⟩ := h
  exact ⟨f, fd, ps, F.ok S len (hbody f), hm, F.kp, hb⟩
theorem methE_of (k : Nat) (c : Cls K C) (h : ∃ f fd, Fun K x qual st f fd ∧ Meth K C x f ∧ Binds K fd ps []) (S : FnScope N ps (defScope st)) (len : ∀ vs H Q E, sp vs H Q E → vs.length = ps.length)
    (hbody : BodyOk P w K mg base k qual st N sp) : MethE P w K mg base CX0 (k + 1) C x sp := by
  obtain ⟨f, fd, F, hm, hb⟩ := h
  exact ⟨c, f, fd, ps, hm, F.ok S len (hbody f), hb⟩
theorem mkE_of {y : Str} (k : Nat) (hy : mg y = some (.ref C)) (h : ∃ f fd, Fun K "__init__" qual st f fd ∧ Mk K C f ∧ Binds K fd ps []) (S : FnScope N ps (defScope st)) (len : ∀ vs H Q E, sp vs H Q E → vs.length = ps.length)
    (hbody : BodyOk P w K mg base k qual st N sp) : MkE P w K mg base CX0 (k + 1) y C sp := by
  obtain ⟨f, fd, F, hm, hb⟩ := h
  exact ⟨f, fd, ps, hm, F.ok S len (hbody f), hy, hb⟩
end
end L3

namespace L3
open PySem PySem.Spec PyProof.Rows L2 PySem.SeqAt

section
variable {X : Cx} {K : PySem.W.Frag}
theorem op_plusK (h : X.K = K) : OpR X (binaryOp .Add) (rPlus K) := by subst h; exact op_plus
theorem op_eqK (h : X.K = K) (hu : X.A.units + 64 < cLine) : OpR X (compareOp .Eq) (rEqA K) := by subst h; exact op_eqA hu
theorem op_neK (h : X.K = K) (hu : X.A.units + 64 < cLine) : OpR X (compareOp .NotEq) (rNeA K) := by subst h; exact op_neA hu
theorem op_notInK (h : X.K = K) : OpR X (compareOp .NotIn) (rIn K true) := by subst h; exact op_notIn_seq
theorem ix_K (h : X.K = K) : IxR X (rIxA K) := by subst h; exact ix_any
theorem sl_K (h : X.K = K) : SlR X (rSlA K) := by subst h; exact sl_any
theorem pi_seqK {tg l : Expr} {tl : TE} (h : X.K = K) (hl : PE X l tl) : PI X tg l (iSeq K tl) := by subst h; exact pi_seq hl
theorem call_lenK (h : X.K = K) : CallR X (.builtin "len") (rLen K) := by subst h; exact call_lenA
theorem call_listK (h : X.K = K) : CallR X (.type "list") (rLst K) := by subst h; exact call_listA
theorem call_isiK (h : X.K = K) : CallR X (.builtin "isinstance") (rIsi K) := by subst h; exact call_isi
theorem pe_fldK {e : Expr} {f : Str} {pos : Pos} {ta : TE} (h : X.K = K) (he : PE X e ta) (hb : attributeBase e f X.env (eval e X.env) = eval e X.env := by rfl) : PE X (.Attribute e f pos) (tFld K ta f) := by subst h; exact pe_fld he hb
theorem ps_fldK {o value : Expr} {f : Str} {pos pos' : Pos} {ta tv : TE} (h : X.K = K) (ha : PE X o ta) (hv : PE X value tv) (hs : swapsWith value (some (.Attribute o f pos')) pos.line X.env = pure false := by rfl) :
    PS X (.Assign [.Attribute o f pos'] value pos) (sFld K ta tv f) := by subst h; exact ps_fld ha hv hs
theorem pt_truK {a : Expr} {ta : TE} (h : X.K = K) (ha : PE X a ta) (he : ∀ whole, isTrue a X.env whole = (do let v ← whole; standAt a.pos; holding [v] (truthy v)) := by intro _; rfl) : PT X a (tTru K ta) := by subst h; exact pt_tru ha he
theorem pg_tupK {es : List Expr} {k : Nat} {t : TGs} {n : Nat} {pos : Pos} (hK : X.K = K) (hc : X.calm = true) (h : PGs X es t)
    (hn : (assignEach es X.env).length = n := by rfl) (hst : (assignEach es X.env).findIdx? (·.1) = none := by rfl) : PG X (.Tuple es k pos) (gTup K n t) := by subst hK; exact pg_tup hc h hn hst
theorem pe_bmK {o e : Expr} {es : List Expr} {to : TE} {t : TA} {name : Str} {apos cpos : Pos} {T id : String} {r : V → List V → Hp → VK → Prop} (h : X.K = K) (pa : PlainAttrs T) (slot : Slot T name id) (hty : typeOf (.builtin id) = pure (.type "method_descriptor")) (hm : MtR X id r) (ho : PE X o to) (ha : PA X (e :: es) t)
    (hbase : attributeBase o name X.env (eval o X.env) = eval o X.env := by rfl)
    (hfew : ((backTo cpos (starEach (e :: es) X.env)).all (fun x => !x.1) && (backToKw cpos (keywordEach [] X.env)).all (fun x => x.1.isSome)
      && decide ((e :: es).length + ([] : List Keyword).length + (if ([] : List Keyword).isEmpty then 0 else 1) < 30)) = true := by rfl)
    (hline : (apos.endLine == cpos.line) = true := by rfl) (hs : starEach (e :: es) X.env = (false, eval e X.env) :: starEach es X.env := by rfl) (hplain : (backTo cpos (starEach es X.env)).any (·.1) = false := by rfl) :
    PE X (.Call (.Attribute o name apos) (e :: es) [] cpos) (tBM K T r to t) := by subst h; exact pe_bm pa slot hty hm ho ha hbase hfew hline hs hplain
end
section
variable {X : Cx} {P : Program} {w : World} {K : PySem.W.Frag} {mg : Str → Option Value} {base : Heap} {CX : CXT} {k : Nat} {E : XK} {m : Str} {pos apos : Pos} {e o : Expr} {es : List Expr} {ta : TE} {t : TA}
theorem pe_methK {pl : Sem Bool} (hP : X.prog = P ∧ X.w = w ∧ X.K = K ∧ X.mg = mg ∧ X.base = base) (he : PE X o ta) (hr : Room k X.A) (hx : Passes CX X E) (ha : PA X (e :: es) t)
    (hst : starEach (e :: es) X.env = (false, eval e X.env) :: starEach es X.env := by rfl) (hpl : (backTo pos (starEach es X.env)).any (·.1) = false := by rfl)
    (ht : eval (.Call (.Attribute o m apos) (e :: es) [] pos) X.env = (do
      let ov ← eval o X.env
      standAt apos.atName
      let (f, first) ← holding [ov] (getMethod ov m pl)
      callWith pos f first (backTo pos (starEach (e :: es) X.env)) (backToKw pos (keywordEach [] X.env))) := by rfl) :
    PE X (.Call (.Attribute o m apos) (e :: es) [] pos) (tMethE P w K mg base CX k m E ta t) := by
  obtain ⟨rfl, rfl, rfl, rfl, rfl⟩ := hP
  exact pe_methE (pl := pl) he hr hx ha hst hpl ht
theorem pe_methK0 {pl : Sem Bool} (hP : X.prog = P ∧ X.w = w ∧ X.K = K ∧ X.mg = mg ∧ X.base = base) (he : PE X o ta) (hr : Room k X.A) (hx : Passes CX X E)
    (ht : eval (.Call (.Attribute o m apos) [] [] pos) X.env = (do
      let ov ← eval o X.env
      standAt apos.atName
      let (f, first) ← holding [ov] (getMethod ov m pl)
      callWith pos f first (backTo pos (starEach [] X.env)) (backToKw pos (keywordEach [] X.env))) := by rfl) :
    PE X (.Call (.Attribute o m apos) [] [] pos) (tMethE P w K mg base CX k m E ta tNil) := by
  obtain ⟨rfl, rfl, rfl, rfl, rfl⟩ := hP
  exact pe_methE0 (pl := pl) he hr hx ht
end
end L3
namespace L3
open PySem PySem.Spec PyProof.Rows L2 PySem.SeqAt

theorem r_alloc {H : Hp} {R : Addr → Prop} (q : ∀ p, H p = none → R p) : ∀ p, H p = none → R p := q
theorem r_small {n : Nat} {R : Prop} (h : n ≤ sizeLine) (q : R) : n ≤ sizeLine ∧ R := ⟨h, q⟩
theorem none_same {H H' : Hp} {q : Addr} (s : Same H H') (h : H' q = none) : H q = none := by
  cases e : H q with
  | none => rfl
  | some u => rw [s _ _ e] at h; cases h
theorem same_none {H H1 : Hp} {p : Addr} {o : HO} (s : Same H H1) (h : H1 p = none) : Same H (upd H1 p o) := s.trans (same_new h)

def CInv {α : Type} (xs : List α) (f : α → V) (Sg : St → Prop) (H : Hp) (i : Nat) (ys : List V) (σ : St) (H1 : Hp) : Prop := Same H H1 ∧ Sg σ ∧ ys = (xs.take i).map f
theorem CInv.next {α : Type} {xs : List α} {f : α → V} {Sg : St → Prop} {H H1 H5 : Hp} {i : Nat} {ys : List V} {σ σ3 : St} {x : α} {y : V} (c : CInv xs f Sg H i ys σ H1) (hx : xs[i]? = some x) (e : y = f x) (s : Same H H5) (sg : Sg σ3) : CInv xs f Sg H (i + 1) (ys ++ [y]) σ3 H5 := by
  obtain ⟨_, _, rfl⟩ := c
  refine ⟨s, sg, ?_⟩
  subst e
  rw [List.take_add_one, hx, Option.toList_some, List.map_append]; rfl
theorem range_get {n i : Nat} (h : i < n) : (List.range n)[i]? = some i := by rw [List.getElem?_range h]

theorem r_62 {j : Int} {R : Prop} (h1 : -(2 ^ 62) ≤ j) (h2 : j < 2 ^ 62) (q : R) : -(2 ^ 62) ≤ j ∧ j < 2 ^ 62 ∧ R := ⟨h1, h2, q⟩
theorem r_itL {K : PySem.W.Frag} {H : Hp} {a : Addr} {xs : List V} {A B : Prop} (h : SqL K H a xs) (q : A) : ((∃ xs, SqL K H a xs) ∧ A) ∨ ((∃ xs, SqT K H a xs) ∧ B) := .inl ⟨⟨xs, h⟩, q⟩
theorem r_itT {K : PySem.W.Frag} {H : Hp} {a : Addr} {xs : List V} {A B : Prop} (h : SqT K H a xs) (q : B) : ((∃ xs, SqL K H a xs) ∧ A) ∨ ((∃ xs, SqT K H a xs) ∧ B) := .inr ⟨⟨xs, h⟩, q⟩
theorem r_tyL {K : PySem.W.Frag} {H : Hp} {p : Addr} {xs : List V} {R : Prop} (h : H p = some (.lst xs)) (q : R) : tyV K "list" (.ref p) H ∧ R := ⟨ty_list h, q⟩
theorem dp_none {K : PySem.W.Frag} {H : Hp} : Dp K H .none .non := by rw [Dp]
theorem r_gN {i : Nat} {v : V} {σ σ' : St} {H : Hp} {Q : St → Hp → Prop} (h : σ.set i (some v) = σ') (q : Q σ' H) : gName i v σ H Q := by subst h; exact q
theorem r_st {N : List Str} {vs : List V} {σ' : St} {t : TS} {D : Ends} {H : Hp} (h : start N vs = σ') (q : t D σ' H) : t D (start N vs) H := by subst h; exact q
theorem r_compS' {i : Nat} {own : List Str} {fr : List (Str × Nat)} {wi : TI} {g : TG} {tc : TT} {te : TE} {D : Ends} {σ σi : St} {H : Hp} (h : innerS own fr σ = σi) (q : wi σ H fun J H1 => CompW J g tc te (fun ys H3 => ∀ p, H3 p = none → gName i (.ref p) σ (upd H3 p (.lst ys)) D.nx) σi H1) : tCompS i own fr wi g tc te D σ H := by subst h; exact q
theorem r_compE' {own : List Str} {fr : List (Str × Nat)} {wi : TI} {g : TG} {tc : TT} {te : TE} {σ σi : St} {H : Hp} {Q : VK} (h : innerS own fr σ = σi) (q : wi σ H fun J H1 => CompW J g tc te (fun ys H3 => ∀ p, H3 p = none → Q (.ref p) (upd H3 p (.lst ys))) σi H1) : tCompE own fr wi g tc te σ H Q := by subst h; exact q
def rIsN : R2 := fun x y H Q => y = .non ∧ Q (.bl (decide (x = .non))) H
def rNotN : R2 := fun x y H Q => y = .non ∧ Q (.bl (!decide (x = .non))) H
theorem op_isNA {X : Cx} : OpR X (compareOp .Is) rIsN := op_isN
theorem op_notNA {X : Cx} : OpR X (compareOp .IsNot) rNotN := op_notN
theorem r_isNr {p : Addr} {H : Hp} {Q : VK} (q : Q (.bl false) H) : rIsN (.ref p) .non H Q := ⟨rfl, q⟩
theorem r_isNn {H : Hp} {Q : VK} (q : Q (.bl true) H) : rIsN .non .non H Q := ⟨rfl, q⟩
theorem r_isNi {i : Int} {H : Hp} {Q : VK} (q : Q (.bl false) H) : rIsN (.int i) .non H Q := ⟨rfl, q⟩
theorem r_notNr {p : Addr} {H : Hp} {Q : VK} (q : Q (.bl true) H) : rNotN (.ref p) .non H Q := ⟨rfl, q⟩
theorem r_notNn {H : Hp} {Q : VK} (q : Q (.bl false) H) : rNotN .non .non H Q := ⟨rfl, q⟩
theorem r_notNi {i : Int} {H : Hp} {Q : VK} (q : Q (.bl true) H) : rNotN (.int i) .non H Q := ⟨rfl, q⟩
def CShl (i j : Int) : Prop := 0 ≤ j ∧ j ≤ 1000000 ∧ ∃ k : Nat, k ≤ 1000000 ∧ i.natAbs < 2 ^ k
theorem op_shlB {X : Cx} : OpR X (binaryOp .LShift) (rI CShl fun i j => .int (i * 2 ^ j.toNat)) := opI fun i j _ _ _ _ _ hc q => by
  obtain ⟨h0, h1, k, hk, hb⟩ := hc
  have := PySem.intBits_le_iff.mpr hb
  exact lshift_int h0 (by have e : (2 : Int) ^ 27 = 134217728 := rfl; rw [e]; omega) q
theorem shl_one {j : Int} (h0 : 0 ≤ j) (h1 : j ≤ 1000000) : CShl 1 j := ⟨h0, h1, 1, by decide, by decide⟩
theorem one_shl (j : Nat) : (1 : Int) * 2 ^ j = ((2 ^ j : Nat) : Int) := by rw [Int.one_mul]; exact (Int.natCast_pow 2 j).symm
theorem bitAnd_nat (s t : Nat) : Builtin.bitAnd (s : Int) (t : Int) = ((s &&& t : Nat) : Int) := by
  unfold Builtin.bitAnd
  rw [decide_eq_true (Int.natCast_nonneg s), decide_eq_true (Int.natCast_nonneg t)]
  show ((((s : Int).toNat &&& (t : Int).toNat : Nat)) : Int) = _
  rw [Int.toNat_natCast, Int.toNat_natCast]
theorem bitAnd_wo (s t : Nat) : Builtin.bitAnd (s : Int) (Builtin.bitNot (t : Int)) = ((Bt.wo s t : Nat) : Int) := by
  have hn : ¬ (0 : Int) ≤ Builtin.bitNot (t : Int) := by unfold Builtin.bitNot; omega
  have e : (Builtin.bitNot (Builtin.bitNot (t : Int))).toNat = t := by unfold Builtin.bitNot; omega
  unfold Builtin.bitAnd
  rw [decide_eq_true (Int.natCast_nonneg s), decide_eq_false hn]
  show (s : Int) - (((s : Int).toNat &&& (Builtin.bitNot (Builtin.bitNot (t : Int))).toNat : Nat) : Int) = _
  rw [Int.toNat_natCast, e]
  have : (s &&& t) ≤ s := Nat.and_le_left
  unfold Bt.wo; omega
theorem bitOr_nat (s t : Nat) : Builtin.bitOr (s : Int) (t : Int) = ((s ||| t : Nat) : Int) := by
  have hs : ¬ (0 : Int) ≤ Builtin.bitNot (s : Int) := by unfold Builtin.bitNot; omega
  have ht : ¬ (0 : Int) ≤ Builtin.bitNot (t : Int) := by unfold Builtin.bitNot; omega
  have es : (Builtin.bitNot (Builtin.bitNot (s : Int))).toNat = s := by unfold Builtin.bitNot; omega
  have et : (Builtin.bitNot (Builtin.bitNot (t : Int))).toNat = t := by unfold Builtin.bitNot; omega
  unfold Builtin.bitOr Builtin.bitAnd
  rw [decide_eq_false hs, decide_eq_false ht]
  show Builtin.bitNot (Builtin.bitNot (((Builtin.bitNot (Builtin.bitNot (s : Int))).toNat ||| (Builtin.bitNot (Builtin.bitNot (t : Int))).toNat : Nat) : Int)) = _
  rw [es, et]
  unfold Builtin.bitNot; omega

def FInv {α : Type} (xs : List α) (f : α → V) (pr : α → Bool) (Sg : St → Prop) (H : Hp) (i : Nat) (ys : List V) (σ : St) (H1 : Hp) : Prop := Same H H1 ∧ Sg σ ∧ ys = ((xs.take i).filter pr).map f
theorem FInv.yes {α : Type} {xs : List α} {f : α → V} {pr : α → Bool} {Sg : St → Prop} {H H1 H5 : Hp} {i : Nat} {ys : List V} {σ σ3 : St} {x : α} {y : V} (c : FInv xs f pr Sg H i ys σ H1) (hx : xs[i]? = some x) (hp : pr x = true) (e : y = f x) (s : Same H H5) (sg : Sg σ3) : FInv xs f pr Sg H (i + 1) (ys ++ [y]) σ3 H5 := by
  obtain ⟨_, _, rfl⟩ := c
  refine ⟨s, sg, ?_⟩
  subst e
  rw [List.take_add_one, hx, Option.toList_some, List.filter_append, List.map_append, List.filter_cons, if_pos hp]; rfl
theorem FInv.no {α : Type} {xs : List α} {f : α → V} {pr : α → Bool} {Sg : St → Prop} {H H1 H5 : Hp} {i : Nat} {ys : List V} {σ σ3 : St} {x : α} (c : FInv xs f pr Sg H i ys σ H1) (hx : xs[i]? = some x) (hp : pr x = false) (s : Same H H5) (sg : Sg σ3) : FInv xs f pr Sg H (i + 1) ys σ3 H5 := by
  obtain ⟨_, _, rfl⟩ := c
  refine ⟨s, sg, ?_⟩
  rw [List.take_add_one, hx, Option.toList_some, List.filter_append, List.map_append, List.filter_cons, if_neg (by rw [hp]; decide)]
  simp
theorem comp_filL {K : PySem.W.Frag} {a : Addr} {α : Type} {xs : List α} {emb : α → V} {g : TG} {tc : TT} {te : TE} {fin : List V → Hp → Prop} {σ0 : St} {H : Hp} (f : α → V) (pr : α → Bool) (Sg : St → Prop) (hl : SqL K H a (xs.map emb)) (hz : xs.length ≤ sizeLine) (h0 : Sg σ0)
    (hs : ∀ (i : Nat) (x : α) (ys : List V) (σ : St) (H1 : Hp), xs[i]? = some x → FInv xs f pr Sg H i ys σ H1 → Same H H1 → Sg σ →
      g (emb x) σ H1 fun σ3 H3 => tc σ3 H3 fun b H4 => if b = true then te σ3 H4 fun y H5 => FInv xs f pr Sg H (i + 1) (ys ++ [y]) σ3 H5 else FInv xs f pr Sg H (i + 1) ys σ3 H4)
    (hd : ∀ H1, Same H H1 → fin ((xs.filter pr).map f) H1) : CompW (Itl K a) g tc te fin σ0 H := by
  refine comp_list (xs := xs.map emb) (FInv xs f pr Sg H) ⟨Same.refl _, h0, rfl⟩ ?_ ?_ ?_
  · rintro i ys σ H1 hi ⟨s, _, rfl⟩
    refine ⟨s.seq hl, ?_⟩
    have h1 := List.length_filter_le pr (xs.take i)
    have h2 : (xs.take i).length ≤ xs.length := by rw [List.length_take]; omega
    rw [List.length_map]; omega
  · intro i x ys σ H1 hx c
    rw [List.getElem?_map] at hx
    obtain ⟨z, hz, rfl⟩ := Option.map_eq_some_iff.mp hx
    exact hs i z ys σ H1 hz c c.1 c.2.1
  · rintro ys σ H1 ⟨s, _, rfl⟩
    rw [List.length_map, List.take_length]
    exact hd H1 s
end L3
namespace L3
open PySem PySem.Spec PyProof.Rows L2 PySem.SeqAt

def rDict : List V → Hp → VK → Prop := fun xs H Q => ∃ a kvs, xs = [.ref a] ∧ Rd H a (.dK kvs) ∧ ∀ p, H p = none → Q (.ref p) (upd H p (.dK kvs))
theorem call_dict1 {X : Cx} : CallR X (.type "dict") rDict := by
  intro pins s σ H xs us Q I r h
  obtain ⟨a, kvs, rfl, e, q⟩ := h
  obtain ⟨u, rfl, rx⟩ := vals1 r
  cases rx
  exact d_copyOf I e fun p s' hp I' => ⟨.ref p, _, I', rfl, q p hp⟩
theorem r_dict {a : Addr} {kvs : List (Key × V)} {H : Hp} {Q : VK} (h : H a = some (.dK kvs)) (q : ∀ p, H p = none → Q (.ref p) (upd H p (.dK kvs))) : rDict [.ref a] H Q := ⟨a, kvs, rfl, .inl h, q⟩
theorem r_dnew {σ : St} {H : Hp} {Q : VK} (q : ∀ p, H p = none → Q (.ref p) (upd H p (.dK []))) : tDNewK σ H Q := q
theorem r_dPut {td ty tv : TE} {D : Ends} {σ : St} {H : Hp} (q : tv σ H fun v H1 => td σ H1 fun x H2 => ty σ H2 fun y H3 => ∃ a H4, x = .ref a ∧ DPut H3 a y v H4 ∧ D.nx σ H4) : sDPut td ty tv D σ H := q
theorem r_dputI {p : Addr} {kvs : List (Key × V)} {k : Int} {v : V} {H : Hp} {R : Hp → Prop} (h : H p = some (.dK kvs)) (hl : kvs.length < sizeLine) (q : R (upd H p (.dK (putK kvs (.inl k) v)))) : ∃ a H4, V.ref p = .ref a ∧ DPut H a (.int k) v H4 ∧ R H4 :=
  ⟨p, _, rfl, DPut.k (k := .inl k) h hl, q⟩
theorem r_dGet {td ty : TE} {σ : St} {H : Hp} {Q : VK} (q : td σ H fun x H1 => ty σ H1 fun y H2 => ∃ a v, x = .ref a ∧ DGet H2 a y (some v) ∧ Q v H2) : tDGet td ty σ H Q := q
theorem r_dgetI {p : Addr} {kvs : List (Key × V)} {k : Int} {v : V} {H : Hp} {Q : VK} (h : H p = some (.dK kvs)) (e : valV kvs (.inl k) = some v) (q : Q v H) : ∃ a v, V.ref p = .ref a ∧ DGet H a (.int k) (some v) ∧ Q v H :=
  ⟨p, v, rfl, e ▸ DGet.k (k := .inl k) h, q⟩
structure FunD (K : PySem.W.Frag) (x qual : Str) (st : Stmt) (f : Addr) (fd : FuncData) : Prop where
  ex : ∃ (oc : Value) (od : Option Addr) (da : Addr) (kV doc pm : Value) (an : Option Addr) (cdv ct : Value) (osl : Array (Option Value)) (o : Obj) (n : Nat),
    fd = PySem.W.fnOf x qual (defArgs st) (defBody st) (defScope st) (.ref da) kV doc pm an cdv ct ∧ K.lookup f = some ⟨oc, od, .func fd, osl⟩ ∧ PySem.W.codeIn K cdv qual = true ∧ K.lookup da = some o ∧ o.data = .seq #[.none] n
  kp : PySem.W.keepIn K (.ref f) = true
theorem funD_mk {K : PySem.W.Frag} {x qual : Str} {st : Stmt} {f da : Addr} {o : Obj} {oc : Value} {od an : Option Addr} {osl : Array (Option Value)} {kV doc pm cdv ct : Value} (l : K.lookup f = some ⟨oc, od, .func (PySem.W.fnOf x qual (defArgs st) (defBody st) (defScope st) (.ref da) kV doc pm an cdv ct), osl⟩)
    (d : K.lookup da = some o ∧ ∃ n, o.data = .seq #[.none] n) (c : PySem.W.codeIn K cdv qual = true) (k : PySem.W.keepIn K (.ref f) = true) : FunD K x qual st f (PySem.W.fnOf x qual (defArgs st) (defBody st) (defScope st) (.ref da) kV doc pm an cdv ct) :=
  let ⟨n, e⟩ := d.2; ⟨⟨oc, od, da, kV, doc, pm, an, cdv, ct, osl, o, n, rfl, l, c, d.1, e⟩, k⟩
section
variable {P : Program} {w : World} {K : PySem.W.Frag} {mg : Str → Option Value} {base : Heap}
theorem FunD.ok {x qual : Str} {st : Stmt} {f : Addr} {fd : FuncData} {N ps : List Str} {k : Nat} {sp : Sp} (F : FunD K x qual st f fd) (S : FnScope N ps (defScope st)) (len : ∀ vs H Q E, sp vs H Q E → vs.length = ps.length)
    (hbody : ∀ (cdv : Value) (A : Around) (outer : List Env) (s : Shared) (H : Hp) (vs : List V) (Q : VK) (E : XK), Room k (A.deeper (envOfC qual (defScope st) s.heap.objs.size f cdv)) → sp vs H Q E →
      ∃ t, PSs (cxOf CX0 P w K mg base N qual (defScope st) f cdv A outer s H E).nox (defBody st) t ∧ t { nx := fun _ H' => Q .non H', rt := Q } (start N vs) H) : FnOk P w K mg base CX0 (k + 1) f fd ps sp := by
  obtain ⟨oc, od, da, kV, doc, pm, an, cdv, ct, osl, o, n, rfl, lk, hcd, _, _⟩ := F.ex
  refine fn_of lk hcd S len fun A outer s H vs Q E hr hsp => ?_
  obtain ⟨t, h, q⟩ := hbody cdv A outer s H vs Q E hr hsp
  exact ⟨t, h.nox, q⟩
theorem FunD.bindsD {x qual : Str} {st : Stmt} {f : Addr} {fd : FuncData} {ps : List Str} (F : FunD K x qual st f fd)
    (h : ∀ (da : Addr) (kV doc pm : Value) (an : Option Addr) (cdv ct : Value) (us : List Value), us.length + 1 = ps.length → ∃ k : Option (Array Value) → Sem (List (Str × Value)), bindArgs (PySem.W.fnOf x qual (defArgs st) (defBody st) (defScope st) (.ref da) kV doc pm an cdv ct) ⟨us, []⟩ = seqItems? (.ref da) >>= k ∧ k (some #[.none]) = pure (ps.zip (us ++ [.none]))) : Binds K fd ps [.none] := by
  obtain ⟨oc, od, da, kV, doc, pm, an, cdv, ct, osl, o, n, rfl, lk, hcd, ld, ed⟩ := F.ex
  intro s us KX hl
  obtain ⟨k, h1, h2⟩ := h da kV doc pm an cdv ct us (by rw [List.length_append] at hl; exact hl)
  exact .of_defaults rfl (KX _ _ ld) ed h1 h2
end
structure MkD (P : Program) (w : World) (K : PySem.W.Frag) (mg : Str → Option Value) (base : Heap) (CX : CXT) (k : Nat) (x : Str) (C : Addr) (sp : Sp) : Prop where
  ex : ∃ (f : Addr) (fd : FuncData) (ps : List Str), Mk K C f ∧ FnOk P w K mg base CX k f fd ps sp ∧ mg x = some (.ref C) ∧ Binds K fd ps [.none]
section
variable {X : Cx} {CX : CXT} {k : Nat} {C : Addr} {sp : Sp} {E : XK} {x m : Str} {p pos apos : Pos} {e o : Expr} {es : List Expr} {ta : TE} {t : TA}
end
section
variable {P : Program} {w : World} {K : PySem.W.Frag} {mg : Str → Option Value} {base : Heap} {x qual : Str} {st : Stmt} {N ps : List Str} {sp : Sp} {C : Addr}
theorem mkE_ofD {y : Str} (k : Nat) (hy : mg y = some (.ref C)) (h : ∃ f fd, FunD K "__init__" qual st f fd ∧ Mk K C f ∧ Binds K fd ps [] ∧ Binds K fd ps [.none]) (S : FnScope N ps (defScope st)) (len : ∀ vs H Q E, sp vs H Q E → vs.length = ps.length)
    (hbody : BodyOk P w K mg base k qual st N sp) : MkE P w K mg base CX0 (k + 1) y C sp ∧ MkD P w K mg base CX0 (k + 1) y C sp := by
  obtain ⟨f, fd, F, hm, hb, hb2⟩ := h
  exact ⟨⟨f, fd, ps, hm, F.ok S len (hbody f), hy, hb⟩, ⟨f, fd, ps, hm, F.ok S len (hbody f), hy, hb2⟩⟩
end

theorem r_inL {K : PySem.W.Frag} {neg : Bool} {x : V} {p : Addr} {xs : List V} {H : Hp} {Q : VK} (h : SqL K H p xs) (hx : flatV x = true) (hs : xs.all flatV = true) (q : Q (.bl (if neg then !inV x xs else inV x xs)) H) : rIn K neg x (.ref p) H Q := ⟨p, xs, rfl, .inl h, hx, hs, q⟩
theorem comp_filR {g : TG} {tc : TT} {te : TE} {fin : List V → Hp → Prop} {σ0 : St} {H : Hp} {lo : Int} {n : Nat} (f : Nat → V) (pr : Nat → Bool) (Sg : St → Prop) (hz : n ≤ sizeLine) (h0 : Sg σ0)
    (hs : ∀ (i : Nat) (ys : List V) (σ : St) (H1 : Hp), i < n → FInv (List.range n) f pr Sg H i ys σ H1 → Same H H1 → Sg σ →
      g (.int (lo + i)) σ H1 fun σ3 H3 => tc σ3 H3 fun b H4 => if b = true then te σ3 H4 fun y H5 => FInv (List.range n) f pr Sg H (i + 1) (ys ++ [y]) σ3 H5 else FInv (List.range n) f pr Sg H (i + 1) ys σ3 H4)
    (hd : ∀ H1, Same H H1 → fin (((List.range n).filter pr).map f) H1) : CompW (Itr lo n) g tc te fin σ0 H := by
  refine comp_range (FInv (List.range n) f pr Sg H) ⟨Same.refl _, h0, rfl⟩ ?_ ?_ ?_
  · rintro i ys σ H1 hi ⟨s, _, rfl⟩
    have h1 := List.length_filter_le pr ((List.range n).take i)
    rw [List.length_take, List.length_range] at h1
    rw [List.length_map]; omega
  · intro i ys σ H1 hi c
    exact hs i ys σ H1 hi c c.1 c.2.1
  · rintro ys σ H1 ⟨s, _, rfl⟩
    rw [List.take_of_length_le (by rw [List.length_range]; exact Nat.le_refl _)]
    exact hd H1 s
section
variable {K : PySem.W.Frag} {a : Addr} {xs : List V} {g : TG} {tc : TT} {te : TE} {fin : List V → Hp → Prop} {H : Hp}
theorem comp_tup {σ0 : St} (Pv : Nat → List V → St → Hp → Prop) (h0 : Pv 0 [] σ0 H) (hl : ∀ i ys σ H, i ≤ xs.length → Pv i ys σ H → SqT K H a xs ∧ ys.length ≤ sizeLine)
    (hs : ∀ i x ys σ H, xs[i]? = some x → Pv i ys σ H → g x σ H fun σ3 H3 => tc σ3 H3 fun b H4 => if b = true then te σ3 H4 fun y H5 => Pv (i + 1) (ys ++ [y]) σ3 H5 else Pv (i + 1) ys σ3 H4)
    (hd : ∀ ys σ H, Pv xs.length ys σ H → fin ys H) : CompW (Itt K a) g tc te fin σ0 H := by
  refine ⟨fun i m ys σ H => m = xs.length - i ∧ i ≤ xs.length ∧ Pv i ys σ H, ⟨xs.length, by simp, Nat.zero_le _, h0⟩, ?_⟩
  rintro i m ys σ H ⟨rfl, hi, p⟩
  obtain ⟨q, hz⟩ := hl i ys σ H hi p
  by_cases hlt : i < xs.length
  · refine .inr ⟨⟨xs, xs[i], q, by simp [hlt]⟩, Pv (i + 1), fun ys2 σ2 H2 p' => ⟨(hl (i + 1) ys2 σ2 H2 hlt p').2, xs.length - (i + 1), by omega, rfl, hlt, p'⟩, fun x H2 y => ?_⟩
    obtain ⟨e, y⟩ := y
    subst e
    exact hs i x ys σ _ (y xs q) p
  · have e : i = xs.length := by omega
    subst e
    exact .inl ⟨⟨xs, q, Nat.le_refl _⟩, hz, hd ys σ H p⟩
theorem comp_mapT {α : Type} {xs : List α} {emb : α → V} {σ0 : St} (f : α → V) (Sg : St → Prop) (hl : SqT K H a (xs.map emb)) (hz : xs.length ≤ sizeLine) (h0 : Sg σ0)
    (hs : ∀ (i : Nat) (x : α) (ys : List V) (σ : St) (H1 : Hp), xs[i]? = some x → CInv xs f Sg H i ys σ H1 → Same H H1 → Sg σ →
      g (emb x) σ H1 fun σ3 H3 => tc σ3 H3 fun b H4 => if b = true then te σ3 H4 fun y H5 => CInv xs f Sg H (i + 1) (ys ++ [y]) σ3 H5 else CInv xs f Sg H (i + 1) ys σ3 H4)
    (hd : ∀ H1, Same H H1 → fin (xs.map f) H1) : CompW (Itt K a) g tc te fin σ0 H := by
  refine comp_tup (xs := xs.map emb) (CInv xs f Sg H) ⟨Same.refl _, h0, rfl⟩ ?_ ?_ ?_
  · rintro i ys σ H1 hi ⟨s, _, rfl⟩
    refine ⟨SqT_same s hl, ?_⟩
    rw [List.length_map, List.length_take]; omega
  · intro i x ys σ H1 hx c
    rw [List.getElem?_map] at hx
    obtain ⟨z, hz, rfl⟩ := Option.map_eq_some_iff.mp hx
    exact hs i z ys σ H1 hz c c.1 c.2.1
  · rintro ys σ H1 ⟨s, _, rfl⟩
    rw [List.length_map, List.take_length]
    exact hd H1 s
end
end L3
namespace L3
open PySem PySem.Spec PyProof.Rows

section
variable {prog : Program} {w : World} {A : Around} {E : Value → Shared → Prop} {s : Shared}

theorem drawT0 {it t : Addr} {i : Nat} {its : Array Value} {Q : Value → Shared → Prop} (hi : s.heap.IsTupleIter it t i) (ht : s.heap.IsTuple t its)
    (q1 : ∀ x, its[i]? = some x → ∀ h', h'.IsTupleIter it t (i + 1) → Heap.SameBut it s.heap h' → Q x { s with heap := h' })
    (q2 : its[i]? = none → A.handled = none ∧ ∀ h' e, Heap.ExtBut it s.heap h' → (∃ o, h'.get? e = some o ∧ o.cls = .type "StopIteration") → E (.ref e) { s with heap := h' }) :
    wpAny (model prog w) A (Builtin.SmallTypes.nextOf (.ref it)) Q E s := by
  obtain ⟨o, ho, hc, hd⟩ := id hi
  obtain ⟨ot, hot, _, nt, hdt⟩ := ht
  unfold Builtin.SmallTypes.nextOf
  refine wpAny_bind (wpAny_callSpecial?_slot (name := Str.ofString "__next__") hi.typeIs F.slot_tuple_iterator_next (wpAny_call_entry F.slot_tuple_iterator_next hi.typeIs F.entry_tuple_iterator_next ?_ (F.args_tuple_iterator_next_1 _)))
  show wpAny _ _ (field (.ref it) 0 >>= _) _ _ _; refine wpAny_bind (wpAny_field ho hd (x := .ref t) rfl ?_)
  show wpAny _ _ (if (Value.ref t == Value.none) = true then _ else _) _ _ _; rw [if_neg (show ¬ (Value.ref t == Value.none) = true from fun z => Bool.false_ne_true z)]
  show wpAny _ _ (field (.ref it) 1 >>= _) _ _ _; refine wpAny_bind (wpAny_field ho hd (x := .int i 0) rfl ?_)
  show wpAny _ _ (seqItems? (.ref t) >>= _) _ _ _; refine wpAny_bind (wpAny_seqItems hot hdt ?_)
  cases hx : its[i]? with
  | some x =>
    simp only [Int.toNat_natCast, hx]; refine wpAny_bind (wpAny_setField ho hd (by simp) (wpAny_pure ⟨x, rfl, wpAny_pure (q1 x hx _ ?_ (Heap.SameBut.update ..))⟩))
    refine ⟨_, Heap.get?_update_self _ ho (Obj.isFreed_of_fields (Obj.data_mapFields hd _)), (Obj.cls_mapFields ..).trans hc, ?_⟩
    rw [Obj.data_mapFields hd]; simp [rawInt]
  | none =>
    obtain ⟨hh, q2⟩ := q2 hx
    simp only [Int.toNat_natCast, hx]; refine wpAny_bind (wpAny_rule (wpAny_bind (wpAny_setField ho hd (by simp) ?_)))
    show wpAny _ _ (newExc (.type "StopIteration") [] >>= _) _ _ _; refine wpAny_bind ?_
    simp only [newExc, newTuple]; refine wpAny_bind (wpAny_newObj_type ?_ (by size_fits))
    refine wpAny_bind (m := firstArgMember _ _) (wpAny_of_eq (a := Value.none) (by first | rfl | (simp only [firstArgMember]; rfl)) (wpAny_newObj_type ?_ (by size_fits)))
    simp only [raiseNew]; refine wpAny_bind (wpAny_handled ?_)
    rw [show A.in1.handled = none from hh]; refine wpAny_bind (wpAny_pure (wpAny_throw ?_))
    exact q2 _ _ (((Heap.SameBut.update ..).extBut.push _).push _) ⟨_, Heap.get?_push_size _ rfl, rfl⟩

theorem zipT {z TI TO i1 i2 t1 t2 : Addr} {k : Nat} {xs ys : Array Value} {a b : Value} {Q : Fin → Shared → Prop} (D : ZipApart z TI TO i1 i2 t1 t2) (hz : IsZip s.heap z TI TO .none) (hTI : IsPair s.heap TI (.ref i1) (.ref i2)) (hTO : IsPair s.heap TO a b)
    (h1 : s.heap.IsTupleIter i1 t1 k) (h2 : s.heap.IsTupleIter i2 t2 k) (ht1 : s.heap.IsTuple t1 xs) (ht2 : s.heap.IsTuple t2 ys)
    (q1 : ∀ x y, xs[k]? = some x → ys[k]? = some y → ∀ h', IsZip h' z TI TO (rawInt s.heap.objs.size) → IsPair h' TO x y → h'.IsTupleIter i1 t1 (k + 1) → h'.IsTupleIter i2 t2 (k + 1) → IsPair h' s.heap.objs.size x y →
      (∀ c o, c ≠ z → c ≠ TO → c ≠ i1 → c ≠ i2 → s.heap.get? c = some o → h'.get? c = some o) → Q (.done (.ret (.ref s.heap.objs.size))) { s with heap := h' })
    (q2 : (xs[k]? = none ∨ ys[k]? = none) → A.handled = none ∧ ∀ h' e, (∀ c o, c ≠ z → c ≠ TO → c ≠ i1 → c ≠ i2 → s.heap.get? c = some o → h'.get? c = some o) → (∃ o, h'.get? e = some o ∧ o.cls = .type "StopIteration") → E (.ref e) { s with heap := h' }) :
    wpAny (model prog w) A (Builtin.«zip.__next__» ⟨[.ref z], []⟩) Q E s := by
  show wpAny _ _ (field (.ref z) 2 >>= _) _ _ _; refine wpAny_bind (wpAny_field hz rfl (x := .bool false) rfl ?_)
  show wpAny _ _ (field (.ref z) 3 >>= _) _ _ _; refine wpAny_bind (wpAny_field hz rfl (x := .ref TI) rfl (wpAny_bind (wpAny_seqItems hTI rfl ?_)))
  show wpAny _ _ (Builtin.SmallTypes.ownedTupleIsFree (.ref z) >>= _) _ _ _; refine wpAny_bind ?_
  unfold Builtin.SmallTypes.ownedTupleIsFree; refine wpAny_bind (wpAny_field hz rfl (x := .none) rfl (wpAny_pure ?_))
  simp only [if_true]; refine wpAny_bind (wpAny_rule (wpAny_bind (wpAny_field hz rfl (x := .ref TO) rfl ?_)))
  refine wpAny_bind (wpAny_setField_rec hz (by simp) fun g1 hz1 s1 => ?_); replace hz1 : IsZip g1 z TI TO .ellipsis := hz1
  refine wpAny_bind ?_; simp only [List.zipIdx_cons, List.zipIdx_nil, List.forIn_cons, List.forIn_nil]
  refine wpAny_bind (wpAny_bind (wpAny_onRaise ?_)); show wpAny _ _ (Builtin.SmallTypes.nextOf (.ref i1) >>= _) _ _ _
  refine wpAny_bind (drawT0 (h1.at fun o e => s1.extBut _ o D.i1z e) (ht1.extBut s1.extBut D.l1z) (fun x hx g2 h12 s2 => wpAny_pure ?_) fun hx => ?_)
  · have hO2 : IsPair g2 TO a b := s2.extBut _ _ D.TOi1 (s1.extBut _ _ D.TOz hTO)
    refine wpAny_bind (wpAny_seqItems hO2 rfl (wpAny_bind (wpAny_updateSeq_pair hO2 fun g3 hO3 s3 => ?_))); replace hO3 : IsPair g3 TO x b := hO3
    refine wpAny_bind (wpAny_letGo (wpAny_pure ?_)); refine wpAny_bind (wpAny_bind (wpAny_onRaise ?_))
    show wpAny _ _ (Builtin.SmallTypes.nextOf (.ref i2) >>= _) _ _ _
    have k3 : ∀ c o, c ≠ z → c ≠ TO → c ≠ i1 → s.heap.get? c = some o → g3.get? c = some o := fun c o c1 c2 c3 e => s3.extBut _ _ c2 (s2.extBut _ _ c3 (s1.extBut _ _ c1 e))
    have hz3 : IsZip g3 z TI TO .ellipsis := s3.extBut _ _ D.TOz.symm (s2.extBut _ _ D.i1z.symm hz1)
    refine wpAny_bind (drawT0 (h2.at fun o e => k3 _ o D.i2z D.TOi2.symm D.i12.symm e) (ht2.at fun o e => k3 _ o D.l2z D.l2TO D.l2i1 e) (fun y hy g4 h24 s4 => wpAny_pure ?_) fun hy => ?_)
    · have hO4 : IsPair g4 TO x b := s4.extBut _ _ D.TOi2 hO3
      refine wpAny_bind (wpAny_seqItems hO4 rfl (wpAny_bind (wpAny_updateSeq_pair hO4 fun g5 hO5 s5 => ?_))); replace hO5 : IsPair g5 TO x y := hO5
      refine wpAny_bind (wpAny_letGo (wpAny_pure (wpAny_pure ?_))); refine wpAny_bind (wpAny_seqItems hO5 rfl (wpAny_bind (wpAny_newTuple ?_)))
      have z5 : g5.objs.size = s.heap.objs.size := by rw [s5.1, s4.1, s3.1, s2.1, s1.1]
      have hz5 : IsZip g5 z TI TO .ellipsis := s5.extBut _ _ D.TOz.symm (s4.extBut _ _ D.i2z.symm hz3)
      have k5 : ∀ c o, c ≠ z → c ≠ TO → c ≠ i1 → c ≠ i2 → s.heap.get? c = some o → g5.get? c = some o := fun c o c1 c2 c3 c4 e => s5.extBut _ _ c2 (s4.extBut _ _ c4 (k3 c o c1 c2 c3 e))
      have h15 : g5.IsTupleIter i1 t1 (k + 1) := h12.at fun o e => s5.extBut _ _ D.TOi1.symm (s4.extBut _ _ D.i12 (s3.extBut _ _ D.TOi1.symm e))
      have h25 : g5.IsTupleIter i2 t2 (k + 1) := h24.at fun o e => s5.extBut _ _ D.TOi2.symm e
      have zlt : z < g5.objs.size := Heap.lt_size hz5
      show wpAny _ _ (Builtin.SmallTypes.ownedTupleHandOut (.ref z) (.ref g5.objs.size) >>= _) _ _ _; refine wpAny_bind ?_
      unfold Builtin.SmallTypes.ownedTupleHandOut
      have hz6 : IsZip (g5.push { cls := .type "tuple", data := .seq #[x, y] }) z TI TO .ellipsis := Heap.get?_push_of_some _ hz5
      refine wpAny_bind (wpAny_setField_rec hz6 (by simp) fun g7 hz7 s7 => ?_); replace hz7 : IsZip g7 z TI TO (rawInt g5.objs.size) := hz7
      refine wpAny_setField_rec hz7 (by simp) fun g8 hz8 s8 => ?_; replace hz8 : IsZip g8 z TI TO (rawInt g5.objs.size) := hz8
      have up : ∀ c o, c ≠ z → g5.get? c = some o → g8.get? c = some o := fun c o c1 e => s8.extBut _ _ c1 (s7.extBut _ _ c1 (Heap.get?_push_of_some _ e))
      have hT8 : IsPair g8 g5.objs.size x y := s8.extBut _ _ (Nat.ne_of_gt zlt) (s7.extBut _ _ (Nat.ne_of_gt zlt) (Heap.get?_push_size _ rfl))
      rw [z5] at hz8 hT8; refine wpAny_pure ?_
      show Q (.done (.ret (.ref g5.objs.size))) _; rw [z5]
      exact q1 x y hx hy g8 hz8 (up _ _ D.TOz hO5) (h15.at fun o e => up _ o D.i1z e) (h25.at fun o e => up _ o D.i2z e) hT8 fun c o c1 c2 c3 c4 e => up c o c1 (k5 c o c1 c2 c3 c4 e)
    · obtain ⟨hh, q2⟩ := q2 (.inr hy)
      refine ⟨hh, fun g4 e s4 he => ?_⟩
      obtain ⟨oe, hoe, hce⟩ := he
      have hz4 : IsZip g4 z TI TO .ellipsis := s4 _ _ D.i2z.symm hz3
      have hez : e ≠ z := fun v => by subst v; rw [hz4] at hoe; cases hoe; simp at hce
      exact wpAny_setField_rec hz4 (by simp) fun g5 _ s5 => q2 g5 e (fun c o c1 c2 c3 c4 v => s5.extBut _ _ c1 (s4 _ _ c4 (k3 c o c1 c2 c3 v))) ⟨oe, s5.extBut _ _ hez hoe, hce⟩
  · obtain ⟨hh, q2⟩ := q2 (.inl hx)
    refine ⟨hh, fun g2 e s2 he => ?_⟩
    obtain ⟨oe, hoe, hce⟩ := he
    have hz2 : IsZip g2 z TI TO .ellipsis := s2 _ _ D.i1z.symm hz1
    have hez : e ≠ z := fun v => by subst v; rw [hz2] at hoe; cases hoe; simp at hce
    exact wpAny_setField_rec hz2 (by simp) fun g3 _ s3 => q2 g3 e (fun c o c1 _ c3 _ v => s3.extBut _ _ c1 (s2 _ _ c3 (s1.extBut _ _ c1 v))) ⟨oe, s3.extBut _ _ hez hoe, hce⟩
end
abbrev itO (t : Addr) : Obj := { cls := .type "tuple_iterator", data := .fields #[.ref t, .int 0 0] }
abbrev prO (a b : Value) : Obj := { cls := .type "tuple", data := .seq #[a, b] }
abbrev zG1 (h : Heap) (t : Addr) : Heap := h.push (itO t)
abbrev zG2 (h : Heap) (t u : Addr) : Heap := (zG1 h t).push (itO u)
abbrev zG3 (h : Heap) (t u : Addr) : Heap := (zG2 h t u).push (prO (.ref h.objs.size) (.ref (zG1 h t).objs.size))
abbrev zG4 (h : Heap) (t u : Addr) : Heap := (zG3 h t u).push (prO .none .none)
abbrev zG5 (h : Heap) (t u : Addr) : Heap := (zG4 h t u).push { cls := .type "zip", data := .fields #[.none, .bool false, .bool false, .ref (zG2 h t u).objs.size, .ref (zG3 h t u).objs.size] }
theorem zipT_new (t u : Addr) (xs ys : Array Value) : Meets (Builtin.«zip.__new__» ⟨[.type "zip", .ref t, .ref u], []⟩) (fun _ R s => s.heap.IsTuple t xs ∧ s.heap.IsTuple u ys ∧ R (.ok (.ret (.ref (zG4 s.heap t u).objs.size))) { s with heap := zG5 s.heap t u }) :=
  .of_wp fun prog w A R s h => by
    obtain ⟨hp, g, d, tk, os⟩ := s; obtain ⟨hl1, hl2, h⟩ := h
    have hsub := sub_zip; have hL1 : Heap.IsTuple (Shared.heap ⟨hp, g, d, tk, os⟩) t xs := hl1
    have hL2 : Heap.IsTuple (Shared.heap ⟨hp.push (itO t), g, d, tk, os⟩) u ys := hl2.at fun o e => Heap.get?_push_of_some _ e
    wp_walk using wpAny_pyIter_tuple hL1, wpAny_pyIter_tuple hL2
    exact ⟨_, rfl, h⟩
section
variable {prog : Program} {w : World} {A : Around} {E : Value → Shared → Prop} {s : Shared}
theorem callZip {t u : Addr} {xs ys : Array Value} {Q : Value → Shared → Prop} (h1 : s.heap.IsTuple t xs) (h2 : s.heap.IsTuple u ys)
    (q : ∀ h' n, n = s.heap.objs.size → IsZip h' (n + 4) (n + 2) (n + 3) .none → IsPair h' (n + 2) (.ref n) (.ref (n + 1)) → IsPair h' (n + 3) .none .none → h'.IsTupleIter n t 0 → h'.IsTupleIter (n + 1) u 0 →
      (∀ c o, s.heap.get? c = some o → h'.get? c = some o) → Q (.ref (n + 4)) { s with heap := h' }) : wpAny (model prog w) A (call (.type "zip") [.ref t, .ref u]) Q E s := by
  refine callType_new F.called_zip (by decide) (F.typeCall_zip_2 _ _) (F.newCall_zip_2 _ _) (fun obj => F.args_object_init_3 obj _ _) F.entry_zip_new (zipT_new t u xs ys) ⟨h1, h2, ?_⟩
  have z1 : (zG1 s.heap t).objs.size = s.heap.objs.size + 1 := Heap.size_push ..
  have z2 : (zG2 s.heap t u).objs.size = s.heap.objs.size + 2 := by rw [Heap.size_push, z1]
  have z3 : (zG3 s.heap t u).objs.size = s.heap.objs.size + 3 := by rw [Heap.size_push, z2]
  have z4 : (zG4 s.heap t u).objs.size = s.heap.objs.size + 4 := by rw [Heap.size_push, z3]
  have p5 : ∀ c o, (zG4 s.heap t u).get? c = some o → (zG5 s.heap t u).get? c = some o := fun c o e => Heap.get?_push_of_some _ e
  have p4 : ∀ c o, (zG3 s.heap t u).get? c = some o → (zG5 s.heap t u).get? c = some o := fun c o e => p5 c o (Heap.get?_push_of_some _ e)
  have p3 : ∀ c o, (zG2 s.heap t u).get? c = some o → (zG5 s.heap t u).get? c = some o := fun c o e => p4 c o (Heap.get?_push_of_some _ e)
  have p2 : ∀ c o, (zG1 s.heap t).get? c = some o → (zG5 s.heap t u).get? c = some o := fun c o e => p3 c o (Heap.get?_push_of_some _ e)
  have e5 : (zG5 s.heap t u).get? (zG4 s.heap t u).objs.size = some _ := Heap.get?_push_size _ rfl
  have e4 := p5 _ _ (show (zG4 s.heap t u).get? (zG3 s.heap t u).objs.size = some _ from Heap.get?_push_size _ rfl)
  have e3 := p4 _ _ (show (zG3 s.heap t u).get? (zG2 s.heap t u).objs.size = some _ from Heap.get?_push_size _ rfl)
  have e2 := p3 _ _ (show (zG2 s.heap t u).get? (zG1 s.heap t).objs.size = some _ from Heap.get?_push_size _ rfl)
  have e1 := p2 _ _ (show (zG1 s.heap t).get? s.heap.objs.size = some _ from Heap.get?_push_size _ rfl)
  rw [z2, z3, z4] at e5
  rw [z2, z1] at e3
  rw [z3] at e4
  rw [z1] at e2
  show _ ∧ _
  rw [z4]
  exact ⟨⟨_, e5, rfl⟩, q _ _ rfl e5 e3 e4 ⟨_, e1, rfl, rfl⟩ ⟨_, e2, rfl, rfl⟩ fun c o x => p2 c o (Heap.get?_push_of_some _ x)⟩
theorem nextZip {z TI TO i1 i2 t1 t2 : Addr} {k : Nat} {xs ys : Array Value} {a b : Value} {Q : Option Value → Shared → Prop} (D : ZipApart z TI TO i1 i2 t1 t2) (hz : IsZip s.heap z TI TO .none) (hTI : IsPair s.heap TI (.ref i1) (.ref i2)) (hTO : IsPair s.heap TO a b)
    (h1 : s.heap.IsTupleIter i1 t1 k) (h2 : s.heap.IsTupleIter i2 t2 k) (ht1 : s.heap.IsTuple t1 xs) (ht2 : s.heap.IsTuple t2 ys)
    (q1 : ∀ x y, xs[k]? = some x → ys[k]? = some y → ∀ h', IsZip h' z TI TO (rawInt s.heap.objs.size) → IsPair h' TO x y → h'.IsTupleIter i1 t1 (k + 1) → h'.IsTupleIter i2 t2 (k + 1) → IsPair h' s.heap.objs.size x y →
      (∀ c o, c ≠ z → c ≠ TO → c ≠ i1 → c ≠ i2 → s.heap.get? c = some o → h'.get? c = some o) → Q (some (.ref s.heap.objs.size)) { s with heap := h' })
    (q2 : (xs[k]? = none ∨ ys[k]? = none) → A.handled = none ∧ ∀ h', (∀ c o, c ≠ z → c ≠ TO → c ≠ i1 → c ≠ i2 → s.heap.get? c = some o → h'.get? c = some o) → Q none { s with heap := h' }) :
    wpAny (model prog w) A (pyNext (.ref z)) Q E s := by
  have hT : s.TypeIs (.ref z) "zip" := ⟨_, hz, rfl⟩; unfold pyNext
  refine wpAny_bind (wpAny_attempt (wpAny_callSpecial?_slot (name := Str.ofString "__next__") hT F.slot_zip_next (wpAny_call_entry F.slot_zip_next hT F.entry_zip_next ?_ (F.args_zip_next_1 _))))
  refine zipT D hz hTI hTO h1 h2 ht1 ht2 (fun x y hx hy h' a1 a2 a3 a4 a5 a6 => ⟨_, rfl, wpAny_pure (q1 x y hx hy h' a1 a2 a3 a4 a5 a6)⟩) fun he => ⟨(q2 he).1, fun h' e kk ho => ?_⟩
  obtain ⟨o, ho, hc⟩ := ho
  exact wpAny_bind (wpAny_isInstance (T := "StopIteration") (b := true) ⟨o, ho, hc⟩ isSubtype_stop (wpAny_pure ((q2 he).2 _ kk)))
end
end L3
namespace L3
open PySem PySem.Spec PyProof.Rows L2

def Itz (K : PySem.W.Frag) (a b : Addr) : It :=
  ⟨fun i H => ∃ xs ys x y, SqT K H a xs ∧ SqT K H b ys ∧ xs[i]? = some x ∧ ys[i]? = some y,
   fun i H v H' => ∃ T x y, v = .ref T ∧ H T = none ∧ H' = upd H T (.tup [x, y]) ∧ ∀ xs ys, SqT K H a xs → SqT K H b ys → xs[i]? = some x ∧ ys[i]? = some y,
   fun i H => ∃ xs ys, SqT K H a xs ∧ SqT K H b ys ∧ (xs.length ≤ i ∨ ys.length ≤ i)⟩

theorem inv_turns {X : Cx} {pins : List (Addr × Obj)} {σ : St} {H : Hp} {s : Shared} {h' : Heap} {ch : List Addr} {T : Addr} {xs : List V} (I : Inv X pins σ H s) (hf : ∀ b ∈ ch, FpOk X pins H b) (hT : s.heap.objs.size ≤ T)
    (k : ∀ b o, b ∉ ch → s.heap.get? b = some o → h'.get? b = some o) (kc : ∀ b ∈ ch, ∃ o, h'.get? b = some o) (new : ObjOk X.prog X.w (upd H T (.tup xs)) h' T (.tup xs)) : Inv X pins σ (upd H T (.tup xs)) { s with heap := h' } := by
  have hn : H T = none := I.hok.fresh hT
  have nc : ∀ b u, H b = some u → b ∉ ch := fun b u e hb => by rw [(hf b hb).1] at e; cases e
  have nT : ∀ b o, s.heap.get? b = some o → b ≠ T := fun b o e z => absurd (Heap.lt_size e) (by rw [z]; exact Nat.not_lt.mpr hT)
  refine I.call' (ch := ch) rfl ⟨fun b o e _ _ hc => k b o hc e, fun b o e _ _ hc => ⟨o.slots, k b o hc e⟩, fun b o e n _ => by rw [upd_ne (nT b o e)]; exact n, fun b o e hc => ⟨o, k b o hc e⟩, fun b xs e => ?_, fun b o u e => ?_, fun b ps e => ⟨#[], ?_⟩⟩ ?_ I.bare ?_
  · rw [upd_ne (ne_of_none e hn)]; exact e
  · rw [upd_ne (ne_of_none e hn)]; exact e
  · rw [upd_ne (ne_of_none e hn), e]; simp
  · intro b u e
    by_cases hb : b = T
    · subst hb
      rw [upd_same] at e
      cases e
      exact new
    · rw [upd_ne hb] at e
      refine (I.hok b u e).stay (fun c v hc q => k c v ?_ q) (fun c q => by rw [upd_ne (ne_of_none q hn)]; exact q) fun c ys q => by rw [upd_ne (ne_of_none q hn)]; exact q
      rcases hc with z | z
      · rw [z]; exact nc b u e
      · exact nc c _ z
  · intro b hb
    obtain ⟨f0, f1, f2, f3, f4, f5⟩ := hf b hb
    exact ⟨f3, f1, f4, f5⟩
theorem turn_zip {P : Program} {w : World} {K : PySem.W.Frag} {es : List Expr} {n : Nat} {pos : Pos} {a b z TI TO i1 i2 : Addr} (D : ZipApart z TI TO i1 i2 a b) :
    Turn P w K (.Tuple es n pos) (Itz K a b) [z, TI, TO, i1, i2] z (fun i h => IsZip h z TI TO .none ∧ IsPair h TI (.ref i1) (.ref i2) ∧ (∃ x y, IsPair h TO x y) ∧ h.IsTupleIter i1 a i ∧ h.IsTupleIter i2 b i) where
  mem := by simp
  obj := fun i h st c hc => by
    obtain ⟨hz, hI, ⟨x, y, hO⟩, ⟨o1, e1, _, d1⟩, ⟨o2, e2, _, d2⟩⟩ := st
    have hc : c = z ∨ c = TI ∨ c = TO ∨ c = i1 ∨ c = i2 := by simpa using hc
    rcases hc with rfl | rfl | rfl | rfl | rfl
    · exact ⟨_, hz, fun v e => by cases e⟩
    · exact ⟨_, hI, fun v e => by cases e⟩
    · exact ⟨_, hO, fun v e => by cases e⟩
    · exact ⟨_, e1, fun v e => by rw [d1] at e; cases e⟩
    · exact ⟨_, e2, fun v e => by rw [d2] at e; cases e⟩
  keep := fun i h h' st k => by
    obtain ⟨hz, hI, ⟨x, y, hO⟩, h1, h2⟩ := st
    exact ⟨k z (by simp) _ hz, k TI (by simp) _ hI, ⟨x, y, k TO (by simp) _ hO⟩, h1.at fun o e => k i1 (by simp) o e, h2.at fun o e => k i2 (by simp) o e⟩
  item := by
    intro X hP hw hK hc i pins s σ H E I hf st hg
    subst hP hw hK
    obtain ⟨hz, hI, ⟨x0, y0, hO⟩, h1, h2⟩ := st
    obtain ⟨xs, ys, x, y, hq1, hq2, hx, hy⟩ := hg
    obtain ⟨its1, rv1, p1, _⟩ := I.tuple hq1
    obtain ⟨its2, rv2, p2, _⟩ := I.tuple hq2
    obtain ⟨u, hu, ru⟩ := rv1.get hx
    obtain ⟨v, hv, rv⟩ := rv2.get hy
    refine nextZip D hz hI hO h1 h2 (show s.heap.IsTuple a its1.toArray from p1) (show s.heap.IsTuple b its2.toArray from p2) (fun u' v' hu' hv' h' z1 z2 z3 z4 z5 kk => ?_) fun he => ?_
    · have e1 : u' = u := by simpa [hu] using hu'.symm
      have e2 : v' = v := by simpa [hv] using hv'.symm
      subst e1 e2
      refine ⟨_, rfl, wpAny_letOwnedTupleGo_zip z1 fun h2' hz2 s2 => ?_⟩
      have T0 : H s.heap.objs.size = none := I.hok.fresh (Nat.le_refl _)
      have tz : s.heap.objs.size ≠ z := Nat.ne_of_gt (Heap.lt_size hz)
      have J : Inv X pins σ (upd H s.heap.objs.size (.tup [x, y])) { s with heap := h2' } := by
        refine inv_turns (ch := [z, TI, TO, i1, i2]) I hf (Nat.le_refl _) (fun c o hc e => ?_) (fun c hc => ?_) ?_
        · have c1 : c ≠ z := fun q => hc (by simp [q])
          exact s2.extBut _ _ c1 (kk c o c1 (fun q => hc (by simp [q])) (fun q => hc (by simp [q])) (fun q => hc (by simp [q])) e)
        · have hc : c = z ∨ c = TI ∨ c = TO ∨ c = i1 ∨ c = i2 := by simpa using hc
          rcases hc with rfl | rfl | rfl | rfl | rfl
          · exact ⟨_, hz2⟩
          · exact ⟨_, s2.extBut _ _ D.TIz (kk _ _ D.TIz D.TITO D.TIi1 D.TIi2 hI)⟩
          · exact ⟨_, s2.extBut _ _ D.TOz z2⟩
          · obtain ⟨o, e, _⟩ := z3; exact ⟨o, s2.extBut _ _ D.i1z e⟩
          · obtain ⟨o, e, _⟩ := z4; exact ⟨o, s2.extBut _ _ D.i2z e⟩
        · exact ⟨by show 2 ≤ sizeLine; decide, [u', v'], .cons ru (.cons rv .nil), ⟨_, s2.extBut _ _ tz z5, rfl, _, rfl⟩⟩
      refine ⟨.ref s.heap.objs.size, _, J, rfl, ⟨_, x, y, rfl, T0, rfl, fun xs' ys' q1 q2 => ?_⟩, ⟨hz2, s2.extBut _ _ D.TIz (kk _ _ D.TIz D.TITO D.TIi1 D.TIi2 hI), ⟨_, _, s2.extBut _ _ D.TOz z2⟩, z3.at fun o e => s2.extBut _ _ D.i1z e, z4.at fun o e => s2.extBut _ _ D.i2z e⟩, fun c hc => ?_⟩
      · rw [I.tuple_inj q1 hq1, I.tuple_inj q2 hq2]; exact ⟨hx, hy⟩
      · have hlt : c < s.heap.objs.size := by
          have hc : c = z ∨ c = TI ∨ c = TO ∨ c = i1 ∨ c = i2 := by simpa using hc
          rcases hc with e | e | e | e | e <;> rw [e]
          · exact Heap.lt_size hz
          · exact Heap.lt_size hI
          · exact Heap.lt_size hO
          · obtain ⟨o, e, _⟩ := h1; exact Heap.lt_size e
          · obtain ⟨o, e, _⟩ := h2; exact Heap.lt_size e
        rw [upd_ne (Nat.ne_of_lt hlt)]; exact (hf c hc).1
    · exfalso
      rcases he with he | he
      · simp [hu] at he
      · simp [hv] at he
  done := by
    intro X hP hw hK hc i pins s σ H E I hf st hg
    subst hP hw hK
    obtain ⟨hz, hI, ⟨x0, y0, hO⟩, h1, h2⟩ := st
    obtain ⟨xs, ys, hq1, hq2, hl⟩ := hg
    obtain ⟨its1, rv1, p1, _⟩ := I.tuple hq1
    obtain ⟨its2, rv2, p2, _⟩ := I.tuple hq2
    have l1 := rv1.length
    have l2 := rv2.length
    refine nextZip D hz hI hO h1 h2 (show s.heap.IsTuple a its1.toArray from p1) (show s.heap.IsTuple b its2.toArray from p2) (fun u' v' hu' hv' h' z1 z2 z3 z4 z5 kk => ?_) fun he => ⟨I.ok.hd hc, fun h' kk => ⟨rfl, ?_⟩⟩
    · exfalso
      have g1 : i < its1.length := by simpa using (Array.getElem?_eq_some_iff.mp hu').1
      have g2 : i < its2.length := by simpa using (Array.getElem?_eq_some_iff.mp hv').1
      omega
    · have hnc : ∀ c o, c ∉ [z, TI, TO, i1, i2] → s.heap.get? c = some o → h'.get? c = some o := fun c o hc e => kk c o (fun q => hc (by simp [q])) (fun q => hc (by simp [q])) (fun q => hc (by simp [q])) (fun q => hc (by simp [q])) e
      refine I.call' (s' := { s with heap := h' }) (ch := [z, TI, TO, i1, i2]) rfl ⟨fun b o e _ _ hc => hnc b o hc e, fun b o e _ _ hc => ⟨o.slots, hnc b o hc e⟩, fun b o e n _ => n, fun b o e hc => ⟨o, hnc b o hc e⟩, fun _ _ e => e, fun _ _ _ e => e, fun b ps e => ⟨#[], by rw [e]; simp⟩⟩ (fun b u e => ?_) I.bare ?_
      · have nc : ∀ b u, H b = some u → b ∉ [z, TI, TO, i1, i2] := fun b u e hb => by rw [(hf b hb).1] at e; cases e
        refine (I.hok b u e).stay (fun c v hc q => hnc c v ?_ q) (fun _ q => q) fun _ _ q => q
        rcases hc with q | q
        · rw [q]; exact nc b u e
        · exact nc c _ q
      · intro b hb
        obtain ⟨f0, f1, f2, f3, f4, f5⟩ := hf b hb
        exact ⟨f3, f1, f4, f5⟩
  self := fun _ _ _ _ _ st h => wpAny_pyIter_zip st.1 h
theorem b_zip : bootBuiltins "zip" = some (.type "zip") := by decide +kernel
def iZip (K : PySem.W.Frag) (ta : TA) : TI := fun σ H R => ta σ H fun vs H1 => ∃ a b xs ys, vs = [.ref a, .ref b] ∧ SqT K H1 a xs ∧ SqT K H1 b ys ∧ R (Itz K a b) H1
theorem pi_zip2 {X : Cx} {K : PySem.W.Frag} {es : List Expr} {n : Nat} {tpos : Pos} {a b : Expr} {ta : TA} {p pos : Pos} (hK : X.K = K) (hg : Gl X "zip") (hm : X.mg "zip" = none) (ha : PA X [a, b] ta) (hs : starEach [a, b] X.env = [(false, eval a X.env), (false, eval b X.env)] := by rfl) (hs2 : starEach [b] X.env = [(false, eval b X.env)] := by rfl) :
    PI X (.Tuple es n tpos) (.Call (.Name "zip" p) [a, b] [] pos) (iZip K ta) := by
  subst hK
  intro pins s σ H R I h
  refine Call_ (ld_blt I hg hm b_zip (PyProof.Rows.callWith_type1 (thn (ha pos pins s σ H _ I h) fun us s1 ⟨vs, H1, I1, r1, q1⟩ => ?_) (by rw [hs, hs2]) (by rw [hs2]; rfl)))
  obtain ⟨x, y, xs, ys, e, hx, hy, q⟩ := q1
  subst e
  cases r1 with
  | cons r rr =>
    cases rr with
    | cons r' rr =>
      cases rr
      cases r
      cases r'
      obtain ⟨its1, rv1, p1, _⟩ := I1.tuple hx
      obtain ⟨its2, rv2, p2, _⟩ := I1.tuple hy
      have lx : x < s1.heap.objs.size := p1.lt
      have ly : y < s1.heap.objs.size := p2.lt
      refine callZip (show s1.heap.IsTuple x its1.toArray from p1) (show s1.heap.IsTuple y its2.toArray from p2) fun h' m hm' z1 z2 z3 z4 z5 kk => ?_
      subst hm'
      refine wpAny_pyIter_zip z1 ⟨_, [s1.heap.objs.size + 4, s1.heap.objs.size + 2, s1.heap.objs.size + 3, s1.heap.objs.size, s1.heap.objs.size + 1], _, _, H1, rfl, I1.kept (t' := s1.toks) kk, turn_zip ⟨?_, ?_, ?_, ?_, ?_, ?_, ?_, ?_, ?_, ?_, ?_, ?_, ?_, ?_, ?_, ?_, ?_, ?_⟩, ⟨z1, z2, ⟨_, _, z3⟩, z4, z5⟩, fun c hc => ?last, q⟩
      case last =>
        have hc : c = s1.heap.objs.size + 4 ∨ c = s1.heap.objs.size + 2 ∨ c = s1.heap.objs.size + 3 ∨ c = s1.heap.objs.size ∨ c = s1.heap.objs.size + 1 := by simpa using hc
        have hge : s1.heap.objs.size ≤ c := by rcases hc with e | e | e | e | e <;> rw [e] <;> first | exact Nat.le_add_right _ _ | exact Nat.le_refl _
        exact I1.fpOk hge (I1.hok.fresh hge)
      all_goals (intro e; have e' : @Eq Nat _ _ := e; have lx' : @LT.lt Nat _ _ _ := lx; have ly' : @LT.lt Nat _ _ _ := ly; omega)
theorem r_zip {K : PySem.W.Frag} {ta : TA} {σ : St} {H : Hp} {R : It → Hp → Prop} (q : ta σ H fun vs H1 => ∃ a b xs ys, vs = [.ref a, .ref b] ∧ SqT K H1 a xs ∧ SqT K H1 b ys ∧ R (Itz K a b) H1) : iZip K ta σ H R := q

theorem comp_mapZ {K : PySem.W.Frag} {a b : Addr} {α : Type} {xs : List α} {e1 e2 : α → V} {g : TG} {tc : TT} {te : TE} {fin : List V → Hp → Prop} {σ0 : St} {H : Hp} (f : α → V) (Sg : St → Prop) (ha : SqT K H a (xs.map e1)) (hb : SqT K H b (xs.map e2)) (hz : xs.length ≤ sizeLine) (h0 : Sg σ0)
    (hs : ∀ (i : Nat) (x : α) (ys : List V) (σ : St) (H1 : Hp) (T : Addr), xs[i]? = some x → CInv xs f Sg H i ys σ H1 → Same H H1 → Sg σ → H1 T = none →
      g (.ref T) σ (upd H1 T (.tup [e1 x, e2 x])) fun σ3 H3 => tc σ3 H3 fun b H4 => if b = true then te σ3 H4 fun y H5 => CInv xs f Sg H (i + 1) (ys ++ [y]) σ3 H5 else CInv xs f Sg H (i + 1) ys σ3 H4)
    (hd : ∀ H1, Same H H1 → fin (xs.map f) H1) : CompW (Itz K a b) g tc te fin σ0 H := by
  refine ⟨fun i m ys σ H1 => m = xs.length - i ∧ i ≤ xs.length ∧ CInv xs f Sg H i ys σ H1, ⟨xs.length, by simp, Nat.zero_le _, Same.refl _, h0, rfl⟩, ?_⟩
  rintro i m ys σ H1 ⟨rfl, hi, c⟩
  obtain ⟨s, sg, rfl⟩ := id c
  by_cases hlt : i < xs.length
  · refine .inr ⟨⟨_, _, e1 xs[i], e2 xs[i], SqT_same s ha, SqT_same s hb, by simp [hlt], by simp [hlt]⟩, CInv xs f Sg H (i + 1), fun ys2 σ2 H2 p' => ⟨?_, xs.length - (i + 1), by omega, rfl, hlt, p'⟩, fun v H2 y => ?_⟩
    · obtain ⟨_, _, rfl⟩ := p'
      rw [List.length_map, List.length_take]; omega
    · obtain ⟨T, x, y', rfl, hT, rfl, hxy⟩ := y
      obtain ⟨q1, q2⟩ := hxy _ _ (SqT_same s ha) (SqT_same s hb)
      have e1' : e1 xs[i] = x := by simpa [hlt] using q1
      have e2' : e2 xs[i] = y' := by simpa [hlt] using q2
      rw [← e1', ← e2']
      exact hs i xs[i] _ σ H1 T (by simp [hlt]) c s sg hT
  · have e : i = xs.length := by omega
    subst e
    refine .inl ⟨⟨_, _, SqT_same s ha, SqT_same s hb, .inl (by simp)⟩, ?_, ?_⟩
    · rw [List.length_map, List.length_take]; omega
    · rw [List.take_length]; exact hd H1 s
end L3
namespace L3
open PySem PySem.Spec PyProof.Rows L2

theorem sqtK {K : PySem.W.Frag} {a : Addr} {xs : List V} {its : Array Value} {n : Nat} {od : Option Addr} {sl : Array (Option Value)} (l : K.lookup a = some ⟨.type "tuple", od, .seq its n, sl⟩) (hz : its.size ≤ sizeLine) (v : Vals xs its.toList) : ∀ H, SqT K H a xs := fun H => .inr ⟨_, its, n, l, rfl, rfl, hz, v⟩

theorem r_extend {l b : Addr} {xs zs : List V} {H : Hp} {Q : VK} (h : H l = some (.lst xs)) (hb : H b = some (.lst zs)) (hz : xs.length + zs.length ≤ sizeLine) (q : Q .non (upd H l (.lst (xs ++ zs)))) : rExtend (.ref l) [.ref b] H Q := ⟨l, b, xs, zs, rfl, rfl, h, hb, hz, q⟩
end L3

namespace L3
open PySem PySem.Spec PyProof.Rows L2 PySem.SeqAt

end L3
namespace L3
open PySem PySem.Spec PyProof.Rows L2 PySem.SeqAt

end L3
namespace L3
open PySem PySem.Spec PyProof.Rows L2 PySem.SeqAt
section
variable {P : Program} {w : World} {K : PySem.W.Frag} {mg : Str → Option Value} {base : Heap} {x qual : Str} {st : Stmt} {N ps : List Str} {sp : Sp} {C : Addr} {k : Nat}

end

section
variable {X : Cx} {pins : List (Addr × Obj)} {σ : St} {H : Hp} {s : Shared}

end
end L3
namespace L3
open PySem PySem.Spec PyProof.Rows L2 PySem.SeqAt


section
variable {X : Cx} {pins : List (Addr × Obj)} {σ : St} {H : Hp} {s : Shared} {k : Nat} {g x n : Str} {sp : Sp} {e : Expr} {es : List Expr} {t : TA} {gp cpos pos py : Pos}

end
end L3
namespace L3
open PySem PySem.Spec PyProof.Rows L2 PySem.SeqAt
section
variable {X : Cx} {pins : List (Addr × Obj)} {σ : St} {H H1 H' : Hp} {s s1 s' : Shared} {ea C : Addr}

end
end L3
namespace L3
open PySem PySem.Spec PyProof.Rows L2 PySem.SeqAt PySem.W Builtin Builtin.ObjectAttr Builtin.Getset_descriptor

section
variable {prog : Program} {w : World} {A : Around} {E : Value → Shared → Prop} {s : Shared} {K : PySem.W.Frag} {x C : Addr} {ox : Obj}
end
end L3
namespace L3
open PySem PySem.Spec PyProof.Rows L2 PySem.SeqAt PySem.W Builtin Builtin.ObjectAttr Builtin.Getset_descriptor
section
variable {prog : Program} {w : World} {A : Around} {E : Value → Shared → Prop} {s : Shared} {K : PySem.W.Frag} {x C : Addr} {ox : Obj}
end
end L3
namespace L3
open PySem PySem.Spec PyProof.Rows L2 PySem.SeqAt

section
variable {X : Cx} {k : Nat} {g : Str} {sp : Sp} {e c : Expr} {es : List Expr} {t : TA} {gp cpos pos : Pos} {b1 b2 : List Stmt} {tc : TT} {t1 t2 : TB}
end
section
variable {X : Cx} {v : Expr} {tv : TE} {x y : Str} {j1 j2 : Nat} {p0 p1 p2 p3 : Pos}
end
end L3
namespace L3
open PySem PySem.Spec PyProof.Rows

abbrev Is3 (h : Heap) (T : Addr) (a b c : Value) : Prop := h.get? T = some { cls := .type "tuple", data := .seq #[a, b, c] }

structure Apart3 (z TI TO i1 i2 i3 t1 t2 t3 : Addr) : Prop where
  TIz : TI ≠ z
  TOz : TO ≠ z
  i1z : i1 ≠ z
  i2z : i2 ≠ z
  i3z : i3 ≠ z
  TITO : TI ≠ TO
  TIi1 : TI ≠ i1
  TIi2 : TI ≠ i2
  TIi3 : TI ≠ i3
  TOi1 : TO ≠ i1
  TOi2 : TO ≠ i2
  TOi3 : TO ≠ i3
  i12 : i1 ≠ i2
  i13 : i1 ≠ i3
  i23 : i2 ≠ i3
  t1z : t1 ≠ z
  t2z : t2 ≠ z
  t2TO : t2 ≠ TO
  t2i1 : t2 ≠ i1
  t3z : t3 ≠ z
  t3TO : t3 ≠ TO
  t3i1 : t3 ≠ i1
  t3i2 : t3 ≠ i2
section
variable {prog : Program} {w : World} {A : Around} {E : Value → Shared → Prop} {s : Shared}
theorem seq3_put {T : Addr} {a b c x : Value} {k : Nat} {Q : Unit → Shared → Prop} (hT : Is3 s.heap T a b c)
    (h : ∀ h', h'.get? T = some { cls := .type "tuple", data := .seq ((#[a, b, c] : Array Value).setIfInBounds k x) } → Heap.SameBut T s.heap h' → Q () { s with heap := h' }) :
    wpAny (model prog w) A (updateSeq T (·.setIfInBounds k x)) Q E s := by
  refine wpAny_updateSeq hT rfl (h _ ?_ (Heap.SameBut.update ..))
  rw [Heap.get?_update_self _ hT rfl]
  simp [Obj.mapSeq]

theorem zip3 {z TI TO i1 i2 i3 t1 t2 t3 : Addr} {k : Nat} {xs ys zs : Array Value} {a b c : Value} {Q : Fin → Shared → Prop} (D : Apart3 z TI TO i1 i2 i3 t1 t2 t3) (hz : IsZip s.heap z TI TO .none) (hTI : Is3 s.heap TI (.ref i1) (.ref i2) (.ref i3)) (hTO : Is3 s.heap TO a b c)
    (h1 : s.heap.IsTupleIter i1 t1 k) (h2 : s.heap.IsTupleIter i2 t2 k) (h3 : s.heap.IsTupleIter i3 t3 k) (ht1 : s.heap.IsTuple t1 xs) (ht2 : s.heap.IsTuple t2 ys) (ht3 : s.heap.IsTuple t3 zs)
    (q1 : ∀ x y u, xs[k]? = some x → ys[k]? = some y → zs[k]? = some u → ∀ h', IsZip h' z TI TO (rawInt s.heap.objs.size) → Is3 h' TO x y u → h'.IsTupleIter i1 t1 (k + 1) → h'.IsTupleIter i2 t2 (k + 1) → h'.IsTupleIter i3 t3 (k + 1) → Is3 h' s.heap.objs.size x y u →
      (∀ c o, c ≠ z → c ≠ TO → c ≠ i1 → c ≠ i2 → c ≠ i3 → s.heap.get? c = some o → h'.get? c = some o) → Q (.done (.ret (.ref s.heap.objs.size))) { s with heap := h' })
    (q2 : (xs[k]? = none ∨ ys[k]? = none ∨ zs[k]? = none) → A.handled = none ∧ ∀ h' e, (∀ c o, c ≠ z → c ≠ TO → c ≠ i1 → c ≠ i2 → c ≠ i3 → s.heap.get? c = some o → h'.get? c = some o) → (∃ o, h'.get? e = some o ∧ o.cls = .type "StopIteration") → E (.ref e) { s with heap := h' }) :
    wpAny (model prog w) A (Builtin.«zip.__next__» ⟨[.ref z], []⟩) Q E s := by
  show wpAny _ _ (field (.ref z) 2 >>= _) _ _ _; refine wpAny_bind (wpAny_field hz rfl (x := .bool false) rfl ?_)
  show wpAny _ _ (field (.ref z) 3 >>= _) _ _ _; refine wpAny_bind (wpAny_field hz rfl (x := .ref TI) rfl (wpAny_bind (wpAny_seqItems hTI rfl ?_)))
  show wpAny _ _ (Builtin.SmallTypes.ownedTupleIsFree (.ref z) >>= _) _ _ _; refine wpAny_bind ?_
  unfold Builtin.SmallTypes.ownedTupleIsFree; refine wpAny_bind (wpAny_field hz rfl (x := .none) rfl (wpAny_pure ?_))
  simp only [if_true]; refine wpAny_bind (wpAny_rule (wpAny_bind (wpAny_field hz rfl (x := .ref TO) rfl ?_)))
  refine wpAny_bind (wpAny_setField_rec hz (by simp) fun g1 hz1 s1 => ?_); replace hz1 : IsZip g1 z TI TO .ellipsis := hz1
  refine wpAny_bind ?_; simp only [List.zipIdx_cons, List.zipIdx_nil, List.forIn_cons, List.forIn_nil]
  refine wpAny_bind (wpAny_bind (wpAny_onRaise ?_)); show wpAny _ _ (Builtin.SmallTypes.nextOf (.ref i1) >>= _) _ _ _
  refine wpAny_bind (drawT0 (h1.at fun o e => s1.extBut _ o D.i1z e) (ht1.extBut s1.extBut D.t1z) (fun x hx g2 h12 s2 => wpAny_pure ?_) fun hx => ?_)
  · have hO2 : Is3 g2 TO a b c := s2.extBut _ _ D.TOi1 (s1.extBut _ _ D.TOz hTO)
    refine wpAny_bind (wpAny_seqItems hO2 rfl (wpAny_bind (seq3_put hO2 fun g3 hO3 s3 => ?_))); replace hO3 : Is3 g3 TO x b c := hO3
    refine wpAny_bind (wpAny_letGo (wpAny_pure ?_)); refine wpAny_bind (wpAny_bind (wpAny_onRaise ?_))
    show wpAny _ _ (Builtin.SmallTypes.nextOf (.ref i2) >>= _) _ _ _
    have k3 : ∀ c o, c ≠ z → c ≠ TO → c ≠ i1 → s.heap.get? c = some o → g3.get? c = some o := fun c o c1 c2 c3 e => s3.extBut _ _ c2 (s2.extBut _ _ c3 (s1.extBut _ _ c1 e))
    have hz3 : IsZip g3 z TI TO .ellipsis := s3.extBut _ _ D.TOz.symm (s2.extBut _ _ D.i1z.symm hz1)
    refine wpAny_bind (drawT0 (h2.at fun o e => k3 _ o D.i2z D.TOi2.symm D.i12.symm e) (ht2.at fun o e => k3 _ o D.t2z D.t2TO D.t2i1 e) (fun y hy g4 h24 s4 => wpAny_pure ?_) fun hy => ?_)
    · have hO4 : Is3 g4 TO x b c := s4.extBut _ _ D.TOi2 hO3
      refine wpAny_bind (wpAny_seqItems hO4 rfl (wpAny_bind (seq3_put hO4 fun g5 hO5 s5 => ?_))); replace hO5 : Is3 g5 TO x y c := hO5
      refine wpAny_bind (wpAny_letGo (wpAny_pure ?_)); refine wpAny_bind (wpAny_bind (wpAny_onRaise ?_))
      show wpAny _ _ (Builtin.SmallTypes.nextOf (.ref i3) >>= _) _ _ _
      have k5 : ∀ c o, c ≠ z → c ≠ TO → c ≠ i1 → c ≠ i2 → s.heap.get? c = some o → g5.get? c = some o := fun c o c1 c2 c3 c4 e => s5.extBut _ _ c2 (s4.extBut _ _ c4 (k3 c o c1 c2 c3 e))
      have hz5 : IsZip g5 z TI TO .ellipsis := s5.extBut _ _ D.TOz.symm (s4.extBut _ _ D.i2z.symm hz3)
      refine wpAny_bind (drawT0 (h3.at fun o e => k5 _ o D.i3z D.TOi3.symm D.i13.symm D.i23.symm e) (ht3.at fun o e => k5 _ o D.t3z D.t3TO D.t3i1 D.t3i2 e) (fun u hu g6 h36 s6 => wpAny_pure ?_) fun hu => ?_)
      · have hO6 : Is3 g6 TO x y c := s6.extBut _ _ D.TOi3 hO5
        refine wpAny_bind (wpAny_seqItems hO6 rfl (wpAny_bind (seq3_put hO6 fun g7 hO7 s7 => ?_))); replace hO7 : Is3 g7 TO x y u := hO7
        refine wpAny_bind (wpAny_letGo (wpAny_pure (wpAny_pure ?_))); refine wpAny_bind (wpAny_seqItems hO7 rfl (wpAny_bind (wpAny_newTuple ?_)))
        have z7 : g7.objs.size = s.heap.objs.size := by rw [s7.1, s6.1, s5.1, s4.1, s3.1, s2.1, s1.1]
        have hz7 : IsZip g7 z TI TO .ellipsis := s7.extBut _ _ D.TOz.symm (s6.extBut _ _ D.i3z.symm hz5)
        have k7 : ∀ c o, c ≠ z → c ≠ TO → c ≠ i1 → c ≠ i2 → c ≠ i3 → s.heap.get? c = some o → g7.get? c = some o := fun c o c1 c2 c3 c4 c5 e => s7.extBut _ _ c2 (s6.extBut _ _ c5 (k5 c o c1 c2 c3 c4 e))
        have h17 : g7.IsTupleIter i1 t1 (k + 1) := h12.at fun o e => s7.extBut _ _ D.TOi1.symm (s6.extBut _ _ D.i13 (s5.extBut _ _ D.TOi1.symm (s4.extBut _ _ D.i12 (s3.extBut _ _ D.TOi1.symm e))))
        have h27 : g7.IsTupleIter i2 t2 (k + 1) := h24.at fun o e => s7.extBut _ _ D.TOi2.symm (s6.extBut _ _ D.i23 (s5.extBut _ _ D.TOi2.symm e))
        have h37 : g7.IsTupleIter i3 t3 (k + 1) := h36.at fun o e => s7.extBut _ _ D.TOi3.symm e
        have zlt : z < g7.objs.size := Heap.lt_size hz7
        show wpAny _ _ (Builtin.SmallTypes.ownedTupleHandOut (.ref z) (.ref g7.objs.size) >>= _) _ _ _; refine wpAny_bind ?_
        unfold Builtin.SmallTypes.ownedTupleHandOut
        have hz8 : IsZip (g7.push { cls := .type "tuple", data := .seq #[x, y, u] }) z TI TO .ellipsis := Heap.get?_push_of_some _ hz7
        refine wpAny_bind (wpAny_setField_rec hz8 (by simp) fun g9 hz9 s9 => ?_); replace hz9 : IsZip g9 z TI TO (rawInt g7.objs.size) := hz9
        refine wpAny_setField_rec hz9 (by simp) fun ga hza sa => ?_; replace hza : IsZip ga z TI TO (rawInt g7.objs.size) := hza
        have up : ∀ c o, c ≠ z → g7.get? c = some o → ga.get? c = some o := fun c o c1 e => sa.extBut _ _ c1 (s9.extBut _ _ c1 (Heap.get?_push_of_some _ e))
        have hTa : Is3 ga g7.objs.size x y u := sa.extBut _ _ (Nat.ne_of_gt zlt) (s9.extBut _ _ (Nat.ne_of_gt zlt) (Heap.get?_push_size _ rfl))
        rw [z7] at hza hTa; refine wpAny_pure ?_
        show Q (.done (.ret (.ref g7.objs.size))) _; rw [z7]
        exact q1 x y u hx hy hu ga hza (up _ _ D.TOz hO7) (h17.at fun o e => up _ o D.i1z e) (h27.at fun o e => up _ o D.i2z e) (h37.at fun o e => up _ o D.i3z e) hTa fun c o c1 c2 c3 c4 c5 e => up c o c1 (k7 c o c1 c2 c3 c4 c5 e)
      · obtain ⟨hh, q2⟩ := q2 (.inr (.inr hu))
        refine ⟨hh, fun g6 e s6 he => ?_⟩
        obtain ⟨oe, hoe, hce⟩ := he
        have hz6 : IsZip g6 z TI TO .ellipsis := s6 _ _ D.i3z.symm hz5
        have hez : e ≠ z := fun v => by subst v; rw [hz6] at hoe; cases hoe; simp at hce
        exact wpAny_setField_rec hz6 (by simp) fun g7 _ s7 => q2 g7 e (fun c o c1 c2 c3 c4 c5 v => s7.extBut _ _ c1 (s6 _ _ c5 (k5 c o c1 c2 c3 c4 v))) ⟨oe, s7.extBut _ _ hez hoe, hce⟩
    · obtain ⟨hh, q2⟩ := q2 (.inr (.inl hy))
      refine ⟨hh, fun g4 e s4 he => ?_⟩
      obtain ⟨oe, hoe, hce⟩ := he
      have hz4 : IsZip g4 z TI TO .ellipsis := s4 _ _ D.i2z.symm hz3
      have hez : e ≠ z := fun v => by subst v; rw [hz4] at hoe; cases hoe; simp at hce
      exact wpAny_setField_rec hz4 (by simp) fun g5 _ s5 => q2 g5 e (fun c o c1 c2 c3 c4 _ v => s5.extBut _ _ c1 (s4 _ _ c4 (k3 c o c1 c2 c3 v))) ⟨oe, s5.extBut _ _ hez hoe, hce⟩
  · obtain ⟨hh, q2⟩ := q2 (.inl hx)
    refine ⟨hh, fun g2 e s2 he => ?_⟩
    obtain ⟨oe, hoe, hce⟩ := he
    have hz2 : IsZip g2 z TI TO .ellipsis := s2 _ _ D.i1z.symm hz1
    have hez : e ≠ z := fun v => by subst v; rw [hz2] at hoe; cases hoe; simp at hce
    exact wpAny_setField_rec hz2 (by simp) fun g3 _ s3 => q2 g3 e (fun c o c1 _ c3 _ _ v => s3.extBut _ _ c1 (s2 _ _ c3 (s1.extBut _ _ c1 v))) ⟨oe, s3.extBut _ _ hez hoe, hce⟩
end
abbrev tO3 (a b c : Value) : Obj := { cls := .type "tuple", data := .seq #[a, b, c] }
abbrev yG3 (h : Heap) (t u v : Addr) : Heap := (zG2 h t u).push (itO v)
abbrev yG4 (h : Heap) (t u v : Addr) : Heap := (yG3 h t u v).push (tO3 (.ref h.objs.size) (.ref (zG1 h t).objs.size) (.ref (zG2 h t u).objs.size))
abbrev yG5 (h : Heap) (t u v : Addr) : Heap := (yG4 h t u v).push (tO3 .none .none .none)
abbrev yG6 (h : Heap) (t u v : Addr) : Heap := (yG5 h t u v).push { cls := .type "zip", data := .fields #[.none, .bool false, .bool false, .ref (yG3 h t u v).objs.size, .ref (yG4 h t u v).objs.size] }
set_option maxHeartbeats 4000000 in
theorem zip3_new (t u v : Addr) (xs ys zs : Array Value) : Meets (Builtin.«zip.__new__» ⟨[.type "zip", .ref t, .ref u, .ref v], []⟩) (fun _ R s => s.heap.IsTuple t xs ∧ s.heap.IsTuple u ys ∧ s.heap.IsTuple v zs ∧ R (.ok (.ret (.ref (yG5 s.heap t u v).objs.size))) { s with heap := yG6 s.heap t u v }) :=
  .of_wp fun prog w A R s h => by
    obtain ⟨hp, g, d, tk, os⟩ := s; obtain ⟨hl1, hl2, hl3, h⟩ := h
    have hsub := sub_zip; have hL1 : Heap.IsTuple (Shared.heap ⟨hp, g, d, tk, os⟩) t xs := hl1
    have hL2 : Heap.IsTuple (Shared.heap ⟨hp.push (itO t), g, d, tk, os⟩) u ys := hl2.at fun o e => Heap.get?_push_of_some _ e
    have hL3 : Heap.IsTuple (Shared.heap ⟨(hp.push (itO t)).push (itO u), g, d, tk, os⟩) v zs := hl3.at fun o e => Heap.get?_push_of_some _ (Heap.get?_push_of_some _ e)
    wp_walk using wpAny_pyIter_tuple hL1, wpAny_pyIter_tuple hL2, wpAny_pyIter_tuple hL3
    exact ⟨_, rfl, h⟩
theorem zip3_type (a b c : Value) : checkTypeCall "zip" ⟨[a, b, c], []⟩ = pure () := by kernel_rfl
theorem zip3_call (a b c : Value) : checkBuiltinCall "zip.__new__" ⟨[.type "zip", a, b, c], []⟩ = pure () := by kernel_rfl
theorem zip3_init (a b c d : Value) : argsOk "object.__init__" ⟨[a, b, c, d], []⟩ := by unfold argsOk; rw [signature?_of (id := "object.__init__") (n := ['_', '_', 't', 'i', 'n', 'i', '_', '_']) (o := ['t', 'c', 'e', 'j', 'b', 'o']) (by kernel_rfl) PySem.F.owner_object]; kernel_rfl
section
variable {prog : Program} {w : World} {A : Around} {E : Value → Shared → Prop} {s : Shared}
theorem callZip3 {t u v : Addr} {xs ys zs : Array Value} {Q : Value → Shared → Prop} (h1 : s.heap.IsTuple t xs) (h2 : s.heap.IsTuple u ys) (h3 : s.heap.IsTuple v zs)
    (q : ∀ h' n, n = s.heap.objs.size → IsZip h' (n + 5) (n + 3) (n + 4) .none → Is3 h' (n + 3) (.ref n) (.ref (n + 1)) (.ref (n + 2)) → Is3 h' (n + 4) .none .none .none → h'.IsTupleIter n t 0 → h'.IsTupleIter (n + 1) u 0 → h'.IsTupleIter (n + 2) v 0 →
      (∀ c o, s.heap.get? c = some o → h'.get? c = some o) → Q (.ref (n + 5)) { s with heap := h' }) : wpAny (model prog w) A (call (.type "zip") [.ref t, .ref u, .ref v]) Q E s := by
  refine callType_new F.called_zip (by decide) (zip3_type _ _ _) (zip3_call _ _ _) (fun obj => zip3_init obj _ _ _) F.entry_zip_new (zip3_new t u v xs ys zs) ⟨h1, h2, h3, ?_⟩
  have z1 : (zG1 s.heap t).objs.size = s.heap.objs.size + 1 := Heap.size_push ..
  have z2 : (zG2 s.heap t u).objs.size = s.heap.objs.size + 2 := by rw [Heap.size_push, z1]
  have z3 : (yG3 s.heap t u v).objs.size = s.heap.objs.size + 3 := by rw [Heap.size_push, z2]
  have z4 : (yG4 s.heap t u v).objs.size = s.heap.objs.size + 4 := by rw [Heap.size_push, z3]
  have z5 : (yG5 s.heap t u v).objs.size = s.heap.objs.size + 5 := by rw [Heap.size_push, z4]
  have p6 : ∀ c o, (yG5 s.heap t u v).get? c = some o → (yG6 s.heap t u v).get? c = some o := fun c o e => Heap.get?_push_of_some _ e
  have p5 : ∀ c o, (yG4 s.heap t u v).get? c = some o → (yG6 s.heap t u v).get? c = some o := fun c o e => p6 c o (Heap.get?_push_of_some _ e)
  have p4 : ∀ c o, (yG3 s.heap t u v).get? c = some o → (yG6 s.heap t u v).get? c = some o := fun c o e => p5 c o (Heap.get?_push_of_some _ e)
  have p3 : ∀ c o, (zG2 s.heap t u).get? c = some o → (yG6 s.heap t u v).get? c = some o := fun c o e => p4 c o (Heap.get?_push_of_some _ e)
  have p2 : ∀ c o, (zG1 s.heap t).get? c = some o → (yG6 s.heap t u v).get? c = some o := fun c o e => p3 c o (Heap.get?_push_of_some _ e)
  have e6 : (yG6 s.heap t u v).get? (yG5 s.heap t u v).objs.size = some _ := Heap.get?_push_size _ rfl
  have e5 := p6 _ _ (show (yG5 s.heap t u v).get? (yG4 s.heap t u v).objs.size = some _ from Heap.get?_push_size _ rfl)
  have e4 := p5 _ _ (show (yG4 s.heap t u v).get? (yG3 s.heap t u v).objs.size = some _ from Heap.get?_push_size _ rfl)
  have e3 := p4 _ _ (show (yG3 s.heap t u v).get? (zG2 s.heap t u).objs.size = some _ from Heap.get?_push_size _ rfl)
  have e2 := p3 _ _ (show (zG2 s.heap t u).get? (zG1 s.heap t).objs.size = some _ from Heap.get?_push_size _ rfl)
  have e1 := p2 _ _ (show (zG1 s.heap t).get? s.heap.objs.size = some _ from Heap.get?_push_size _ rfl)
  rw [z3, z4, z5] at e6
  rw [z4] at e5
  rw [z3, z1, z2] at e4
  rw [z2] at e3
  rw [z1] at e2
  show _ ∧ _
  rw [z5]
  exact ⟨⟨_, e6, rfl⟩, q _ _ rfl e6 e4 e5 ⟨_, e1, rfl, rfl⟩ ⟨_, e2, rfl, rfl⟩ ⟨_, e3, rfl, rfl⟩ fun c o x => p2 c o (Heap.get?_push_of_some _ x)⟩
theorem nextZip3 {z TI TO i1 i2 i3 t1 t2 t3 : Addr} {k : Nat} {xs ys zs : Array Value} {a b c : Value} {Q : Option Value → Shared → Prop} (D : Apart3 z TI TO i1 i2 i3 t1 t2 t3) (hz : IsZip s.heap z TI TO .none) (hTI : Is3 s.heap TI (.ref i1) (.ref i2) (.ref i3)) (hTO : Is3 s.heap TO a b c)
    (h1 : s.heap.IsTupleIter i1 t1 k) (h2 : s.heap.IsTupleIter i2 t2 k) (h3 : s.heap.IsTupleIter i3 t3 k) (ht1 : s.heap.IsTuple t1 xs) (ht2 : s.heap.IsTuple t2 ys) (ht3 : s.heap.IsTuple t3 zs)
    (q1 : ∀ x y u, xs[k]? = some x → ys[k]? = some y → zs[k]? = some u → ∀ h', IsZip h' z TI TO (rawInt s.heap.objs.size) → Is3 h' TO x y u → h'.IsTupleIter i1 t1 (k + 1) → h'.IsTupleIter i2 t2 (k + 1) → h'.IsTupleIter i3 t3 (k + 1) → Is3 h' s.heap.objs.size x y u →
      (∀ c o, c ≠ z → c ≠ TO → c ≠ i1 → c ≠ i2 → c ≠ i3 → s.heap.get? c = some o → h'.get? c = some o) → Q (some (.ref s.heap.objs.size)) { s with heap := h' })
    (q2 : (xs[k]? = none ∨ ys[k]? = none ∨ zs[k]? = none) → A.handled = none ∧ ∀ h', (∀ c o, c ≠ z → c ≠ TO → c ≠ i1 → c ≠ i2 → c ≠ i3 → s.heap.get? c = some o → h'.get? c = some o) → Q none { s with heap := h' }) :
    wpAny (model prog w) A (pyNext (.ref z)) Q E s := by
  have hT : s.TypeIs (.ref z) "zip" := ⟨_, hz, rfl⟩; unfold pyNext
  refine wpAny_bind (wpAny_attempt (wpAny_callSpecial?_slot (name := Str.ofString "__next__") hT F.slot_zip_next (wpAny_call_entry F.slot_zip_next hT F.entry_zip_next ?_ (F.args_zip_next_1 _))))
  refine zip3 D hz hTI hTO h1 h2 h3 ht1 ht2 ht3 (fun x y u hx hy hu h' a1 a2 a3 a4 a5 a6 a7 => ⟨_, rfl, wpAny_pure (q1 x y u hx hy hu h' a1 a2 a3 a4 a5 a6 a7)⟩) fun he => ⟨(q2 he).1, fun h' e kk ho => ?_⟩
  obtain ⟨o, ho, hc⟩ := ho
  exact wpAny_bind (wpAny_isInstance (T := "StopIteration") (b := true) ⟨o, ho, hc⟩ isSubtype_stop (wpAny_pure ((q2 he).2 _ kk)))
end
end L3
namespace L3
open PySem PySem.Spec PyProof.Rows L2

def Itz3 (K : PySem.W.Frag) (a b c : Addr) : It :=
  ⟨fun i H => ∃ xs ys zs x y u, SqT K H a xs ∧ SqT K H b ys ∧ SqT K H c zs ∧ xs[i]? = some x ∧ ys[i]? = some y ∧ zs[i]? = some u,
   fun i H v H' => ∃ T x y u, v = .ref T ∧ H T = none ∧ H' = upd H T (.tup [x, y, u]) ∧ ∀ xs ys zs, SqT K H a xs → SqT K H b ys → SqT K H c zs → xs[i]? = some x ∧ ys[i]? = some y ∧ zs[i]? = some u,
   fun i H => ∃ xs ys zs, SqT K H a xs ∧ SqT K H b ys ∧ SqT K H c zs ∧ (xs.length ≤ i ∨ ys.length ≤ i ∨ zs.length ≤ i)⟩
theorem turn_zip3 {P : Program} {w : World} {K : PySem.W.Frag} {es : List Expr} {n : Nat} {pos : Pos} {a b c z TI TO i1 i2 i3 : Addr} (D : Apart3 z TI TO i1 i2 i3 a b c) :
    Turn P w K (.Tuple es n pos) (Itz3 K a b c) [z, TI, TO, i1, i2, i3] z (fun i h => IsZip h z TI TO .none ∧ Is3 h TI (.ref i1) (.ref i2) (.ref i3) ∧ (∃ x y u, Is3 h TO x y u) ∧ h.IsTupleIter i1 a i ∧ h.IsTupleIter i2 b i ∧ h.IsTupleIter i3 c i) where
  mem := by simp
  obj := fun i h st d hd => by
    obtain ⟨hz, hI, ⟨x, y, u, hO⟩, ⟨o1, e1, _, d1⟩, ⟨o2, e2, _, d2⟩, ⟨o3, e3, _, d3⟩⟩ := st
    have hd : d = z ∨ d = TI ∨ d = TO ∨ d = i1 ∨ d = i2 ∨ d = i3 := by simpa using hd
    rcases hd with rfl | rfl | rfl | rfl | rfl | rfl
    · exact ⟨_, hz, fun v e => by cases e⟩
    · exact ⟨_, hI, fun v e => by cases e⟩
    · exact ⟨_, hO, fun v e => by cases e⟩
    · exact ⟨_, e1, fun v e => by rw [d1] at e; cases e⟩
    · exact ⟨_, e2, fun v e => by rw [d2] at e; cases e⟩
    · exact ⟨_, e3, fun v e => by rw [d3] at e; cases e⟩
  keep := fun i h h' st k => by
    obtain ⟨hz, hI, ⟨x, y, u, hO⟩, h1, h2, h3⟩ := st
    exact ⟨k z (by simp) _ hz, k TI (by simp) _ hI, ⟨x, y, u, k TO (by simp) _ hO⟩, h1.at fun o e => k i1 (by simp) o e, h2.at fun o e => k i2 (by simp) o e, h3.at fun o e => k i3 (by simp) o e⟩
  item := by
    intro X hP hw hK hc i pins s σ H E I hf st hg
    subst hP hw hK
    obtain ⟨hz, hI, ⟨x0, y0, u0, hO⟩, h1, h2, h3⟩ := st
    obtain ⟨xs, ys, zs, x, y, u, hq1, hq2, hq3, hx, hy, hu⟩ := hg
    obtain ⟨its1, rv1, p1, _⟩ := I.tuple hq1
    obtain ⟨its2, rv2, p2, _⟩ := I.tuple hq2
    obtain ⟨its3, rv3, p3, _⟩ := I.tuple hq3
    obtain ⟨ux, hux, rx⟩ := rv1.get hx
    obtain ⟨uy, huy, ry⟩ := rv2.get hy
    obtain ⟨uu, huu, ru⟩ := rv3.get hu
    refine nextZip3 D hz hI hO h1 h2 h3 (show s.heap.IsTuple a its1.toArray from p1) (show s.heap.IsTuple b its2.toArray from p2) (show s.heap.IsTuple c its3.toArray from p3) (fun x' y' u' hx' hy' hu' h' z1 z2 z3 z4 z5 z6 kk => ?_) fun he => ?_
    · have e1 : x' = ux := by simpa [hux] using hx'.symm
      have e2 : y' = uy := by simpa [huy] using hy'.symm
      have e3 : u' = uu := by simpa [huu] using hu'.symm
      subst e1 e2 e3
      refine ⟨_, rfl, wpAny_letOwnedTupleGo_zip z1 fun h2' hz2 s2 => ?_⟩
      have T0 : H s.heap.objs.size = none := I.hok.fresh (Nat.le_refl _)
      have tz : s.heap.objs.size ≠ z := Nat.ne_of_gt (Heap.lt_size hz)
      have J : Inv X pins σ (upd H s.heap.objs.size (.tup [x, y, u])) { s with heap := h2' } := by
        refine inv_turns (ch := [z, TI, TO, i1, i2, i3]) I hf (Nat.le_refl _) (fun d o hd e => ?_) (fun d hd => ?_) ?_
        · have c1 : d ≠ z := fun q => hd (by simp [q])
          exact s2.extBut _ _ c1 (kk d o c1 (fun q => hd (by simp [q])) (fun q => hd (by simp [q])) (fun q => hd (by simp [q])) (fun q => hd (by simp [q])) e)
        · have hd : d = z ∨ d = TI ∨ d = TO ∨ d = i1 ∨ d = i2 ∨ d = i3 := by simpa using hd
          rcases hd with rfl | rfl | rfl | rfl | rfl | rfl
          · exact ⟨_, hz2⟩
          · exact ⟨_, s2.extBut _ _ D.TIz (kk _ _ D.TIz D.TITO D.TIi1 D.TIi2 D.TIi3 hI)⟩
          · exact ⟨_, s2.extBut _ _ D.TOz z2⟩
          · obtain ⟨o, e, _⟩ := z3; exact ⟨o, s2.extBut _ _ D.i1z e⟩
          · obtain ⟨o, e, _⟩ := z4; exact ⟨o, s2.extBut _ _ D.i2z e⟩
          · obtain ⟨o, e, _⟩ := z5; exact ⟨o, s2.extBut _ _ D.i3z e⟩
        · exact ⟨by show 3 ≤ sizeLine; decide, [x', y', u'], .cons rx (.cons ry (.cons ru .nil)), ⟨_, s2.extBut _ _ tz z6, rfl, _, rfl⟩⟩
      refine ⟨.ref s.heap.objs.size, _, J, rfl, ⟨_, x, y, u, rfl, T0, rfl, fun xs' ys' zs' q1 q2 q3 => ?_⟩, ⟨hz2, s2.extBut _ _ D.TIz (kk _ _ D.TIz D.TITO D.TIi1 D.TIi2 D.TIi3 hI), ⟨_, _, _, s2.extBut _ _ D.TOz z2⟩, z3.at fun o e => s2.extBut _ _ D.i1z e, z4.at fun o e => s2.extBut _ _ D.i2z e, z5.at fun o e => s2.extBut _ _ D.i3z e⟩, fun d hd => ?_⟩
      · rw [I.tuple_inj q1 hq1, I.tuple_inj q2 hq2, I.tuple_inj q3 hq3]; exact ⟨hx, hy, hu⟩
      · have hlt : d < s.heap.objs.size := by
          have hd : d = z ∨ d = TI ∨ d = TO ∨ d = i1 ∨ d = i2 ∨ d = i3 := by simpa using hd
          rcases hd with e | e | e | e | e | e <;> rw [e]
          · exact Heap.lt_size hz
          · exact Heap.lt_size hI
          · exact Heap.lt_size hO
          · obtain ⟨o, e, _⟩ := h1; exact Heap.lt_size e
          · obtain ⟨o, e, _⟩ := h2; exact Heap.lt_size e
          · obtain ⟨o, e, _⟩ := h3; exact Heap.lt_size e
        rw [upd_ne (Nat.ne_of_lt hlt)]; exact (hf d hd).1
    · exfalso
      rcases he with he | he | he
      · simp [hux] at he
      · simp [huy] at he
      · simp [huu] at he
  done := by
    intro X hP hw hK hc i pins s σ H E I hf st hg
    subst hP hw hK
    obtain ⟨hz, hI, ⟨x0, y0, u0, hO⟩, h1, h2, h3⟩ := st
    obtain ⟨xs, ys, zs, hq1, hq2, hq3, hl⟩ := hg
    obtain ⟨its1, rv1, p1, _⟩ := I.tuple hq1
    obtain ⟨its2, rv2, p2, _⟩ := I.tuple hq2
    obtain ⟨its3, rv3, p3, _⟩ := I.tuple hq3
    have l1 := rv1.length
    have l2 := rv2.length
    have l3 := rv3.length
    refine nextZip3 D hz hI hO h1 h2 h3 (show s.heap.IsTuple a its1.toArray from p1) (show s.heap.IsTuple b its2.toArray from p2) (show s.heap.IsTuple c its3.toArray from p3) (fun x' y' u' hx' hy' hu' h' z1 z2 z3 z4 z5 z6 kk => ?_) fun he => ⟨I.ok.hd hc, fun h' kk => ⟨rfl, ?_⟩⟩
    · exfalso
      have g1 : i < its1.length := by simpa using (Array.getElem?_eq_some_iff.mp hx').1
      have g2 : i < its2.length := by simpa using (Array.getElem?_eq_some_iff.mp hy').1
      have g3 : i < its3.length := by simpa using (Array.getElem?_eq_some_iff.mp hu').1
      omega
    · have hnc : ∀ d o, d ∉ [z, TI, TO, i1, i2, i3] → s.heap.get? d = some o → h'.get? d = some o := fun d o hd e => kk d o (fun q => hd (by simp [q])) (fun q => hd (by simp [q])) (fun q => hd (by simp [q])) (fun q => hd (by simp [q])) (fun q => hd (by simp [q])) e
      refine I.call' (s' := { s with heap := h' }) (ch := [z, TI, TO, i1, i2, i3]) rfl ⟨fun b o e _ _ hc => hnc b o hc e, fun b o e _ _ hc => ⟨o.slots, hnc b o hc e⟩, fun b o e n _ => n, fun b o e hc => ⟨o, hnc b o hc e⟩, fun _ _ e => e, fun _ _ _ e => e, fun b ps e => ⟨#[], by rw [e]; simp⟩⟩ (fun b u e => ?_) I.bare ?_
      · have nc : ∀ b u, H b = some u → b ∉ [z, TI, TO, i1, i2, i3] := fun b u e hb => by rw [(hf b hb).1] at e; cases e
        refine (I.hok b u e).stay (fun d v hd q => hnc d v ?_ q) (fun _ q => q) fun _ _ q => q
        rcases hd with q | q
        · rw [q]; exact nc b u e
        · exact nc d _ q
      · intro b hb
        obtain ⟨f0, f1, f2, f3, f4, f5⟩ := hf b hb
        exact ⟨f3, f1, f4, f5⟩
  self := fun _ _ _ _ _ st h => wpAny_pyIter_zip st.1 h
def iZip3 (K : PySem.W.Frag) (ta : TA) : TI := fun σ H R => ta σ H fun vs H1 => ∃ a b c xs ys zs, vs = [.ref a, .ref b, .ref c] ∧ SqT K H1 a xs ∧ SqT K H1 b ys ∧ SqT K H1 c zs ∧ R (Itz3 K a b c) H1
theorem r_zip3 {K : PySem.W.Frag} {ta : TA} {σ : St} {H : Hp} {R : It → Hp → Prop} (q : ta σ H fun vs H1 => ∃ a b c xs ys zs, vs = [.ref a, .ref b, .ref c] ∧ SqT K H1 a xs ∧ SqT K H1 b ys ∧ SqT K H1 c zs ∧ R (Itz3 K a b c) H1) : iZip3 K ta σ H R := q
theorem pi_zip3 {X : Cx} {K : PySem.W.Frag} {es : List Expr} {n : Nat} {tpos : Pos} {a b c : Expr} {ta : TA} {p pos : Pos} (hK : X.K = K) (hg : Gl X "zip") (hm : X.mg "zip" = none) (ha : PA X [a, b, c] ta)
    (hs : starEach [a, b, c] X.env = [(false, eval a X.env), (false, eval b X.env), (false, eval c X.env)] := by rfl) (hs2 : starEach [b, c] X.env = [(false, eval b X.env), (false, eval c X.env)] := by rfl) :
    PI X (.Tuple es n tpos) (.Call (.Name "zip" p) [a, b, c] [] pos) (iZip3 K ta) := by
  subst hK
  intro pins s σ H R I h
  refine Call_ (ld_blt I hg hm b_zip (PyProof.Rows.callWith_type1 (thn (ha pos pins s σ H _ I h) fun us s1 ⟨vs, H1, I1, r1, q1⟩ => ?_) (by rw [hs, hs2]) (by rw [hs2]; rfl)))
  obtain ⟨x, y, u, xs, ys, zs, e, hx, hy, hu, q⟩ := q1
  subst e
  cases r1 with
  | cons r rr =>
    cases rr with
    | cons r' rr =>
      cases rr with
      | cons r'' rr =>
        cases rr
        cases r
        cases r'
        cases r''
        obtain ⟨its1, rv1, p1, _⟩ := I1.tuple hx
        obtain ⟨its2, rv2, p2, _⟩ := I1.tuple hy
        obtain ⟨its3, rv3, p3, _⟩ := I1.tuple hu
        have lx : x < s1.heap.objs.size := p1.lt
        have ly : y < s1.heap.objs.size := p2.lt
        have lu : u < s1.heap.objs.size := p3.lt
        refine callZip3 (show s1.heap.IsTuple x its1.toArray from p1) (show s1.heap.IsTuple y its2.toArray from p2) (show s1.heap.IsTuple u its3.toArray from p3) fun h' m hm' z1 z2 z3 z4 z5 z6 kk => ?_
        subst hm'
        refine wpAny_pyIter_zip z1 ⟨_, [s1.heap.objs.size + 5, s1.heap.objs.size + 3, s1.heap.objs.size + 4, s1.heap.objs.size, s1.heap.objs.size + 1, s1.heap.objs.size + 2], _, _, H1, rfl, I1.kept (t' := s1.toks) kk, turn_zip3 ⟨?_, ?_, ?_, ?_, ?_, ?_, ?_, ?_, ?_, ?_, ?_, ?_, ?_, ?_, ?_, ?_, ?_, ?_, ?_, ?_, ?_, ?_, ?_⟩, ⟨z1, z2, ⟨_, _, _, z3⟩, z4, z5, z6⟩, fun d hd => ?last, q⟩
        case last =>
          have hd : d = s1.heap.objs.size + 5 ∨ d = s1.heap.objs.size + 3 ∨ d = s1.heap.objs.size + 4 ∨ d = s1.heap.objs.size ∨ d = s1.heap.objs.size + 1 ∨ d = s1.heap.objs.size + 2 := by simpa using hd
          have hge : s1.heap.objs.size ≤ d := by rcases hd with e | e | e | e | e | e <;> rw [e] <;> first | exact Nat.le_add_right _ _ | exact Nat.le_refl _
          exact I1.fpOk hge (I1.hok.fresh hge)
        all_goals (intro e; have e' : @Eq Nat _ _ := e; have lx' : @LT.lt Nat _ _ _ := lx; have ly' : @LT.lt Nat _ _ _ := ly; have lu' : @LT.lt Nat _ _ _ := lu; omega)

theorem for_zip3 {K : PySem.W.Frag} {a b c : Addr} {xs ys zs : List V} {g : TG} {tb : TS} {D : Ends} {σ : St} {H : Hp} (hy : ys.length = xs.length) (hz : zs.length = xs.length) (Pv : Nat → St → Hp → Prop) (h0 : Pv 0 σ H) (hl : ∀ i σ H, i ≤ xs.length → Pv i σ H → SqT K H a xs ∧ SqT K H b ys ∧ SqT K H c zs)
    (hs : ∀ i x y u T σ H, xs[i]? = some x → ys[i]? = some y → zs[i]? = some u → Pv i σ H → H T = none → g (.ref T) σ (upd H T (.tup [x, y, u])) fun σ2 H2 => tb { D with nx := Pv (i + 1), ct := Pv (i + 1), bk := D.nx } σ2 H2) (hd : ∀ σ H, Pv xs.length σ H → D.nx σ H) : ForW (Itz3 K a b c) g tb D σ H := by
  refine ⟨fun i m σ H => m = xs.length - i ∧ i ≤ xs.length ∧ Pv i σ H, ⟨xs.length, by simp, Nat.zero_le _, h0⟩, ?_⟩
  rintro i m σ H ⟨rfl, hi, p⟩
  obtain ⟨q1, q2, q3⟩ := hl i σ H hi p
  by_cases hlt : i < xs.length
  · refine .inr ⟨⟨xs, ys, zs, xs[i], ys[i], zs[i], q1, q2, q3, by simp [hlt], by simp [hy, hlt], by simp [hz, hlt]⟩, Pv (i + 1), fun σ' H' p' => ⟨xs.length - (i + 1), by omega, rfl, hlt, p'⟩, fun x H' y => ?_⟩
    obtain ⟨T, x', y', u', rfl, hT, rfl, hxy⟩ := y
    obtain ⟨r1, r2, r3⟩ := hxy _ _ _ q1 q2 q3
    exact hs i x' y' u' T σ H r1 r2 r3 p hT
  · have e : i = xs.length := by omega
    subst e
    exact .inl ⟨⟨xs, ys, zs, q1, q2, q3, .inl (Nat.le_refl _)⟩, hd σ H p⟩
end L3
namespace L3
open PySem PySem.Spec PyProof.Rows L2 PySem.SeqAt

theorem ints_vals : ∀ {vs : List Value} {ns : List Int}, IntsAre vs ns → Vals (ns.map V.int) vs
  | [], _, h => by cases h; exact .nil
  | _ :: _, _, h => by cases h with | cons n t h => exact .cons ⟨_, rfl⟩ (ints_vals h)
theorem ints_of : ∀ {vs : List Value} {ns : List Int}, vs.length = ns.length → (∀ (j : Nat) (v : Value), vs[j]? = some v → ∃ n t, ns[j]? = some n ∧ v = .int n t) → IntsAre vs ns
  | [], [], _, _ => .nil
  | [], _ :: _, h, _ => by simp at h
  | _ :: _, [], h, _ => by simp at h
  | v :: vs, n :: ns, hl, h => by
    obtain ⟨n', t, e1, e2⟩ := h 0 v rfl
    simp only [List.getElem?_cons_zero, Option.some.injEq] at e1
    subst e1 e2
    exact .cons _ _ (ints_of (by simpa using hl) fun j u hu => by
      obtain ⟨n2, t2, e3, e4⟩ := h (j + 1) u (by simpa using hu)
      exact ⟨n2, t2, by simpa using e3, e4⟩)
def rSortD : List V → Hp → VK → Prop := fun xs H Q => ∃ (a : Addr) (kvs : List (Key × V)) (ks : List Int), xs = [.ref a] ∧ Rd H a (.dK kvs) ∧ kvs.map (·.1) = ks.map Sum.inl ∧ ks.length < 64 ∧
  ∀ (ks' : List Int) (p : Addr), ks'.Perm ks → ks'.Pairwise (· ≤ ·) → H p = none → Q (.ref p) (upd H p (.lst (ks'.map V.int)))
theorem call_sortedD {X : Cx} (hc : X.calm = true) : CallR X (.builtin "sorted") rSortD := by
  intro pins s σ H xs us Q I r h
  obtain ⟨a, kvs, ks, rfl, e, hk, h64, q⟩ := h
  obtain ⟨u, rfl, rx⟩ := vals1 r
  cases rx
  have hh : X.A.handled = none := I.ok.hd hc
  obtain ⟨z, hd, vs, rel, dd⟩ := dk_rd I.hok e
  obtain ⟨ep, hat⟩ := dd.dictAt
  have hlv : vs.length = ks.length := by rw [← rel.length, ← List.length_map (f := (·.1)) (as := kvs), hk, List.length_map]
  refine Calls.call_function_entry kind_sorted plain_sorted entry_sorted (args_sorted1 _) ?_
  unfold Builtin.«sorted»
  refine wpAny_bind (m := checkCount "sorted" 1 1 _) (wpAny_pure ?_)
  refine wpAny_bind (PySem.W.kdu_collect (A := X.A.in1) (PySem.W.kdl_dict (knd := mixKind X.prog X.w) (kvs := vs) (ep := ep) hd) hh hat (by rw [hlv, sizeLine_eq]; omega) fun h' tk acc hk' hacc => ?_)
  have hl : acc.toList.length = ks.length := by rw [Array.length_toList, ← hlv]; exact hacc.1
  have hI : IntsAre acc.toList ks := ints_of hl fun j v hv => by
    obtain ⟨k, x, e1, e2⟩ := hacc.2 j v (by rw [← Array.getElem?_toList]; exact hv)
    have e3 : (kvs.map (·.1))[j]? = some k := by
      have e4 : ∀ {kvs : List (Key × V)} {vs : List (Key × Value)}, KV kvs vs → kvs.map (·.1) = vs.map (·.1) := fun r => by
        unfold KV at r
        induction r with
        | nil => rfl
        | cons r1 r2 ih => rw [List.map_cons, List.map_cons, r1.1, ih]
      rw [e4 rel, List.getElem?_map, e1]; rfl
    rw [hk, List.getElem?_map] at e3
    obtain ⟨n, e5, e6⟩ := Option.map_eq_some_iff.mp e3
    rcases keyIs_shape e2 with ⟨i, t, e7, e8⟩ | ⟨x, t, e7, e8⟩
    · rw [e7] at e6
      cases e6
      exact ⟨_, t, e5, e8⟩
    · rw [e7] at e6; cases e6
  refine wpAny_bind (wpAny_newList ?_ (by rw [hl, sizeLine_eq]; omega))
  have hoL : (h'.push (seqObj "list" acc.toList.toArray 0)).get? h'.objs.size = some (seqObj "list" acc.toList.toArray 0) := Heap.get?_push_size _ rfl
  show wpAny _ _ _ _ _ { s with heap := h'.push (seqObj "list" acc.toList.toArray 0), toks := tk }
  refine wpAny_bind (wpAny_holding (wpAny_call_entry slot_list_sort ⟨_, hoL, rfl⟩ entry_list_sort (list_sort_tree hoL hI (by omega) fun out ns' a1 a2 a3 => ⟨_, rfl, ?_⟩) (args_list_sort _)))
  have I1 : Inv X pins σ H { s with heap := h', toks := tk } := I.un (Un.kept hk') (I.hok.kept hk')
  obtain ⟨e9, he⟩ := sortedHeap_at (out := out) hoL
  have hn : H h'.objs.size = none := I1.hok.fresh (Nat.le_refl _)
  refine wpAny_pure ⟨_, rfl, .ref h'.objs.size, _, I1.laid (o := .lst (ns'.map V.int)) (fun b o hb' => ?_) (Nat.le_refl _) ⟨?_, out.toList, e9, ints_vals a1, ?_⟩, rfl, q ns' _ a2 a3 hn⟩
  · have hlt := Heap.lt_size hb'
    rw [sortedHeap_old (Nat.ne_of_lt hlt) (by rw [size_push']; exact Nat.lt_succ_of_lt hlt)]
    exact Heap.get?_push_of_some _ hb'
  · rw [List.length_map, a2.length_eq, sizeLine_eq]; omega
  · exact he
theorem r_sortD {a : Addr} {kvs : List (Key × V)} {ks : List Int} {H : Hp} {Q : VK} (h : H a = some (.dK kvs)) (hk : kvs.map (·.1) = ks.map Sum.inl) (hl : ks.length < 64)
    (q : ∀ (ks' : List Int) (p : Addr), ks'.Perm ks → ks'.Pairwise (· ≤ ·) → H p = none → Q (.ref p) (upd H p (.lst (ks'.map V.int)))) : rSortD [.ref a] H Q := ⟨a, kvs, ks, rfl, .inl h, hk, hl, q⟩

end L3
namespace L3
open PySem PySem.Spec PyProof.Rows L2 PySem.SeqAt

section
variable {P : Program} {w : World} {K : PySem.W.Frag} {mg : Str → Option Value} {base : Heap} {dv : Value}
end
section
variable {X : Cx} {CX : CXT} {k : Nat} {C : Addr} {dV : V} {sp : Sp} {E : XK} {x m : Str} {p pos apos : Pos} {e o : Expr} {es : List Expr} {ta : TE} {t : TA}
end
section
variable {P : Program} {w : World} {K : PySem.W.Frag} {mg : Str → Option Value} {base : Heap} {x qual : Str} {st : Stmt} {N ps : List Str} {sp : Sp} {C : Addr}
end

end L3
namespace FB
open PySem PySem.Spec PyProof.Rows L2 L3 PySem.SeqAt


inductive Rw where
  | set (b n : Int) | copy (b o : Int) | add (b o t : Int) | sub (b o t : Int) | mul (b o t : Int) | less (b o t : Int)
  | grow (m : Int) | shrink (m : Int) | put (b c : Int) | get (b c : Int)
  | jump (t : Int) | branch (b t : Int) | call (t : Int) | back (b : Int) | drop (b : Int)
def isBox (b : Int) : Prop := 0 ≤ b ∧ b ≤ 7
def isVal (n : Int) : Prop := 0 ≤ n ∧ n ≤ 4294967295
def isMany (n : Int) : Prop := 0 ≤ n ∧ n ≤ 4000
def isTgt (n : Int) : Prop := 0 ≤ n ∧ n ≤ 2000
def Rw.ok : Rw → Prop
  | .set b n => isBox b ∧ isVal n
  | .copy b o => isBox b ∧ isBox o
  | .add b o t | .sub b o t | .mul b o t | .less b o t => isBox b ∧ isBox o ∧ isBox t
  | .grow m | .shrink m => isMany m
  | .put b c | .get b c => isBox b ∧ isMany c
  | .jump t | .call t => isTgt t
  | .branch b t => isBox b ∧ isTgt t
  | .back b | .drop b => isBox b
def gI (xs : List Int) (i : Int) : Int := xs.getD i.toNat 0
def sI (xs : List Int) (i v : Int) : List Int := xs.set i.toNat v
theorem sI_len (xs : List Int) (i v : Int) : (sI xs i v).length = xs.length := by unfold sI; exact List.length_set ..
theorem gI_at {xs : List Int} {i : Int} (h0 : 0 ≤ i) (h1 : i < xs.length) : atI (xs.map V.int) i = some (.int (gI xs i)) := by
  have e : i = ((i.toNat : Nat) : Int) := by omega
  have hl : i.toNat < xs.length := by omega
  have z : atI (xs.map V.int) ((i.toNat : Nat) : Int) = some (.int (gI xs i)) := atI_nat (by
    rw [List.getElem?_map, List.getElem?_eq_getElem hl]
    simp [gI, List.getD, List.getElem?_eq_getElem hl])
  rw [← e] at z; exact z
theorem r_lenI {K : PySem.W.Frag} {p : Addr} {xs : List Int} {H : Hp} {Q : VK} (h : SqL K H p (xs.map V.int)) (q : Q (.int xs.length) H) : rLen K [.ref p] H Q := r_lenL h (by rw [List.length_map]; exact q)
def cutI (xs : List Int) (lo hi : Option Int) : List Int := (xs.drop (HT.sIx xs.length 0 lo)).take (HT.sIx xs.length xs.length hi - HT.sIx xs.length 0 lo)
theorem cutV_map (xs : List Int) (lo hi : Option Int) : cutV (xs.map V.int) lo hi = (cutI xs lo hi).map V.int := by
  unfold cutV cutI; rw [List.length_map, List.map_take, List.map_drop]
theorem cutI_len (xs : List Int) (lo hi : Option Int) : (cutI xs lo hi).length ≤ xs.length := by
  unfold cutI; rw [List.length_take, List.length_drop]; omega
theorem r_slI {K : PySem.W.Frag} {p : Addr} {xs : List Int} {lo hi : Option Int} {H : Hp} {Q : VK} (h : SqL K H p (xs.map V.int)) (q : ∀ l, H l = none → Q (.ref l) (upd H l (.lst ((cutI xs lo hi).map V.int)))) : rSlA K (.ref p) lo hi H Q :=
  r_slL h (by rw [cutV_map]; exact q)
def Rw.goes : Rw → Int → List Int
  | .jump t, _ => [t]
  | .branch _ t, a => [a + 1, t]
  | .back _, _ => []
  | .drop _, _ => []
  | _, a => [a + 1]
def Rw.height : Rw → Int → Option Int
  | .grow m, h => if h + m > 4000 then none else some (h + m)
  | .shrink m, h => if h < m then none else some (h - m)
  | .put _ c, h => if h ≤ c then none else some h
  | .get _ c, h => if h ≤ c then none else some h
  | _, h => some h

def fillS (s p src : Nat) : Nat := if s &&& src = 0 then Bt.wo s p else s ||| p
def Rw.keep : Rw → Nat → Int → Nat
  | .set b _, s, _ | .add b _ _, s, _ | .sub b _ _, s, _ | .mul b _ _, s, _ | .less b _ _, s, _ => Bt.wo s (2 ^ b.toNat)
  | .copy b o, s, _ => fillS s (2 ^ b.toNat) (2 ^ o.toNat)
  | .shrink m, s, h => Bt.wo s ((2 ^ m.toNat - 1) * 2 ^ (8 + h - m).toNat)
  | .put b c, s, h => fillS s (2 ^ (8 + h - 1 - c).toNat) (2 ^ b.toNat)
  | .get b c, s, h => fillS s (2 ^ b.toNat) (2 ^ (8 + h - 1 - c).toNat)
  | .call _, s, _ => Bt.wo s 143
  | _, s, _ => s
def Rw.told : Rw → Str × List Int
  | .set b n => ("set", [b, n])
  | .copy b o => ("copy", [b, o])
  | .add b o t => ("add", [b, o, t])
  | .sub b o t => ("sub", [b, o, t])
  | .mul b o t => ("mul", [b, o, t])
  | .less b o t => ("less", [b, o, t])
  | .grow m => ("grow", [m])
  | .shrink m => ("shrink", [m])
  | .put b c => ("put", [b, c])
  | .get b c => ("get", [b, c])
  | .jump t => ("jump", [t])
  | .branch b t => ("branch", [b, t])
  | .call t => ("call", [t])
  | .back b => ("back", [b])
  | .drop b => ("drop", [b])

def Rw.flds : Rw → List (Str × V)
  | .set b n => putF "number" (.int n) (putF "box" (.int b) [])
  | .copy b o => putF "one" (.int o) (putF "box" (.int b) [])
  | .add b o t | .sub b o t | .mul b o t | .less b o t => putF "other" (.int t) (putF "one" (.int o) (putF "box" (.int b) []))
  | .grow m | .shrink m => putF "many" (.int m) []
  | .put b c | .get b c => putF "cell" (.int c) (putF "box" (.int b) [])
  | .jump t | .call t => putF "target" (.int t) []
  | .branch b t => putF "target" (.int t) (putF "box" (.int b) [])
  | .back b | .drop b => putF "box" (.int b) []
structure Adr where
  C_Row : Addr
  C_Set : Addr
  C_Copy : Addr
  C_Add : Addr
  C_Sub : Addr
  C_Mul : Addr
  C_Less : Addr
  C_Grow : Addr
  C_Shrink : Addr
  C_Put : Addr
  C_Get : Addr
  C_Jump : Addr
  C_Branch : Addr
  C_Call : Addr
  C_Back : Addr
  C_Drop : Addr
  C_Reckoning : Addr
  C_Reaching : Addr
  C_FrameError : Addr
  C_NoRow : Addr
  C_NoTable : Addr
  C_NoText : Addr
  C_Table : Addr
  C_Reading : Addr
  C_Machine : Addr
  C_Astray : Addr
  C_NoProgram : Addr
  C_NoLine : Addr
  C_NoName : Addr
  G_START : Addr
  G_WHICH : Addr
  G_COUNTS : Addr
  G_KEPT_BOXES : Addr
  G_SET_NAMES : Addr
  G_PARTS : Addr
  G_UNCOUNTED : Addr
def Rw.cls (a : Adr) : Rw → Addr
  | .set .. => a.C_Set
  | .copy .. => a.C_Copy
  | .add .. => a.C_Add
  | .sub .. => a.C_Sub
  | .mul .. => a.C_Mul
  | .less .. => a.C_Less
  | .grow .. => a.C_Grow
  | .shrink .. => a.C_Shrink
  | .put .. => a.C_Put
  | .get .. => a.C_Get
  | .jump .. => a.C_Jump
  | .branch .. => a.C_Branch
  | .call .. => a.C_Call
  | .back .. => a.C_Back
  | .drop .. => a.C_Drop

def RowAt (a : Adr) (H : Hp) (p : Addr) (r : Rw) : Prop := ∃ dx, H p = some (.ins (r.cls a) dx r.flds)
theorem RowAt.same {a : Adr} {H H' : Hp} {p : Addr} {r : Rw} (h : RowAt a H p r) (s : Same H H') : RowAt a H' p r := let ⟨dx, e⟩ := h; ⟨dx, s _ _ e⟩


def spBounded : Sp := fun vs H Q _ => ∃ n top : Int, vs = [.int n, .int top] ∧ 0 ≤ n ∧ n ≤ top ∧ Q (.int n) H
def kpInit (H : Hp) (x dx C : Addr) (fs : List (Str × V)) (Q : VK) : Prop := H x = some (.ins C dx []) ∧ ∀ H', (∀ b o, H b = some o → b ≠ x → H' b = some o) → H' x = some (.ins C dx fs) → Q .non H'
def spIni1 (C : Addr) (mk : Int → Rw) : Sp := fun vs H Q _ => ∃ (x dx : Addr) (i : Int), vs = [.ref x, .int i] ∧ (mk i).ok ∧ kpInit H x dx C (mk i).flds Q
def spIni2 (C : Addr) (mk : Int → Int → Rw) : Sp := fun vs H Q _ => ∃ (x dx : Addr) (i j : Int), vs = [.ref x, .int i, .int j] ∧ (mk i j).ok ∧ kpInit H x dx C (mk i j).flds Q
def spIni3 (C : Addr) (mk : Int → Int → Int → Rw) : Sp := fun vs H Q _ => ∃ (x dx : Addr) (i j k : Int), vs = [.ref x, .int i, .int j, .int k] ∧ (mk i j k).ok ∧ kpInit H x dx C (mk i j k).flds Q
theorem kp_make {C : Addr} {a : Adr} {r : Rw} {H : Hp} {Q : VK} (hc : r.cls a = C) (q : ∀ p H', Same H H' → H p = none → RowAt a H' p r → Q (.ref p) H') {x dx : Addr} (hx : H x = none) (hdx : H dx = none) :
    kpInit (upd (upd H dx (.own x)) x (.ins C dx [])) x dx C r.flds (fun v H2 => v = .non ∧ Q (.ref x) H2) := by
  refine ⟨upd_same, fun H' kp hH' => ⟨rfl, q x H' (fun b o e => ?_) hx ⟨dx, by rw [hc]; exact hH'⟩⟩⟩
  exact kp b o (by rw [upd_ne (ne_of_none e hx), upd_ne (ne_of_none e hdx)]; exact e) (ne_of_none e hx)
theorem r_row1 {C : Addr} {mk : Int → Rw} {a : Adr} {i : Int} {H : Hp} {Q : VK} {E : XK} (hk : (mk i).ok) (hc : (mk i).cls a = C) (q : ∀ p H', Same H H' → H p = none → RowAt a H' p (mk i) → Q (.ref p) H') :
    ∀ x dx, H x = none → H dx = none → dx ≠ x → spIni1 C mk (.ref x :: [.int i]) (upd (upd H dx (.own x)) x (.ins C dx [])) (fun v H2 => v = .non ∧ Q (.ref x) H2) E := fun x dx hx hdx _ => ⟨x, dx, i, rfl, hk, kp_make hc q hx hdx⟩
theorem r_row2 {C : Addr} {mk : Int → Int → Rw} {a : Adr} {i j : Int} {H : Hp} {Q : VK} {E : XK} (hk : (mk i j).ok) (hc : (mk i j).cls a = C) (q : ∀ p H', Same H H' → H p = none → RowAt a H' p (mk i j) → Q (.ref p) H') :
    ∀ x dx, H x = none → H dx = none → dx ≠ x → spIni2 C mk (.ref x :: [.int i, .int j]) (upd (upd H dx (.own x)) x (.ins C dx [])) (fun v H2 => v = .non ∧ Q (.ref x) H2) E := fun x dx hx hdx _ => ⟨x, dx, i, j, rfl, hk, kp_make hc q hx hdx⟩
theorem kp_two {H : Hp} {x : Addr} {o1 o2 : HO} : ∀ b o, H b = some o → b ≠ x → upd (upd H x o1) x o2 b = some o := fun b o e ne => by rw [upd_ne ne, upd_ne ne]; exact e
theorem kp_one {H : Hp} {x : Addr} {o1 : HO} : ∀ b o, H b = some o → b ≠ x → upd H x o1 b = some o := fun b o e ne => by rw [upd_ne ne]; exact e
theorem kp_three {H : Hp} {x : Addr} {o1 o2 o3 : HO} : ∀ b o, H b = some o → b ≠ x → upd (upd (upd H x o1) x o2) x o3 b = some o := fun b o e ne => by rw [upd_ne ne, upd_ne ne, upd_ne ne]; exact e

def spGoes (a : Adr) (r : Rw) : Sp := fun vs H Q _ => ∃ (x : Addr) (n : Int), vs = [.ref x, .int n] ∧ RowAt a H x r ∧ ∀ p, H p = none → Q (.ref p) (upd H p (.lst ((r.goes n).map V.int)))
def optV : Option Int → V
  | none => .non
  | some i => .int i
def spHeight (a : Adr) (r : Rw) : Sp := fun vs H Q _ => ∃ (x : Addr) (h : Int), vs = [.ref x, .int h] ∧ RowAt a H x r ∧ Q (optV (r.height h)) H
def spTold (a : Adr) (r : Rw) : Sp := fun vs H Q _ => ∃ (x : Addr), vs = [.ref x] ∧ RowAt a H x r ∧ ∀ p, H p = none → Q (.ref p) (upd H p (.tup (.str r.told.1 :: r.told.2.map V.int)))

def spKeeps (a : Adr) (r : Rw) : Sp := fun vs H Q _ => ∃ (x : Addr) (s : Nat) (h : Int), vs = [.ref x, .int (s : Int), .int h] ∧ RowAt a H x r ∧ r.ok ∧ 0 ≤ h ∧ h ≤ 4000 ∧ (r.height h).isSome = true ∧ Q (.int (r.keep s h : Nat)) H
def spBoxPl : Sp := fun vs H Q _ => ∃ b : Int, vs = [.int b] ∧ 0 ≤ b ∧ b ≤ 7 ∧ Q (.int ((2 ^ b.toNat : Nat) : Int)) H
def spCellPl : Sp := fun vs H Q _ => ∃ c h : Int, vs = [.int c, .int h] ∧ 0 ≤ c ∧ c < h ∧ h ≤ 4000 ∧ Q (.int ((2 ^ (8 + h - 1 - c).toNat : Nat) : Int)) H
def spWithout : Sp := fun vs H Q _ => ∃ s p : Nat, vs = [.int (s : Int), .int (p : Int)] ∧ Q (.int (Bt.wo s p : Nat)) H
def spFilled : Sp := fun vs H Q _ => ∃ s p t : Nat, vs = [.int (s : Int), .int (p : Int), .int (t : Int)] ∧ Q (.int (fillS s p t : Nat)) H
theorem r_boxPl {b : Int} {H : Hp} {Q : VK} {E : XK} (h0 : 0 ≤ b) (h1 : b ≤ 7) (q : Q (.int ((2 ^ b.toNat : Nat) : Int)) H) : spBoxPl [.int b] H Q E := ⟨b, rfl, h0, h1, q⟩
theorem r_cellPl {c h : Int} {H : Hp} {Q : VK} {E : XK} (h0 : 0 ≤ c) (h1 : c < h) (h2 : h ≤ 4000) (q : Q (.int ((2 ^ (8 + h - 1 - c).toNat : Nat) : Int)) H) : spCellPl [.int c, .int h] H Q E := ⟨c, h, rfl, h0, h1, h2, q⟩
theorem r_without {s p : Nat} {H : Hp} {Q : VK} {E : XK} (q : Q (.int (Bt.wo s p : Nat)) H) : spWithout [.int (s : Int), .int (p : Int)] H Q E := ⟨s, p, rfl, q⟩
theorem r_filled {s p t : Nat} {H : Hp} {Q : VK} {E : XK} (q : Q (.int (fillS s p t : Nat)) H) : spFilled [.int (s : Int), .int (p : Int), .int (t : Int)] H Q E := ⟨s, p, t, rfl, q⟩
theorem r_bounded {n top : Int} {H : Hp} {Q : VK} {E : XK} (h0 : 0 ≤ n) (h1 : n ≤ top) (q : Q (.int n) H) : spBounded [.int n, .int top] H Q E := ⟨n, top, rfl, h0, h1, q⟩
def cellAt (ns : List Int) (k : Int) : Int := ns.getD k.toNat 0
def spCellAt (K : PySem.W.Frag) : Sp := fun vs H Q _ => ∃ (p : Addr) (ns : List Int) (k : Int), vs = [.ref p, .int k] ∧ SqL K H p (ns.map V.int) ∧ 0 ≤ k ∧ Q (.int (cellAt ns k)) H
theorem r_cellAt {K : PySem.W.Frag} {p : Addr} {ns : List Int} {k : Int} {H : Hp} {Q : VK} {E : XK} (h : SqL K H p (ns.map V.int)) (h0 : 0 ≤ k) (q : Q (.int (cellAt ns k)) H) : spCellAt K [.ref p, .int k] H Q E := ⟨p, ns, k, rfl, h, h0, q⟩
theorem cellAt_out {ns : List Int} {k : Int} (h0 : 0 ≤ k) (h : ¬ k < ns.length) : cellAt ns k = 0 := by
  unfold cellAt
  rw [List.getD_eq_getElem?_getD, List.getElem?_eq_none (by omega)]
  rfl
def spLaw (K : PySem.W.Frag) : Sp := fun vs H Q _ => ∃ (a : Addr) (ns : List Int), vs = [.ref a] ∧ SqL K H a (ns.map V.int) ∧ ns.length ≤ 63 ∧ ∀ H', Q (.bl true) H'
theorem look_of {fs : List (Str × V)} {f g : Str} {v w : V} (h : f ≠ g) (e : fs.lookup f = some w) : (putF g v fs).lookup f = some w := by rw [lookup_putF, if_neg h]; exact e
theorem look_hit {fs : List (Str × V)} {f : Str} {v : V} : (putF f v fs).lookup f = some v := by rw [lookup_putF, if_pos rfl]
theorem look_no {fs : List (Str × V)} {f g : Str} {v : V} (h : f ≠ g) (e : fs.lookup f = none) : (putF g v fs).lookup f = none := by rw [lookup_putF, if_neg h]; exact e
theorem len_of {fs : List (Str × V)} {f : Str} {v : V} {n : Nat} (e : fs.length ≤ n) : (putF f v fs).length ≤ n + 1 := Nat.le_trans (length_putF _ _ _) (Nat.succ_le_succ e)
end FB
namespace L3
open PySem PySem.Spec PyProof.Rows L2 PySem.SeqAt

section
variable {prog : Program} {w : World} {A : Around} {E : Value → Shared → Prop} {h : Heap} {g : Array GenState} {d : Drawn} {t : Nat} {os : OsState}
variable {nm q : Str} {C N : Addr} {bs bm bmB : List Value} {hdct : Bool} {sn : List Str} {sub : List Value} {ab : Bool} {col : Option Bool} {dd : Option Addr} {k0 k1 k2 k3 k5 : Option Value} {B Bn newId nid initId inN : String} {bmN : List Value}
end
end L3
namespace L3
open PySem PySem.Spec PyProof.Rows L2 PySem.SeqAt

end L3
namespace L3
open PySem PySem.Spec PyProof.Rows L2 PySem.SeqAt PySem.W Builtin Builtin.ObjectAttr

section
variable {prog : Program} {w : World} {A : Around} {E : Value → Shared → Prop} {s : Shared} {K : PySem.W.Frag} {x C t : Addr} {name : Str} {v : Value}
end
end L3
namespace L3
open PySem PySem.Spec PyProof.Rows L2 PySem.SeqAt
section
variable {X : Cx} {pins : List (Addr × Obj)} {σ : L2.St} {H : Hp} {s : Shared} {a C : Addr} {f : Str} {A : Around} {E : Value → Shared → Prop}
end

end L3
namespace L3
open PySem PySem.Spec PyProof.Rows L2 PySem.SeqAt

section
variable {M : Model} {A : Around} {E : Value → Shared → Prop} {s : Shared}

end
end L3
namespace L3
open PySem PySem.Spec PyProof.Rows L2 PySem.SeqAt
section
variable {M : Model} {A : Around} {E : Value → Shared → Prop} {env : Env}
variable {nm q : Str} {C N : Addr} {bs bm : List Value} {hdct : Bool} {sn : List Str} {sub : List Value} {ab : Bool} {col : Option Bool} {dd : Option Addr} {k0 k1 k2 k3 k5 : Option Value} {newId : String}
end
section
variable {prog : Program} {w : World} {A : Around} {E : Value → Shared → Prop} {s : Shared} {env : Env}
variable {nm q : Str} {C N : Addr} {bs bm bmB : List Value} {hdct : Bool} {sn : List Str} {sub : List Value} {ab : Bool} {col : Option Bool} {dd : Option Addr} {k0 k1 k2 k3 k5 : Option Value} {B Bn newId nid initId inN : String} {bmN : List Value}
end

end L3
namespace L3
open PySem PySem.Spec PyProof.Rows L2 PySem.SeqAt

section
variable {P : Program} {w : World} {K : PySem.W.Frag} {mg : Str → Option Value} {base : Heap} {x qual : Str} {st : Stmt} {N ps : List Str} {sp : Sp} {C : Addr} {k : Nat}
end

section
variable {X : Cx} {pins : List (Addr × Obj)} {σ : L2.St} {H : Hp} {s : Shared} {k : Nat} {g x n : Str} {sp : Sp} {e : Expr} {es : List Expr} {t : TA} {tx : TEX} {ta : TAX} {te : TE} {gp cpos pos py : Pos}
end
end L3
namespace L3
open PySem PySem.Spec PyProof.Rows L2 PySem.SeqAt PySem.W Builtin Builtin.ObjectAttr
section
variable {prog : Program} {w : World} {A : Around} {E : Value → Shared → Prop} {s : Shared} {K : PySem.W.Frag} {x C dx : Addr} {ox od : Obj} {name : Str} {v : Value}
end

section
variable {X : Cx} {pins : List (Addr × Obj)} {σ : L2.St} {C fI : Addr}
end
end L3
namespace L3
open PySem PySem.Spec PyProof.Rows L2 PySem.SeqAt

end L3
namespace L3
open PySem PySem.Spec PyProof.Rows L2 PySem.SeqAt
end L3
namespace L3
open PySem PySem.Spec PyProof.Rows L2 PySem.SeqAt

section
variable {prog : Program} {w : World} {A : Around} {E : Value → Shared → Prop} {s : Shared}
end
end L3
namespace L3
open PySem PySem.Spec PyProof.Rows L2 PySem.SeqAt
section
variable {M : Model} {A : Around} {E : Value → Shared → Prop}
variable {nm q : Str} {D N : Addr} {bs bm : List Value} {hdct : Bool} {sn : List Str} {sub : List Value} {ab : Bool} {col : Option Bool} {dd : Option Addr} {k0 k1 k2 k3 k5 : Option Value} {newId : String}

end
section
variable {X : Cx} {pins : List (Addr × Obj)} {σ : St} {H H1 H' : Hp} {s s1 s' : Shared} {ea C : Addr}
end
end L3
namespace L3
open PySem PySem.Spec PyProof.Rows L2

section
variable {prog : Program} {w : World} {A : Around} {E : Value → Shared → Prop} {s : Shared}
end
end L3
namespace L3
open PySem PySem.Spec PyProof.Rows L2
theorem r_chain {r r' : R2} {ta tb tc : TE} {σ : L2.St} {H : Hp} {Q : VK} (h : ta σ H fun x H1 => tb σ H1 fun y H2 => r x y H2 fun z H3 => ∃ k, z = .bl k ∧ (if k then tc σ H3 fun u H4 => r' y u H4 Q else Q (.bl false) H3)) : tChain r r' ta tb tc σ H Q := h
end L3
namespace L3
open PySem PySem.Spec PyProof.Rows L2 PySem.SeqAt

section
variable {X : Cx} {k : Nat} {x m : Str} {e o : Expr} {es : List Expr} {ta : TE} {t : TA} {apos cpos pos py : Pos}
end
end L3
namespace L3
open PySem PySem.Spec PyProof.Rows L2 PySem.SeqAt

section
variable {X : Cx} {pins : List (Addr × Obj)} {σ : L2.St} {C fI : Addr}
end
end L3
namespace L3
open PySem PySem.Spec PyProof.Rows L2 PySem.SeqAt

section
variable {prog : Program} {w : World} {A : Around} {E : Value → Shared → Prop} {s : Shared}
end

section
variable {M : Model} {A : Around} {E : Value → Shared → Prop} {s : Shared}
end
end L3
namespace L3
open PySem PySem.Spec PyProof.Rows L2 PySem.SeqAt

section
variable {X : Cx} {pins : List (Addr × Obj)} {σ : L2.St} {H : Hp} {s : Shared}

end
end L3
namespace L3
open PySem PySem.Spec PyProof.Rows L2 PySem.SeqAt

end L3
namespace L3
open PySem PySem.Spec PyProof.Rows L2 PySem.SeqAt

end L3
namespace L3
open PySem PySem.Spec PyProof.Rows L2 PySem.SeqAt

theorem dpAll_get {K : PySem.W.Frag} {H : Hp} : ∀ {ds : List PyData} {vs : List V} {i : Nat} {e : PyData}, DpAll K H ds vs → ds[i]? = some e → ∃ v, vs[i]? = some v ∧ Dp K H e v
  | [], _, _, _, _, e => by simp at e
  | d :: ds, vs, i, e, h, he => by
    rw [DpAll] at h
    obtain ⟨v, r, rfl, h1, h2⟩ := h
    cases i with
    | zero => simp at he; subst he; exact ⟨v, rfl, h1⟩
    | succ i =>
      obtain ⟨u, hu, hd⟩ := dpAll_get (i := i) h2 (by simpa using he)
      exact ⟨u, by simpa using hu, hd⟩
theorem dpAll_len {K : PySem.W.Frag} {H : Hp} : ∀ {ds : List PyData} {vs : List V}, DpAll K H ds vs → vs.length = ds.length
  | [], vs, h => by rw [DpAll] at h; rw [h]; rfl
  | d :: ds, vs, h => by
    rw [DpAll] at h
    obtain ⟨v, r, rfl, h1, h2⟩ := h
    rw [List.length_cons, List.length_cons, dpAll_len h2]
def rNotInD (K : PySem.W.Frag) : R2 := fun x y H Q => ∃ p xs d ds, y = .ref p ∧ SqL K H p xs ∧ DpAll K H ds xs ∧ Dp K H d x ∧ shaped d = true ∧ d.depth ≤ 8 ∧ (∀ e ∈ ds, shaped e = true) ∧ Q (.bl (!(ds.any fun e => e.eqv d))) H
theorem op_notInD {X : Cx} (hu : X.A.units + 64 < cLine) : OpR X (compareOp .NotIn) (rNotInD X.K) := by
  intro pins s σ H x y v u Q I rx ry h
  obtain ⟨p, xs, d, ds, rfl, hq, ha, hd, sd, d8, sds, q⟩ := h
  cases ry
  obtain ⟨its, r, pl, hz⟩ := I.list hq
  obtain ⟨as, ra⟩ := dp_reads I d x v hd rx
  have hl1 := dpAll_len ha
  have hl2 := r.length
  have pt : ∀ (i : Nat) (y : Value) (e : PyData), its[i]? = some y → ds[i]? = some e → EqAt X.A.in1 s y v (e.eqv d) := fun i y e hy he => by
    obtain ⟨w', hw, hdp⟩ := dpAll_get ha he
    obtain ⟨y', hy', ry'⟩ := r.get hw
    rw [hy] at hy'; cases hy'
    obtain ⟨bs, rb⟩ := dp_reads I e w' y hdp ry'
    refine eqAt_reads e d _ s y v bs as rb ra (canLay_of e (sds e (List.mem_of_getElem? he))) (canLay_of d sd) ?_
    show X.A.units + 1 + min e.depth d.depth < cLine
    omega
  classical
  refine SeqAt.notIn_listAt (fun y => decide (∃ (i : Nat) (e : PyData), its[i]? = some y ∧ ds[i]? = some e ∧ e.eqv d = true)) pl.isList (fun y hy => ?_) ⟨.bl _, H, I, rfl, ?_⟩
  · obtain ⟨i, hi, e⟩ := List.mem_iff_getElem.mp (show y ∈ its by simpa using hy)
    have hy1 : its[i]? = some y := by rw [List.getElem?_eq_getElem hi, e]
    have hi2 : i < ds.length := by omega
    have hd1 : ds[i]? = some ds[i] := List.getElem?_eq_getElem hi2
    by_cases hx : ∃ (i : Nat) (e : PyData), its[i]? = some y ∧ ds[i]? = some e ∧ e.eqv d = true
    · obtain ⟨j, e', h1, h2, h3⟩ := id hx
      rw [decide_eq_true hx, ← h3]
      exact pt j y e' h1 h2
    · rw [decide_eq_false hx]
      have : ds[i].eqv d = false := by
        cases hh : ds[i].eqv d with
        | false => rfl
        | true => exact absurd ⟨i, _, hy1, hd1, hh⟩ hx
      rw [← this]
      exact pt i y _ hy1 hd1
  · have e : (its.toArray.any fun y => decide (∃ (i : Nat) (e : PyData), its[i]? = some y ∧ ds[i]? = some e ∧ e.eqv d = true)) = ds.any fun e => e.eqv d := by
      rw [Bool.eq_iff_iff]
      simp only [List.any_toArray, List.any_eq_true, decide_eq_true_eq]
      constructor
      · rintro ⟨y, _, i, e, _, h2, h3⟩
        exact ⟨e, List.mem_of_getElem? h2, h3⟩
      · rintro ⟨e, he, h3⟩
        obtain ⟨i, hi, ee⟩ := List.mem_iff_getElem.mp he
        have hi2 : i < its.length := by omega
        exact ⟨its[i], List.getElem_mem hi2, i, e, List.getElem?_eq_getElem hi2, by rw [List.getElem?_eq_getElem hi, ee], h3⟩
    rw [e]; exact q
theorem op_notInDK {X : Cx} {K : PySem.W.Frag} (h : X.K = K) (hu : X.A.units + 64 < cLine) : OpR X (compareOp .NotIn) (rNotInD K) := by subst h; exact op_notInD hu
theorem r_notInD {K : PySem.W.Frag} {x : V} {p : Addr} {xs : List V} {d : PyData} {ds : List PyData} {H : Hp} {Q : VK} (h : SqL K H p xs) (ha : DpAll K H ds xs) (hd : Dp K H d x) (sd : shaped d = true) (d8 : d.depth ≤ 8) (sds : ∀ e ∈ ds, shaped e = true) (q : Q (.bl (!(ds.any fun e => e.eqv d))) H) : rNotInD K x (.ref p) H Q := ⟨p, xs, d, ds, rfl, h, ha, hd, sd, d8, sds, q⟩
def rAllI (K : PySem.W.Frag) : List V → Hp → VK → Prop := fun xs H Q => ∃ (p : Addr) (ns : List Int), xs = [.ref p] ∧ SqL K H p (ns.map V.int) ∧ Q (.bl (ns.all fun n => n != 0)) H
theorem all_rangeI (ns : List Int) : (List.range ns.length).all (fun i => ns.getD i 0 != 0) = ns.all fun n => n != 0 := by
  induction ns with
  | nil => rfl
  | cons b r ih =>
    rw [List.length_cons, List.range_succ_eq_map, List.all_cons, List.all_cons, List.all_map, ← ih]
    rfl
theorem call_allI {X : Cx} (hc : X.calm = true) : CallR X (.builtin "all") (rAllI X.K) := by
  intro pins s σ H xs us Q I r h
  obtain ⟨p, bs, rfl, hq, q⟩ := h
  obtain ⟨u, rfl, rx⟩ := vals1 r
  cases rx
  obtain ⟨its, rv, pl, hz⟩ := I.list hq
  have hlen := rv.length
  rw [List.length_map] at hlen
  have hlt : p < s.heap.objs.size := by obtain ⟨o, e, _⟩ := pl.isList; exact Heap.lt_size e
  refine call_all_walk (wpAny_pyIter_list pl.isList ?_)
  refine ⟨s.heap.objs.size, _, _, _, _, _, fun i => bs.getD i 0 != 0, rfl, Walks.list (by exact I.ok.hd hc) s.heap.objs.size p (Nat.ne_of_lt hlt) its.toArray, ⟨⟨_, Heap.get?_push_size _ rfl, rfl, rfl⟩, pl.isList.push _⟩, ?_, ?_⟩
  · intro i v s' Q' E' hP hQ'
    have hP' : its[i]? = some v := by simpa using hP
    have hi : i < its.length := (List.getElem?_eq_some_iff.mp hP').1
    have hb : (bs.map V.int)[i]? = some (V.int (bs.getD i 0)) := by
      rw [List.getElem?_map, List.getElem?_eq_getElem (by omega)]
      simp [List.getD, List.getElem?_eq_getElem (show i < bs.length by omega)]
    obtain ⟨u', hu', ru'⟩ := rv.get hb
    rw [hP'] at hu'
    cases hu'
    obtain ⟨t, rfl⟩ := (show ∃ t, v = Value.int _ t from ru')
    exact PySem.P.truthy_int hQ'
  · intro h' tk kk
    have e : (List.range its.toArray.size).all (fun i => bs.getD i 0 != 0) = bs.all fun n => n != 0 := by
      rw [List.size_toArray, ← hlen]; exact all_rangeI bs
    rw [e]
    refine ⟨.bl _, H, ?_, rfl, q⟩
    have I1 : Inv X pins σ H { s with heap := s.heap.push { cls := .type "list_iterator", data := .fields #[.ref p, .int 0 0] } } := I.kept (t' := s.toks) fun b o e => Heap.get?_push_of_some _ e
    have f := I.fpOk (H' := H) (Nat.le_refl _) I.fresh
    exact I1.turned (it := s.heap.objs.size) (h' := h') (t' := tk) (fun b o hb e => kk b o (by simpa using hb) e) f.1 f.2.1 f.2.2.2.1 f.2.2.2.2.1 f.2.2.2.2.2
theorem call_allIK {X : Cx} {K : PySem.W.Frag} (h : X.K = K) (hc : X.calm = true) : CallR X (.builtin "all") (rAllI K) := by subst h; exact call_allI hc
theorem r_allI {K : PySem.W.Frag} {p : Addr} {ns : List Int} {H : Hp} {Q : VK} (h : SqL K H p (ns.map V.int)) (q : Q (.bl (ns.all fun n => n != 0)) H) : rAllI K [.ref p] H Q := ⟨p, ns, rfl, h, q⟩
end L3
namespace L3
open PySem PySem.Spec PyProof.Rows L2 PySem.SeqAt

def rAny (K : PySem.W.Frag) : List V → Hp → VK → Prop := fun xs H Q => ∃ (p : Addr) (bs : List Bool), xs = [.ref p] ∧ SqL K H p (bs.map V.bl) ∧ Q (.bl (bs.any id)) H
theorem any_range (bs : List Bool) : (List.range bs.length).any (fun i => bs.getD i false) = bs.any id := by
  induction bs with
  | nil => rfl
  | cons b r ih =>
    rw [List.length_cons, List.range_succ_eq_map, List.any_cons, List.any_cons, List.any_map, ← ih]
    rfl
theorem call_anyB {X : Cx} (hc : X.calm = true) : CallR X (.builtin "any") (rAny X.K) := by
  intro pins s σ H xs us Q I r h
  obtain ⟨p, bs, rfl, hq, q⟩ := h
  obtain ⟨u, rfl, rx⟩ := vals1 r
  cases rx
  obtain ⟨its, rv, pl, hz⟩ := I.list hq
  have hlen := rv.length
  rw [List.length_map] at hlen
  have hlt : p < s.heap.objs.size := by obtain ⟨o, e, _⟩ := pl.isList; exact Heap.lt_size e
  refine call_any_walk (wpAny_pyIter_list pl.isList ?_)
  refine ⟨s.heap.objs.size, _, _, _, _, _, fun i => bs.getD i false, rfl, Walks.list (by exact I.ok.hd hc) s.heap.objs.size p (Nat.ne_of_lt hlt) its.toArray, ⟨⟨_, Heap.get?_push_size _ rfl, rfl, rfl⟩, pl.isList.push _⟩, ?_, ?_⟩
  · intro i v s' Q' E' hP hQ'
    have hP' : its[i]? = some v := by simpa using hP
    have hi : i < its.length := (List.getElem?_eq_some_iff.mp hP').1
    have hb : (bs.map V.bl)[i]? = some (V.bl (bs.getD i false)) := by
      rw [List.getElem?_map, List.getElem?_eq_getElem (by omega)]
      simp [List.getD, List.getElem?_eq_getElem (show i < bs.length by omega)]
    obtain ⟨u', hu', ru'⟩ := rv.get hb
    rw [hP'] at hu'
    cases hu'
    cases (show v = Value.bool _ from ru')
    exact wpAny_truthy_bool hQ'
  · intro h' tk kk
    have e : (List.range its.toArray.size).any (fun i => bs.getD i false) = bs.any id := by
      rw [List.size_toArray, ← hlen]; exact any_range bs
    rw [e]
    refine ⟨.bl _, H, ?_, rfl, q⟩
    have I1 : Inv X pins σ H { s with heap := s.heap.push { cls := .type "list_iterator", data := .fields #[.ref p, .int 0 0] } } := I.kept (t' := s.toks) fun b o e => Heap.get?_push_of_some _ e
    have f := I.fpOk (H' := H) (Nat.le_refl _) I.fresh
    exact I1.turned (it := s.heap.objs.size) (h' := h') (t' := tk) (fun b o hb e => kk b o (by simpa using hb) e) f.1 f.2.1 f.2.2.2.1 f.2.2.2.2.1 f.2.2.2.2.2
theorem call_anyK {X : Cx} {K : PySem.W.Frag} (h : X.K = K) (hc : X.calm = true) : CallR X (.builtin "any") (rAny K) := by subst h; exact call_anyB hc
theorem r_anyB {K : PySem.W.Frag} {p : Addr} {bs : List Bool} {H : Hp} {Q : VK} (h : SqL K H p (bs.map V.bl)) (q : Q (.bl (bs.any id)) H) : rAny K [.ref p] H Q := ⟨p, bs, rfl, h, q⟩
def rMaxL (K : PySem.W.Frag) : List V → Hp → VK → Prop := fun xs H Q => ∃ (p : Addr) (ns : List Int), xs = [.ref p] ∧ SqL K H p (ns.map V.int) ∧ 0 < ns.length ∧ ∀ m ∈ ns, Q (.int m) H
theorem call_maxL {X : Cx} (hc : X.calm = true) : CallR X (.builtin "max") (rMaxL X.K) := by
  intro pins s σ H xs us Q I r h
  obtain ⟨p, ns, rfl, hq, h0, q⟩ := h
  obtain ⟨u, rfl, rx⟩ := vals1 r
  cases rx
  obtain ⟨its, rv, pl, hz⟩ := I.list hq
  have hlen := rv.length
  rw [List.length_map] at hlen
  have hlt : p < s.heap.objs.size := by obtain ⟨o, e, _⟩ := pl.isList; exact Heap.lt_size e
  have ats : ∀ (i : Nat) (v : Value), its[i]? = some v → ∃ n t, ns[i]? = some n ∧ v = .int n t := fun i v hv => by
    have hi : i < its.length := (List.getElem?_eq_some_iff.mp hv).1
    have hn : ns[i]? = some ns[i] := List.getElem?_eq_getElem (by omega)
    obtain ⟨u', hu', ru'⟩ := rv.get (show (ns.map V.int)[i]? = some (V.int ns[i]) by rw [List.getElem?_map, hn]; rfl)
    rw [hv] at hu'
    cases hu'
    obtain ⟨t, e⟩ := (show ∃ t, v = Value.int ns[i] t from ru')
    exact ⟨_, t, hn, e⟩
  refine call_max_walk (wpAny_pyIter_list pl.isList ?_)
  refine ⟨s.heap.objs.size, _, _, _, _, _, fun i j => decide (ns.getD i 0 > ns.getD j 0), rfl, Walks.list (by exact I.ok.hd hc) s.heap.objs.size p (Nat.ne_of_lt hlt) its.toArray, ⟨⟨_, Heap.get?_push_size _ rfl, rfl, rfl⟩, pl.isList.push _⟩, ?_, ?_, ?_, ?_⟩
  · intro b hb
    simp only [List.mem_cons, List.not_mem_nil, or_false] at hb
    have hsz : (s.heap.push { cls := .type "list_iterator", data := .fields #[.ref p, .int 0 0] }).objs.size = s.heap.objs.size + 1 := by simp [Heap.push]
    show b < (s.heap.push _).objs.size
    rw [hsz]
    rcases hb with e | e
    · rw [e]; exact Nat.lt_succ_self _
    · rw [e]; exact Nat.lt_succ_of_lt hlt
  · rw [List.size_toArray, ← hlen]; exact h0
  · refine CmpOf.ints_gt (fun i => ns.getD i 0) ?_
    intro i v hv
    obtain ⟨n, t, hn, e⟩ := ats i v (by simpa using hv)
    exact ⟨t, by rw [e, List.getD_eq_getElem?_getD, hn]; rfl⟩
  · intro v h' tk hv kk
    obtain ⟨n, t, hn, e⟩ := ats _ v (by simpa using hv)
    refine ⟨.int n, H, ?_, ⟨t, e⟩, q n (List.mem_of_getElem? hn)⟩
    have I1 : Inv X pins σ H { s with heap := s.heap.push { cls := .type "list_iterator", data := .fields #[.ref p, .int 0 0] } } := I.kept (t' := s.toks) fun b o e => Heap.get?_push_of_some _ e
    have f := I.fpOk (H' := H) (Nat.le_refl _) I.fresh
    exact I1.turned (it := s.heap.objs.size) (h' := h') (t' := tk) (fun b o hb e => kk b o (by simpa using hb) e) f.1 f.2.1 f.2.2.2.1 f.2.2.2.2.1 f.2.2.2.2.2
theorem call_maxLK {X : Cx} {K : PySem.W.Frag} (h : X.K = K) (hc : X.calm = true) : CallR X (.builtin "max") (rMaxL K) := by subst h; exact call_maxL hc
theorem r_maxL {K : PySem.W.Frag} {p : Addr} {ns : List Int} {H : Hp} {Q : VK} (h : SqL K H p (ns.map V.int)) (h0 : 0 < ns.length) (q : ∀ m ∈ ns, Q (.int m) H) : rMaxL K [.ref p] H Q := ⟨p, ns, rfl, h, h0, q⟩
end L3
namespace L3
open PySem PySem.Spec PyProof.Rows L2 PySem.SeqAt

def rNeLen (K : PySem.W.Frag) : R2 := fun x y H Q => ∃ p q xs ys, x = .ref p ∧ y = .ref q ∧ SqL K H p xs ∧ SqL K H q ys ∧ xs.length ≠ ys.length ∧ Q (.bl true) H
theorem op_neLen {X : Cx} (hu : X.A.units + 64 < cLine) : OpR X (compareOp .NotEq) (rNeLen X.K) := by
  intro pins s σ H x y v u Q I rx ry h
  obtain ⟨p, q, xs, ys, rfl, rfl, h1, h2, hn, k⟩ := h
  cases rx; cases ry
  obtain ⟨its, r1, pl1, _⟩ := I.list h1
  obtain ⟨jts, r2, pl2, _⟩ := I.list h2
  have l1 := r1.length
  have l2 := r2.length
  refine RcNeAt.lists_lengths pl1.isList pl2.isList ?_ (by omega) _ _ _ _ ⟨.bl true, H, I, rfl, k⟩
  simp only [List.size_toArray, bne_iff_ne]
  omega
theorem op_neLA {X : Cx} {K : PySem.W.Frag} (h : X.K = K) (hu : X.A.units + 64 < cLine) : OpR X (compareOp .NotEq) (fun x y H Q => rNeA K x y H Q ∨ rNeLen K x y H Q) := by subst h; exact (op_neA hu).or (op_neLen hu)
end L3

namespace FB
open PySem PySem.Spec PyProof.Rows L2 L3 PySem.SeqAt
local macro_rules | `(tactic| walk_at "clok") => `(tactic| repeat (first | exact True.intro | refine ⟨rfl, ?_⟩))
local macro_rules | `(tactic| walk_at "frok") => `(tactic| repeat (first | exact True.intro | refine ⟨⟨rfl, (by first | exact Or.inl rfl | exact Or.inr rfl), (by first | exact Or.inl rfl | exact Or.inr rfl), rfl⟩, ?_⟩))
local macro_rules | `(tactic| walk_at "hlk") => `(tactic| first | (with_reducible assumption) | (exact upd_same) | ((with_reducible refine' look_new ?x ?y); (case y => with_reducible assumption); (case x => walk_at "hlk")) | ((fail_if_success (((with_reducible refine' look_new ?x ?y); (case y => with_reducible assumption)))); (with_reducible refine' look_ne ?x ?y); (case x => walk_at "ne"); (case y => walk_at "hlk")) | ((with_reducible refine' same_at ?x ?y); (case x => with_reducible assumption); (case y => walk_at "hlk")))
local macro_rules | `(tactic| walk_at "ne") => `(tactic| first | (with_reducible assumption) | (apply Ne.symm; (with_reducible assumption)) | ((with_reducible refine' ne_of_none ?x ?y); (case y => with_reducible assumption); (case x => walk_at "hlk")) | (apply Ne.symm; (with_reducible refine' ne_of_none ?x ?y); (case y => with_reducible assumption); (case x => walk_at "hlk")))
local macro_rules | `(tactic| walk_at "sql") => `(tactic| first | (with_reducible assumption) | (refine' SqL.of ?x; (case x => first | (with_reducible assumption) | (exact upd_same))) | ((with_reducible refine' sql_new ?x ?y); (case y => with_reducible assumption); (case x => walk_at "sql")) | ((fail_if_success (((with_reducible refine' sql_new ?x ?y); (case y => with_reducible assumption)))); first | ((with_reducible refine' sql_upd ?s ?h ?q); (case h => with_reducible assumption); (case s => walk_at "same"); (case q => walk_at "sql")) | (refine' SqL.of ?x; (case x => (with_reducible refine' look_ne ?x2 ?y2); (case x2 => walk_at "ne"); (case y2 => walk_at "hlk")))) | ((with_reducible refine' Same.seq ?x ?y); (case x => with_reducible assumption); (case y => walk_at "sql")))
local macro_rules | `(tactic| walk_at "sqt") => `(tactic| first | (with_reducible assumption) | (refine' SqT.of ?x; (case x => first | (with_reducible assumption) | (exact upd_same))) | ((with_reducible refine' sqt_new ?x ?y); (case y => with_reducible assumption); (case x => walk_at "sqt")) | ((fail_if_success (((with_reducible refine' sqt_new ?x ?y); (case y => with_reducible assumption)))); first | ((with_reducible refine' sqt_upd ?s ?h ?q); (case h => with_reducible assumption); (case s => walk_at "same"); (case q => walk_at "sqt")) | (refine' SqT.of ?x; (case x => (with_reducible refine' look_ne ?x2 ?y2); (case x2 => walk_at "ne"); (case y2 => walk_at "hlk")))) | ((with_reducible refine' SqT_same ?x ?y); (case x => with_reducible assumption); (case y => walk_at "sqt")))
local macro_rules | `(tactic| walk_at "lk") => `(tactic| first | (with_reducible exact look_hit) | (refine' look_of ?x ?y; (case x => decide +kernel); (case y => walk_at "lk")) | exact look_hit)
local macro_rules | `(tactic| walk_at "nolk") => `(tactic| first | (with_reducible rfl) | (refine' look_no ?x ?y; (case x => decide +kernel); (case y => walk_at "nolk")) | rfl)
local macro_rules | `(tactic| walk_at "fewf") => `(tactic| first | exact Nat.lt_of_le_of_lt (Nat.le_refl 0) (by decide) | exact Nat.lt_of_le_of_lt (len_of (Nat.le_refl 0)) (by decide) | exact Nat.lt_of_le_of_lt (len_of (len_of (Nat.le_refl 0))) (by decide) | exact Nat.lt_of_le_of_lt (len_of (len_of (len_of (Nat.le_refl 0)))) (by decide))
local macro_rules | `(tactic| walk_at "small") => `(tactic| first | exact Nat.le_of_ble_eq_true rfl | (show _ ≤ sizeLine; rw [sizeLine_eq]; first | omega | (simp only [List.length_map, List.length_cons, List.length_nil, List.length_append, List.length_replicate, List.length_set, List.length_range]; omega)))
local macro_rules | `(tactic| walk_at "r1") => `(tactic| with_reducible first
  | refine r_var (by with_unfolding_all rfl) ?_
  | refine r_c ?_ | refine r_op ?_ | refine r_I0 ?_ | refine r_plusI ?_ | refine r_seq ?_ | refine r_asg ?_ | (refine' r_gN ?x ?_; (case x => simp only [List.set_cons_succ, List.set_cons_zero]; rfl)) | refine r_ret ?_ | refine r_ifS ?_ | refine r_test ?_
  | refine r_cons ?_ | refine r_nil ?_ | refine r_cb ?_ | refine r_callE ?_ | refine r_makeE ?_ | refine r_methE ?_ | refine r_fld ?_ | refine r_tru ?_ | refine r_truB ?_ | refine r_truI ?_
  | refine r_not ?_ | refine r_and ?_ | refine r_or ?_ | refine r_next ?_ | refine r_drop ?_ | refine r_sFld ?_ | refine r_retN ?_ | refine r_un ?_ | refine r_U ?_ | refine r_if ?_
  | refine r_andV ?_ | refine r_orV ?_ | refine r_notV ?_ | refine r_sl ?_ | refine r_part ?_ | refine r_noPart ?_ | refine r_bm ?_ | refine r_bm0 ?_ | refine r_tup ?_ | refine r_lst ?_ | refine r_two ?_
  | (refine' r_compE' ?x ?_; (case x => with_unfolding_all rfl)) | (refine' r_compS' ?x ?_; (case x => with_unfolding_all rfl)) | refine r_for ?_ | refine r_iSeq ?_ | refine r_rng1 ?_ | refine r_rng2 ?_ | refine r_true ?_
  | refine r_isNr ?_ | refine r_isNn ?_ | refine r_isNi ?_ | refine r_notNr ?_ | refine r_notNn ?_ | refine r_notNi ?_
  | refine iteT ?_ | refine iteF ?_ | refine iteNT ?_ | refine iteNF ?_
  | refine ⟨_, rfl, ?_⟩)
local macro_rules | `(tactic| walk_at "r2") => `(tactic| first
  | ((with_reducible refine' r_fldV ?h ?c ?n ?l ?_); (case h => walk_at "hlk"); (case c => walk_at "cls"); (case n => walk_at "noat"); (case l => walk_at "lk"))
  | ((with_reducible refine' r_sFldV ?h ?c ?n ?l ?_); (case h => walk_at "hlk"); (case c => walk_at "cls"); (case n => walk_at "noat"); (case l => walk_at "fewf"))
  | ((with_reducible refine' r_lenI ?h ?_); (case h => walk_at "sql"))
  | ((with_reducible refine' r_lenL ?h ?_); (case h => walk_at "sql"))
  | ((with_reducible refine' r_lenT ?h ?_); (case h => walk_at "sqt"))
  | ((with_reducible refine' r_listL ?h ?_); (case h => walk_at "sql"))
  | ((with_reducible refine' r_listT ?h ?_); (case h => walk_at "sqt"))
  | ((with_reducible refine' r_eqS ?h ?_); (case h => rfl))
  | ((with_reducible refine' r_neS ?h ?_); (case h => rfl)))
local macro_rules | `(tactic| walk_at "none") => `(tactic| first | (with_reducible assumption) | ((with_reducible refine' none_same ?x ?y); (case y => with_reducible assumption); (case x => walk_at "same")))
local macro_rules | `(tactic| walk_at "same") => `(tactic| first | (with_reducible assumption) | (with_reducible exact Same.refl _) | ((with_reducible refine' same_none ?x ?y); (case y => with_reducible assumption); (case x => walk_at "same")) | ((fail_if_success (((with_reducible refine' same_none ?x ?y); (case y => with_reducible assumption)))); (with_reducible refine' same_upd ?x ?y); (case y => walk_at "none"); (case x => walk_at "same")) | ((with_reducible refine' Same.trans ?x ?y); (case y => with_reducible assumption); (case x => walk_at "same")))
local macro_rules | `(tactic| walk_at "tt") => `(tactic| first | assumption | omega | with_unfolding_all rfl | decide | (simp only [List.length_map, List.length_cons, List.length_nil, List.length_append, List.length_replicate, List.length_set, sI_len]; omega))
local macro_rules | `(tactic| walk_at "nn") => `(tactic| first | assumption | omega | decide | (simp only [List.length_map, List.length_cons, List.length_nil, List.length_append, List.length_replicate, List.length_set, sI_len]; omega))
local macro_rules | `(tactic| walk_at "cond") => `(tactic| first
  | ((with_reducible refine' r_I ?h ?_); (case h => first | exact ⟨by decide, by decide⟩ | (show (0 : Int) < _; first | decide | omega) | (show (0 : Int) ≤ _; first | decide | omega)))
  | ((with_reducible refine' r_ifB ?x ?_); (case x => intro hh; exact absurd hh (by decide)); intro _)
  | ((with_reducible refine' r_ifB ?_ ?x); (case x => intro hh; exact absurd hh (by decide)); intro _)
  | ((with_reducible refine' ifInt ?x ?_); (case x => intro hh; exact absurd hh (by walk_at "nn")); intro _)
  | ((with_reducible refine' ifInt ?_ ?x); (case x => intro hh; exact absurd (by walk_at "tt") hh); intro _)
  | ((with_reducible refine' ifIntN ?x ?_); (case x => intro hh; exact absurd (by walk_at "tt") hh); intro _)
  | ((with_reducible refine' ifIntN ?_ ?x); (case x => intro hh; exact absurd hh (by walk_at "nn")); intro _)
  | ((with_reducible refine' ifDec ?x ?_); (case x => intro hh; exact absurd hh (by walk_at "nn")); intro _)
  | ((with_reducible refine' ifDec ?_ ?x); (case x => intro hh; exact absurd (by walk_at "tt") hh); intro _)
  | ((with_reducible refine' ifDecN ?x ?_); (case x => intro hh; exact absurd (by walk_at "tt") hh); intro _)
  | ((with_reducible refine' ifDecN ?_ ?x); (case x => intro hh; exact absurd hh (by walk_at "nn")); intro _))
local macro_rules | `(tactic| walk_at "at") => `(tactic| first | assumption | ((with_reducible refine' gI_at ?x ?y); (case x => walk_at "tt"); (case y => walk_at "tt")) | ((with_reducible refine' gI_neg ?x ?y); (case x => walk_at "tt"); (case y => walk_at "tt")) | rfl)
local macro_rules | `(tactic| walk_at "calls") => `(tactic| first
  | ((with_reducible refine' r_bounded ?a ?b ?_); (case a => omega); (case b => omega))
  | ((with_reducible refine' r_withBox ?h ?a ?b ?_); (case h => walk_at "sql"); (case a => omega); (case b => omega))
  | ((with_reducible refine' r_cellAt ?h ?a ?_); (case h => walk_at "sql"); (case a => omega))
  | (with_reducible refine r_whole ?_) | (with_reducible refine r_without ?_) | (with_reducible refine r_filled ?_)
  | ((with_reducible refine' r_boxPl ?a ?b ?_); (case a => omega); (case b => omega))
  | ((with_reducible refine' r_cellPl ?a ?b ?c ?_); (case a => omega); (case b => omega); (case c => omega))
  | ((with_reducible refine' r_setI ?x ?y ?z ?_); (case x => walk_at "hlk"); (case y => walk_at "tt"); (case z => walk_at "tt"))
  | ((with_reducible refine' r_setIN ?x ?y ?z ?_); (case x => walk_at "hlk"); (case y => walk_at "tt"); (case z => walk_at "tt"))
  | ((with_reducible refine' r_ixT ?h ?e ?_); (case h => walk_at "sqt"); (case e => walk_at "at"))
  | ((with_reducible refine' r_ixL ?h ?e ?_); (case h => walk_at "sql"); (case e => walk_at "at"))
  | (with_reducible refine r_gSub ?_))
local macro_rules | `(tactic| walk_at "ty") => `(tactic| first | (with_reducible exact TyOf.int _) | (with_reducible exact TyOf.bl _) | (with_reducible exact TyOf.str _) | (with_reducible exact TyOf.non) | (refine' TyOf.lst ?x; (case x => walk_at "hlk")) | (refine' TyOf.tup ?x; (case x => walk_at "hlk")))
local macro_rules | `(tactic| walk_at "dp") => `(tactic| first | (with_reducible exact dp_int _) | (with_reducible exact dp_str _) | (with_reducible exact dp_bool _) | (with_reducible exact dp_none) | ((with_reducible refine' dp_ints ?x); (case x => walk_at "sql")) | ((with_reducible refine' dp_lst ?x ?y); (case x => walk_at "sql"); (case y => walk_at "dps")) | ((with_reducible refine' dp_tup ?x ?y); (case x => walk_at "sqt"); (case y => walk_at "dps")))
local macro_rules | `(tactic| walk_at "dps") => `(tactic| first | (with_reducible exact dpAll_nil) | ((with_reducible refine' dpAll_cons ?x ?y); (case x => walk_at "dp"); (case y => walk_at "dps")))
local macro_rules | `(tactic| walk_at "shaped") => `(tactic| first | exact shaped_ints _ | (unfold shaped; simp [PyData.canLay0, PyData.canLayAll0, canLay_ints, PyData.depth, PyData.depthAll, depth_ints]))
local macro_rules | `(tactic| walk_at "eqd") => `(tactic| first
  | ((with_reducible refine' r_eqT ?d ?x ?y ?s ?_); (case x => walk_at "dp"); (case y => walk_at "dp"); (case s => walk_at "shaped"))
  | ((with_reducible refine' r_neT ?d ?x ?y ?s ?_); (case x => walk_at "dp"); (case y => walk_at "dp"); (case s => walk_at "shaped")))
local macro_rules | `(tactic| walk_at "r3") => `(tactic| first
  | (with_reducible refine r_alloc (fun _ _ => ?_))
  | ((with_reducible refine' r_small ?x ?_); (case x => walk_at "small"))
  | ((with_reducible refine' r_62 ?x ?y ?_); (case x => walk_at "tt"); (case y => walk_at "tt"))
  | ((with_reducible refine' r_62b ?x ?y ?z ?u ?_); (case x => walk_at "tt"); (case y => walk_at "tt"); (case z => walk_at "tt"); (case u => walk_at "tt"))
  | ((with_reducible refine' r_itL ?x ?_); (case x => walk_at "sql"))
  | ((with_reducible refine' r_itT ?x ?_); (case x => walk_at "sqt"))
  | ((with_reducible refine' r_slI ?x ?_); (case x => walk_at "sql"))
  | ((with_reducible refine' r_slL ?x ?_); (case x => walk_at "sql"))
  | ((with_reducible refine' r_timesZ ?x ?y ?z ?_); (case x => walk_at "hlk"); (case y => walk_at "tt"); (case z => walk_at "tt"))
  | ((with_reducible refine' r_plusII ?x ?y ?z ?_); (case x => walk_at "hlk"); (case y => walk_at "hlk"); (case z => walk_at "small"))
  | ((with_reducible refine' r_tyL ?x ?_); (case x => walk_at "hlk"))
  | ((with_reducible refine' r_timesI ?h ?_); (case h => walk_at "cmul"))
  | ((with_reducible refine' r_sum ?h ?_); (case h => walk_at "sql"))
  | ((with_reducible refine' r_inT ?h ?x ?y ?_); (case h => walk_at "sqt"); (case x => rfl); (case y => rfl))
  | ((with_reducible refine' r_clear ?x ?_); (case x => walk_at "hlk"))
  | ((with_reducible refine' r_append ?x ?y ?_); (case x => walk_at "hlk"); (case y => walk_at "small"))
  | ((with_reducible refine' r_isi ?c ?t ?e ?_); (case c => exact fun z => nomatch z); (case t => walk_at "ty"); (case e => walk_at "kit")))
local macro_rules | `(tactic| walk_at "rd") => `(tactic| repeat (first | walk_at "r1" | walk_at "r3" | walk_at "r2" | walk_at "cond" | walk_at "calls" | walk_at "mine"))
local macro_rules | `(tactic| walk_at "rds") => `(tactic| repeat' (first | walk_at "r1" | walk_at "r3" | walk_at "r2" | walk_at "cond" | walk_at "calls" | walk_at "mine" | walk_at "cs"))
local macro_rules | `(tactic| walk_at "sp") => `(tactic| (repeat' split) <;> first | assumption | rfl | (exfalso; omega))
local macro_rules | `(tactic| walk_at "rok") => `(tactic| first | assumption | exact ⟨by omega, by omega⟩)
local macro_rules | `(tactic| walk_at "cmul") => `(tactic| first | exact Or.inl ⟨by decide, by decide⟩ | exact Or.inr ⟨by decide, by decide⟩ | exact Or.inl ⟨by omega, by omega⟩ | exact Or.inr ⟨by omega, by omega⟩)

set_option hygiene false
local macro_rules | `(tactic| walk_at "cs") => `(tactic| with_reducible first | refine ifInt (fun hh => ?_) (fun hh => ?_) | refine ifIntN (fun hh => ?_) (fun hh => ?_) | refine ifDec (fun hh => ?_) (fun hh => ?_) | refine ifDecN (fun hh => ?_) (fun hh => ?_) | (refine' r_ixDi ?h (fun hh => ?_) (fun hh => ?_); (case h => walk_at "sql")) | (refine' r_ixD ?h (fun hh => ?_) (fun hh => ?_); (case h => walk_at "sql")))
local macro_rules | `(tactic| walk_at "tf") => `(tactic| (show Q _ _; refine' q _ _ _ _ ?zs ?znt ?znb ?znp ?ze1 ?ze2 ?ze3 ?zt ?zb ?zp; (case zt => walk_at "hlk"); (case zb => walk_at "hlk"); (case zp => walk_at "hlk"); (case zs => walk_at "same"); (case znt => walk_at "none"); (case znb => walk_at "none"); (case znp => walk_at "none"); (case ze1 => walk_at "ne"); (case ze2 => walk_at "ne"); (case ze3 => walk_at "ne")))

local macro_rules | `(tactic| walk_at "cls") => `(tactic| first | assumption | exact T.cl_Jump | exact T.cl_Branch | exact T.cl_Call | exact T.cl_Back | exact T.cl_Drop | exact T.cl_Set | exact T.cl_Copy | exact T.cl_Add | exact T.cl_Grow | exact T.cl_Shrink | exact T.cl_Put | exact T.cl_Get | exact T.cl_Table)
local macro_rules | `(tactic| walk_at "noat") => `(tactic| first | assumption | exact T.n_Jump_target | exact T.n_Branch_box | exact T.n_Branch_target | exact T.n_Call_target | exact T.n_Back_box | exact T.n_Drop_box | exact T.n_Set_box | exact T.n_Set_number | exact T.n_Copy_box | exact T.n_Copy_one | exact T.n_Add_box | exact T.n_Add_one | exact T.n_Add_other | exact T.n_Grow_many | exact T.n_Shrink_many | exact T.n_Put_box | exact T.n_Put_cell | exact T.n_Get_box | exact T.n_Get_cell | exact T.n_Table_entries | exact T.n_Table_landings)
local macro_rules | `(tactic| walk_at "kit") => `(tactic| first | assumption | exact T.k_list_list | exact T.k_tuple_tuple | exact T.k_int_bool | exact T.is_Set_Call | exact T.is_Set_Back | exact T.is_Copy_Call | exact T.is_Copy_Back | exact T.is_Add_Call | exact T.is_Add_Back | exact T.is_Grow_Call | exact T.is_Grow_Back | exact T.is_Shrink_Call | exact T.is_Shrink_Back | exact T.is_Put_Call | exact T.is_Put_Back | exact T.is_Get_Call | exact T.is_Get_Back | exact T.is_Jump_Call | exact T.is_Jump_Back | exact T.is_Branch_Call | exact T.is_Branch_Back | exact T.is_Call_Call | exact T.is_Call_Back | exact T.is_Back_Call | exact T.is_Back_Back | exact T.is_Drop_Call | exact T.is_Drop_Back)
set_option hygiene true
def top (i : Nat) : Stmt := PySem.Challenge.pw_frameback_k31_the_checker_by_its_words.main.body.getD i (.Pass ⟨0, 0, 0, 0⟩)
abbrev s_bounded : Stmt := top 9
theorem sc_bounded : FnScope ["number", "top"] ["number", "top"] (defScope s_bounded) := ⟨rfl, rfl, rfl, by decide +kernel, rfl, by decide +kernel, by decide +kernel⟩
abbrev s_box_place : Stmt := top 12
theorem sc_box_place : FnScope ["box"] ["box"] (defScope s_box_place) := ⟨rfl, rfl, rfl, by decide +kernel, rfl, by decide +kernel, by decide +kernel⟩
abbrev s_cell_place : Stmt := top 13
theorem sc_cell_place : FnScope ["cell", "high"] ["cell", "high"] (defScope s_cell_place) := ⟨rfl, rfl, rfl, by decide +kernel, rfl, by decide +kernel, by decide +kernel⟩
abbrev s_without : Stmt := top 14
theorem sc_without : FnScope ["places", "place"] ["places", "place"] (defScope s_without) := ⟨rfl, rfl, rfl, by decide +kernel, rfl, by decide +kernel, by decide +kernel⟩
abbrev s_filled : Stmt := top 15
theorem sc_filled : FnScope ["places", "place", "source"] ["places", "place", "source"] (defScope s_filled) := ⟨rfl, rfl, rfl, by decide +kernel, rfl, by decide +kernel, by decide +kernel⟩
abbrev s_Row_goes : Stmt := inClass (top 16) 0
theorem sc_Row_goes : FnScope ["self", "at"] ["self", "at"] (defScope s_Row_goes) := ⟨rfl, rfl, rfl, by decide +kernel, rfl, by decide +kernel, by decide +kernel⟩
abbrev s_Row_height : Stmt := inClass (top 16) 1
theorem sc_Row_height : FnScope ["self", "high"] ["self", "high"] (defScope s_Row_height) := ⟨rfl, rfl, rfl, by decide +kernel, rfl, by decide +kernel, by decide +kernel⟩
abbrev s_Row_keeps : Stmt := inClass (top 16) 2
theorem sc_Row_keeps : FnScope ["self", "places", "high"] ["self", "places", "high"] (defScope s_Row_keeps) := ⟨rfl, rfl, rfl, by decide +kernel, rfl, by decide +kernel, by decide +kernel⟩
abbrev s_Set_init : Stmt := inClass (top 17) 0
theorem sc_Set_init : FnScope ["self", "box", "number"] ["self", "box", "number"] (defScope s_Set_init) := ⟨rfl, rfl, rfl, by decide +kernel, rfl, by decide +kernel, by decide +kernel⟩
abbrev s_Set_keeps : Stmt := inClass (top 17) 2
theorem sc_Set_keeps : FnScope ["self", "places", "high"] ["self", "places", "high"] (defScope s_Set_keeps) := ⟨rfl, rfl, rfl, by decide +kernel, rfl, by decide +kernel, by decide +kernel⟩
abbrev s_Set_told : Stmt := inClass (top 17) 3
theorem sc_Set_told : FnScope ["self"] ["self"] (defScope s_Set_told) := ⟨rfl, rfl, rfl, by decide +kernel, rfl, by decide +kernel, by decide +kernel⟩
abbrev s_Copy_init : Stmt := inClass (top 18) 0
theorem sc_Copy_init : FnScope ["self", "box", "one"] ["self", "box", "one"] (defScope s_Copy_init) := ⟨rfl, rfl, rfl, by decide +kernel, rfl, by decide +kernel, by decide +kernel⟩
abbrev s_Copy_keeps : Stmt := inClass (top 18) 2
theorem sc_Copy_keeps : FnScope ["self", "places", "high"] ["self", "places", "high"] (defScope s_Copy_keeps) := ⟨rfl, rfl, rfl, by decide +kernel, rfl, by decide +kernel, by decide +kernel⟩
abbrev s_Copy_told : Stmt := inClass (top 18) 3
theorem sc_Copy_told : FnScope ["self"] ["self"] (defScope s_Copy_told) := ⟨rfl, rfl, rfl, by decide +kernel, rfl, by decide +kernel, by decide +kernel⟩
abbrev s_Reckoning_init : Stmt := inClass (top 19) 0
theorem sc_Reckoning_init : FnScope ["self", "box", "one", "other"] ["self", "box", "one", "other"] (defScope s_Reckoning_init) := ⟨rfl, rfl, rfl, by decide +kernel, rfl, by decide +kernel, by decide +kernel⟩
abbrev s_Reckoning_keeps : Stmt := inClass (top 19) 1
theorem sc_Reckoning_keeps : FnScope ["self", "places", "high"] ["self", "places", "high"] (defScope s_Reckoning_keeps) := ⟨rfl, rfl, rfl, by decide +kernel, rfl, by decide +kernel, by decide +kernel⟩
abbrev s_Add_told : Stmt := inClass (top 20) 1
theorem sc_Add_told : FnScope ["self"] ["self"] (defScope s_Add_told) := ⟨rfl, rfl, rfl, by decide +kernel, rfl, by decide +kernel, by decide +kernel⟩
abbrev s_Grow_init : Stmt := inClass (top 21) 0
theorem sc_Grow_init : FnScope ["self", "many"] ["self", "many"] (defScope s_Grow_init) := ⟨rfl, rfl, rfl, by decide +kernel, rfl, by decide +kernel, by decide +kernel⟩
abbrev s_Grow_height : Stmt := inClass (top 21) 2
theorem sc_Grow_height : FnScope ["self", "high"] ["self", "high"] (defScope s_Grow_height) := ⟨rfl, rfl, rfl, by decide +kernel, rfl, by decide +kernel, by decide +kernel⟩
abbrev s_Grow_told : Stmt := inClass (top 21) 3
theorem sc_Grow_told : FnScope ["self"] ["self"] (defScope s_Grow_told) := ⟨rfl, rfl, rfl, by decide +kernel, rfl, by decide +kernel, by decide +kernel⟩
abbrev s_Shrink_init : Stmt := inClass (top 22) 0
theorem sc_Shrink_init : FnScope ["self", "many"] ["self", "many"] (defScope s_Shrink_init) := ⟨rfl, rfl, rfl, by decide +kernel, rfl, by decide +kernel, by decide +kernel⟩
abbrev s_Shrink_height : Stmt := inClass (top 22) 2
theorem sc_Shrink_height : FnScope ["self", "high"] ["self", "high"] (defScope s_Shrink_height) := ⟨rfl, rfl, rfl, by decide +kernel, rfl, by decide +kernel, by decide +kernel⟩
abbrev s_Shrink_keeps : Stmt := inClass (top 22) 3
theorem sc_Shrink_keeps : FnScope ["self", "places", "high", "gone"] ["self", "places", "high"] (defScope s_Shrink_keeps) := ⟨rfl, rfl, rfl, by decide +kernel, rfl, by decide +kernel, by decide +kernel⟩
abbrev s_Shrink_told : Stmt := inClass (top 22) 4
theorem sc_Shrink_told : FnScope ["self"] ["self"] (defScope s_Shrink_told) := ⟨rfl, rfl, rfl, by decide +kernel, rfl, by decide +kernel, by decide +kernel⟩
abbrev s_Reaching_init : Stmt := inClass (top 23) 0
theorem sc_Reaching_init : FnScope ["self", "box", "cell"] ["self", "box", "cell"] (defScope s_Reaching_init) := ⟨rfl, rfl, rfl, by decide +kernel, rfl, by decide +kernel, by decide +kernel⟩
abbrev s_Reaching_height : Stmt := inClass (top 23) 1
theorem sc_Reaching_height : FnScope ["self", "high"] ["self", "high"] (defScope s_Reaching_height) := ⟨rfl, rfl, rfl, by decide +kernel, rfl, by decide +kernel, by decide +kernel⟩
abbrev s_Put_keeps : Stmt := inClass (top 24) 1
theorem sc_Put_keeps : FnScope ["self", "places", "high"] ["self", "places", "high"] (defScope s_Put_keeps) := ⟨rfl, rfl, rfl, by decide +kernel, rfl, by decide +kernel, by decide +kernel⟩
abbrev s_Put_told : Stmt := inClass (top 24) 2
theorem sc_Put_told : FnScope ["self"] ["self"] (defScope s_Put_told) := ⟨rfl, rfl, rfl, by decide +kernel, rfl, by decide +kernel, by decide +kernel⟩
abbrev s_Get_keeps : Stmt := inClass (top 25) 1
theorem sc_Get_keeps : FnScope ["self", "places", "high"] ["self", "places", "high"] (defScope s_Get_keeps) := ⟨rfl, rfl, rfl, by decide +kernel, rfl, by decide +kernel, by decide +kernel⟩
abbrev s_Get_told : Stmt := inClass (top 25) 2
theorem sc_Get_told : FnScope ["self"] ["self"] (defScope s_Get_told) := ⟨rfl, rfl, rfl, by decide +kernel, rfl, by decide +kernel, by decide +kernel⟩
abbrev s_Table_init : Stmt := inClass (top 29) 0
theorem sc_Table_init : FnScope ["self", "entries", "landings"] ["self", "entries", "landings"] (defScope s_Table_init) := ⟨rfl, rfl, rfl, by decide +kernel, rfl, by decide +kernel, by decide +kernel⟩
abbrev s_sets_of : Stmt := top 30
theorem sc_sets_of : FnScope ["entry", "kept"] ["entry"] (defScope s_sets_of) := ⟨rfl, rfl, rfl, by decide +kernel, rfl, by decide +kernel, by decide +kernel⟩
abbrev s_Jump_init : Stmt := inClass (top 33) 0
theorem sc_Jump_init : FnScope ["self", "target"] ["self", "target"] (defScope s_Jump_init) := ⟨rfl, rfl, rfl, by decide +kernel, rfl, by decide +kernel, by decide +kernel⟩
abbrev s_Jump_goes : Stmt := inClass (top 33) 2
theorem sc_Jump_goes : FnScope ["self", "at"] ["self", "at"] (defScope s_Jump_goes) := ⟨rfl, rfl, rfl, by decide +kernel, rfl, by decide +kernel, by decide +kernel⟩
abbrev s_Jump_told : Stmt := inClass (top 33) 3
theorem sc_Jump_told : FnScope ["self"] ["self"] (defScope s_Jump_told) := ⟨rfl, rfl, rfl, by decide +kernel, rfl, by decide +kernel, by decide +kernel⟩
abbrev s_Branch_init : Stmt := inClass (top 34) 0
theorem sc_Branch_init : FnScope ["self", "box", "target"] ["self", "box", "target"] (defScope s_Branch_init) := ⟨rfl, rfl, rfl, by decide +kernel, rfl, by decide +kernel, by decide +kernel⟩
abbrev s_Branch_goes : Stmt := inClass (top 34) 2
theorem sc_Branch_goes : FnScope ["self", "at"] ["self", "at"] (defScope s_Branch_goes) := ⟨rfl, rfl, rfl, by decide +kernel, rfl, by decide +kernel, by decide +kernel⟩
abbrev s_Branch_told : Stmt := inClass (top 34) 3
theorem sc_Branch_told : FnScope ["self"] ["self"] (defScope s_Branch_told) := ⟨rfl, rfl, rfl, by decide +kernel, rfl, by decide +kernel, by decide +kernel⟩
abbrev s_Call_init : Stmt := inClass (top 35) 0
theorem sc_Call_init : FnScope ["self", "target"] ["self", "target"] (defScope s_Call_init) := ⟨rfl, rfl, rfl, by decide +kernel, rfl, by decide +kernel, by decide +kernel⟩
abbrev s_Call_keeps : Stmt := inClass (top 35) 2
theorem sc_Call_keeps : FnScope ["self", "places", "high"] ["self", "places", "high"] (defScope s_Call_keeps) := ⟨rfl, rfl, rfl, by decide +kernel, rfl, by decide +kernel, by decide +kernel⟩
abbrev s_Call_told : Stmt := inClass (top 35) 3
theorem sc_Call_told : FnScope ["self"] ["self"] (defScope s_Call_told) := ⟨rfl, rfl, rfl, by decide +kernel, rfl, by decide +kernel, by decide +kernel⟩
abbrev s_Back_init : Stmt := inClass (top 36) 0
theorem sc_Back_init : FnScope ["self", "box"] ["self", "box"] (defScope s_Back_init) := ⟨rfl, rfl, rfl, by decide +kernel, rfl, by decide +kernel, by decide +kernel⟩
abbrev s_Back_goes : Stmt := inClass (top 36) 2
theorem sc_Back_goes : FnScope ["self", "at"] ["self", "at"] (defScope s_Back_goes) := ⟨rfl, rfl, rfl, by decide +kernel, rfl, by decide +kernel, by decide +kernel⟩
abbrev s_Back_told : Stmt := inClass (top 36) 3
theorem sc_Back_told : FnScope ["self"] ["self"] (defScope s_Back_told) := ⟨rfl, rfl, rfl, by decide +kernel, rfl, by decide +kernel, by decide +kernel⟩
abbrev s_Drop_init : Stmt := inClass (top 37) 0
theorem sc_Drop_init : FnScope ["self", "box"] ["self", "box"] (defScope s_Drop_init) := ⟨rfl, rfl, rfl, by decide +kernel, rfl, by decide +kernel, by decide +kernel⟩
abbrev s_Drop_goes : Stmt := inClass (top 37) 2
theorem sc_Drop_goes : FnScope ["self", "at"] ["self", "at"] (defScope s_Drop_goes) := ⟨rfl, rfl, rfl, by decide +kernel, rfl, by decide +kernel, by decide +kernel⟩
abbrev s_Drop_told : Stmt := inClass (top 37) 3
theorem sc_Drop_told : FnScope ["self"] ["self"] (defScope s_Drop_told) := ⟨rfl, rfl, rfl, by decide +kernel, rfl, by decide +kernel, by decide +kernel⟩
abbrev s_is_row : Stmt := top 40
theorem sc_is_row : FnScope ["number", "entries"] ["number", "entries"] (defScope s_is_row) := ⟨rfl, rfl, rfl, by decide +kernel, rfl, by decide +kernel, by decide +kernel⟩
abbrev s_has_wrong_place : Stmt := top 41
theorem sc_has_wrong_place : FnScope ["entry", "high", "beyond"] ["entry"] (defScope s_has_wrong_place) := ⟨rfl, rfl, rfl, by decide +kernel, rfl, by decide +kernel, by decide +kernel⟩
abbrev s_may_go_back : Stmt := top 42
theorem sc_may_go_back : FnScope ["row", "entry"] ["row", "entry"] (defScope s_may_go_back) := ⟨rfl, rfl, rfl, by decide +kernel, rfl, by decide +kernel, by decide +kernel⟩
abbrev s_own_complaint : Stmt := top 43
theorem sc_own_complaint : FnScope ["row", "entry"] ["row", "entry"] (defScope s_own_complaint) := ⟨rfl, rfl, rfl, by decide +kernel, rfl, by decide +kernel, by decide +kernel⟩
abbrev s_way_complaint : Stmt := top 44
theorem sc_way_complaint : FnScope ["row", "entry", "coming", "entries", "there", "name", "ours", "theirs"] ["row", "entry", "coming", "entries"] (defScope s_way_complaint) := ⟨rfl, rfl, rfl, by decide +kernel, rfl, by decide +kernel, by decide +kernel⟩
abbrev s_target_complaint : Stmt := top 45
theorem sc_target_complaint : FnScope ["row", "entries"] ["row", "entries"] (defScope s_target_complaint) := ⟨rfl, rfl, rfl, by decide +kernel, rfl, by decide +kernel, by decide +kernel⟩
abbrev s_each_once : Stmt := top 46
theorem sc_each_once : FnScope ["numbers", "told", "number"] ["numbers"] (defScope s_each_once) := ⟨rfl, rfl, rfl, by decide +kernel, rfl, by decide +kernel, by decide +kernel⟩
abbrev s_row_complaints : Stmt := top 47
theorem sc_row_complaints : FnScope ["code", "entries", "at", "row", "entry", "own", "found"] ["code", "entries", "at"] (defScope s_row_complaints) := ⟨rfl, rfl, rfl, by decide +kernel, rfl, by decide +kernel, by decide +kernel⟩
abbrev s_landing_complaint : Stmt := top 48
theorem sc_landing_complaint : FnScope ["code", "entries", "at", "landing", "entry"] ["code", "entries", "at", "landing"] (defScope s_landing_complaint) := ⟨rfl, rfl, rfl, by decide +kernel, rfl, by decide +kernel, by decide +kernel⟩
abbrev s_checked : Stmt := top 49
theorem sc_checked : FnScope ["code", "table", "entries", "complaints", "at", "landing", "what"] ["code", "table"] (defScope s_checked) := ⟨rfl, rfl, rfl, by decide +kernel, rfl, by decide +kernel, by decide +kernel⟩
abbrev s_law_cell_at : Stmt := top 51
theorem sc_law_cell_at : FnScope ["_law_script", "_law_k"] ["_law_script", "_law_k"] (defScope s_law_cell_at) := ⟨rfl, rfl, rfl, by decide +kernel, rfl, by decide +kernel, by decide +kernel⟩
abbrev s_law_row : Stmt := top 52
theorem sc_law_row : FnScope ["_law_cell", "_law_many", "_law_kind", "_law_box", "_law_part"] ["_law_cell", "_law_many"] (defScope s_law_row) := ⟨rfl, rfl, rfl, by decide +kernel, rfl, by decide +kernel, by decide +kernel⟩
abbrev s_law_set : Stmt := top 53
theorem sc_law_set : FnScope ["_law_cell", "_law_own_here", "_law_height"] ["_law_cell", "_law_own_here", "_law_height"] (defScope s_law_set) := ⟨rfl, rfl, rfl, by decide +kernel, rfl, by decide +kernel, by decide +kernel⟩
abbrev s_law_entry : Stmt := top 54
theorem sc_law_entry : FnScope ["_law_cell", "_law_before", "_law_row_here", "_law_height", "_law_whole", "_law_kept", "_law_part"] ["_law_cell", "_law_before", "_law_row_here"] (defScope s_law_entry) := ⟨rfl, rfl, rfl, by decide +kernel, rfl, by decide +kernel, by decide +kernel⟩
abbrev s_law_sets : Stmt := top 55
theorem sc_law_sets : FnScope ["_law_entry_here"] ["_law_entry_here"] (defScope s_law_sets) := ⟨rfl, rfl, rfl, by decide +kernel, rfl, by decide +kernel, by decide +kernel⟩
abbrev s_law_own : Stmt := top 56
theorem sc_law_own : FnScope ["_law_row_here", "_law_entry_here", "_law_wanted", "_law_lack"] ["_law_row_here", "_law_entry_here"] (defScope s_law_own) := ⟨rfl, rfl, rfl, by decide +kernel, rfl, by decide +kernel, by decide +kernel⟩
abbrev s_law_next : Stmt := top 57
theorem sc_law_next : FnScope ["_law_row_here", "_law_entry_here", "_law_entries", "_law_at", "_law_k", "_law_kept"] ["_law_row_here", "_law_entry_here", "_law_entries", "_law_at"] (defScope s_law_next) := ⟨rfl, rfl, rfl, by decide +kernel, rfl, by decide +kernel, by decide +kernel⟩
abbrev s_law_of_row : Stmt := top 58
theorem sc_law_of_row : FnScope ["_law_code", "_law_entries", "_law_i", "_law_row_here", "_law_what", "_law_found", "_law_at", "_law_target"] ["_law_code", "_law_entries", "_law_i"] (defScope s_law_of_row) := ⟨rfl, rfl, rfl, by decide +kernel, rfl, by decide +kernel, by decide +kernel⟩
abbrev s_law_of_landing : Stmt := top 59
theorem sc_law_of_landing : FnScope ["_law_code", "_law_entries", "_law_i", "_law_at", "_law_what"] ["_law_code", "_law_entries", "_law_i", "_law_at"] (defScope s_law_of_landing) := ⟨rfl, rfl, rfl, by decide +kernel, rfl, by decide +kernel, by decide +kernel⟩
abbrev s_law_due : Stmt := top 60
theorem sc_law_due : FnScope ["_law_code", "_law_entries", "_law_landings", "_law_found", "_law_i"] ["_law_code", "_law_entries", "_law_landings"] (defScope s_law_due) := ⟨rfl, rfl, rfl, by decide +kernel, rfl, by decide +kernel, by decide +kernel⟩
abbrev s_law_told : Stmt := top 61
theorem sc_law_told : FnScope ["_law_found", "_law_one"] ["_law_found"] (defScope s_law_told) := ⟨rfl, rfl, rfl, by decide +kernel, rfl, by decide +kernel, by decide +kernel⟩
abbrev s_law : Stmt := top 62
theorem sc_law : FnScope ["_law_script", "_law_many", "_law_code", "_law_entries", "_law_k", "_law_landings", "_law_cell", "_law_found"] ["_law_script"] (defScope s_law) := ⟨rfl, rfl, rfl, by decide +kernel, rfl, by decide +kernel, by decide +kernel⟩
structure Txt (K : PySem.W.Frag) (mg : Str → Option Value) (a : Adr) : Prop where
  z_all : mg "all" = none
  z_any : mg "any" = none
  z_bool : mg "bool" = none
  z_dict : mg "dict" = none
  z_isinstance : mg "isinstance" = none
  z_len : mg "len" = none
  z_list : mg "list" = none
  z_max : mg "max" = none
  z_range : mg "range" = none
  z_sorted : mg "sorted" = none
  z_tuple : mg "tuple" = none
  z_zip : mg "zip" = none
  g_FIRST_CELL_BIT : ∃ t, mg "FIRST_CELL_BIT" = some (Value.int 8 t)
  s_KEPT_BOXES : mg "KEPT_BOXES" = some (.ref a.G_KEPT_BOXES)
  t_KEPT_BOXES : (∀ H, SqT K H a.G_KEPT_BOXES [.int 4, .int 5, .int 6])
  g_LOST_BY_CALL : ∃ t, mg "LOST_BY_CALL" = some (Value.int 143 t)
  s_SET_NAMES : mg "SET_NAMES" = some (.ref a.G_SET_NAMES)
  t_SET_NAMES : (∀ H, SqT K H a.G_SET_NAMES [.str "back", .int 4, .int 5, .int 6])
  s_START : mg "START" = some (.ref a.G_START)
  t_START : ∃ q0_START : Addr, (∀ H, SqT K H a.G_START [.int 0, .int 128, .ref q0_START]) ∧ (∀ H, SqT K H q0_START [.int 16, .int 32, .int 64])
  g_TOP_BOX : ∃ t, mg "TOP_BOX" = some (Value.int 7 t)
  g_TOP_CELLS : ∃ t, mg "TOP_CELLS" = some (Value.int 4000 t)
  g_TOP_TARGET : ∃ t, mg "TOP_TARGET" = some (Value.int 2000 t)
  g_TOP_VALUE : ∃ t, mg "TOP_VALUE" = some (Value.int 4294967295 t)
  c_Add : mg "Add" = some (.ref a.C_Add)
  c_Back : mg "Back" = some (.ref a.C_Back)
  c_Branch : mg "Branch" = some (.ref a.C_Branch)
  c_Call : mg "Call" = some (.ref a.C_Call)
  c_Copy : mg "Copy" = some (.ref a.C_Copy)
  c_Drop : mg "Drop" = some (.ref a.C_Drop)
  c_Get : mg "Get" = some (.ref a.C_Get)
  c_Grow : mg "Grow" = some (.ref a.C_Grow)
  c_Jump : mg "Jump" = some (.ref a.C_Jump)
  c_NoRow : mg "NoRow" = some (.ref a.C_NoRow)
  c_Put : mg "Put" = some (.ref a.C_Put)
  c_Set : mg "Set" = some (.ref a.C_Set)
  c_Shrink : mg "Shrink" = some (.ref a.C_Shrink)
  c_Table : mg "Table" = some (.ref a.C_Table)
  cl_Jump : Cls K a.C_Jump
  n_Jump_target : NoAttr K a.C_Jump "target"
  i_Jump : ∃ f fd, Fun K "__init__" "Jump.__init__" s_Jump_init f fd ∧ Mk K a.C_Jump f ∧ Binds K fd ["self", "target"] []
  m_Jump_goes : ∃ f fd, Fun K "goes" "Jump.goes" s_Jump_goes f fd ∧ Meth K a.C_Jump "goes" f ∧ Binds K fd ["self", "at"] []
  m_Jump_height : ∃ f fd, Fun K "height" "Row.height" s_Row_height f fd ∧ Meth K a.C_Jump "height" f ∧ Binds K fd ["self", "high"] []
  m_Jump_keeps : ∃ f fd, Fun K "keeps" "Row.keeps" s_Row_keeps f fd ∧ Meth K a.C_Jump "keeps" f ∧ Binds K fd ["self", "places", "high"] []
  m_Jump_told : ∃ f fd, Fun K "told" "Jump.told" s_Jump_told f fd ∧ Meth K a.C_Jump "told" f ∧ Binds K fd ["self"] []
  cl_Branch : Cls K a.C_Branch
  n_Branch_box : NoAttr K a.C_Branch "box"
  n_Branch_target : NoAttr K a.C_Branch "target"
  i_Branch : ∃ f fd, Fun K "__init__" "Branch.__init__" s_Branch_init f fd ∧ Mk K a.C_Branch f ∧ Binds K fd ["self", "box", "target"] []
  m_Branch_goes : ∃ f fd, Fun K "goes" "Branch.goes" s_Branch_goes f fd ∧ Meth K a.C_Branch "goes" f ∧ Binds K fd ["self", "at"] []
  m_Branch_height : ∃ f fd, Fun K "height" "Row.height" s_Row_height f fd ∧ Meth K a.C_Branch "height" f ∧ Binds K fd ["self", "high"] []
  m_Branch_keeps : ∃ f fd, Fun K "keeps" "Row.keeps" s_Row_keeps f fd ∧ Meth K a.C_Branch "keeps" f ∧ Binds K fd ["self", "places", "high"] []
  m_Branch_told : ∃ f fd, Fun K "told" "Branch.told" s_Branch_told f fd ∧ Meth K a.C_Branch "told" f ∧ Binds K fd ["self"] []
  cl_Call : Cls K a.C_Call
  n_Call_target : NoAttr K a.C_Call "target"
  i_Call : ∃ f fd, Fun K "__init__" "Call.__init__" s_Call_init f fd ∧ Mk K a.C_Call f ∧ Binds K fd ["self", "target"] []
  m_Call_goes : ∃ f fd, Fun K "goes" "Row.goes" s_Row_goes f fd ∧ Meth K a.C_Call "goes" f ∧ Binds K fd ["self", "at"] []
  m_Call_height : ∃ f fd, Fun K "height" "Row.height" s_Row_height f fd ∧ Meth K a.C_Call "height" f ∧ Binds K fd ["self", "high"] []
  m_Call_keeps : ∃ f fd, Fun K "keeps" "Call.keeps" s_Call_keeps f fd ∧ Meth K a.C_Call "keeps" f ∧ Binds K fd ["self", "places", "high"] []
  m_Call_told : ∃ f fd, Fun K "told" "Call.told" s_Call_told f fd ∧ Meth K a.C_Call "told" f ∧ Binds K fd ["self"] []
  cl_Back : Cls K a.C_Back
  n_Back_box : NoAttr K a.C_Back "box"
  i_Back : ∃ f fd, Fun K "__init__" "Back.__init__" s_Back_init f fd ∧ Mk K a.C_Back f ∧ Binds K fd ["self", "box"] []
  m_Back_goes : ∃ f fd, Fun K "goes" "Back.goes" s_Back_goes f fd ∧ Meth K a.C_Back "goes" f ∧ Binds K fd ["self", "at"] []
  m_Back_height : ∃ f fd, Fun K "height" "Row.height" s_Row_height f fd ∧ Meth K a.C_Back "height" f ∧ Binds K fd ["self", "high"] []
  m_Back_keeps : ∃ f fd, Fun K "keeps" "Row.keeps" s_Row_keeps f fd ∧ Meth K a.C_Back "keeps" f ∧ Binds K fd ["self", "places", "high"] []
  m_Back_told : ∃ f fd, Fun K "told" "Back.told" s_Back_told f fd ∧ Meth K a.C_Back "told" f ∧ Binds K fd ["self"] []
  cl_Drop : Cls K a.C_Drop
  n_Drop_box : NoAttr K a.C_Drop "box"
  i_Drop : ∃ f fd, Fun K "__init__" "Drop.__init__" s_Drop_init f fd ∧ Mk K a.C_Drop f ∧ Binds K fd ["self", "box"] []
  m_Drop_goes : ∃ f fd, Fun K "goes" "Drop.goes" s_Drop_goes f fd ∧ Meth K a.C_Drop "goes" f ∧ Binds K fd ["self", "at"] []
  m_Drop_height : ∃ f fd, Fun K "height" "Row.height" s_Row_height f fd ∧ Meth K a.C_Drop "height" f ∧ Binds K fd ["self", "high"] []
  m_Drop_keeps : ∃ f fd, Fun K "keeps" "Row.keeps" s_Row_keeps f fd ∧ Meth K a.C_Drop "keeps" f ∧ Binds K fd ["self", "places", "high"] []
  m_Drop_told : ∃ f fd, Fun K "told" "Drop.told" s_Drop_told f fd ∧ Meth K a.C_Drop "told" f ∧ Binds K fd ["self"] []
  cl_Set : Cls K a.C_Set
  n_Set_box : NoAttr K a.C_Set "box"
  n_Set_number : NoAttr K a.C_Set "number"
  i_Set : ∃ f fd, Fun K "__init__" "Set.__init__" s_Set_init f fd ∧ Mk K a.C_Set f ∧ Binds K fd ["self", "box", "number"] []
  m_Set_goes : ∃ f fd, Fun K "goes" "Row.goes" s_Row_goes f fd ∧ Meth K a.C_Set "goes" f ∧ Binds K fd ["self", "at"] []
  m_Set_height : ∃ f fd, Fun K "height" "Row.height" s_Row_height f fd ∧ Meth K a.C_Set "height" f ∧ Binds K fd ["self", "high"] []
  m_Set_keeps : ∃ f fd, Fun K "keeps" "Set.keeps" s_Set_keeps f fd ∧ Meth K a.C_Set "keeps" f ∧ Binds K fd ["self", "places", "high"] []
  m_Set_told : ∃ f fd, Fun K "told" "Set.told" s_Set_told f fd ∧ Meth K a.C_Set "told" f ∧ Binds K fd ["self"] []
  cl_Copy : Cls K a.C_Copy
  n_Copy_box : NoAttr K a.C_Copy "box"
  n_Copy_one : NoAttr K a.C_Copy "one"
  i_Copy : ∃ f fd, Fun K "__init__" "Copy.__init__" s_Copy_init f fd ∧ Mk K a.C_Copy f ∧ Binds K fd ["self", "box", "one"] []
  m_Copy_goes : ∃ f fd, Fun K "goes" "Row.goes" s_Row_goes f fd ∧ Meth K a.C_Copy "goes" f ∧ Binds K fd ["self", "at"] []
  m_Copy_height : ∃ f fd, Fun K "height" "Row.height" s_Row_height f fd ∧ Meth K a.C_Copy "height" f ∧ Binds K fd ["self", "high"] []
  m_Copy_keeps : ∃ f fd, Fun K "keeps" "Copy.keeps" s_Copy_keeps f fd ∧ Meth K a.C_Copy "keeps" f ∧ Binds K fd ["self", "places", "high"] []
  m_Copy_told : ∃ f fd, Fun K "told" "Copy.told" s_Copy_told f fd ∧ Meth K a.C_Copy "told" f ∧ Binds K fd ["self"] []
  cl_Add : Cls K a.C_Add
  n_Add_box : NoAttr K a.C_Add "box"
  n_Add_one : NoAttr K a.C_Add "one"
  n_Add_other : NoAttr K a.C_Add "other"
  i_Add : ∃ f fd, Fun K "__init__" "Reckoning.__init__" s_Reckoning_init f fd ∧ Mk K a.C_Add f ∧ Binds K fd ["self", "box", "one", "other"] []
  m_Add_goes : ∃ f fd, Fun K "goes" "Row.goes" s_Row_goes f fd ∧ Meth K a.C_Add "goes" f ∧ Binds K fd ["self", "at"] []
  m_Add_height : ∃ f fd, Fun K "height" "Row.height" s_Row_height f fd ∧ Meth K a.C_Add "height" f ∧ Binds K fd ["self", "high"] []
  m_Add_keeps : ∃ f fd, Fun K "keeps" "Reckoning.keeps" s_Reckoning_keeps f fd ∧ Meth K a.C_Add "keeps" f ∧ Binds K fd ["self", "places", "high"] []
  m_Add_told : ∃ f fd, Fun K "told" "Add.told" s_Add_told f fd ∧ Meth K a.C_Add "told" f ∧ Binds K fd ["self"] []
  cl_Grow : Cls K a.C_Grow
  n_Grow_many : NoAttr K a.C_Grow "many"
  i_Grow : ∃ f fd, Fun K "__init__" "Grow.__init__" s_Grow_init f fd ∧ Mk K a.C_Grow f ∧ Binds K fd ["self", "many"] []
  m_Grow_goes : ∃ f fd, Fun K "goes" "Row.goes" s_Row_goes f fd ∧ Meth K a.C_Grow "goes" f ∧ Binds K fd ["self", "at"] []
  m_Grow_height : ∃ f fd, Fun K "height" "Grow.height" s_Grow_height f fd ∧ Meth K a.C_Grow "height" f ∧ Binds K fd ["self", "high"] []
  m_Grow_keeps : ∃ f fd, Fun K "keeps" "Row.keeps" s_Row_keeps f fd ∧ Meth K a.C_Grow "keeps" f ∧ Binds K fd ["self", "places", "high"] []
  m_Grow_told : ∃ f fd, Fun K "told" "Grow.told" s_Grow_told f fd ∧ Meth K a.C_Grow "told" f ∧ Binds K fd ["self"] []
  cl_Shrink : Cls K a.C_Shrink
  n_Shrink_many : NoAttr K a.C_Shrink "many"
  i_Shrink : ∃ f fd, Fun K "__init__" "Shrink.__init__" s_Shrink_init f fd ∧ Mk K a.C_Shrink f ∧ Binds K fd ["self", "many"] []
  m_Shrink_goes : ∃ f fd, Fun K "goes" "Row.goes" s_Row_goes f fd ∧ Meth K a.C_Shrink "goes" f ∧ Binds K fd ["self", "at"] []
  m_Shrink_height : ∃ f fd, Fun K "height" "Shrink.height" s_Shrink_height f fd ∧ Meth K a.C_Shrink "height" f ∧ Binds K fd ["self", "high"] []
  m_Shrink_keeps : ∃ f fd, Fun K "keeps" "Shrink.keeps" s_Shrink_keeps f fd ∧ Meth K a.C_Shrink "keeps" f ∧ Binds K fd ["self", "places", "high"] []
  m_Shrink_told : ∃ f fd, Fun K "told" "Shrink.told" s_Shrink_told f fd ∧ Meth K a.C_Shrink "told" f ∧ Binds K fd ["self"] []
  cl_Put : Cls K a.C_Put
  n_Put_box : NoAttr K a.C_Put "box"
  n_Put_cell : NoAttr K a.C_Put "cell"
  i_Put : ∃ f fd, Fun K "__init__" "Reaching.__init__" s_Reaching_init f fd ∧ Mk K a.C_Put f ∧ Binds K fd ["self", "box", "cell"] []
  m_Put_goes : ∃ f fd, Fun K "goes" "Row.goes" s_Row_goes f fd ∧ Meth K a.C_Put "goes" f ∧ Binds K fd ["self", "at"] []
  m_Put_height : ∃ f fd, Fun K "height" "Reaching.height" s_Reaching_height f fd ∧ Meth K a.C_Put "height" f ∧ Binds K fd ["self", "high"] []
  m_Put_keeps : ∃ f fd, Fun K "keeps" "Put.keeps" s_Put_keeps f fd ∧ Meth K a.C_Put "keeps" f ∧ Binds K fd ["self", "places", "high"] []
  m_Put_told : ∃ f fd, Fun K "told" "Put.told" s_Put_told f fd ∧ Meth K a.C_Put "told" f ∧ Binds K fd ["self"] []
  cl_Get : Cls K a.C_Get
  n_Get_box : NoAttr K a.C_Get "box"
  n_Get_cell : NoAttr K a.C_Get "cell"
  i_Get : ∃ f fd, Fun K "__init__" "Reaching.__init__" s_Reaching_init f fd ∧ Mk K a.C_Get f ∧ Binds K fd ["self", "box", "cell"] []
  m_Get_goes : ∃ f fd, Fun K "goes" "Row.goes" s_Row_goes f fd ∧ Meth K a.C_Get "goes" f ∧ Binds K fd ["self", "at"] []
  m_Get_height : ∃ f fd, Fun K "height" "Reaching.height" s_Reaching_height f fd ∧ Meth K a.C_Get "height" f ∧ Binds K fd ["self", "high"] []
  m_Get_keeps : ∃ f fd, Fun K "keeps" "Get.keeps" s_Get_keeps f fd ∧ Meth K a.C_Get "keeps" f ∧ Binds K fd ["self", "places", "high"] []
  m_Get_told : ∃ f fd, Fun K "told" "Get.told" s_Get_told f fd ∧ Meth K a.C_Get "told" f ∧ Binds K fd ["self"] []
  cl_Table : Cls K a.C_Table
  n_Table_entries : NoAttr K a.C_Table "entries"
  n_Table_landings : NoAttr K a.C_Table "landings"
  i_Table : ∃ f fd, FunD K "__init__" "Table.__init__" s_Table_init f fd ∧ Mk K a.C_Table f ∧ Binds K fd ["self", "entries", "landings"] [] ∧ Binds K fd ["self", "entries", "landings"] [.none]
  ty_Set : PySem.W.findIn K (.ref a.C_Set) "__class__" = some (some (.builtin "object.__class__")) ∧ PySem.W.mroIn K a.C_Set (.type "object") = some true
  is_Set_Call : PySem.W.kitOne K (.ref a.C_Set) (.ref a.C_Call) = some false
  is_Set_Back : PySem.W.kitOne K (.ref a.C_Set) (.ref a.C_Back) = some false
  ty_Copy : PySem.W.findIn K (.ref a.C_Copy) "__class__" = some (some (.builtin "object.__class__")) ∧ PySem.W.mroIn K a.C_Copy (.type "object") = some true
  is_Copy_Call : PySem.W.kitOne K (.ref a.C_Copy) (.ref a.C_Call) = some false
  is_Copy_Back : PySem.W.kitOne K (.ref a.C_Copy) (.ref a.C_Back) = some false
  ty_Add : PySem.W.findIn K (.ref a.C_Add) "__class__" = some (some (.builtin "object.__class__")) ∧ PySem.W.mroIn K a.C_Add (.type "object") = some true
  is_Add_Call : PySem.W.kitOne K (.ref a.C_Add) (.ref a.C_Call) = some false
  is_Add_Back : PySem.W.kitOne K (.ref a.C_Add) (.ref a.C_Back) = some false
  ty_Grow : PySem.W.findIn K (.ref a.C_Grow) "__class__" = some (some (.builtin "object.__class__")) ∧ PySem.W.mroIn K a.C_Grow (.type "object") = some true
  is_Grow_Call : PySem.W.kitOne K (.ref a.C_Grow) (.ref a.C_Call) = some false
  is_Grow_Back : PySem.W.kitOne K (.ref a.C_Grow) (.ref a.C_Back) = some false
  ty_Shrink : PySem.W.findIn K (.ref a.C_Shrink) "__class__" = some (some (.builtin "object.__class__")) ∧ PySem.W.mroIn K a.C_Shrink (.type "object") = some true
  is_Shrink_Call : PySem.W.kitOne K (.ref a.C_Shrink) (.ref a.C_Call) = some false
  is_Shrink_Back : PySem.W.kitOne K (.ref a.C_Shrink) (.ref a.C_Back) = some false
  ty_Put : PySem.W.findIn K (.ref a.C_Put) "__class__" = some (some (.builtin "object.__class__")) ∧ PySem.W.mroIn K a.C_Put (.type "object") = some true
  is_Put_Call : PySem.W.kitOne K (.ref a.C_Put) (.ref a.C_Call) = some false
  is_Put_Back : PySem.W.kitOne K (.ref a.C_Put) (.ref a.C_Back) = some false
  ty_Get : PySem.W.findIn K (.ref a.C_Get) "__class__" = some (some (.builtin "object.__class__")) ∧ PySem.W.mroIn K a.C_Get (.type "object") = some true
  is_Get_Call : PySem.W.kitOne K (.ref a.C_Get) (.ref a.C_Call) = some false
  is_Get_Back : PySem.W.kitOne K (.ref a.C_Get) (.ref a.C_Back) = some false
  ty_Jump : PySem.W.findIn K (.ref a.C_Jump) "__class__" = some (some (.builtin "object.__class__")) ∧ PySem.W.mroIn K a.C_Jump (.type "object") = some true
  is_Jump_Call : PySem.W.kitOne K (.ref a.C_Jump) (.ref a.C_Call) = some false
  is_Jump_Back : PySem.W.kitOne K (.ref a.C_Jump) (.ref a.C_Back) = some false
  ty_Branch : PySem.W.findIn K (.ref a.C_Branch) "__class__" = some (some (.builtin "object.__class__")) ∧ PySem.W.mroIn K a.C_Branch (.type "object") = some true
  is_Branch_Call : PySem.W.kitOne K (.ref a.C_Branch) (.ref a.C_Call) = some false
  is_Branch_Back : PySem.W.kitOne K (.ref a.C_Branch) (.ref a.C_Back) = some false
  ty_Call : PySem.W.findIn K (.ref a.C_Call) "__class__" = some (some (.builtin "object.__class__")) ∧ PySem.W.mroIn K a.C_Call (.type "object") = some true
  is_Call_Call : PySem.W.kitOne K (.ref a.C_Call) (.ref a.C_Call) = some true
  is_Call_Back : PySem.W.kitOne K (.ref a.C_Call) (.ref a.C_Back) = some false
  ty_Back : PySem.W.findIn K (.ref a.C_Back) "__class__" = some (some (.builtin "object.__class__")) ∧ PySem.W.mroIn K a.C_Back (.type "object") = some true
  is_Back_Call : PySem.W.kitOne K (.ref a.C_Back) (.ref a.C_Call) = some false
  is_Back_Back : PySem.W.kitOne K (.ref a.C_Back) (.ref a.C_Back) = some true
  ty_Drop : PySem.W.findIn K (.ref a.C_Drop) "__class__" = some (some (.builtin "object.__class__")) ∧ PySem.W.mroIn K a.C_Drop (.type "object") = some true
  is_Drop_Call : PySem.W.kitOne K (.ref a.C_Drop) (.ref a.C_Call) = some false
  is_Drop_Back : PySem.W.kitOne K (.ref a.C_Drop) (.ref a.C_Back) = some false
  ob1 : PySem.W.specialIn K (.builtin "object.__class__") "__get__" = some (some (.builtin "getset_descriptor.__get__"))
  ob2 : PySem.W.takesIn K (.builtin "object.__class__") = some true
  k_list_list : PySem.W.kitOne K (.type "list") (.type "list") = some true
  k_tuple_tuple : PySem.W.kitOne K (.type "tuple") (.type "tuple") = some true
  k_int_bool : PySem.W.kitOne K (.type "int") (.type "bool") = some false
  fn_bounded : ∃ f fd, Fun K "bounded" "bounded" s_bounded f fd ∧ mg "bounded" = some (.ref f) ∧ Binds K fd ["number", "top"] []
  fn_box_place : ∃ f fd, Fun K "box_place" "box_place" s_box_place f fd ∧ mg "box_place" = some (.ref f) ∧ Binds K fd ["box"] []
  fn_cell_place : ∃ f fd, Fun K "cell_place" "cell_place" s_cell_place f fd ∧ mg "cell_place" = some (.ref f) ∧ Binds K fd ["cell", "high"] []
  fn_without : ∃ f fd, Fun K "without" "without" s_without f fd ∧ mg "without" = some (.ref f) ∧ Binds K fd ["places", "place"] []
  fn_filled : ∃ f fd, Fun K "filled" "filled" s_filled f fd ∧ mg "filled" = some (.ref f) ∧ Binds K fd ["places", "place", "source"] []
  fn_sets_of : ∃ f fd, Fun K "sets_of" "sets_of" s_sets_of f fd ∧ mg "sets_of" = some (.ref f) ∧ Binds K fd ["entry"] []
  fn_is_row : ∃ f fd, Fun K "is_row" "is_row" s_is_row f fd ∧ mg "is_row" = some (.ref f) ∧ Binds K fd ["number", "entries"] []
  fn_has_wrong_place : ∃ f fd, Fun K "has_wrong_place" "has_wrong_place" s_has_wrong_place f fd ∧ mg "has_wrong_place" = some (.ref f) ∧ Binds K fd ["entry"] []
  fn_may_go_back : ∃ f fd, Fun K "may_go_back" "may_go_back" s_may_go_back f fd ∧ mg "may_go_back" = some (.ref f) ∧ Binds K fd ["row", "entry"] []
  fn_own_complaint : ∃ f fd, Fun K "own_complaint" "own_complaint" s_own_complaint f fd ∧ mg "own_complaint" = some (.ref f) ∧ Binds K fd ["row", "entry"] []
  fn_way_complaint : ∃ f fd, Fun K "way_complaint" "way_complaint" s_way_complaint f fd ∧ mg "way_complaint" = some (.ref f) ∧ Binds K fd ["row", "entry", "coming", "entries"] []
  fn_target_complaint : ∃ f fd, Fun K "target_complaint" "target_complaint" s_target_complaint f fd ∧ mg "target_complaint" = some (.ref f) ∧ Binds K fd ["row", "entries"] []
  fn_each_once : ∃ f fd, Fun K "each_once" "each_once" s_each_once f fd ∧ mg "each_once" = some (.ref f) ∧ Binds K fd ["numbers"] []
  fn_row_complaints : ∃ f fd, Fun K "row_complaints" "row_complaints" s_row_complaints f fd ∧ mg "row_complaints" = some (.ref f) ∧ Binds K fd ["code", "entries", "at"] []
  fn_landing_complaint : ∃ f fd, Fun K "landing_complaint" "landing_complaint" s_landing_complaint f fd ∧ mg "landing_complaint" = some (.ref f) ∧ Binds K fd ["code", "entries", "at", "landing"] []
  fn_checked : ∃ f fd, Fun K "checked" "checked" s_checked f fd ∧ mg "checked" = some (.ref f) ∧ Binds K fd ["code", "table"] []
  fn_law_cell_at : ∃ f fd, Fun K "_law_cell_at" "_law_cell_at" s_law_cell_at f fd ∧ mg "_law_cell_at" = some (.ref f) ∧ Binds K fd ["_law_script", "_law_k"] []
  fn_law_row : ∃ f fd, Fun K "_law_row" "_law_row" s_law_row f fd ∧ mg "_law_row" = some (.ref f) ∧ Binds K fd ["_law_cell", "_law_many"] []
  fn_law_set : ∃ f fd, Fun K "_law_set" "_law_set" s_law_set f fd ∧ mg "_law_set" = some (.ref f) ∧ Binds K fd ["_law_cell", "_law_own_here", "_law_height"] []
  fn_law_entry : ∃ f fd, Fun K "_law_entry" "_law_entry" s_law_entry f fd ∧ mg "_law_entry" = some (.ref f) ∧ Binds K fd ["_law_cell", "_law_before", "_law_row_here"] []
  fn_law_sets : ∃ f fd, Fun K "_law_sets" "_law_sets" s_law_sets f fd ∧ mg "_law_sets" = some (.ref f) ∧ Binds K fd ["_law_entry_here"] []
  fn_law_own : ∃ f fd, Fun K "_law_own" "_law_own" s_law_own f fd ∧ mg "_law_own" = some (.ref f) ∧ Binds K fd ["_law_row_here", "_law_entry_here"] []
  fn_law_next : ∃ f fd, Fun K "_law_next" "_law_next" s_law_next f fd ∧ mg "_law_next" = some (.ref f) ∧ Binds K fd ["_law_row_here", "_law_entry_here", "_law_entries", "_law_at"] []
  fn_law_of_row : ∃ f fd, Fun K "_law_of_row" "_law_of_row" s_law_of_row f fd ∧ mg "_law_of_row" = some (.ref f) ∧ Binds K fd ["_law_code", "_law_entries", "_law_i"] []
  fn_law_of_landing : ∃ f fd, Fun K "_law_of_landing" "_law_of_landing" s_law_of_landing f fd ∧ mg "_law_of_landing" = some (.ref f) ∧ Binds K fd ["_law_code", "_law_entries", "_law_i", "_law_at"] []
  fn_law_due : ∃ f fd, Fun K "_law_due" "_law_due" s_law_due f fd ∧ mg "_law_due" = some (.ref f) ∧ Binds K fd ["_law_code", "_law_entries", "_law_landings"] []
  fn_law_told : ∃ f fd, Fun K "_law_told" "_law_told" s_law_told f fd ∧ mg "_law_told" = some (.ref f) ∧ Binds K fd ["_law_found"] []
  fn_law : ∃ f fd, Fun K "law" "law" s_law f fd ∧ mg "law" = some (.ref f) ∧ Binds K fd ["_law_script"] []


structure Ent where
  h : Int
  b : Int
  v4 : Int
  v5 : Int
  v6 : Int
def Ent.sets (e : Ent) : List Int := [e.b, e.v4, e.v5, e.v6]
def EntAt (K : PySem.W.Frag) (H : Hp) (p : Addr) (e : Ent) : Prop := ∃ q, SqT K H p [.int e.h, .int e.b, .ref q] ∧ SqT K H q [.int e.v4, .int e.v5, .int e.v6]
theorem EntAt.same {K : PySem.W.Frag} {H H' : Hp} {p : Addr} {e : Ent} (h : EntAt K H p e) (s : Same H H') : EntAt K H' p e := let ⟨q, h1, h2⟩ := h; ⟨q, SqT_same s h1, SqT_same s h2⟩

def EntV (K : PySem.W.Frag) (H : Hp) (v : V) : Option Ent → Prop
  | none => v = .non
  | some e => ∃ p, v = .ref p ∧ EntAt K H p e
theorem EntV.same {K : PySem.W.Frag} {H H' : Hp} {v : V} {oe : Option Ent} (h : EntV K H v oe) (s : Same H H') : EntV K H' v oe := by
  cases oe with
  | none => exact h
  | some e => obtain ⟨p, e1, e2⟩ := h; exact ⟨p, e1, e2.same s⟩
def EntVs (K : PySem.W.Frag) (H : Hp) (vs : List V) (es : List (Option Ent)) : Prop := vs.length = es.length ∧ ∀ (i : Nat) (oe : Option Ent), es[i]? = some oe → ∃ v, vs[i]? = some v ∧ EntV K H v oe
theorem EntVs.same {K : PySem.W.Frag} {H H' : Hp} {vs : List V} {es : List (Option Ent)} (h : EntVs K H vs es) (s : Same H H') : EntVs K H' vs es :=
  ⟨h.1, fun i oe e => let ⟨v, e1, e2⟩ := h.2 i oe e; ⟨v, e1, e2.same s⟩⟩
theorem EntVs.snoc {K : PySem.W.Frag} {H : Hp} {vs : List V} {es : List (Option Ent)} {v : V} {oe : Option Ent} (h : EntVs K H vs es) (hv : EntV K H v oe) : EntVs K H (vs ++ [v]) (es ++ [oe]) := by
  refine ⟨by rw [List.length_append, List.length_append, h.1]; rfl, fun i o e => ?_⟩
  by_cases hi : i < es.length
  · rw [List.getElem?_append_left hi] at e
    obtain ⟨u, e1, e2⟩ := h.2 i o e
    exact ⟨u, by rw [List.getElem?_append_left (by rw [h.1]; exact hi)]; exact e1, e2⟩
  · rw [List.getElem?_append_right (by omega)] at e
    have hi' : i - es.length = 0 := by
      rcases Nat.eq_zero_or_pos (i - es.length) with z | z
      · exact z
      · rw [List.getElem?_eq_none (by simp; omega)] at e; cases e
    rw [hi'] at e
    cases e
    exact ⟨v, by rw [List.getElem?_append_right (by rw [h.1]; omega), h.1, hi']; rfl, hv⟩
theorem EntVs.nil {K : PySem.W.Frag} {H : Hp} : EntVs K H [] [] := ⟨rfl, fun i oe e => by simp at e⟩
def entD : Option Ent → PyData
  | none => .none
  | some e => .tuple [.int e.h, .int e.b, .tuple [.int e.v4, .int e.v5, .int e.v6]]
theorem EntV.dp {K : PySem.W.Frag} {H : Hp} {v : V} {oe : Option Ent} (h : EntV K H v oe) : Dp K H (entD oe) v := by
  cases oe with
  | none => cases h; exact dp_none
  | some e =>
    obtain ⟨p, rfl, q, h1, h2⟩ := h
    exact dp_tup h1 (dpAll_cons (dp_int _) (dpAll_cons (dp_int _) (dpAll_cons (dp_tup h2 (dpAll_cons (dp_int _) (dpAll_cons (dp_int _) (dpAll_cons (dp_int _) dpAll_nil)))) dpAll_nil)))
theorem shaped_ent (e : Option Ent) : shaped (entD e) = true := by cases e <;> rfl

structure Cal where
  r : Int
  a : Int
  b : Int
  c : Int
  n : Int
def CalV (H : Hp) (v : V) (c : Cal) : Prop := ∃ t q, v = .ref t ∧ H t = some (.tup [.int c.r, .ref q, .int c.n]) ∧ H q = some (.tup [.int c.a, .int c.b, .int c.c])
theorem r_gTup {K : PySem.W.Frag} {p : Addr} {xs : List V} {n : Nat} {t : TGs} {σ : L2.St} {H : Hp} {Q : L2.St → Hp → Prop} (h : SqT K H p xs) (hl : xs.length = n) (q : t xs σ H Q) : gTup K n t (.ref p) σ H Q := ⟨p, xs, rfl, h, hl, q⟩
theorem r_gCons {t : TG} {u : TGs} {v : V} {r : List V} {σ : L2.St} {H : Hp} {Q : L2.St → Hp → Prop} (q : t v σ H fun σ' H' => u r σ' H' Q) : gCons t u (v :: r) σ H Q := ⟨v, r, rfl, q⟩
theorem r_gNil {σ : L2.St} {H : Hp} {Q : L2.St → Hp → Prop} (q : Q σ H) : gNil [] σ H Q := ⟨rfl, q⟩
theorem b_dict : bootBuiltins "dict" = some (.type "dict") := by decide +kernel
def tabF (l d : Addr) : List (Str × V) := putF "landings" (.ref d) (putF "entries" (.ref l) [])

def spTab (K : PySem.W.Frag) (C : Addr) : Sp := fun vs H Q _ => ∃ (x dx pe : Addr) (lv : V) (xs : List V) (kvs : List (Key × V)), vs = [.ref x, .ref pe, lv] ∧ H x = some (.ins C dx []) ∧ SqL K H pe xs ∧
  ((lv = .non ∧ kvs = []) ∨ ∃ pd, lv = .ref pd ∧ H pd = some (.dK kvs)) ∧
  ∀ l d H', H l = none → H d = none → l ≠ d → (∀ b o, H b = some o → b ≠ x → H' b = some o) → H' x = some (.ins C dx (tabF l d)) → H' l = some (.lst xs) → H' d = some (.dK kvs) → Q .non H'
def spSets (K : PySem.W.Frag) : Sp := fun vs H Q _ => ∃ (p : Addr) (e : Ent), vs = [.ref p] ∧ EntAt K H p e ∧ ∀ t, H t = none → Q (.ref t) (upd H t (.tup (e.sets.map V.int)))
theorem b_sorted : bootBuiltins "sorted" = some (.builtin "sorted") := by decide +kernel
def eqE (a b : Option Ent) : Bool := PyData.eqv (entD a) (entD b)
def Rw.here : Rw → Prop
  | .set .. => True
  | .copy .. => True
  | .add .. => True
  | .sub .. => False
  | .mul .. => False
  | .less .. => False
  | .grow .. => True
  | .shrink .. => True
  | .put .. => True
  | .get .. => True
  | .jump .. => True
  | .branch .. => True
  | .call .. => True
  | .back .. => True
  | .drop .. => True
def Rw.isCall : Rw → Bool
  | .call _ => true
  | _ => false
def Rw.isBack : Rw → Bool
  | .back _ => true
  | _ => false
def RowsAt (a : Adr) (H : Hp) (prs : List Addr) (rs : List Rw) : Prop := prs.length = rs.length ∧ ∀ (i : Nat) (p : Addr) (r : Rw), prs[i]? = some p → rs[i]? = some r → RowAt a H p r
theorem RowsAt.to {a : Adr} {H H' : Hp} {prs : List Addr} {rs : List Rw} (h : RowsAt a H prs rs) (k : ∀ p ∈ prs, ∀ o, H p = some o → H' p = some o) : RowsAt a H' prs rs :=
  ⟨h.1, fun i p r e1 e2 => let ⟨dx, e⟩ := h.2 i p r e1 e2; ⟨dx, k p (List.mem_of_getElem? e1) _ e⟩⟩
theorem RowsAt.same {a : Adr} {H H' : Hp} {prs : List Addr} {rs : List Rw} (h : RowsAt a H prs rs) (s : Same H H') : RowsAt a H' prs rs := h.to fun _ _ _ e => s _ _ e
theorem RowsAt.nil {a : Adr} {H : Hp} : RowsAt a H [] [] := ⟨rfl, fun i p r e => by simp at e⟩
theorem RowsAt.snoc {a : Adr} {H : Hp} {prs : List Addr} {rs : List Rw} {p : Addr} {r : Rw} (h : RowsAt a H prs rs) (q : RowAt a H p r) : RowsAt a H (prs ++ [p]) (rs ++ [r]) := by
  refine ⟨by rw [List.length_append, List.length_append, h.1]; rfl, fun i p' r' e1 e2 => ?_⟩
  by_cases hi : i < rs.length
  · rw [List.getElem?_append_left (by rw [h.1]; exact hi)] at e1
    rw [List.getElem?_append_left hi] at e2
    exact h.2 i p' r' e1 e2
  · have hi' : i = rs.length := by
      have := (List.getElem?_eq_some_iff.mp e2).1
      rw [List.length_append] at this
      simp at this; omega
    subst hi'
    rw [List.getElem?_append_right (by omega)] at e2
    rw [List.getElem?_append_right (by rw [h.1]; omega), h.1] at e1
    simp at e1 e2
    subst e1 e2
    exact q
def landKV (l : List (Int × Int)) : List (Key × V) := l.map fun p => ((Sum.inl p.1 : Key), V.int p.2)
theorem land_put {l : List (Int × Int)} {c r : Int} (h : valV (landKV l) (.inl c) = none) : putK (landKV l) (.inl c) (.int r) = landKV (l ++ [(c, r)]) := by
  rw [putK_new _ h]
  unfold landKV
  rw [List.map_append]; rfl

def lv (ls : List (Int × Int)) (k : Int) : Int := ((ls.find? fun p => decide (p.1 = k)).map (·.2)).getD 0
theorem land_val : ∀ {ls : List (Int × Int)}, (ls.map (·.1)).Nodup → ∀ p ∈ ls, valV (landKV ls) (.inl p.1) = some (.int p.2) ∧ lv ls p.1 = p.2
  | [], _, _, h => nomatch h
  | (c, r) :: ls, hn, p, hp => by
    rw [List.map_cons, List.nodup_cons] at hn
    rcases List.mem_cons.mp hp with rfl | hp
    · refine ⟨?_, ?_⟩
      · show valV ((Sum.inl c, V.int r) :: landKV ls) (.inl c) = _
        rw [valV_pos rfl]
      · unfold lv; rw [List.find?_cons, decide_eq_true rfl]; rfl
    · have ne : ¬ c = p.1 := fun z => hn.1 (List.mem_map.mpr ⟨p, hp, z.symm⟩)
      obtain ⟨i1, i2⟩ := land_val hn.2 p hp
      refine ⟨?_, ?_⟩
      · show valV ((Sum.inl c, V.int r) :: landKV ls) (.inl p.1) = _
        rw [valV_neg (fun z => ne (Sum.inl.inj z))]; exact i1
      · unfold lv at i2 ⊢; rw [List.find?_cons, decide_eq_false ne]; exact i2
theorem land_none : ∀ {ls : List (Int × Int)} {c : Int}, c ∉ ls.map (·.1) → valV (landKV ls) (.inl c) = none
  | [], _, _ => rfl
  | (d, r) :: ls, c, h => by
    rw [List.map_cons, List.mem_cons, not_or] at h
    show valV ((Sum.inl d, V.int r) :: landKV ls) (.inl c) = _
    rw [valV_neg (fun z => h.1 (Sum.inl.inj z).symm)]
    exact land_none h.2
theorem land_keys (ls : List (Int × Int)) : (landKV ls).map (·.1) = (ls.map (·.1)).map Sum.inl := by
  unfold landKV; rw [List.map_map, List.map_map]; rfl
theorem b_any : bootBuiltins "any" = some (.builtin "any") := by decide +kernel
inductive Wt where
  | place | height | back | row | non | start | call | length | b4 | b5 | b6
def Wt.v : Wt → V
  | .place => .str "place" | .height => .str "height" | .back => .str "back" | .row => .str "row" | .non => .str "none" | .start => .str "start" | .call => .str "call" | .length => .str "length"
  | .b4 => .int 4 | .b5 => .int 5 | .b6 => .int 6
def Wt.d : Wt → PyData
  | .place => .str "place" | .height => .str "height" | .back => .str "back" | .row => .str "row" | .non => .str "none" | .start => .str "start" | .call => .str "call" | .length => .str "length"
  | .b4 => .int 4 | .b5 => .int 5 | .b6 => .int 6
def oV : Option Wt → V
  | none => .non
  | some w => w.v
theorem Wt.dp {K : PySem.W.Frag} {H : Hp} (w : Wt) : Dp K H w.d w.v := by cases w <;> first | exact dp_str _ | exact dp_int _
theorem Wt.lay (w : Wt) : w.d.canLay0 = true := by cases w <;> first | rfl | decide +kernel
theorem Wt.dep (w : Wt) : w.d.depth = 0 := by cases w <;> rfl
def stE : Option Ent := some ⟨0, 128, 16, 32, 64⟩
def wrongS (h s : Int) : Bool := decide (s ≤ 0) || !decide (s / 2 ^ (8 + h).toNat = 0)
def wrongE (e : Ent) : Bool := decide (e.h < 0) || (decide (4000 < e.h) || e.sets.any (wrongS e.h))
def mayB (b : Int) (e : Ent) : Bool := decide (e.h = 0) && ((Builtin.bitAnd e.b ((2 ^ b.toNat : Nat) : Int) != 0) && ((Builtin.bitAnd e.v4 16 != 0) && ((Builtin.bitAnd e.v5 32 != 0) && (Builtin.bitAnd e.v6 64 != 0))))
def ownC (r : Rw) (e : Ent) : Option Wt := if wrongE e = true then some .place else if r.height e.h = none then some .height else match r with | .back b => if mayB b e = true then none else some .back | _ => none
def lackW (r : Rw) (e t : Ent) : Option Wt := if Bt.wo t.b.toNat (r.keep e.b.toNat e.h) ≠ 0 then some .back else if Bt.wo t.v4.toNat (r.keep e.v4.toNat e.h) ≠ 0 then some .b4 else if Bt.wo t.v5.toNat (r.keep e.v5.toNat e.h) ≠ 0 then some .b5 else if Bt.wo t.v6.toNat (r.keep e.v6.toNat e.h) ≠ 0 then some .b6 else none
def wayC (r : Rw) (e : Ent) (c : Int) (es : List (Option Ent)) : Option Wt := if 0 ≤ c ∧ c < es.length then (match es[c.toNat]?.join with | none => some .non | some t => if r.height e.h = some t.h then lackW r e t else some .height) else some .row
def tgtC (t : Int) (es : List (Option Ent)) : Option Wt := if 0 ≤ t ∧ t < es.length then (if eqE (es[t.toNat]?.join) stE = true then none else some .start) else some .row
def Ent.nn (e : Ent) : Prop := 0 ≤ e.b ∧ 0 ≤ e.v4 ∧ 0 ≤ e.v5 ∧ 0 ≤ e.v6
def spIsRow (K : PySem.W.Frag) : Sp := fun vs H Q _ => ∃ (n : Int) (p : Addr) (us : List V), vs = [.int n, .ref p] ∧ SqL K H p us ∧ Q (.bl (decide (0 ≤ n ∧ n < us.length))) H
def spWrong (K : PySem.W.Frag) : Sp := fun vs H Q _ => ∃ (p : Addr) (e : Ent), vs = [.ref p] ∧ EntAt K H p e ∧ ∀ H', Same H H' → Q (.bl (wrongE e)) H'
def spMayB (K : PySem.W.Frag) (a : Adr) : Sp := fun vs H Q _ => ∃ (x p : Addr) (b : Int) (e : Ent), vs = [.ref x, .ref p] ∧ RowAt a H x (.back b) ∧ 0 ≤ b ∧ b ≤ 7 ∧ EntAt K H p e ∧ ∀ H', Same H H' → Q (.bl (mayB b e)) H'
def spOwnC (K : PySem.W.Frag) (a : Adr) : Sp := fun vs H Q _ => ∃ (x p : Addr) (r : Rw) (e : Ent), vs = [.ref x, .ref p] ∧ RowAt a H x r ∧ r.ok ∧ r.here ∧ EntAt K H p e ∧ ∀ H', Same H H' → Q (oV (ownC r e)) H'
def spWayC (K : PySem.W.Frag) (a : Adr) : Sp := fun vs H Q _ => ∃ (x p l : Addr) (c : Int) (r : Rw) (e : Ent) (ev : List V) (es : List (Option Ent)), vs = [.ref x, .ref p, .int c, .ref l] ∧ RowAt a H x r ∧ r.ok ∧ r.here ∧ EntAt K H p e ∧ e.nn ∧ 0 ≤ e.h ∧ e.h ≤ 4000 ∧ (r.height e.h).isSome = true ∧ H l = some (.lst ev) ∧ EntVs K H ev es ∧ (∀ t, some t ∈ es → t.nn) ∧ ∀ H', Same H H' → Q (oV (wayC r e c es)) H'
def spTgtC (K : PySem.W.Frag) (a : Adr) : Sp := fun vs H Q _ => ∃ (x l : Addr) (t : Int) (ev : List V) (es : List (Option Ent)), vs = [.ref x, .ref l] ∧ RowAt a H x (.call t) ∧ H l = some (.lst ev) ∧ EntVs K H ev es ∧ ∀ H', Same H H' → Q (oV (tgtC t es)) H'
def once (ns : List Int) : List Int := ns.foldl (fun t n => if n ∈ t then t else t ++ [n]) []
def spOnce (K : PySem.W.Frag) : Sp := fun vs H Q _ => ∃ (p : Addr) (ns : List Int), vs = [.ref p] ∧ SqL K H p (ns.map V.int) ∧ ns.length ≤ 4000 ∧ ∀ q H', Same H H' → H' q = some (.lst ((once ns).map V.int)) → Q (.ref q) H'

theorem flat_ints (ns : List Int) : (ns.map V.int).all flatV = true := by rw [List.all_map]; exact List.all_eq_true.mpr fun _ _ => rfl
theorem inV_ints (n : Int) (ns : List Int) : inV (.int n) (ns.map V.int) = decide (n ∈ ns) := by
  unfold inV
  rw [List.any_map]
  induction ns with
  | nil => rfl
  | cons p ps ih =>
    rw [List.any_cons, ih]
    show (eqV (.int p) (.int n) || _) = _
    by_cases e : n = p
    · subst e; simp [eqV]
    · have : ¬ p = n := fun z => e z.symm
      simp [eqV, e, this]
theorem EntVs.at {K : PySem.W.Frag} {H : Hp} {vs : List V} {es : List (Option Ent)} {c : Int} (h : EntVs K H vs es) (h0 : 0 ≤ c) (h1 : c < es.length) : ∃ v oe, atI vs c = some v ∧ es[c.toNat]? = some oe ∧ oe ∈ es ∧ EntV K H v oe := by
  have hi : c.toNat < es.length := by omega
  obtain ⟨v, e1, e2⟩ := h.2 c.toNat _ (List.getElem?_eq_getElem hi)
  exact ⟨v, _, by rw [show c = ((c.toNat : Nat) : Int) from by omega]; exact atI_nat e1, List.getElem?_eq_getElem hi, List.getElem_mem hi, e2⟩
theorem start_dp {K : PySem.W.Frag} {H : Hp} {s q : Addr} (h1 : SqT K H s [.int 0, .int 128, .ref q]) (h2 : SqT K H q [.int 16, .int 32, .int 64]) : Dp K H (entD stE) (.ref s) := dp_tup h1 (dpAll_cons (dp_int _) (dpAll_cons (dp_int _) (dpAll_cons (dp_tup h2 (dpAll_cons (dp_int _) (dpAll_cons (dp_int _) (dpAll_cons (dp_int _) dpAll_nil)))) dpAll_nil)))
theorem r_eqE {K : PySem.W.Frag} {x y : V} {H : Hp} {Q : VK} (a b : Option Ent) (hx : Dp K H (entD a) x) (hy : Dp K H (entD b) y) (q : Q (.bl (eqE a b)) H) : rEqA K x y H Q := .inr ⟨entD a, entD b, hx, hy, shaped_ent a, shaped_ent b, q⟩
theorem r_neE {K : PySem.W.Frag} {x y : V} {H : Hp} {Q : VK} (a b : Option Ent) (hx : Dp K H (entD a) x) (hy : Dp K H (entD b) y) (q : Q (.bl (!eqE a b)) H) : rNeA K x y H Q := .inr ⟨entD a, entD b, hx, hy, shaped_ent a, shaped_ent b, q⟩

theorem r_notW {w : Wt} {H : Hp} {Q : VK} (q : Q (.bl true) H) : rNotN w.v .non H Q := ⟨rfl, by rw [decide_eq_false (fun z => by cases w <;> cases z)]; exact q⟩
theorem r_isW {w : Wt} {H : Hp} {Q : VK} (q : Q (.bl false) H) : rIsN w.v .non H Q := ⟨rfl, by rw [decide_eq_false (fun z => by cases w <;> cases z)]; exact q⟩
structure Cm where
  i : Int
  at_ : Int
  w : Wt
def CmV (H : Hp) (v : V) (c : Cm) : Prop := ∃ q, v = .ref q ∧ H q = some (.tup [.int c.i, .int c.at_, c.w.v])
def CmVs (H : Hp) (vs : List V) (cs : List Cm) : Prop := vs.length = cs.length ∧ ∀ (i : Nat) (c : Cm), cs[i]? = some c → ∃ v, vs[i]? = some v ∧ CmV H v c
theorem CmV.same {H H' : Hp} {v : V} {c : Cm} (h : CmV H v c) (s : Same H H') : CmV H' v c := let ⟨q, e, k⟩ := h; ⟨q, e, s _ _ k⟩
theorem CmVs.same {H H' : Hp} {vs : List V} {cs : List Cm} (h : CmVs H vs cs) (s : Same H H') : CmVs H' vs cs := ⟨h.1, fun i c e => let ⟨v, e1, e2⟩ := h.2 i c e; ⟨v, e1, e2.same s⟩⟩
theorem CmVs.nil {H : Hp} : CmVs H [] [] := ⟨rfl, fun i c e => by simp at e⟩
theorem CmVs.app {H : Hp} {vs us : List V} {cs ds : List Cm} (h : CmVs H vs cs) (k : CmVs H us ds) : CmVs H (vs ++ us) (cs ++ ds) := by
  refine ⟨by rw [List.length_append, List.length_append, h.1, k.1], fun i o e => ?_⟩
  by_cases hi : i < cs.length
  · rw [List.getElem?_append_left hi] at e
    obtain ⟨u, e1, e2⟩ := h.2 i o e
    exact ⟨u, by rw [List.getElem?_append_left (by rw [h.1]; exact hi)]; exact e1, e2⟩
  · rw [List.getElem?_append_right (by omega)] at e
    obtain ⟨u, e1, e2⟩ := k.2 _ o e
    exact ⟨u, by rw [List.getElem?_append_right (by rw [h.1]; omega), h.1]; exact e1, e2⟩
theorem CmVs.one {H : Hp} {v : V} {c : Cm} (h : CmV H v c) : CmVs H [v] [c] := ⟨rfl, fun i c' e => by
  cases i with
  | zero => simp at e; subst e; exact ⟨v, rfl, h⟩
  | succ i => simp at e⟩
def cmD (c : Cm) : PyData := .tuple [.int c.i, .int c.at_, c.w.d]
theorem CmV.dp {K : PySem.W.Frag} {H : Hp} {v : V} {c : Cm} (h : CmV H v c) : Dp K H (cmD c) v := by
  obtain ⟨q, rfl, k⟩ := h
  exact dp_tup (SqT.of k) (dpAll_cons (dp_int _) (dpAll_cons (dp_int _) (dpAll_cons c.w.dp dpAll_nil)))
theorem CmVs.dp {K : PySem.W.Frag} {H : Hp} : ∀ {vs : List V} {cs : List Cm}, CmVs H vs cs → DpAll K H (cs.map cmD) vs
  | [], [], _ => dpAll_nil
  | [], _ :: _, h => by have := h.1; simp at this
  | _ :: _, [], h => by have := h.1; simp at this
  | v :: vs, e :: es, h => by
    obtain ⟨u, e1, e2⟩ := h.2 0 e rfl
    cases e1
    refine dpAll_cons e2.dp (CmVs.dp (vs := vs) (cs := es) ⟨by simpa using h.1, fun i oe e => ?_⟩)
    obtain ⟨u, e1, e2⟩ := h.2 (i + 1) oe (by simpa using e)
    exact ⟨u, by simpa using e1, e2⟩
theorem cm_lay (c : Cm) : (cmD c).canLay0 = true := by
  unfold cmD
  simp [PyData.canLay0, PyData.canLayAll0, c.w.lay]
theorem cm_dep (c : Cm) : (cmD c).depth ≤ 1 := by
  unfold cmD
  simp [PyData.depth, PyData.depthAll, c.w.dep]
theorem cms_lay : ∀ cs : List Cm, PyData.canLayAll0 (cs.map cmD) = true
  | [] => rfl
  | e :: es => by rw [List.map_cons, PyData.canLayAll0, cms_lay es, cm_lay]; rfl
theorem cms_dep : ∀ cs : List Cm, PyData.depthAll (cs.map cmD) ≤ 1
  | [] => by decide
  | e :: es => by
    have h1 := cm_dep e
    have h2 := cms_dep es
    rw [List.map_cons, PyData.depthAll]
    omega
theorem shaped_cms (cs : List Cm) : shaped (.list (cs.map cmD)) = true := by
  have := cms_dep cs
  unfold shaped
  rw [PyData.canLay0, cms_lay, PyData.depth]
  simp; omega
theorem shaped_cm (c : Cm) : shaped (cmD c) = true := by
  have := cm_dep c
  unfold shaped
  rw [cm_lay]
  simp; omega
def tgtR (r : Rw) (i : Int) (es : List (Option Ent)) : List Cm := match r with | .call t => ((tgtC t es).map fun w => Cm.mk i t w).toList | _ => []
def rowC (r : Rw) (e : Ent) (i : Int) (es : List (Option Ent)) : List Cm := match ownC r e with
  | some w => [⟨i, i, w⟩]
  | none => ((once (r.goes i)).filterMap fun c => (wayC r e c es).map fun w => Cm.mk i c w) ++ tgtR r i es
def rowsC (rs : List Rw) (es : List (Option Ent)) (i : Nat) : List Cm := match rs[i]?, es[i]?.join with
  | some r, some e => rowC r e i es
  | _, _ => []
def landW (r : Rw) (oe : Option Ent) (at_ : Int) (es : List (Option Ent)) : Option Wt := if r.isCall = true then (match oe with | none => none | some e => if (ownC r e).isSome = true then none else wayC r e at_ es) else some .call
def landC (rs : List Rw) (es : List (Option Ent)) (i at_ : Int) : Option Wt :=
  if 0 ≤ i ∧ i < es.length then (match rs[i.toNat]?, es[i.toNat]?.join with
    | some r, oe => landW r oe at_ es
    | none, _ => some .call) else some .call
structure Ents (rs : List Rw) (es : List (Option Ent)) : Prop where
  ok : ∀ r ∈ rs, r.ok ∧ r.here
  nn : ∀ t, some t ∈ es → t.nn
  nr : rs.length ≤ 100
  ne : es.length ≤ 100
def spRowC (K : PySem.W.Frag) (a : Adr) : Sp := fun vs H Q _ => ∃ (c l : Addr) (i : Nat) (prs : List Addr) (rs : List Rw) (ev : List V) (es : List (Option Ent)), vs = [.ref c, .ref l, .int (i : Int)] ∧ H c = some (.lst (prs.map V.ref)) ∧ RowsAt a H prs rs ∧ H l = some (.lst ev) ∧ EntVs K H ev es ∧ Ents rs es ∧ i < rs.length ∧ rs.length = es.length ∧
  ∀ p us H', Same H H' → H' p = some (.lst us) → CmVs H' us (rowsC rs es i) → H p = none → Q (.ref p) H'
def spLandC (K : PySem.W.Frag) (a : Adr) : Sp := fun vs H Q _ => ∃ (c l : Addr) (i z : Int) (prs : List Addr) (rs : List Rw) (ev : List V) (es : List (Option Ent)), vs = [.ref c, .ref l, .int i, .int z] ∧ H c = some (.lst (prs.map V.ref)) ∧ RowsAt a H prs rs ∧ H l = some (.lst ev) ∧ EntVs K H ev es ∧ Ents rs es ∧ rs.length = es.length ∧
  ∀ H', Same H H' → Q (oV (landC rs es i z)) H'

def startC (rs : List Rw) (es : List (Option Ent)) : List Cm := if 0 < rs.length then (if eqE (es[0]?.join) stE = true then [] else [⟨-1, 0, .start⟩]) else []
def landsC (rs : List Rw) (es : List (Option Ent)) (ls : List (Int × Int)) (ks : List Int) : List Cm := ks.flatMap fun k => ((landC rs es k (lv ls k)).map fun w => Cm.mk k (lv ls k) w).toList
def rowsTo (rs : List Rw) (es : List (Option Ent)) (n : Nat) : List Cm := (List.range n).flatMap fun i => rowsC rs es i
def checkC (rs : List Rw) (es : List (Option Ent)) (ls : List (Int × Int)) (ks : List Int) : List Cm :=
  if es.length = rs.length then startC rs es ++ rowsTo rs es rs.length ++ landsC rs es ls ks else [⟨-1, -1, .length⟩]
theorem rowsTo_succ (rs : List Rw) (es : List (Option Ent)) (n : Nat) : rowsTo rs es (n + 1) = rowsTo rs es n ++ rowsC rs es n := by
  unfold rowsTo; rw [List.range_succ, List.flatMap_append]; simp
theorem rowC_few (r : Rw) (e : Ent) (i : Int) (es : List (Option Ent)) : (rowC r e i es).length ≤ 10 := by
  unfold rowC
  split
  · exact Nat.le_of_ble_eq_true rfl
  · rw [List.length_append]
    have h1 := List.length_filterMap_le (fun c => (wayC r e c es).map fun w => Cm.mk i c w) (once (r.goes i))
    have h2 : (once (r.goes i)).length ≤ 9 := by
      cases r <;> simp [Rw.goes, once]
      split <;> simp
    have h3 : (tgtR r i es).length ≤ 1 := by
      unfold tgtR
      split
      · cases tgtC _ es <;> exact Nat.le_of_ble_eq_true rfl
      · exact Nat.zero_le _
    omega
theorem rowsC_few (rs : List Rw) (es : List (Option Ent)) (i : Nat) : (rowsC rs es i).length ≤ 10 := by
  unfold rowsC
  split
  · exact rowC_few _ _ _ _
  · exact Nat.zero_le _
theorem rowsTo_few (rs : List Rw) (es : List (Option Ent)) : ∀ n, (rowsTo rs es n).length ≤ 10 * n
  | 0 => Nat.le_refl _
  | n + 1 => by
    rw [rowsTo_succ, List.length_append]
    have := rowsTo_few rs es n
    have := rowsC_few rs es n
    omega
theorem startC_few (rs : List Rw) (es : List (Option Ent)) : (startC rs es).length ≤ 1 := by
  unfold startC
  split
  · split <;> exact Nat.le_of_ble_eq_true rfl
  · exact Nat.zero_le _

theorem sorted_eq {ks ls : List Int} (h : ks.Perm ls) (h1 : ks.Pairwise (· ≤ ·)) (h2 : ls.Pairwise (· ≤ ·)) : ks = ls := h.eq_of_pairwise (fun a b _ _ x y => Int.le_antisymm x y) h1 h2
def TabOf (K : PySem.W.Frag) (a : Adr) (H : Hp) (t : Addr) (ev : List V) (ls : List (Int × Int)) : Prop := ∃ dt l d, H t = some (.ins a.C_Table dt (tabF l d)) ∧ H l = some (.lst ev) ∧ H d = some (.dK (landKV ls))
def spCheck (K : PySem.W.Frag) (a : Adr) : Sp := fun vs H Q _ => ∃ (c t : Addr) (prs : List Addr) (rs : List Rw) (ev : List V) (es : List (Option Ent)) (ls : List (Int × Int)), vs = [.ref c, .ref t] ∧ H c = some (.lst (prs.map V.ref)) ∧ RowsAt a H prs rs ∧ TabOf K a H t ev ls ∧ EntVs K H ev es ∧ Ents rs es ∧ (ls.map (·.1)).Nodup ∧ ls.length < 64 ∧
  ∀ p us ks H', Same H H' → H' p = some (.lst us) → (es.length = rs.length → ks.Perm (ls.map (·.1)) ∧ ks.Pairwise (· ≤ ·)) → CmVs H' us (checkC rs es ls ks) → Q (.ref p) H'

local macro_rules | `(tactic| walk_at "mine") => `(tactic| first | (with_reducible refine r_notW ?_) | (with_reducible refine r_isW ?_) | (with_reducible refine r_chain ?_) | (with_reducible refine r_zip ?_) | (with_reducible refine r_zip3 ?_) | (with_reducible refine r_dnew ?_) | (with_reducible refine r_dPut ?_) | (with_reducible refine r_makeD _ _ _ ?_) | (with_reducible refine r_bitlen ?_) | (with_reducible refine r_tyI ?_) | (with_reducible refine r_low ?_) | (with_reducible refine r_gCons ?_) | (with_reducible refine r_gNil ?_) | ((with_reducible refine' r_gTup ?x ?y ?_); (case x => walk_at "sqt"); (case y => with_unfolding_all rfl)) | ((with_reducible refine' r_dict ?x ?_); (case x => walk_at "hlk")) | ((with_reducible refine' r_dputI ?x ?y ?_); (case x => walk_at "hlk"); (case y => walk_at "small")) | ((with_reducible refine' r_plusL ?x ?y ?z ?_); (case x => walk_at "hlk"); (case y => walk_at "hlk"); (case z => walk_at "small")))

section
variable {P : Program} {w : World} {K : PySem.W.Frag} {mg : Str → Option Value} {base : Heap} {a : Adr}

theorem or_wo (t k : Nat) : (t ||| k = k) ↔ Bt.wo t k = 0 := by
  constructor
  · intro h
    apply Nat.eq_of_testBit_eq; intro i
    rw [Bt.wo_bit, Nat.zero_testBit]
    have := congrArg (fun x => x.testBit i) h
    simp only [Nat.testBit_or] at this
    cases h1 : t.testBit i <;> cases h2 : k.testBit i <;> simp [h1, h2] at this ⊢
  · intro h
    apply Nat.eq_of_testBit_eq; intro i
    have := congrArg (fun x => x.testBit i) h
    simp only [Bt.wo_bit, Nat.zero_testBit] at this
    rw [Nat.testBit_or]
    cases h1 : t.testBit i <;> cases h2 : k.testBit i <;> simp [h1, h2] at this ⊢
theorem r_neNil {K : PySem.W.Frag} {l l2 : Addr} {ns : List Int} {H : Hp} {Q : VK} (h : H l = some (.lst (ns.map V.int))) (h2 : H l2 = some (.lst [])) (q : Q (.bl (!ns.isEmpty)) H) : rNeA K (.ref l) (.ref l2) H Q := by
  refine .inr ⟨.list (ns.map PyData.int), .list [], dp_ints (SqL.of h), dp_lst (SqL.of h2) dpAll_nil, shaped_ints ns, rfl, ?_⟩
  rw [show PyData.eqv (.list (ns.map PyData.int)) (.list []) = ns.isEmpty from by cases ns <;> simp [PyData.eqv, PyData.eqvAll]]
  exact q
def spLSets (K : PySem.W.Frag) : Sp := fun vs H Q _ => ∃ (p : Addr) (e : Ent), vs = [.ref p] ∧ EntAt K H p e ∧ ∀ t, H t = none → Q (.ref t) (upd H t (.lst (e.sets.map V.int)))
def spLSet : Sp := fun vs H Q _ => ∃ (c o h : Int), vs = [.int c, .int o, .int h] ∧ 0 ≤ o ∧ o ≤ 128 ∧ h ≤ 4010 ∧ ∀ r H', 0 ≤ r → Same H H' → Q (.int r) H'
def spRow31 (a : Adr) : Sp := fun vs H Q _ => ∃ c m : Int, vs = [.int c, .int m] ∧ 0 ≤ m ∧ m ≤ 8 ∧ ∀ p r H', Same H H' → RowAt a H' p r → r.ok → r.here → Q (.ref p) H'
def spNext31 (K : PySem.W.Frag) (a : Adr) : Sp := fun vs H Q _ => ∃ (x p l : Addr) (c : Int) (r : Rw) (e : Ent) (ev : List V) (es : List (Option Ent)), vs = [.ref x, .ref p, .ref l, .int c] ∧ RowAt a H x r ∧ r.ok ∧ r.here ∧ EntAt K H p e ∧ e.nn ∧ 0 ≤ e.h ∧ e.h ≤ 4000 ∧ (r.height e.h).isSome = true ∧ H l = some (.lst ev) ∧ EntVs K H ev es ∧ (∀ t, some t ∈ es → t.nn) ∧ ∀ H', Same H H' → Q (oV (wayC r e c es)) H'
def EntO (o : Option Ent) : Prop := ∀ e, o = some e → e.nn
def spEnt31 (K : PySem.W.Frag) (a : Adr) : Sp := fun vs H Q _ => ∃ (c : Int) (v : V) (x : Addr) (oe : Option Ent) (r : Rw), vs = [.int c, v, .ref x] ∧ EntV K H v oe ∧ EntO oe ∧ RowAt a H x r ∧ r.ok ∧ r.here ∧ ∀ u o H', Same H H' → EntV K H' u o → EntO o → Q u H'
end
section
variable {P : Program} {w : World} {K : PySem.W.Frag} {mg : Str → Option Value} {base : Heap} {a : Adr}

def accS (r : Rw) (e : Ent) (i : Int) (es : List (Option Ent)) (acc : List Cm) (c : Int) : List Cm := match wayC r e c es with
  | none => acc
  | some w => if (acc.map cmD).any (fun d => d.eqv (cmD ⟨i, c, w⟩)) = true then acc else acc ++ [⟨i, c, w⟩]
theorem acc_once (r : Rw) (e : Ent) (i : Int) (es : List (Option Ent)) : (r.goes i).foldl (accS r e i es) [] = (once (r.goes i)).filterMap fun c => (wayC r e c es).map fun w => Cm.mk i c w := by
  have one : ∀ c, [c].foldl (accS r e i es) [] = (once [c]).filterMap fun c => (wayC r e c es).map fun w => Cm.mk i c w := fun c => by
    show accS r e i es [] c = _
    unfold accS
    cases h : wayC r e c es with
    | none => simp [once, h]
    | some w => simp [once, h]
  cases r with
  | branch b t =>
    show accS _ e i es (accS _ e i es [] (i + 1)) t = (once [i + 1, t]).filterMap _
    have e1 : accS (.branch b t) e i es [] (i + 1) = ((wayC (.branch b t) e (i + 1) es).map fun w => Cm.mk i (i + 1) w).toList := by
      unfold accS
      cases wayC (.branch b t) e (i + 1) es <;> rfl
    rw [e1]
    by_cases ht : t = i + 1
    · subst ht
      have eo : once [i + 1, i + 1] = [i + 1] := by simp [once]
      rw [eo]
      unfold accS
      cases h : wayC (.branch b (i + 1)) e (i + 1) es with
      | none => simp [h]
      | some w =>
        have hr : (cmD ⟨i, i + 1, w⟩).eqv (cmD ⟨i, i + 1, w⟩) = true := eqv_refl _ (cm_lay _)
        simp [h, hr]
    · have eo : once [i + 1, t] = [i + 1, t] := by simp [once, ht]
      rw [eo]
      unfold accS
      cases h : wayC (.branch b t) e (i + 1) es with
      | none =>
        cases h2 : wayC (.branch b t) e t es <;> simp [h, h2]
      | some w =>
        cases h2 : wayC (.branch b t) e t es with
        | none => simp [h, h2]
        | some w2 =>
          have hne : ¬ (i + 1 = t) := fun z => ht z.symm
          have hr : (cmD ⟨i, i + 1, w⟩).eqv (cmD ⟨i, t, w2⟩) = false := by simp [cmD, PyData.eqv, PyData.eqvAll, hne]
          simp [h, h2, hr]
  | back b => rfl
  | drop b => rfl
  | _ => exact one _
def spOfRow (K : PySem.W.Frag) (a : Adr) : Sp := fun vs H Q _ => ∃ (c l : Addr) (i : Nat) (prs : List Addr) (rs : List Rw) (ev : List V) (es : List (Option Ent)) (r : Rw) (e : Ent), vs = [.ref c, .ref l, .int (i : Int)] ∧ H c = some (.lst (prs.map V.ref)) ∧ RowsAt a H prs rs ∧ H l = some (.lst ev) ∧ EntVs K H ev es ∧ Ents rs es ∧ rs.length = es.length ∧ rs[i]? = some r ∧ es[i]? = some (some e) ∧
  ∀ p us H', Same H H' → H' p = some (.lst us) → CmVs H' us (rowC r e i es) → Q (.ref p) H'
def spOfLand (K : PySem.W.Frag) (a : Adr) : Sp := fun vs H Q _ => ∃ (c l : Addr) (i z : Int) (prs : List Addr) (rs : List Rw) (ev : List V) (es : List (Option Ent)), vs = [.ref c, .ref l, .int i, .int z] ∧ H c = some (.lst (prs.map V.ref)) ∧ RowsAt a H prs rs ∧ H l = some (.lst ev) ∧ EntVs K H ev es ∧ Ents rs es ∧ rs.length = es.length ∧
  ∀ p us H', Same H H' → H' p = some (.lst us) → CmVs H' us ((landC rs es i z).map fun w => Cm.mk i z w).toList → Q (.ref p) H'
def spDue31 (K : PySem.W.Frag) (a : Adr) : Sp := fun vs H Q _ => ∃ (c l d : Addr) (prs : List Addr) (rs : List Rw) (ev : List V) (es : List (Option Ent)) (ls : List (Int × Int)), vs = [.ref c, .ref l, .ref d] ∧ H c = some (.lst (prs.map V.ref)) ∧ RowsAt a H prs rs ∧ H l = some (.lst ev) ∧ EntVs K H ev es ∧ H d = some (.dK (landKV ls)) ∧ Ents rs es ∧ (ls.map (·.1)).Nodup ∧ ls.length < 64 ∧
  ∀ p us ks H', Same H H' → H' p = some (.lst us) → (es.length = rs.length → ks.Perm (ls.map (·.1)) ∧ ks.Pairwise (· ≤ ·)) → CmVs H' us (checkC rs es ls ks) → Q (.ref p) H'
def spTold31 : Sp := fun vs H Q _ => ∃ (p : Addr) (us : List V) (cs : List Cm), vs = [.ref p] ∧ H p = some (.lst us) ∧ CmVs H us cs ∧ ∀ H', Same H H' → Q (.bl true) H'
end
section
variable {P : Program} {w : World} {K : PySem.W.Frag} {mg : Str → Option Value} {base : Heap} {a : Adr}
set_option maxHeartbeats 4000000 in
theorem ok_bounded (T : Txt K mg a) : FnE P w K mg base CX0 1 "bounded" spBounded := by
  refine fnE_of (sp := spBounded) 0 T.fn_bounded sc_bounded (fun vs H Q E h => ?_) (fun f cdv A outer s H vs Q E hr h => ?_)
  · obtain ⟨n, top, rfl, _⟩ := h
    rfl
  · obtain ⟨n, top, rfl, h0, h1, q⟩ := h
    refine ⟨_, (pss_cons (ps_if (PW.pt (pw_or (pt_cmpR op_lt (pv 0) pe_int (nomark _)) (pw_or1 (pt_cmpR op_gt (pv 0) (pv 1) (nomark _))))) (pss_one ps_never) pss_nil)
      (pss_one (ps_ret (pv 0)))), ?_⟩
    refine r_st (σ' := [some _, some _]) rfl ?_
    walk_at "rd"
    exact q
end
section
variable {P : Program} {w : World} {K : PySem.W.Frag} {mg : Str → Option Value} {base : Heap} {a : Adr}
set_option maxHeartbeats 4000000 in
theorem ok_box_place (T : Txt K mg a) : FnE P w K mg base CX0 1 "box_place" spBoxPl := by
  refine fnE_of (sp := spBoxPl) 0 T.fn_box_place sc_box_place (fun vs H Q E h => ?_) (fun f cdv A outer s H vs Q E hr h => ?_)
  · obtain ⟨b, rfl, _⟩ := h
    rfl
  · obtain ⟨b, rfl, h0, h1, q⟩ := h
    refine ⟨_, (pss_one (ps_ret (pe_op op_shlB pe_int (pv 0)))), ?_⟩
    refine r_st (σ' := [some _]) rfl ?_
    walk_at "rd"
    refine r_I (shl_one h0 (by omega)) ?_
    rw [one_shl]
    exact q
end
section
variable {P : Program} {w : World} {K : PySem.W.Frag} {mg : Str → Option Value} {base : Heap} {a : Adr}
set_option maxHeartbeats 4000000 in
theorem ok_cell_place (T : Txt K mg a) : FnE P w K mg base CX0 1 "cell_place" spCellPl := by
  refine fnE_of (sp := spCellPl) 0 T.fn_cell_place sc_cell_place (fun vs H Q E h => ?_) (fun f cdv A outer s H vs Q E hr h => ?_)
  · obtain ⟨c, z, rfl, _⟩ := h
    rfl
  · obtain ⟨c, z, rfl, h0, h1, h2, q⟩ := h
    refine ⟨_, (pss_one (ps_ret (pe_op op_shlB pe_int (pe_op op_sub (pe_op op_sub (pe_op (op_plusK (K := K) rfl) (pe_glob (v := .int 8) rfl T.g_FIRST_CELL_BIT.choose_spec ⟨_, rfl⟩) (pv 1)) pe_int) (pv 0))))), ?_⟩
    refine r_st (σ' := [some _, some _]) rfl ?_
    walk_at "rd"
    refine r_I (shl_one (by omega) (by omega)) ?_
    rw [one_shl]
    exact q
end
section
variable {P : Program} {w : World} {K : PySem.W.Frag} {mg : Str → Option Value} {base : Heap} {a : Adr}
set_option maxHeartbeats 4000000 in
theorem ok_without (T : Txt K mg a) : FnE P w K mg base CX0 1 "without" spWithout := by
  refine fnE_of (sp := spWithout) 0 T.fn_without sc_without (fun vs H Q E h => ?_) (fun f cdv A outer s H vs Q E hr h => ?_)
  · obtain ⟨s, p, rfl, _⟩ := h
    rfl
  · obtain ⟨s, p, rfl, q⟩ := h
    refine ⟨_, (pss_one (ps_ret (pe_op op_and (pv 0) (pe_un un_inv (pv 1))))), ?_⟩
    refine r_st (σ' := [some _, some _]) rfl ?_
    walk_at "rd"
    rw [bitAnd_wo]
    exact q
end
section
variable {P : Program} {w : World} {K : PySem.W.Frag} {mg : Str → Option Value} {base : Heap} {a : Adr}
set_option maxHeartbeats 4000000 in
theorem me_Call_goes (T : Txt K mg a) (t : Int) : MethE P w K mg base CX0 1 a.C_Call "goes" (spGoes a (.call t)) := by
  refine methE_of (sp := (spGoes a (.call t))) 0 T.cl_Call T.m_Call_goes sc_Row_goes (fun vs H Q E h => ?_) (fun f cdv A outer s H vs Q E hr h => ?_)
  · obtain ⟨x, z, rfl, _⟩ := h
    rfl
  · obtain ⟨x, z, rfl, ⟨dx, hx⟩, q⟩ := h
    change H x = some (.ins a.C_Call dx (putF "target" (.int t) [])) at hx
    refine ⟨_, (pss_one (ps_ret (pe_lst (pa_cons (pe_op (op_plusK (K := K) rfl) (pv 1) pe_int) pa_nil)))), ?_⟩
    refine r_st (σ' := [some _, some _]) rfl ?_
    walk_at "rd"
    exact q _ (by assumption)
end
section
variable {P : Program} {w : World} {K : PySem.W.Frag} {mg : Str → Option Value} {base : Heap} {a : Adr}
set_option maxHeartbeats 4000000 in
theorem me_Set_goes (T : Txt K mg a) (b n : Int) : MethE P w K mg base CX0 1 a.C_Set "goes" (spGoes a (.set b n)) := by
  refine methE_of (sp := (spGoes a (.set b n))) 0 T.cl_Set T.m_Set_goes sc_Row_goes (fun vs H Q E h => ?_) (fun f cdv A outer s H vs Q E hr h => ?_)
  · obtain ⟨x, z, rfl, _⟩ := h
    rfl
  · obtain ⟨x, z, rfl, ⟨dx, hx⟩, q⟩ := h
    change H x = some (.ins a.C_Set dx (putF "number" (.int n) (putF "box" (.int b) []))) at hx
    refine ⟨_, (pss_one (ps_ret (pe_lst (pa_cons (pe_op (op_plusK (K := K) rfl) (pv 1) pe_int) pa_nil)))), ?_⟩
    refine r_st (σ' := [some _, some _]) rfl ?_
    walk_at "rd"
    exact q _ (by assumption)
end
section
variable {P : Program} {w : World} {K : PySem.W.Frag} {mg : Str → Option Value} {base : Heap} {a : Adr}
set_option maxHeartbeats 4000000 in
theorem me_Copy_goes (T : Txt K mg a) (b o : Int) : MethE P w K mg base CX0 1 a.C_Copy "goes" (spGoes a (.copy b o)) := by
  refine methE_of (sp := (spGoes a (.copy b o))) 0 T.cl_Copy T.m_Copy_goes sc_Row_goes (fun vs H Q E h => ?_) (fun f cdv A outer s H vs Q E hr h => ?_)
  · obtain ⟨x, z, rfl, _⟩ := h
    rfl
  · obtain ⟨x, z, rfl, ⟨dx, hx⟩, q⟩ := h
    change H x = some (.ins a.C_Copy dx (putF "one" (.int o) (putF "box" (.int b) []))) at hx
    refine ⟨_, (pss_one (ps_ret (pe_lst (pa_cons (pe_op (op_plusK (K := K) rfl) (pv 1) pe_int) pa_nil)))), ?_⟩
    refine r_st (σ' := [some _, some _]) rfl ?_
    walk_at "rd"
    exact q _ (by assumption)
end
section
variable {P : Program} {w : World} {K : PySem.W.Frag} {mg : Str → Option Value} {base : Heap} {a : Adr}
set_option maxHeartbeats 4000000 in
theorem me_Add_goes (T : Txt K mg a) (b o t : Int) : MethE P w K mg base CX0 1 a.C_Add "goes" (spGoes a (.add b o t)) := by
  refine methE_of (sp := (spGoes a (.add b o t))) 0 T.cl_Add T.m_Add_goes sc_Row_goes (fun vs H Q E h => ?_) (fun f cdv A outer s H vs Q E hr h => ?_)
  · obtain ⟨x, z, rfl, _⟩ := h
    rfl
  · obtain ⟨x, z, rfl, ⟨dx, hx⟩, q⟩ := h
    change H x = some (.ins a.C_Add dx (putF "other" (.int t) (putF "one" (.int o) (putF "box" (.int b) [])))) at hx
    refine ⟨_, (pss_one (ps_ret (pe_lst (pa_cons (pe_op (op_plusK (K := K) rfl) (pv 1) pe_int) pa_nil)))), ?_⟩
    refine r_st (σ' := [some _, some _]) rfl ?_
    walk_at "rd"
    exact q _ (by assumption)
end
section
variable {P : Program} {w : World} {K : PySem.W.Frag} {mg : Str → Option Value} {base : Heap} {a : Adr}
set_option maxHeartbeats 4000000 in
theorem me_Grow_goes (T : Txt K mg a) (m : Int) : MethE P w K mg base CX0 1 a.C_Grow "goes" (spGoes a (.grow m)) := by
  refine methE_of (sp := (spGoes a (.grow m))) 0 T.cl_Grow T.m_Grow_goes sc_Row_goes (fun vs H Q E h => ?_) (fun f cdv A outer s H vs Q E hr h => ?_)
  · obtain ⟨x, z, rfl, _⟩ := h
    rfl
  · obtain ⟨x, z, rfl, ⟨dx, hx⟩, q⟩ := h
    change H x = some (.ins a.C_Grow dx (putF "many" (.int m) [])) at hx
    refine ⟨_, (pss_one (ps_ret (pe_lst (pa_cons (pe_op (op_plusK (K := K) rfl) (pv 1) pe_int) pa_nil)))), ?_⟩
    refine r_st (σ' := [some _, some _]) rfl ?_
    walk_at "rd"
    exact q _ (by assumption)
end
section
variable {P : Program} {w : World} {K : PySem.W.Frag} {mg : Str → Option Value} {base : Heap} {a : Adr}
set_option maxHeartbeats 4000000 in
theorem me_Shrink_goes (T : Txt K mg a) (m : Int) : MethE P w K mg base CX0 1 a.C_Shrink "goes" (spGoes a (.shrink m)) := by
  refine methE_of (sp := (spGoes a (.shrink m))) 0 T.cl_Shrink T.m_Shrink_goes sc_Row_goes (fun vs H Q E h => ?_) (fun f cdv A outer s H vs Q E hr h => ?_)
  · obtain ⟨x, z, rfl, _⟩ := h
    rfl
  · obtain ⟨x, z, rfl, ⟨dx, hx⟩, q⟩ := h
    change H x = some (.ins a.C_Shrink dx (putF "many" (.int m) [])) at hx
    refine ⟨_, (pss_one (ps_ret (pe_lst (pa_cons (pe_op (op_plusK (K := K) rfl) (pv 1) pe_int) pa_nil)))), ?_⟩
    refine r_st (σ' := [some _, some _]) rfl ?_
    walk_at "rd"
    exact q _ (by assumption)
end
section
variable {P : Program} {w : World} {K : PySem.W.Frag} {mg : Str → Option Value} {base : Heap} {a : Adr}
set_option maxHeartbeats 4000000 in
theorem me_Put_goes (T : Txt K mg a) (b c : Int) : MethE P w K mg base CX0 1 a.C_Put "goes" (spGoes a (.put b c)) := by
  refine methE_of (sp := (spGoes a (.put b c))) 0 T.cl_Put T.m_Put_goes sc_Row_goes (fun vs H Q E h => ?_) (fun f cdv A outer s H vs Q E hr h => ?_)
  · obtain ⟨x, z, rfl, _⟩ := h
    rfl
  · obtain ⟨x, z, rfl, ⟨dx, hx⟩, q⟩ := h
    change H x = some (.ins a.C_Put dx (putF "cell" (.int c) (putF "box" (.int b) []))) at hx
    refine ⟨_, (pss_one (ps_ret (pe_lst (pa_cons (pe_op (op_plusK (K := K) rfl) (pv 1) pe_int) pa_nil)))), ?_⟩
    refine r_st (σ' := [some _, some _]) rfl ?_
    walk_at "rd"
    exact q _ (by assumption)
end
section
variable {P : Program} {w : World} {K : PySem.W.Frag} {mg : Str → Option Value} {base : Heap} {a : Adr}
set_option maxHeartbeats 4000000 in
theorem me_Get_goes (T : Txt K mg a) (b c : Int) : MethE P w K mg base CX0 1 a.C_Get "goes" (spGoes a (.get b c)) := by
  refine methE_of (sp := (spGoes a (.get b c))) 0 T.cl_Get T.m_Get_goes sc_Row_goes (fun vs H Q E h => ?_) (fun f cdv A outer s H vs Q E hr h => ?_)
  · obtain ⟨x, z, rfl, _⟩ := h
    rfl
  · obtain ⟨x, z, rfl, ⟨dx, hx⟩, q⟩ := h
    change H x = some (.ins a.C_Get dx (putF "cell" (.int c) (putF "box" (.int b) []))) at hx
    refine ⟨_, (pss_one (ps_ret (pe_lst (pa_cons (pe_op (op_plusK (K := K) rfl) (pv 1) pe_int) pa_nil)))), ?_⟩
    refine r_st (σ' := [some _, some _]) rfl ?_
    walk_at "rd"
    exact q _ (by assumption)
end
section
variable {P : Program} {w : World} {K : PySem.W.Frag} {mg : Str → Option Value} {base : Heap} {a : Adr}
set_option maxHeartbeats 4000000 in
theorem me_Jump_height (T : Txt K mg a) (t : Int) : MethE P w K mg base CX0 1 a.C_Jump "height" (spHeight a (.jump t)) := by
  refine methE_of (sp := (spHeight a (.jump t))) 0 T.cl_Jump T.m_Jump_height sc_Row_height (fun vs H Q E h => ?_) (fun f cdv A outer s H vs Q E hr h => ?_)
  · obtain ⟨x, z, rfl, _⟩ := h
    rfl
  · obtain ⟨x, z, rfl, ⟨dx, hx⟩, q⟩ := h
    change H x = some (.ins a.C_Jump dx (putF "target" (.int t) [])) at hx
    refine ⟨_, (pss_one (ps_ret (pv 1))), ?_⟩
    refine r_st (σ' := [some _, some _]) rfl ?_
    walk_at "rds"
    all_goals (try simp only [Rw.height] at q); (repeat' split at q) <;> first | exact q | (exfalso; omega)
end
section
variable {P : Program} {w : World} {K : PySem.W.Frag} {mg : Str → Option Value} {base : Heap} {a : Adr}
set_option maxHeartbeats 4000000 in
theorem me_Branch_height (T : Txt K mg a) (b t : Int) : MethE P w K mg base CX0 1 a.C_Branch "height" (spHeight a (.branch b t)) := by
  refine methE_of (sp := (spHeight a (.branch b t))) 0 T.cl_Branch T.m_Branch_height sc_Row_height (fun vs H Q E h => ?_) (fun f cdv A outer s H vs Q E hr h => ?_)
  · obtain ⟨x, z, rfl, _⟩ := h
    rfl
  · obtain ⟨x, z, rfl, ⟨dx, hx⟩, q⟩ := h
    change H x = some (.ins a.C_Branch dx (putF "target" (.int t) (putF "box" (.int b) []))) at hx
    refine ⟨_, (pss_one (ps_ret (pv 1))), ?_⟩
    refine r_st (σ' := [some _, some _]) rfl ?_
    walk_at "rds"
    all_goals (try simp only [Rw.height] at q); (repeat' split at q) <;> first | exact q | (exfalso; omega)
end
section
variable {P : Program} {w : World} {K : PySem.W.Frag} {mg : Str → Option Value} {base : Heap} {a : Adr}
set_option maxHeartbeats 4000000 in
theorem me_Call_height (T : Txt K mg a) (t : Int) : MethE P w K mg base CX0 1 a.C_Call "height" (spHeight a (.call t)) := by
  refine methE_of (sp := (spHeight a (.call t))) 0 T.cl_Call T.m_Call_height sc_Row_height (fun vs H Q E h => ?_) (fun f cdv A outer s H vs Q E hr h => ?_)
  · obtain ⟨x, z, rfl, _⟩ := h
    rfl
  · obtain ⟨x, z, rfl, ⟨dx, hx⟩, q⟩ := h
    change H x = some (.ins a.C_Call dx (putF "target" (.int t) [])) at hx
    refine ⟨_, (pss_one (ps_ret (pv 1))), ?_⟩
    refine r_st (σ' := [some _, some _]) rfl ?_
    walk_at "rds"
    all_goals (try simp only [Rw.height] at q); (repeat' split at q) <;> first | exact q | (exfalso; omega)
end
section
variable {P : Program} {w : World} {K : PySem.W.Frag} {mg : Str → Option Value} {base : Heap} {a : Adr}
set_option maxHeartbeats 4000000 in
theorem me_Back_height (T : Txt K mg a) (b : Int) : MethE P w K mg base CX0 1 a.C_Back "height" (spHeight a (.back b)) := by
  refine methE_of (sp := (spHeight a (.back b))) 0 T.cl_Back T.m_Back_height sc_Row_height (fun vs H Q E h => ?_) (fun f cdv A outer s H vs Q E hr h => ?_)
  · obtain ⟨x, z, rfl, _⟩ := h
    rfl
  · obtain ⟨x, z, rfl, ⟨dx, hx⟩, q⟩ := h
    change H x = some (.ins a.C_Back dx (putF "box" (.int b) [])) at hx
    refine ⟨_, (pss_one (ps_ret (pv 1))), ?_⟩
    refine r_st (σ' := [some _, some _]) rfl ?_
    walk_at "rds"
    all_goals (try simp only [Rw.height] at q); (repeat' split at q) <;> first | exact q | (exfalso; omega)
end
section
variable {P : Program} {w : World} {K : PySem.W.Frag} {mg : Str → Option Value} {base : Heap} {a : Adr}
set_option maxHeartbeats 4000000 in
theorem me_Drop_height (T : Txt K mg a) (b : Int) : MethE P w K mg base CX0 1 a.C_Drop "height" (spHeight a (.drop b)) := by
  refine methE_of (sp := (spHeight a (.drop b))) 0 T.cl_Drop T.m_Drop_height sc_Row_height (fun vs H Q E h => ?_) (fun f cdv A outer s H vs Q E hr h => ?_)
  · obtain ⟨x, z, rfl, _⟩ := h
    rfl
  · obtain ⟨x, z, rfl, ⟨dx, hx⟩, q⟩ := h
    change H x = some (.ins a.C_Drop dx (putF "box" (.int b) [])) at hx
    refine ⟨_, (pss_one (ps_ret (pv 1))), ?_⟩
    refine r_st (σ' := [some _, some _]) rfl ?_
    walk_at "rds"
    all_goals (try simp only [Rw.height] at q); (repeat' split at q) <;> first | exact q | (exfalso; omega)
end
section
variable {P : Program} {w : World} {K : PySem.W.Frag} {mg : Str → Option Value} {base : Heap} {a : Adr}
set_option maxHeartbeats 4000000 in
theorem me_Set_height (T : Txt K mg a) (b n : Int) : MethE P w K mg base CX0 1 a.C_Set "height" (spHeight a (.set b n)) := by
  refine methE_of (sp := (spHeight a (.set b n))) 0 T.cl_Set T.m_Set_height sc_Row_height (fun vs H Q E h => ?_) (fun f cdv A outer s H vs Q E hr h => ?_)
  · obtain ⟨x, z, rfl, _⟩ := h
    rfl
  · obtain ⟨x, z, rfl, ⟨dx, hx⟩, q⟩ := h
    change H x = some (.ins a.C_Set dx (putF "number" (.int n) (putF "box" (.int b) []))) at hx
    refine ⟨_, (pss_one (ps_ret (pv 1))), ?_⟩
    refine r_st (σ' := [some _, some _]) rfl ?_
    walk_at "rds"
    all_goals (try simp only [Rw.height] at q); (repeat' split at q) <;> first | exact q | (exfalso; omega)
end
section
variable {P : Program} {w : World} {K : PySem.W.Frag} {mg : Str → Option Value} {base : Heap} {a : Adr}
set_option maxHeartbeats 4000000 in
theorem me_Copy_height (T : Txt K mg a) (b o : Int) : MethE P w K mg base CX0 1 a.C_Copy "height" (spHeight a (.copy b o)) := by
  refine methE_of (sp := (spHeight a (.copy b o))) 0 T.cl_Copy T.m_Copy_height sc_Row_height (fun vs H Q E h => ?_) (fun f cdv A outer s H vs Q E hr h => ?_)
  · obtain ⟨x, z, rfl, _⟩ := h
    rfl
  · obtain ⟨x, z, rfl, ⟨dx, hx⟩, q⟩ := h
    change H x = some (.ins a.C_Copy dx (putF "one" (.int o) (putF "box" (.int b) []))) at hx
    refine ⟨_, (pss_one (ps_ret (pv 1))), ?_⟩
    refine r_st (σ' := [some _, some _]) rfl ?_
    walk_at "rds"
    all_goals (try simp only [Rw.height] at q); (repeat' split at q) <;> first | exact q | (exfalso; omega)
end
section
variable {P : Program} {w : World} {K : PySem.W.Frag} {mg : Str → Option Value} {base : Heap} {a : Adr}
set_option maxHeartbeats 4000000 in
theorem me_Add_height (T : Txt K mg a) (b o t : Int) : MethE P w K mg base CX0 1 a.C_Add "height" (spHeight a (.add b o t)) := by
  refine methE_of (sp := (spHeight a (.add b o t))) 0 T.cl_Add T.m_Add_height sc_Row_height (fun vs H Q E h => ?_) (fun f cdv A outer s H vs Q E hr h => ?_)
  · obtain ⟨x, z, rfl, _⟩ := h
    rfl
  · obtain ⟨x, z, rfl, ⟨dx, hx⟩, q⟩ := h
    change H x = some (.ins a.C_Add dx (putF "other" (.int t) (putF "one" (.int o) (putF "box" (.int b) [])))) at hx
    refine ⟨_, (pss_one (ps_ret (pv 1))), ?_⟩
    refine r_st (σ' := [some _, some _]) rfl ?_
    walk_at "rds"
    all_goals (try simp only [Rw.height] at q); (repeat' split at q) <;> first | exact q | (exfalso; omega)
end
section
variable {P : Program} {w : World} {K : PySem.W.Frag} {mg : Str → Option Value} {base : Heap} {a : Adr}
set_option maxHeartbeats 4000000 in
theorem me_Jump_keeps (T : Txt K mg a) (t : Int) : MethE P w K mg base CX0 1 a.C_Jump "keeps" (spKeeps a (.jump t)) := by
  refine methE_of (sp := (spKeeps a (.jump t))) 0 T.cl_Jump T.m_Jump_keeps sc_Row_keeps (fun vs H Q E h => ?_) (fun f cdv A outer s H vs Q E hr h => ?_)
  · obtain ⟨x, s, z, rfl, _⟩ := h
    rfl
  · obtain ⟨x, s, z, rfl, ⟨dx, hx⟩, hk, z0, z1, hs, q⟩ := h
    change H x = some (.ins a.C_Jump dx (putF "target" (.int t) [])) at hx
    obtain ⟨k1, k2⟩ := hk
    refine ⟨_, (pss_one (ps_ret (pv 1))), ?_⟩
    refine r_st (σ' := [some _, some _, some _]) rfl ?_
    walk_at "rd"
    exact q
end
section
variable {P : Program} {w : World} {K : PySem.W.Frag} {mg : Str → Option Value} {base : Heap} {a : Adr}
set_option maxHeartbeats 4000000 in
theorem me_Branch_keeps (T : Txt K mg a) (b t : Int) : MethE P w K mg base CX0 1 a.C_Branch "keeps" (spKeeps a (.branch b t)) := by
  refine methE_of (sp := (spKeeps a (.branch b t))) 0 T.cl_Branch T.m_Branch_keeps sc_Row_keeps (fun vs H Q E h => ?_) (fun f cdv A outer s H vs Q E hr h => ?_)
  · obtain ⟨x, s, z, rfl, _⟩ := h
    rfl
  · obtain ⟨x, s, z, rfl, ⟨dx, hx⟩, hk, z0, z1, hs, q⟩ := h
    change H x = some (.ins a.C_Branch dx (putF "target" (.int t) (putF "box" (.int b) []))) at hx
    obtain ⟨⟨k1, k2⟩, ⟨k3, k4⟩⟩ := hk
    refine ⟨_, (pss_one (ps_ret (pv 1))), ?_⟩
    refine r_st (σ' := [some _, some _, some _]) rfl ?_
    walk_at "rd"
    exact q
end
section
variable {P : Program} {w : World} {K : PySem.W.Frag} {mg : Str → Option Value} {base : Heap} {a : Adr}
set_option maxHeartbeats 4000000 in
theorem me_Back_keeps (T : Txt K mg a) (b : Int) : MethE P w K mg base CX0 1 a.C_Back "keeps" (spKeeps a (.back b)) := by
  refine methE_of (sp := (spKeeps a (.back b))) 0 T.cl_Back T.m_Back_keeps sc_Row_keeps (fun vs H Q E h => ?_) (fun f cdv A outer s H vs Q E hr h => ?_)
  · obtain ⟨x, s, z, rfl, _⟩ := h
    rfl
  · obtain ⟨x, s, z, rfl, ⟨dx, hx⟩, hk, z0, z1, hs, q⟩ := h
    change H x = some (.ins a.C_Back dx (putF "box" (.int b) [])) at hx
    obtain ⟨k1, k2⟩ := hk
    refine ⟨_, (pss_one (ps_ret (pv 1))), ?_⟩
    refine r_st (σ' := [some _, some _, some _]) rfl ?_
    walk_at "rd"
    exact q
end
section
variable {P : Program} {w : World} {K : PySem.W.Frag} {mg : Str → Option Value} {base : Heap} {a : Adr}
set_option maxHeartbeats 4000000 in
theorem me_Drop_keeps (T : Txt K mg a) (b : Int) : MethE P w K mg base CX0 1 a.C_Drop "keeps" (spKeeps a (.drop b)) := by
  refine methE_of (sp := (spKeeps a (.drop b))) 0 T.cl_Drop T.m_Drop_keeps sc_Row_keeps (fun vs H Q E h => ?_) (fun f cdv A outer s H vs Q E hr h => ?_)
  · obtain ⟨x, s, z, rfl, _⟩ := h
    rfl
  · obtain ⟨x, s, z, rfl, ⟨dx, hx⟩, hk, z0, z1, hs, q⟩ := h
    change H x = some (.ins a.C_Drop dx (putF "box" (.int b) [])) at hx
    obtain ⟨k1, k2⟩ := hk
    refine ⟨_, (pss_one (ps_ret (pv 1))), ?_⟩
    refine r_st (σ' := [some _, some _, some _]) rfl ?_
    walk_at "rd"
    exact q
end
section
variable {P : Program} {w : World} {K : PySem.W.Frag} {mg : Str → Option Value} {base : Heap} {a : Adr}
set_option maxHeartbeats 4000000 in
theorem me_Grow_keeps (T : Txt K mg a) (m : Int) : MethE P w K mg base CX0 1 a.C_Grow "keeps" (spKeeps a (.grow m)) := by
  refine methE_of (sp := (spKeeps a (.grow m))) 0 T.cl_Grow T.m_Grow_keeps sc_Row_keeps (fun vs H Q E h => ?_) (fun f cdv A outer s H vs Q E hr h => ?_)
  · obtain ⟨x, s, z, rfl, _⟩ := h
    rfl
  · obtain ⟨x, s, z, rfl, ⟨dx, hx⟩, hk, z0, z1, hs, q⟩ := h
    change H x = some (.ins a.C_Grow dx (putF "many" (.int m) [])) at hx
    obtain ⟨k1, k2⟩ := hk
    refine ⟨_, (pss_one (ps_ret (pv 1))), ?_⟩
    refine r_st (σ' := [some _, some _, some _]) rfl ?_
    walk_at "rd"
    exact q
end
section
variable {P : Program} {w : World} {K : PySem.W.Frag} {mg : Str → Option Value} {base : Heap} {a : Adr}
set_option maxHeartbeats 4000000 in
theorem me_Set_told (T : Txt K mg a) (b n : Int) : MethE P w K mg base CX0 1 a.C_Set "told" (spTold a (.set b n)) := by
  refine methE_of (sp := (spTold a (.set b n))) 0 T.cl_Set T.m_Set_told sc_Set_told (fun vs H Q E h => ?_) (fun f cdv A outer s H vs Q E hr h => ?_)
  · obtain ⟨x, rfl, _⟩ := h
    rfl
  · obtain ⟨x, rfl, ⟨dx, hx⟩, q⟩ := h
    change H x = some (.ins a.C_Set dx (putF "number" (.int n) (putF "box" (.int b) []))) at hx
    refine ⟨_, (pss_one (ps_ret (pe_tup (pa_cons pe_str (pa_cons (pe_fldK (K := K) rfl (pv 0)) (pa_cons (pe_fldK (K := K) rfl (pv 0)) pa_nil)))))), ?_⟩
    refine r_st (σ' := [some _]) rfl ?_
    walk_at "rd"
    exact q _ (by assumption)
end
section
variable {P : Program} {w : World} {K : PySem.W.Frag} {mg : Str → Option Value} {base : Heap} {a : Adr}
set_option maxHeartbeats 4000000 in
theorem me_Copy_told (T : Txt K mg a) (b o : Int) : MethE P w K mg base CX0 1 a.C_Copy "told" (spTold a (.copy b o)) := by
  refine methE_of (sp := (spTold a (.copy b o))) 0 T.cl_Copy T.m_Copy_told sc_Copy_told (fun vs H Q E h => ?_) (fun f cdv A outer s H vs Q E hr h => ?_)
  · obtain ⟨x, rfl, _⟩ := h
    rfl
  · obtain ⟨x, rfl, ⟨dx, hx⟩, q⟩ := h
    change H x = some (.ins a.C_Copy dx (putF "one" (.int o) (putF "box" (.int b) []))) at hx
    refine ⟨_, (pss_one (ps_ret (pe_tup (pa_cons pe_str (pa_cons (pe_fldK (K := K) rfl (pv 0)) (pa_cons (pe_fldK (K := K) rfl (pv 0)) pa_nil)))))), ?_⟩
    refine r_st (σ' := [some _]) rfl ?_
    walk_at "rd"
    exact q _ (by assumption)
end
section
variable {P : Program} {w : World} {K : PySem.W.Frag} {mg : Str → Option Value} {base : Heap} {a : Adr}
set_option maxHeartbeats 4000000 in
theorem me_Add_told (T : Txt K mg a) (b o t : Int) : MethE P w K mg base CX0 1 a.C_Add "told" (spTold a (.add b o t)) := by
  refine methE_of (sp := (spTold a (.add b o t))) 0 T.cl_Add T.m_Add_told sc_Add_told (fun vs H Q E h => ?_) (fun f cdv A outer s H vs Q E hr h => ?_)
  · obtain ⟨x, rfl, _⟩ := h
    rfl
  · obtain ⟨x, rfl, ⟨dx, hx⟩, q⟩ := h
    change H x = some (.ins a.C_Add dx (putF "other" (.int t) (putF "one" (.int o) (putF "box" (.int b) [])))) at hx
    refine ⟨_, (pss_one (ps_ret (pe_tup (pa_cons pe_str (pa_cons (pe_fldK (K := K) rfl (pv 0)) (pa_cons (pe_fldK (K := K) rfl (pv 0)) (pa_cons (pe_fldK (K := K) rfl (pv 0)) pa_nil))))))), ?_⟩
    refine r_st (σ' := [some _]) rfl ?_
    walk_at "rd"
    exact q _ (by assumption)
end
section
variable {P : Program} {w : World} {K : PySem.W.Frag} {mg : Str → Option Value} {base : Heap} {a : Adr}
set_option maxHeartbeats 4000000 in
theorem me_Grow_height (T : Txt K mg a) (m : Int) : MethE P w K mg base CX0 1 a.C_Grow "height" (spHeight a (.grow m)) := by
  refine methE_of (sp := (spHeight a (.grow m))) 0 T.cl_Grow T.m_Grow_height sc_Grow_height (fun vs H Q E h => ?_) (fun f cdv A outer s H vs Q E hr h => ?_)
  · obtain ⟨x, z, rfl, _⟩ := h
    rfl
  · obtain ⟨x, z, rfl, ⟨dx, hx⟩, q⟩ := h
    change H x = some (.ins a.C_Grow dx (putF "many" (.int m) [])) at hx
    refine ⟨_, (pss_cons (ps_if (pt_cmpR op_gt (pe_op (op_plusK (K := K) rfl) (pv 1) (pe_fldK (K := K) rfl (pv 0))) (pe_glob (v := .int 4000) rfl T.g_TOP_CELLS.choose_spec ⟨_, rfl⟩) (nomark _)) (pss_one (ps_ret pe_non)) pss_nil)
      (pss_one (ps_ret (pe_op (op_plusK (K := K) rfl) (pv 1) (pe_fldK (K := K) rfl (pv 0)))))), ?_⟩
    refine r_st (σ' := [some _, some _]) rfl ?_
    walk_at "rds"
    all_goals (try simp only [Rw.height] at q); (repeat' split at q) <;> first | exact q | (exfalso; omega)
end
section
variable {P : Program} {w : World} {K : PySem.W.Frag} {mg : Str → Option Value} {base : Heap} {a : Adr}
set_option maxHeartbeats 4000000 in
theorem me_Grow_told (T : Txt K mg a) (m : Int) : MethE P w K mg base CX0 1 a.C_Grow "told" (spTold a (.grow m)) := by
  refine methE_of (sp := (spTold a (.grow m))) 0 T.cl_Grow T.m_Grow_told sc_Grow_told (fun vs H Q E h => ?_) (fun f cdv A outer s H vs Q E hr h => ?_)
  · obtain ⟨x, rfl, _⟩ := h
    rfl
  · obtain ⟨x, rfl, ⟨dx, hx⟩, q⟩ := h
    change H x = some (.ins a.C_Grow dx (putF "many" (.int m) [])) at hx
    refine ⟨_, (pss_one (ps_ret (pe_tup (pa_cons pe_str (pa_cons (pe_fldK (K := K) rfl (pv 0)) pa_nil))))), ?_⟩
    refine r_st (σ' := [some _]) rfl ?_
    walk_at "rd"
    exact q _ (by assumption)
end
section
variable {P : Program} {w : World} {K : PySem.W.Frag} {mg : Str → Option Value} {base : Heap} {a : Adr}
set_option maxHeartbeats 4000000 in
theorem me_Shrink_height (T : Txt K mg a) (m : Int) : MethE P w K mg base CX0 1 a.C_Shrink "height" (spHeight a (.shrink m)) := by
  refine methE_of (sp := (spHeight a (.shrink m))) 0 T.cl_Shrink T.m_Shrink_height sc_Shrink_height (fun vs H Q E h => ?_) (fun f cdv A outer s H vs Q E hr h => ?_)
  · obtain ⟨x, z, rfl, _⟩ := h
    rfl
  · obtain ⟨x, z, rfl, ⟨dx, hx⟩, q⟩ := h
    change H x = some (.ins a.C_Shrink dx (putF "many" (.int m) [])) at hx
    refine ⟨_, (pss_cons (ps_if (pt_cmpR op_lt (pv 1) (pe_fldK (K := K) rfl (pv 0)) (nomark _)) (pss_one (ps_ret pe_non)) pss_nil)
      (pss_one (ps_ret (pe_op op_sub (pv 1) (pe_fldK (K := K) rfl (pv 0)))))), ?_⟩
    refine r_st (σ' := [some _, some _]) rfl ?_
    walk_at "rds"
    all_goals (try simp only [Rw.height] at q); (repeat' split at q) <;> first | exact q | (exfalso; omega)
end
section
variable {P : Program} {w : World} {K : PySem.W.Frag} {mg : Str → Option Value} {base : Heap} {a : Adr}
set_option maxHeartbeats 4000000 in
theorem me_Shrink_told (T : Txt K mg a) (m : Int) : MethE P w K mg base CX0 1 a.C_Shrink "told" (spTold a (.shrink m)) := by
  refine methE_of (sp := (spTold a (.shrink m))) 0 T.cl_Shrink T.m_Shrink_told sc_Shrink_told (fun vs H Q E h => ?_) (fun f cdv A outer s H vs Q E hr h => ?_)
  · obtain ⟨x, rfl, _⟩ := h
    rfl
  · obtain ⟨x, rfl, ⟨dx, hx⟩, q⟩ := h
    change H x = some (.ins a.C_Shrink dx (putF "many" (.int m) [])) at hx
    refine ⟨_, (pss_one (ps_ret (pe_tup (pa_cons pe_str (pa_cons (pe_fldK (K := K) rfl (pv 0)) pa_nil))))), ?_⟩
    refine r_st (σ' := [some _]) rfl ?_
    walk_at "rd"
    exact q _ (by assumption)
end
section
variable {P : Program} {w : World} {K : PySem.W.Frag} {mg : Str → Option Value} {base : Heap} {a : Adr}
set_option maxHeartbeats 4000000 in
theorem me_Put_height (T : Txt K mg a) (b c : Int) : MethE P w K mg base CX0 1 a.C_Put "height" (spHeight a (.put b c)) := by
  refine methE_of (sp := (spHeight a (.put b c))) 0 T.cl_Put T.m_Put_height sc_Reaching_height (fun vs H Q E h => ?_) (fun f cdv A outer s H vs Q E hr h => ?_)
  · obtain ⟨x, z, rfl, _⟩ := h
    rfl
  · obtain ⟨x, z, rfl, ⟨dx, hx⟩, q⟩ := h
    change H x = some (.ins a.C_Put dx (putF "cell" (.int c) (putF "box" (.int b) []))) at hx
    refine ⟨_, (pss_cons (ps_if (pt_cmpR op_le (pv 1) (pe_fldK (K := K) rfl (pv 0)) (nomark _)) (pss_one (ps_ret pe_non)) pss_nil)
      (pss_one (ps_ret (pv 1)))), ?_⟩
    refine r_st (σ' := [some _, some _]) rfl ?_
    walk_at "rds"
    all_goals (try simp only [Rw.height] at q); (repeat' split at q) <;> first | exact q | (exfalso; omega)
end
section
variable {P : Program} {w : World} {K : PySem.W.Frag} {mg : Str → Option Value} {base : Heap} {a : Adr}
set_option maxHeartbeats 4000000 in
theorem me_Get_height (T : Txt K mg a) (b c : Int) : MethE P w K mg base CX0 1 a.C_Get "height" (spHeight a (.get b c)) := by
  refine methE_of (sp := (spHeight a (.get b c))) 0 T.cl_Get T.m_Get_height sc_Reaching_height (fun vs H Q E h => ?_) (fun f cdv A outer s H vs Q E hr h => ?_)
  · obtain ⟨x, z, rfl, _⟩ := h
    rfl
  · obtain ⟨x, z, rfl, ⟨dx, hx⟩, q⟩ := h
    change H x = some (.ins a.C_Get dx (putF "cell" (.int c) (putF "box" (.int b) []))) at hx
    refine ⟨_, (pss_cons (ps_if (pt_cmpR op_le (pv 1) (pe_fldK (K := K) rfl (pv 0)) (nomark _)) (pss_one (ps_ret pe_non)) pss_nil)
      (pss_one (ps_ret (pv 1)))), ?_⟩
    refine r_st (σ' := [some _, some _]) rfl ?_
    walk_at "rds"
    all_goals (try simp only [Rw.height] at q); (repeat' split at q) <;> first | exact q | (exfalso; omega)
end
section
variable {P : Program} {w : World} {K : PySem.W.Frag} {mg : Str → Option Value} {base : Heap} {a : Adr}
set_option maxHeartbeats 4000000 in
theorem me_Put_told (T : Txt K mg a) (b c : Int) : MethE P w K mg base CX0 1 a.C_Put "told" (spTold a (.put b c)) := by
  refine methE_of (sp := (spTold a (.put b c))) 0 T.cl_Put T.m_Put_told sc_Put_told (fun vs H Q E h => ?_) (fun f cdv A outer s H vs Q E hr h => ?_)
  · obtain ⟨x, rfl, _⟩ := h
    rfl
  · obtain ⟨x, rfl, ⟨dx, hx⟩, q⟩ := h
    change H x = some (.ins a.C_Put dx (putF "cell" (.int c) (putF "box" (.int b) []))) at hx
    refine ⟨_, (pss_one (ps_ret (pe_tup (pa_cons pe_str (pa_cons (pe_fldK (K := K) rfl (pv 0)) (pa_cons (pe_fldK (K := K) rfl (pv 0)) pa_nil)))))), ?_⟩
    refine r_st (σ' := [some _]) rfl ?_
    walk_at "rd"
    exact q _ (by assumption)
end
section
variable {P : Program} {w : World} {K : PySem.W.Frag} {mg : Str → Option Value} {base : Heap} {a : Adr}
set_option maxHeartbeats 4000000 in
theorem me_Get_told (T : Txt K mg a) (b c : Int) : MethE P w K mg base CX0 1 a.C_Get "told" (spTold a (.get b c)) := by
  refine methE_of (sp := (spTold a (.get b c))) 0 T.cl_Get T.m_Get_told sc_Get_told (fun vs H Q E h => ?_) (fun f cdv A outer s H vs Q E hr h => ?_)
  · obtain ⟨x, rfl, _⟩ := h
    rfl
  · obtain ⟨x, rfl, ⟨dx, hx⟩, q⟩ := h
    change H x = some (.ins a.C_Get dx (putF "cell" (.int c) (putF "box" (.int b) []))) at hx
    refine ⟨_, (pss_one (ps_ret (pe_tup (pa_cons pe_str (pa_cons (pe_fldK (K := K) rfl (pv 0)) (pa_cons (pe_fldK (K := K) rfl (pv 0)) pa_nil)))))), ?_⟩
    refine r_st (σ' := [some _]) rfl ?_
    walk_at "rd"
    exact q _ (by assumption)
end
section
variable {P : Program} {w : World} {K : PySem.W.Frag} {mg : Str → Option Value} {base : Heap} {a : Adr}
set_option maxHeartbeats 4000000 in
theorem mkb_Table (T : Txt K mg a) : MkE P w K mg base CX0 1 "Table" a.C_Table (spTab K a.C_Table) ∧ MkD P w K mg base CX0 1 "Table" a.C_Table (spTab K a.C_Table) := by
  refine mkE_ofD (sp := (spTab K a.C_Table)) 0 T.c_Table T.i_Table sc_Table_init (fun vs H Q E h => ?_) (fun f cdv A outer s H vs Q E hr h => ?_)
  · obtain ⟨x, dx, pe, lv, xs, kvs, rfl, _⟩ := h
    rfl
  · obtain ⟨x, dx, pe, lv, xs, kvs, rfl, hx, hS, hd, q⟩ := h
    refine ⟨_, (pss_cons (ps_fldK (K := K) rfl (pv 0) (pe_callTy (call_listK (K := K) rfl) rfl T.z_list b_list (pa_cons (pv 1) pa_nil)))
      (pss_one (ps_fldK (K := K) rfl (pv 0) (pe_ifExp (pt_cmpR op_isNA (pv 2) pe_non (nomark _)) pe_dnewK (pe_callTy call_dict1 rfl T.z_dict b_dict (pa_cons (pv 2) pa_nil)))))), ?_⟩
    refine r_st (σ' := [some _, some _, some _]) rfl ?_
    rcases hd with ⟨rfl, rfl⟩ | ⟨pd, rfl, hd⟩
    · walk_at "rd"
      rename_i l hl d hd
      have nx := none_upd hd
      have nl := none_upd nx.1
      refine q l d _ hl nl.1 nl.2.symm (fun b o e ne => ?_) upd_same ?_ ?_
      · rw [upd_ne ne, upd_ne (ne_of_none (show upd (upd H l (.lst xs)) x _ b = some o from by rw [upd_ne ne, upd_ne (ne_of_none e hl)]; exact e) hd), upd_ne ne, upd_ne (ne_of_none e hl)]; exact e
      · rw [upd_ne (ne_of_none hx hl).symm, upd_ne nl.2.symm, upd_ne (ne_of_none hx hl).symm, upd_same]
      · rw [upd_ne nx.2, upd_same]
    · have npx : pd ≠ x := ne_of hd hx (by intro z; cases z)
      walk_at "rd"
      rename_i l hl d hd'
      have nx := none_upd hd'
      have nl := none_upd nx.1
      refine q l d _ hl nl.1 nl.2.symm (fun b o e ne => ?_) upd_same ?_ ?_
      · rw [upd_ne ne, upd_ne (ne_of_none (show upd (upd H l (.lst xs)) x _ b = some o from by rw [upd_ne ne, upd_ne (ne_of_none e hl)]; exact e) hd'), upd_ne ne, upd_ne (ne_of_none e hl)]; exact e
      · rw [upd_ne (ne_of_none hx hl).symm, upd_ne nl.2.symm, upd_ne (ne_of_none hx hl).symm, upd_same]
      · rw [upd_ne nx.2, upd_same]
theorem mk_Table (T : Txt K mg a) : MkE P w K mg base CX0 1 "Table" a.C_Table (spTab K a.C_Table) := (mkb_Table T).1
end
section
variable {P : Program} {w : World} {K : PySem.W.Frag} {mg : Str → Option Value} {base : Heap} {a : Adr}
set_option maxHeartbeats 4000000 in
theorem ok_sets_of (T : Txt K mg a) : FnE P w K mg base CX0 1 "sets_of" (spSets K) := by
  refine fnE_of (sp := (spSets K)) 0 T.fn_sets_of sc_sets_of (fun vs H Q E h => ?_) (fun f cdv A outer s H vs Q E hr h => ?_)
  · obtain ⟨p, e, rfl, _⟩ := h
    rfl
  · obtain ⟨p, e, rfl, ⟨pk, h1, h2⟩, q⟩ := h
    refine ⟨_, (pss_cons (ps_set (i := 1) sc_sets_of.nd rfl (Or.inl rfl) (pe_ix (ix_K (K := K) rfl) (pv 0) pe_int (fun _ _ => rfl)))
      (pss_one (ps_ret (pe_tup (pa_cons (pe_ix (ix_K (K := K) rfl) (pv 0) pe_int (fun _ _ => rfl)) (pa_cons (pe_ix (ix_K (K := K) rfl) (pv 1) pe_int (fun _ _ => rfl)) (pa_cons (pe_ix (ix_K (K := K) rfl) (pv 1) pe_int (fun _ _ => rfl)) (pa_cons (pe_ix (ix_K (K := K) rfl) (pv 1) pe_int (fun _ _ => rfl)) pa_nil)))))))), ?_⟩
    refine r_st (σ' := [some _, none]) rfl ?_
    walk_at "rd"
    exact q _ (by assumption)
end
section
variable {P : Program} {w : World} {K : PySem.W.Frag} {mg : Str → Option Value} {base : Heap} {a : Adr}
set_option maxHeartbeats 4000000 in
theorem me_Jump_goes (T : Txt K mg a) (t : Int) : MethE P w K mg base CX0 1 a.C_Jump "goes" (spGoes a (.jump t)) := by
  refine methE_of (sp := (spGoes a (.jump t))) 0 T.cl_Jump T.m_Jump_goes sc_Jump_goes (fun vs H Q E h => ?_) (fun f cdv A outer s H vs Q E hr h => ?_)
  · obtain ⟨x, z, rfl, _⟩ := h
    rfl
  · obtain ⟨x, z, rfl, ⟨dx, hx⟩, q⟩ := h
    change H x = some (.ins a.C_Jump dx (putF "target" (.int t) [])) at hx
    refine ⟨_, (pss_one (ps_ret (pe_lst (pa_cons (pe_fldK (K := K) rfl (pv 0)) pa_nil)))), ?_⟩
    refine r_st (σ' := [some _, some _]) rfl ?_
    walk_at "rd"
    exact q _ (by assumption)
end
section
variable {P : Program} {w : World} {K : PySem.W.Frag} {mg : Str → Option Value} {base : Heap} {a : Adr}
set_option maxHeartbeats 4000000 in
theorem me_Jump_told (T : Txt K mg a) (t : Int) : MethE P w K mg base CX0 1 a.C_Jump "told" (spTold a (.jump t)) := by
  refine methE_of (sp := (spTold a (.jump t))) 0 T.cl_Jump T.m_Jump_told sc_Jump_told (fun vs H Q E h => ?_) (fun f cdv A outer s H vs Q E hr h => ?_)
  · obtain ⟨x, rfl, _⟩ := h
    rfl
  · obtain ⟨x, rfl, ⟨dx, hx⟩, q⟩ := h
    change H x = some (.ins a.C_Jump dx (putF "target" (.int t) [])) at hx
    refine ⟨_, (pss_one (ps_ret (pe_tup (pa_cons pe_str (pa_cons (pe_fldK (K := K) rfl (pv 0)) pa_nil))))), ?_⟩
    refine r_st (σ' := [some _]) rfl ?_
    walk_at "rd"
    exact q _ (by assumption)
end
section
variable {P : Program} {w : World} {K : PySem.W.Frag} {mg : Str → Option Value} {base : Heap} {a : Adr}
set_option maxHeartbeats 4000000 in
theorem me_Branch_goes (T : Txt K mg a) (b t : Int) : MethE P w K mg base CX0 1 a.C_Branch "goes" (spGoes a (.branch b t)) := by
  refine methE_of (sp := (spGoes a (.branch b t))) 0 T.cl_Branch T.m_Branch_goes sc_Branch_goes (fun vs H Q E h => ?_) (fun f cdv A outer s H vs Q E hr h => ?_)
  · obtain ⟨x, z, rfl, _⟩ := h
    rfl
  · obtain ⟨x, z, rfl, ⟨dx, hx⟩, q⟩ := h
    change H x = some (.ins a.C_Branch dx (putF "target" (.int t) (putF "box" (.int b) []))) at hx
    refine ⟨_, (pss_one (ps_ret (pe_lst (pa_cons (pe_op (op_plusK (K := K) rfl) (pv 1) pe_int) (pa_cons (pe_fldK (K := K) rfl (pv 0)) pa_nil))))), ?_⟩
    refine r_st (σ' := [some _, some _]) rfl ?_
    walk_at "rd"
    exact q _ (by assumption)
end
section
variable {P : Program} {w : World} {K : PySem.W.Frag} {mg : Str → Option Value} {base : Heap} {a : Adr}
set_option maxHeartbeats 4000000 in
theorem me_Branch_told (T : Txt K mg a) (b t : Int) : MethE P w K mg base CX0 1 a.C_Branch "told" (spTold a (.branch b t)) := by
  refine methE_of (sp := (spTold a (.branch b t))) 0 T.cl_Branch T.m_Branch_told sc_Branch_told (fun vs H Q E h => ?_) (fun f cdv A outer s H vs Q E hr h => ?_)
  · obtain ⟨x, rfl, _⟩ := h
    rfl
  · obtain ⟨x, rfl, ⟨dx, hx⟩, q⟩ := h
    change H x = some (.ins a.C_Branch dx (putF "target" (.int t) (putF "box" (.int b) []))) at hx
    refine ⟨_, (pss_one (ps_ret (pe_tup (pa_cons pe_str (pa_cons (pe_fldK (K := K) rfl (pv 0)) (pa_cons (pe_fldK (K := K) rfl (pv 0)) pa_nil)))))), ?_⟩
    refine r_st (σ' := [some _]) rfl ?_
    walk_at "rd"
    exact q _ (by assumption)
end
section
variable {P : Program} {w : World} {K : PySem.W.Frag} {mg : Str → Option Value} {base : Heap} {a : Adr}
set_option maxHeartbeats 4000000 in
theorem me_Call_told (T : Txt K mg a) (t : Int) : MethE P w K mg base CX0 1 a.C_Call "told" (spTold a (.call t)) := by
  refine methE_of (sp := (spTold a (.call t))) 0 T.cl_Call T.m_Call_told sc_Call_told (fun vs H Q E h => ?_) (fun f cdv A outer s H vs Q E hr h => ?_)
  · obtain ⟨x, rfl, _⟩ := h
    rfl
  · obtain ⟨x, rfl, ⟨dx, hx⟩, q⟩ := h
    change H x = some (.ins a.C_Call dx (putF "target" (.int t) [])) at hx
    refine ⟨_, (pss_one (ps_ret (pe_tup (pa_cons pe_str (pa_cons (pe_fldK (K := K) rfl (pv 0)) pa_nil))))), ?_⟩
    refine r_st (σ' := [some _]) rfl ?_
    walk_at "rd"
    exact q _ (by assumption)
end
section
variable {P : Program} {w : World} {K : PySem.W.Frag} {mg : Str → Option Value} {base : Heap} {a : Adr}
set_option maxHeartbeats 4000000 in
theorem me_Back_goes (T : Txt K mg a) (b : Int) : MethE P w K mg base CX0 1 a.C_Back "goes" (spGoes a (.back b)) := by
  refine methE_of (sp := (spGoes a (.back b))) 0 T.cl_Back T.m_Back_goes sc_Back_goes (fun vs H Q E h => ?_) (fun f cdv A outer s H vs Q E hr h => ?_)
  · obtain ⟨x, z, rfl, _⟩ := h
    rfl
  · obtain ⟨x, z, rfl, ⟨dx, hx⟩, q⟩ := h
    change H x = some (.ins a.C_Back dx (putF "box" (.int b) [])) at hx
    refine ⟨_, (pss_one (ps_ret (pe_lst pa_nil))), ?_⟩
    refine r_st (σ' := [some _, some _]) rfl ?_
    walk_at "rd"
    exact q _ (by assumption)
end
section
variable {P : Program} {w : World} {K : PySem.W.Frag} {mg : Str → Option Value} {base : Heap} {a : Adr}
set_option maxHeartbeats 4000000 in
theorem me_Back_told (T : Txt K mg a) (b : Int) : MethE P w K mg base CX0 1 a.C_Back "told" (spTold a (.back b)) := by
  refine methE_of (sp := (spTold a (.back b))) 0 T.cl_Back T.m_Back_told sc_Back_told (fun vs H Q E h => ?_) (fun f cdv A outer s H vs Q E hr h => ?_)
  · obtain ⟨x, rfl, _⟩ := h
    rfl
  · obtain ⟨x, rfl, ⟨dx, hx⟩, q⟩ := h
    change H x = some (.ins a.C_Back dx (putF "box" (.int b) [])) at hx
    refine ⟨_, (pss_one (ps_ret (pe_tup (pa_cons pe_str (pa_cons (pe_fldK (K := K) rfl (pv 0)) pa_nil))))), ?_⟩
    refine r_st (σ' := [some _]) rfl ?_
    walk_at "rd"
    exact q _ (by assumption)
end
section
variable {P : Program} {w : World} {K : PySem.W.Frag} {mg : Str → Option Value} {base : Heap} {a : Adr}
set_option maxHeartbeats 4000000 in
theorem me_Drop_goes (T : Txt K mg a) (b : Int) : MethE P w K mg base CX0 1 a.C_Drop "goes" (spGoes a (.drop b)) := by
  refine methE_of (sp := (spGoes a (.drop b))) 0 T.cl_Drop T.m_Drop_goes sc_Drop_goes (fun vs H Q E h => ?_) (fun f cdv A outer s H vs Q E hr h => ?_)
  · obtain ⟨x, z, rfl, _⟩ := h
    rfl
  · obtain ⟨x, z, rfl, ⟨dx, hx⟩, q⟩ := h
    change H x = some (.ins a.C_Drop dx (putF "box" (.int b) [])) at hx
    refine ⟨_, (pss_one (ps_ret (pe_lst pa_nil))), ?_⟩
    refine r_st (σ' := [some _, some _]) rfl ?_
    walk_at "rd"
    exact q _ (by assumption)
end
section
variable {P : Program} {w : World} {K : PySem.W.Frag} {mg : Str → Option Value} {base : Heap} {a : Adr}
set_option maxHeartbeats 4000000 in
theorem me_Drop_told (T : Txt K mg a) (b : Int) : MethE P w K mg base CX0 1 a.C_Drop "told" (spTold a (.drop b)) := by
  refine methE_of (sp := (spTold a (.drop b))) 0 T.cl_Drop T.m_Drop_told sc_Drop_told (fun vs H Q E h => ?_) (fun f cdv A outer s H vs Q E hr h => ?_)
  · obtain ⟨x, rfl, _⟩ := h
    rfl
  · obtain ⟨x, rfl, ⟨dx, hx⟩, q⟩ := h
    change H x = some (.ins a.C_Drop dx (putF "box" (.int b) [])) at hx
    refine ⟨_, (pss_one (ps_ret (pe_tup (pa_cons pe_str (pa_cons (pe_fldK (K := K) rfl (pv 0)) pa_nil))))), ?_⟩
    refine r_st (σ' := [some _]) rfl ?_
    walk_at "rd"
    exact q _ (by assumption)
end
section
variable {P : Program} {w : World} {K : PySem.W.Frag} {mg : Str → Option Value} {base : Heap} {a : Adr}
set_option maxHeartbeats 4000000 in
theorem ok_is_row (T : Txt K mg a) : FnE P w K mg base CX0 1 "is_row" (spIsRow K) := by
  refine fnE_of (sp := (spIsRow K)) 0 T.fn_is_row sc_is_row (fun vs H Q E h => ?_) (fun f cdv A outer s H vs Q E hr h => ?_)
  · obtain ⟨n, p, us, rfl, _⟩ := h
    rfl
  · obtain ⟨n, p, us, rfl, hp, q⟩ := h
    refine ⟨_, (pss_one (ps_ret (pe_chain op_le op_lt pe_int (pv 0) (pe_callB (call_lenK (K := K) rfl) rfl T.z_len b_len (pa_cons (pv 1) pa_nil))))), ?_⟩
    refine r_st (σ' := [some _, some _]) rfl ?_
    walk_at "rd"
    refine ifDec (fun hh => ?_) (fun hh => ?_)
    · walk_at "rd"
      rw [show decide (n < (us.length : Int)) = decide (0 ≤ n ∧ n < (us.length : Int)) from by rw [decide_eq_decide]; exact ⟨fun z => ⟨hh, z⟩, fun z => z.2⟩]
      exact q
    · rw [decide_eq_false (fun z : 0 ≤ n ∧ n < (us.length : Int) => hh z.1)] at q
      walk_at "rd"
      exact q
end
section
variable {P : Program} {w : World} {K : PySem.W.Frag} {mg : Str → Option Value} {base : Heap} {a : Adr}
set_option maxHeartbeats 4000000 in
theorem ok_each_once (T : Txt K mg a) : FnE P w K mg base CX0 1 "each_once" (spOnce K) := by
  refine fnE_of (sp := (spOnce K)) 0 T.fn_each_once sc_each_once (fun vs H Q E h => ?_) (fun f cdv A outer s H vs Q E hr h => ?_)
  · obtain ⟨p, ns, rfl, _⟩ := h
    rfl
  · obtain ⟨p, ns, rfl, hp, hn, q⟩ := h
    refine ⟨_, (pss_cons (ps_set (i := 1) sc_each_once.nd rfl (Or.inl rfl) (pe_lst pa_nil))
      (pss_cons (ps_for PassesOwn.never rfl (pi_seqK (K := K) rfl (pv 0)) (pg_name (i := 2) sc_each_once.nd rfl (Or.inl rfl)) (pss_one (ps_if (pt_cmpR (op_notInK (K := K) rfl) (pv 2) (pv 1) rfl) (pss_one (ps_expr (pe_bmK (K := K) rfl PySem.F.plainAttrs_list PySem.F.slot_list_append PySem.F.type_list_append mt_append (pv 1) (pa_cons (pv 2) pa_nil)))) pss_nil)))
      (pss_one (ps_ret (pv 1))))), ?_⟩
    refine r_st (σ' := [some _, none, none]) rfl ?_
    walk_at "rd"
    rename_i l nl
    refine for_list (K := K) (a := p) (xs := ns.map V.int) (fun i σ H1 => (∃ u, σ = [some (.ref p), some (.ref l), u]) ∧ Same H H1 ∧ H1 l = some (.lst ((once (ns.take i)).map V.int)) ∧ (once (ns.take i)).length ≤ i) ⟨⟨_, rfl⟩, same_new nl, upd_same, Nat.le_refl _⟩ (fun i σ H1 _ ⟨_, s1, _⟩ => Same.seq s1 hp) ?_ ?_
    · rintro i x σ H1 hx ⟨⟨u, rfl⟩, s1, hl, hlen⟩
      obtain ⟨n, hn1, rfl⟩ : ∃ n, ns[i]? = some n ∧ x = .int n := by
        rw [List.getElem?_map] at hx
        obtain ⟨p, hp, e⟩ := Option.map_eq_some_iff.mp hx
        exact ⟨p, hp, e.symm⟩
      have hi : i < ns.length := (List.getElem?_eq_some_iff.mp hn1).1
      have en : once (ns.take (i + 1)) = if n ∈ once (ns.take i) then once (ns.take i) else once (ns.take i) ++ [n] := by
        unfold once
        rw [List.take_add_one, hn1, Option.toList_some, List.foldl_append]; rfl
      rw [en]
      generalize once (ns.take i) = os at hl hlen ⊢
      walk_at "rd"
      refine r_inL (SqL.of hl) rfl (flat_ints _) ?_
      rw [if_pos rfl, inV_ints]
      by_cases hm : n ∈ os
      · rw [decide_eq_true hm, if_pos hm]
        walk_at "rd"
        exact ⟨⟨_, rfl⟩, s1, hl, by omega⟩
      · rw [decide_eq_false hm, if_neg hm]
        walk_at "rd"
        exact ⟨⟨_, rfl⟩, by walk_at "same", by rw [List.map_append]; exact upd_same, by rw [List.length_append]; show os.length + 1 ≤ i + 1; omega⟩
    · rintro σ H1 ⟨⟨u, rfl⟩, s1, hl, hlen⟩
      rw [List.length_map, List.take_length] at hl
      walk_at "rd"
      exact q l H1 s1 hl
end
section
variable {P : Program} {w : World} {K : PySem.W.Frag} {mg : Str → Option Value} {base : Heap} {a : Adr}
set_option maxHeartbeats 4000000 in
theorem ok_law_cell_at (T : Txt K mg a) : FnE P w K mg base CX0 1 "_law_cell_at" (spCellAt K) := by
  refine fnE_of (sp := (spCellAt K)) 0 T.fn_law_cell_at sc_law_cell_at (fun vs H Q E h => ?_) (fun f cdv A outer s H vs Q E hr h => ?_)
  · obtain ⟨p, ns, k, rfl, _⟩ := h
    rfl
  · obtain ⟨p, ns, k, rfl, hS, h0, q⟩ := h
    refine ⟨_, (pss_cons (ps_if (pt_cmpR op_lt (pv 1) (pe_callB (call_lenK (K := K) rfl) rfl T.z_len b_len (pa_cons (pv 0) pa_nil)) (nomark _)) (pss_one (ps_ret (pe_ix (ix_K (K := K) rfl) (pv 0) (pv 1) (fun _ _ => rfl)))) pss_nil)
      (pss_one (ps_ret pe_int))), ?_⟩
    refine r_st (σ' := [some _, some _]) rfl ?_
    walk_at "rd"
    refine ifDec (fun hh => ?_) (fun hh => ?_)
    · walk_at "rd"
      exact q
    · walk_at "rd"
      have e := cellAt_out h0 hh
      rw [e] at q
      exact q
end
section
variable {P : Program} {w : World} {K : PySem.W.Frag} {mg : Str → Option Value} {base : Heap} {a : Adr}
set_option maxHeartbeats 4000000 in
theorem ok_law_set (T : Txt K mg a) : FnE P w K mg base CX0 1 "_law_set" spLSet := by
  refine fnE_of (sp := spLSet) 0 T.fn_law_set sc_law_set (fun vs H Q E h => ?_) (fun f cdv A outer s H vs Q E hr h => ?_)
  · obtain ⟨c, o, h', rfl, _⟩ := h
    rfl
  · obtain ⟨c, o, h', rfl, o0, o1, hh, q⟩ := h
    have hmx : 0 ≤ (if h' > 0 then h' else 0) ∧ (if h' > 0 then h' else 0) ≤ 4010 := by split <;> omega
    refine ⟨_, (pss_cons (ps_if (pt_cmpR op_lt (pe_op op_mod (pv 0) pe_int) pe_int (nomark _)) (pss_one (ps_ret (pv 1))) pss_nil)
      (pss_cons (ps_if (pt_cmpR (op_eqK (K := K) rfl hr.units) (pe_op op_mod (pv 0) pe_int) pe_int (nomark _)) (pss_one (ps_ret (pe_op op_or (pv 1) (pe_op op_shlB pe_int (pe_op op_mod (pe_op op_fdiv (pv 0) pe_int) (pe_op (op_plusK (K := K) rfl) pe_int (pe_callB (call_maxA rfl) rfl T.z_max b_max (pa_cons pe_int (pa_cons (pv 2) pa_nil))))))))) pss_nil)
      (pss_cons (ps_if (pt_cmpR (op_eqK (K := K) rfl hr.units) (pe_op op_mod (pv 0) pe_int) pe_int (nomark _)) (pss_one (ps_ret (pe_op op_shlB pe_int (pe_op op_mod (pe_op op_fdiv (pv 0) pe_int) (pe_op (op_plusK (K := K) rfl) pe_int (pe_callB (call_maxA rfl) rfl T.z_max b_max (pa_cons pe_int (pa_cons (pv 2) pa_nil)))))))) pss_nil)
      (pss_one (ps_ret (pe_ix (ix_K (K := K) rfl) (pe_lst (pa_cons pe_int (pa_cons pe_int (pa_cons pe_int (pa_cons (pv 1) (pa_cons pe_int (pa_cons pe_int pa_nil))))))) (pe_op op_mod (pe_op op_fdiv (pv 0) pe_int) pe_int) (fun _ _ => rfl))))))), ?_⟩
    refine r_st (σ' := [some _, some _, some _]) rfl ?_
    walk_at "rd"
    refine ifDec (fun h1 => ?_) (fun h1 => ?_)
    · walk_at "rd"
      exact q _ _ o0 (Same.refl _)
    walk_at "rd"
    refine ifInt (fun h2 => ?_) (fun h2 => ?_)
    · walk_at "rd"
      generalize (if h' > 0 then h' else 0) = mx at hmx ⊢
      obtain ⟨m0, m1⟩ := hmx
      walk_at "rd"
      have e0 := Int.emod_nonneg (c / 5) (show 9 + mx ≠ 0 by omega)
      have e1 := Int.emod_lt_of_pos (c / 5) (show 0 < 9 + mx by omega)
      generalize c / 5 % (9 + mx) = k at e0 e1 ⊢
      refine r_I (shl_one e0 (by omega)) ?_
      rw [one_shl]
      walk_at "rd"
      rw [show o = ((o.toNat : Nat) : Int) from by omega, bitOr_nat]
      exact q _ _ (by omega) (Same.refl _)
    walk_at "rd"
    refine ifInt (fun h3 => ?_) (fun h3 => ?_)
    · walk_at "rd"
      generalize (if h' > 0 then h' else 0) = mx at hmx ⊢
      obtain ⟨m0, m1⟩ := hmx
      walk_at "rd"
      have e0 := Int.emod_nonneg (c / 5) (show 8 + mx ≠ 0 by omega)
      have e1 := Int.emod_lt_of_pos (c / 5) (show 0 < 8 + mx by omega)
      generalize c / 5 % (8 + mx) = k at e0 e1 ⊢
      refine r_I (shl_one e0 (by omega)) ?_
      rw [one_shl]
      walk_at "rd"
      exact q _ _ (Int.natCast_nonneg _) (Same.refl _)
    walk_at "rd"
    rename_i l nl
    obtain ⟨m, hm0, hat⟩ : ∃ m : Int, 0 ≤ m ∧ atI [V.int 0, .int 256, .int 1, .int o, .int 3, .int 7] (c / 5 % 6) = some (.int m) := by
      have h : c / 5 % 6 = 0 ∨ c / 5 % 6 = 1 ∨ c / 5 % 6 = 2 ∨ c / 5 % 6 = 3 ∨ c / 5 % 6 = 4 ∨ c / 5 % 6 = 5 := by omega
      rcases h with h | h | h | h | h | h <;> rw [h]
      · exact ⟨0, by decide, rfl⟩
      · exact ⟨256, by decide, rfl⟩
      · exact ⟨1, by decide, rfl⟩
      · exact ⟨o, o0, rfl⟩
      · exact ⟨3, by decide, rfl⟩
      · exact ⟨7, by decide, rfl⟩
    refine r_ixL (SqL.of upd_same) hat ?_
    exact q _ _ hm0 (same_new nl)
end
section
variable {P : Program} {w : World} {K : PySem.W.Frag} {mg : Str → Option Value} {base : Heap} {a : Adr}
set_option maxHeartbeats 4000000 in
theorem ok_law_sets (T : Txt K mg a) : FnE P w K mg base CX0 1 "_law_sets" (spLSets K) := by
  refine fnE_of (sp := (spLSets K)) 0 T.fn_law_sets sc_law_sets (fun vs H Q E h => ?_) (fun f cdv A outer s H vs Q E hr h => ?_)
  · obtain ⟨p, e, rfl, _⟩ := h
    rfl
  · obtain ⟨p, e, rfl, ⟨qe, h1, h2⟩, q⟩ := h
    refine ⟨_, (pss_one (ps_ret (pe_lst (pa_cons (pe_ix (ix_K (K := K) rfl) (pv 0) pe_int (fun _ _ => rfl)) (pa_cons (pe_ix (ix_K (K := K) rfl) (pe_ix (ix_K (K := K) rfl) (pv 0) pe_int (fun _ _ => rfl)) pe_int (fun _ _ => rfl)) (pa_cons (pe_ix (ix_K (K := K) rfl) (pe_ix (ix_K (K := K) rfl) (pv 0) pe_int (fun _ _ => rfl)) pe_int (fun _ _ => rfl)) (pa_cons (pe_ix (ix_K (K := K) rfl) (pe_ix (ix_K (K := K) rfl) (pv 0) pe_int (fun _ _ => rfl)) pe_int (fun _ _ => rfl)) pa_nil))))))), ?_⟩
    refine r_st (σ' := [some _]) rfl ?_
    walk_at "rd"
    rename_i t nt
    exact q t nt
end
section
variable {P : Program} {w : World} {K : PySem.W.Frag} {mg : Str → Option Value} {base : Heap} {a : Adr}
set_option maxHeartbeats 4000000 in
theorem ok_law_told (T : Txt K mg a) : FnE P w K mg base CX0 1 "_law_told" spTold31 := by
  refine fnE_of (sp := spTold31) 0 T.fn_law_told sc_law_told (fun vs H Q E h => ?_) (fun f cdv A outer s H vs Q E hr h => ?_)
  · obtain ⟨p, us, cs, rfl, _⟩ := h
    rfl
  · obtain ⟨p, us, cs, rfl, hp, hcm, q⟩ := h
    have hul := hcm.1
    refine ⟨_, (pss_cons (ps_if (pt_not (pt_truK (K := K) rfl (pe_callB (call_isiK (K := K) rfl) rfl T.z_isinstance b_isinstance (pa_cons (pv 0) (pa_cons (pe_bltn (v := .ty "list") rfl T.z_list b_list rfl) pa_nil))))) (pss_one (ps_ret pe_bl)) pss_nil)
      (pss_cons (ps_for PassesOwn.never rfl (pi_seqK (K := K) rfl (pv 0)) (pg_name (i := 1) sc_law_told.nd rfl (Or.inl rfl)) (pss_one (ps_if (PW.pt (pw_or (pt_not (pt_truK (K := K) rfl (pe_callB (call_isiK (K := K) rfl) rfl T.z_isinstance b_isinstance (pa_cons (pv 1) (pa_cons (pe_bltn (v := .ty "tuple") rfl T.z_tuple b_tuple rfl) pa_nil))))) (pw_or (pt_cmpR (op_neK (K := K) rfl hr.units) (pe_callB (call_lenK (K := K) rfl) rfl T.z_len b_len (pa_cons (pv 1) pa_nil)) pe_int (nomark _)) (pw_or (pt_truK (K := K) rfl (pe_callB (call_isiK (K := K) rfl) rfl T.z_isinstance b_isinstance (pa_cons (pe_ix (ix_K (K := K) rfl) (pv 1) pe_int (fun _ _ => rfl)) (pa_cons (pe_bltn (v := .ty "bool") rfl T.z_bool b_bool rfl) pa_nil)))) (pw_or1 (pt_truK (K := K) rfl (pe_callB (call_isiK (K := K) rfl) rfl T.z_isinstance b_isinstance (pa_cons (pe_ix (ix_K (K := K) rfl) (pv 1) pe_int (fun _ _ => rfl)) (pa_cons (pe_bltn (v := .ty "bool") rfl T.z_bool b_bool rfl) pa_nil))))))))) (pss_one (ps_ret pe_bl)) pss_nil)))
      (pss_one (ps_ret pe_bl)))), ?_⟩
    refine r_st (σ' := [some _, none]) rfl ?_
    walk_at "rd"
    refine for_list (K := K) (a := p) (xs := us) (fun i σ H1 => (∃ u, σ = [some (.ref p), u]) ∧ Same H H1) ⟨⟨_, rfl⟩, Same.refl _⟩ (fun i σ H1 _ ⟨_, s1⟩ => SqL.of (s1 _ _ hp)) ?_ ?_
    · rintro i v σ H1 hv ⟨⟨u, rfl⟩, s1⟩
      have hi : i < cs.length := by rw [← hul]; exact (List.getElem?_eq_some_iff.mp hv).1
      obtain ⟨v', hv', qq, e1, e2⟩ := hcm.2 i _ (List.getElem?_eq_getElem hi)
      rw [hv] at hv'
      cases hv'
      subst e1
      generalize cs[i] = cm at e2
      have e3 := s1 _ _ e2
      walk_at "rd"
      exact ⟨⟨_, rfl⟩, s1⟩
    · rintro σ H1 ⟨⟨u, rfl⟩, s1⟩
      walk_at "rd"
      exact q _ s1
end
section
variable {P : Program} {w : World} {K : PySem.W.Frag} {mg : Str → Option Value} {base : Heap} {a : Adr}
theorem flds_told (r : Rw) : r.flds.lookup ("told" : Str) = none := by
  cases r <;> (show List.lookup _ (putF _ _ _) = none; walk_at "nolk")
theorem flds_goes (r : Rw) : r.flds.lookup ("goes" : Str) = none := by
  cases r <;> (show List.lookup _ (putF _ _ _) = none; walk_at "nolk")
theorem flds_height (r : Rw) : r.flds.lookup ("height" : Str) = none := by
  cases r <;> (show List.lookup _ (putF _ _ _) = none; walk_at "nolk")
theorem me_all_told (T : Txt K mg a) {r : Rw} (hr : r.here) : MethE P w K mg base CX0 1 (r.cls a) "told" (spTold a r) := by
  cases r
  · exact (me_Set_told T _ _).mono (by decide)
  · exact (me_Copy_told T _ _).mono (by decide)
  · exact (me_Add_told T _ _ _).mono (by decide)
  · exact hr.elim
  · exact hr.elim
  · exact hr.elim
  · exact (me_Grow_told T _).mono (by decide)
  · exact (me_Shrink_told T _).mono (by decide)
  · exact (me_Put_told T _ _).mono (by decide)
  · exact (me_Get_told T _ _).mono (by decide)
  · exact (me_Jump_told T _).mono (by decide)
  · exact (me_Branch_told T _ _).mono (by decide)
  · exact (me_Call_told T _).mono (by decide)
  · exact (me_Back_told T _).mono (by decide)
  · exact (me_Drop_told T _).mono (by decide)
theorem me_all_goes (T : Txt K mg a) {r : Rw} (hr : r.here) : MethE P w K mg base CX0 1 (r.cls a) "goes" (spGoes a r) := by
  cases r
  · exact (me_Set_goes T _ _).mono (by decide)
  · exact (me_Copy_goes T _ _).mono (by decide)
  · exact (me_Add_goes T _ _ _).mono (by decide)
  · exact hr.elim
  · exact hr.elim
  · exact hr.elim
  · exact (me_Grow_goes T _).mono (by decide)
  · exact (me_Shrink_goes T _).mono (by decide)
  · exact (me_Put_goes T _ _).mono (by decide)
  · exact (me_Get_goes T _ _).mono (by decide)
  · exact (me_Jump_goes T _).mono (by decide)
  · exact (me_Branch_goes T _ _).mono (by decide)
  · exact (me_Call_goes T _).mono (by decide)
  · exact (me_Back_goes T _).mono (by decide)
  · exact (me_Drop_goes T _).mono (by decide)
theorem me_all_height (T : Txt K mg a) {r : Rw} (hr : r.here) : MethE P w K mg base CX0 1 (r.cls a) "height" (spHeight a r) := by
  cases r
  · exact (me_Set_height T _ _).mono (by decide)
  · exact (me_Copy_height T _ _).mono (by decide)
  · exact (me_Add_height T _ _ _).mono (by decide)
  · exact hr.elim
  · exact hr.elim
  · exact hr.elim
  · exact (me_Grow_height T _).mono (by decide)
  · exact (me_Shrink_height T _).mono (by decide)
  · exact (me_Put_height T _ _).mono (by decide)
  · exact (me_Get_height T _ _).mono (by decide)
  · exact (me_Jump_height T _).mono (by decide)
  · exact (me_Branch_height T _ _).mono (by decide)
  · exact (me_Call_height T _).mono (by decide)
  · exact (me_Back_height T _).mono (by decide)
  · exact (me_Drop_height T _).mono (by decide)
theorem ty_all (T : Txt K mg a) {H : Hp} {p : Addr} {r : Rw} (hr : r.here) (h : RowAt a H p r) : ∃ t', TyOf K H (.ref p) t' ∧ PySem.W.kitOne K t' (.ref a.C_Call) = some r.isCall ∧ PySem.W.kitOne K t' (.ref a.C_Back) = some r.isBack := by
  obtain ⟨dx, e⟩ := h
  cases r
  · exact ⟨_, .ins e T.cl_Set T.ty_Set.1 T.ob1 T.ob2 T.ty_Set.2, T.is_Set_Call, T.is_Set_Back⟩
  · exact ⟨_, .ins e T.cl_Copy T.ty_Copy.1 T.ob1 T.ob2 T.ty_Copy.2, T.is_Copy_Call, T.is_Copy_Back⟩
  · exact ⟨_, .ins e T.cl_Add T.ty_Add.1 T.ob1 T.ob2 T.ty_Add.2, T.is_Add_Call, T.is_Add_Back⟩
  · exact hr.elim
  · exact hr.elim
  · exact hr.elim
  · exact ⟨_, .ins e T.cl_Grow T.ty_Grow.1 T.ob1 T.ob2 T.ty_Grow.2, T.is_Grow_Call, T.is_Grow_Back⟩
  · exact ⟨_, .ins e T.cl_Shrink T.ty_Shrink.1 T.ob1 T.ob2 T.ty_Shrink.2, T.is_Shrink_Call, T.is_Shrink_Back⟩
  · exact ⟨_, .ins e T.cl_Put T.ty_Put.1 T.ob1 T.ob2 T.ty_Put.2, T.is_Put_Call, T.is_Put_Back⟩
  · exact ⟨_, .ins e T.cl_Get T.ty_Get.1 T.ob1 T.ob2 T.ty_Get.2, T.is_Get_Call, T.is_Get_Back⟩
  · exact ⟨_, .ins e T.cl_Jump T.ty_Jump.1 T.ob1 T.ob2 T.ty_Jump.2, T.is_Jump_Call, T.is_Jump_Back⟩
  · exact ⟨_, .ins e T.cl_Branch T.ty_Branch.1 T.ob1 T.ob2 T.ty_Branch.2, T.is_Branch_Call, T.is_Branch_Back⟩
  · exact ⟨_, .ins e T.cl_Call T.ty_Call.1 T.ob1 T.ob2 T.ty_Call.2, T.is_Call_Call, T.is_Call_Back⟩
  · exact ⟨_, .ins e T.cl_Back T.ty_Back.1 T.ob1 T.ob2 T.ty_Back.2, T.is_Back_Call, T.is_Back_Back⟩
  · exact ⟨_, .ins e T.cl_Drop T.ty_Drop.1 T.ob1 T.ob2 T.ty_Drop.2, T.is_Drop_Call, T.is_Drop_Back⟩
end
section
variable {P : Program} {w : World} {K : PySem.W.Frag} {mg : Str → Option Value} {base : Heap} {a : Adr}
set_option maxHeartbeats 4000000 in
theorem ok_filled (T : Txt K mg a) : FnE P w K mg base CX0 2 "filled" spFilled := by
  refine fnE_of (sp := spFilled) 1 T.fn_filled sc_filled (fun vs H Q E h => ?_) (fun f cdv A outer s H vs Q E hr h => ?_)
  · obtain ⟨s, p, t, rfl, _⟩ := h
    rfl
  · obtain ⟨s, p, t, rfl, q⟩ := h
    refine ⟨_, (pss_cons (ps_if (pt_truK (K := K) rfl (pe_op op_and (pv 0) (pv 2))) (pss_one (ps_ret (pe_op op_or (pv 0) (pv 1)))) pss_nil)
      (pss_one (ps_ret (pe_callE (ok_without (K := K) T) (hr.mono (by decide)) pass0 rfl (pa_cons (pv 0) (pa_cons (pv 1) pa_nil)))))), ?_⟩
    refine r_st (σ' := [some _, some _, some _]) rfl ?_
    walk_at "rd"
    rw [bitAnd_nat]
    unfold fillS at q
    by_cases e : s &&& t = 0
    · rw [if_pos e] at q
      rw [e, show (((0 : Nat) : Int) != 0) = false from rfl]
      walk_at "rd"
      exact q
    · rw [if_neg e] at q
      rw [show (((s &&& t : Nat) : Int) != 0) = true from by simp [e]]
      walk_at "rd"
      rw [bitOr_nat]
      exact q
end
section
variable {P : Program} {w : World} {K : PySem.W.Frag} {mg : Str → Option Value} {base : Heap} {a : Adr}
set_option maxHeartbeats 4000000 in
theorem mk_Set (T : Txt K mg a) : MkE P w K mg base CX0 2 "Set" a.C_Set (spIni2 a.C_Set Rw.set) := by
  refine mkE_of (sp := (spIni2 a.C_Set Rw.set)) 1 T.c_Set T.i_Set sc_Set_init (fun vs H Q E h => ?_) (fun f cdv A outer s H vs Q E hr h => ?_)
  · obtain ⟨x, dx, i, j, rfl, _⟩ := h
    rfl
  · obtain ⟨x, dx, i, j, rfl, ⟨⟨h1, h2⟩, ⟨h3, h4⟩⟩, hx, q⟩ := h
    refine ⟨_, (pss_cons (ps_fldK (K := K) rfl (pv 0) (pe_callE (ok_bounded (K := K) T) (hr.mono (by decide)) pass0 rfl (pa_cons (pv 1) (pa_cons (pe_glob (v := .int 7) rfl T.g_TOP_BOX.choose_spec ⟨_, rfl⟩) pa_nil))))
      (pss_one (ps_fldK (K := K) rfl (pv 0) (pe_callE (ok_bounded (K := K) T) (hr.mono (by decide)) pass0 rfl (pa_cons (pv 2) (pa_cons (pe_glob (v := .int 4294967295) rfl T.g_TOP_VALUE.choose_spec ⟨_, rfl⟩) pa_nil)))))), ?_⟩
    refine r_st (σ' := [some _, some _, some _]) rfl ?_
    walk_at "rd"
    exact q _ kp_two upd_same
end
section
variable {P : Program} {w : World} {K : PySem.W.Frag} {mg : Str → Option Value} {base : Heap} {a : Adr}
set_option maxHeartbeats 4000000 in
theorem me_Set_keeps (T : Txt K mg a) (b n : Int) : MethE P w K mg base CX0 2 a.C_Set "keeps" (spKeeps a (.set b n)) := by
  refine methE_of (sp := (spKeeps a (.set b n))) 1 T.cl_Set T.m_Set_keeps sc_Set_keeps (fun vs H Q E h => ?_) (fun f cdv A outer s H vs Q E hr h => ?_)
  · obtain ⟨x, s, z, rfl, _⟩ := h
    rfl
  · obtain ⟨x, s, z, rfl, ⟨dx, hx⟩, hk, z0, z1, hs, q⟩ := h
    change H x = some (.ins a.C_Set dx (putF "number" (.int n) (putF "box" (.int b) []))) at hx
    obtain ⟨⟨k1, k2⟩, ⟨k3, k4⟩⟩ := hk
    refine ⟨_, (pss_one (ps_ret (pe_callE (ok_without (K := K) T) (hr.mono (by decide)) pass0 rfl (pa_cons (pv 1) (pa_cons (pe_callE (ok_box_place (K := K) T) (hr.mono (by decide)) pass0 rfl (pa_cons (pe_fldK (K := K) rfl (pv 0)) pa_nil)) pa_nil))))), ?_⟩
    refine r_st (σ' := [some _, some _, some _]) rfl ?_
    walk_at "rd"
    exact q
end
section
variable {P : Program} {w : World} {K : PySem.W.Frag} {mg : Str → Option Value} {base : Heap} {a : Adr}
set_option maxHeartbeats 4000000 in
theorem mk_Copy (T : Txt K mg a) : MkE P w K mg base CX0 2 "Copy" a.C_Copy (spIni2 a.C_Copy Rw.copy) := by
  refine mkE_of (sp := (spIni2 a.C_Copy Rw.copy)) 1 T.c_Copy T.i_Copy sc_Copy_init (fun vs H Q E h => ?_) (fun f cdv A outer s H vs Q E hr h => ?_)
  · obtain ⟨x, dx, i, j, rfl, _⟩ := h
    rfl
  · obtain ⟨x, dx, i, j, rfl, ⟨⟨h1, h2⟩, ⟨h3, h4⟩⟩, hx, q⟩ := h
    refine ⟨_, (pss_cons (ps_fldK (K := K) rfl (pv 0) (pe_callE (ok_bounded (K := K) T) (hr.mono (by decide)) pass0 rfl (pa_cons (pv 1) (pa_cons (pe_glob (v := .int 7) rfl T.g_TOP_BOX.choose_spec ⟨_, rfl⟩) pa_nil))))
      (pss_one (ps_fldK (K := K) rfl (pv 0) (pe_callE (ok_bounded (K := K) T) (hr.mono (by decide)) pass0 rfl (pa_cons (pv 2) (pa_cons (pe_glob (v := .int 7) rfl T.g_TOP_BOX.choose_spec ⟨_, rfl⟩) pa_nil)))))), ?_⟩
    refine r_st (σ' := [some _, some _, some _]) rfl ?_
    walk_at "rd"
    exact q _ kp_two upd_same
end
section
variable {P : Program} {w : World} {K : PySem.W.Frag} {mg : Str → Option Value} {base : Heap} {a : Adr}
set_option maxHeartbeats 4000000 in
theorem mk_Add (T : Txt K mg a) : MkE P w K mg base CX0 2 "Add" a.C_Add (spIni3 a.C_Add Rw.add) := by
  refine mkE_of (sp := (spIni3 a.C_Add Rw.add)) 1 T.c_Add T.i_Add sc_Reckoning_init (fun vs H Q E h => ?_) (fun f cdv A outer s H vs Q E hr h => ?_)
  · obtain ⟨x, dx, i, j, k, rfl, _⟩ := h
    rfl
  · obtain ⟨x, dx, i, j, k, rfl, ⟨⟨h1, h2⟩, ⟨h3, h4⟩, ⟨h5, h6⟩⟩, hx, q⟩ := h
    refine ⟨_, (pss_cons (ps_fldK (K := K) rfl (pv 0) (pe_callE (ok_bounded (K := K) T) (hr.mono (by decide)) pass0 rfl (pa_cons (pv 1) (pa_cons (pe_glob (v := .int 7) rfl T.g_TOP_BOX.choose_spec ⟨_, rfl⟩) pa_nil))))
      (pss_cons (ps_fldK (K := K) rfl (pv 0) (pe_callE (ok_bounded (K := K) T) (hr.mono (by decide)) pass0 rfl (pa_cons (pv 2) (pa_cons (pe_glob (v := .int 7) rfl T.g_TOP_BOX.choose_spec ⟨_, rfl⟩) pa_nil))))
      (pss_one (ps_fldK (K := K) rfl (pv 0) (pe_callE (ok_bounded (K := K) T) (hr.mono (by decide)) pass0 rfl (pa_cons (pv 3) (pa_cons (pe_glob (v := .int 7) rfl T.g_TOP_BOX.choose_spec ⟨_, rfl⟩) pa_nil))))))), ?_⟩
    refine r_st (σ' := [some _, some _, some _, some _]) rfl ?_
    walk_at "rd"
    exact q _ kp_three upd_same
end
section
variable {P : Program} {w : World} {K : PySem.W.Frag} {mg : Str → Option Value} {base : Heap} {a : Adr}
set_option maxHeartbeats 4000000 in
theorem me_Add_keeps (T : Txt K mg a) (b o t : Int) : MethE P w K mg base CX0 2 a.C_Add "keeps" (spKeeps a (.add b o t)) := by
  refine methE_of (sp := (spKeeps a (.add b o t))) 1 T.cl_Add T.m_Add_keeps sc_Reckoning_keeps (fun vs H Q E h => ?_) (fun f cdv A outer s H vs Q E hr h => ?_)
  · obtain ⟨x, s, z, rfl, _⟩ := h
    rfl
  · obtain ⟨x, s, z, rfl, ⟨dx, hx⟩, hk, z0, z1, hs, q⟩ := h
    change H x = some (.ins a.C_Add dx (putF "other" (.int t) (putF "one" (.int o) (putF "box" (.int b) [])))) at hx
    obtain ⟨⟨k1, k2⟩, ⟨k3, k4⟩, ⟨k5, k6⟩⟩ := hk
    refine ⟨_, (pss_one (ps_ret (pe_callE (ok_without (K := K) T) (hr.mono (by decide)) pass0 rfl (pa_cons (pv 1) (pa_cons (pe_callE (ok_box_place (K := K) T) (hr.mono (by decide)) pass0 rfl (pa_cons (pe_fldK (K := K) rfl (pv 0)) pa_nil)) pa_nil))))), ?_⟩
    refine r_st (σ' := [some _, some _, some _]) rfl ?_
    walk_at "rd"
    exact q
end
section
variable {P : Program} {w : World} {K : PySem.W.Frag} {mg : Str → Option Value} {base : Heap} {a : Adr}
set_option maxHeartbeats 4000000 in
theorem mk_Grow (T : Txt K mg a) : MkE P w K mg base CX0 2 "Grow" a.C_Grow (spIni1 a.C_Grow Rw.grow) := by
  refine mkE_of (sp := (spIni1 a.C_Grow Rw.grow)) 1 T.c_Grow T.i_Grow sc_Grow_init (fun vs H Q E h => ?_) (fun f cdv A outer s H vs Q E hr h => ?_)
  · obtain ⟨x, dx, i, rfl, _⟩ := h
    rfl
  · obtain ⟨x, dx, i, rfl, ⟨h1, h2⟩, hx, q⟩ := h
    refine ⟨_, (pss_one (ps_fldK (K := K) rfl (pv 0) (pe_callE (ok_bounded (K := K) T) (hr.mono (by decide)) pass0 rfl (pa_cons (pv 1) (pa_cons (pe_glob (v := .int 4000) rfl T.g_TOP_CELLS.choose_spec ⟨_, rfl⟩) pa_nil))))), ?_⟩
    refine r_st (σ' := [some _, some _]) rfl ?_
    walk_at "rd"
    exact q _ kp_one upd_same
end
section
variable {P : Program} {w : World} {K : PySem.W.Frag} {mg : Str → Option Value} {base : Heap} {a : Adr}
set_option maxHeartbeats 4000000 in
theorem mk_Shrink (T : Txt K mg a) : MkE P w K mg base CX0 2 "Shrink" a.C_Shrink (spIni1 a.C_Shrink Rw.shrink) := by
  refine mkE_of (sp := (spIni1 a.C_Shrink Rw.shrink)) 1 T.c_Shrink T.i_Shrink sc_Shrink_init (fun vs H Q E h => ?_) (fun f cdv A outer s H vs Q E hr h => ?_)
  · obtain ⟨x, dx, i, rfl, _⟩ := h
    rfl
  · obtain ⟨x, dx, i, rfl, ⟨h1, h2⟩, hx, q⟩ := h
    refine ⟨_, (pss_one (ps_fldK (K := K) rfl (pv 0) (pe_callE (ok_bounded (K := K) T) (hr.mono (by decide)) pass0 rfl (pa_cons (pv 1) (pa_cons (pe_glob (v := .int 4000) rfl T.g_TOP_CELLS.choose_spec ⟨_, rfl⟩) pa_nil))))), ?_⟩
    refine r_st (σ' := [some _, some _]) rfl ?_
    walk_at "rd"
    exact q _ kp_one upd_same
end
section
variable {P : Program} {w : World} {K : PySem.W.Frag} {mg : Str → Option Value} {base : Heap} {a : Adr}
set_option maxHeartbeats 4000000 in
theorem me_Shrink_keeps (T : Txt K mg a) (m : Int) : MethE P w K mg base CX0 2 a.C_Shrink "keeps" (spKeeps a (.shrink m)) := by
  refine methE_of (sp := (spKeeps a (.shrink m))) 1 T.cl_Shrink T.m_Shrink_keeps sc_Shrink_keeps (fun vs H Q E h => ?_) (fun f cdv A outer s H vs Q E hr h => ?_)
  · obtain ⟨x, s, z, rfl, _⟩ := h
    rfl
  · obtain ⟨x, s, z, rfl, ⟨dx, hx⟩, hk, z0, z1, hs, q⟩ := h
    change H x = some (.ins a.C_Shrink dx (putF "many" (.int m) [])) at hx
    obtain ⟨k1, k2⟩ := hk
    have hh : ¬ z < m := fun e => by rw [show Rw.height (.shrink m) z = none from if_pos e] at hs; cases hs
    refine ⟨_, (pss_cons (ps_set (i := 3) sc_Shrink_keeps.nd rfl (Or.inl rfl) (pe_op op_shlB (pe_op op_sub (pe_op op_shlB pe_int (pe_fldK (K := K) rfl (pv 0))) pe_int) (pe_op op_sub (pe_op (op_plusK (K := K) rfl) (pe_glob (v := .int 8) rfl T.g_FIRST_CELL_BIT.choose_spec ⟨_, rfl⟩) (pv 2)) (pe_fldK (K := K) rfl (pv 0)))))
      (pss_one (ps_ret (pe_callE (ok_without (K := K) T) (hr.mono (by decide)) pass0 rfl (pa_cons (pv 1) (pa_cons (pv 3) pa_nil)))))), ?_⟩
    refine r_st (σ' := [some _, some _, some _, none]) rfl ?_
    walk_at "rd"
    refine r_I (shl_one (by omega) (by omega)) ?_
    walk_at "rd"
    rw [one_shl, show ((2 ^ m.toNat : Nat) : Int) - 1 = ((2 ^ m.toNat - 1 : Nat) : Int) from by have := Nat.one_le_two_pow (n := m.toNat); omega]
    refine r_I ⟨by omega, by omega, m.toNat, by omega, by rw [Int.natAbs_natCast]; have := Nat.one_le_two_pow (n := m.toNat); omega⟩ ?_
    rw [show ((2 ^ m.toNat - 1 : Nat) : Int) * 2 ^ (8 + z - m).toNat = (((2 ^ m.toNat - 1) * 2 ^ (8 + z - m).toNat : Nat) : Int) from by rw [Int.natCast_mul, Int.natCast_pow]; rfl]
    walk_at "rd"
    exact q
end
section
variable {P : Program} {w : World} {K : PySem.W.Frag} {mg : Str → Option Value} {base : Heap} {a : Adr}
set_option maxHeartbeats 4000000 in
theorem mk_Put (T : Txt K mg a) : MkE P w K mg base CX0 2 "Put" a.C_Put (spIni2 a.C_Put Rw.put) := by
  refine mkE_of (sp := (spIni2 a.C_Put Rw.put)) 1 T.c_Put T.i_Put sc_Reaching_init (fun vs H Q E h => ?_) (fun f cdv A outer s H vs Q E hr h => ?_)
  · obtain ⟨x, dx, i, j, rfl, _⟩ := h
    rfl
  · obtain ⟨x, dx, i, j, rfl, ⟨⟨h1, h2⟩, ⟨h3, h4⟩⟩, hx, q⟩ := h
    refine ⟨_, (pss_cons (ps_fldK (K := K) rfl (pv 0) (pe_callE (ok_bounded (K := K) T) (hr.mono (by decide)) pass0 rfl (pa_cons (pv 1) (pa_cons (pe_glob (v := .int 7) rfl T.g_TOP_BOX.choose_spec ⟨_, rfl⟩) pa_nil))))
      (pss_one (ps_fldK (K := K) rfl (pv 0) (pe_callE (ok_bounded (K := K) T) (hr.mono (by decide)) pass0 rfl (pa_cons (pv 2) (pa_cons (pe_glob (v := .int 4000) rfl T.g_TOP_CELLS.choose_spec ⟨_, rfl⟩) pa_nil)))))), ?_⟩
    refine r_st (σ' := [some _, some _, some _]) rfl ?_
    walk_at "rd"
    exact q _ kp_two upd_same
end
section
variable {P : Program} {w : World} {K : PySem.W.Frag} {mg : Str → Option Value} {base : Heap} {a : Adr}
set_option maxHeartbeats 4000000 in
theorem mk_Get (T : Txt K mg a) : MkE P w K mg base CX0 2 "Get" a.C_Get (spIni2 a.C_Get Rw.get) := by
  refine mkE_of (sp := (spIni2 a.C_Get Rw.get)) 1 T.c_Get T.i_Get sc_Reaching_init (fun vs H Q E h => ?_) (fun f cdv A outer s H vs Q E hr h => ?_)
  · obtain ⟨x, dx, i, j, rfl, _⟩ := h
    rfl
  · obtain ⟨x, dx, i, j, rfl, ⟨⟨h1, h2⟩, ⟨h3, h4⟩⟩, hx, q⟩ := h
    refine ⟨_, (pss_cons (ps_fldK (K := K) rfl (pv 0) (pe_callE (ok_bounded (K := K) T) (hr.mono (by decide)) pass0 rfl (pa_cons (pv 1) (pa_cons (pe_glob (v := .int 7) rfl T.g_TOP_BOX.choose_spec ⟨_, rfl⟩) pa_nil))))
      (pss_one (ps_fldK (K := K) rfl (pv 0) (pe_callE (ok_bounded (K := K) T) (hr.mono (by decide)) pass0 rfl (pa_cons (pv 2) (pa_cons (pe_glob (v := .int 4000) rfl T.g_TOP_CELLS.choose_spec ⟨_, rfl⟩) pa_nil)))))), ?_⟩
    refine r_st (σ' := [some _, some _, some _]) rfl ?_
    walk_at "rd"
    exact q _ kp_two upd_same
end
section
variable {P : Program} {w : World} {K : PySem.W.Frag} {mg : Str → Option Value} {base : Heap} {a : Adr}
set_option maxHeartbeats 4000000 in
theorem mk_Jump (T : Txt K mg a) : MkE P w K mg base CX0 2 "Jump" a.C_Jump (spIni1 a.C_Jump Rw.jump) := by
  refine mkE_of (sp := (spIni1 a.C_Jump Rw.jump)) 1 T.c_Jump T.i_Jump sc_Jump_init (fun vs H Q E h => ?_) (fun f cdv A outer s H vs Q E hr h => ?_)
  · obtain ⟨x, dx, i, rfl, _⟩ := h
    rfl
  · obtain ⟨x, dx, i, rfl, ⟨h1, h2⟩, hx, q⟩ := h
    refine ⟨_, (pss_one (ps_fldK (K := K) rfl (pv 0) (pe_callE (ok_bounded (K := K) T) (hr.mono (by decide)) pass0 rfl (pa_cons (pv 1) (pa_cons (pe_glob (v := .int 2000) rfl T.g_TOP_TARGET.choose_spec ⟨_, rfl⟩) pa_nil))))), ?_⟩
    refine r_st (σ' := [some _, some _]) rfl ?_
    walk_at "rd"
    exact q _ kp_one upd_same
end
section
variable {P : Program} {w : World} {K : PySem.W.Frag} {mg : Str → Option Value} {base : Heap} {a : Adr}
set_option maxHeartbeats 4000000 in
theorem mk_Branch (T : Txt K mg a) : MkE P w K mg base CX0 2 "Branch" a.C_Branch (spIni2 a.C_Branch Rw.branch) := by
  refine mkE_of (sp := (spIni2 a.C_Branch Rw.branch)) 1 T.c_Branch T.i_Branch sc_Branch_init (fun vs H Q E h => ?_) (fun f cdv A outer s H vs Q E hr h => ?_)
  · obtain ⟨x, dx, i, j, rfl, _⟩ := h
    rfl
  · obtain ⟨x, dx, i, j, rfl, ⟨⟨h1, h2⟩, ⟨h3, h4⟩⟩, hx, q⟩ := h
    refine ⟨_, (pss_cons (ps_fldK (K := K) rfl (pv 0) (pe_callE (ok_bounded (K := K) T) (hr.mono (by decide)) pass0 rfl (pa_cons (pv 1) (pa_cons (pe_glob (v := .int 7) rfl T.g_TOP_BOX.choose_spec ⟨_, rfl⟩) pa_nil))))
      (pss_one (ps_fldK (K := K) rfl (pv 0) (pe_callE (ok_bounded (K := K) T) (hr.mono (by decide)) pass0 rfl (pa_cons (pv 2) (pa_cons (pe_glob (v := .int 2000) rfl T.g_TOP_TARGET.choose_spec ⟨_, rfl⟩) pa_nil)))))), ?_⟩
    refine r_st (σ' := [some _, some _, some _]) rfl ?_
    walk_at "rd"
    exact q _ kp_two upd_same
end
section
variable {P : Program} {w : World} {K : PySem.W.Frag} {mg : Str → Option Value} {base : Heap} {a : Adr}
set_option maxHeartbeats 4000000 in
theorem mk_Call (T : Txt K mg a) : MkE P w K mg base CX0 2 "Call" a.C_Call (spIni1 a.C_Call Rw.call) := by
  refine mkE_of (sp := (spIni1 a.C_Call Rw.call)) 1 T.c_Call T.i_Call sc_Call_init (fun vs H Q E h => ?_) (fun f cdv A outer s H vs Q E hr h => ?_)
  · obtain ⟨x, dx, i, rfl, _⟩ := h
    rfl
  · obtain ⟨x, dx, i, rfl, ⟨h1, h2⟩, hx, q⟩ := h
    refine ⟨_, (pss_one (ps_fldK (K := K) rfl (pv 0) (pe_callE (ok_bounded (K := K) T) (hr.mono (by decide)) pass0 rfl (pa_cons (pv 1) (pa_cons (pe_glob (v := .int 2000) rfl T.g_TOP_TARGET.choose_spec ⟨_, rfl⟩) pa_nil))))), ?_⟩
    refine r_st (σ' := [some _, some _]) rfl ?_
    walk_at "rd"
    exact q _ kp_one upd_same
end
section
variable {P : Program} {w : World} {K : PySem.W.Frag} {mg : Str → Option Value} {base : Heap} {a : Adr}
set_option maxHeartbeats 4000000 in
theorem me_Call_keeps (T : Txt K mg a) (t : Int) : MethE P w K mg base CX0 2 a.C_Call "keeps" (spKeeps a (.call t)) := by
  refine methE_of (sp := (spKeeps a (.call t))) 1 T.cl_Call T.m_Call_keeps sc_Call_keeps (fun vs H Q E h => ?_) (fun f cdv A outer s H vs Q E hr h => ?_)
  · obtain ⟨x, s, z, rfl, _⟩ := h
    rfl
  · obtain ⟨x, s, z, rfl, ⟨dx, hx⟩, hk, z0, z1, hs, q⟩ := h
    change H x = some (.ins a.C_Call dx (putF "target" (.int t) [])) at hx
    obtain ⟨k1, k2⟩ := hk
    refine ⟨_, (pss_one (ps_ret (pe_callE (ok_without (K := K) T) (hr.mono (by decide)) pass0 rfl (pa_cons (pv 1) (pa_cons (pe_glob (v := .int 143) rfl T.g_LOST_BY_CALL.choose_spec ⟨_, rfl⟩) pa_nil))))), ?_⟩
    refine r_st (σ' := [some _, some _, some _]) rfl ?_
    walk_at "rd"
    exact r_without (p := 143) q
end
section
variable {P : Program} {w : World} {K : PySem.W.Frag} {mg : Str → Option Value} {base : Heap} {a : Adr}
set_option maxHeartbeats 4000000 in
theorem mk_Back (T : Txt K mg a) : MkE P w K mg base CX0 2 "Back" a.C_Back (spIni1 a.C_Back Rw.back) := by
  refine mkE_of (sp := (spIni1 a.C_Back Rw.back)) 1 T.c_Back T.i_Back sc_Back_init (fun vs H Q E h => ?_) (fun f cdv A outer s H vs Q E hr h => ?_)
  · obtain ⟨x, dx, i, rfl, _⟩ := h
    rfl
  · obtain ⟨x, dx, i, rfl, ⟨h1, h2⟩, hx, q⟩ := h
    refine ⟨_, (pss_one (ps_fldK (K := K) rfl (pv 0) (pe_callE (ok_bounded (K := K) T) (hr.mono (by decide)) pass0 rfl (pa_cons (pv 1) (pa_cons (pe_glob (v := .int 7) rfl T.g_TOP_BOX.choose_spec ⟨_, rfl⟩) pa_nil))))), ?_⟩
    refine r_st (σ' := [some _, some _]) rfl ?_
    walk_at "rd"
    exact q _ kp_one upd_same
end
section
variable {P : Program} {w : World} {K : PySem.W.Frag} {mg : Str → Option Value} {base : Heap} {a : Adr}
set_option maxHeartbeats 4000000 in
theorem mk_Drop (T : Txt K mg a) : MkE P w K mg base CX0 2 "Drop" a.C_Drop (spIni1 a.C_Drop Rw.drop) := by
  refine mkE_of (sp := (spIni1 a.C_Drop Rw.drop)) 1 T.c_Drop T.i_Drop sc_Drop_init (fun vs H Q E h => ?_) (fun f cdv A outer s H vs Q E hr h => ?_)
  · obtain ⟨x, dx, i, rfl, _⟩ := h
    rfl
  · obtain ⟨x, dx, i, rfl, ⟨h1, h2⟩, hx, q⟩ := h
    refine ⟨_, (pss_one (ps_fldK (K := K) rfl (pv 0) (pe_callE (ok_bounded (K := K) T) (hr.mono (by decide)) pass0 rfl (pa_cons (pv 1) (pa_cons (pe_glob (v := .int 7) rfl T.g_TOP_BOX.choose_spec ⟨_, rfl⟩) pa_nil))))), ?_⟩
    refine r_st (σ' := [some _, some _]) rfl ?_
    walk_at "rd"
    exact q _ kp_one upd_same
end
section
variable {P : Program} {w : World} {K : PySem.W.Frag} {mg : Str → Option Value} {base : Heap} {a : Adr}
set_option maxHeartbeats 4000000 in
theorem ok_has_wrong_place (T : Txt K mg a) : FnE P w K mg base CX0 2 "has_wrong_place" (spWrong K) := by
  refine fnE_of (sp := (spWrong K)) 1 T.fn_has_wrong_place sc_has_wrong_place (fun vs H Q E h => ?_) (fun f cdv A outer s H vs Q E hr h => ?_)
  · obtain ⟨p, e, rfl, _⟩ := h
    rfl
  · obtain ⟨p, e, rfl, ⟨qe, h1, h2⟩, q⟩ := h
    refine ⟨_, (pss_cons (ps_set (i := 1) sc_has_wrong_place.nd rfl (Or.inl rfl) (pe_ix (ix_K (K := K) rfl) (pv 0) pe_int (fun _ _ => rfl)))
      (pss_cons (ps_if (PW.pt (pw_or (pt_cmpR op_lt (pv 1) pe_int (nomark _)) (pw_or1 (pt_cmpR op_gt (pv 1) (pe_glob (v := .int 4000) rfl T.g_TOP_CELLS.choose_spec ⟨_, rfl⟩) (nomark _))))) (pss_one (ps_ret pe_bl)) pss_nil)
      (pss_cons (ps_set (i := 2) sc_has_wrong_place.nd rfl (Or.inr rfl) (pe_op (op_plusK (K := K) rfl) (pe_glob (v := .int 8) rfl T.g_FIRST_CELL_BIT.choose_spec ⟨_, rfl⟩) (pv 1)))
      (pss_one (ps_ret (pe_callB (call_anyK (K := K) rfl rfl) rfl T.z_any b_any (pa_cons (pe_comp (own := ["places"]) (fr := [("beyond", 2)]) rfl ⟨rfl, (by walk_at "clok"), (by walk_at "frok"), rfl, (by decide +kernel), (by decide +kernel), rfl⟩ (pi_seqK (K := K) rfl (pe_callE (ok_sets_of (K := K) T) (hr.mono (by decide)) pass0 rfl (pa_cons (pv 0) pa_nil))) (fun _ _ _ _ => (pg_name (i := 0) (show List.Nodup [("places" : Str), ("beyond" : Str)] from by decide +kernel) rfl (Or.inl rfl))) (fun _ _ _ _ => pts_nil) (fun _ _ _ _ => (pe_or (pe_cmpR op_le (pv 0) pe_int (nomark _)) (pe_one (pe_cmpR (op_neK (K := K) rfl hr.units) (pe_op op_shr (pv 0) (pv 1)) pe_int (nomark _)))))) pa_nil))))))), ?_⟩
    refine r_st (σ' := [some _, none, none]) rfl ?_
    walk_at "rd"
    refine ifDec (fun hh => ?_) (fun hh => ?_)
    · walk_at "rd"
      rw [show wrongE e = true from by unfold wrongE; rw [decide_eq_true hh]; rfl] at q
      exact q _ (Same.refl _)
    walk_at "rd"
    refine ifDec (fun hh2 => ?_) (fun hh2 => ?_)
    · walk_at "rd"
      rw [show wrongE e = true from by unfold wrongE; rw [decide_eq_true hh2, Bool.true_or, Bool.or_true]] at q
      exact q _ (Same.refl _)
    walk_at "rd"
    refine ⟨p, e, rfl, ⟨qe, h1, h2⟩, fun t ht => ?_⟩
    walk_at "rd"
    refine comp_mapT (emb := V.int) (fun s => .bl (wrongS e.h s)) (fun σ => ∃ v, σ = [v, some (.int (8 + e.h))]) (SqT.of upd_same) (by show 4 ≤ sizeLine; decide) ⟨_, rfl⟩ ?_ ?_
    · rintro i x ys σ H1 hx cc ss ⟨v, rfl⟩
      walk_at "rd"
      refine ifDec (fun h3 => ?_) (fun h3 => ?_)
      · walk_at "rd"
        exact cc.next hx (by unfold wrongS; rw [decide_eq_true h3]; rfl) (by walk_at "same") ⟨_, rfl⟩
      · walk_at "rd"
        exact cc.next hx (by unfold wrongS; rw [decide_eq_false h3, Bool.false_or]; congr 2; rw [decide_eq_decide]; exact ⟨fun z => by injection z, fun z => by rw [z]⟩) (by walk_at "same") ⟨_, rfl⟩
    intro H3 s3
    walk_at "rd"
    rename_i l nl
    refine r_anyB (bs := e.sets.map (wrongS e.h)) (by rw [List.map_map]; exact SqL.of upd_same) ?_
    rw [show (e.sets.map (wrongS e.h)).any id = wrongE e from by
      unfold wrongE
      rw [decide_eq_false hh, decide_eq_false hh2, Bool.false_or, Bool.false_or, List.any_map]; rfl]
    exact q _ (by walk_at "same")
end
section
variable {P : Program} {w : World} {K : PySem.W.Frag} {mg : Str → Option Value} {base : Heap} {a : Adr}
set_option maxHeartbeats 4000000 in
theorem ok_may_go_back (T : Txt K mg a) : FnE P w K mg base CX0 2 "may_go_back" (spMayB K a) := by
  refine fnE_of (sp := (spMayB K a)) 1 T.fn_may_go_back sc_may_go_back (fun vs H Q E h => ?_) (fun f cdv A outer s H vs Q E hr h => ?_)
  · obtain ⟨x, p, b, e, rfl, _⟩ := h
    rfl
  · obtain ⟨x, p, b, e, rfl, ⟨dx, hx⟩, b0, b7, ⟨qe, h1, h2⟩, q⟩ := h
    change H x = some (.ins a.C_Back dx (putF "box" (.int b) [])) at hx
    refine ⟨_, (pss_cons (ps_if (PW.pt (pw_or (pt_cmpR (op_neK (K := K) rfl hr.units) (pe_ix (ix_K (K := K) rfl) (pv 1) pe_int (fun _ _ => rfl)) pe_int (nomark _)) (pw_or1 (pt_not (pt_truK (K := K) rfl (pe_op op_and (pe_ix (ix_K (K := K) rfl) (pv 1) pe_int (fun _ _ => rfl)) (pe_callE (ok_box_place (K := K) T) (hr.mono (by decide)) pass0 rfl (pa_cons (pe_fldK (K := K) rfl (pv 0)) pa_nil)))))))) (pss_one (ps_ret pe_bl)) pss_nil)
      (pss_one (ps_ret (pe_callB (call_allIK (K := K) rfl rfl) rfl T.z_all b_all (pa_cons (pe_comp (own := ["box", "places"]) (fr := []) rfl ⟨rfl, (by walk_at "clok"), (by walk_at "frok"), rfl, (by decide +kernel), (by decide +kernel), rfl⟩ (pi_zip2 (K := K) rfl rfl T.z_zip (pa_cons (pe_glob (v := .ref a.G_KEPT_BOXES) rfl T.s_KEPT_BOXES rfl) (pa_cons (pe_ix (ix_K (K := K) rfl) (pv 1) pe_int (fun _ _ => rfl)) pa_nil))) (fun _ _ _ _ => (pg_tupK (K := K) (n := 2) rfl rfl (pgs_cons (pg_name (i := 0) (show List.Nodup [("box" : Str), ("places" : Str)] from by decide +kernel) rfl (Or.inl rfl)) (pgs_cons (pg_name (i := 1) (show List.Nodup [("box" : Str), ("places" : Str)] from by decide +kernel) rfl (Or.inl rfl)) pgs_nil)))) (fun _ _ _ _ => pts_nil) (fun _ _ _ _ => (pe_op op_and (pv 1) (pe_callE (ok_box_place (K := K) T) (hr.mono (by decide)) pass0 rfl (pa_cons (pv 0) pa_nil))))) pa_nil))))), ?_⟩
    refine r_st (σ' := [some _, some _]) rfl ?_
    walk_at "rd"
    refine ifIntN (fun hh => ?_) (fun hh => ?_)
    · walk_at "rd"
      rw [show mayB b e = false from by unfold mayB; rw [decide_eq_false hh]; rfl] at q
      exact q _ (Same.refl _)
    walk_at "rd"
    unfold mayB at q
    rw [decide_eq_true hh, Bool.true_and] at q
    cases hb : (Builtin.bitAnd e.b ((2 ^ b.toNat : Nat) : Int) != 0) with
    | false =>
      rw [hb] at q
      walk_at "rd"
      exact q _ (Same.refl _)
    | true =>
      rw [hb, Bool.true_and] at q
      walk_at "rd"
      refine ⟨a.G_KEPT_BOXES, qe, _, _, rfl, T.t_KEPT_BOXES _, h2, ?_⟩
      refine comp_mapZ (xs := [((4 : Int), e.v4), (5, e.v5), (6, e.v6)]) (e1 := fun q => .int q.1) (e2 := fun q => .int q.2) (fun q => .int (Builtin.bitAnd q.2 ((2 ^ q.1.toNat : Nat) : Int))) (fun σ => ∃ u v, σ = [u, v]) (T.t_KEPT_BOXES _) h2 (by show 3 ≤ sizeLine; decide) ⟨_, _, rfl⟩ ?_ ?_
      · rintro i z ys σ H1 T' hz cc ss ⟨u, v, rfl⟩ nT
        have hzz : 0 ≤ z.1 ∧ z.1 ≤ 7 := by
          match i, hz with
          | 0, hz => cases hz; exact ⟨by show (0 : Int) ≤ 4; decide, by show (4 : Int) ≤ 7; decide⟩
          | 1, hz => cases hz; exact ⟨by show (0 : Int) ≤ 5; decide, by show (5 : Int) ≤ 7; decide⟩
          | 2, hz => cases hz; exact ⟨by show (0 : Int) ≤ 6; decide, by show (6 : Int) ≤ 7; decide⟩
          | i + 3, hz => simp at hz
        obtain ⟨z0, z7⟩ := hzz
        walk_at "rd"
        exact cc.next hz rfl (by walk_at "same") ⟨_, _, rfl⟩
      intro H3 s3
      walk_at "rd"
      rename_i l nl
      refine r_allI (ns := [Builtin.bitAnd e.v4 16, Builtin.bitAnd e.v5 32, Builtin.bitAnd e.v6 64]) (SqL.of upd_same) ?_
      simp only [List.all_cons, List.all_nil, Bool.and_true]
      exact q _ (by walk_at "same")
end
section
variable {P : Program} {w : World} {K : PySem.W.Frag} {mg : Str → Option Value} {base : Heap} {a : Adr}
set_option maxHeartbeats 4000000 in
theorem ok_target_complaint (T : Txt K mg a) : FnE P w K mg base CX0 2 "target_complaint" (spTgtC K a) := by
  refine fnE_of (sp := (spTgtC K a)) 1 T.fn_target_complaint sc_target_complaint (fun vs H Q E h => ?_) (fun f cdv A outer s H vs Q E hr h => ?_)
  · obtain ⟨x, l, t, ev, es, rfl, _⟩ := h
    rfl
  · obtain ⟨x, l, t, ev, es, rfl, ⟨dx, hx⟩, hl, hev, q⟩ := h
    change H x = some (.ins a.C_Call dx (putF "target" (.int t) [])) at hx
    refine ⟨_, (pss_cons (ps_if (pt_not (pt_truK (K := K) rfl (pe_callE (ok_is_row (K := K) T) (hr.mono (by decide)) pass0 rfl (pa_cons (pe_fldK (K := K) rfl (pv 0)) (pa_cons (pv 1) pa_nil))))) (pss_one (ps_ret pe_str)) pss_nil)
      (pss_one (ps_ret (pe_ifExp (pt_cmpR (op_eqK (K := K) rfl hr.units) (pe_ix (ix_K (K := K) rfl) (pv 1) (pe_fldK (K := K) rfl (pv 0)) (fun _ _ => rfl)) (pe_glob (v := .ref a.G_START) rfl T.s_START rfl) (nomark _)) pe_non pe_str)))), ?_⟩
    refine r_st (σ' := [some _, some _]) rfl ?_
    walk_at "rd"
    refine ⟨t, l, ev, rfl, SqL.of hl, ?_⟩
    rw [hev.1]
    by_cases hh : 0 ≤ t ∧ t < (es.length : Int)
    · rw [decide_eq_true hh]
      obtain ⟨v, oe, hat, hoe, hmem, hv⟩ := hev.at hh.1 hh.2
      obtain ⟨qs, t1, t2⟩ := T.t_START
      walk_at "rd"
      refine r_eqE oe stE hv.dp (start_dp (t1 _) (t2 _)) ?_
      have q : ∀ H', Same H H' → Q (oV (if eqE oe stE = true then none else some .start)) H' := fun H' s => by
        have := q H' s
        unfold tgtC at this
        rw [if_pos hh, hoe] at this
        exact this
      cases hb : eqE oe stE with
      | true =>
        rw [hb] at q
        walk_at "rd"
        exact q _ (Same.refl _)
      | false =>
        rw [hb] at q
        walk_at "rd"
        exact q _ (Same.refl _)
    · rw [decide_eq_false hh]
      walk_at "rd"
      have := q H (Same.refl _)
      unfold tgtC at this
      rw [if_neg hh] at this
      exact this
end
section
variable {P : Program} {w : World} {K : PySem.W.Frag} {mg : Str → Option Value} {base : Heap} {a : Adr}
set_option maxHeartbeats 4000000 in
theorem ok_law_own (T : Txt K mg a) : FnE P w K mg base CX0 2 "_law_own" (spOwnC K a) := by
  refine fnE_of (sp := (spOwnC K a)) 1 T.fn_law_own sc_law_own (fun vs H Q E h => ?_) (fun f cdv A outer s H vs Q E hr h => ?_)
  · obtain ⟨x, p, r, e, rfl, _⟩ := h
    rfl
  · obtain ⟨x, p, r, e, rfl, ⟨dx, hx⟩, ok, hh, he, q⟩ := h
    obtain ⟨qe, h1, h2⟩ := id he
    refine ⟨_, (pss_cons (ps_if (PW.pt (pw_or (pt_cmpR op_lt (pe_ix (ix_K (K := K) rfl) (pv 1) pe_int (fun _ _ => rfl)) pe_int (nomark _)) (pw_or1 (pt_cmpR op_gt (pe_ix (ix_K (K := K) rfl) (pv 1) pe_int (fun _ _ => rfl)) pe_int (nomark _))))) (pss_one (ps_ret pe_str)) pss_nil)
      (pss_cons (ps_if (pt_cmpR (op_neK (K := K) rfl hr.units) (pe_comp (own := ["_law_places"]) (fr := [("_law_entry_here", 1)]) rfl ⟨rfl, (by walk_at "clok"), (by walk_at "frok"), rfl, (by decide +kernel), (by decide +kernel), rfl⟩ (pi_seqK (K := K) rfl (pe_callE (ok_law_sets (K := K) T) (hr.mono (by decide)) pass0 rfl (pa_cons (pv 1) pa_nil))) (fun _ _ _ _ => (pg_name (i := 0) (show List.Nodup [("_law_places" : Str), ("_law_entry_here" : Str)] from by decide +kernel) rfl (Or.inl rfl))) (fun _ _ _ _ => (pts_one (PW.pt (pw_or (pt_cmpR op_lt (pv 0) pe_int (nomark _)) (pw_or1 (pt_cmpR (op_neK (K := K) rfl hr.units) (pe_op op_shr (pv 0) (pe_op (op_plusK (K := K) rfl) pe_int (pe_ix (ix_K (K := K) rfl) (pv 1) pe_int (fun _ _ => rfl)))) pe_int (nomark _))))))) (fun _ _ _ _ => (pv 0))) (pe_lst pa_nil) (nomark _)) (pss_one (ps_ret pe_str)) pss_nil)
      (pss_cons (ps_if (pt_cmpR op_isNA (pe_methK (P := P) (w := w) (K := K) (mg := mg) (base := base) (k := 1) ⟨rfl, rfl, rfl, rfl, rfl⟩ (pv 0) (hr.mono (by decide)) pass0 (pa_cons (pe_ix (ix_K (K := K) rfl) (pv 1) pe_int (fun _ _ => rfl)) pa_nil)) pe_non (nomark _)) (pss_one (ps_ret pe_str)) pss_nil)
      (pss_cons (ps_if (pt_truK (K := K) rfl (pe_callB (call_isiK (K := K) rfl) rfl T.z_isinstance b_isinstance (pa_cons (pv 0) (pa_cons (pe_glob (v := .ref a.C_Back) rfl T.c_Back rfl) pa_nil)))) (pss_cons (ps_set (i := 2) sc_law_own.nd rfl (Or.inr rfl) (pe_lst (pa_cons (pe_op op_shlB pe_int (pe_ix (ix_K (K := K) rfl) (pe_methK0 (P := P) (w := w) (K := K) (mg := mg) (base := base) (k := 1) ⟨rfl, rfl, rfl, rfl, rfl⟩ (pv 0) (hr.mono (by decide)) pass0) pe_int (fun _ _ => rfl))) (pa_cons pe_int (pa_cons pe_int (pa_cons pe_int pa_nil))))))
      (pss_cons (ps_setC (i := 3) sc_law_own.nd rfl rfl (own := ["_law_k"]) (fr := [("_law_entry_here", 1), ("_law_wanted", 2)]) rfl ⟨rfl, (by walk_at "clok"), (by walk_at "frok"), rfl, (by decide +kernel), (by decide +kernel), rfl⟩ (pi_range1 rfl T.z_range (pa_cons pe_int pa_nil)) (fun _ _ _ _ => (pg_name (i := 0) (show List.Nodup [("_law_k" : Str), ("_law_entry_here" : Str), ("_law_wanted" : Str)] from by decide +kernel) rfl (Or.inl rfl))) (fun _ _ _ _ => (pts_one (pt_cmpR (op_eqK (K := K) rfl hr.units) (pe_op op_and (pe_ix (ix_K (K := K) rfl) (pe_callE (ok_law_sets (K := K) T) (hr.mono (by decide)) pass0 rfl (pa_cons (pv 1) pa_nil)) (pv 0) (fun _ _ => rfl)) (pe_ix (ix_K (K := K) rfl) (pv 2) (pv 0) (fun _ _ => rfl))) pe_int (nomark _)))) (fun _ _ _ _ => (pv 0)))
      (pss_one (ps_if (PW.pt (pw_or (pt_cmpR (op_neK (K := K) rfl hr.units) (pe_ix (ix_K (K := K) rfl) (pv 1) pe_int (fun _ _ => rfl)) pe_int (nomark _)) (pw_or1 (pt_cmpR (op_neK (K := K) rfl hr.units) (pv 3) (pe_lst pa_nil) (nomark _))))) (pss_one (ps_ret pe_str)) pss_nil)))) pss_nil)
      (pss_one (ps_ret pe_non)))))), ?_⟩
    refine r_st (σ' := [some _, some _, none, none]) rfl ?_
    unfold ownC at q
    walk_at "rd"
    refine ifDec (fun ha => ?_) (fun ha => ?_)
    · walk_at "rd"
      rw [show wrongE e = true from by unfold wrongE; rw [decide_eq_true ha]; rfl, if_pos rfl] at q
      exact q _ (Same.refl _)
    walk_at "rd"
    refine ifDec (fun hb => ?_) (fun hb => ?_)
    · walk_at "rd"
      rw [show wrongE e = true from by unfold wrongE; rw [decide_eq_true hb, Bool.true_or, Bool.or_true], if_pos rfl] at q
      exact q _ (Same.refl _)
    rw [show wrongE e = e.sets.any (wrongS e.h) from by unfold wrongE; rw [decide_eq_false ha, decide_eq_false hb, Bool.false_or, Bool.false_or]] at q
    walk_at "rd"
    refine ⟨p, e, rfl, he, fun t ht => ?_⟩
    walk_at "rd"
    refine comp_filL (emb := V.int) V.int (wrongS e.h) (fun σ => ∃ v, σ = [v, some (.ref p)]) (SqL.of upd_same) (by show 4 ≤ sizeLine; decide) ⟨_, rfl⟩ ?_ ?_
    · rintro i s ys σ H1 hi cc ss ⟨v, rfl⟩
      have h11 : SqT K H1 p [.int e.h, .int e.b, .ref qe] := SqT_same ss (sqt_new h1 ht)
      walk_at "rd"
      refine ifDec (fun h3 => ?_) (fun h3 => ?_)
      · walk_at "rd"
        exact cc.yes hi (by unfold wrongS; rw [decide_eq_true (by omega)]; rfl) rfl (by walk_at "same") ⟨_, rfl⟩
      · walk_at "rd"
        have hwe : wrongS e.h s = !decide (s / 2 ^ (8 + e.h).toNat = 0) := by unfold wrongS; rw [decide_eq_false (by omega), Bool.false_or]
        refine ifIntN (fun h4 => ?_) (fun h4 => ?_)
        · walk_at "rd"
          exact cc.yes hi (by rw [hwe, decide_eq_false h4]; rfl) rfl (by walk_at "same") ⟨_, rfl⟩
        · walk_at "rd"
          exact cc.no hi (by rw [hwe, decide_eq_true h4]; rfl) (by walk_at "same") ⟨_, rfl⟩
    intro H3 s3
    have s03 := (same_new ht).trans s3
    have hx3 := s03 _ _ hx
    have h13 := SqT_same s03 h1
    have he3 := he.same s03
    clear s3 ht h1 h2 hx
    walk_at "rd"
    rename_i l1 nl1 l2 nl2
    refine r_neNil (ns := e.sets.filter (wrongS e.h)) (look_new upd_same nl2) upd_same ?_
    rw [show (e.sets.filter (wrongS e.h)).isEmpty = !(e.sets.any (wrongS e.h)) from by
      rw [Bool.eq_iff_iff]
      simp [List.isEmpty_iff, List.filter_eq_nil_iff], Bool.not_not]
    have s05 : Same H3 (upd (upd H3 l1 (.lst ((e.sets.filter (wrongS e.h)).map V.int))) l2 (.lst [])) := (same_new nl1).trans (same_new nl2)
    generalize (upd (upd H3 l1 (.lst ((e.sets.filter (wrongS e.h)).map V.int))) l2 (.lst [])) = H5 at s05 ⊢
    have hx5 := s05 _ _ hx3
    have h15 := SqT_same s05 h13
    have he5 := he3.same s05
    have s06 := s03.trans s05
    clear s05 s03 hx3 h13 he3 nl1 nl2
    cases hw : e.sets.any (wrongS e.h) with
    | true =>
      rw [hw, if_pos rfl] at q
      walk_at "rd"
      exact q _ s06
    | false =>
      rw [hw, if_neg (by decide)] at q
      walk_at "rd"
      refine r_methV hx5 (flds_height _) ((me_all_height T hh).mono (by decide)) ?_
      walk_at "rd"
      refine ⟨x, e.h, rfl, ⟨dx, hx5⟩, ?_⟩
      walk_at "rd"
      cases hg : r.height e.h with
      | none =>
        rw [hg, if_pos rfl] at q
        show rIsN V.non V.non _ _
        walk_at "rd"
        exact q _ s06
      | some z =>
        rw [hg, if_neg (fun z => by cases z)] at q
        show rIsN (V.int z) V.non _ _
        walk_at "rd"
        obtain ⟨t', ty, kc, kb⟩ := ty_all T hh ⟨dx, hx5⟩
        cases r with
        | back b =>
          refine r_isi (b := true) (fun z => by cases z) ty kb ?_
          obtain ⟨b0, b7⟩ := ok
          walk_at "rd"
          refine r_methV hx5 (flds_told _) ((me_all_told T hh).mono (by decide)) ?_
          walk_at "rd"
          refine ⟨x, rfl, ⟨dx, hx5⟩, fun tt ntt => ?_⟩
          rw [show (HO.tup (V.str (Rw.back b).told.1 :: (Rw.back b).told.2.map V.int)) = HO.tup [.str "back", .int b] from rfl]
          have q : ∀ H', Same H H' → Q (oV (if mayB b e = true then none else some .back)) H' := q
          walk_at "rd"
          refine r_I (shl_one b0 (by omega)) ?_
          rw [one_shl]
          walk_at "rd"
          rename_i lw nlw
          have s67 : Same H5 (upd (upd H5 tt (.tup [.str "back", .int b])) lw (.lst [.int ((2 ^ b.toNat : Nat) : Int), .int 16, .int 32, .int 64])) := (same_new ntt).trans (same_new nlw)
          have hlw : (upd (upd H5 tt (.tup [.str "back", .int b])) lw (.lst [.int ((2 ^ b.toNat : Nat) : Int), .int 16, .int 32, .int 64])) lw = some (.lst [.int ((2 ^ b.toNat : Nat) : Int), .int 16, .int 32, .int 64]) := upd_same
          generalize (upd (upd H5 tt (.tup [.str "back", .int b])) lw (.lst [.int ((2 ^ b.toNat : Nat) : Int), .int 16, .int 32, .int 64])) = H7 at s67 hlw ⊢
          have h17 := SqT_same s67 h15
          have he7 := he5.same s67
          have s07 := s06.trans s67
          clear s67 s06 ntt nlw hx5 h15 he5 ty
          let W4 : List (Int × Int) := [(e.b, ((2 ^ b.toNat : Nat) : Int)), (e.v4, 16), (e.v5, 32), (e.v6, 64)]
          refine comp_filR (lo := 0) (n := 4) (fun k => .int (0 + (k : Int))) (fun k => decide (Builtin.bitAnd (W4.getD k (0, 0)).1 (W4.getD k (0, 0)).2 = 0)) (fun σ => ∃ v, σ = [v, some (.ref p), some (.ref lw)]) (by show 4 ≤ sizeLine; decide) ⟨_, rfl⟩ ?_ ?_
          · rintro i ys σ H8 hi cc ss ⟨v, rfl⟩
            have he8 := he7.same ss
            have hlw8 := ss _ _ hlw
            walk_at "rd"
            refine ⟨p, e, rfl, he8, fun t8 nt8 => ?_⟩
            have a1 : atI (e.sets.map V.int) (0 + (i : Int)) = some (.int (W4.getD i (0, 0)).1) := by
              rw [Int.zero_add]
              refine atI_nat ?_
              match i, hi with
              | 0, _ => rfl
              | 1, _ => rfl
              | 2, _ => rfl
              | 3, _ => rfl
            have a2 : atI [V.int ((2 ^ b.toNat : Nat) : Int), .int 16, .int 32, .int 64] (0 + (i : Int)) = some (.int (W4.getD i (0, 0)).2) := by
              rw [Int.zero_add]
              refine atI_nat ?_
              match i, hi with
              | 0, _ => rfl
              | 1, _ => rfl
              | 2, _ => rfl
              | 3, _ => rfl
            walk_at "rd"
            refine ifInt (fun h4 => ?_) (fun h4 => ?_)
            · walk_at "rd"
              exact cc.yes (range_get hi) (decide_eq_true h4) rfl (by walk_at "same") ⟨_, rfl⟩
            · walk_at "rd"
              exact cc.no (range_get hi) (decide_eq_false h4) (by walk_at "same") ⟨_, rfl⟩
          intro H8 s8
          have hF : ((List.range 4).filter (fun k => decide (Builtin.bitAnd (W4.getD k (0, 0)).1 (W4.getD k (0, 0)).2 = 0))).isEmpty = ((Builtin.bitAnd e.b ((2 ^ b.toNat : Nat) : Int) != 0) && ((Builtin.bitAnd e.v4 16 != 0) && ((Builtin.bitAnd e.v5 32 != 0) && (Builtin.bitAnd e.v6 64 != 0)))) := by
            show (List.filter _ [0, 1, 2, 3]).isEmpty = _
            generalize hx0 : Builtin.bitAnd e.b ((2 ^ b.toNat : Nat) : Int) = x0
            generalize hx1 : Builtin.bitAnd e.v4 16 = x1
            generalize hx2 : Builtin.bitAnd e.v5 32 = x2
            generalize hx3 : Builtin.bitAnd e.v6 64 = x3
            have y0 : Builtin.bitAnd (W4.getD 0 (0, 0)).1 (W4.getD 0 (0, 0)).2 = x0 := hx0
            have y1 : Builtin.bitAnd (W4.getD 1 (0, 0)).1 (W4.getD 1 (0, 0)).2 = x1 := hx1
            have y2 : Builtin.bitAnd (W4.getD 2 (0, 0)).1 (W4.getD 2 (0, 0)).2 = x2 := hx2
            have y3 : Builtin.bitAnd (W4.getD 3 (0, 0)).1 (W4.getD 3 (0, 0)).2 = x3 := hx3
            simp only [List.filter_cons, List.filter_nil, y0, y1, y2, y3]
            by_cases g0 : x0 = 0 <;> by_cases g1 : x1 = 0 <;> by_cases g2 : x2 = 0 <;> by_cases g3 : x3 = 0 <;> simp [g0, g1, g2, g3]
          generalize (List.range 4).filter (fun k => decide (Builtin.bitAnd (W4.getD k (0, 0)).1 (W4.getD k (0, 0)).2 = 0)) = F at hF ⊢
          rw [show List.map (fun k : Nat => V.int (0 + (k : Int))) F = (F.map fun k : Nat => (0 + (k : Int))).map V.int from by rw [List.map_map]; rfl]
          have h18 := SqT_same s8 h17
          unfold mayB at q
          walk_at "rd"
          rename_i lk nlk
          refine ifIntN (fun g1 => ?_) (fun g1 => ?_)
          · rw [decide_eq_false g1, Bool.false_and, if_neg (by decide)] at q
            walk_at "rd"
            exact q _ ((s07.trans s8).trans (same_new nlk))
          rw [decide_eq_true g1, Bool.true_and, ← hF] at q
          walk_at "rd"
          rename_i lz nlz
          refine r_neNil (look_new upd_same nlz) upd_same ?_
          rw [show (F.map fun k : Nat => (0 + (k : Int))).isEmpty = F.isEmpty from by cases F <;> rfl]
          have sE := ((s07.trans s8).trans (same_new (o := .lst ((F.map fun k : Nat => (0 + (k : Int))).map V.int)) nlk)).trans (same_new (o := .lst []) nlz)
          cases hE : F.isEmpty with
          | true =>
            rw [hE, if_pos rfl] at q
            walk_at "rd"
            exact q _ sE
          | false =>
            rw [hE, if_neg (by decide)] at q
            walk_at "rd"
            exact q _ sE
        | _ =>
          refine r_isi (b := false) (fun z => by cases z) ty kb ?_
          walk_at "rd"
          exact q _ s06
end
section
variable {P : Program} {w : World} {K : PySem.W.Frag} {mg : Str → Option Value} {base : Heap} {a : Adr}
set_option maxHeartbeats 4000000 in
theorem me_Copy_keeps (T : Txt K mg a) (b o : Int) : MethE P w K mg base CX0 3 a.C_Copy "keeps" (spKeeps a (.copy b o)) := by
  refine methE_of (sp := (spKeeps a (.copy b o))) 2 T.cl_Copy T.m_Copy_keeps sc_Copy_keeps (fun vs H Q E h => ?_) (fun f cdv A outer s H vs Q E hr h => ?_)
  · obtain ⟨x, s, z, rfl, _⟩ := h
    rfl
  · obtain ⟨x, s, z, rfl, ⟨dx, hx⟩, hk, z0, z1, hs, q⟩ := h
    change H x = some (.ins a.C_Copy dx (putF "one" (.int o) (putF "box" (.int b) []))) at hx
    obtain ⟨⟨k1, k2⟩, ⟨k3, k4⟩⟩ := hk
    refine ⟨_, (pss_one (ps_ret (pe_callE (ok_filled (K := K) T) (hr.mono (by decide)) pass0 rfl (pa_cons (pv 1) (pa_cons (pe_callE (ok_box_place (K := K) T) (hr.mono (by decide)) pass0 rfl (pa_cons (pe_fldK (K := K) rfl (pv 0)) pa_nil)) (pa_cons (pe_callE (ok_box_place (K := K) T) (hr.mono (by decide)) pass0 rfl (pa_cons (pe_fldK (K := K) rfl (pv 0)) pa_nil)) pa_nil)))))), ?_⟩
    refine r_st (σ' := [some _, some _, some _]) rfl ?_
    walk_at "rd"
    exact q
end
section
variable {P : Program} {w : World} {K : PySem.W.Frag} {mg : Str → Option Value} {base : Heap} {a : Adr}
set_option maxHeartbeats 4000000 in
theorem me_Put_keeps (T : Txt K mg a) (b c : Int) : MethE P w K mg base CX0 3 a.C_Put "keeps" (spKeeps a (.put b c)) := by
  refine methE_of (sp := (spKeeps a (.put b c))) 2 T.cl_Put T.m_Put_keeps sc_Put_keeps (fun vs H Q E h => ?_) (fun f cdv A outer s H vs Q E hr h => ?_)
  · obtain ⟨x, s, z, rfl, _⟩ := h
    rfl
  · obtain ⟨x, s, z, rfl, ⟨dx, hx⟩, hk, z0, z1, hs, q⟩ := h
    change H x = some (.ins a.C_Put dx (putF "cell" (.int c) (putF "box" (.int b) []))) at hx
    obtain ⟨⟨k1, k2⟩, ⟨k3, k4⟩⟩ := hk
    have hh : ¬ z ≤ c := fun e => by rw [show Rw.height (.put b c) z = none from if_pos e] at hs; cases hs
    refine ⟨_, (pss_one (ps_ret (pe_callE (ok_filled (K := K) T) (hr.mono (by decide)) pass0 rfl (pa_cons (pv 1) (pa_cons (pe_callE (ok_cell_place (K := K) T) (hr.mono (by decide)) pass0 rfl (pa_cons (pe_fldK (K := K) rfl (pv 0)) (pa_cons (pv 2) pa_nil))) (pa_cons (pe_callE (ok_box_place (K := K) T) (hr.mono (by decide)) pass0 rfl (pa_cons (pe_fldK (K := K) rfl (pv 0)) pa_nil)) pa_nil)))))), ?_⟩
    refine r_st (σ' := [some _, some _, some _]) rfl ?_
    walk_at "rd"
    exact q
end
section
variable {P : Program} {w : World} {K : PySem.W.Frag} {mg : Str → Option Value} {base : Heap} {a : Adr}
set_option maxHeartbeats 4000000 in
theorem me_Get_keeps (T : Txt K mg a) (b c : Int) : MethE P w K mg base CX0 3 a.C_Get "keeps" (spKeeps a (.get b c)) := by
  refine methE_of (sp := (spKeeps a (.get b c))) 2 T.cl_Get T.m_Get_keeps sc_Get_keeps (fun vs H Q E h => ?_) (fun f cdv A outer s H vs Q E hr h => ?_)
  · obtain ⟨x, s, z, rfl, _⟩ := h
    rfl
  · obtain ⟨x, s, z, rfl, ⟨dx, hx⟩, hk, z0, z1, hs, q⟩ := h
    change H x = some (.ins a.C_Get dx (putF "cell" (.int c) (putF "box" (.int b) []))) at hx
    obtain ⟨⟨k1, k2⟩, ⟨k3, k4⟩⟩ := hk
    have hh : ¬ z ≤ c := fun e => by rw [show Rw.height (.get b c) z = none from if_pos e] at hs; cases hs
    refine ⟨_, (pss_one (ps_ret (pe_callE (ok_filled (K := K) T) (hr.mono (by decide)) pass0 rfl (pa_cons (pv 1) (pa_cons (pe_callE (ok_box_place (K := K) T) (hr.mono (by decide)) pass0 rfl (pa_cons (pe_fldK (K := K) rfl (pv 0)) pa_nil)) (pa_cons (pe_callE (ok_cell_place (K := K) T) (hr.mono (by decide)) pass0 rfl (pa_cons (pe_fldK (K := K) rfl (pv 0)) (pa_cons (pv 2) pa_nil))) pa_nil)))))), ?_⟩
    refine r_st (σ' := [some _, some _, some _]) rfl ?_
    walk_at "rd"
    exact q
end
section
variable {P : Program} {w : World} {K : PySem.W.Frag} {mg : Str → Option Value} {base : Heap} {a : Adr}
set_option maxHeartbeats 4000000 in
theorem ok_own_complaint (T : Txt K mg a) : FnE P w K mg base CX0 3 "own_complaint" (spOwnC K a) := by
  refine fnE_of (sp := (spOwnC K a)) 2 T.fn_own_complaint sc_own_complaint (fun vs H Q E h => ?_) (fun f cdv A outer s H vs Q E hr h => ?_)
  · obtain ⟨x, p, r, e, rfl, _⟩ := h
    rfl
  · obtain ⟨x, p, r, e, rfl, ⟨dx, hx⟩, ok, hh, he, q⟩ := h
    obtain ⟨qe, h1, h2⟩ := id he
    refine ⟨_, (pss_cons (ps_if (pt_truK (K := K) rfl (pe_callE (ok_has_wrong_place (K := K) T) (hr.mono (by decide)) pass0 rfl (pa_cons (pv 1) pa_nil))) (pss_one (ps_ret pe_str)) pss_nil)
      (pss_cons (ps_if (pt_cmpR op_isNA (pe_methK (P := P) (w := w) (K := K) (mg := mg) (base := base) (k := 1) ⟨rfl, rfl, rfl, rfl, rfl⟩ (pv 0) (hr.mono (by decide)) pass0 (pa_cons (pe_ix (ix_K (K := K) rfl) (pv 1) pe_int (fun _ _ => rfl)) pa_nil)) pe_non (nomark _)) (pss_one (ps_ret pe_str)) pss_nil)
      (pss_cons (ps_if (PW.pt (pw_and (pt_truK (K := K) rfl (pe_callB (call_isiK (K := K) rfl) rfl T.z_isinstance b_isinstance (pa_cons (pv 0) (pa_cons (pe_glob (v := .ref a.C_Back) rfl T.c_Back rfl) pa_nil)))) (pw_and1 (pt_not (pt_truK (K := K) rfl (pe_callE (ok_may_go_back (K := K) T) (hr.mono (by decide)) pass0 rfl (pa_cons (pv 0) (pa_cons (pv 1) pa_nil)))))))) (pss_one (ps_ret pe_str)) pss_nil)
      (pss_one (ps_ret pe_non))))), ?_⟩
    refine r_st (σ' := [some _, some _]) rfl ?_
    walk_at "rd"
    refine ⟨p, e, rfl, he, fun H1 s1 => ?_⟩
    have hx1 := s1 _ _ hx
    have h11 := SqT_same s1 h1
    have he1 := he.same s1
    unfold ownC at q
    cases hw : wrongE e with
    | true =>
      rw [hw, if_pos rfl] at q
      walk_at "rd"
      exact q _ s1
    | false =>
      rw [hw, if_neg (by decide)] at q
      walk_at "rd"
      refine r_methV hx1 (flds_height _) ((me_all_height T hh).mono (by decide)) ?_
      walk_at "rd"
      refine ⟨x, e.h, rfl, ⟨dx, hx1⟩, ?_⟩
      walk_at "rd"
      cases hg : r.height e.h with
      | none =>
        rw [hg, if_pos rfl] at q
        show rIsN V.non V.non _ _
        walk_at "rd"
        exact q _ s1
      | some z =>
        rw [hg, if_neg (fun z => by cases z)] at q
        show rIsN (V.int z) V.non _ _
        walk_at "rd"
        obtain ⟨t', ty, kc, kb⟩ := ty_all T hh ⟨dx, hx1⟩
        cases r with
        | back b =>
          refine r_isi (b := true) (fun z => by cases z) ty kb ?_
          walk_at "rd"
          refine ⟨x, p, b, e, rfl, ⟨dx, hx1⟩, ok.1, ok.2, he1, fun H2 s2 => ?_⟩
          have q : ∀ H', Same H H' → Q (oV (if mayB b e = true then none else some .back)) H' := q
          cases hm : mayB b e with
          | true =>
            rw [hm] at q
            walk_at "rd"
            exact q _ (s1.trans s2)
          | false =>
            rw [hm] at q
            walk_at "rd"
            exact q _ (s1.trans s2)
        | _ =>
          refine r_isi (b := false) (fun z => by cases z) ty kb ?_
          walk_at "rd"
          exact q _ s1
end
section
variable {P : Program} {w : World} {K : PySem.W.Frag} {mg : Str → Option Value} {base : Heap} {a : Adr}
theorem flds_keeps (r : Rw) : r.flds.lookup ("keeps" : Str) = none := by
  cases r <;> (show List.lookup _ (putF _ _ _) = none; walk_at "nolk")
theorem me_all_keeps (T : Txt K mg a) {r : Rw} (hr : r.here) : MethE P w K mg base CX0 3 (r.cls a) "keeps" (spKeeps a r) := by
  cases r
  · exact (me_Set_keeps T _ _).mono (by decide)
  · exact (me_Copy_keeps T _ _).mono (by decide)
  · exact (me_Add_keeps T _ _ _).mono (by decide)
  · exact hr.elim
  · exact hr.elim
  · exact hr.elim
  · exact (me_Grow_keeps T _).mono (by decide)
  · exact (me_Shrink_keeps T _).mono (by decide)
  · exact (me_Put_keeps T _ _).mono (by decide)
  · exact (me_Get_keeps T _ _).mono (by decide)
  · exact (me_Jump_keeps T _).mono (by decide)
  · exact (me_Branch_keeps T _ _).mono (by decide)
  · exact (me_Call_keeps T _).mono (by decide)
  · exact (me_Back_keeps T _).mono (by decide)
  · exact (me_Drop_keeps T _).mono (by decide)
end
section
variable {P : Program} {w : World} {K : PySem.W.Frag} {mg : Str → Option Value} {base : Heap} {a : Adr}
set_option maxHeartbeats 4000000 in
theorem ok_way_complaint (T : Txt K mg a) : FnE P w K mg base CX0 4 "way_complaint" (spWayC K a) := by
  refine fnE_of (sp := (spWayC K a)) 3 T.fn_way_complaint sc_way_complaint (fun vs H Q E h => ?_) (fun f cdv A outer s H vs Q E hr h => ?_)
  · obtain ⟨x, p, l, c, r, e, ev, es, rfl, _⟩ := h
    rfl
  · obtain ⟨x, p, l, c, r, e, ev, es, rfl, ⟨dx, hx⟩, ok, hh, he, nn, e0, e4, hs, hl, hev, hnn, q⟩ := h
    obtain ⟨qe, h1, h2⟩ := id he
    unfold wayC at q
    refine ⟨_, (pss_cons (ps_if (pt_not (pt_truK (K := K) rfl (pe_callE (ok_is_row (K := K) T) (hr.mono (by decide)) pass0 rfl (pa_cons (pv 2) (pa_cons (pv 3) pa_nil))))) (pss_one (ps_ret pe_str)) pss_nil)
      (pss_cons (ps_set (i := 4) sc_way_complaint.nd rfl (Or.inl rfl) (pe_ix (ix_K (K := K) rfl) (pv 3) (pv 2) (fun _ _ => rfl)))
      (pss_cons (ps_if (pt_cmpR op_isNA (pv 4) pe_non (nomark _)) (pss_one (ps_ret pe_str)) pss_nil)
      (pss_cons (ps_if (pt_cmpR (op_neK (K := K) rfl hr.units) (pe_ix (ix_K (K := K) rfl) (pv 4) pe_int (fun _ _ => rfl)) (pe_methK (P := P) (w := w) (K := K) (mg := mg) (base := base) (k := 1) ⟨rfl, rfl, rfl, rfl, rfl⟩ (pv 0) (hr.mono (by decide)) pass0 (pa_cons (pe_ix (ix_K (K := K) rfl) (pv 1) pe_int (fun _ _ => rfl)) pa_nil)) (nomark _)) (pss_one (ps_ret pe_str)) pss_nil)
      (pss_cons (ps_for PassesOwn.never rfl (pi_zip3 (K := K) rfl rfl T.z_zip (pa_cons (pe_glob (v := .ref a.G_SET_NAMES) rfl T.s_SET_NAMES rfl) (pa_cons (pe_callE (ok_sets_of (K := K) T) (hr.mono (by decide)) pass0 rfl (pa_cons (pv 1) pa_nil)) (pa_cons (pe_callE (ok_sets_of (K := K) T) (hr.mono (by decide)) pass0 rfl (pa_cons (pv 4) pa_nil)) pa_nil)))) (pg_tupK (K := K) rfl rfl (pgs_cons (pg_name (i := 5) sc_way_complaint.nd rfl (Or.inl rfl)) (pgs_cons (pg_name (i := 6) sc_way_complaint.nd rfl (Or.inl rfl)) (pgs_cons (pg_name (i := 7) sc_way_complaint.nd rfl (Or.inl rfl)) pgs_nil)))) (pss_one (ps_if (pt_truK (K := K) rfl (pe_op op_and (pv 7) (pe_un un_inv (pe_methK (P := P) (w := w) (K := K) (mg := mg) (base := base) (k := 3) ⟨rfl, rfl, rfl, rfl, rfl⟩ (pv 0) (hr.mono (by decide)) pass0 (pa_cons (pv 6) (pa_cons (pe_ix (ix_K (K := K) rfl) (pv 1) pe_int (fun _ _ => rfl)) pa_nil)))))) (pss_one (ps_ret (pv 5))) pss_nil)))
      (pss_one (ps_ret pe_non))))))), ?_⟩
    refine r_st (σ' := [some _, some _, some _, some _, none, none, none, none]) rfl ?_
    walk_at "rd"
    refine ⟨c, l, ev, rfl, SqL.of hl, ?_⟩
    rw [hev.1]
    by_cases hc : 0 ≤ c ∧ c < (es.length : Int)
    · rw [decide_eq_true hc]
      rw [if_pos hc] at q
      obtain ⟨v, oe, hat, hoe, hmem, hv⟩ := hev.at hc.1 hc.2
      rw [hoe, Option.join_some] at q
      walk_at "rd"
      cases oe with
      | none =>
        cases hv
        walk_at "rd"
        exact q _ (Same.refl _)
      | some t =>
        obtain ⟨pt, rfl, qt, t1, t2⟩ := id hv
        have tn := hnn t hmem
        walk_at "rd"
        refine r_methV hx (flds_height _) ((me_all_height T hh).mono (by decide)) ?_
        walk_at "rd"
        refine ⟨x, e.h, rfl, ⟨dx, hx⟩, ?_⟩
        obtain ⟨z, hg⟩ := Option.isSome_iff_exists.mp hs
        have q : ∀ H', Same H H' → Q (oV (if r.height e.h = some t.h then lackW r e t else some .height)) H' := q
        rw [hg] at q ⊢
        show rNeA K (V.int t.h) (V.int z) _ _
        walk_at "rd"
        refine ifIntN (fun hz => ?_) (fun hz => ?_)
        · rw [if_neg (fun y => hz (Option.some.inj y).symm)] at q
          walk_at "rd"
          exact q _ (Same.refl _)
        rw [if_pos (by rw [hz])] at q
        walk_at "rd"
        refine ⟨p, e, rfl, he, fun ta nta => ?_⟩
        walk_at "rd"
        refine ⟨pt, t, rfl, EntAt.same ⟨qt, t1, t2⟩ (same_new nta), fun tb ntb => ?_⟩
        walk_at "rd"
        have sX : Same H (upd (upd H ta (.tup (e.sets.map V.int))) tb (.tup (t.sets.map V.int))) := (same_new nta).trans (same_new ntb)
        have ha : SqT K (upd (upd H ta (.tup (e.sets.map V.int))) tb (.tup (t.sets.map V.int))) ta (e.sets.map V.int) := SqT.of (look_new upd_same ntb)
        have hb : SqT K (upd (upd H ta (.tup (e.sets.map V.int))) tb (.tup (t.sets.map V.int))) tb (t.sets.map V.int) := SqT.of upd_same
        clear nta ntb
        generalize (upd (upd H ta (.tup (e.sets.map V.int))) tb (.tup (t.sets.map V.int))) = HX at sX ha hb ⊢
        refine ⟨a.G_SET_NAMES, ta, tb, _, _, _, rfl, T.t_SET_NAMES _, ha, hb, ?_⟩
        unfold lackW at q
        refine for_zip3 (xs := [.str "back", .int 4, .int 5, .int 6]) (ys := e.sets.map V.int) (zs := t.sets.map V.int) rfl rfl (fun i σ H2 => (∃ u1 u2 u3, σ = [some (.ref x), some (.ref p), some (.int c), some (.ref l), some (.ref pt), u1, u2, u3]) ∧ Same HX H2 ∧ (0 < i → Bt.wo t.b.toNat (r.keep e.b.toNat e.h) = 0) ∧ (1 < i → Bt.wo t.v4.toNat (r.keep e.v4.toNat e.h) = 0) ∧ (2 < i → Bt.wo t.v5.toNat (r.keep e.v5.toNat e.h) = 0) ∧ (3 < i → Bt.wo t.v6.toNat (r.keep e.v6.toNat e.h) = 0)) ⟨⟨_, _, _, rfl⟩, Same.refl _, (fun z => absurd z (by decide)), (fun z => absurd z (by decide)), (fun z => absurd z (by decide)), (fun z => absurd z (by decide))⟩ (fun i σ H2 _ ⟨_, s2, _⟩ => ⟨T.t_SET_NAMES _, SqT_same s2 ha, SqT_same s2 hb⟩) ?_ ?_
        · rintro i v1 v2 v3 T' σ H2 w1 w2 w3 ⟨⟨u1, u2, u3, rfl⟩, s2, z0, z1, z2, z3⟩ nT
          have hx2 := (sX.trans s2) _ _ hx
          have h12 := SqT_same (sX.trans s2) h1
          have s0 := sX.trans s2
          clear sX ha hb t1 t2 h1 h2 hl hev hv he
          match i, w1, w2, w3 with
          | 0, w1, w2, w3 =>
            cases w1; cases w2; cases w3
            have eb : Builtin.bitAnd t.b (Builtin.bitNot ((r.keep e.b.toNat e.h : Nat) : Int)) = ((Bt.wo t.b.toNat (r.keep e.b.toNat e.h) : Nat) : Int) := by rw [← bitAnd_wo, Int.toNat_of_nonneg tn.1]
            walk_at "rd"
            refine r_methV (look_new hx2 nT) (flds_keeps _) ((me_all_keeps T hh).mono (by decide)) ?_
            walk_at "rd"
            refine ⟨x, e.b.toNat, e.h, by rw [Int.toNat_of_nonneg nn.1], ⟨dx, look_new hx2 nT⟩, ok, e0, e4, hs, ?_⟩
            walk_at "rd"
            rw [eb]
            by_cases hw : Bt.wo t.b.toNat (r.keep e.b.toNat e.h) = 0
            · rw [hw, show (((0 : Nat) : Int) != 0) = false from rfl]
              walk_at "rd"
              exact ⟨⟨_, _, _, rfl⟩, s2.trans (same_new nT), (fun _ => rfl), (fun z => absurd z (by decide)), (fun z => absurd z (by decide)), (fun z => absurd z (by decide))⟩
            · rw [show ((((Bt.wo t.b.toNat (r.keep e.b.toNat e.h) : Nat) : Int)) != 0) = true from by simp [hw]]
              walk_at "rd"
              rw [if_pos hw] at q
              exact q _ (s0.trans (same_new nT))
          | 1, w1, w2, w3 =>
            cases w1; cases w2; cases w3
            have eb : Builtin.bitAnd t.v4 (Builtin.bitNot ((r.keep e.v4.toNat e.h : Nat) : Int)) = ((Bt.wo t.v4.toNat (r.keep e.v4.toNat e.h) : Nat) : Int) := by rw [← bitAnd_wo, Int.toNat_of_nonneg tn.2.1]
            walk_at "rd"
            refine r_methV (look_new hx2 nT) (flds_keeps _) ((me_all_keeps T hh).mono (by decide)) ?_
            walk_at "rd"
            refine ⟨x, e.v4.toNat, e.h, by rw [Int.toNat_of_nonneg nn.2.1], ⟨dx, look_new hx2 nT⟩, ok, e0, e4, hs, ?_⟩
            walk_at "rd"
            rw [eb]
            by_cases hw : Bt.wo t.v4.toNat (r.keep e.v4.toNat e.h) = 0
            · rw [hw, show (((0 : Nat) : Int) != 0) = false from rfl]
              walk_at "rd"
              exact ⟨⟨_, _, _, rfl⟩, s2.trans (same_new nT), (fun _ => z0 (by decide)), (fun _ => rfl), (fun z => absurd z (by decide)), (fun z => absurd z (by decide))⟩
            · rw [show ((((Bt.wo t.v4.toNat (r.keep e.v4.toNat e.h) : Nat) : Int)) != 0) = true from by simp [hw]]
              walk_at "rd"
              rw [if_neg (fun z => z (z0 (by decide))), if_pos hw] at q
              exact q _ (s0.trans (same_new nT))
          | 2, w1, w2, w3 =>
            cases w1; cases w2; cases w3
            have eb : Builtin.bitAnd t.v5 (Builtin.bitNot ((r.keep e.v5.toNat e.h : Nat) : Int)) = ((Bt.wo t.v5.toNat (r.keep e.v5.toNat e.h) : Nat) : Int) := by rw [← bitAnd_wo, Int.toNat_of_nonneg tn.2.2.1]
            walk_at "rd"
            refine r_methV (look_new hx2 nT) (flds_keeps _) ((me_all_keeps T hh).mono (by decide)) ?_
            walk_at "rd"
            refine ⟨x, e.v5.toNat, e.h, by rw [Int.toNat_of_nonneg nn.2.2.1], ⟨dx, look_new hx2 nT⟩, ok, e0, e4, hs, ?_⟩
            walk_at "rd"
            rw [eb]
            by_cases hw : Bt.wo t.v5.toNat (r.keep e.v5.toNat e.h) = 0
            · rw [hw, show (((0 : Nat) : Int) != 0) = false from rfl]
              walk_at "rd"
              exact ⟨⟨_, _, _, rfl⟩, s2.trans (same_new nT), (fun _ => z0 (by decide)), (fun _ => z1 (by decide)), (fun _ => rfl), (fun z => absurd z (by decide))⟩
            · rw [show ((((Bt.wo t.v5.toNat (r.keep e.v5.toNat e.h) : Nat) : Int)) != 0) = true from by simp [hw]]
              walk_at "rd"
              rw [if_neg (fun z => z (z0 (by decide))), if_neg (fun z => z (z1 (by decide))), if_pos hw] at q
              exact q _ (s0.trans (same_new nT))
          | 3, w1, w2, w3 =>
            cases w1; cases w2; cases w3
            have eb : Builtin.bitAnd t.v6 (Builtin.bitNot ((r.keep e.v6.toNat e.h : Nat) : Int)) = ((Bt.wo t.v6.toNat (r.keep e.v6.toNat e.h) : Nat) : Int) := by rw [← bitAnd_wo, Int.toNat_of_nonneg tn.2.2.2]
            walk_at "rd"
            refine r_methV (look_new hx2 nT) (flds_keeps _) ((me_all_keeps T hh).mono (by decide)) ?_
            walk_at "rd"
            refine ⟨x, e.v6.toNat, e.h, by rw [Int.toNat_of_nonneg nn.2.2.2], ⟨dx, look_new hx2 nT⟩, ok, e0, e4, hs, ?_⟩
            walk_at "rd"
            rw [eb]
            by_cases hw : Bt.wo t.v6.toNat (r.keep e.v6.toNat e.h) = 0
            · rw [hw, show (((0 : Nat) : Int) != 0) = false from rfl]
              walk_at "rd"
              exact ⟨⟨_, _, _, rfl⟩, s2.trans (same_new nT), (fun _ => z0 (by decide)), (fun _ => z1 (by decide)), (fun _ => z2 (by decide)), (fun _ => rfl)⟩
            · rw [show ((((Bt.wo t.v6.toNat (r.keep e.v6.toNat e.h) : Nat) : Int)) != 0) = true from by simp [hw]]
              walk_at "rd"
              rw [if_neg (fun z => z (z0 (by decide))), if_neg (fun z => z (z1 (by decide))), if_neg (fun z => z (z2 (by decide))), if_pos hw] at q
              exact q _ (s0.trans (same_new nT))
          | i + 4, w1, w2, w3 => simp at w1
        · rintro σ H2 ⟨⟨u1, u2, u3, rfl⟩, s2, z0, z1, z2, z3⟩
          have z0 := z0 (by decide)
          have z1 := z1 (by decide)
          have z2 := z2 (by decide)
          have z3 := z3 (by decide)
          rw [if_neg (fun z => z z0), if_neg (fun z => z z1), if_neg (fun z => z z2), if_neg (fun z => z z3)] at q
          walk_at "rd"
          exact q _ (sX.trans s2)
    · rw [decide_eq_false hc]
      rw [if_neg hc] at q
      walk_at "rd"
      exact q _ (Same.refl _)
end
section
variable {P : Program} {w : World} {K : PySem.W.Frag} {mg : Str → Option Value} {base : Heap} {a : Adr}
set_option maxHeartbeats 4000000 in
theorem ok_law_row (T : Txt K mg a) : FnE P w K mg base CX0 4 "_law_row" (spRow31 a) := by
  refine fnE_of (sp := (spRow31 a)) 3 T.fn_law_row sc_law_row (fun vs H Q E h => ?_) (fun f cdv A outer s H vs Q E hr h => ?_)
  · obtain ⟨c, m, rfl, _⟩ := h
    rfl
  · obtain ⟨c, m, rfl, m0, m8, q⟩ := h
    have tg : ∀ x : Int, 0 ≤ x % (m + 2) ∧ x % (m + 2) ≤ 10 := fun x => ⟨Int.emod_nonneg _ (by omega), by have := Int.emod_lt_of_pos x (show 0 < m + 2 by omega); omega⟩
    refine ⟨_, (pss_cons (ps_set (i := 2) sc_law_row.nd rfl (Or.inl rfl) (pe_op op_mod (pv 0) pe_int))
      (pss_cons (ps_set (i := 3) sc_law_row.nd rfl (Or.inl rfl) (pe_op op_mod (pe_op op_fdiv (pv 0) pe_int) pe_int))
      (pss_cons (ps_set (i := 4) sc_law_row.nd rfl (Or.inl rfl) (pe_op op_fdiv (pv 0) pe_int))
      (pss_cons (ps_if (pt_cmpR op_lt (pv 2) pe_int (nomark _)) (pss_one (ps_ret (pe_ix (ix_K (K := K) rfl) (pe_lst (pa_cons (pe_makeE (mk_Set (K := K) T) (hr.mono (by decide)) pass0 rfl (pa_cons (pv 3) (pa_cons (pe_op op_mod (pv 4) pe_int) pa_nil))) (pa_cons (pe_makeE (mk_Copy (K := K) T) (hr.mono (by decide)) pass0 rfl (pa_cons (pv 3) (pa_cons (pe_op op_mod (pv 4) pe_int) pa_nil))) (pa_cons (pe_makeE (mk_Add (K := K) T) (hr.mono (by decide)) pass0 rfl (pa_cons (pv 3) (pa_cons (pe_op op_mod (pv 4) pe_int) (pa_cons pe_int pa_nil)))) pa_nil)))) (pv 2) (fun _ _ => rfl)))) pss_nil)
      (pss_cons (ps_if (pt_cmpR op_lt (pv 2) pe_int (nomark _)) (pss_one (ps_ret (pe_ix (ix_K (K := K) rfl) (pe_lst (pa_cons (pe_makeE (mk_Grow (K := K) T) (hr.mono (by decide)) pass0 rfl (pa_cons (pe_op op_mod (pv 4) pe_int) pa_nil)) (pa_cons (pe_makeE (mk_Shrink (K := K) T) (hr.mono (by decide)) pass0 rfl (pa_cons (pe_op op_mod (pv 4) pe_int) pa_nil)) (pa_cons (pe_makeE (mk_Put (K := K) T) (hr.mono (by decide)) pass0 rfl (pa_cons (pv 3) (pa_cons (pe_op op_mod (pv 4) pe_int) pa_nil))) (pa_cons (pe_makeE (mk_Get (K := K) T) (hr.mono (by decide)) pass0 rfl (pa_cons (pv 3) (pa_cons (pe_op op_mod (pv 4) pe_int) pa_nil))) pa_nil))))) (pe_op op_sub (pv 2) pe_int) (fun _ _ => rfl)))) pss_nil)
      (pss_cons (ps_if (pt_cmpR (op_eqK (K := K) rfl hr.units) (pv 2) pe_int (nomark _)) (pss_one (ps_ret (pe_makeE (mk_Jump (K := K) T) (hr.mono (by decide)) pass0 rfl (pa_cons (pe_op op_mod (pv 4) (pe_op (op_plusK (K := K) rfl) (pv 1) pe_int)) pa_nil)))) pss_nil)
      (pss_cons (ps_if (pt_cmpR (op_eqK (K := K) rfl hr.units) (pv 2) pe_int (nomark _)) (pss_one (ps_ret (pe_makeE (mk_Branch (K := K) T) (hr.mono (by decide)) pass0 rfl (pa_cons (pv 3) (pa_cons (pe_op op_mod (pv 4) (pe_op (op_plusK (K := K) rfl) (pv 1) pe_int)) pa_nil))))) pss_nil)
      (pss_cons (ps_if (pt_cmpR (op_eqK (K := K) rfl hr.units) (pv 2) pe_int (nomark _)) (pss_one (ps_ret (pe_makeE (mk_Call (K := K) T) (hr.mono (by decide)) pass0 rfl (pa_cons (pe_op op_mod (pv 4) (pe_op (op_plusK (K := K) rfl) (pv 1) pe_int)) pa_nil)))) pss_nil)
      (pss_one (ps_ret (pe_ix (ix_K (K := K) rfl) (pe_lst (pa_cons (pe_makeE (mk_Back (K := K) T) (hr.mono (by decide)) pass0 rfl (pa_cons (pe_ix (ix_K (K := K) rfl) (pe_lst (pa_cons pe_int (pa_cons (pv 3) pa_nil))) (pe_op op_mod (pv 4) pe_int) (fun _ _ => rfl)) pa_nil)) (pa_cons (pe_makeE (mk_Drop (K := K) T) (hr.mono (by decide)) pass0 rfl (pa_cons (pv 3) pa_nil)) pa_nil))) (pe_op op_sub (pv 2) pe_int) (fun _ _ => rfl)))))))))))), ?_⟩
    refine r_st (σ' := [some _, some _, none, none, none]) rfl ?_
    walk_at "rd"
    refine ifDec (fun hh => ?_) (fun hh => ?_)
    · walk_at "rd"
      intro r1 dr1 m1 g1 _
      refine ⟨r1, dr1, _, _, rfl, ⟨⟨by first | decide | omega, by first | decide | omega⟩, ⟨by first | decide | omega, by first | decide | omega⟩⟩, upd_same, fun H1 kp1 hH1 => ⟨rfl, ?_⟩⟩
      have s1 : Same H H1 := fun b o e => kp1 b o (by rw [upd_ne (ne_of_none e m1), upd_ne (ne_of_none e g1)]; exact e) (ne_of_none e m1)
      have w1 : RowAt a H1 r1 (.set _ _) := ⟨dr1, hH1⟩
      clear kp1 hH1
      walk_at "rd"
      intro r2 dr2 m2 g2 _
      refine ⟨r2, dr2, _, _, rfl, ⟨⟨by first | decide | omega, by first | decide | omega⟩, ⟨by first | decide | omega, by first | decide | omega⟩⟩, upd_same, fun H2 kp2 hH2 => ⟨rfl, ?_⟩⟩
      have s2 : Same H1 H2 := fun b o e => kp2 b o (by rw [upd_ne (ne_of_none e m2), upd_ne (ne_of_none e g2)]; exact e) (ne_of_none e m2)
      have w2 : RowAt a H2 r2 (.copy _ _) := ⟨dr2, hH2⟩
      clear kp2 hH2
      walk_at "rd"
      intro r3 dr3 m3 g3 _
      refine ⟨r3, dr3, _, _, _, rfl, ⟨⟨by first | decide | omega, by first | decide | omega⟩, ⟨by first | decide | omega, by first | decide | omega⟩, ⟨by first | decide | omega, by first | decide | omega⟩⟩, upd_same, fun H3 kp3 hH3 => ⟨rfl, ?_⟩⟩
      have s3 : Same H2 H3 := fun b o e => kp3 b o (by rw [upd_ne (ne_of_none e m3), upd_ne (ne_of_none e g3)]; exact e) (ne_of_none e m3)
      have w3 : RowAt a H3 r3 (.add _ _ _) := ⟨dr3, hH3⟩
      clear kp3 hH3
      walk_at "rd"
      rename_i l1 nl1
      have hcs : c % 12 = 0 ∨ c % 12 = 1 ∨ c % 12 = 2 := by omega
      rcases hcs with hk | hk | hk
      · rw [hk]
        refine r_ixL (SqL.of upd_same) (v := .ref r1) rfl ?_
        exact q r1 _ _ (s1.trans (s2.trans (s3.trans (same_new nl1)))) (w1.same (s2.trans (s3.trans (same_new nl1)))) ⟨⟨by first | decide | omega, by first | decide | omega⟩, ⟨by first | decide | omega, by first | decide | omega⟩⟩ True.intro
      · rw [hk]
        refine r_ixL (SqL.of upd_same) (v := .ref r2) rfl ?_
        exact q r2 _ _ (s1.trans (s2.trans (s3.trans (same_new nl1)))) (w2.same (s3.trans (same_new nl1))) ⟨⟨by first | decide | omega, by first | decide | omega⟩, ⟨by first | decide | omega, by first | decide | omega⟩⟩ True.intro
      · rw [hk]
        refine r_ixL (SqL.of upd_same) (v := .ref r3) rfl ?_
        exact q r3 _ _ (s1.trans (s2.trans (s3.trans (same_new nl1)))) (w3.same (same_new nl1)) ⟨⟨by first | decide | omega, by first | decide | omega⟩, ⟨by first | decide | omega, by first | decide | omega⟩, ⟨by first | decide | omega, by first | decide | omega⟩⟩ True.intro
    walk_at "rd"
    refine ifDec (fun hh2 => ?_) (fun hh2 => ?_)
    · walk_at "rd"
      intro r1 dr1 m1 g1 _
      refine ⟨r1, dr1, _, rfl, ⟨by first | decide | omega, by first | decide | omega⟩, upd_same, fun H1 kp1 hH1 => ⟨rfl, ?_⟩⟩
      have s1 : Same H H1 := fun b o e => kp1 b o (by rw [upd_ne (ne_of_none e m1), upd_ne (ne_of_none e g1)]; exact e) (ne_of_none e m1)
      have w1 : RowAt a H1 r1 (.grow _) := ⟨dr1, hH1⟩
      clear kp1 hH1
      walk_at "rd"
      intro r2 dr2 m2 g2 _
      refine ⟨r2, dr2, _, rfl, ⟨by first | decide | omega, by first | decide | omega⟩, upd_same, fun H2 kp2 hH2 => ⟨rfl, ?_⟩⟩
      have s2 : Same H1 H2 := fun b o e => kp2 b o (by rw [upd_ne (ne_of_none e m2), upd_ne (ne_of_none e g2)]; exact e) (ne_of_none e m2)
      have w2 : RowAt a H2 r2 (.shrink _) := ⟨dr2, hH2⟩
      clear kp2 hH2
      walk_at "rd"
      intro r3 dr3 m3 g3 _
      refine ⟨r3, dr3, _, _, rfl, ⟨⟨by first | decide | omega, by first | decide | omega⟩, ⟨by first | decide | omega, by first | decide | omega⟩⟩, upd_same, fun H3 kp3 hH3 => ⟨rfl, ?_⟩⟩
      have s3 : Same H2 H3 := fun b o e => kp3 b o (by rw [upd_ne (ne_of_none e m3), upd_ne (ne_of_none e g3)]; exact e) (ne_of_none e m3)
      have w3 : RowAt a H3 r3 (.put _ _) := ⟨dr3, hH3⟩
      clear kp3 hH3
      walk_at "rd"
      intro r4 dr4 m4 g4 _
      refine ⟨r4, dr4, _, _, rfl, ⟨⟨by first | decide | omega, by first | decide | omega⟩, ⟨by first | decide | omega, by first | decide | omega⟩⟩, upd_same, fun H4 kp4 hH4 => ⟨rfl, ?_⟩⟩
      have s4 : Same H3 H4 := fun b o e => kp4 b o (by rw [upd_ne (ne_of_none e m4), upd_ne (ne_of_none e g4)]; exact e) (ne_of_none e m4)
      have w4 : RowAt a H4 r4 (.get _ _) := ⟨dr4, hH4⟩
      clear kp4 hH4
      walk_at "rd"
      rename_i l1 nl1
      have hcs : c % 12 - 3 = 0 ∨ c % 12 - 3 = 1 ∨ c % 12 - 3 = 2 ∨ c % 12 - 3 = 3 := by omega
      rcases hcs with hk | hk | hk | hk
      · rw [hk]
        refine r_ixL (SqL.of upd_same) (v := .ref r1) rfl ?_
        exact q r1 _ _ (s1.trans (s2.trans (s3.trans (s4.trans (same_new nl1))))) (w1.same (s2.trans (s3.trans (s4.trans (same_new nl1))))) ⟨by first | decide | omega, by first | decide | omega⟩ True.intro
      · rw [hk]
        refine r_ixL (SqL.of upd_same) (v := .ref r2) rfl ?_
        exact q r2 _ _ (s1.trans (s2.trans (s3.trans (s4.trans (same_new nl1))))) (w2.same (s3.trans (s4.trans (same_new nl1)))) ⟨by first | decide | omega, by first | decide | omega⟩ True.intro
      · rw [hk]
        refine r_ixL (SqL.of upd_same) (v := .ref r3) rfl ?_
        exact q r3 _ _ (s1.trans (s2.trans (s3.trans (s4.trans (same_new nl1))))) (w3.same (s4.trans (same_new nl1))) ⟨⟨by first | decide | omega, by first | decide | omega⟩, ⟨by first | decide | omega, by first | decide | omega⟩⟩ True.intro
      · rw [hk]
        refine r_ixL (SqL.of upd_same) (v := .ref r4) rfl ?_
        exact q r4 _ _ (s1.trans (s2.trans (s3.trans (s4.trans (same_new nl1))))) (w4.same (same_new nl1)) ⟨⟨by first | decide | omega, by first | decide | omega⟩, ⟨by first | decide | omega, by first | decide | omega⟩⟩ True.intro
    walk_at "rd"
    have ht := tg (c / 96)
    refine ifInt (fun hh3 => ?_) (fun hh3 => ?_)
    · walk_at "rd"
      exact r_row1 (a := a) ⟨by omega, by omega⟩ rfl (fun p H' s np z => q p _ H' s z ⟨by omega, by omega⟩ True.intro)
    walk_at "rd"
    refine ifInt (fun hh4 => ?_) (fun hh4 => ?_)
    · walk_at "rd"
      exact r_row2 (a := a) ⟨⟨by omega, by omega⟩, by omega, by omega⟩ rfl (fun p H' s np z => q p _ H' s z ⟨⟨by omega, by omega⟩, by omega, by omega⟩ True.intro)
    walk_at "rd"
    refine ifInt (fun hh5 => ?_) (fun hh5 => ?_)
    · walk_at "rd"
      exact r_row1 (a := a) ⟨by omega, by omega⟩ rfl (fun p H' s np z => q p _ H' s z ⟨by omega, by omega⟩ True.intro)
    walk_at "rd"
    rename_i l0 nl0
    obtain ⟨bx, b0, b7, hat⟩ : ∃ m : Int, 0 ≤ m ∧ m ≤ 7 ∧ atI [V.int 7, V.int (c / 12 % 8)] (c / 96 % 2) = some (.int m) := by
      rcases (show c / 96 % 2 = 0 ∨ c / 96 % 2 = 1 by omega) with h | h
      · rw [h]; exact ⟨7, by decide, by decide, rfl⟩
      · rw [h]; exact ⟨_, by omega, by omega, rfl⟩
    refine r_ixL (SqL.of upd_same) hat ?_
    walk_at "rd"
    intro r1 dr1 m1 g1 _
    refine ⟨r1, dr1, _, rfl, ⟨by first | decide | omega, by first | decide | omega⟩, upd_same, fun H1 kp1 hH1 => ⟨rfl, ?_⟩⟩
    have s1 : Same (upd H l0 (.lst [V.int 7, V.int (c / 12 % 8)])) H1 := fun b o e => kp1 b o (by rw [upd_ne (ne_of_none e m1), upd_ne (ne_of_none e g1)]; exact e) (ne_of_none e m1)
    have w1 : RowAt a H1 r1 (.back _) := ⟨dr1, hH1⟩
    clear kp1 hH1
    walk_at "rd"
    intro r2 dr2 m2 g2 _
    refine ⟨r2, dr2, _, rfl, ⟨by first | decide | omega, by first | decide | omega⟩, upd_same, fun H2 kp2 hH2 => ⟨rfl, ?_⟩⟩
    have s2 : Same H1 H2 := fun b o e => kp2 b o (by rw [upd_ne (ne_of_none e m2), upd_ne (ne_of_none e g2)]; exact e) (ne_of_none e m2)
    have w2 : RowAt a H2 r2 (.drop _) := ⟨dr2, hH2⟩
    clear kp2 hH2
    walk_at "rd"
    rename_i l1 nl1
    have hcs : c % 12 - 10 = 0 ∨ c % 12 - 10 = 1 := by omega
    rcases hcs with hk | hk
    · rw [hk]
      refine r_ixL (SqL.of upd_same) (v := .ref r1) rfl ?_
      exact q r1 _ _ ((same_new nl0).trans <| s1.trans (s2.trans (same_new nl1))) (w1.same (s2.trans (same_new nl1))) ⟨by first | decide | omega, by first | decide | omega⟩ True.intro
    · rw [hk]
      refine r_ixL (SqL.of upd_same) (v := .ref r2) rfl ?_
      exact q r2 _ _ ((same_new nl0).trans <| s1.trans (s2.trans (same_new nl1))) (w2.same (same_new nl1)) ⟨by first | decide | omega, by first | decide | omega⟩ True.intro
end
section
variable {P : Program} {w : World} {K : PySem.W.Frag} {mg : Str → Option Value} {base : Heap} {a : Adr}
set_option maxHeartbeats 4000000 in
theorem ok_law_entry (T : Txt K mg a) : FnE P w K mg base CX0 4 "_law_entry" (spEnt31 K a) := by
  refine fnE_of (sp := (spEnt31 K a)) 3 T.fn_law_entry sc_law_entry (fun vs H Q E h => ?_) (fun f cdv A outer s H vs Q E hr h => ?_)
  · obtain ⟨c, v, x, oe, r, rfl, _⟩ := h
    rfl
  · obtain ⟨c, v, x, oe, r, rfl, hv, ho, ⟨dx, hx⟩, ok, hh, q⟩ := h
    refine ⟨_, (pss_cons (ps_if (pt_cmpR (op_eqK (K := K) rfl hr.units) (pe_op op_mod (pv 0) pe_int) pe_int (nomark _)) (pss_one (ps_ret pe_non)) pss_nil)
      (pss_cons (ps_if (pt_cmpR (op_eqK (K := K) rfl hr.units) (pe_op op_mod (pv 0) pe_int) pe_int (nomark _)) (pss_one (ps_ret (pe_tup (pa_cons pe_int (pa_cons pe_int (pa_cons (pe_tup (pa_cons pe_int (pa_cons pe_int (pa_cons pe_int pa_nil)))) pa_nil)))))) pss_nil)
      (pss_cons (ps_if (PW.pt (pw_and (pt_cmpR op_lt (pe_op op_mod (pv 0) pe_int) pe_int (nomark _)) (pw_and (pt_cmpR op_notNA (pv 1) pe_non (nomark _)) (pw_and1 (pt_chain op_le op_le pe_int (pe_ix (ix_K (K := K) rfl) (pv 1) pe_int (fun _ _ => rfl)) pe_int))))) (pss_cons (ps_set (i := 3) sc_law_entry.nd rfl (Or.inl rfl) (pe_methK (P := P) (w := w) (K := K) (mg := mg) (base := base) (k := 1) ⟨rfl, rfl, rfl, rfl, rfl⟩ (pv 2) (hr.mono (by decide)) pass0 (pa_cons (pe_ix (ix_K (K := K) rfl) (pv 1) pe_int (fun _ _ => rfl)) pa_nil)))
      (pss_cons (ps_set (i := 4) sc_law_entry.nd rfl (Or.inl rfl) (pe_cmpR (op_eqK (K := K) rfl hr.units) (pe_op op_shr (pe_callB (call_maxLK (K := K) rfl rfl) rfl T.z_max b_max (pa_cons (pe_callE (ok_law_sets (K := K) T) (hr.mono (by decide)) pass0 rfl (pa_cons (pv 1) pa_nil)) pa_nil)) (pe_op (op_plusK (K := K) rfl) pe_int (pe_ix (ix_K (K := K) rfl) (pv 1) pe_int (fun _ _ => rfl)))) pe_int (nomark _)))
      (pss_one (ps_if (PW.pt (pw_and (pt_cmpR op_notNA (pv 3) pe_non (nomark _)) (pw_and1 (pt_truK (K := K) rfl (pv 4))))) (pss_cons (ps_setC (i := 5) sc_law_entry.nd rfl rfl (own := ["_law_places"]) (fr := [("_law_before", 1), ("_law_row_here", 2)]) rfl ⟨rfl, (by walk_at "clok"), (by walk_at "frok"), rfl, (by decide +kernel), (by decide +kernel), rfl⟩ (pi_seqK (K := K) rfl (pe_ix (ix_K (K := K) rfl) (pv 1) pe_int (fun _ _ => rfl))) (fun _ _ _ _ => (pg_name (i := 0) (show List.Nodup [("_law_places" : Str), ("_law_before" : Str), ("_law_row_here" : Str)] from by decide +kernel) rfl (Or.inl rfl))) (fun _ _ _ _ => pts_nil) (fun _ _ _ _ => (pe_methK (P := P) (w := w) (K := K) (mg := mg) (base := base) (k := 3) ⟨rfl, rfl, rfl, rfl, rfl⟩ (pv 2) (hr.mono (by decide)) pass0 (pa_cons (pv 0) (pa_cons (pe_ix (ix_K (K := K) rfl) (pv 1) pe_int (fun _ _ => rfl)) pa_nil)))))
      (pss_one (ps_ret (pe_tup (pa_cons (pv 3) (pa_cons (pe_methK (P := P) (w := w) (K := K) (mg := mg) (base := base) (k := 3) ⟨rfl, rfl, rfl, rfl, rfl⟩ (pv 2) (hr.mono (by decide)) pass0 (pa_cons (pe_ix (ix_K (K := K) rfl) (pv 1) pe_int (fun _ _ => rfl)) (pa_cons (pe_ix (ix_K (K := K) rfl) (pv 1) pe_int (fun _ _ => rfl)) pa_nil))) (pa_cons (pe_tup (pa_cons (pe_ix (ix_K (K := K) rfl) (pv 5) pe_int (fun _ _ => rfl)) (pa_cons (pe_ix (ix_K (K := K) rfl) (pv 5) pe_int (fun _ _ => rfl)) (pa_cons (pe_ix (ix_K (K := K) rfl) (pv 5) pe_int (fun _ _ => rfl)) pa_nil)))) pa_nil))))))) pss_nil)))) pss_nil)
      (pss_cons (ps_set (i := 3) sc_law_entry.nd rfl (Or.inl rfl) (pe_op op_sub (pe_op op_mod (pe_op op_fdiv (pv 0) pe_int) pe_int) pe_int))
      (pss_cons (ps_set (i := 6) sc_law_entry.nd rfl (Or.inl rfl) (pe_op op_fdiv (pv 0) pe_int))
      (pss_cons (ps_if (pt_cmpR (op_eqK (K := K) rfl hr.units) (pe_op op_mod (pv 6) pe_int) pe_int (nomark _)) (pss_one (ps_set (i := 3) sc_law_entry.nd rfl (Or.inl rfl) (pe_op (op_plusK (K := K) rfl) pe_int (pe_op op_mod (pe_op op_fdiv (pv 6) pe_int) pe_int)))) pss_nil)
      (pss_cons (ps_set (i := 5) sc_law_entry.nd rfl (Or.inl rfl) (pe_tup (pa_cons (pe_callE (ok_law_set (K := K) T) (hr.mono (by decide)) pass0 rfl (pa_cons (pe_op op_fdiv (pv 6) pe_int) (pa_cons pe_int (pa_cons (pv 3) pa_nil)))) (pa_cons (pe_callE (ok_law_set (K := K) T) (hr.mono (by decide)) pass0 rfl (pa_cons (pe_op op_fdiv (pv 6) pe_int) (pa_cons pe_int (pa_cons (pv 3) pa_nil)))) (pa_cons (pe_callE (ok_law_set (K := K) T) (hr.mono (by decide)) pass0 rfl (pa_cons (pe_op op_fdiv (pv 6) pe_int) (pa_cons pe_int (pa_cons (pv 3) pa_nil)))) pa_nil)))))
      (pss_one (ps_ret (pe_tup (pa_cons (pv 3) (pa_cons (pe_callE (ok_law_set (K := K) T) (hr.mono (by decide)) pass0 rfl (pa_cons (pv 6) (pa_cons pe_int (pa_cons (pv 3) pa_nil)))) (pa_cons (pv 5) pa_nil))))))))))))), ?_⟩
    refine r_st (σ' := [some _, some _, some _, none, none, none, none]) rfl ?_
    walk_at "rd"
    refine ifInt (fun h0 => ?_) (fun h0 => ?_)
    · walk_at "rd"
      exact q .non none H (Same.refl _) rfl (fun e z => by cases z)
    walk_at "rd"
    refine ifInt (fun h1 => ?_) (fun h1 => ?_)
    · walk_at "rd"
      rename_i ta nta tb ntb
      exact q _ (some ⟨_, _, _, _, _⟩) _ (by walk_at "same") ⟨tb, rfl, ta, SqT.of upd_same, SqT.of (look_new upd_same ntb)⟩ (fun e z => by cases z; exact ⟨by decide, by decide, by decide, by decide⟩)
    walk_at "rd"
    refine ifDec (fun h4 => ?_) (fun h4 => ?_)
    rotate_left
    · have sZ : Same H H := Same.refl _
      walk_at "rd"
      refine ifInt (fun g => ?_) (fun g => ?_)
      · walk_at "rd"
        refine ⟨_, _, _, rfl, by decide, by decide, by omega, fun r1 HA n1 sa => ?_⟩
        walk_at "rd"
        refine ⟨_, _, _, rfl, by decide, by decide, by omega, fun r2 HB n2 sb => ?_⟩
        walk_at "rd"
        refine ⟨_, _, _, rfl, by decide, by decide, by omega, fun r3 HC n3 sc => ?_⟩
        walk_at "rd"
        rename_i ta nta
        refine ⟨_, _, _, rfl, by decide, by decide, by omega, fun r4 HD n4 sd => ?_⟩
        have sAll := sZ.trans (sa.trans (sb.trans (sc.trans ((same_new (o := .tup [.int r1, .int r2, .int r3]) nta).trans sd))))
        have hta := sd _ _ (upd_same (H := HC) (a := ta) (o := .tup [.int r1, .int r2, .int r3]))
        clear sZ sa sb sc sd nta
        walk_at "rd"
        rename_i tb ntb
        exact q _ (some ⟨_, r4, r1, r2, r3⟩) _ (sAll.trans (same_new ntb)) ⟨tb, rfl, ta, SqT.of upd_same, SqT.of (look_new hta ntb)⟩ (fun e z => by cases z; exact ⟨n4, n1, n2, n3⟩)
      · walk_at "rd"
        refine ⟨_, _, _, rfl, by decide, by decide, by omega, fun r1 HA n1 sa => ?_⟩
        walk_at "rd"
        refine ⟨_, _, _, rfl, by decide, by decide, by omega, fun r2 HB n2 sb => ?_⟩
        walk_at "rd"
        refine ⟨_, _, _, rfl, by decide, by decide, by omega, fun r3 HC n3 sc => ?_⟩
        walk_at "rd"
        rename_i ta nta
        refine ⟨_, _, _, rfl, by decide, by decide, by omega, fun r4 HD n4 sd => ?_⟩
        have sAll := sZ.trans (sa.trans (sb.trans (sc.trans ((same_new (o := .tup [.int r1, .int r2, .int r3]) nta).trans sd))))
        have hta := sd _ _ (upd_same (H := HC) (a := ta) (o := .tup [.int r1, .int r2, .int r3]))
        clear sZ sa sb sc sd nta
        walk_at "rd"
        rename_i tb ntb
        exact q _ (some ⟨_, r4, r1, r2, r3⟩) _ (sAll.trans (same_new ntb)) ⟨tb, rfl, ta, SqT.of upd_same, SqT.of (look_new hta ntb)⟩ (fun e z => by cases z; exact ⟨n4, n1, n2, n3⟩)
    · walk_at "rd"
      cases oe with
      | none =>
        cases hv
        have sZ : Same H H := Same.refl _
        walk_at "rd"
        refine ifInt (fun g => ?_) (fun g => ?_)
        · walk_at "rd"
          refine ⟨_, _, _, rfl, by decide, by decide, by omega, fun r1 HA n1 sa => ?_⟩
          walk_at "rd"
          refine ⟨_, _, _, rfl, by decide, by decide, by omega, fun r2 HB n2 sb => ?_⟩
          walk_at "rd"
          refine ⟨_, _, _, rfl, by decide, by decide, by omega, fun r3 HC n3 sc => ?_⟩
          walk_at "rd"
          rename_i ta nta
          refine ⟨_, _, _, rfl, by decide, by decide, by omega, fun r4 HD n4 sd => ?_⟩
          have sAll := sZ.trans (sa.trans (sb.trans (sc.trans ((same_new (o := .tup [.int r1, .int r2, .int r3]) nta).trans sd))))
          have hta := sd _ _ (upd_same (H := HC) (a := ta) (o := .tup [.int r1, .int r2, .int r3]))
          clear sZ sa sb sc sd nta
          walk_at "rd"
          rename_i tb ntb
          exact q _ (some ⟨_, r4, r1, r2, r3⟩) _ (sAll.trans (same_new ntb)) ⟨tb, rfl, ta, SqT.of upd_same, SqT.of (look_new hta ntb)⟩ (fun e z => by cases z; exact ⟨n4, n1, n2, n3⟩)
        · walk_at "rd"
          refine ⟨_, _, _, rfl, by decide, by decide, by omega, fun r1 HA n1 sa => ?_⟩
          walk_at "rd"
          refine ⟨_, _, _, rfl, by decide, by decide, by omega, fun r2 HB n2 sb => ?_⟩
          walk_at "rd"
          refine ⟨_, _, _, rfl, by decide, by decide, by omega, fun r3 HC n3 sc => ?_⟩
          walk_at "rd"
          rename_i ta nta
          refine ⟨_, _, _, rfl, by decide, by decide, by omega, fun r4 HD n4 sd => ?_⟩
          have sAll := sZ.trans (sa.trans (sb.trans (sc.trans ((same_new (o := .tup [.int r1, .int r2, .int r3]) nta).trans sd))))
          have hta := sd _ _ (upd_same (H := HC) (a := ta) (o := .tup [.int r1, .int r2, .int r3]))
          clear sZ sa sb sc sd nta
          walk_at "rd"
          rename_i tb ntb
          exact q _ (some ⟨_, r4, r1, r2, r3⟩) _ (sAll.trans (same_new ntb)) ⟨tb, rfl, ta, SqT.of upd_same, SqT.of (look_new hta ntb)⟩ (fun e z => by cases z; exact ⟨n4, n1, n2, n3⟩)
      | some e =>
        obtain ⟨pe, rfl, he⟩ := id hv
        obtain ⟨qe, h1', h2'⟩ := id he
        have enn := ho e rfl
        walk_at "rd"
        refine ifDec (fun e0 => ?_) (fun e0 => ?_)
        rotate_left
        · walk_at "rd"
          have sZ : Same H H := Same.refl _
          walk_at "rd"
          refine ifInt (fun g => ?_) (fun g => ?_)
          · walk_at "rd"
            refine ⟨_, _, _, rfl, by decide, by decide, by omega, fun r1 HA n1 sa => ?_⟩
            walk_at "rd"
            refine ⟨_, _, _, rfl, by decide, by decide, by omega, fun r2 HB n2 sb => ?_⟩
            walk_at "rd"
            refine ⟨_, _, _, rfl, by decide, by decide, by omega, fun r3 HC n3 sc => ?_⟩
            walk_at "rd"
            rename_i ta nta
            refine ⟨_, _, _, rfl, by decide, by decide, by omega, fun r4 HD n4 sd => ?_⟩
            have sAll := sZ.trans (sa.trans (sb.trans (sc.trans ((same_new (o := .tup [.int r1, .int r2, .int r3]) nta).trans sd))))
            have hta := sd _ _ (upd_same (H := HC) (a := ta) (o := .tup [.int r1, .int r2, .int r3]))
            clear sZ sa sb sc sd nta
            walk_at "rd"
            rename_i tb ntb
            exact q _ (some ⟨_, r4, r1, r2, r3⟩) _ (sAll.trans (same_new ntb)) ⟨tb, rfl, ta, SqT.of upd_same, SqT.of (look_new hta ntb)⟩ (fun e z => by cases z; exact ⟨n4, n1, n2, n3⟩)
          · walk_at "rd"
            refine ⟨_, _, _, rfl, by decide, by decide, by omega, fun r1 HA n1 sa => ?_⟩
            walk_at "rd"
            refine ⟨_, _, _, rfl, by decide, by decide, by omega, fun r2 HB n2 sb => ?_⟩
            walk_at "rd"
            refine ⟨_, _, _, rfl, by decide, by decide, by omega, fun r3 HC n3 sc => ?_⟩
            walk_at "rd"
            rename_i ta nta
            refine ⟨_, _, _, rfl, by decide, by decide, by omega, fun r4 HD n4 sd => ?_⟩
            have sAll := sZ.trans (sa.trans (sb.trans (sc.trans ((same_new (o := .tup [.int r1, .int r2, .int r3]) nta).trans sd))))
            have hta := sd _ _ (upd_same (H := HC) (a := ta) (o := .tup [.int r1, .int r2, .int r3]))
            clear sZ sa sb sc sd nta
            walk_at "rd"
            rename_i tb ntb
            exact q _ (some ⟨_, r4, r1, r2, r3⟩) _ (sAll.trans (same_new ntb)) ⟨tb, rfl, ta, SqT.of upd_same, SqT.of (look_new hta ntb)⟩ (fun e z => by cases z; exact ⟨n4, n1, n2, n3⟩)
        walk_at "rd"
        refine ifDec (fun e4 => ?_) (fun e4 => ?_)
        rotate_left
        · have sZ : Same H H := Same.refl _
          walk_at "rd"
          refine ifInt (fun g => ?_) (fun g => ?_)
          · walk_at "rd"
            refine ⟨_, _, _, rfl, by decide, by decide, by omega, fun r1 HA n1 sa => ?_⟩
            walk_at "rd"
            refine ⟨_, _, _, rfl, by decide, by decide, by omega, fun r2 HB n2 sb => ?_⟩
            walk_at "rd"
            refine ⟨_, _, _, rfl, by decide, by decide, by omega, fun r3 HC n3 sc => ?_⟩
            walk_at "rd"
            rename_i ta nta
            refine ⟨_, _, _, rfl, by decide, by decide, by omega, fun r4 HD n4 sd => ?_⟩
            have sAll := sZ.trans (sa.trans (sb.trans (sc.trans ((same_new (o := .tup [.int r1, .int r2, .int r3]) nta).trans sd))))
            have hta := sd _ _ (upd_same (H := HC) (a := ta) (o := .tup [.int r1, .int r2, .int r3]))
            clear sZ sa sb sc sd nta
            walk_at "rd"
            rename_i tb ntb
            exact q _ (some ⟨_, r4, r1, r2, r3⟩) _ (sAll.trans (same_new ntb)) ⟨tb, rfl, ta, SqT.of upd_same, SqT.of (look_new hta ntb)⟩ (fun e z => by cases z; exact ⟨n4, n1, n2, n3⟩)
          · walk_at "rd"
            refine ⟨_, _, _, rfl, by decide, by decide, by omega, fun r1 HA n1 sa => ?_⟩
            walk_at "rd"
            refine ⟨_, _, _, rfl, by decide, by decide, by omega, fun r2 HB n2 sb => ?_⟩
            walk_at "rd"
            refine ⟨_, _, _, rfl, by decide, by decide, by omega, fun r3 HC n3 sc => ?_⟩
            walk_at "rd"
            rename_i ta nta
            refine ⟨_, _, _, rfl, by decide, by decide, by omega, fun r4 HD n4 sd => ?_⟩
            have sAll := sZ.trans (sa.trans (sb.trans (sc.trans ((same_new (o := .tup [.int r1, .int r2, .int r3]) nta).trans sd))))
            have hta := sd _ _ (upd_same (H := HC) (a := ta) (o := .tup [.int r1, .int r2, .int r3]))
            clear sZ sa sb sc sd nta
            walk_at "rd"
            rename_i tb ntb
            exact q _ (some ⟨_, r4, r1, r2, r3⟩) _ (sAll.trans (same_new ntb)) ⟨tb, rfl, ta, SqT.of upd_same, SqT.of (look_new hta ntb)⟩ (fun e z => by cases z; exact ⟨n4, n1, n2, n3⟩)
        walk_at "rd"
        refine r_methV hx (flds_height _) ((me_all_height T hh).mono (by decide)) ?_
        walk_at "rd"
        refine ⟨x, e.h, rfl, ⟨dx, hx⟩, ?_⟩
        walk_at "rd"
        refine ⟨pe, e, rfl, he, fun ts nts => ?_⟩
        walk_at "rd"
        refine r_maxL (ns := e.sets) (SqL.of upd_same) (by show 0 < 4; decide) (fun mx _ => ?_)
        have sZ := same_new (o := .lst (e.sets.map V.int)) nts
        generalize upd H ts (.lst (e.sets.map V.int)) = HZ at sZ ⊢
        have hxz := sZ _ _ hx
        have h1z := SqT_same sZ h1'
        have h2z := SqT_same sZ h2'
        clear nts hx h1' h2' he hv
        walk_at "rd"
        cases hg : r.height e.h with
        | none =>
          show rNotN V.non V.non _ _
          walk_at "rd"
          refine ifInt (fun g => ?_) (fun g => ?_)
          · walk_at "rd"
            refine ⟨_, _, _, rfl, by decide, by decide, by omega, fun r1 HA n1 sa => ?_⟩
            walk_at "rd"
            refine ⟨_, _, _, rfl, by decide, by decide, by omega, fun r2 HB n2 sb => ?_⟩
            walk_at "rd"
            refine ⟨_, _, _, rfl, by decide, by decide, by omega, fun r3 HC n3 sc => ?_⟩
            walk_at "rd"
            rename_i ta nta
            refine ⟨_, _, _, rfl, by decide, by decide, by omega, fun r4 HD n4 sd => ?_⟩
            have sAll := sZ.trans (sa.trans (sb.trans (sc.trans ((same_new (o := .tup [.int r1, .int r2, .int r3]) nta).trans sd))))
            have hta := sd _ _ (upd_same (H := HC) (a := ta) (o := .tup [.int r1, .int r2, .int r3]))
            clear sZ sa sb sc sd nta
            walk_at "rd"
            rename_i tb ntb
            exact q _ (some ⟨_, r4, r1, r2, r3⟩) _ (sAll.trans (same_new ntb)) ⟨tb, rfl, ta, SqT.of upd_same, SqT.of (look_new hta ntb)⟩ (fun e z => by cases z; exact ⟨n4, n1, n2, n3⟩)
          · walk_at "rd"
            refine ⟨_, _, _, rfl, by decide, by decide, by omega, fun r1 HA n1 sa => ?_⟩
            walk_at "rd"
            refine ⟨_, _, _, rfl, by decide, by decide, by omega, fun r2 HB n2 sb => ?_⟩
            walk_at "rd"
            refine ⟨_, _, _, rfl, by decide, by decide, by omega, fun r3 HC n3 sc => ?_⟩
            walk_at "rd"
            rename_i ta nta
            refine ⟨_, _, _, rfl, by decide, by decide, by omega, fun r4 HD n4 sd => ?_⟩
            have sAll := sZ.trans (sa.trans (sb.trans (sc.trans ((same_new (o := .tup [.int r1, .int r2, .int r3]) nta).trans sd))))
            have hta := sd _ _ (upd_same (H := HC) (a := ta) (o := .tup [.int r1, .int r2, .int r3]))
            clear sZ sa sb sc sd nta
            walk_at "rd"
            rename_i tb ntb
            exact q _ (some ⟨_, r4, r1, r2, r3⟩) _ (sAll.trans (same_new ntb)) ⟨tb, rfl, ta, SqT.of upd_same, SqT.of (look_new hta ntb)⟩ (fun e z => by cases z; exact ⟨n4, n1, n2, n3⟩)
        | some z =>
          show rNotN (V.int z) V.non _ _
          walk_at "rd"
          refine ifInt (fun g1 => ?_) (fun g1 => ?_)
          rotate_left
          walk_at "rd"
          refine ifInt (fun g => ?_) (fun g => ?_)
          · walk_at "rd"
            refine ⟨_, _, _, rfl, by decide, by decide, by omega, fun r1 HA n1 sa => ?_⟩
            walk_at "rd"
            refine ⟨_, _, _, rfl, by decide, by decide, by omega, fun r2 HB n2 sb => ?_⟩
            walk_at "rd"
            refine ⟨_, _, _, rfl, by decide, by decide, by omega, fun r3 HC n3 sc => ?_⟩
            walk_at "rd"
            rename_i ta nta
            refine ⟨_, _, _, rfl, by decide, by decide, by omega, fun r4 HD n4 sd => ?_⟩
            have sAll := sZ.trans (sa.trans (sb.trans (sc.trans ((same_new (o := .tup [.int r1, .int r2, .int r3]) nta).trans sd))))
            have hta := sd _ _ (upd_same (H := HC) (a := ta) (o := .tup [.int r1, .int r2, .int r3]))
            clear sZ sa sb sc sd nta
            walk_at "rd"
            rename_i tb ntb
            exact q _ (some ⟨_, r4, r1, r2, r3⟩) _ (sAll.trans (same_new ntb)) ⟨tb, rfl, ta, SqT.of upd_same, SqT.of (look_new hta ntb)⟩ (fun e z => by cases z; exact ⟨n4, n1, n2, n3⟩)
          · walk_at "rd"
            refine ⟨_, _, _, rfl, by decide, by decide, by omega, fun r1 HA n1 sa => ?_⟩
            walk_at "rd"
            refine ⟨_, _, _, rfl, by decide, by decide, by omega, fun r2 HB n2 sb => ?_⟩
            walk_at "rd"
            refine ⟨_, _, _, rfl, by decide, by decide, by omega, fun r3 HC n3 sc => ?_⟩
            walk_at "rd"
            rename_i ta nta
            refine ⟨_, _, _, rfl, by decide, by decide, by omega, fun r4 HD n4 sd => ?_⟩
            have sAll := sZ.trans (sa.trans (sb.trans (sc.trans ((same_new (o := .tup [.int r1, .int r2, .int r3]) nta).trans sd))))
            have hta := sd _ _ (upd_same (H := HC) (a := ta) (o := .tup [.int r1, .int r2, .int r3]))
            clear sZ sa sb sc sd nta
            walk_at "rd"
            rename_i tb ntb
            exact q _ (some ⟨_, r4, r1, r2, r3⟩) _ (sAll.trans (same_new ntb)) ⟨tb, rfl, ta, SqT.of upd_same, SqT.of (look_new hta ntb)⟩ (fun e z => by cases z; exact ⟨n4, n1, n2, n3⟩)
          have hs : (r.height e.h).isSome = true := by rw [hg]; rfl
          walk_at "rd"
          refine comp_mapT (emb := V.int) (xs := [e.v4, e.v5, e.v6]) (fun s => .int ((r.keep s.toNat e.h : Nat) : Int)) (fun σ => ∃ v, σ = [v, some (.ref pe), some (.ref x)]) h2z (by show 3 ≤ sizeLine; decide) ⟨_, rfl⟩ ?_ ?_
          · rintro i y ys σ H1 hy cc ss ⟨v1, rfl⟩
            have y0 : 0 ≤ y := by
              match i, hy with
              | 0, hy => cases hy; exact enn.2.1
              | 1, hy => cases hy; exact enn.2.2.1
              | 2, hy => cases hy; exact enn.2.2.2
              | i + 3, hy => simp at hy
            have hx1 := ss _ _ hxz
            have h11 := SqT_same ss h1z
            walk_at "rd"
            refine r_methV hx1 (flds_keeps _) ((me_all_keeps T hh).mono (by decide)) ?_
            walk_at "rd"
            refine ⟨x, y.toNat, e.h, by rw [Int.toNat_of_nonneg y0], ⟨dx, hx1⟩, ok, e0, e4, hs, ?_⟩
            exact cc.next hy rfl (by walk_at "same") ⟨_, rfl⟩
          intro H3 s3
          have hx3 := s3 _ _ hxz
          have h13 := SqT_same s3 h1z
          have s03 := sZ.trans s3
          clear s3 sZ hxz h1z h2z
          rw [show List.map (fun s : Int => V.int ((r.keep s.toNat e.h : Nat) : Int)) [e.v4, e.v5, e.v6] = [.int ((r.keep e.v4.toNat e.h : Nat) : Int), .int ((r.keep e.v5.toNat e.h : Nat) : Int), .int ((r.keep e.v6.toNat e.h : Nat) : Int)] from rfl]
          walk_at "rd"
          rename_i lk nlk
          refine r_methV (look_new hx3 nlk) (flds_keeps _) ((me_all_keeps T hh).mono (by decide)) ?_
          walk_at "rd"
          refine ⟨x, e.b.toNat, e.h, by rw [Int.toNat_of_nonneg enn.1], ⟨dx, look_new hx3 nlk⟩, ok, e0, e4, hs, ?_⟩
          walk_at "rd"
          rename_i ta nta tb ntb
          exact q _ (some ⟨_, _, _, _, _⟩) _ (s03.trans ((same_new nlk).trans ((same_new nta).trans (same_new ntb)))) ⟨tb, rfl, ta, SqT.of upd_same, SqT.of (look_new upd_same ntb)⟩ (fun e' z' => by cases z'; exact ⟨Int.natCast_nonneg _, Int.natCast_nonneg _, Int.natCast_nonneg _, Int.natCast_nonneg _⟩)
end
section
variable {P : Program} {w : World} {K : PySem.W.Frag} {mg : Str → Option Value} {base : Heap} {a : Adr}
set_option maxHeartbeats 4000000 in
theorem ok_law_next (T : Txt K mg a) : FnE P w K mg base CX0 4 "_law_next" (spNext31 K a) := by
  refine fnE_of (sp := (spNext31 K a)) 3 T.fn_law_next sc_law_next (fun vs H Q E h => ?_) (fun f cdv A outer s H vs Q E hr h => ?_)
  · obtain ⟨x, p, l, c, r, e, ev, es, rfl, _⟩ := h
    rfl
  · obtain ⟨x, p, l, c, r, e, ev, es, rfl, ⟨dx, hx⟩, ok, hh, he, nn, e0, e4, hs, hl, hev, hnn, q⟩ := h
    obtain ⟨qe, h1, h2⟩ := id he
    have hel := hev.1
    unfold wayC at q
    refine ⟨_, (pss_cons (ps_if (PW.pt (pw_or (pt_cmpR op_lt (pv 3) pe_int (nomark _)) (pw_or1 (pt_cmpR op_ge (pv 3) (pe_callB (call_lenK (K := K) rfl) rfl T.z_len b_len (pa_cons (pv 2) pa_nil)) (nomark _))))) (pss_one (ps_ret pe_str)) pss_nil)
      (pss_cons (ps_if (pt_cmpR op_isNA (pe_ix (ix_K (K := K) rfl) (pv 2) (pv 3) (fun _ _ => rfl)) pe_non (nomark _)) (pss_one (ps_ret pe_str)) pss_nil)
      (pss_cons (ps_if (pt_cmpR (op_neK (K := K) rfl hr.units) (pe_ix (ix_K (K := K) rfl) (pe_ix (ix_K (K := K) rfl) (pv 2) (pv 3) (fun _ _ => rfl)) pe_int (fun _ _ => rfl)) (pe_methK (P := P) (w := w) (K := K) (mg := mg) (base := base) (k := 1) ⟨rfl, rfl, rfl, rfl, rfl⟩ (pv 0) (hr.mono (by decide)) pass0 (pa_cons (pe_ix (ix_K (K := K) rfl) (pv 1) pe_int (fun _ _ => rfl)) pa_nil)) (nomark _)) (pss_one (ps_ret pe_str)) pss_nil)
      (pss_cons (ps_for PassesOwn.never rfl (pi_range1 rfl T.z_range (pa_cons pe_int pa_nil)) (pg_name (i := 4) sc_law_next.nd rfl (Or.inl rfl)) (pss_cons (ps_set (i := 5) sc_law_next.nd rfl (Or.inl rfl) (pe_methK (P := P) (w := w) (K := K) (mg := mg) (base := base) (k := 3) ⟨rfl, rfl, rfl, rfl, rfl⟩ (pv 0) (hr.mono (by decide)) pass0 (pa_cons (pe_ix (ix_K (K := K) rfl) (pe_callE (ok_law_sets (K := K) T) (hr.mono (by decide)) pass0 rfl (pa_cons (pv 1) pa_nil)) (pv 4) (fun _ _ => rfl)) (pa_cons (pe_ix (ix_K (K := K) rfl) (pv 1) pe_int (fun _ _ => rfl)) pa_nil))))
      (pss_one (ps_if (pt_cmpR (op_neK (K := K) rfl hr.units) (pe_op op_or (pe_ix (ix_K (K := K) rfl) (pe_callE (ok_law_sets (K := K) T) (hr.mono (by decide)) pass0 rfl (pa_cons (pe_ix (ix_K (K := K) rfl) (pv 2) (pv 3) (fun _ _ => rfl)) pa_nil)) (pv 4) (fun _ _ => rfl)) (pv 5)) (pv 5) (nomark _)) (pss_one (ps_ret (pe_ix (ix_K (K := K) rfl) (pe_lst (pa_cons pe_str (pa_cons pe_int (pa_cons pe_int (pa_cons pe_int pa_nil))))) (pv 4) (fun _ _ => rfl)))) pss_nil))))
      (pss_one (ps_ret pe_non)))))), ?_⟩
    refine r_st (σ' := [some _, some _, some _, some _, none, none]) rfl ?_
    walk_at "rd"
    refine ifDec (fun ha => ?_) (fun ha => ?_)
    · walk_at "rd"
      rw [if_neg (show ¬ (0 ≤ c ∧ c < (es.length : Int)) from fun z => by omega)] at q
      exact q _ (Same.refl _)
    walk_at "rd"
    refine ifDec (fun hb => ?_) (fun hb => ?_)
    · walk_at "rd"
      rw [if_neg (show ¬ (0 ≤ c ∧ c < (es.length : Int)) from fun z => by omega)] at q
      exact q _ (Same.refl _)
    have hc : 0 ≤ c ∧ c < (es.length : Int) := ⟨by omega, by omega⟩
    rw [if_pos hc] at q
    obtain ⟨v, oe, hat, hoe, hmem, hv⟩ := hev.at hc.1 hc.2
    rw [hoe, Option.join_some] at q
    walk_at "rd"
    cases oe with
    | none =>
      cases hv
      walk_at "rd"
      exact q _ (Same.refl _)
    | some t =>
      obtain ⟨pt, rfl, qt, t1, t2⟩ := id hv
      have tn := hnn t hmem
      walk_at "rd"
      refine r_methV hx (flds_height _) ((me_all_height T hh).mono (by decide)) ?_
      walk_at "rd"
      refine ⟨x, e.h, rfl, ⟨dx, hx⟩, ?_⟩
      obtain ⟨z, hg⟩ := Option.isSome_iff_exists.mp hs
      have q : ∀ H', Same H H' → Q (oV (if r.height e.h = some t.h then lackW r e t else some .height)) H' := q
      rw [hg] at q ⊢
      show rNeA K (V.int t.h) (V.int z) _ _
      walk_at "rd"
      refine ifIntN (fun hz => ?_) (fun hz => ?_)
      · rw [if_neg (fun y => hz (Option.some.inj y).symm)] at q
        walk_at "rd"
        exact q _ (Same.refl _)
      rw [if_pos (by rw [hz])] at q
      unfold lackW at q
      walk_at "rd"
      refine for_range (fun i σ H2 => (∃ u1 u2, σ = [some (.ref x), some (.ref p), some (.ref l), some (.int c), u1, u2]) ∧ Same H H2 ∧ (0 < i → Bt.wo t.b.toNat (r.keep e.b.toNat e.h) = 0) ∧ (1 < i → Bt.wo t.v4.toNat (r.keep e.v4.toNat e.h) = 0) ∧ (2 < i → Bt.wo t.v5.toNat (r.keep e.v5.toNat e.h) = 0) ∧ (3 < i → Bt.wo t.v6.toNat (r.keep e.v6.toNat e.h) = 0)) ⟨⟨_, _, rfl⟩, Same.refl _, (fun z => absurd z (by decide)), (fun z => absurd z (by decide)), (fun z => absurd z (by decide)), (fun z => absurd z (by decide))⟩ ?_ ?_
      · rintro i σ H2 hi ⟨⟨u1, u2, rfl⟩, s2, z0, z1, z2, z3⟩
        have hx2 := s2 _ _ hx
        have he2 := he.same s2
        have h12 := SqT_same s2 h1
        have hl2 := s2 _ _ hl
        have ht2 : EntAt K H2 pt t := EntAt.same ⟨qt, t1, t2⟩ s2
        clear t1 t2 h1 h2 hl hev hv he hx
        match i, hi with
        | 0, _ =>
          have eb : Builtin.bitOr t.b ((r.keep e.b.toNat e.h : Nat) : Int) = ((t.b.toNat ||| r.keep e.b.toNat e.h : Nat) : Int) := by rw [← bitOr_nat, Int.toNat_of_nonneg tn.1]
          have a1 : atI (e.sets.map V.int) (0 + ((0 : Nat) : Int)) = some (.int e.b) := rfl
          have a2 : atI (t.sets.map V.int) (0 + ((0 : Nat) : Int)) = some (.int t.b) := rfl
          walk_at "rd"
          refine r_methV hx2 (flds_keeps _) ((me_all_keeps T hh).mono (by decide)) ?_
          walk_at "rd"
          refine ⟨p, e, rfl, he2, fun ta nta => ?_⟩
          walk_at "rd"
          refine ⟨x, e.b.toNat, e.h, by rw [Int.toNat_of_nonneg nn.1], ⟨dx, look_new hx2 nta⟩, ok, e0, e4, hs, ?_⟩
          walk_at "rd"
          refine ⟨pt, t, rfl, ht2.same (same_new nta), fun tb ntb => ?_⟩
          walk_at "rd"
          rw [eb]
          refine ifIntN (fun hw => ?_) (fun hw => ?_)
          · have hw2 : Bt.wo t.b.toNat (r.keep e.b.toNat e.h) ≠ 0 := fun z => hw (by rw [(or_wo _ _).mpr z])
            walk_at "rd"
            rename_i lz nlz
            rw [if_pos hw2] at q
            exact q _ (s2.trans ((same_new nta).trans ((same_new ntb).trans (same_new nlz))))
          · have hw2 : Bt.wo t.b.toNat (r.keep e.b.toNat e.h) = 0 := (or_wo _ _).mp (by omega)
            walk_at "rd"
            exact ⟨⟨_, _, rfl⟩, s2.trans ((same_new nta).trans (same_new ntb)), (fun _ => hw2), (fun z => absurd z (by decide)), (fun z => absurd z (by decide)), (fun z => absurd z (by decide))⟩
        | 1, _ =>
          have eb : Builtin.bitOr t.v4 ((r.keep e.v4.toNat e.h : Nat) : Int) = ((t.v4.toNat ||| r.keep e.v4.toNat e.h : Nat) : Int) := by rw [← bitOr_nat, Int.toNat_of_nonneg tn.2.1]
          have a1 : atI (e.sets.map V.int) (0 + ((1 : Nat) : Int)) = some (.int e.v4) := rfl
          have a2 : atI (t.sets.map V.int) (0 + ((1 : Nat) : Int)) = some (.int t.v4) := rfl
          walk_at "rd"
          refine r_methV hx2 (flds_keeps _) ((me_all_keeps T hh).mono (by decide)) ?_
          walk_at "rd"
          refine ⟨p, e, rfl, he2, fun ta nta => ?_⟩
          walk_at "rd"
          refine ⟨x, e.v4.toNat, e.h, by rw [Int.toNat_of_nonneg nn.2.1], ⟨dx, look_new hx2 nta⟩, ok, e0, e4, hs, ?_⟩
          walk_at "rd"
          refine ⟨pt, t, rfl, ht2.same (same_new nta), fun tb ntb => ?_⟩
          walk_at "rd"
          rw [eb]
          refine ifIntN (fun hw => ?_) (fun hw => ?_)
          · have hw2 : Bt.wo t.v4.toNat (r.keep e.v4.toNat e.h) ≠ 0 := fun z => hw (by rw [(or_wo _ _).mpr z])
            walk_at "rd"
            rename_i lz nlz
            rw [if_neg (fun z => z (z0 (by decide))), if_pos hw2] at q
            exact q _ (s2.trans ((same_new nta).trans ((same_new ntb).trans (same_new nlz))))
          · have hw2 : Bt.wo t.v4.toNat (r.keep e.v4.toNat e.h) = 0 := (or_wo _ _).mp (by omega)
            walk_at "rd"
            exact ⟨⟨_, _, rfl⟩, s2.trans ((same_new nta).trans (same_new ntb)), (fun _ => z0 (by decide)), (fun _ => hw2), (fun z => absurd z (by decide)), (fun z => absurd z (by decide))⟩
        | 2, _ =>
          have eb : Builtin.bitOr t.v5 ((r.keep e.v5.toNat e.h : Nat) : Int) = ((t.v5.toNat ||| r.keep e.v5.toNat e.h : Nat) : Int) := by rw [← bitOr_nat, Int.toNat_of_nonneg tn.2.2.1]
          have a1 : atI (e.sets.map V.int) (0 + ((2 : Nat) : Int)) = some (.int e.v5) := rfl
          have a2 : atI (t.sets.map V.int) (0 + ((2 : Nat) : Int)) = some (.int t.v5) := rfl
          walk_at "rd"
          refine r_methV hx2 (flds_keeps _) ((me_all_keeps T hh).mono (by decide)) ?_
          walk_at "rd"
          refine ⟨p, e, rfl, he2, fun ta nta => ?_⟩
          walk_at "rd"
          refine ⟨x, e.v5.toNat, e.h, by rw [Int.toNat_of_nonneg nn.2.2.1], ⟨dx, look_new hx2 nta⟩, ok, e0, e4, hs, ?_⟩
          walk_at "rd"
          refine ⟨pt, t, rfl, ht2.same (same_new nta), fun tb ntb => ?_⟩
          walk_at "rd"
          rw [eb]
          refine ifIntN (fun hw => ?_) (fun hw => ?_)
          · have hw2 : Bt.wo t.v5.toNat (r.keep e.v5.toNat e.h) ≠ 0 := fun z => hw (by rw [(or_wo _ _).mpr z])
            walk_at "rd"
            rename_i lz nlz
            rw [if_neg (fun z => z (z0 (by decide))), if_neg (fun z => z (z1 (by decide))), if_pos hw2] at q
            exact q _ (s2.trans ((same_new nta).trans ((same_new ntb).trans (same_new nlz))))
          · have hw2 : Bt.wo t.v5.toNat (r.keep e.v5.toNat e.h) = 0 := (or_wo _ _).mp (by omega)
            walk_at "rd"
            exact ⟨⟨_, _, rfl⟩, s2.trans ((same_new nta).trans (same_new ntb)), (fun _ => z0 (by decide)), (fun _ => z1 (by decide)), (fun _ => hw2), (fun z => absurd z (by decide))⟩
        | 3, _ =>
          have eb : Builtin.bitOr t.v6 ((r.keep e.v6.toNat e.h : Nat) : Int) = ((t.v6.toNat ||| r.keep e.v6.toNat e.h : Nat) : Int) := by rw [← bitOr_nat, Int.toNat_of_nonneg tn.2.2.2]
          have a1 : atI (e.sets.map V.int) (0 + ((3 : Nat) : Int)) = some (.int e.v6) := rfl
          have a2 : atI (t.sets.map V.int) (0 + ((3 : Nat) : Int)) = some (.int t.v6) := rfl
          walk_at "rd"
          refine r_methV hx2 (flds_keeps _) ((me_all_keeps T hh).mono (by decide)) ?_
          walk_at "rd"
          refine ⟨p, e, rfl, he2, fun ta nta => ?_⟩
          walk_at "rd"
          refine ⟨x, e.v6.toNat, e.h, by rw [Int.toNat_of_nonneg nn.2.2.2], ⟨dx, look_new hx2 nta⟩, ok, e0, e4, hs, ?_⟩
          walk_at "rd"
          refine ⟨pt, t, rfl, ht2.same (same_new nta), fun tb ntb => ?_⟩
          walk_at "rd"
          rw [eb]
          refine ifIntN (fun hw => ?_) (fun hw => ?_)
          · have hw2 : Bt.wo t.v6.toNat (r.keep e.v6.toNat e.h) ≠ 0 := fun z => hw (by rw [(or_wo _ _).mpr z])
            walk_at "rd"
            rename_i lz nlz
            rw [if_neg (fun z => z (z0 (by decide))), if_neg (fun z => z (z1 (by decide))), if_neg (fun z => z (z2 (by decide))), if_pos hw2] at q
            exact q _ (s2.trans ((same_new nta).trans ((same_new ntb).trans (same_new nlz))))
          · have hw2 : Bt.wo t.v6.toNat (r.keep e.v6.toNat e.h) = 0 := (or_wo _ _).mp (by omega)
            walk_at "rd"
            exact ⟨⟨_, _, rfl⟩, s2.trans ((same_new nta).trans (same_new ntb)), (fun _ => z0 (by decide)), (fun _ => z1 (by decide)), (fun _ => z2 (by decide)), (fun _ => hw2)⟩
      · rintro σ H2 ⟨⟨u1, u2, rfl⟩, s2, z0, z1, z2, z3⟩
        have z0 := z0 (by decide)
        have z1 := z1 (by decide)
        have z2 := z2 (by decide)
        have z3 := z3 (by decide)
        rw [if_neg (fun z => z z0), if_neg (fun z => z z1), if_neg (fun z => z z2), if_neg (fun z => z z3)] at q
        walk_at "rd"
        exact q _ s2
end
section
variable {P : Program} {w : World} {K : PySem.W.Frag} {mg : Str → Option Value} {base : Heap} {a : Adr}
local macro_rules | `(tactic| walk_at "rk") => `(tactic| repeat (first | walk_at "r1" | walk_at "r3" | walk_at "cond" | walk_at "calls" | walk_at "mine" | ((with_reducible refine' r_eqS ?h ?_); (case h => rfl)) | ((with_reducible refine' r_neS ?h ?_); (case h => rfl)) | ((with_reducible refine' r_fldV ?h ?c ?n ?l ?_); (case h => walk_at "hlk"); (case c => walk_at "cls"); (case n => walk_at "noat"); (case l => walk_at "lk"))))
theorem r_tab {K : PySem.W.Frag} {C pe x dx : Addr} {lv : V} {xs : List V} {kvs : List (Key × V)} {H : Hp} {R : VK} {E : XK} (hx : H x = none) (hdx : H dx = none) (h1 : SqL K H pe xs) (h2 : (lv = .non ∧ kvs = []) ∨ ∃ pd, lv = .ref pd ∧ H pd = some (.dK kvs))
    (q : ∀ l d H', Same H H' → H l = none → H d = none → l ≠ d → x ≠ l → x ≠ d → H' x = some (.ins C dx (putF "landings" (.ref d) (putF "entries" (.ref l) []))) → H' l = some (.lst xs) → H' d = some (.dK kvs) → R .non H') :
    spTab K C [.ref x, .ref pe, lv] (upd (upd H dx (.own x)) x (.ins C dx [])) R E := by
  have s1 : Same H (upd (upd H dx (.own x)) x (.ins C dx [])) := fun b o e => by rw [upd_ne (ne_of_none e hx), upd_ne (ne_of_none e hdx)]; exact e
  refine ⟨x, dx, pe, lv, xs, kvs, rfl, upd_same, Same.seq s1 h1, ?_, fun l d H' nl nd nld kp hx' hl' hd' => ?_⟩
  · rcases h2 with h2 | ⟨pd, e, h2⟩
    · exact .inl h2
    · exact .inr ⟨pd, e, s1 _ _ h2⟩
  · have nl1 := none_upd nl
    have nd1 := none_upd nd
    exact q l d H' (fun b o e => kp b o (s1 b o e) (ne_of_none e hx)) (none_upd nl1.1).1 (none_upd nd1.1).1 nld nl1.2.symm nd1.2.symm hx' hl' hd'
theorem ls_putN {ls : List (Int × Int)} {c r : Int} (h : (ls.map (·.1)).Nodup) : ∃ ls', putK (landKV ls) (.inl c) (.int r) = landKV ls' ∧ (ls'.map (·.1)).Nodup ∧ ls'.length ≤ ls.length + 1 := by
  by_cases hm : c ∈ ls.map (·.1)
  · refine ⟨ls.map fun p => if p.1 = c then (p.1, r) else p, ?_, ?_, by rw [List.length_map]; omega⟩
    · unfold putK
      rw [valV_any]
      obtain ⟨p, hp, rfl⟩ := List.mem_map.mp hm
      rw [(land_val h p hp).1, if_pos (show (some (V.int p.2)).isSome = true from rfl)]
      unfold landKV
      rw [List.map_map, List.map_map]
      refine List.map_congr_left fun q _ => ?_
      show (if (Sum.inl q.1 : Key) = Sum.inl p.1 then ((Sum.inl q.1 : Key), V.int r) else (Sum.inl q.1, V.int q.2)) = (Sum.inl (if q.1 = p.1 then (q.1, r) else q).1, V.int (if q.1 = p.1 then (q.1, r) else q).2)
      by_cases e : q.1 = p.1
      · rw [if_pos (by rw [e]), if_pos e]
      · rw [if_neg (fun z => e (Sum.inl.inj z)), if_neg e]
    · rw [List.map_map, show ((fun x : Int × Int => x.1) ∘ fun p : Int × Int => if p.1 = c then (p.1, r) else p) = fun p => p.1 from funext fun p => by
        show (if p.1 = c then (p.1, r) else p).1 = p.1
        split <;> rfl]
      exact h
  · refine ⟨ls ++ [(c, r)], land_put (land_none hm), ?_, by rw [List.length_append, List.length_singleton]; omega⟩
    rw [List.map_append, List.nodup_append]
    refine ⟨h, by simp, fun x hx y hy z => ?_⟩
    have : y = c := by simpa using hy
    rw [z, this] at hx
    exact hm hx

theorem law_tail {K : PySem.W.Frag} {mg : Str → Option Value} {a : Adr} (T : Txt K mg a) {Q : VK} {a0 lc le ld li : Addr} {ns : List Int} {m : Int} {u : Option V} {H4 : Hp} {prs : List Addr} {rs : List Rw} {ev4 : List V} {es4 : List (Option Ent)}
    (h63 : ns.length ≤ 63) (q : ∀ (H' : Hp), Q (V.bl true) H') (m0 : 0 ≤ m) (m8 : m ≤ 8) (hl : prs.length = m.toNat) (hok : ∀ (r : Rw), r ∈ rs → r.ok ∧ r.here) (hrl : prs.length = rs.length)
    (hlc4 : H4 lc = some (HO.lst (List.map V.ref prs))) (hle4 : H4 le = some (HO.lst ev4)) (hev4 : EntVs K H4 ev4 es4) (hno4 : ∀ (o : Option Ent), o ∈ es4 → EntO o) (hn4 : es4.length ≤ 9) (hr4 : RowsAt a H4 prs rs)
    (nld : H4 ld = none) (nli : upd H4 ld (HO.dK []) li = none) :
    ForW (Itl K li) (gName 6)
    (sDPut (tVar 5)
      (tOp (rI0 fun i j => V.int (i - j))
        (tOp (rI (fun x j => 0 < j) fun i j => V.int (i % j)) (tVar 6) (tOp (rPlus K) (tVar 1) (tC (V.int 2))))
        (tC (V.int 1)))
      (tOp (rI0 fun i j => V.int (i - j))
        (tOp (rI (fun x j => 0 < j) fun i j => V.int (i % j))
          (tOp (rI CDiv fun i j => V.int (i / j)) (tVar 6) (tC (V.int 11))) (tOp (rPlus K) (tVar 1) (tC (V.int 2))))
        (tC (V.int 1))))
    {
      nx :=
        tSeq
          (tIfS
            (tTest
              (tOp (rNeA K) (tC (V.ref a.G_START))
                (tTup
                  (tCons (tC (V.int 0))
                    (tCons (tC (V.int 128))
                      (tCons (tTup (tCons (tC (V.int 16)) (tCons (tC (V.int 32)) (tCons (tC (V.int 64)) tNil))))
                        tNil))))))
            (tRet (tC (V.bl false))) tNext)
          (tSeq
            (tAsg
              (tCallE (spCheck K a) E0
                (tCons (tCB (rLst K) (tCons (tVar 2) tNil))
                  (tCons (tMakeE a.C_Table (spTab K a.C_Table) E0 (tCons (tVar 3) (tCons (tVar 5) tNil))) tNil)))
              (gName 7))
            (tRet
              (tAndV (tCallE spTold31 E0 (tCons (tVar 7) tNil))
                (tOp (rEqA K) (tVar 7)
                  (tCallE (spDue31 K a) E0 (tCons (tVar 2) (tCons (tVar 3) (tCons (tVar 5) tNil))))))))
          { nx := fun x H' => Q V.non H', rt := Q },
      rt := Q }
    [some (V.ref a0), some (V.int m), some (V.ref lc), some (V.ref le), u, some (V.ref ld), none, none]
    (upd (upd H4 ld (HO.dK [])) li (HO.lst (List.map V.int (cutI ns (some 2) (some (2 + cellAt ns 1 / 3 % 4)))))) := by
  have hcl : (cutI ns (some 2) (some (2 + cellAt ns 1 / 3 % 4))).length ≤ 63 := Nat.le_trans (cutI_len _ _ _) h63
  generalize cutI ns (some 2) (some (2 + cellAt ns 1 / 3 % 4)) = cs at hcl ⊢
  have hel := hev4.1
  refine for_list (K := K) (a := li) (xs := cs.map V.int) (fun i σ H5 => (∃ u6, σ = [some (.ref a0), some (.int m), some (.ref lc), some (.ref le), u, some (.ref ld), u6, none]) ∧ Same H4 H5 ∧ H5 li = some (.lst (cs.map V.int)) ∧ ∃ ls : List (Int × Int), H5 ld = some (.dK (landKV ls)) ∧ (ls.map (·.1)).Nodup ∧ ls.length ≤ i) ⟨⟨_, rfl⟩, (same_new nld).trans (same_new nli), upd_same, [], look_new upd_same nli, List.nodup_nil, Nat.le_refl _⟩ (fun i σ H5 _ ⟨_, _, h5, _⟩ => SqL.of h5) ?_ ?_
  · rintro i v σ H5 hv ⟨⟨u6, rfl⟩, s5, hli5, ls, hld5, hnd, hll⟩
    obtain ⟨x, hx, rfl⟩ : ∃ n, cs[i]? = some n ∧ v = .int n := by
      rw [List.getElem?_map] at hv
      obtain ⟨p, hp, e⟩ := Option.map_eq_some_iff.mp hv
      exact ⟨p, hp, e.symm⟩
    have hi : i < cs.length := (List.getElem?_eq_some_iff.mp hx).1
    have hkl : (landKV ls).length = ls.length := by unfold landKV; rw [List.length_map]
    have nil' : li ≠ ld := fun z => by rw [z, hld5] at hli5; cases hli5
    walk_at "rk"
    obtain ⟨ls', g1, g2, g3⟩ := ls_putN (c := x % (m + 2) - 1) (r := x / 11 % (m + 2) - 1) hnd
    rw [g1]
    exact ⟨⟨_, rfl⟩, fun b o e => by rw [upd_ne (ne_of_none e nld)]; exact s5 b o e, by rw [upd_ne nil']; exact hli5, ls', upd_same, g2, by omega⟩
  · rintro σ H5 ⟨⟨u6, rfl⟩, s5, hli5, ls, hld5, hnd, hll⟩
    rw [List.length_map] at hll
    have hlc5 := s5 _ _ hlc4
    have hle5 := s5 _ _ hle4
    have hr5 := hr4.same s5
    have hev5 := hev4.same s5
    clear s5 hlc4 hle4 hr4 hev4 nld nli hli5
    obtain ⟨qs, st1, st2⟩ := T.t_START
    have E' : Ents rs es4 := ⟨hok, fun t ht => hno4 _ ht t rfl, by omega, by omega⟩
    walk_at "rk"
    rename_i ta nta tb ntb
    refine r_neE stE stE (start_dp (st1 _) (st2 _)) (start_dp (SqT.of upd_same) (SqT.of (look_new upd_same ntb))) ?_
    have s6 : Same H5 (upd (upd H5 ta (.tup [.int 16, .int 32, .int 64])) tb (.tup [.int 0, .int 128, .ref ta])) := (same_new nta).trans (same_new ntb)
    generalize (upd (upd H5 ta (.tup [.int 16, .int 32, .int 64])) tb (.tup [.int 0, .int 128, .ref ta])) = H6 at s6 ⊢
    rw [show (!eqE stE stE) = false from rfl]
    have hlc6 := s6 _ _ hlc5
    have hle6 := s6 _ _ hle5
    have hld6 := s6 _ _ hld5
    have hr6 := hr5.same s6
    have hev6 := hev5.same s6
    clear s6 nta ntb hlc5 hle5 hld5 hr5 hev5
    walk_at "rk"
    refine r_listL (SqL.of hlc6) fun lc2 nlc2 => ?_
    have s7 := same_new (o := .lst (prs.map V.ref)) nlc2
    have hlc27 : (upd H6 lc2 (.lst (prs.map V.ref))) lc2 = some (.lst (prs.map V.ref)) := upd_same
    generalize (upd H6 lc2 (.lst (prs.map V.ref))) = H7 at s7 hlc27 ⊢
    have hlc7 := s7 _ _ hlc6
    have hle7 := s7 _ _ hle6
    have hld7 := s7 _ _ hld6
    have hr7 := hr6.same s7
    have hev7 := hev6.same s7
    clear s7 nlc2 hlc6 hle6 hld6 hr6 hev6
    walk_at "rk"
    intro xt dxt nxt ndxt nne
    refine' r_tab (kvs := landKV ls) (xs := ev4) nxt ndxt ?h1 ?h2 ?q
    (case h1 => exact SqL.of hle7)
    (case h2 => exact .inr ⟨ld, rfl, hld7⟩)
    (case q =>
      intro l8 d8 H8 s8 nl8 nd8 n12 nxl nxd hxt hl8 hd8
      refine ⟨rfl, ?_⟩
      have hlc8 := s8 _ _ hlc7
      have hle8 := s8 _ _ hle7
      have hld8 := s8 _ _ hld7
      have hlc28 := s8 _ _ hlc27
      have hr8 := hr7.same s8
      have hev8 := hev7.same s8
      clear s8 nl8 nd8 n12 nxl nxd nxt ndxt nne hlc7 hle7 hld7 hlc27 hr7 hev7
      walk_at "rk"
      refine ⟨lc2, xt, prs, rs, ev4, es4, ls, rfl, hlc28, hr8, ⟨dxt, l8, d8, hxt, hl8, hd8⟩, hev8, E', hnd, by omega, fun p us ks H9 s9 hp hks hcm => ?_⟩
      have hlc9 := s9 _ _ hlc8
      have hle9 := s9 _ _ hle8
      have hld9 := s9 _ _ hld8
      have hr9 := hr8.same s9
      have hev9 := hev8.same s9
      clear s9 hlc8 hle8 hld8 hlc28 hr8 hev8 hxt hl8 hd8
      walk_at "rk"
      refine ⟨p, us, _, rfl, hp, hcm, fun HA sA => ?_⟩
      have hlcA := sA _ _ hlc9
      have hleA := sA _ _ hle9
      have hldA := sA _ _ hld9
      have hrA := hr9.same sA
      have hevA := hev9.same sA
      have hpA := sA _ _ hp
      have hcmA := hcm.same sA
      clear sA hlc9 hle9 hld9 hr9 hev9 hp hcm
      walk_at "rk"
      refine ⟨lc, le, ld, prs, rs, ev4, es4, ls, rfl, hlcA, hrA, hleA, hevA, hldA, E', hnd, by omega, fun p' us' ks' HB sB hp' hks' hcm' => ?_⟩
      have hpB := sB _ _ hpA
      have hcmB := hcmA.same sB
      have hck : checkC rs es4 ls ks' = checkC rs es4 ls ks := by
        by_cases h : es4.length = rs.length
        · rw [sorted_eq ((hks' h).1.trans (hks h).1.symm) (hks' h).2 (hks h).2]
        · unfold checkC; rw [if_neg h, if_neg h]
      rw [hck] at hcm'
      refine r_eqT (.list ((checkC rs es4 ls ks).map cmD)) (dp_lst (SqL.of hpB) hcmB.dp) (dp_lst (SqL.of hp') hcm'.dp) (shaped_cms _) ?_
      exact q _)
end
section
variable {P : Program} {w : World} {K : PySem.W.Frag} {mg : Str → Option Value} {base : Heap} {a : Adr}
def OmV (H : Hp) (i : Int) (v : V) (o : Int × Option Wt) : Prop := ∃ q, v = .ref q ∧ H q = some (.tup [.int i, .int o.1, oV o.2])
def OmVs (H : Hp) (i : Int) (vs : List V) (os : List (Int × Option Wt)) : Prop := vs.length = os.length ∧ ∀ (k : Nat) (o : Int × Option Wt), os[k]? = some o → ∃ v, vs[k]? = some v ∧ OmV H i v o
theorem OmVs.to {H H' : Hp} {i : Int} {vs : List V} {os : List (Int × Option Wt)} (h : OmVs H i vs os) (s : ∀ b xs, H b = some (.tup xs) → H' b = some (.tup xs)) : OmVs H' i vs os := ⟨h.1, fun k o e => let ⟨v, e1, q, e2, e3⟩ := h.2 k o e; ⟨v, e1, q, e2, s _ _ e3⟩⟩
theorem OmVs.same {H H' : Hp} {i : Int} {vs : List V} {os : List (Int × Option Wt)} (h : OmVs H i vs os) (s : Same H H') : OmVs H' i vs os := h.to fun _ _ e => s _ _ e
theorem OmVs.nil {H : Hp} {i : Int} : OmVs H i [] [] := ⟨rfl, fun i c e => by simp at e⟩
theorem OmVs.app {H : Hp} {i : Int} {vs us : List V} {cs ds : List (Int × Option Wt)} (h : OmVs H i vs cs) (k : OmVs H i us ds) : OmVs H i (vs ++ us) (cs ++ ds) := by
  refine ⟨by rw [List.length_append, List.length_append, h.1, k.1], fun j o e => ?_⟩
  by_cases hi : j < cs.length
  · rw [List.getElem?_append_left hi] at e
    obtain ⟨u, e1, e2⟩ := h.2 j o e
    exact ⟨u, by rw [List.getElem?_append_left (by rw [h.1]; exact hi)]; exact e1, e2⟩
  · rw [List.getElem?_append_right (by omega)] at e
    obtain ⟨u, e1, e2⟩ := k.2 _ o e
    exact ⟨u, by rw [List.getElem?_append_right (by rw [h.1]; omega), h.1]; exact e1, e2⟩
theorem OmVs.one {H : Hp} {i : Int} {v : V} {o : Int × Option Wt} (h : OmV H i v o) : OmVs H i [v] [o] := ⟨rfl, fun k c' e => by
  cases k with
  | zero => simp at e; subst e; exact ⟨v, rfl, h⟩
  | succ k => simp at e⟩
theorem ownC_none {r : Rw} {e : Ent} (h : ownC r e = none) : 0 ≤ e.h ∧ e.h ≤ 4000 ∧ (r.height e.h).isSome = true := by
  unfold ownC at h
  split at h
  · cases h
  · rename_i hw
    unfold wrongE at hw
    simp only [Bool.not_eq_true, Bool.or_eq_false_iff, decide_eq_false_iff_not] at hw
    split at h
    · cases h
    · rename_i hg
      exact ⟨by omega, by omega, by cases hx : r.height e.h with | none => exact absurd hx hg | some z => rfl⟩
theorem goes_few (r : Rw) (i : Int) : (r.goes i).length ≤ 4000 := by cases r <;> exact Nat.le_of_ble_eq_true rfl
theorem once_few (r : Rw) (i : Int) : (once (r.goes i)).length ≤ 9 := by
  cases r <;> simp [Rw.goes, once]
  split <;> simp
set_option maxHeartbeats 4000000 in
theorem ok_row_complaints (T : Txt K mg a) : FnE P w K mg base CX0 5 "row_complaints" (spRowC K a) := by
  refine fnE_of (sp := (spRowC K a)) 4 T.fn_row_complaints sc_row_complaints (fun vs H Q E h => ?_) (fun f cdv A outer s H vs Q E hr h => ?_)
  · obtain ⟨c, l, i, prs, rs, ev, es, rfl, _⟩ := h
    rfl
  · obtain ⟨c, l, i, prs, rs, ev, es, rfl, hc, hrs, hl, hev, E', hi, hre, q⟩ := h
    have hpl := hrs.1
    have hri : rs[i]? = some rs[i] := List.getElem?_eq_getElem hi
    obtain ⟨p, hp⟩ : ∃ p, prs[i]? = some p := ⟨_, List.getElem?_eq_getElem (by omega)⟩
    obtain ⟨dx, hx⟩ := hrs.2 i p _ hp hri
    obtain ⟨ok, hh⟩ := E'.ok _ (List.getElem_mem hi)
    obtain ⟨v, oe, hat, hoe, hmem, hv⟩ := hev.at (c := (i : Int)) (by omega) (by omega)
    rw [Int.toNat_natCast] at hoe
    have hatp : atI (prs.map V.ref) (i : Int) = some (.ref p) := atI_nat (by rw [List.getElem?_map, hp]; rfl)
    unfold rowsC at q
    rw [hri, hoe, Option.join_some] at q
    generalize rs[i] = r at *
    refine ⟨_, (pss_cons (ps_set (i := 3) sc_row_complaints.nd rfl (Or.inr rfl) (pe_ix (ix_K (K := K) rfl) (pv 0) (pv 2) (fun _ _ => rfl)))
      (pss_cons (ps_set (i := 4) sc_row_complaints.nd rfl (Or.inr rfl) (pe_ix (ix_K (K := K) rfl) (pv 1) (pv 2) (fun _ _ => rfl)))
      (pss_cons (ps_if (pt_cmpR op_isNA (pv 4) pe_non (nomark _)) (pss_one (ps_ret (pe_lst pa_nil))) pss_nil)
      (pss_cons (ps_set (i := 5) sc_row_complaints.nd rfl (Or.inl rfl) (pe_callE (ok_own_complaint (K := K) T) (hr.mono (by decide)) pass0 rfl (pa_cons (pv 3) (pa_cons (pv 4) pa_nil))))
      (pss_cons (ps_if (pt_cmpR op_notNA (pv 5) pe_non (nomark _)) (pss_one (ps_ret (pe_lst (pa_cons (pe_tup (pa_cons (pv 2) (pa_cons (pv 2) (pa_cons (pv 5) pa_nil)))) pa_nil)))) pss_nil)
      (pss_cons (ps_setC (i := 6) sc_row_complaints.nd rfl rfl (own := ["coming"]) (fr := [("entries", 1), ("at", 2), ("row", 3), ("entry", 4)]) rfl ⟨rfl, (by walk_at "clok"), (by walk_at "frok"), rfl, (by decide +kernel), (by decide +kernel), rfl⟩ (pi_seqK (K := K) rfl (pe_callE (ok_each_once (K := K) T) (hr.mono (by decide)) pass0 rfl (pa_cons (pe_methK (P := P) (w := w) (K := K) (mg := mg) (base := base) (k := 1) ⟨rfl, rfl, rfl, rfl, rfl⟩ (pv 3) (hr.mono (by decide)) pass0 (pa_cons (pv 2) pa_nil)) pa_nil))) (fun _ _ _ _ => (pg_name (i := 0) (show List.Nodup [("coming" : Str), ("entries" : Str), ("at" : Str), ("row" : Str), ("entry" : Str)] from by decide +kernel) rfl (Or.inl rfl))) (fun _ _ _ _ => pts_nil) (fun _ _ _ _ => (pe_tup (pa_cons (pv 2) (pa_cons (pv 0) (pa_cons (pe_callE (ok_way_complaint (K := K) T) (hr.mono (by decide)) pass0 rfl (pa_cons (pv 3) (pa_cons (pv 4) (pa_cons (pv 0) (pa_cons (pv 1) pa_nil))))) pa_nil))))))
      (pss_cons (ps_if (pt_truK (K := K) rfl (pe_callB (call_isiK (K := K) rfl) rfl T.z_isinstance b_isinstance (pa_cons (pv 3) (pa_cons (pe_glob (v := .ref a.C_Call) rfl T.c_Call rfl) pa_nil)))) (pss_one (ps_expr (pe_bmK (K := K) rfl PySem.F.plainAttrs_list PySem.F.slot_list_append PySem.F.type_list_append mt_append (pv 6) (pa_cons (pe_tup (pa_cons (pv 2) (pa_cons (pe_fldK (K := K) rfl (pv 3)) (pa_cons (pe_callE (ok_target_complaint (K := K) T) (hr.mono (by decide)) pass0 rfl (pa_cons (pv 3) (pa_cons (pv 1) pa_nil))) pa_nil)))) pa_nil)))) pss_nil)
      (pss_one (ps_ret (pe_comp (own := ["complaint"]) (fr := []) rfl ⟨rfl, (by walk_at "clok"), (by walk_at "frok"), rfl, (by decide +kernel), (by decide +kernel), rfl⟩ (pi_seqK (K := K) rfl (pv 6)) (fun _ _ _ _ => (pg_name (i := 0) (show List.Nodup [("complaint" : Str)] from by decide +kernel) rfl (Or.inl rfl))) (fun _ _ _ _ => (pts_one (pt_cmpR op_notNA (pe_ix (ix_K (K := K) rfl) (pv 0) pe_int (fun _ _ => rfl)) pe_non (nomark _)))) (fun _ _ _ _ => (pv 0)))))))))))), ?_⟩
    refine r_st (σ' := [some _, some _, some _, none, none, none, none]) rfl ?_
    walk_at "rd"
    cases oe with
    | none =>
      cases hv
      walk_at "rd"
      rename_i l1 nl1
      exact q l1 [] _ (same_new nl1) upd_same CmVs.nil nl1
    | some e =>
      have q : ∀ p us H', Same H H' → H' p = some (.lst us) → CmVs H' us (rowC r e i es) → H p = none → Q (.ref p) H' := q
      obtain ⟨pe, rfl, he⟩ := id hv
      have nn := E'.nn e hmem
      walk_at "rd"
      refine ⟨p, pe, r, e, rfl, ⟨dx, hx⟩, ok, hh, he, fun H1 s1 => ?_⟩
      have hx1 := s1 _ _ hx
      have he1 := he.same s1
      have hl1 := s1 _ _ hl
      have hev1 := hev.same s1
      unfold rowC at q
      cases ho : ownC r e with
      | some w =>
        rw [ho] at q
        show gName 5 w.v _ _ _
        walk_at "rd"
        rename_i t nt l1 nl1
        exact q l1 [.ref t] _ (s1.trans (by walk_at "same")) upd_same (CmVs.one ⟨t, rfl, by walk_at "hlk"⟩) (none_same s1 (by walk_at "none"))
      | none =>
        rw [ho] at q
        show gName 5 V.non _ _ _
        have hnw : 0 ≤ e.h ∧ e.h ≤ 4000 ∧ (r.height e.h).isSome = true := ownC_none ho
        obtain ⟨e0, e4, hs⟩ := hnw
        have nl0 : ∀ b, H1 b = none → H b = none := fun b z => none_same s1 z
        walk_at "rd"
        refine r_methV hx1 (flds_goes _) ((me_all_goes T hh).mono (by decide)) ?_
        walk_at "rd"
        refine ⟨p, (i : Int), rfl, ⟨dx, hx1⟩, fun g ng => ?_⟩
        walk_at "rd"
        refine ⟨g, r.goes i, rfl, SqL.of upd_same, goes_few r i, fun q1 H2 s2 hq1 => ?_⟩
        have s12 := (same_new (o := .lst ((r.goes i).map V.int)) ng).trans s2
        have n2 : ∀ b, H2 b = none → H b = none := fun b z => nl0 b (none_same s12 z)
        have s02 := s1.trans s12
        have hx2 := s12 _ _ hx1
        have he2 := he1.same s12
        have hl2 := s12 _ _ hl1
        have hev2 := hev1.same s12
        clear s12 s2 ng s1 hx1 he1 hl1 hev1 hx hl hev he hv nl0 hc hrs
        walk_at "rd"
        have hol := once_few r i
        refine comp_list (K := K) (a := q1) (xs := (once (r.goes i)).map V.int) (fun k ys σ H3 => (∃ u, σ = [u, some (.ref l), some (.int (i : Int)), some (.ref p), some (.ref pe)]) ∧ Same H2 H3 ∧ OmVs H3 i ys (((once (r.goes i)).take k).map fun c => (c, wayC r e c es))) ⟨⟨_, rfl⟩, Same.refl _, OmVs.nil⟩ (fun k ys σ H3 hk ⟨_, s3, e3⟩ => ⟨SqL.of (s3 _ _ hq1), by have := e3.1; rw [List.length_map, List.length_take] at this; rw [sizeLine_eq]; omega⟩) ?_ ?_
        · rintro k v ys σ H3 hk ⟨⟨u, rfl⟩, s3, ho3⟩
          obtain ⟨cc, hcc, rfl⟩ : ∃ n, (once (r.goes i))[k]? = some n ∧ v = .int n := by
            rw [List.getElem?_map] at hk
            obtain ⟨p, hp, e⟩ := Option.map_eq_some_iff.mp hk
            exact ⟨p, hp, e.symm⟩
          walk_at "rd"
          refine ⟨p, pe, l, cc, r, e, ev, es, rfl, ⟨dx, s3 _ _ hx2⟩, ok, hh, he2.same s3, nn, e0, e4, hs, s3 _ _ hl2, hev2.same s3, E'.nn, fun H4 s4 => ?_⟩
          walk_at "rd"
          rename_i t nt
          refine ⟨⟨_, rfl⟩, (s3.trans s4).trans (same_new nt), ?_⟩
          rw [List.take_add_one, hcc, Option.toList_some, List.map_append]
          exact ((ho3.same s4).same (same_new nt)).app (OmVs.one ⟨t, rfl, upd_same⟩)
        rintro ys σ H3 ⟨_, s3, ho3⟩
        rw [List.length_map, List.take_length] at ho3
        walk_at "rd"
        rename_i lf nlf
        have sn := s3.trans (same_new (o := .lst ys) nlf)
        have hlf : (upd H3 lf (.lst ys)) lf = some (.lst ys) := upd_same
        have ho4 := ho3.same (same_new (o := .lst ys) nlf)
        have n4 : H lf = none := n2 lf (none_same s3 nlf)
        clear s3 nlf ho3
        generalize upd H3 lf (.lst ys) = H4 at sn hlf ho4 ⊢
        have s04 := s02.trans sn
        have hx4 := sn _ _ hx2
        have hl4 := sn _ _ hl2
        have hev4 := hev2.same sn
        clear sn s02 hx2 he2 hl2 hev2 hq1 n2
        have kk : ∀ (lf : Addr) (H5 : Hp), (∃ us os, Same H H5 ∧ H5 lf = some (.lst us) ∧ OmVs H5 i us os ∧ os.length ≤ 10 ∧ (os.filterMap fun o => o.2.map fun w => Cm.mk i o.1 w) = ((once (r.goes i)).filterMap fun c => (wayC r e c es).map fun w => Cm.mk i c w) ++ tgtR r i es) → CompW (Itl K lf) (gName 0) (tTest (tOp rNotN (tOp (rIxA K) (tVar 0) (tC (V.int 2))) (tC V.non))) (tVar 0) (fun ys H3 => ∀ p, H3 p = none → Q (V.ref p) (upd H3 p (HO.lst ys))) [none] H5 := by
          rintro lf H5 ⟨us, os, s5, hlf, ho5, h10, hfm⟩
          rw [← hfm] at q
          clear hfm
          have hul := ho5.1
          refine comp_list (K := K) (a := lf) (xs := us) (fun k ys σ H6 => (∃ u, σ = [u]) ∧ H6 = H5 ∧ CmVs H5 ys ((os.take k).filterMap fun o => o.2.map fun w => Cm.mk i o.1 w) ∧ ys.length ≤ k) ⟨⟨_, rfl⟩, rfl, CmVs.nil, Nat.le_refl _⟩ (fun k ys σ H6 hk ⟨_, e6, _, e7⟩ => ⟨by rw [e6]; exact SqL.of hlf, by rw [sizeLine_eq]; omega⟩) ?_ ?_
          · rintro k v ys σ H6 hk ⟨⟨u, rfl⟩, rfl, hcm, hyl⟩
            have hk2 : k < os.length := by rw [← hul]; exact (List.getElem?_eq_some_iff.mp hk).1
            obtain ⟨v', hv', qq, e1, e2⟩ := ho5.2 k _ (List.getElem?_eq_getElem hk2)
            rw [hk] at hv'
            cases hv'
            subst e1
            rw [List.take_add_one, List.getElem?_eq_getElem hk2, Option.toList_some, List.filterMap_append]
            generalize os[k] = o at e2 ⊢
            obtain ⟨cc, ow⟩ := o
            walk_at "rd"
            cases ow with
            | none =>
              show rNotN V.non V.non _ _
              walk_at "rd"
              exact ⟨⟨_, rfl⟩, rfl, by rw [show List.filterMap (fun o : Int × Option Wt => o.2.map fun w => Cm.mk i o.1 w) [(cc, none)] = [] from rfl, List.append_nil]; exact hcm, by omega⟩
            | some w =>
              show rNotN w.v V.non _ _
              walk_at "rd"
              exact ⟨⟨_, rfl⟩, rfl, hcm.app (CmVs.one (c := ⟨i, cc, w⟩) ⟨qq, rfl, e2⟩), by rw [List.length_append]; show _ + 1 ≤ _ + 1; omega⟩
          · rintro ys σ H6 ⟨_, rfl, hcm, hyl⟩
            rw [hul, List.take_length] at hcm
            intro p1 np1
            exact q p1 ys _ (s5.trans (same_new np1)) upd_same (hcm.same (same_new np1)) (none_same s5 np1)
        obtain ⟨t', ty, kc, kb⟩ := ty_all T hh ⟨dx, hx4⟩
        cases hC : r.isCall with
        | false =>
          rw [hC] at kc
          refine r_isi (fun z => by cases z) ty kc ?_
          walk_at "rd"
          refine kk lf H4 ⟨ys, _, s04, hlf, ho4, by rw [List.length_map]; omega, ?_⟩
          rw [List.filterMap_map, show tgtR r i es = [] from (by cases r <;> first | rfl | cases hC), List.append_nil]
          rfl
        | true =>
          obtain ⟨t, hrt⟩ : ∃ t, r = .call t := by cases r <;> first | exact ⟨_, rfl⟩ | cases hC
          rw [hC] at kc
          refine r_isi (b := true) (fun z => by cases z) ty kc ?_
          rw [hrt] at hx4
          change H4 p = some (.ins a.C_Call dx (putF "target" (.int t) [])) at hx4
          walk_at "rd"
          refine ⟨p, l, t, ev, es, rfl, ⟨dx, hx4⟩, hl4, hev4, fun H5 s5 => ?_⟩
          have hlf5 := s5 _ _ hlf
          have ho5 := ho4.same s5
          have hyl : ys.length ≤ 10 := by rw [ho4.1, List.length_map]; omega
          walk_at "rd"
          rename_i tt ntt
          have ho6 := (ho5.same (same_new (o := .tup [.int (i : Int), .int t, oV (tgtC t es)]) ntt)).app (OmVs.one (i := i) (o := (t, tgtC t es)) ⟨tt, rfl, upd_same⟩)
          have kb6 : ∀ (b : Addr) (xs : List V), (upd H5 tt (.tup [.int (i : Int), .int t, oV (tgtC t es)])) b = some (.tup xs) → (upd (upd H5 tt (.tup [.int (i : Int), .int t, oV (tgtC t es)])) lf (.lst (ys ++ [.ref tt]))) b = some (.tup xs) := fun b xs e => by
            rw [upd_ne (fun z => by subst z; rw [look_new hlf5 ntt] at e; cases e)]; exact e
          have ho7 := ho6.to kb6
          have s07 : Same H (upd (upd H5 tt (.tup [.int (i : Int), .int t, oV (tgtC t es)])) lf (.lst (ys ++ [.ref tt]))) := fun b o e => by
            rw [upd_ne (ne_of_none e n4)]
            exact (s04.trans (s5.trans (same_new ntt))) b o e
          have hlf7 : (upd (upd H5 tt (.tup [.int (i : Int), .int t, oV (tgtC t es)])) lf (.lst (ys ++ [.ref tt]))) lf = some (.lst (ys ++ [.ref tt])) := upd_same
          clear kb6 ho6 ho5 hlf5
          generalize (upd (upd H5 tt (.tup [.int (i : Int), .int t, oV (tgtC t es)])) lf (.lst (ys ++ [.ref tt]))) = H7 at ho7 s07 hlf7 ⊢
          refine kk lf H7 ⟨_, _, s07, hlf7, ho7, by rw [List.length_append, List.length_map]; show _ + 1 ≤ 10; omega, ?_⟩
          rw [List.filterMap_append, List.filterMap_map, show tgtR r i es = ((tgtC t es).map fun w => Cm.mk i t w).toList from by rw [hrt]; rfl]
          show _ ++ (List.filterMap _ [(t, tgtC t es)]) = _ ++ ((tgtC t es).map fun w => Cm.mk i t w).toList
          cases tgtC t es <;> rfl
end
section
variable {P : Program} {w : World} {K : PySem.W.Frag} {mg : Str → Option Value} {base : Heap} {a : Adr}
theorem ownC_none2 {r : Rw} {e : Ent} (h : ownC r e = none) : 0 ≤ e.h ∧ e.h ≤ 4000 ∧ (r.height e.h).isSome = true := by
  unfold ownC at h
  split at h
  · cases h
  · rename_i hw
    unfold wrongE at hw
    simp only [Bool.not_eq_true, Bool.or_eq_false_iff, decide_eq_false_iff_not] at hw
    split at h
    · cases h
    · rename_i hg
      exact ⟨by omega, by omega, by cases hx : r.height e.h with | none => exact absurd hx hg | some z => rfl⟩
set_option maxHeartbeats 4000000 in
theorem ok_landing_complaint (T : Txt K mg a) : FnE P w K mg base CX0 5 "landing_complaint" (spLandC K a) := by
  refine fnE_of (sp := (spLandC K a)) 4 T.fn_landing_complaint sc_landing_complaint (fun vs H Q E h => ?_) (fun f cdv A outer s H vs Q E hr h => ?_)
  · obtain ⟨c, l, i, z, prs, rs, ev, es, rfl, _⟩ := h
    rfl
  · obtain ⟨c, l, i, z, prs, rs, ev, es, rfl, hc, hrs, hl, hev, E', hre, q⟩ := h
    have hpl := hrs.1
    unfold landC at q
    refine ⟨_, (pss_cons (ps_if (PW.pt (pw_or (pt_not (pt_truK (K := K) rfl (pe_callE (ok_is_row (K := K) T) (hr.mono (by decide)) pass0 rfl (pa_cons (pv 2) (pa_cons (pv 1) pa_nil))))) (pw_or1 (pt_not (pt_truK (K := K) rfl (pe_callB (call_isiK (K := K) rfl) rfl T.z_isinstance b_isinstance (pa_cons (pe_ix (ix_K (K := K) rfl) (pv 0) (pv 2) (fun _ _ => rfl)) (pa_cons (pe_glob (v := .ref a.C_Call) rfl T.c_Call rfl) pa_nil)))))))) (pss_one (ps_ret pe_str)) pss_nil)
      (pss_cons (ps_set (i := 4) sc_landing_complaint.nd rfl (Or.inl rfl) (pe_ix (ix_K (K := K) rfl) (pv 1) (pv 2) (fun _ _ => rfl)))
      (pss_cons (ps_if (PW.pt (pw_or (pt_cmpR op_isNA (pv 4) pe_non (nomark _)) (pw_or1 (pt_cmpR op_notNA (pe_callE (ok_own_complaint (K := K) T) (hr.mono (by decide)) pass0 rfl (pa_cons (pe_ix (ix_K (K := K) rfl) (pv 0) (pv 2) (fun _ _ => rfl)) (pa_cons (pv 4) pa_nil))) pe_non (nomark _))))) (pss_one (ps_ret pe_non)) pss_nil)
      (pss_one (ps_ret (pe_callE (ok_way_complaint (K := K) T) (hr.mono (by decide)) pass0 rfl (pa_cons (pe_ix (ix_K (K := K) rfl) (pv 0) (pv 2) (fun _ _ => rfl)) (pa_cons (pv 4) (pa_cons (pv 3) (pa_cons (pv 1) pa_nil)))))))))), ?_⟩
    refine r_st (σ' := [some _, some _, some _, some _, none]) rfl ?_
    walk_at "rd"
    refine ⟨i, l, ev, rfl, SqL.of hl, ?_⟩
    rw [hev.1]
    by_cases hc0 : 0 ≤ i ∧ i < (es.length : Int)
    · rw [decide_eq_true hc0]
      rw [if_pos hc0] at q
      have hi : i.toNat < rs.length := by omega
      have hri : rs[i.toNat]? = some rs[i.toNat] := List.getElem?_eq_getElem hi
      obtain ⟨p, hp⟩ : ∃ p, prs[i.toNat]? = some p := ⟨_, List.getElem?_eq_getElem (by omega)⟩
      obtain ⟨dx, hx⟩ := hrs.2 _ p _ hp hri
      obtain ⟨ok, hh⟩ := E'.ok _ (List.getElem_mem hi)
      obtain ⟨v, oe, hat, hoe, hmem, hv⟩ := hev.at hc0.1 hc0.2
      have hatp : atI (prs.map V.ref) i = some (.ref p) := by
        rw [show i = ((i.toNat : Nat) : Int) from by omega]
        exact atI_nat (by rw [List.getElem?_map, hp]; rfl)
      rw [hri, hoe, Option.join_some] at q
      generalize rs[i.toNat] = r at *
      have q : ∀ H', Same H H' → Q (oV (landW r oe z es)) H' := q
      unfold landW at q
      walk_at "rd"
      obtain ⟨t', ty, kc, kb⟩ := ty_all T hh ⟨dx, hx⟩
      refine r_isi (fun z => by cases z) ty kc ?_
      cases hC : r.isCall with
      | false =>
        rw [hC] at q
        walk_at "rd"
        exact q _ (Same.refl _)
      | true =>
        rw [hC] at q
        walk_at "rd"
        cases oe with
        | none =>
          cases hv
          walk_at "rd"
          exact q _ (Same.refl _)
        | some e =>
          have q : ∀ H', Same H H' → Q (oV (if (ownC r e).isSome = true then none else wayC r e z es)) H' := q
          obtain ⟨pe, rfl, he⟩ := id hv
          walk_at "rd"
          refine ⟨p, pe, r, e, rfl, ⟨dx, hx⟩, ok, hh, he, fun H1 s1 => ?_⟩
          cases ho : ownC r e with
          | some w =>
            rw [ho] at q
            walk_at "rd"
            show rNotN w.v V.non _ _
            walk_at "rd"
            exact q _ s1
          | none =>
            rw [ho] at q
            obtain ⟨e0, e4, hs⟩ := ownC_none2 ho
            have hx1 := s1 _ _ hx
            have hc1 := s1 _ _ hc
            walk_at "rd"
            show rNotN V.non V.non _ _
            walk_at "rd"
            exact ⟨p, pe, l, z, r, e, ev, es, rfl, ⟨dx, hx1⟩, ok, hh, he.same s1, E'.nn e hmem, e0, e4, hs, s1 _ _ hl, hev.same s1, E'.nn, fun H2 s2 => q _ (s1.trans s2)⟩
    · rw [decide_eq_false hc0]
      rw [if_neg hc0] at q
      walk_at "rd"
      exact q _ (Same.refl _)
end
section
variable {P : Program} {w : World} {K : PySem.W.Frag} {mg : Str → Option Value} {base : Heap} {a : Adr}
theorem CmVs.toR {H H' : Hp} {vs : List V} {cs : List Cm} (h : CmVs H vs cs) (s : ∀ b xs, H b = some (.tup xs) → H' b = some (.tup xs)) : CmVs H' vs cs := ⟨h.1, fun k o e => let ⟨v, e1, q, e2, e3⟩ := h.2 k o e; ⟨v, e1, q, e2, s _ _ e3⟩⟩
theorem tup_updR {H : Hp} {l : Addr} {ys : List V} {o : HO} (h : H l = some (.lst ys)) (b : Addr) (xs : List V) (e : H b = some (.tup xs)) : (upd H l o) b = some (.tup xs) := by
  rw [upd_ne (fun z => by subst z; rw [h] at e; cases e)]; exact e
theorem ownC_noneR {r : Rw} {e : Ent} (h : ownC r e = none) : 0 ≤ e.h ∧ e.h ≤ 4000 ∧ (r.height e.h).isSome = true := by
  unfold ownC at h
  split at h
  · cases h
  · rename_i hw
    unfold wrongE at hw
    simp only [Bool.not_eq_true, Bool.or_eq_false_iff, decide_eq_false_iff_not] at hw
    split at h
    · cases h
    · rename_i hg
      exact ⟨by omega, by omega, by cases hx : r.height e.h with | none => exact absurd hx hg | some z => rfl⟩
set_option maxHeartbeats 4000000 in
theorem ok_law_of_row (T : Txt K mg a) : FnE P w K mg base CX0 5 "_law_of_row" (spOfRow K a) := by
  refine fnE_of (sp := (spOfRow K a)) 4 T.fn_law_of_row sc_law_of_row (fun vs H Q E h => ?_) (fun f cdv A outer s H vs Q E hr h => ?_)
  · obtain ⟨c, l, i, prs, rs, ev, es, r, e, rfl, _⟩ := h
    rfl
  · obtain ⟨c, l, i, prs, rs, ev, es, r, e, rfl, hc, hrs, hl, hev, E', hre, hri, hei, q⟩ := h
    have hpl := hrs.1
    have hi : i < rs.length := (List.getElem?_eq_some_iff.mp hri).1
    obtain ⟨p, hp⟩ : ∃ p, prs[i]? = some p := ⟨_, List.getElem?_eq_getElem (by omega)⟩
    obtain ⟨dx, hx⟩ := hrs.2 i p _ hp hri
    obtain ⟨ok, hh⟩ := E'.ok _ (List.mem_of_getElem? hri)
    have hmem := List.mem_of_getElem? hei
    obtain ⟨v, hv, hve⟩ := hev.2 i _ hei
    obtain ⟨pe, rfl, he⟩ := id hve
    have nn := E'.nn e hmem
    have hat : atI ev (i : Int) = some (.ref pe) := atI_nat hv
    have hatp : atI (prs.map V.ref) (i : Int) = some (.ref p) := atI_nat (by rw [List.getElem?_map, hp]; rfl)
    refine ⟨_, (pss_cons (ps_set (i := 3) sc_law_of_row.nd rfl (Or.inl rfl) (pe_ix (ix_K (K := K) rfl) (pv 0) (pv 2) (fun _ _ => rfl)))
      (pss_cons (ps_set (i := 4) sc_law_of_row.nd rfl (Or.inl rfl) (pe_callE (ok_law_own (K := K) T) (hr.mono (by decide)) pass0 rfl (pa_cons (pv 3) (pa_cons (pe_ix (ix_K (K := K) rfl) (pv 1) (pv 2) (fun _ _ => rfl)) pa_nil))))
      (pss_cons (ps_if (pt_cmpR op_notNA (pv 4) pe_non (nomark _)) (pss_one (ps_ret (pe_lst (pa_cons (pe_tup (pa_cons (pv 2) (pa_cons (pv 2) (pa_cons (pv 4) pa_nil)))) pa_nil)))) pss_nil)
      (pss_cons (ps_set (i := 5) sc_law_of_row.nd rfl (Or.inl rfl) (pe_lst pa_nil))
      (pss_cons (ps_for PassesOwn.never rfl (pi_seqK (K := K) rfl (pe_methK (P := P) (w := w) (K := K) (mg := mg) (base := base) (k := 1) ⟨rfl, rfl, rfl, rfl, rfl⟩ (pv 3) (hr.mono (by decide)) pass0 (pa_cons (pv 2) pa_nil))) (pg_name (i := 6) sc_law_of_row.nd rfl (Or.inl rfl)) (pss_cons (ps_set (i := 4) sc_law_of_row.nd rfl (Or.inl rfl) (pe_tup (pa_cons (pv 2) (pa_cons (pv 6) (pa_cons (pe_callE (ok_law_next (K := K) T) (hr.mono (by decide)) pass0 rfl (pa_cons (pv 3) (pa_cons (pe_ix (ix_K (K := K) rfl) (pv 1) (pv 2) (fun _ _ => rfl)) (pa_cons (pv 1) (pa_cons (pv 6) pa_nil))))) pa_nil)))))
      (pss_one (ps_if (PW.pt (pw_and (pt_cmpR op_notNA (pe_ix (ix_K (K := K) rfl) (pv 4) pe_int (fun _ _ => rfl)) pe_non (nomark _)) (pw_and1 (pt_cmpR (op_notInDK (K := K) rfl hr.units) (pv 4) (pv 5) rfl)))) (pss_one (ps_expr (pe_bmK (K := K) rfl PySem.F.plainAttrs_list PySem.F.slot_list_append PySem.F.type_list_append mt_append (pv 5) (pa_cons (pv 4) pa_nil)))) pss_nil))))
      (pss_cons (ps_if (pt_truK (K := K) rfl (pe_callB (call_isiK (K := K) rfl) rfl T.z_isinstance b_isinstance (pa_cons (pv 3) (pa_cons (pe_glob (v := .ref a.C_Call) rfl T.c_Call rfl) pa_nil)))) (pss_cons (ps_set (i := 7) sc_law_of_row.nd rfl (Or.inl rfl) (pe_ix (ix_K (K := K) rfl) (pe_methK0 (P := P) (w := w) (K := K) (mg := mg) (base := base) (k := 1) ⟨rfl, rfl, rfl, rfl, rfl⟩ (pv 3) (hr.mono (by decide)) pass0) pe_int (fun _ _ => rfl)))
      (pss_one (ps_if (pt_cmpR op_ge (pv 7) (pe_callB (call_lenK (K := K) rfl) rfl T.z_len b_len (pa_cons (pv 0) pa_nil)) (nomark _)) (pss_one (ps_expr (pe_bmK (K := K) rfl PySem.F.plainAttrs_list PySem.F.slot_list_append PySem.F.type_list_append mt_append (pv 5) (pa_cons (pe_tup (pa_cons (pv 2) (pa_cons (pv 7) (pa_cons pe_str pa_nil)))) pa_nil)))) (pss_one (ps_if (pt_cmpR (op_neK (K := K) rfl hr.units) (pe_ix (ix_K (K := K) rfl) (pv 1) (pv 7) (fun _ _ => rfl)) (pe_tup (pa_cons pe_int (pa_cons pe_int (pa_cons (pe_tup (pa_cons pe_int (pa_cons pe_int (pa_cons pe_int pa_nil)))) pa_nil)))) (nomark _)) (pss_one (ps_expr (pe_bmK (K := K) rfl PySem.F.plainAttrs_list PySem.F.slot_list_append PySem.F.type_list_append mt_append (pv 5) (pa_cons (pe_tup (pa_cons (pv 2) (pa_cons (pv 7) (pa_cons pe_str pa_nil)))) pa_nil)))) pss_nil))))) pss_nil)
      (pss_one (ps_ret (pv 5))))))))), ?_⟩
    refine r_st (σ' := [some _, some _, some _, none, none, none, none, none]) rfl ?_
    walk_at "rd"
    refine ⟨p, pe, r, e, rfl, ⟨dx, hx⟩, ok, hh, he, fun H1 s1 => ?_⟩
    have hx1 := s1 _ _ hx
    have he1 := he.same s1
    have hl1 := s1 _ _ hl
    have hc1 := s1 _ _ hc
    have hev1 := hev.same s1
    unfold rowC at q
    cases ho : ownC r e with
    | some w =>
      rw [ho] at q
      show gName 4 w.v _ _ _
      walk_at "rd"
      rename_i t nt l1 nl1
      exact q l1 [.ref t] _ (s1.trans (by walk_at "same")) upd_same (CmVs.one ⟨t, rfl, by walk_at "hlk"⟩)
    | none =>
      rw [ho] at q
      have q : ∀ p us H', Same H H' → H' p = some (.lst us) → CmVs H' us (((once (r.goes i)).filterMap fun c => (wayC r e c es).map fun w => Cm.mk i c w) ++ tgtR r i es) → Q (.ref p) H' := q
      show gName 4 V.non _ _ _
      obtain ⟨e0, e4, hs⟩ := ownC_noneR ho
      walk_at "rd"
      rename_i lf nlf
      refine r_methV (look_new hx1 nlf) (flds_goes _) ((me_all_goes T hh).mono (by decide)) ?_
      walk_at "rd"
      refine ⟨p, (i : Int), rfl, ⟨dx, look_new hx1 nlf⟩, fun g ng => ?_⟩
      have nf : H lf = none := none_same s1 nlf
      have s12 : Same H1 (upd (upd H1 lf (.lst [])) g (.lst ((r.goes i).map V.int))) := (same_new nlf).trans (same_new ng)
      have b1 : (upd (upd H1 lf (.lst [])) g (.lst ((r.goes i).map V.int))) lf = some (.lst []) := look_new upd_same ng
      have b2 : (upd (upd H1 lf (.lst [])) g (.lst ((r.goes i).map V.int))) g = some (.lst ((r.goes i).map V.int)) := upd_same
      have ngf : g ≠ lf := fun z => by rw [z, upd_same] at ng; cases ng
      generalize (upd (upd H1 lf (.lst [])) g (.lst ((r.goes i).map V.int))) = H2 at s12 b1 b2 ⊢
      have s02 := s1.trans s12
      have hn2 : (r.goes (i : Int)).length ≤ 2 := by cases r <;> exact Nat.le_of_ble_eq_true rfl
      clear s12 s1 hx1 he1 hl1 hc1 hev1 nlf ng
      walk_at "rd"
      refine for_list (K := K) (a := g) (xs := (r.goes i).map V.int) (fun k σ H3 => (∃ u1 u2 u3, σ = [some (.ref c), some (.ref l), some (.int (i : Int)), some (.ref p), u1, some (.ref lf), u2, u3]) ∧ Same H H3 ∧ H3 g = some (.lst ((r.goes i).map V.int)) ∧ ∃ us, H3 lf = some (.lst us) ∧ us.length ≤ k ∧ CmVs H3 us (((r.goes i).take k).foldl (accS r e i es) [])) ⟨⟨_, _, _, rfl⟩, s02, b2, [], b1, Nat.le_refl _, CmVs.nil⟩ (fun k σ H3 _ ⟨_, _, h3, _⟩ => SqL.of h3) ?_ ?_
      · rintro k v3 σ H3 hk ⟨⟨u1, u2, u3, rfl⟩, s3, hg3, us, hlf3, hul, hcm⟩
        obtain ⟨cc, hcc, rfl⟩ : ∃ n, (r.goes i)[k]? = some n ∧ v3 = .int n := by
          rw [List.getElem?_map] at hk
          obtain ⟨p, hp, e⟩ := Option.map_eq_some_iff.mp hk
          exact ⟨p, hp, e.symm⟩
        have hkl : k < (r.goes (i : Int)).length := (List.getElem?_eq_some_iff.mp hcc).1
        rw [List.take_add_one, hcc, Option.toList_some, List.foldl_append, List.foldl_cons, List.foldl_nil]
        generalize ((r.goes i).take k).foldl (accS r e i es) [] = acc at hcm ⊢
        have hl3 := s3 _ _ hl
        walk_at "rd"
        refine ⟨p, pe, l, cc, r, e, ev, es, rfl, ⟨dx, s3 _ _ hx⟩, ok, hh, he.same s3, nn, e0, e4, hs, hl3, hev.same s3, E'.nn, fun H4 s4 => ?_⟩
        have hlf4 := s4 _ _ hlf3
        have hg4 := s4 _ _ hg3
        have hcm4 := hcm.same s4
        have s04 := s3.trans s4
        unfold accS
        walk_at "rd"
        rename_i t nt
        cases hw : wayC r e cc es with
        | none =>
          show rNotN V.non V.non _ _
          walk_at "rd"
          exact ⟨⟨_, _, _, rfl⟩, s04.trans (same_new nt), look_new hg4 nt, us, look_new hlf4 nt, by omega, hcm4.same (same_new nt)⟩
        | some w =>
          show rNotN w.v V.non _ _
          walk_at "rd"
          refine r_notInD (d := cmD ⟨i, cc, w⟩) (ds := acc.map cmD) (SqL.of (look_new hlf4 nt)) (hcm4.same (same_new nt)).dp (CmV.dp ⟨t, rfl, upd_same⟩) (shaped_cm _) (Nat.le_trans (cm_dep _) (by decide)) (fun e he => by obtain ⟨c, _, rfl⟩ := List.mem_map.mp he; exact shaped_cm c) ?_
          cases hb : (acc.map cmD).any (fun d => d.eqv (cmD ⟨i, cc, w⟩)) with
          | true =>
            walk_at "rd"
            refine ⟨⟨_, _, _, rfl⟩, s04.trans (same_new nt), look_new hg4 nt, us, look_new hlf4 nt, by omega, ?_⟩
            show CmVs _ _ (if (acc.map cmD).any (fun d => d.eqv (cmD ⟨i, cc, w⟩)) = true then acc else acc ++ [⟨i, cc, w⟩])
            rw [hb, if_pos rfl]
            exact hcm4.same (same_new nt)
          | false =>
            walk_at "rd"
            refine ⟨⟨_, _, _, rfl⟩, fun b o e => by rw [upd_ne (ne_of_none e nf)]; exact (s04.trans (same_new nt)) b o e, by rw [upd_ne ngf]; exact look_new hg4 nt, _, upd_same, by rw [List.length_append]; show _ + 1 ≤ _; omega, ?_⟩
            show CmVs _ _ (if (acc.map cmD).any (fun d => d.eqv (cmD ⟨i, cc, w⟩)) = true then acc else acc ++ [⟨i, cc, w⟩])
            rw [hb, if_neg (by decide)]
            exact ((hcm4.same (same_new nt)).app (CmVs.one ⟨t, rfl, upd_same⟩)).toR (tup_updR (look_new hlf4 nt))
      · rintro σ H3 ⟨⟨u1, u2, u3, rfl⟩, s3, hg3, us, hlf3, hul, hcm⟩
        rw [List.length_map, List.take_length, acc_once] at hcm
        rw [List.length_map] at hul
        have hx3 := s3 _ _ hx
        have hc3 := s3 _ _ hc
        have hl3 := s3 _ _ hl
        have hev3 := hev.same s3
        obtain ⟨t', ty, kc, kb⟩ := ty_all T hh ⟨dx, hx3⟩
        cases hC : r.isCall with
        | false =>
          rw [hC] at kc
          walk_at "rd"
          refine r_isi (fun z => by cases z) ty kc ?_
          walk_at "rd"
          exact q lf us _ s3 hlf3 (by rw [show tgtR r i es = [] from (by cases r <;> first | rfl | cases hC), List.append_nil]; exact hcm)
        | true =>
          obtain ⟨t, hrt⟩ : ∃ t, r = .call t := by cases r <;> first | exact ⟨_, rfl⟩ | cases hC
          rw [hC] at kc
          walk_at "rd"
          refine r_isi (fun z => by cases z) ty kc ?_
          walk_at "rd"
          refine r_methV hx3 (flds_told _) ((me_all_told T hh).mono (by decide)) ?_
          walk_at "rd"
          refine ⟨p, rfl, ⟨dx, hx3⟩, fun tt ntt => ?_⟩
          rw [hrt, show (HO.tup (V.str (Rw.call t).told.1 :: (Rw.call t).told.2.map V.int)) = HO.tup [.str "call", .int t] from rfl]
          have t0 : 0 ≤ t := by rw [hrt] at ok; exact ok.1
          have htg : tgtR r i es = ((tgtC t es).map fun w => Cm.mk i t w).toList := by rw [hrt]; rfl
          rw [htg] at q
          have hul3 : us.length ≤ 2 := by omega
          walk_at "rd"
          rw [List.length_map, hpl, hre]
          refine ifDec (fun hd => ?_) (fun hd => ?_)
          · walk_at "rd"
            rename_i t2 nt2
            rw [show tgtC t es = some .row from by unfold tgtC; rw [if_neg (fun z => absurd z.2 (by omega))]] at q
            refine q lf (us ++ [.ref t2]) _ (fun b o e => by rw [upd_ne (ne_of_none e nf)]; exact (s3.trans ((same_new ntt).trans (same_new nt2))) b o e) upd_same ?_
            exact ((hcm.same ((same_new ntt).trans (same_new nt2))).app (CmVs.one (c := ⟨i, t, .row⟩) ⟨t2, rfl, upd_same⟩)).toR (tup_updR (look_new (look_new hlf3 ntt) nt2))
          · have ht2 : 0 ≤ t ∧ t < (es.length : Int) := ⟨t0, by omega⟩
            obtain ⟨v2, oe, hat2, hoe2, _, hv2⟩ := hev3.at ht2.1 ht2.2
            have htc : tgtC t es = if eqE oe stE = true then none else some .start := by unfold tgtC; rw [if_pos ht2, hoe2]; rfl
            rw [htc] at q
            clear t0 hd ht2
            walk_at "rd"
            rename_i ta nta tb ntb
            refine r_neE oe stE (((hv2.same (same_new ntt)).same (same_new nta)).same (same_new ntb)).dp (start_dp (SqT.of upd_same) (SqT.of (look_new upd_same ntb))) ?_
            have sX := (same_new (o := .tup [.str "call", .int t]) ntt).trans ((same_new (o := .tup [.int 16, .int 32, .int 64]) nta).trans (same_new (o := .tup [.int 0, .int 128, .ref ta]) ntb))
            have hlfX := sX _ _ hlf3
            have hcmX := hcm.same sX
            have s3X := s3.trans sX
            generalize (upd (upd (upd H3 tt (.tup [.str "call", .int t])) ta (.tup [.int 16, .int 32, .int 64])) tb (.tup [.int 0, .int 128, .ref ta])) = HX at hlfX hcmX s3X ⊢
            clear sX ntt nta ntb
            cases hb : eqE oe stE with
            | true =>
              rw [hb, if_pos rfl] at q
              walk_at "rd"
              exact q lf us _ s3X hlfX (by show CmVs _ _ (_ ++ []); rw [List.append_nil]; exact hcmX)
            | false =>
              rw [hb, if_neg (by decide)] at q
              walk_at "rd"
              rename_i t2 nt2
              refine q lf (us ++ [.ref t2]) _ (fun b o e => by rw [upd_ne (ne_of_none e nf)]; exact (s3X.trans (same_new nt2)) b o e) upd_same ?_
              exact ((hcmX.same (same_new nt2)).app (CmVs.one (c := ⟨i, t, .start⟩) ⟨t2, rfl, upd_same⟩)).toR (tup_updR (look_new hlfX nt2))
end
section
variable {P : Program} {w : World} {K : PySem.W.Frag} {mg : Str → Option Value} {base : Heap} {a : Adr}
theorem ownC_none3 {r : Rw} {e : Ent} (h : ownC r e = none) : 0 ≤ e.h ∧ e.h ≤ 4000 ∧ (r.height e.h).isSome = true := by
  unfold ownC at h
  split at h
  · cases h
  · rename_i hw
    unfold wrongE at hw
    simp only [Bool.not_eq_true, Bool.or_eq_false_iff, decide_eq_false_iff_not] at hw
    split at h
    · cases h
    · rename_i hg
      exact ⟨by omega, by omega, by cases hx : r.height e.h with | none => exact absurd hx hg | some z => rfl⟩
set_option maxHeartbeats 4000000 in
theorem ok_law_of_landing (T : Txt K mg a) : FnE P w K mg base CX0 5 "_law_of_landing" (spOfLand K a) := by
  refine fnE_of (sp := (spOfLand K a)) 4 T.fn_law_of_landing sc_law_of_landing (fun vs H Q E h => ?_) (fun f cdv A outer s H vs Q E hr h => ?_)
  · obtain ⟨c, l, i, z, prs, rs, ev, es, rfl, _⟩ := h
    rfl
  · obtain ⟨c, l, i, z, prs, rs, ev, es, rfl, hc, hrs, hl, hev, E', hre, q⟩ := h
    have hpl := hrs.1
    have q' : ∀ ow, landC rs es i z = ow → ∀ p us H', Same H H' → H' p = some (.lst us) → CmVs H' us (ow.map fun w => Cm.mk i z w).toList → Q (.ref p) H' := fun ow e => by rw [← e]; exact q
    clear q
    refine ⟨_, (pss_cons (ps_if (PW.pt (pw_or (pt_cmpR op_lt (pv 2) pe_int (nomark _)) (pw_or (pt_cmpR op_ge (pv 2) (pe_callB (call_lenK (K := K) rfl) rfl T.z_len b_len (pa_cons (pv 0) pa_nil)) (nomark _)) (pw_or1 (pt_not (pt_truK (K := K) rfl (pe_callB (call_isiK (K := K) rfl) rfl T.z_isinstance b_isinstance (pa_cons (pe_ix (ix_K (K := K) rfl) (pv 0) (pv 2) (fun _ _ => rfl)) (pa_cons (pe_glob (v := .ref a.C_Call) rfl T.c_Call rfl) pa_nil))))))))) (pss_one (ps_ret (pe_lst (pa_cons (pe_tup (pa_cons (pv 2) (pa_cons (pv 3) (pa_cons pe_str pa_nil)))) pa_nil)))) pss_nil)
      (pss_cons (ps_if (PW.pt (pw_or (pt_cmpR op_isNA (pe_ix (ix_K (K := K) rfl) (pv 1) (pv 2) (fun _ _ => rfl)) pe_non (nomark _)) (pw_or1 (pt_cmpR op_notNA (pe_callE (ok_law_own (K := K) T) (hr.mono (by decide)) pass0 rfl (pa_cons (pe_ix (ix_K (K := K) rfl) (pv 0) (pv 2) (fun _ _ => rfl)) (pa_cons (pe_ix (ix_K (K := K) rfl) (pv 1) (pv 2) (fun _ _ => rfl)) pa_nil))) pe_non (nomark _))))) (pss_one (ps_ret (pe_lst pa_nil))) pss_nil)
      (pss_cons (ps_set (i := 4) sc_law_of_landing.nd rfl (Or.inl rfl) (pe_callE (ok_law_next (K := K) T) (hr.mono (by decide)) pass0 rfl (pa_cons (pe_ix (ix_K (K := K) rfl) (pv 0) (pv 2) (fun _ _ => rfl)) (pa_cons (pe_ix (ix_K (K := K) rfl) (pv 1) (pv 2) (fun _ _ => rfl)) (pa_cons (pv 1) (pa_cons (pv 3) pa_nil))))))
      (pss_cons (ps_if (pt_cmpR op_isNA (pv 4) pe_non (nomark _)) (pss_one (ps_ret (pe_lst pa_nil))) pss_nil)
      (pss_one (ps_ret (pe_lst (pa_cons (pe_tup (pa_cons (pv 2) (pa_cons (pv 3) (pa_cons (pv 4) pa_nil)))) pa_nil)))))))), ?_⟩
    refine r_st (σ' := [some _, some _, some _, some _, none]) rfl ?_
    walk_at "rd"
    have out : ¬ (0 ≤ i ∧ i < (es.length : Int)) → landC rs es i z = some .call := fun n => by unfold landC; rw [if_neg n]
    refine ifDec (fun ha => ?_) (fun ha => ?_)
    · walk_at "rd"
      rename_i t nt l1 nl1
      exact q' _ (out (fun z => by omega)) l1 [.ref t] _ (by walk_at "same") upd_same (CmVs.one ⟨t, rfl, by walk_at "hlk"⟩)
    walk_at "rd"
    refine ifDec (fun hb => ?_) (fun hb => ?_)
    · walk_at "rd"
      rename_i t nt l1 nl1
      exact q' _ (out (fun z => by rw [List.length_map] at hb; omega)) l1 [.ref t] _ (by walk_at "same") upd_same (CmVs.one ⟨t, rfl, by walk_at "hlk"⟩)
    have hc0 : 0 ≤ i ∧ i < (es.length : Int) := ⟨by omega, by rw [List.length_map] at hb; omega⟩
    have hi : i.toNat < rs.length := by omega
    have hri : rs[i.toNat]? = some rs[i.toNat] := List.getElem?_eq_getElem hi
    obtain ⟨p, hp⟩ : ∃ p, prs[i.toNat]? = some p := ⟨_, List.getElem?_eq_getElem (by omega)⟩
    obtain ⟨dx, hx⟩ := hrs.2 _ p _ hp hri
    obtain ⟨ok, hh⟩ := E'.ok _ (List.getElem_mem hi)
    obtain ⟨v, oe, hat, hoe, hmem, hv⟩ := hev.at hc0.1 hc0.2
    have hatp : atI (prs.map V.ref) i = some (.ref p) := by
      rw [show i = ((i.toNat : Nat) : Int) from by omega]
      exact atI_nat (by rw [List.getElem?_map, hp]; rfl)
    have hlc : landC rs es i z = landW rs[i.toNat] oe z es := by unfold landC; rw [if_pos hc0, hri, hoe]; rfl
    generalize rs[i.toNat] = r at *
    clear ha hb
    walk_at "rd"
    obtain ⟨t', ty, kc, kb⟩ := ty_all T hh ⟨dx, hx⟩
    refine r_isi (fun z => by cases z) ty kc ?_
    cases hC : r.isCall with
    | false =>
      walk_at "rd"
      rename_i t nt l1 nl1
      exact q' (some .call) (by rw [hlc]; unfold landW; rw [hC]; rfl) l1 [.ref t] _ (by walk_at "same") upd_same (CmVs.one ⟨t, rfl, by walk_at "hlk"⟩)
    | true =>
      walk_at "rd"
      cases oe with
      | none =>
        cases hv
        walk_at "rd"
        rename_i l1 nl1
        exact q' none (by rw [hlc]; unfold landW; rw [hC]; rfl) l1 [] _ (by walk_at "same") upd_same CmVs.nil
      | some e =>
        have hlw : landW r (some e) z es = if (ownC r e).isSome = true then none else wayC r e z es := by unfold landW; rw [hC]; rfl
        rw [hlw] at hlc
        obtain ⟨pe, rfl, he⟩ := id hv
        walk_at "rd"
        refine ⟨p, pe, r, e, rfl, ⟨dx, hx⟩, ok, hh, he, fun H1 s1 => ?_⟩
        have hx1 := s1 _ _ hx
        have hc1 := s1 _ _ hc
        have hl1 := s1 _ _ hl
        cases ho : ownC r e with
        | some w =>
          rw [ho] at hlc
          walk_at "rd"
          show rNotN w.v V.non _ _
          walk_at "rd"
          rename_i l1 nl1
          exact q' none hlc l1 [] _ (s1.trans (same_new nl1)) upd_same CmVs.nil
        | none =>
          rw [ho] at hlc
          have hlc : landC rs es i z = wayC r e z es := hlc
          obtain ⟨e0, e4, hs⟩ := ownC_none3 ho
          walk_at "rd"
          show rNotN V.non V.non _ _
          walk_at "rd"
          refine ⟨p, pe, l, z, r, e, ev, es, rfl, ⟨dx, hx1⟩, ok, hh, he.same s1, E'.nn e hmem, e0, e4, hs, hl1, hev.same s1, E'.nn, fun H2 s2 => ?_⟩
          cases hw : wayC r e z es with
          | none =>
            show gName 4 V.non _ _ _
            walk_at "rd"
            rename_i l1 nl1
            exact q' none (by rw [hlc, hw]) l1 [] _ ((s1.trans s2).trans (same_new nl1)) upd_same CmVs.nil
          | some w =>
            show gName 4 w.v _ _ _
            walk_at "rd"
            rename_i t nt l1 nl1
            exact q' (some w) (by rw [hlc, hw]) l1 [.ref t] _ ((s1.trans s2).trans ((same_new nt).trans (same_new nl1))) upd_same (CmVs.one ⟨t, rfl, look_new upd_same nl1⟩)
end
section
variable {P : Program} {w : World} {K : PySem.W.Frag} {mg : Str → Option Value} {base : Heap} {a : Adr}
theorem CmVs.to {H H' : Hp} {vs : List V} {cs : List Cm} (h : CmVs H vs cs) (s : ∀ b xs, H b = some (.tup xs) → H' b = some (.tup xs)) : CmVs H' vs cs := ⟨h.1, fun k o e => let ⟨v, e1, q, e2, e3⟩ := h.2 k o e; ⟨v, e1, q, e2, s _ _ e3⟩⟩
theorem join_cm {D PP : Addr → Hp → Prop} {G : Prop} (key : ∀ lf H3, D lf H3 → PP lf H3) (use : (∀ lf H3, D lf H3 → PP lf H3) → G) : G := use key
theorem abs_cm {HX : Hp} {R : Hp → Prop} {b : Addr} {xs : List V} {H : Hp} {cs : List Cm} (h : Same H HX) (hb : HX b = some (.lst xs)) (hc : CmVs HX xs cs) (k : ∀ H9, Same H H9 → H9 b = some (.lst xs) → CmVs H9 xs cs → R H9) : R HX := k HX h hb hc
theorem tup_upd {H : Hp} {l : Addr} {ys : List V} {o : HO} (h : H l = some (.lst ys)) (b : Addr) (xs : List V) (e : H b = some (.tup xs)) : (upd H l o) b = some (.tup xs) := by
  rw [upd_ne (fun z => by subst z; rw [h] at e; cases e)]; exact e
local macro_rules | `(tactic| walk_at "rk") => `(tactic| repeat (first | walk_at "r1" | walk_at "r3" | walk_at "cond" | walk_at "calls" | walk_at "mine" | ((with_reducible refine' r_eqS ?h ?_); (case h => rfl)) | ((with_reducible refine' r_neS ?h ?_); (case h => rfl)) | ((with_reducible refine' r_fldV ?h ?c ?n ?l ?_); (case h => walk_at "hlk"); (case c => walk_at "cls"); (case n => walk_at "noat"); (case l => walk_at "lk"))))
set_option maxHeartbeats 4000000 in
theorem ok_checked (T : Txt K mg a) : FnE P w K mg base CX0 6 "checked" (spCheck K a) := by
  refine fnE_of (sp := (spCheck K a)) 5 T.fn_checked sc_checked (fun vs H Q E h => ?_) (fun f cdv A outer s H vs Q E hr h => ?_)
  · obtain ⟨c, t, prs, rs, ev, es, ls, rfl, _⟩ := h
    rfl
  · obtain ⟨c, t, prs, rs, ev, es, ls, rfl, hc, hrs, ⟨dt, l, d, ht, hl, hd⟩, hev, E', hnd, h64, q⟩ := h
    have hpl := hrs.1
    have hel := hev.1
    have en := E'.ne
    have rn := E'.nr
    unfold tabF at ht
    refine ⟨_, (pss_cons (ps_set (i := 2) sc_checked.nd rfl (Or.inl rfl) (pe_fldK (K := K) rfl (pv 1)))
      (pss_cons (ps_if (pt_cmpR (op_neK (K := K) rfl hr.units) (pe_callB (call_lenK (K := K) rfl) rfl T.z_len b_len (pa_cons (pv 2) pa_nil)) (pe_callB (call_lenK (K := K) rfl) rfl T.z_len b_len (pa_cons (pv 0) pa_nil)) (nomark _)) (pss_one (ps_ret (pe_lst (pa_cons (pe_tup (pa_cons (pe_un un_neg pe_int) (pa_cons (pe_un un_neg pe_int) (pa_cons pe_str pa_nil)))) pa_nil)))) pss_nil)
      (pss_cons (ps_set (i := 3) sc_checked.nd rfl (Or.inl rfl) (pe_lst pa_nil))
      (pss_cons (ps_if (PW.pt (pw_and (pt_cmpR op_gt (pe_callB (call_lenK (K := K) rfl) rfl T.z_len b_len (pa_cons (pv 0) pa_nil)) pe_int (nomark _)) (pw_and1 (pt_cmpR (op_neK (K := K) rfl hr.units) (pe_ix (ix_K (K := K) rfl) (pv 2) pe_int (fun _ _ => rfl)) (pe_glob (v := .ref a.G_START) rfl T.s_START rfl) (nomark _))))) (pss_one (ps_expr (pe_bmK (K := K) rfl PySem.F.plainAttrs_list PySem.F.slot_list_append PySem.F.type_list_append mt_append (pv 3) (pa_cons (pe_tup (pa_cons (pe_un un_neg pe_int) (pa_cons pe_int (pa_cons pe_str pa_nil)))) pa_nil)))) pss_nil)
      (pss_cons (ps_for PassesOwn.never rfl (pi_range1 rfl T.z_range (pa_cons (pe_callB (call_lenK (K := K) rfl) rfl T.z_len b_len (pa_cons (pv 0) pa_nil)) pa_nil)) (pg_name (i := 4) sc_checked.nd rfl (Or.inl rfl)) (pss_one (ps_expr (pe_bmK (K := K) rfl PySem.F.plainAttrs_list PySem.F.slot_list_extend PySem.F.type_list_extend mt_extend (pv 3) (pa_cons (pe_callE (ok_row_complaints (K := K) T) (hr.mono (by decide)) pass0 rfl (pa_cons (pv 0) (pa_cons (pv 2) (pa_cons (pv 4) pa_nil)))) pa_nil)))))
      (pss_cons (ps_for PassesOwn.never rfl (pi_seqK (K := K) rfl (pe_callB (call_sortedD rfl) rfl T.z_sorted b_sorted (pa_cons (pe_fldK (K := K) rfl (pv 1)) pa_nil))) (pg_name (i := 4) sc_checked.nd rfl (Or.inl rfl)) (pss_cons (ps_set (i := 5) sc_checked.nd rfl (Or.inl rfl) (pe_dget (hu_of hr) (pe_fldK (K := K) rfl (pv 1)) (pv 4) (fun _ _ => rfl)))
      (pss_cons (ps_set (i := 6) sc_checked.nd rfl (Or.inl rfl) (pe_callE (ok_landing_complaint (K := K) T) (hr.mono (by decide)) pass0 rfl (pa_cons (pv 0) (pa_cons (pv 2) (pa_cons (pv 4) (pa_cons (pv 5) pa_nil))))))
      (pss_one (ps_if (pt_cmpR op_notNA (pv 6) pe_non (nomark _)) (pss_one (ps_expr (pe_bmK (K := K) rfl PySem.F.plainAttrs_list PySem.F.slot_list_append PySem.F.type_list_append mt_append (pv 3) (pa_cons (pe_tup (pa_cons (pv 4) (pa_cons (pv 5) (pa_cons (pv 6) pa_nil)))) pa_nil)))) pss_nil)))))
      (pss_one (ps_ret (pv 3))))))))), ?_⟩
    refine r_st (σ' := [some _, some _, none, none, none, none, none]) rfl ?_
    walk_at "rd"
    rw [show (List.map V.ref prs).length = rs.length from by rw [List.length_map, hpl]]
    refine ifIntN (fun hh => ?_) (fun hh => ?_)
    · walk_at "rd"
      rename_i t1 nt1 l1 nl1
      have hck : checkC rs es ls [] = [⟨-1, -1, .length⟩] := by unfold checkC; rw [if_neg (by omega)]
      exact q l1 [.ref t1] [] _ (by walk_at "same") upd_same (fun z => absurd z (by omega)) (by rw [hck]; exact CmVs.one ⟨t1, rfl, by walk_at "hlk"⟩)
    have hre : es.length = rs.length := by omega
    have hck : ∀ ks, checkC rs es ls ks = startC rs es ++ rowsTo rs es rs.length ++ landsC rs es ls ks := fun ks => by unfold checkC; rw [if_pos hre]
    refine' join_cm (D := fun lcm H1 => ∃ us, H lcm = none ∧ Same H H1 ∧ H1 lcm = some (.lst us) ∧ CmVs H1 us (startC rs es)) (PP := ?PP) ?key (fun kk => ?use)
    case use =>
      walk_at "rd"
      rename_i lcm nlc
      refine ifDec (fun h1 => ?_) (fun h1 => ?_)
      · have h1' : 0 < rs.length := by rw [List.length_map] at h1; omega
        obtain ⟨v, oe, hat, hoe, hmem, hv⟩ := hev.at (c := 0) (Int.le_refl _) (by omega)
        obtain ⟨qs, st1, st2⟩ := T.t_START
        walk_at "rd"
        refine r_neE oe stE (hv.same (same_new nlc)).dp (start_dp (st1 _) (st2 _)) ?_
        have hoe : es[0]? = some oe := hoe
        have hst : startC rs es = if eqE oe stE = true then [] else [⟨-1, 0, .start⟩] := by unfold startC; rw [if_pos h1', hoe]; rfl
        cases hb : eqE oe stE with
        | true =>
          rw [hb, if_pos rfl] at hst
          walk_at "rk"
          refine r_lenL (SqL.of (by walk_at "hlk")) ?_
          clear h1 h1' hat hoe
          walk_at "rd"
          refine abs_cm (H := H) (b := lcm) (cs := startC rs es) (by walk_at "same") upd_same (by rw [hst]; exact CmVs.nil) (fun H9 s9 hb9 hc9 => ?_)
          exact kk lcm H9 ⟨_, nlc, s9, hb9, hc9⟩
        | false =>
          rw [hb, if_neg (by decide)] at hst
          walk_at "rk"
          rename_i t1 nt1
          refine r_lenL (SqL.of (by walk_at "hlk")) ?_
          clear h1 h1' hat hoe
          walk_at "rd"
          refine abs_cm (H := H) (b := lcm) (cs := startC rs es) (by walk_at "same") upd_same ?_ (fun H9 s9 hb9 hc9 => ?_)
          · rw [hst]
            exact (CmVs.one ⟨t1, rfl, upd_same⟩).to (tup_upd (by walk_at "hlk"))
          · exact kk lcm H9 ⟨_, nlc, s9, hb9, hc9⟩
      · have hst : startC rs es = [] := by unfold startC; rw [if_neg (by rw [List.length_map] at h1; omega)]
        walk_at "rd"
        refine abs_cm (H := H) (b := lcm) (cs := startC rs es) (by walk_at "same") upd_same (by rw [hst]; exact CmVs.nil) (fun H9 s9 hb9 hc9 => ?_)
        exact kk lcm H9 ⟨_, nlc, s9, hb9, hc9⟩
    case key =>
      rintro lcm H1 ⟨us, nlc, s1, hlc, hcm⟩
      have sf := startC_few rs es
      refine for_range (fun i σ H2 => (∃ u1 u2 u3, σ = [some (.ref c), some (.ref t), some (.ref l), some (.ref lcm), u1, u2, u3]) ∧ Same H H2 ∧ ∃ us, H2 lcm = some (.lst us) ∧ CmVs H2 us (startC rs es ++ rowsTo rs es i)) ⟨⟨_, _, _, rfl⟩, s1, us, hlc, by rw [show rowsTo rs es 0 = [] from rfl, List.append_nil]; exact hcm⟩ ?_ ?_
      · rintro i σ H2 hi ⟨⟨u1, u2, u3, rfl⟩, s2, us2, hlc2, hcm2⟩
        rw [List.length_map] at hi
        clear s1 hlc hcm
        walk_at "rd"
        refine ⟨c, l, i, prs, rs, ev, es, by rw [Int.zero_add], s2 _ _ hc, hrs.same s2, s2 _ _ hl, hev.same s2, E', by omega, hre.symm, fun p1 us1 H3 s3 hp1 hcm3 np1 => ?_⟩
        have hlc3 := s3 _ _ hlc2
        have hcl2 := hcm2.1
        have hcl3 := hcm3.1
        have f1 := rowsTo_few rs es i
        have f2 := rowsC_few rs es i
        rw [List.length_append] at hcl2
        walk_at "rd"
        refine r_extend hlc3 hp1 (by rw [sizeLine_eq]; omega) ?_
        refine ⟨⟨_, _, _, rfl⟩, fun b o e => by rw [upd_ne (ne_of_none e nlc)]; exact (s2.trans s3) b o e, _, upd_same, ?_⟩
        rw [rowsTo_succ, ← List.append_assoc]
        exact ((hcm2.same s3).app hcm3).to (tup_upd hlc3)
      rintro σ H2 ⟨⟨u1, u2, u3, rfl⟩, s2, us2, hlc2, hcm2⟩
      rw [show (((List.map V.ref prs).length : Nat) : Int).toNat = rs.length from by rw [List.length_map, hpl]; omega] at hcm2
      clear s1 hlc hcm
      have ht2 := s2 _ _ ht
      have hd2 := s2 _ _ hd
      have f1 := rowsTo_few rs es rs.length
      walk_at "rd"
      refine r_sortD hd2 (land_keys ls) (by rw [List.length_map]; exact h64) fun ks pp hperm hpw hpp => ?_
      have hkl : ks.length < 64 := by rw [hperm.length_eq, List.length_map]; exact h64
      walk_at "rd"
      refine for_list (K := K) (a := pp) (xs := ks.map V.int) (fun i σ H4 => (∃ u1 u2 u3, σ = [some (.ref c), some (.ref t), some (.ref l), some (.ref lcm), u1, u2, u3]) ∧ Same H H4 ∧ H4 pp = some (.lst (ks.map V.int)) ∧ ∃ us, H4 lcm = some (.lst us) ∧ us.length ≤ 1100 + i ∧ CmVs H4 us (startC rs es ++ rowsTo rs es rs.length ++ landsC rs es ls (ks.take i))) ⟨⟨_, _, _, rfl⟩, s2.trans (same_new hpp), upd_same, us2, look_new hlc2 hpp, by rw [hcm2.1, List.length_append]; omega, by rw [List.take_zero, show landsC rs es ls [] = [] from rfl, List.append_nil]; exact hcm2.same (same_new hpp)⟩ (fun i σ H4 _ ⟨_, _, h4, _⟩ => SqL.of h4) ?_ ?_
      · rintro i v σ H4 hvi ⟨⟨u1, u2, u3, rfl⟩, s4, hpp4, us4, hlc4, hul4, hcm4⟩
        obtain ⟨k, hk, rfl⟩ : ∃ n, ks[i]? = some n ∧ v = .int n := by
          rw [List.getElem?_map] at hvi
          obtain ⟨p, hp, e⟩ := Option.map_eq_some_iff.mp hvi
          exact ⟨p, hp, e.symm⟩
        have hi : i < ks.length := (List.getElem?_eq_some_iff.mp hk).1
        obtain ⟨kv, hkv, hke⟩ := List.mem_map.mp (hperm.mem_iff.mp (List.mem_of_getElem? hk))
        obtain ⟨hv1, hv2⟩ := land_val hnd kv hkv
        rw [hke] at hv1 hv2
        rw [← hv2] at hv1
        have ht4 := s4 _ _ ht
        have hd4 := s4 _ _ hd
        have hnp : pp ≠ lcm := fun z => by rw [z] at hpp; rw [hlc2] at hpp; cases hpp
        clear ht2 hd2 hlc2 hcm2 s2
        have htk : landsC rs es ls (ks.take (i + 1)) = landsC rs es ls (ks.take i) ++ ((landC rs es k (lv ls k)).map fun w => Cm.mk k (lv ls k) w).toList := by
          unfold landsC
          rw [List.take_add_one, hk, Option.toList_some, List.flatMap_append]; simp
        rw [htk]
        walk_at "rd"
        refine r_dGet ?_
        walk_at "rd"
        refine r_dgetI hd4 hv1 ?_
        walk_at "rd"
        refine ⟨c, l, k, lv ls k, prs, rs, ev, es, rfl, s4 _ _ hc, hrs.same s4, s4 _ _ hl, hev.same s4, E', hre.symm, fun H5 s5 => ?_⟩
        have hlc5 := s5 _ _ hlc4
        have hcm5 := hcm4.same s5
        have s05 := s4.trans s5
        have hpp5 := s5 _ _ hpp4
        cases hw : landC rs es k (lv ls k) with
        | none =>
          show gName 6 V.non _ _ _
          walk_at "rd"
          exact ⟨⟨_, _, _, rfl⟩, s05, hpp5, us4, hlc5, by omega, by show CmVs _ _ (_ ++ (_ ++ [])); rw [List.append_nil]; exact hcm5⟩
        | some w =>
          show gName 6 w.v _ _ _
          walk_at "rd"
          rename_i t1 nt1
          refine ⟨⟨_, _, _, rfl⟩, fun b o e => by rw [upd_ne (ne_of_none e nlc)]; exact (s05.trans (same_new nt1)) b o e, by rw [upd_ne hnp]; exact look_new hpp5 nt1, _, upd_same, by rw [List.length_append]; show _ + 1 ≤ _; omega, ?_⟩
          rw [← List.append_assoc]
          exact ((hcm5.same (same_new nt1)).app (CmVs.one (c := ⟨k, lv ls k, w⟩) ⟨t1, rfl, upd_same⟩)).to (tup_upd (look_new hlc5 nt1))
      · rintro σ H4 ⟨⟨u1, u2, u3, rfl⟩, s4, hpp4, us4, hlc4, hul4, hcm4⟩
        rw [List.length_map, List.take_length] at hcm4
        walk_at "rd"
        exact q lcm us4 ks H4 s4 hlc4 (fun _ => ⟨hperm, hpw⟩) (by rw [hck]; exact hcm4)
end
section
variable {P : Program} {w : World} {K : PySem.W.Frag} {mg : Str → Option Value} {base : Heap} {a : Adr}
theorem CmVs.toD {H H' : Hp} {vs : List V} {cs : List Cm} (h : CmVs H vs cs) (s : ∀ b xs, H b = some (.tup xs) → H' b = some (.tup xs)) : CmVs H' vs cs := ⟨h.1, fun k o e => let ⟨v, e1, q, e2, e3⟩ := h.2 k o e; ⟨v, e1, q, e2, s _ _ e3⟩⟩
theorem join_cmD {D PP : Addr → Hp → Prop} {G : Prop} (key : ∀ lf H3, D lf H3 → PP lf H3) (use : (∀ lf H3, D lf H3 → PP lf H3) → G) : G := use key
theorem abs_cmD {HX : Hp} {R : Hp → Prop} {b : Addr} {xs : List V} {H : Hp} {cs : List Cm} (h : Same H HX) (hb : HX b = some (.lst xs)) (hc : CmVs HX xs cs) (k : ∀ H9, Same H H9 → H9 b = some (.lst xs) → CmVs H9 xs cs → R H9) : R HX := k HX h hb hc
theorem tup_updD {H : Hp} {l : Addr} {ys : List V} {o : HO} (h : H l = some (.lst ys)) (b : Addr) (xs : List V) (e : H b = some (.tup xs)) : (upd H l o) b = some (.tup xs) := by
  rw [upd_ne (fun z => by subst z; rw [h] at e; cases e)]; exact e
local macro_rules | `(tactic| walk_at "rk") => `(tactic| repeat (first | walk_at "r1" | walk_at "r3" | walk_at "cond" | walk_at "calls" | walk_at "mine" | ((with_reducible refine' r_eqS ?h ?_); (case h => rfl)) | ((with_reducible refine' r_neS ?h ?_); (case h => rfl)) | ((with_reducible refine' r_fldV ?h ?c ?n ?l ?_); (case h => walk_at "hlk"); (case c => walk_at "cls"); (case n => walk_at "noat"); (case l => walk_at "lk"))))
theorem r_neRows {K : PySem.W.Frag} {l l2 : Addr} {ns : List Addr} {H : Hp} {Q : VK} (h : H l = some (.lst (ns.map V.ref))) (h2 : H l2 = some (.lst [])) (q : Q (.bl (decide (0 < ns.length))) H) : rNeA K (.ref l) (.ref l2) H Q ∨ rNeLen K (.ref l) (.ref l2) H Q := by
  cases ns with
  | nil => exact .inl (r_neT (.list []) (dp_lst (SqL.of h) dpAll_nil) (dp_lst (SqL.of h2) dpAll_nil) rfl q)
  | cons n ns => exact .inr ⟨l, l2, _, _, rfl, rfl, SqL.of h, SqL.of h2, (by rw [List.length_map, List.length_cons, List.length_nil]; omega), (by rw [decide_eq_true (by rw [List.length_cons]; omega)] at q; exact q)⟩
set_option maxHeartbeats 4000000 in
theorem ok_law_due (T : Txt K mg a) : FnE P w K mg base CX0 6 "_law_due" (spDue31 K a) := by
  refine fnE_of (sp := (spDue31 K a)) 5 T.fn_law_due sc_law_due (fun vs H Q E h => ?_) (fun f cdv A outer s H vs Q E hr h => ?_)
  · obtain ⟨c, l, d, prs, rs, ev, es, ls, rfl, _⟩ := h
    rfl
  · obtain ⟨c, l, d, prs, rs, ev, es, ls, rfl, hc, hrs, hl, hev, hd, E', hnd, h64, q⟩ := h
    have hpl := hrs.1
    have hel := hev.1
    have en := E'.ne
    have rn := E'.nr
    refine ⟨_, (pss_cons (ps_if (pt_cmpR (op_neK (K := K) rfl hr.units) (pe_callB (call_lenK (K := K) rfl) rfl T.z_len b_len (pa_cons (pv 1) pa_nil)) (pe_callB (call_lenK (K := K) rfl) rfl T.z_len b_len (pa_cons (pv 0) pa_nil)) (nomark _)) (pss_one (ps_ret (pe_lst (pa_cons (pe_tup (pa_cons (pe_un un_neg pe_int) (pa_cons (pe_un un_neg pe_int) (pa_cons pe_str pa_nil)))) pa_nil)))) pss_nil)
      (pss_cons (ps_set (i := 3) sc_law_due.nd rfl (Or.inl rfl) (pe_lst pa_nil))
      (pss_cons (ps_if (PW.pt (pw_and (pt_cmpR (op_neLA (K := K) rfl hr.units) (pv 0) (pe_lst pa_nil) (nomark _)) (pw_and1 (pt_cmpR (op_neK (K := K) rfl hr.units) (pe_ix (ix_K (K := K) rfl) (pv 1) pe_int (fun _ _ => rfl)) (pe_tup (pa_cons pe_int (pa_cons pe_int (pa_cons (pe_tup (pa_cons pe_int (pa_cons pe_int (pa_cons pe_int pa_nil)))) pa_nil)))) (nomark _))))) (pss_one (ps_expr (pe_bmK (K := K) rfl PySem.F.plainAttrs_list PySem.F.slot_list_append PySem.F.type_list_append mt_append (pv 3) (pa_cons (pe_tup (pa_cons (pe_un un_neg pe_int) (pa_cons pe_int (pa_cons pe_str pa_nil)))) pa_nil)))) pss_nil)
      (pss_cons (ps_for PassesOwn.never rfl (pi_range1 rfl T.z_range (pa_cons (pe_callB (call_lenK (K := K) rfl) rfl T.z_len b_len (pa_cons (pv 0) pa_nil)) pa_nil)) (pg_name (i := 4) sc_law_due.nd rfl (Or.inl rfl)) (pss_one (ps_if (pt_cmpR op_notNA (pe_ix (ix_K (K := K) rfl) (pv 1) (pv 4) (fun _ _ => rfl)) pe_non (nomark _)) (pss_one (ps_set (i := 3) sc_law_due.nd rfl (Or.inl rfl) (pe_op (op_plusK (K := K) rfl) (pv 3) (pe_callE (ok_law_of_row (K := K) T) (hr.mono (by decide)) pass0 rfl (pa_cons (pv 0) (pa_cons (pv 1) (pa_cons (pv 4) pa_nil))))))) pss_nil)))
      (pss_cons (ps_for PassesOwn.never rfl (pi_seqK (K := K) rfl (pe_callB (call_sortedD rfl) rfl T.z_sorted b_sorted (pa_cons (pv 2) pa_nil))) (pg_name (i := 4) sc_law_due.nd rfl (Or.inl rfl)) (pss_one (ps_set (i := 3) sc_law_due.nd rfl (Or.inl rfl) (pe_op (op_plusK (K := K) rfl) (pv 3) (pe_callE (ok_law_of_landing (K := K) T) (hr.mono (by decide)) pass0 rfl (pa_cons (pv 0) (pa_cons (pv 1) (pa_cons (pv 4) (pa_cons (pe_dget (hu_of hr) (pv 2) (pv 4) (fun _ _ => rfl)) pa_nil)))))))))
      (pss_one (ps_ret (pv 3)))))))), ?_⟩
    refine r_st (σ' := [some _, some _, some _, none, none]) rfl ?_
    walk_at "rd"
    rw [show (List.map V.ref prs).length = rs.length from by rw [List.length_map, hpl]]
    refine ifIntN (fun hh => ?_) (fun hh => ?_)
    · walk_at "rd"
      rename_i t1 nt1 l1 nl1
      have hck : checkC rs es ls [] = [⟨-1, -1, .length⟩] := by unfold checkC; rw [if_neg (by omega)]
      exact q l1 [.ref t1] [] _ (by walk_at "same") upd_same (fun z => absurd z (by omega)) (by rw [hck]; exact CmVs.one ⟨t1, rfl, by walk_at "hlk"⟩)
    have hre : es.length = rs.length := by omega
    have hck : ∀ ks, checkC rs es ls ks = startC rs es ++ rowsTo rs es rs.length ++ landsC rs es ls ks := fun ks => by unfold checkC; rw [if_pos hre]
    refine' join_cmD (D := fun lcm H1 => ∃ us, H lcm = none ∧ Same H H1 ∧ H1 lcm = some (.lst us) ∧ CmVs H1 us (startC rs es)) (PP := ?PP) ?key (fun kk => ?use)
    case use =>
      walk_at "rd"
      rename_i lcm nlc lz nlz
      refine r_neRows (by walk_at "hlk") upd_same ?_
      have sB : Same H (upd (upd H lcm (.lst [])) lz (.lst [])) := (same_new nlc).trans (same_new nlz)
      have hB : (upd (upd H lcm (.lst [])) lz (.lst [])) lcm = some (.lst []) := look_new upd_same nlz
      generalize (upd (upd H lcm (.lst [])) lz (.lst [])) = HB at sB hB ⊢
      clear nlz
      have hcB := sB _ _ hc
      have hlB := sB _ _ hl
      have hevB := hev.same sB
      by_cases h1' : 0 < prs.length
      · rw [decide_eq_true h1']
        obtain ⟨v, oe, hat, hoe, hmem, hv⟩ := hevB.at (c := 0) (Int.le_refl _) (by omega)
        have hoe : es[0]? = some oe := hoe
        have hst : startC rs es = if eqE oe stE = true then [] else [⟨-1, 0, .start⟩] := by unfold startC; rw [if_pos (by omega), hoe]; rfl
        walk_at "rd"
        rename_i ta nta tb ntb
        refine r_neE oe stE (hv.same ((same_new nta).trans (same_new ntb))).dp (start_dp (SqT.of upd_same) (SqT.of (look_new upd_same ntb))) ?_
        have sC := (same_new (o := .tup [.int 16, .int 32, .int 64]) nta).trans (same_new (o := .tup [.int 0, .int 128, .ref ta]) ntb)
        have hC := sC _ _ hB
        have sD := sB.trans sC
        have hcC := sD _ _ hc
        generalize (upd (upd HB ta (.tup [.int 16, .int 32, .int 64])) tb (.tup [.int 0, .int 128, .ref ta])) = HC at hC sD hcC ⊢
        clear sC nta ntb hcB hlB hB h1' hat hoe
        cases hb : eqE oe stE with
        | true =>
          rw [hb, if_pos rfl] at hst
          walk_at "rk"
          refine r_lenL (SqL.of hcC) ?_
          walk_at "rd"
          exact kk lcm HC ⟨_, nlc, sD, hC, by rw [hst]; exact CmVs.nil⟩
        | false =>
          rw [hb, if_neg (by decide)] at hst
          walk_at "rk"
          rename_i t1 nt1
          refine r_lenL (SqL.of (by walk_at "hlk")) ?_
          walk_at "rd"
          refine abs_cmD (H := H) (b := lcm) (cs := startC rs es) (fun b o e => by rw [upd_ne (ne_of_none e nlc)]; exact (sD.trans (same_new nt1)) b o e) upd_same ?_ (fun H9 s9 hb9 hc9 => ?_)
          · rw [hst]
            exact (CmVs.one ⟨t1, rfl, upd_same⟩).toD (tup_updD (look_new hC nt1))
          · exact kk lcm H9 ⟨_, nlc, s9, hb9, hc9⟩
      · rw [decide_eq_false h1']
        have hst : startC rs es = [] := by unfold startC; rw [if_neg (by omega)]
        walk_at "rk"
        refine r_lenL (SqL.of hcB) ?_
        walk_at "rd"
        exact kk lcm HB ⟨_, nlc, sB, hB, by rw [hst]; exact CmVs.nil⟩
    case key =>
      rintro lcm H1 ⟨us, nlc, s1, hlc, hcm⟩
      have sf := startC_few rs es
      refine for_range (fun i σ H2 => (∃ lf u, σ = [some (.ref c), some (.ref l), some (.ref d), some (.ref lf), u] ∧ ∃ us, H2 lf = some (.lst us) ∧ CmVs H2 us (startC rs es ++ rowsTo rs es i)) ∧ Same H H2) ⟨⟨lcm, _, rfl, us, hlc, by rw [show rowsTo rs es 0 = [] from rfl, List.append_nil]; exact hcm⟩, s1⟩ ?_ ?_
      · rintro i σ H2 hi ⟨⟨lf, u, rfl, us2, hlf, hcm2⟩, s2⟩
        rw [List.length_map] at hi
        clear s1 hlc hcm nlc
        have hi2 : i < rs.length := by omega
        have hri : rs[i]? = some rs[i] := List.getElem?_eq_getElem hi2
        obtain ⟨v, oe, hat, hoe, hmem, hv⟩ := hev.at (c := (i : Int)) (by omega) (by omega)
        rw [Int.toNat_natCast] at hoe
        rw [Int.zero_add]
        have hl2 := s2 _ _ hl
        have hcl2 := hcm2.1
        have f1 := rowsTo_few rs es i
        rw [List.length_append] at hcl2
        have hrc : ∀ e, oe = some e → rowsC rs es i = rowC rs[i] e i es := fun e he => by unfold rowsC; rw [hri, hoe, he]; rfl
        have hrn : oe = none → rowsC rs es i = [] := fun he => by unfold rowsC; rw [hri, hoe, he]; rfl
        rw [rowsTo_succ, ← List.append_assoc]
        walk_at "rd"
        cases oe with
        | none =>
          cases hv
          walk_at "rd"
          exact ⟨⟨lf, _, rfl, us2, hlf, by rw [hrn rfl, List.append_nil]; exact hcm2⟩, s2⟩
        | some e =>
          obtain ⟨pe, rfl, he⟩ := id hv
          walk_at "rd"
          refine ⟨c, l, i, prs, rs, ev, es, rs[i], e, rfl, s2 _ _ hc, hrs.same s2, hl2, hev.same s2, E', hre.symm, hri, hoe, fun p3 us3 H3 s3 hp3 hcm3 => ?_⟩
          have hlf3 := s3 _ _ hlf
          have hcl3 := hcm3.1
          have f2 := rowC_few rs[i] e i es
          walk_at "rd"
          rename_i ln nln
          exact ⟨⟨ln, _, rfl, _, upd_same, by rw [hrc e rfl]; exact ((hcm2.same s3).app hcm3).same (same_new nln)⟩, (s2.trans s3).trans (same_new nln)⟩
      rintro σ H2 ⟨⟨lf, u, rfl, us2, hlf, hcm2⟩, s2⟩
      rw [show (((List.map V.ref prs).length : Nat) : Int).toNat = rs.length from by rw [List.length_map, hpl]; omega] at hcm2
      clear s1 hlc hcm nlc
      have hd2 := s2 _ _ hd
      have f1 := rowsTo_few rs es rs.length
      walk_at "rd"
      refine r_sortD hd2 (land_keys ls) (by rw [List.length_map]; exact h64) fun ks pp hperm hpw hpp => ?_
      have hkl : ks.length < 64 := by rw [hperm.length_eq, List.length_map]; exact h64
      walk_at "rd"
      refine for_list (K := K) (a := pp) (xs := ks.map V.int) (fun i σ H4 => (∃ lf u, σ = [some (.ref c), some (.ref l), some (.ref d), some (.ref lf), u] ∧ ∃ us, H4 lf = some (.lst us) ∧ us.length ≤ 1100 + i ∧ CmVs H4 us (startC rs es ++ rowsTo rs es rs.length ++ landsC rs es ls (ks.take i))) ∧ Same H H4 ∧ H4 pp = some (.lst (ks.map V.int))) ⟨⟨lf, _, rfl, us2, look_new hlf hpp, by rw [hcm2.1, List.length_append]; omega, by rw [List.take_zero, show landsC rs es ls [] = [] from rfl, List.append_nil]; exact hcm2.same (same_new hpp)⟩, s2.trans (same_new hpp), upd_same⟩ (fun i σ H4 _ ⟨_, _, h4⟩ => SqL.of h4) ?_ ?_
      · rintro i v σ H4 hvi ⟨⟨lf, u, rfl, us4, hlf4, hul4, hcm4⟩, s4, hpp4⟩
        obtain ⟨k, hk, rfl⟩ : ∃ n, ks[i]? = some n ∧ v = .int n := by
          rw [List.getElem?_map] at hvi
          obtain ⟨p, hp, e⟩ := Option.map_eq_some_iff.mp hvi
          exact ⟨p, hp, e.symm⟩
        have hi : i < ks.length := (List.getElem?_eq_some_iff.mp hk).1
        obtain ⟨kv, hkv, hke⟩ := List.mem_map.mp (hperm.mem_iff.mp (List.mem_of_getElem? hk))
        obtain ⟨hv1, hv2⟩ := land_val hnd kv hkv
        rw [hke] at hv1 hv2
        rw [← hv2] at hv1
        have hd4 := s4 _ _ hd
        clear hd2 hlf hcm2 s2
        have htk : landsC rs es ls (ks.take (i + 1)) = landsC rs es ls (ks.take i) ++ ((landC rs es k (lv ls k)).map fun w => Cm.mk k (lv ls k) w).toList := by
          unfold landsC
          rw [List.take_add_one, hk, Option.toList_some, List.flatMap_append]; simp
        rw [htk]
        walk_at "rd"
        refine r_dGet ?_
        walk_at "rd"
        refine ⟨d, .int (lv ls k), rfl, .inl ⟨landKV ls, .inl k, .inl hd4, rfl, hv1.symm⟩, ?_⟩
        walk_at "rd"
        refine ⟨c, l, k, lv ls k, prs, rs, ev, es, rfl, s4 _ _ hc, hrs.same s4, s4 _ _ hl, hev.same s4, E', hre.symm, fun p5 us5 H5 s5 hp5 hcm5 => ?_⟩
        have hlf5 := s5 _ _ hlf4
        have hcl5 : us5.length ≤ 1 := by rw [hcm5.1]; cases landC rs es k (lv ls k) <;> exact Nat.le_of_ble_eq_true rfl
        walk_at "rd"
        rename_i ln nln
        exact ⟨⟨ln, _, rfl, _, upd_same, by rw [List.length_append]; omega, by rw [← List.append_assoc]; exact ((hcm4.same s5).app hcm5).same (same_new nln)⟩, (s4.trans s5).trans (same_new nln), look_new (s5 _ _ hpp4) nln⟩
      · rintro σ H4 ⟨⟨lf, u, rfl, us4, hlf4, hul4, hcm4⟩, s4, hpp4⟩
        rw [List.length_map, List.take_length] at hcm4
        walk_at "rd"
        exact q lf us4 ks H4 s4 hlf4 (fun _ => ⟨hperm, hpw⟩) (by rw [hck]; exact hcm4)
end
section
variable {P : Program} {w : World} {K : PySem.W.Frag} {mg : Str → Option Value} {base : Heap} {a : Adr}
local macro_rules | `(tactic| walk_at "rk") => `(tactic| repeat (first | walk_at "r1" | walk_at "r3" | walk_at "cond" | walk_at "calls" | walk_at "mine" | ((with_reducible refine' r_eqS ?h ?_); (case h => rfl)) | ((with_reducible refine' r_neS ?h ?_); (case h => rfl)) | ((with_reducible refine' r_fldV ?h ?c ?n ?l ?_); (case h => walk_at "hlk"); (case c => walk_at "cls"); (case n => walk_at "noat"); (case l => walk_at "lk"))))

theorem cut_one (v : V) {m : Int} (h : 0 ≤ m) : cutV [v] none (some m) = if m = 0 then [] else [v] := by
  unfold cutV
  rw [show HT.sIx [v].length 0 none = 0 from rfl, show HT.sIx [v].length [v].length (some m) = min m.toNat 1 from by rw [show m = ((m.toNat : Nat) : Int) from by omega]; exact HT.sIx_nat _ _ _]
  by_cases e : m = 0
  · subst e; rfl
  · rw [if_neg e, show min m.toNat 1 = 1 from by omega]; rfl
theorem join_en3 {D PP : Addr → Addr → Hp → Prop} {G : Prop} (key : ∀ lc le H3, D lc le H3 → PP lc le H3) (use : (∀ lc le H3, D lc le H3 → PP lc le H3) → G) : G := use key
def En3 (K : PySem.W.Frag) (HB : Hp) (prs : List Addr) (n : Nat) (lc le : Addr) (H3 : Hp) : Prop := H3 lc = some (.lst (prs.map V.ref)) ∧ Same HB H3 ∧ HB le = none ∧ lc ≠ le ∧ ∃ (ev : List V) (es : List (Option Ent)), H3 le = some (.lst ev) ∧ EntVs K H3 ev es ∧ (∀ o ∈ es, EntO o) ∧ es.length = n
theorem ents_upd {K : PySem.W.Frag} {H : Hp} {l : Addr} {ys : List V} {o : HO} {vs : List V} {es : List (Option Ent)} (h : H l = some (.lst ys)) (q : EntVs K H vs es) : EntVs K (upd H l o) vs es := by
  have sq : ∀ {p : Addr} {zs : List V}, SqT K H p zs → SqT K (upd H l o) p zs := fun {p zs} z => by
    rcases z with (z | ⟨ob, z⟩) | z
    · exact .inl (.inl (by rw [upd_ne (fun y => by rw [y, h] at z; cases z)]; exact z))
    · exact .inl (.inr ⟨ob, by rw [upd_ne (fun y => by rw [y, h] at z; cases z)]; exact z⟩)
    · exact .inr z
  refine ⟨q.1, fun i oe e => ?_⟩
  obtain ⟨v, e1, e2⟩ := q.2 i oe e
  refine ⟨v, e1, ?_⟩
  cases oe with
  | none => exact e2
  | some en =>
    obtain ⟨p, rfl, qq, h1, h2⟩ := e2
    exact ⟨p, rfl, qq, sq h1, sq h2⟩
theorem ent_one {K : PySem.W.Frag} {H : Hp} {m : Int} {v : V} {oe : Option Ent} (h : EntV K H v oe) (hn : EntO oe) (m0 : 0 ≤ m) : ∃ es, EntVs K H (if m = 0 then [] else [v]) es ∧ (∀ o ∈ es, EntO o) ∧ es.length = min m.toNat 1 := by
  by_cases e : m = 0
  · rw [if_pos e, e]
    exact ⟨[], EntVs.nil, (fun o z => by cases z), rfl⟩
  · rw [if_neg e]
    refine ⟨[oe], EntVs.snoc EntVs.nil h, fun o z => ?_, ?_⟩
    · have : o = oe := by simpa using z
      rw [this]; exact hn
    · show 1 = _; omega

theorem cut_m1 (xs : List V) : cutV xs none (some (-1)) = xs.take (xs.length - 1) := by
  unfold cutV
  have e1 : HT.sIx xs.length 0 none = 0 := rfl
  have e2 : HT.sIx xs.length xs.length (some (-1)) = xs.length - 1 := by
    show (if (-1 : Int) < 0 then ((-1 : Int) + (xs.length : Int)).toNat else min (-1 : Int).toNat xs.length) = _
    rw [if_pos (by decide)]; omega
  rw [e1, e2, List.drop_zero, Nat.sub_zero]
theorem EntVs.tk {K : PySem.W.Frag} {H : Hp} {vs : List V} {es : List (Option Ent)} (h : EntVs K H vs es) (n : Nat) : EntVs K H (vs.take n) (es.take n) := by
  refine ⟨by rw [List.length_take, List.length_take, h.1], fun i oe e => ?_⟩
  rw [List.getElem?_take] at e
  split at e
  · rename_i hlt
    obtain ⟨v, e1, e2⟩ := h.2 i oe e
    exact ⟨v, by rw [List.getElem?_take, if_pos hlt]; exact e1, e2⟩
  · cases e
def En4 (K : PySem.W.Frag) (HB : Hp) (prs : List Addr) (lc le : Addr) (H3 : Hp) : Prop := H3 lc = some (.lst (prs.map V.ref)) ∧ Same HB H3 ∧ ∃ (ev : List V) (es : List (Option Ent)), H3 le = some (.lst ev) ∧ EntVs K H3 ev es ∧ (∀ o ∈ es, EntO o) ∧ es.length ≤ 9
theorem join_en4 {D PP : Addr → Addr → Option V → Hp → Prop} {G : Prop} (key : ∀ lc le u H3, D lc le u H3 → PP lc le u H3) (use : (∀ lc le u H3, D lc le u H3 → PP lc le u H3) → G) : G := use key
set_option maxHeartbeats 4000000 in
theorem law_fn {fa : Addr} {fd : FuncData} (T : Txt K mg a) (F : Fun K "law" "law" s_law fa fd) : FnOk P w K mg base CX0 7 fa fd ["_law_script"] (spLaw K) := by
  refine F.ok (k := 6) sc_law (fun vs H Q E h => ?_) (fun cdv A outer s H vs Q E hr h => ?_)
  · obtain ⟨a0, ns, rfl, _⟩ := h
    rfl
  · obtain ⟨a0, ns, rfl, hS, h63, q⟩ := h
    refine ⟨_, (pss_cons (ps_set (i := 1) sc_law.nd rfl (Or.inr rfl) (pe_op op_mod (pe_callE (ok_law_cell_at (K := K) T) (hr.mono (by decide)) pass0 rfl (pa_cons (pv 0) (pa_cons pe_int pa_nil))) pe_int))
      (pss_cons (ps_setC (i := 2) sc_law.nd rfl rfl (own := ["_law_k"]) (fr := [("_law_script", 0), ("_law_many", 1)]) rfl ⟨rfl, (by walk_at "clok"), (by walk_at "frok"), rfl, (by decide +kernel), (by decide +kernel), rfl⟩ (pi_range1 rfl T.z_range (pa_cons (pv 1) pa_nil)) (fun _ _ _ _ => (pg_name (i := 0) (show List.Nodup [("_law_k" : Str), ("_law_script" : Str), ("_law_many" : Str)] from by decide +kernel) rfl (Or.inl rfl))) (fun _ _ _ _ => pts_nil) (fun _ _ _ _ => (pe_callE (ok_law_row (K := K) T) (hr.mono (by decide)) pass0 rfl (pa_cons (pe_callE (ok_law_cell_at (K := K) T) (hr.mono (by decide)) pass0 rfl (pa_cons (pv 1) (pa_cons (pe_op (op_plusK (K := K) rfl) pe_int (pv 0)) pa_nil))) (pa_cons (pv 2) pa_nil)))))
      (pss_cons (ps_set (i := 3) sc_law.nd rfl (Or.inl rfl) (pe_slice (sl_K (K := K) rfl) (pe_lst (pa_cons (pe_tup (pa_cons pe_int (pa_cons pe_int (pa_cons (pe_tup (pa_cons pe_int (pa_cons pe_int (pa_cons pe_int pa_nil)))) pa_nil)))) pa_nil)) po_none (po_some (pv 1))))
      (pss_cons (ps_if (pt_cmpR (op_eqK (K := K) rfl hr.units) (pe_op op_mod (pe_callE (ok_law_cell_at (K := K) T) (hr.mono (by decide)) pass0 rfl (pa_cons (pv 0) (pa_cons pe_int pa_nil))) pe_int) pe_int (nomark _)) (pss_one (ps_set (i := 3) sc_law.nd rfl (Or.inl rfl) (pe_slice (sl_K (K := K) rfl) (pe_lst (pa_cons pe_non pa_nil)) po_none (po_some (pv 1))))) pss_nil)
      (pss_cons (ps_for PassesOwn.never rfl (pi_range2 rfl T.z_range (pa_cons pe_int (pa_cons (pv 1) pa_nil))) (pg_name (i := 4) sc_law.nd rfl (Or.inl rfl)) (pss_one (ps_expr (pe_bmK (K := K) rfl PySem.F.plainAttrs_list PySem.F.slot_list_append PySem.F.type_list_append mt_append (pv 3) (pa_cons (pe_callE (ok_law_entry (K := K) T) (hr.mono (by decide)) pass0 rfl (pa_cons (pe_callE (ok_law_cell_at (K := K) T) (hr.mono (by decide)) pass0 rfl (pa_cons (pv 0) (pa_cons (pe_op (op_plusK (K := K) rfl) pe_int (pv 4)) pa_nil))) (pa_cons (pe_ix (ix_K (K := K) rfl) (pv 3) (pe_op op_sub (pv 4) pe_int) (fun _ _ => rfl)) (pa_cons (pe_ix (ix_K (K := K) rfl) (pv 2) (pe_op op_sub (pv 4) pe_int) (fun _ _ => rfl)) pa_nil)))) pa_nil)))))
      (pss_cons (ps_if (pt_cmpR (op_eqK (K := K) rfl hr.units) (pe_op op_mod (pe_op op_fdiv (pe_callE (ok_law_cell_at (K := K) T) (hr.mono (by decide)) pass0 rfl (pa_cons (pv 0) (pa_cons pe_int pa_nil))) pe_int) pe_int) pe_int (nomark _)) (pss_one (ps_set (i := 3) sc_law.nd rfl (Or.inl rfl) (pe_ix (ix_K (K := K) rfl) (pe_lst (pa_cons (pe_slice (sl_K (K := K) rfl) (pv 3) po_none (po_some (pe_un un_neg pe_int))) (pa_cons (pe_op (op_plusK (K := K) rfl) (pv 3) (pe_lst (pa_cons pe_non pa_nil))) pa_nil))) (pe_op op_mod (pe_op op_fdiv (pe_callE (ok_law_cell_at (K := K) T) (hr.mono (by decide)) pass0 rfl (pa_cons (pv 0) (pa_cons pe_int pa_nil))) pe_int) pe_int) (fun _ _ => rfl)))) pss_nil)
      (pss_cons (ps_set (i := 5) sc_law.nd rfl (Or.inl rfl) pe_dnewK)
      (pss_cons (ps_for PassesOwn.never rfl (pi_seqK (K := K) rfl (pe_slice (sl_K (K := K) rfl) (pv 0) (po_some pe_int) (po_some (pe_op (op_plusK (K := K) rfl) pe_int (pe_op op_mod (pe_op op_fdiv (pe_callE (ok_law_cell_at (K := K) T) (hr.mono (by decide)) pass0 rfl (pa_cons (pv 0) (pa_cons pe_int pa_nil))) pe_int) pe_int))))) (pg_name (i := 6) sc_law.nd rfl (Or.inl rfl)) (pss_one (ps_dput (hu_of hr) (pv 5) (pe_op op_sub (pe_op op_mod (pv 6) (pe_op (op_plusK (K := K) rfl) (pv 1) pe_int)) pe_int) (pe_op op_sub (pe_op op_mod (pe_op op_fdiv (pv 6) pe_int) (pe_op (op_plusK (K := K) rfl) (pv 1) pe_int)) pe_int) rfl)))
      (pss_cons (ps_if (pt_cmpR (op_neK (K := K) rfl hr.units) (pe_glob (v := .ref a.G_START) rfl T.s_START rfl) (pe_tup (pa_cons pe_int (pa_cons pe_int (pa_cons (pe_tup (pa_cons pe_int (pa_cons pe_int (pa_cons pe_int pa_nil)))) pa_nil)))) (nomark _)) (pss_one (ps_ret pe_bl)) pss_nil)
      (pss_cons (ps_set (i := 7) sc_law.nd rfl (Or.inl rfl) (pe_callE (ok_checked (K := K) T) (hr.mono (by decide)) pass0 rfl (pa_cons (pe_callTy (call_listK (K := K) rfl) rfl T.z_list b_list (pa_cons (pv 2) pa_nil)) (pa_cons (pe_makeE (mk_Table (K := K) T) (hr.mono (by decide)) pass0 rfl (pa_cons (pv 3) (pa_cons (pv 5) pa_nil))) pa_nil))))
      (pss_one (ps_ret (pe_and (pe_callE (ok_law_told (K := K) T) (hr.mono (by decide)) pass0 rfl (pa_cons (pv 7) pa_nil)) (pe_one (pe_cmpR (op_eqK (K := K) rfl hr.units) (pv 7) (pe_callE (ok_law_due (K := K) T) (hr.mono (by decide)) pass0 rfl (pa_cons (pv 2) (pa_cons (pv 3) (pa_cons (pv 5) pa_nil)))) (nomark _)))))))))))))))), ?_⟩
    refine r_st (σ' := [some _, none, none, none, none, none, none, none]) rfl ?_
    walk_at "rd"
    have hm : 0 ≤ cellAt ns 0 % 9 ∧ cellAt ns 0 % 9 ≤ 8 := by omega
    generalize cellAt ns 0 % 9 = m at hm ⊢
    obtain ⟨m0, m8⟩ := hm
    walk_at "rd"
    refine comp_range (fun i ys σ H1 => (∃ v, σ = [v, some (.ref a0), some (.int m)]) ∧ Same H H1 ∧ ∃ (prs : List Addr) (rs : List Rw), ys = prs.map V.ref ∧ prs.length = i ∧ RowsAt a H1 prs rs ∧ ∀ r ∈ rs, r.ok ∧ r.here) ⟨⟨_, rfl⟩, Same.refl _, [], [], rfl, rfl, RowsAt.nil, (fun _ z => by cases z)⟩ ?_ ?_ ?_
    · rintro i ys σ H1 hi ⟨_, _, prs, rs, rfl, e, _⟩
      rw [List.length_map, e]
      walk_at "small"
    · rintro i ys σ H1 hi ⟨⟨v, rfl⟩, s1, prs, rs, rfl, hl, hr1, hok⟩
      have hS1 := Same.seq s1 hS
      walk_at "rd"
      refine ⟨_, _, rfl, m0, m8, fun p r H2 s2 hp ok he => ?_⟩
      refine ⟨⟨_, rfl⟩, s1.trans s2, prs ++ [p], rs ++ [r], by rw [List.map_append]; rfl, by rw [List.length_append, hl]; rfl, (hr1.same s2).snoc hp, fun x hx => ?_⟩
      rcases List.mem_append.mp hx with z | z
      · exact hok x z
      · have e : x = r := by simpa using z
        rw [e]; exact ⟨ok, he⟩
    rintro ys σ H1 ⟨_, s1, prs, rs, rfl, hl, hr1, hok⟩
    have hS1 := Same.seq s1 hS
    have hrl := hr1.1
    clear s1 hS
    refine' join_en4 (D := fun lc le u H4 => En4 K H1 prs lc le H4) (PP := ?PP1) ?key1 (fun kk1 => ?use1)
    case use1 =>
      refine' join_en3 (D := En3 K H1 prs (min m.toNat 1)) (PP := ?PP0) ?key0 (fun kk => ?use0)
      case use0 =>
        walk_at "rk"
        rename_i lc nlc ta nta tb ntb l1 nl1 le nle
        rw [cut_one _ m0]
        have sX : Same H1 (upd (upd (upd (upd (upd H1 lc (.lst (prs.map V.ref))) ta (.tup [.int 16, .int 32, .int 64])) tb (.tup [.int 0, .int 128, .ref ta])) l1 (.lst [.ref tb])) le (.lst (if m = 0 then [] else [.ref tb]))) := by walk_at "same"
        have b1 : (upd (upd (upd (upd (upd H1 lc (.lst (prs.map V.ref))) ta (.tup [.int 16, .int 32, .int 64])) tb (.tup [.int 0, .int 128, .ref ta])) l1 (.lst [.ref tb])) le (.lst (if m = 0 then [] else [.ref tb]))) lc = some (.lst (prs.map V.ref)) := by walk_at "hlk"
        have b2 : (upd (upd (upd (upd (upd H1 lc (.lst (prs.map V.ref))) ta (.tup [.int 16, .int 32, .int 64])) tb (.tup [.int 0, .int 128, .ref ta])) l1 (.lst [.ref tb])) le (.lst (if m = 0 then [] else [.ref tb]))) ta = some (.tup [.int 16, .int 32, .int 64]) := by walk_at "hlk"
        have b3 : (upd (upd (upd (upd (upd H1 lc (.lst (prs.map V.ref))) ta (.tup [.int 16, .int 32, .int 64])) tb (.tup [.int 0, .int 128, .ref ta])) l1 (.lst [.ref tb])) le (.lst (if m = 0 then [] else [.ref tb]))) tb = some (.tup [.int 0, .int 128, .ref ta]) := by walk_at "hlk"
        have b4 : (upd (upd (upd (upd (upd H1 lc (.lst (prs.map V.ref))) ta (.tup [.int 16, .int 32, .int 64])) tb (.tup [.int 0, .int 128, .ref ta])) l1 (.lst [.ref tb])) le (.lst (if m = 0 then [] else [.ref tb]))) le = some (.lst (if m = 0 then [] else [.ref tb])) := upd_same
        have nce : lc ≠ le := by walk_at "ne"
        have nle1 : H1 le = none := by walk_at "none"
        clear nlc nta ntb nl1 nle
        generalize (upd (upd (upd (upd (upd H1 lc (.lst (prs.map V.ref))) ta (.tup [.int 16, .int 32, .int 64])) tb (.tup [.int 0, .int 128, .ref ta])) l1 (.lst [.ref tb])) le (.lst (if m = 0 then [] else [.ref tb]))) = H2 at sX b1 b2 b3 b4 ⊢
        have hr2 := hr1.same sX
        have hS2 := Same.seq sX hS1
        refine ifInt (fun g1 => ?_) (fun g1 => ?_)
        · walk_at "rk"
          rename_i l3 nl3 l4 nl4
          rw [cut_one _ m0]
          have sY : Same H2 (upd (upd H2 l3 (.lst [.non])) l4 (.lst (if m = 0 then [] else [.non]))) := (same_new nl3).trans (same_new nl4)
          have c1 : (upd (upd H2 l3 (.lst [.non])) l4 (.lst (if m = 0 then [] else [.non]))) l4 = some (.lst (if m = 0 then [] else [.non])) := upd_same
          have nc4 : lc ≠ l4 := ne_of_none (look_new b1 nl3) nl4
          have nl41 : H1 l4 = none := none_same (sX.trans (same_new nl3)) nl4
          generalize (upd (upd H2 l3 (.lst [.non])) l4 (.lst (if m = 0 then [] else [.non]))) = H3 at sY c1 ⊢
          obtain ⟨es, d1, d2, d3⟩ := ent_one (K := K) (H := H3) (v := .non) (oe := none) (m := m) rfl (fun e z => by cases z) m0
          exact kk lc l4 H3 ⟨sY _ _ b1, sX.trans sY, nl41, nc4, _, es, c1, d1, d2, d3⟩
        · walk_at "rk"
          obtain ⟨es, d1, d2, d3⟩ := ent_one (K := K) (H := H2) (v := .ref tb) (oe := stE) (m := m) ⟨tb, rfl, ta, SqT.of b3, SqT.of b2⟩ (fun e z => by cases z; exact ⟨by decide, by decide, by decide, by decide⟩) m0
          exact kk lc le H2 ⟨b1, sX, nle1, nce, _, es, b4, d1, d2, d3⟩
      case key0 =>
        rintro lc le H2 ⟨hlc, s2, nle, nce, ev, es, hle, hev, hno, hlen⟩
        refine ⟨1, m, rfl, ⟨by omega, by omega, by omega, by omega⟩, ?_⟩
        refine for_range (fun i σ H3 => (∃ u, σ = [some (.ref a0), some (.int m), some (.ref lc), some (.ref le), u, none, none, none]) ∧ En3 K H1 prs (min m.toNat 1 + i) lc le H3) ⟨⟨_, rfl⟩, hlc, s2, nle, nce, ev, es, hle, hev, hno, hlen⟩ ?_ ?_
        · rintro i σ H3 hi ⟨⟨u, rfl⟩, hlc3, s3, _, _, ev3, es3, hle3, hev3, hno3, hlen3⟩
          clear hlc s2 hle hev hno hlen
          have hS3 := Same.seq s3 hS1
          have hm2 : min m.toNat 1 = 1 := by omega
          rw [hm2] at hlen3 ⊢
          have hil : i < prs.length := by omega
          obtain ⟨v, oe, hat, hoe, hmem, hv⟩ := hev3.at (c := (i : Int)) (by omega) (by omega)
          obtain ⟨p, hp⟩ : ∃ p, prs[i]? = some p := ⟨_, List.getElem?_eq_getElem hil⟩
          have hri : rs[i]? = some rs[i] := List.getElem?_eq_getElem (by omega)
          obtain ⟨dx, hx⟩ := hr1.2 i p _ hp hri
          obtain ⟨ok, hh⟩ := hok _ (List.mem_of_getElem? hri)
          have hat1 : atI ev3 (1 + (i : Int) - 1) = some v := by rw [show 1 + (i : Int) - 1 = (i : Int) from by omega]; exact hat
          have hatp : atI (prs.map V.ref) (1 + (i : Int) - 1) = some (.ref p) := by rw [show 1 + (i : Int) - 1 = (i : Int) from by omega]; exact atI_nat (by rw [List.getElem?_map, hp]; rfl)
          have hel3 := hev3.1
          clear hat
          walk_at "rk"
          refine ⟨_, v, p, oe, rs[i], rfl, hv, hno3 oe hmem, ⟨dx, s3 _ _ hx⟩, ok, hh, fun u4 o4 H4 s4 hv4 hn4 => ?_⟩
          have hle4 := s4 _ _ hle3
          have hlc4 := s4 _ _ hlc3
          walk_at "rk"
          refine ⟨⟨_, rfl⟩, by rw [upd_ne nce]; exact hlc4, fun b o e => by rw [upd_ne (ne_of_none e nle)]; exact (s3.trans s4) b o e, nle, nce, ev3 ++ [u4], es3 ++ [o4], upd_same, ents_upd hle4 ((hev3.same s4).snoc hv4), fun o ho => ?_, by rw [List.length_append, hlen3]; rfl⟩
          rcases List.mem_append.mp ho with z | z
          · exact hno3 o z
          · have e : o = o4 := by simpa using z
            rw [e]; exact hn4
        rintro σ H3 ⟨⟨u, rfl⟩, hlc3, s3, _, _, ev3, es3, hle3, hev3, hno3, hlen3⟩
        clear hlc s2 hle hev hno hlen
        have hlen4 : es3.length = m.toNat := by omega
        clear hlen3
        have hS3 := Same.seq s3 hS1
        have hel3 := hev3.1
        walk_at "rk"
        refine ifInt (fun g1 => ?_) (fun g1 => ?_)
        · walk_at "rk"
          rename_i l5 n5 l6 n6 l7 n7 l8 n8
          rw [cut_m1] at n6 n7 n8 ⊢
          have sW : Same H3 (upd (upd (upd (upd H3 l5 (.lst (ev3.take (ev3.length - 1)))) l6 (.lst [.non])) l7 (.lst (ev3 ++ [.non]))) l8 (.lst [.ref l5, .ref l7])) := (same_new n5).trans ((same_new n6).trans ((same_new n7).trans (same_new n8)))
          have c5 : (upd (upd (upd (upd H3 l5 (.lst (ev3.take (ev3.length - 1)))) l6 (.lst [.non])) l7 (.lst (ev3 ++ [.non]))) l8 (.lst [.ref l5, .ref l7])) l5 = some (.lst (ev3.take (ev3.length - 1))) := look_new (look_new (look_new upd_same n6) n7) n8
          have c7 : (upd (upd (upd (upd H3 l5 (.lst (ev3.take (ev3.length - 1)))) l6 (.lst [.non])) l7 (.lst (ev3 ++ [.non]))) l8 (.lst [.ref l5, .ref l7])) l7 = some (.lst (ev3 ++ [.non])) := look_new upd_same n8
          have c8 : (upd (upd (upd (upd H3 l5 (.lst (ev3.take (ev3.length - 1)))) l6 (.lst [.non])) l7 (.lst (ev3 ++ [.non]))) l8 (.lst [.ref l5, .ref l7])) l8 = some (.lst [.ref l5, .ref l7]) := upd_same
          generalize (upd (upd (upd (upd H3 l5 (.lst (ev3.take (ev3.length - 1)))) l6 (.lst [.non])) l7 (.lst (ev3 ++ [.non]))) l8 (.lst [.ref l5, .ref l7])) = H5 at sW c5 c7 c8 ⊢
          rcases (show cellAt ns 1 / 117 % 2 = 0 ∨ cellAt ns 1 / 117 % 2 = 1 by omega) with h | h
          · rw [h]
            refine r_ixL (SqL.of c8) (v := .ref l5) rfl ?_
            (refine' r_gN ?x5 ?_; (case x5 => simp only [List.set_cons_succ, List.set_cons_zero]; rfl))
            exact kk1 lc l5 u H5 ⟨sW _ _ hlc3, s3.trans sW, _, _, c5, (hev3.same sW).tk _, fun o ho => hno3 o (List.mem_of_mem_take ho), by rw [List.length_take]; omega⟩
          · rw [h]
            refine r_ixL (SqL.of c8) (v := .ref l7) rfl ?_
            (refine' r_gN ?x6 ?_; (case x6 => simp only [List.set_cons_succ, List.set_cons_zero]; rfl))
            refine kk1 lc l7 u H5 ⟨sW _ _ hlc3, s3.trans sW, _, es3 ++ [none], c7, (hev3.same sW).snoc rfl, fun o ho => ?_, by rw [List.length_append]; show _ + 1 ≤ 9; omega⟩
            rcases List.mem_append.mp ho with z | z
            · exact hno3 o z
            · have e : o = none := by simpa using z
              rw [e]; exact fun e' z' => by cases z'
        · refine r_next ?_
          exact kk1 lc le u H3 ⟨hlc3, s3, ev3, es3, hle3, hev3, hno3, by omega⟩
    case key1 =>
      rintro lc le u H4 ⟨hlc4, s4, ev4, es4, hle4, hev4, hno4, hn4⟩
      have hS4 := Same.seq s4 hS1
      have hr4 := hr1.same s4
      clear s4 hS1 hr1
      walk_at "rk"
      rename_i ld nld li nli
      exact law_tail T h63 q m0 m8 hl hok hrl hlc4 hle4 hev4 hno4 hn4 hr4 nld nli
end
theorem funD_mk2 {K : PySem.W.Frag} {x qual : Str} {st : Stmt} {f da : Addr} {n : Nat} {oc dc : Value} {od an dd : Option Addr} {osl dl : Array (Option Value)} {kV doc pm cdv ct : Value} (l : K.lookup f = some ⟨oc, od, .func (PySem.W.fnOf x qual (defArgs st) (defBody st) (defScope st) (.ref da) kV doc pm an cdv ct), osl⟩)
    (d : K.lookup da = some ⟨dc, dd, .seq #[.none] n, dl⟩) (c : PySem.W.codeIn K cdv qual = true) (k : PySem.W.keepIn K (.ref f) = true) : FunD K x qual st f (PySem.W.fnOf x qual (defArgs st) (defBody st) (defScope st) (.ref da) kV doc pm an cdv ct) := funD_mk l ⟨d, n, rfl⟩ c k
theorem bindsF {K : PySem.W.Frag} {x qual : Str} {st : Stmt} {f : Addr} {fd : FuncData} {ps : List Str} (F : FunD K x qual st f fd)
    (h : ∀ (da : Addr) (kV doc pm : Value) (an : Option Addr) (cdv ct : Value) (us : List Value), us.length = ps.length → ∃ k : Option (Array Value) → Sem (List (Str × Value)), bindArgs (PySem.W.fnOf x qual (defArgs st) (defBody st) (defScope st) (.ref da) kV doc pm an cdv ct) ⟨us, []⟩ = seqItems? (.ref da) >>= k ∧ k (some #[.none]) = pure (ps.zip us)) : Binds K fd ps [] := by
  obtain ⟨oc, od, da, kV, doc, pm, an, cdv, ct, osl, o, n, rfl, lk, hcd, ld, ed⟩ := F.ex
  intro s us KX hl
  rw [List.append_nil] at hl ⊢
  obtain ⟨k, h1, h2⟩ := h da kV doc pm an cdv ct us hl
  exact .of_defaults rfl (KX _ _ ld) ed h1 h2
set_option maxHeartbeats 8000000 in
theorem txt_mk {K : PySem.W.Frag} {h : Heap} {mg : Str → Option Value} {fa : Addr} (X : K.In h) (G : h.Ns mainGlobals mg) (hfa : mg "law" = some (.ref fa))
    {t_FIRST_CELL_BIT : Tok}
    {tk1 : Tok}
    {tk2 : Tok}
    {tk3 : Tok}
    {od4 : Option Addr} {nn4 : Nat} {sl4 : Array (Option Value)}
    {G_KEPT_BOXES : Addr}
    {t_LOST_BY_CALL : Tok}
    {tk5 : Tok}
    {tk6 : Tok}
    {tk7 : Tok}
    {tk8 : Tok}
    {od9 : Option Addr} {nn9 : Nat} {sl9 : Array (Option Value)}
    {G_SET_NAMES : Addr}
    {tk10 : Tok}
    {tk11 : Tok}
    {od12 : Option Addr} {nn12 : Nat} {sl12 : Array (Option Value)}
    {tk13 : Tok}
    {tk14 : Tok}
    {tk15 : Tok}
    {od16 : Option Addr} {nn16 : Nat} {sl16 : Array (Option Value)}
    {G_START : Addr}
    {q0_START : Addr}
    {t_TOP_BOX : Tok}
    {t_TOP_CELLS : Tok}
    {t_TOP_TARGET : Tok}
    {t_TOP_VALUE : Tok}
    {C_Add : Addr}
    {C_Back : Addr}
    {C_Branch : Addr}
    {C_Call : Addr}
    {C_Copy : Addr}
    {C_Drop : Addr}
    {C_Get : Addr}
    {C_Grow : Addr}
    {C_Jump : Addr}
    {C_NoRow : Addr}
    {C_Put : Addr}
    {C_Set : Addr}
    {C_Shrink : Addr}
    {C_Table : Addr}
    {f17 : Addr} {od17 an17 : Option Addr} {sl17 : Array (Option Value)} {oc17 kV17 dc17 pm17 cd17 ct17 : Value}
    {f18 : Addr} {od18 an18 : Option Addr} {sl18 : Array (Option Value)} {oc18 kV18 dc18 pm18 cd18 ct18 : Value}
    {f19 : Addr} {od19 an19 : Option Addr} {sl19 : Array (Option Value)} {oc19 kV19 dc19 pm19 cd19 ct19 : Value}
    {f20 : Addr} {od20 an20 : Option Addr} {sl20 : Array (Option Value)} {oc20 kV20 dc20 pm20 cd20 ct20 : Value}
    {f21 : Addr} {od21 an21 : Option Addr} {sl21 : Array (Option Value)} {oc21 kV21 dc21 pm21 cd21 ct21 : Value}
    {f22 : Addr} {od22 an22 : Option Addr} {sl22 : Array (Option Value)} {oc22 kV22 dc22 pm22 cd22 ct22 : Value}
    {f23 : Addr} {od23 an23 : Option Addr} {sl23 : Array (Option Value)} {oc23 kV23 dc23 pm23 cd23 ct23 : Value}
    {f24 : Addr} {od24 an24 : Option Addr} {sl24 : Array (Option Value)} {oc24 kV24 dc24 pm24 cd24 ct24 : Value}
    {f25 : Addr} {od25 an25 : Option Addr} {sl25 : Array (Option Value)} {oc25 kV25 dc25 pm25 cd25 ct25 : Value}
    {f26 : Addr} {od26 an26 : Option Addr} {sl26 : Array (Option Value)} {oc26 kV26 dc26 pm26 cd26 ct26 : Value}
    {f27 : Addr} {od27 an27 : Option Addr} {sl27 : Array (Option Value)} {oc27 kV27 dc27 pm27 cd27 ct27 : Value}
    {f28 : Addr} {od28 an28 : Option Addr} {sl28 : Array (Option Value)} {oc28 kV28 dc28 pm28 cd28 ct28 : Value}
    {f29 : Addr} {od29 an29 : Option Addr} {sl29 : Array (Option Value)} {oc29 kV29 dc29 pm29 cd29 ct29 : Value}
    {f30 : Addr} {od30 an30 : Option Addr} {sl30 : Array (Option Value)} {oc30 kV30 dc30 pm30 cd30 ct30 : Value}
    {f31 : Addr} {od31 an31 : Option Addr} {sl31 : Array (Option Value)} {oc31 kV31 dc31 pm31 cd31 ct31 : Value}
    {f32 : Addr} {od32 an32 : Option Addr} {sl32 : Array (Option Value)} {oc32 kV32 dc32 pm32 cd32 ct32 : Value}
    {f33 : Addr} {od33 an33 : Option Addr} {sl33 : Array (Option Value)} {oc33 kV33 dc33 pm33 cd33 ct33 : Value}
    {f34 : Addr} {od34 an34 : Option Addr} {sl34 : Array (Option Value)} {oc34 kV34 dc34 pm34 cd34 ct34 : Value}
    {f35 : Addr} {od35 an35 : Option Addr} {sl35 : Array (Option Value)} {oc35 kV35 dc35 pm35 cd35 ct35 : Value}
    {f36 : Addr} {od36 an36 : Option Addr} {sl36 : Array (Option Value)} {oc36 kV36 dc36 pm36 cd36 ct36 : Value}
    {f37 : Addr} {od37 an37 : Option Addr} {sl37 : Array (Option Value)} {oc37 kV37 dc37 pm37 cd37 ct37 : Value}
    {f38 : Addr} {od38 an38 : Option Addr} {sl38 : Array (Option Value)} {oc38 kV38 dc38 pm38 cd38 ct38 : Value}
    {f39 : Addr} {od39 an39 : Option Addr} {sl39 : Array (Option Value)} {oc39 kV39 dc39 pm39 cd39 ct39 : Value}
    {f40 : Addr} {od40 an40 : Option Addr} {sl40 : Array (Option Value)} {oc40 kV40 dc40 pm40 cd40 ct40 : Value}
    {f41 : Addr} {od41 an41 : Option Addr} {sl41 : Array (Option Value)} {oc41 kV41 dc41 pm41 cd41 ct41 : Value}
    {f42 : Addr} {od42 an42 : Option Addr} {sl42 : Array (Option Value)} {oc42 kV42 dc42 pm42 cd42 ct42 : Value}
    {f43 : Addr} {od43 an43 : Option Addr} {sl43 : Array (Option Value)} {oc43 kV43 dc43 pm43 cd43 ct43 : Value}
    {f44 : Addr} {od44 an44 : Option Addr} {sl44 : Array (Option Value)} {oc44 kV44 dc44 pm44 cd44 ct44 : Value}
    {f45 : Addr} {od45 an45 : Option Addr} {sl45 : Array (Option Value)} {oc45 kV45 dc45 pm45 cd45 ct45 : Value}
    {f46 : Addr} {od46 an46 : Option Addr} {sl46 : Array (Option Value)} {oc46 kV46 dc46 pm46 cd46 ct46 : Value}
    {f47 : Addr} {od47 an47 : Option Addr} {sl47 : Array (Option Value)} {oc47 kV47 dc47 pm47 cd47 ct47 : Value}
    {f48 : Addr} {od48 an48 : Option Addr} {sl48 : Array (Option Value)} {oc48 kV48 dc48 pm48 cd48 ct48 : Value}
    {f49 : Addr} {od49 an49 : Option Addr} {sl49 : Array (Option Value)} {oc49 kV49 dc49 pm49 cd49 ct49 : Value}
    {f50 : Addr} {od50 an50 : Option Addr} {sl50 : Array (Option Value)} {oc50 kV50 dc50 pm50 cd50 ct50 : Value}
    {f51 : Addr} {od51 an51 : Option Addr} {sl51 : Array (Option Value)} {oc51 kV51 dc51 pm51 cd51 ct51 : Value}
    {f52 : Addr} {od52 an52 : Option Addr} {sl52 : Array (Option Value)} {oc52 kV52 dc52 pm52 cd52 ct52 : Value}
    {f53 : Addr} {od53 an53 : Option Addr} {sl53 : Array (Option Value)} {oc53 kV53 dc53 pm53 cd53 ct53 : Value}
    {f54 : Addr} {od54 an54 : Option Addr} {sl54 : Array (Option Value)} {oc54 kV54 dc54 pm54 cd54 ct54 : Value}
    {f55 : Addr} {od55 an55 : Option Addr} {sl55 : Array (Option Value)} {oc55 kV55 dc55 pm55 cd55 ct55 : Value}
    {f56 : Addr} {od56 an56 : Option Addr} {sl56 : Array (Option Value)} {oc56 kV56 dc56 pm56 cd56 ct56 : Value}
    {f57 : Addr} {od57 an57 : Option Addr} {sl57 : Array (Option Value)} {oc57 kV57 dc57 pm57 cd57 ct57 : Value}
    {f58 : Addr} {od58 an58 : Option Addr} {sl58 : Array (Option Value)} {oc58 kV58 dc58 pm58 cd58 ct58 : Value}
    {f59 : Addr} {od59 an59 : Option Addr} {sl59 : Array (Option Value)} {oc59 kV59 dc59 pm59 cd59 ct59 : Value}
    {f60 : Addr} {od60 an60 : Option Addr} {sl60 : Array (Option Value)} {oc60 kV60 dc60 pm60 cd60 ct60 : Value}
    {f61 : Addr} {od61 an61 : Option Addr} {sl61 : Array (Option Value)} {oc61 kV61 dc61 pm61 cd61 ct61 : Value}
    {f62 : Addr} {od62 an62 : Option Addr} {sl62 : Array (Option Value)} {oc62 kV62 dc62 pm62 cd62 ct62 : Value}
    {f63 : Addr} {od63 an63 : Option Addr} {sl63 : Array (Option Value)} {oc63 kV63 dc63 pm63 cd63 ct63 : Value}
    {f64 : Addr} {od64 an64 : Option Addr} {sl64 : Array (Option Value)} {oc64 kV64 dc64 pm64 cd64 ct64 : Value}
    {f65 : Addr} {od65 an65 : Option Addr} {sl65 : Array (Option Value)} {oc65 kV65 dc65 pm65 cd65 ct65 : Value}
    {f66 : Addr} {od66 an66 : Option Addr} {sl66 : Array (Option Value)} {oc66 kV66 dc66 pm66 cd66 ct66 : Value}
    {f67 : Addr} {od67 an67 : Option Addr} {sl67 : Array (Option Value)} {oc67 kV67 dc67 pm67 cd67 ct67 : Value}
    {f68 : Addr} {od68 an68 : Option Addr} {sl68 : Array (Option Value)} {oc68 kV68 dc68 pm68 cd68 ct68 : Value}
    {f69 : Addr} {od69 an69 : Option Addr} {sl69 : Array (Option Value)} {oc69 kV69 dc69 pm69 cd69 ct69 : Value}
    {f70 : Addr} {od70 an70 : Option Addr} {sl70 : Array (Option Value)} {oc70 kV70 dc70 pm70 cd70 ct70 : Value}
    {f71 : Addr} {od71 an71 : Option Addr} {sl71 : Array (Option Value)} {oc71 kV71 dc71 pm71 cd71 ct71 : Value}
    {f72 : Addr} {od72 an72 : Option Addr} {sl72 : Array (Option Value)} {oc72 kV72 dc72 pm72 cd72 ct72 : Value}
    {f73 : Addr} {od73 an73 : Option Addr} {sl73 : Array (Option Value)} {oc73 kV73 dc73 pm73 cd73 ct73 : Value}
    {f74 : Addr} {od74 an74 : Option Addr} {sl74 : Array (Option Value)} {oc74 kV74 dc74 pm74 cd74 ct74 : Value}
    {f75 : Addr} {od75 an75 : Option Addr} {sl75 : Array (Option Value)} {oc75 kV75 dc75 pm75 cd75 ct75 : Value}
    {f76 : Addr} {od76 an76 : Option Addr} {sl76 : Array (Option Value)} {oc76 kV76 dc76 pm76 cd76 ct76 : Value}
    {f77 : Addr} {od77 an77 : Option Addr} {sl77 : Array (Option Value)} {oc77 kV77 dc77 pm77 cd77 ct77 : Value}
    {da77 : Addr} {dc77' : Value} {dd77 : Option Addr} {dn77 : Nat} {dl77 : Array (Option Value)}
    {f78 : Addr} {od78 an78 : Option Addr} {sl78 : Array (Option Value)} {oc78 kV78 dc78 pm78 cd78 ct78 : Value}
    {f79 : Addr} {od79 an79 : Option Addr} {sl79 : Array (Option Value)} {oc79 kV79 dc79 pm79 cd79 ct79 : Value}
    {f80 : Addr} {od80 an80 : Option Addr} {sl80 : Array (Option Value)} {oc80 kV80 dc80 pm80 cd80 ct80 : Value}
    {f81 : Addr} {od81 an81 : Option Addr} {sl81 : Array (Option Value)} {oc81 kV81 dc81 pm81 cd81 ct81 : Value}
    {f82 : Addr} {od82 an82 : Option Addr} {sl82 : Array (Option Value)} {oc82 kV82 dc82 pm82 cd82 ct82 : Value}
    {f83 : Addr} {od83 an83 : Option Addr} {sl83 : Array (Option Value)} {oc83 kV83 dc83 pm83 cd83 ct83 : Value}
    {f84 : Addr} {od84 an84 : Option Addr} {sl84 : Array (Option Value)} {oc84 kV84 dc84 pm84 cd84 ct84 : Value}
    {f85 : Addr} {od85 an85 : Option Addr} {sl85 : Array (Option Value)} {oc85 kV85 dc85 pm85 cd85 ct85 : Value}
    {f86 : Addr} {od86 an86 : Option Addr} {sl86 : Array (Option Value)} {oc86 kV86 dc86 pm86 cd86 ct86 : Value}
    {f87 : Addr} {od87 an87 : Option Addr} {sl87 : Array (Option Value)} {oc87 kV87 dc87 pm87 cd87 ct87 : Value}
    {f88 : Addr} {od88 an88 : Option Addr} {sl88 : Array (Option Value)} {oc88 kV88 dc88 pm88 cd88 ct88 : Value}
    {f89 : Addr} {od89 an89 : Option Addr} {sl89 : Array (Option Value)} {oc89 kV89 dc89 pm89 cd89 ct89 : Value}
    {f90 : Addr} {od90 an90 : Option Addr} {sl90 : Array (Option Value)} {oc90 kV90 dc90 pm90 cd90 ct90 : Value}
    {f91 : Addr} {od91 an91 : Option Addr} {sl91 : Array (Option Value)} {oc91 kV91 dc91 pm91 cd91 ct91 : Value}
    {f92 : Addr} {od92 an92 : Option Addr} {sl92 : Array (Option Value)} {oc92 kV92 dc92 pm92 cd92 ct92 : Value}
    {f93 : Addr} {od93 an93 : Option Addr} {sl93 : Array (Option Value)} {oc93 kV93 dc93 pm93 cd93 ct93 : Value}
    {f94 : Addr} {od94 an94 : Option Addr} {sl94 : Array (Option Value)} {oc94 kV94 dc94 pm94 cd94 ct94 : Value}
    {f95 : Addr} {od95 an95 : Option Addr} {sl95 : Array (Option Value)} {oc95 kV95 dc95 pm95 cd95 ct95 : Value}
    {f96 : Addr} {od96 an96 : Option Addr} {sl96 : Array (Option Value)} {oc96 kV96 dc96 pm96 cd96 ct96 : Value}
    {f97 : Addr} {od97 an97 : Option Addr} {sl97 : Array (Option Value)} {oc97 kV97 dc97 pm97 cd97 ct97 : Value}
    {f98 : Addr} {od98 an98 : Option Addr} {sl98 : Array (Option Value)} {oc98 kV98 dc98 pm98 cd98 ct98 : Value}
    {f99 : Addr} {od99 an99 : Option Addr} {sl99 : Array (Option Value)} {oc99 kV99 dc99 pm99 cd99 ct99 : Value}
    {f100 : Addr} {od100 an100 : Option Addr} {sl100 : Array (Option Value)} {oc100 kV100 dc100 pm100 cd100 ct100 : Value}
    {f101 : Addr} {od101 an101 : Option Addr} {sl101 : Array (Option Value)} {oc101 kV101 dc101 pm101 cd101 ct101 : Value}
    {f102 : Addr} {od102 an102 : Option Addr} {sl102 : Array (Option Value)} {oc102 kV102 dc102 pm102 cd102 ct102 : Value}
    {f103 : Addr} {od103 an103 : Option Addr} {sl103 : Array (Option Value)} {oc103 kV103 dc103 pm103 cd103 ct103 : Value}
    {f104 : Addr} {od104 an104 : Option Addr} {sl104 : Array (Option Value)} {oc104 kV104 dc104 pm104 cd104 ct104 : Value}
    {f105 : Addr} {od105 an105 : Option Addr} {sl105 : Array (Option Value)} {oc105 kV105 dc105 pm105 cd105 ct105 : Value}
    (z_all : PySem.W.nsIn K mainGlobals "all" = some none)
    (z_any : PySem.W.nsIn K mainGlobals "any" = some none)
    (z_bool : PySem.W.nsIn K mainGlobals "bool" = some none)
    (z_dict : PySem.W.nsIn K mainGlobals "dict" = some none)
    (z_isinstance : PySem.W.nsIn K mainGlobals "isinstance" = some none)
    (z_len : PySem.W.nsIn K mainGlobals "len" = some none)
    (z_list : PySem.W.nsIn K mainGlobals "list" = some none)
    (z_max : PySem.W.nsIn K mainGlobals "max" = some none)
    (z_range : PySem.W.nsIn K mainGlobals "range" = some none)
    (z_sorted : PySem.W.nsIn K mainGlobals "sorted" = some none)
    (z_tuple : PySem.W.nsIn K mainGlobals "tuple" = some none)
    (z_zip : PySem.W.nsIn K mainGlobals "zip" = some none)
    (g_FIRST_CELL_BIT : PySem.W.nsIn K mainGlobals "FIRST_CELL_BIT" = some (some (Value.int 8 t_FIRST_CELL_BIT)))
    (g_KEPT_BOXES : PySem.W.nsIn K mainGlobals "KEPT_BOXES" = some (some (.ref G_KEPT_BOXES)))
    (t4_KEPT_BOXES : K.lookup G_KEPT_BOXES = some ⟨.type "tuple", od4, .seq #[.int 4 tk1, .int 5 tk2, .int 6 tk3] nn4, sl4⟩)
    (g_LOST_BY_CALL : PySem.W.nsIn K mainGlobals "LOST_BY_CALL" = some (some (Value.int 143 t_LOST_BY_CALL)))
    (g_SET_NAMES : PySem.W.nsIn K mainGlobals "SET_NAMES" = some (some (.ref G_SET_NAMES)))
    (t9_SET_NAMES : K.lookup G_SET_NAMES = some ⟨.type "tuple", od9, .seq #[.str "back" tk5, .int 4 tk6, .int 5 tk7, .int 6 tk8] nn9, sl9⟩)
    (g_START : PySem.W.nsIn K mainGlobals "START" = some (some (.ref G_START)))
    (t12_START : K.lookup G_START = some ⟨.type "tuple", od12, .seq #[.int 0 tk10, .int 128 tk11, .ref q0_START] nn12, sl12⟩)
    (t16_START : K.lookup q0_START = some ⟨.type "tuple", od16, .seq #[.int 16 tk13, .int 32 tk14, .int 64 tk15] nn16, sl16⟩)
    (g_TOP_BOX : PySem.W.nsIn K mainGlobals "TOP_BOX" = some (some (Value.int 7 t_TOP_BOX)))
    (g_TOP_CELLS : PySem.W.nsIn K mainGlobals "TOP_CELLS" = some (some (Value.int 4000 t_TOP_CELLS)))
    (g_TOP_TARGET : PySem.W.nsIn K mainGlobals "TOP_TARGET" = some (some (Value.int 2000 t_TOP_TARGET)))
    (g_TOP_VALUE : PySem.W.nsIn K mainGlobals "TOP_VALUE" = some (some (Value.int 4294967295 t_TOP_VALUE)))
    (c_Add : PySem.W.nsIn K mainGlobals "Add" = some (some (.ref C_Add)))
    (c_Back : PySem.W.nsIn K mainGlobals "Back" = some (some (.ref C_Back)))
    (c_Branch : PySem.W.nsIn K mainGlobals "Branch" = some (some (.ref C_Branch)))
    (c_Call : PySem.W.nsIn K mainGlobals "Call" = some (some (.ref C_Call)))
    (c_Copy : PySem.W.nsIn K mainGlobals "Copy" = some (some (.ref C_Copy)))
    (c_Drop : PySem.W.nsIn K mainGlobals "Drop" = some (some (.ref C_Drop)))
    (c_Get : PySem.W.nsIn K mainGlobals "Get" = some (some (.ref C_Get)))
    (c_Grow : PySem.W.nsIn K mainGlobals "Grow" = some (some (.ref C_Grow)))
    (c_Jump : PySem.W.nsIn K mainGlobals "Jump" = some (some (.ref C_Jump)))
    (c_NoRow : PySem.W.nsIn K mainGlobals "NoRow" = some (some (.ref C_NoRow)))
    (c_Put : PySem.W.nsIn K mainGlobals "Put" = some (some (.ref C_Put)))
    (c_Set : PySem.W.nsIn K mainGlobals "Set" = some (some (.ref C_Set)))
    (c_Shrink : PySem.W.nsIn K mainGlobals "Shrink" = some (some (.ref C_Shrink)))
    (c_Table : PySem.W.nsIn K mainGlobals "Table" = some (some (.ref C_Table)))
    (pg_Jump : PySem.W.plainGet K C_Jump Str.empty = true)
    (hd_Jump : PySem.W.hasDictIn K C_Jump = true)
    (po_Jump : PySem.W.plainOver K C_Jump = true)
    (sa_Jump : PySem.W.findIn K (.ref C_Jump) "__setattr__" = some (some (.builtin "object.__setattr__")))
    (mk_Jump : PySem.W.makesIn K C_Jump = true)
    (kc_Jump : PySem.W.keepIn K (.ref C_Jump) = true)
    (n_Jump_target : PySem.W.findIn K (.ref C_Jump) "target" = some none)
    (a17 : PySem.W.findIn K (.ref C_Jump) "__init__" = some (some (.ref f17)))
    (i17 : PySem.W.isFn K (.ref f17) = true)
    (l17 : K.lookup f17 = some ⟨oc17, od17, .func (PySem.W.fnOf "__init__" "Jump.__init__" (defArgs s_Jump_init) (defBody s_Jump_init) (defScope s_Jump_init) .none kV17 dc17 pm17 an17 cd17 ct17), sl17⟩)
    (c17 : PySem.W.codeIn K cd17 "Jump.__init__" = true) (k17 : PySem.W.keepIn K (.ref f17) = true)
    (a18 : PySem.W.findIn K (.ref C_Jump) "goes" = some (some (.ref f18)))
    (i18 : PySem.W.isFn K (.ref f18) = true)
    (l18 : K.lookup f18 = some ⟨oc18, od18, .func (PySem.W.fnOf "goes" "Jump.goes" (defArgs s_Jump_goes) (defBody s_Jump_goes) (defScope s_Jump_goes) .none kV18 dc18 pm18 an18 cd18 ct18), sl18⟩)
    (c18 : PySem.W.codeIn K cd18 "Jump.goes" = true) (k18 : PySem.W.keepIn K (.ref f18) = true)
    (a19 : PySem.W.findIn K (.ref C_Jump) "height" = some (some (.ref f19)))
    (i19 : PySem.W.isFn K (.ref f19) = true)
    (l19 : K.lookup f19 = some ⟨oc19, od19, .func (PySem.W.fnOf "height" "Row.height" (defArgs s_Row_height) (defBody s_Row_height) (defScope s_Row_height) .none kV19 dc19 pm19 an19 cd19 ct19), sl19⟩)
    (c19 : PySem.W.codeIn K cd19 "Row.height" = true) (k19 : PySem.W.keepIn K (.ref f19) = true)
    (a20 : PySem.W.findIn K (.ref C_Jump) "keeps" = some (some (.ref f20)))
    (i20 : PySem.W.isFn K (.ref f20) = true)
    (l20 : K.lookup f20 = some ⟨oc20, od20, .func (PySem.W.fnOf "keeps" "Row.keeps" (defArgs s_Row_keeps) (defBody s_Row_keeps) (defScope s_Row_keeps) .none kV20 dc20 pm20 an20 cd20 ct20), sl20⟩)
    (c20 : PySem.W.codeIn K cd20 "Row.keeps" = true) (k20 : PySem.W.keepIn K (.ref f20) = true)
    (a21 : PySem.W.findIn K (.ref C_Jump) "told" = some (some (.ref f21)))
    (i21 : PySem.W.isFn K (.ref f21) = true)
    (l21 : K.lookup f21 = some ⟨oc21, od21, .func (PySem.W.fnOf "told" "Jump.told" (defArgs s_Jump_told) (defBody s_Jump_told) (defScope s_Jump_told) .none kV21 dc21 pm21 an21 cd21 ct21), sl21⟩)
    (c21 : PySem.W.codeIn K cd21 "Jump.told" = true) (k21 : PySem.W.keepIn K (.ref f21) = true)
    (pg_Branch : PySem.W.plainGet K C_Branch Str.empty = true)
    (hd_Branch : PySem.W.hasDictIn K C_Branch = true)
    (po_Branch : PySem.W.plainOver K C_Branch = true)
    (sa_Branch : PySem.W.findIn K (.ref C_Branch) "__setattr__" = some (some (.builtin "object.__setattr__")))
    (mk_Branch : PySem.W.makesIn K C_Branch = true)
    (kc_Branch : PySem.W.keepIn K (.ref C_Branch) = true)
    (n_Branch_box : PySem.W.findIn K (.ref C_Branch) "box" = some none)
    (n_Branch_target : PySem.W.findIn K (.ref C_Branch) "target" = some none)
    (a22 : PySem.W.findIn K (.ref C_Branch) "__init__" = some (some (.ref f22)))
    (i22 : PySem.W.isFn K (.ref f22) = true)
    (l22 : K.lookup f22 = some ⟨oc22, od22, .func (PySem.W.fnOf "__init__" "Branch.__init__" (defArgs s_Branch_init) (defBody s_Branch_init) (defScope s_Branch_init) .none kV22 dc22 pm22 an22 cd22 ct22), sl22⟩)
    (c22 : PySem.W.codeIn K cd22 "Branch.__init__" = true) (k22 : PySem.W.keepIn K (.ref f22) = true)
    (a23 : PySem.W.findIn K (.ref C_Branch) "goes" = some (some (.ref f23)))
    (i23 : PySem.W.isFn K (.ref f23) = true)
    (l23 : K.lookup f23 = some ⟨oc23, od23, .func (PySem.W.fnOf "goes" "Branch.goes" (defArgs s_Branch_goes) (defBody s_Branch_goes) (defScope s_Branch_goes) .none kV23 dc23 pm23 an23 cd23 ct23), sl23⟩)
    (c23 : PySem.W.codeIn K cd23 "Branch.goes" = true) (k23 : PySem.W.keepIn K (.ref f23) = true)
    (a24 : PySem.W.findIn K (.ref C_Branch) "height" = some (some (.ref f24)))
    (i24 : PySem.W.isFn K (.ref f24) = true)
    (l24 : K.lookup f24 = some ⟨oc24, od24, .func (PySem.W.fnOf "height" "Row.height" (defArgs s_Row_height) (defBody s_Row_height) (defScope s_Row_height) .none kV24 dc24 pm24 an24 cd24 ct24), sl24⟩)
    (c24 : PySem.W.codeIn K cd24 "Row.height" = true) (k24 : PySem.W.keepIn K (.ref f24) = true)
    (a25 : PySem.W.findIn K (.ref C_Branch) "keeps" = some (some (.ref f25)))
    (i25 : PySem.W.isFn K (.ref f25) = true)
    (l25 : K.lookup f25 = some ⟨oc25, od25, .func (PySem.W.fnOf "keeps" "Row.keeps" (defArgs s_Row_keeps) (defBody s_Row_keeps) (defScope s_Row_keeps) .none kV25 dc25 pm25 an25 cd25 ct25), sl25⟩)
    (c25 : PySem.W.codeIn K cd25 "Row.keeps" = true) (k25 : PySem.W.keepIn K (.ref f25) = true)
    (a26 : PySem.W.findIn K (.ref C_Branch) "told" = some (some (.ref f26)))
    (i26 : PySem.W.isFn K (.ref f26) = true)
    (l26 : K.lookup f26 = some ⟨oc26, od26, .func (PySem.W.fnOf "told" "Branch.told" (defArgs s_Branch_told) (defBody s_Branch_told) (defScope s_Branch_told) .none kV26 dc26 pm26 an26 cd26 ct26), sl26⟩)
    (c26 : PySem.W.codeIn K cd26 "Branch.told" = true) (k26 : PySem.W.keepIn K (.ref f26) = true)
    (pg_Call : PySem.W.plainGet K C_Call Str.empty = true)
    (hd_Call : PySem.W.hasDictIn K C_Call = true)
    (po_Call : PySem.W.plainOver K C_Call = true)
    (sa_Call : PySem.W.findIn K (.ref C_Call) "__setattr__" = some (some (.builtin "object.__setattr__")))
    (mk_Call : PySem.W.makesIn K C_Call = true)
    (kc_Call : PySem.W.keepIn K (.ref C_Call) = true)
    (n_Call_target : PySem.W.findIn K (.ref C_Call) "target" = some none)
    (a27 : PySem.W.findIn K (.ref C_Call) "__init__" = some (some (.ref f27)))
    (i27 : PySem.W.isFn K (.ref f27) = true)
    (l27 : K.lookup f27 = some ⟨oc27, od27, .func (PySem.W.fnOf "__init__" "Call.__init__" (defArgs s_Call_init) (defBody s_Call_init) (defScope s_Call_init) .none kV27 dc27 pm27 an27 cd27 ct27), sl27⟩)
    (c27 : PySem.W.codeIn K cd27 "Call.__init__" = true) (k27 : PySem.W.keepIn K (.ref f27) = true)
    (a28 : PySem.W.findIn K (.ref C_Call) "goes" = some (some (.ref f28)))
    (i28 : PySem.W.isFn K (.ref f28) = true)
    (l28 : K.lookup f28 = some ⟨oc28, od28, .func (PySem.W.fnOf "goes" "Row.goes" (defArgs s_Row_goes) (defBody s_Row_goes) (defScope s_Row_goes) .none kV28 dc28 pm28 an28 cd28 ct28), sl28⟩)
    (c28 : PySem.W.codeIn K cd28 "Row.goes" = true) (k28 : PySem.W.keepIn K (.ref f28) = true)
    (a29 : PySem.W.findIn K (.ref C_Call) "height" = some (some (.ref f29)))
    (i29 : PySem.W.isFn K (.ref f29) = true)
    (l29 : K.lookup f29 = some ⟨oc29, od29, .func (PySem.W.fnOf "height" "Row.height" (defArgs s_Row_height) (defBody s_Row_height) (defScope s_Row_height) .none kV29 dc29 pm29 an29 cd29 ct29), sl29⟩)
    (c29 : PySem.W.codeIn K cd29 "Row.height" = true) (k29 : PySem.W.keepIn K (.ref f29) = true)
    (a30 : PySem.W.findIn K (.ref C_Call) "keeps" = some (some (.ref f30)))
    (i30 : PySem.W.isFn K (.ref f30) = true)
    (l30 : K.lookup f30 = some ⟨oc30, od30, .func (PySem.W.fnOf "keeps" "Call.keeps" (defArgs s_Call_keeps) (defBody s_Call_keeps) (defScope s_Call_keeps) .none kV30 dc30 pm30 an30 cd30 ct30), sl30⟩)
    (c30 : PySem.W.codeIn K cd30 "Call.keeps" = true) (k30 : PySem.W.keepIn K (.ref f30) = true)
    (a31 : PySem.W.findIn K (.ref C_Call) "told" = some (some (.ref f31)))
    (i31 : PySem.W.isFn K (.ref f31) = true)
    (l31 : K.lookup f31 = some ⟨oc31, od31, .func (PySem.W.fnOf "told" "Call.told" (defArgs s_Call_told) (defBody s_Call_told) (defScope s_Call_told) .none kV31 dc31 pm31 an31 cd31 ct31), sl31⟩)
    (c31 : PySem.W.codeIn K cd31 "Call.told" = true) (k31 : PySem.W.keepIn K (.ref f31) = true)
    (pg_Back : PySem.W.plainGet K C_Back Str.empty = true)
    (hd_Back : PySem.W.hasDictIn K C_Back = true)
    (po_Back : PySem.W.plainOver K C_Back = true)
    (sa_Back : PySem.W.findIn K (.ref C_Back) "__setattr__" = some (some (.builtin "object.__setattr__")))
    (mk_Back : PySem.W.makesIn K C_Back = true)
    (kc_Back : PySem.W.keepIn K (.ref C_Back) = true)
    (n_Back_box : PySem.W.findIn K (.ref C_Back) "box" = some none)
    (a32 : PySem.W.findIn K (.ref C_Back) "__init__" = some (some (.ref f32)))
    (i32 : PySem.W.isFn K (.ref f32) = true)
    (l32 : K.lookup f32 = some ⟨oc32, od32, .func (PySem.W.fnOf "__init__" "Back.__init__" (defArgs s_Back_init) (defBody s_Back_init) (defScope s_Back_init) .none kV32 dc32 pm32 an32 cd32 ct32), sl32⟩)
    (c32 : PySem.W.codeIn K cd32 "Back.__init__" = true) (k32 : PySem.W.keepIn K (.ref f32) = true)
    (a33 : PySem.W.findIn K (.ref C_Back) "goes" = some (some (.ref f33)))
    (i33 : PySem.W.isFn K (.ref f33) = true)
    (l33 : K.lookup f33 = some ⟨oc33, od33, .func (PySem.W.fnOf "goes" "Back.goes" (defArgs s_Back_goes) (defBody s_Back_goes) (defScope s_Back_goes) .none kV33 dc33 pm33 an33 cd33 ct33), sl33⟩)
    (c33 : PySem.W.codeIn K cd33 "Back.goes" = true) (k33 : PySem.W.keepIn K (.ref f33) = true)
    (a34 : PySem.W.findIn K (.ref C_Back) "height" = some (some (.ref f34)))
    (i34 : PySem.W.isFn K (.ref f34) = true)
    (l34 : K.lookup f34 = some ⟨oc34, od34, .func (PySem.W.fnOf "height" "Row.height" (defArgs s_Row_height) (defBody s_Row_height) (defScope s_Row_height) .none kV34 dc34 pm34 an34 cd34 ct34), sl34⟩)
    (c34 : PySem.W.codeIn K cd34 "Row.height" = true) (k34 : PySem.W.keepIn K (.ref f34) = true)
    (a35 : PySem.W.findIn K (.ref C_Back) "keeps" = some (some (.ref f35)))
    (i35 : PySem.W.isFn K (.ref f35) = true)
    (l35 : K.lookup f35 = some ⟨oc35, od35, .func (PySem.W.fnOf "keeps" "Row.keeps" (defArgs s_Row_keeps) (defBody s_Row_keeps) (defScope s_Row_keeps) .none kV35 dc35 pm35 an35 cd35 ct35), sl35⟩)
    (c35 : PySem.W.codeIn K cd35 "Row.keeps" = true) (k35 : PySem.W.keepIn K (.ref f35) = true)
    (a36 : PySem.W.findIn K (.ref C_Back) "told" = some (some (.ref f36)))
    (i36 : PySem.W.isFn K (.ref f36) = true)
    (l36 : K.lookup f36 = some ⟨oc36, od36, .func (PySem.W.fnOf "told" "Back.told" (defArgs s_Back_told) (defBody s_Back_told) (defScope s_Back_told) .none kV36 dc36 pm36 an36 cd36 ct36), sl36⟩)
    (c36 : PySem.W.codeIn K cd36 "Back.told" = true) (k36 : PySem.W.keepIn K (.ref f36) = true)
    (pg_Drop : PySem.W.plainGet K C_Drop Str.empty = true)
    (hd_Drop : PySem.W.hasDictIn K C_Drop = true)
    (po_Drop : PySem.W.plainOver K C_Drop = true)
    (sa_Drop : PySem.W.findIn K (.ref C_Drop) "__setattr__" = some (some (.builtin "object.__setattr__")))
    (mk_Drop : PySem.W.makesIn K C_Drop = true)
    (kc_Drop : PySem.W.keepIn K (.ref C_Drop) = true)
    (n_Drop_box : PySem.W.findIn K (.ref C_Drop) "box" = some none)
    (a37 : PySem.W.findIn K (.ref C_Drop) "__init__" = some (some (.ref f37)))
    (i37 : PySem.W.isFn K (.ref f37) = true)
    (l37 : K.lookup f37 = some ⟨oc37, od37, .func (PySem.W.fnOf "__init__" "Drop.__init__" (defArgs s_Drop_init) (defBody s_Drop_init) (defScope s_Drop_init) .none kV37 dc37 pm37 an37 cd37 ct37), sl37⟩)
    (c37 : PySem.W.codeIn K cd37 "Drop.__init__" = true) (k37 : PySem.W.keepIn K (.ref f37) = true)
    (a38 : PySem.W.findIn K (.ref C_Drop) "goes" = some (some (.ref f38)))
    (i38 : PySem.W.isFn K (.ref f38) = true)
    (l38 : K.lookup f38 = some ⟨oc38, od38, .func (PySem.W.fnOf "goes" "Drop.goes" (defArgs s_Drop_goes) (defBody s_Drop_goes) (defScope s_Drop_goes) .none kV38 dc38 pm38 an38 cd38 ct38), sl38⟩)
    (c38 : PySem.W.codeIn K cd38 "Drop.goes" = true) (k38 : PySem.W.keepIn K (.ref f38) = true)
    (a39 : PySem.W.findIn K (.ref C_Drop) "height" = some (some (.ref f39)))
    (i39 : PySem.W.isFn K (.ref f39) = true)
    (l39 : K.lookup f39 = some ⟨oc39, od39, .func (PySem.W.fnOf "height" "Row.height" (defArgs s_Row_height) (defBody s_Row_height) (defScope s_Row_height) .none kV39 dc39 pm39 an39 cd39 ct39), sl39⟩)
    (c39 : PySem.W.codeIn K cd39 "Row.height" = true) (k39 : PySem.W.keepIn K (.ref f39) = true)
    (a40 : PySem.W.findIn K (.ref C_Drop) "keeps" = some (some (.ref f40)))
    (i40 : PySem.W.isFn K (.ref f40) = true)
    (l40 : K.lookup f40 = some ⟨oc40, od40, .func (PySem.W.fnOf "keeps" "Row.keeps" (defArgs s_Row_keeps) (defBody s_Row_keeps) (defScope s_Row_keeps) .none kV40 dc40 pm40 an40 cd40 ct40), sl40⟩)
    (c40 : PySem.W.codeIn K cd40 "Row.keeps" = true) (k40 : PySem.W.keepIn K (.ref f40) = true)
    (a41 : PySem.W.findIn K (.ref C_Drop) "told" = some (some (.ref f41)))
    (i41 : PySem.W.isFn K (.ref f41) = true)
    (l41 : K.lookup f41 = some ⟨oc41, od41, .func (PySem.W.fnOf "told" "Drop.told" (defArgs s_Drop_told) (defBody s_Drop_told) (defScope s_Drop_told) .none kV41 dc41 pm41 an41 cd41 ct41), sl41⟩)
    (c41 : PySem.W.codeIn K cd41 "Drop.told" = true) (k41 : PySem.W.keepIn K (.ref f41) = true)
    (pg_Set : PySem.W.plainGet K C_Set Str.empty = true)
    (hd_Set : PySem.W.hasDictIn K C_Set = true)
    (po_Set : PySem.W.plainOver K C_Set = true)
    (sa_Set : PySem.W.findIn K (.ref C_Set) "__setattr__" = some (some (.builtin "object.__setattr__")))
    (mk_Set : PySem.W.makesIn K C_Set = true)
    (kc_Set : PySem.W.keepIn K (.ref C_Set) = true)
    (n_Set_box : PySem.W.findIn K (.ref C_Set) "box" = some none)
    (n_Set_number : PySem.W.findIn K (.ref C_Set) "number" = some none)
    (a42 : PySem.W.findIn K (.ref C_Set) "__init__" = some (some (.ref f42)))
    (i42 : PySem.W.isFn K (.ref f42) = true)
    (l42 : K.lookup f42 = some ⟨oc42, od42, .func (PySem.W.fnOf "__init__" "Set.__init__" (defArgs s_Set_init) (defBody s_Set_init) (defScope s_Set_init) .none kV42 dc42 pm42 an42 cd42 ct42), sl42⟩)
    (c42 : PySem.W.codeIn K cd42 "Set.__init__" = true) (k42 : PySem.W.keepIn K (.ref f42) = true)
    (a43 : PySem.W.findIn K (.ref C_Set) "goes" = some (some (.ref f43)))
    (i43 : PySem.W.isFn K (.ref f43) = true)
    (l43 : K.lookup f43 = some ⟨oc43, od43, .func (PySem.W.fnOf "goes" "Row.goes" (defArgs s_Row_goes) (defBody s_Row_goes) (defScope s_Row_goes) .none kV43 dc43 pm43 an43 cd43 ct43), sl43⟩)
    (c43 : PySem.W.codeIn K cd43 "Row.goes" = true) (k43 : PySem.W.keepIn K (.ref f43) = true)
    (a44 : PySem.W.findIn K (.ref C_Set) "height" = some (some (.ref f44)))
    (i44 : PySem.W.isFn K (.ref f44) = true)
    (l44 : K.lookup f44 = some ⟨oc44, od44, .func (PySem.W.fnOf "height" "Row.height" (defArgs s_Row_height) (defBody s_Row_height) (defScope s_Row_height) .none kV44 dc44 pm44 an44 cd44 ct44), sl44⟩)
    (c44 : PySem.W.codeIn K cd44 "Row.height" = true) (k44 : PySem.W.keepIn K (.ref f44) = true)
    (a45 : PySem.W.findIn K (.ref C_Set) "keeps" = some (some (.ref f45)))
    (i45 : PySem.W.isFn K (.ref f45) = true)
    (l45 : K.lookup f45 = some ⟨oc45, od45, .func (PySem.W.fnOf "keeps" "Set.keeps" (defArgs s_Set_keeps) (defBody s_Set_keeps) (defScope s_Set_keeps) .none kV45 dc45 pm45 an45 cd45 ct45), sl45⟩)
    (c45 : PySem.W.codeIn K cd45 "Set.keeps" = true) (k45 : PySem.W.keepIn K (.ref f45) = true)
    (a46 : PySem.W.findIn K (.ref C_Set) "told" = some (some (.ref f46)))
    (i46 : PySem.W.isFn K (.ref f46) = true)
    (l46 : K.lookup f46 = some ⟨oc46, od46, .func (PySem.W.fnOf "told" "Set.told" (defArgs s_Set_told) (defBody s_Set_told) (defScope s_Set_told) .none kV46 dc46 pm46 an46 cd46 ct46), sl46⟩)
    (c46 : PySem.W.codeIn K cd46 "Set.told" = true) (k46 : PySem.W.keepIn K (.ref f46) = true)
    (pg_Copy : PySem.W.plainGet K C_Copy Str.empty = true)
    (hd_Copy : PySem.W.hasDictIn K C_Copy = true)
    (po_Copy : PySem.W.plainOver K C_Copy = true)
    (sa_Copy : PySem.W.findIn K (.ref C_Copy) "__setattr__" = some (some (.builtin "object.__setattr__")))
    (mk_Copy : PySem.W.makesIn K C_Copy = true)
    (kc_Copy : PySem.W.keepIn K (.ref C_Copy) = true)
    (n_Copy_box : PySem.W.findIn K (.ref C_Copy) "box" = some none)
    (n_Copy_one : PySem.W.findIn K (.ref C_Copy) "one" = some none)
    (a47 : PySem.W.findIn K (.ref C_Copy) "__init__" = some (some (.ref f47)))
    (i47 : PySem.W.isFn K (.ref f47) = true)
    (l47 : K.lookup f47 = some ⟨oc47, od47, .func (PySem.W.fnOf "__init__" "Copy.__init__" (defArgs s_Copy_init) (defBody s_Copy_init) (defScope s_Copy_init) .none kV47 dc47 pm47 an47 cd47 ct47), sl47⟩)
    (c47 : PySem.W.codeIn K cd47 "Copy.__init__" = true) (k47 : PySem.W.keepIn K (.ref f47) = true)
    (a48 : PySem.W.findIn K (.ref C_Copy) "goes" = some (some (.ref f48)))
    (i48 : PySem.W.isFn K (.ref f48) = true)
    (l48 : K.lookup f48 = some ⟨oc48, od48, .func (PySem.W.fnOf "goes" "Row.goes" (defArgs s_Row_goes) (defBody s_Row_goes) (defScope s_Row_goes) .none kV48 dc48 pm48 an48 cd48 ct48), sl48⟩)
    (c48 : PySem.W.codeIn K cd48 "Row.goes" = true) (k48 : PySem.W.keepIn K (.ref f48) = true)
    (a49 : PySem.W.findIn K (.ref C_Copy) "height" = some (some (.ref f49)))
    (i49 : PySem.W.isFn K (.ref f49) = true)
    (l49 : K.lookup f49 = some ⟨oc49, od49, .func (PySem.W.fnOf "height" "Row.height" (defArgs s_Row_height) (defBody s_Row_height) (defScope s_Row_height) .none kV49 dc49 pm49 an49 cd49 ct49), sl49⟩)
    (c49 : PySem.W.codeIn K cd49 "Row.height" = true) (k49 : PySem.W.keepIn K (.ref f49) = true)
    (a50 : PySem.W.findIn K (.ref C_Copy) "keeps" = some (some (.ref f50)))
    (i50 : PySem.W.isFn K (.ref f50) = true)
    (l50 : K.lookup f50 = some ⟨oc50, od50, .func (PySem.W.fnOf "keeps" "Copy.keeps" (defArgs s_Copy_keeps) (defBody s_Copy_keeps) (defScope s_Copy_keeps) .none kV50 dc50 pm50 an50 cd50 ct50), sl50⟩)
    (c50 : PySem.W.codeIn K cd50 "Copy.keeps" = true) (k50 : PySem.W.keepIn K (.ref f50) = true)
    (a51 : PySem.W.findIn K (.ref C_Copy) "told" = some (some (.ref f51)))
    (i51 : PySem.W.isFn K (.ref f51) = true)
    (l51 : K.lookup f51 = some ⟨oc51, od51, .func (PySem.W.fnOf "told" "Copy.told" (defArgs s_Copy_told) (defBody s_Copy_told) (defScope s_Copy_told) .none kV51 dc51 pm51 an51 cd51 ct51), sl51⟩)
    (c51 : PySem.W.codeIn K cd51 "Copy.told" = true) (k51 : PySem.W.keepIn K (.ref f51) = true)
    (pg_Add : PySem.W.plainGet K C_Add Str.empty = true)
    (hd_Add : PySem.W.hasDictIn K C_Add = true)
    (po_Add : PySem.W.plainOver K C_Add = true)
    (sa_Add : PySem.W.findIn K (.ref C_Add) "__setattr__" = some (some (.builtin "object.__setattr__")))
    (mk_Add : PySem.W.makesIn K C_Add = true)
    (kc_Add : PySem.W.keepIn K (.ref C_Add) = true)
    (n_Add_box : PySem.W.findIn K (.ref C_Add) "box" = some none)
    (n_Add_one : PySem.W.findIn K (.ref C_Add) "one" = some none)
    (n_Add_other : PySem.W.findIn K (.ref C_Add) "other" = some none)
    (a52 : PySem.W.findIn K (.ref C_Add) "__init__" = some (some (.ref f52)))
    (i52 : PySem.W.isFn K (.ref f52) = true)
    (l52 : K.lookup f52 = some ⟨oc52, od52, .func (PySem.W.fnOf "__init__" "Reckoning.__init__" (defArgs s_Reckoning_init) (defBody s_Reckoning_init) (defScope s_Reckoning_init) .none kV52 dc52 pm52 an52 cd52 ct52), sl52⟩)
    (c52 : PySem.W.codeIn K cd52 "Reckoning.__init__" = true) (k52 : PySem.W.keepIn K (.ref f52) = true)
    (a53 : PySem.W.findIn K (.ref C_Add) "goes" = some (some (.ref f53)))
    (i53 : PySem.W.isFn K (.ref f53) = true)
    (l53 : K.lookup f53 = some ⟨oc53, od53, .func (PySem.W.fnOf "goes" "Row.goes" (defArgs s_Row_goes) (defBody s_Row_goes) (defScope s_Row_goes) .none kV53 dc53 pm53 an53 cd53 ct53), sl53⟩)
    (c53 : PySem.W.codeIn K cd53 "Row.goes" = true) (k53 : PySem.W.keepIn K (.ref f53) = true)
    (a54 : PySem.W.findIn K (.ref C_Add) "height" = some (some (.ref f54)))
    (i54 : PySem.W.isFn K (.ref f54) = true)
    (l54 : K.lookup f54 = some ⟨oc54, od54, .func (PySem.W.fnOf "height" "Row.height" (defArgs s_Row_height) (defBody s_Row_height) (defScope s_Row_height) .none kV54 dc54 pm54 an54 cd54 ct54), sl54⟩)
    (c54 : PySem.W.codeIn K cd54 "Row.height" = true) (k54 : PySem.W.keepIn K (.ref f54) = true)
    (a55 : PySem.W.findIn K (.ref C_Add) "keeps" = some (some (.ref f55)))
    (i55 : PySem.W.isFn K (.ref f55) = true)
    (l55 : K.lookup f55 = some ⟨oc55, od55, .func (PySem.W.fnOf "keeps" "Reckoning.keeps" (defArgs s_Reckoning_keeps) (defBody s_Reckoning_keeps) (defScope s_Reckoning_keeps) .none kV55 dc55 pm55 an55 cd55 ct55), sl55⟩)
    (c55 : PySem.W.codeIn K cd55 "Reckoning.keeps" = true) (k55 : PySem.W.keepIn K (.ref f55) = true)
    (a56 : PySem.W.findIn K (.ref C_Add) "told" = some (some (.ref f56)))
    (i56 : PySem.W.isFn K (.ref f56) = true)
    (l56 : K.lookup f56 = some ⟨oc56, od56, .func (PySem.W.fnOf "told" "Add.told" (defArgs s_Add_told) (defBody s_Add_told) (defScope s_Add_told) .none kV56 dc56 pm56 an56 cd56 ct56), sl56⟩)
    (c56 : PySem.W.codeIn K cd56 "Add.told" = true) (k56 : PySem.W.keepIn K (.ref f56) = true)
    (pg_Grow : PySem.W.plainGet K C_Grow Str.empty = true)
    (hd_Grow : PySem.W.hasDictIn K C_Grow = true)
    (po_Grow : PySem.W.plainOver K C_Grow = true)
    (sa_Grow : PySem.W.findIn K (.ref C_Grow) "__setattr__" = some (some (.builtin "object.__setattr__")))
    (mk_Grow : PySem.W.makesIn K C_Grow = true)
    (kc_Grow : PySem.W.keepIn K (.ref C_Grow) = true)
    (n_Grow_many : PySem.W.findIn K (.ref C_Grow) "many" = some none)
    (a57 : PySem.W.findIn K (.ref C_Grow) "__init__" = some (some (.ref f57)))
    (i57 : PySem.W.isFn K (.ref f57) = true)
    (l57 : K.lookup f57 = some ⟨oc57, od57, .func (PySem.W.fnOf "__init__" "Grow.__init__" (defArgs s_Grow_init) (defBody s_Grow_init) (defScope s_Grow_init) .none kV57 dc57 pm57 an57 cd57 ct57), sl57⟩)
    (c57 : PySem.W.codeIn K cd57 "Grow.__init__" = true) (k57 : PySem.W.keepIn K (.ref f57) = true)
    (a58 : PySem.W.findIn K (.ref C_Grow) "goes" = some (some (.ref f58)))
    (i58 : PySem.W.isFn K (.ref f58) = true)
    (l58 : K.lookup f58 = some ⟨oc58, od58, .func (PySem.W.fnOf "goes" "Row.goes" (defArgs s_Row_goes) (defBody s_Row_goes) (defScope s_Row_goes) .none kV58 dc58 pm58 an58 cd58 ct58), sl58⟩)
    (c58 : PySem.W.codeIn K cd58 "Row.goes" = true) (k58 : PySem.W.keepIn K (.ref f58) = true)
    (a59 : PySem.W.findIn K (.ref C_Grow) "height" = some (some (.ref f59)))
    (i59 : PySem.W.isFn K (.ref f59) = true)
    (l59 : K.lookup f59 = some ⟨oc59, od59, .func (PySem.W.fnOf "height" "Grow.height" (defArgs s_Grow_height) (defBody s_Grow_height) (defScope s_Grow_height) .none kV59 dc59 pm59 an59 cd59 ct59), sl59⟩)
    (c59 : PySem.W.codeIn K cd59 "Grow.height" = true) (k59 : PySem.W.keepIn K (.ref f59) = true)
    (a60 : PySem.W.findIn K (.ref C_Grow) "keeps" = some (some (.ref f60)))
    (i60 : PySem.W.isFn K (.ref f60) = true)
    (l60 : K.lookup f60 = some ⟨oc60, od60, .func (PySem.W.fnOf "keeps" "Row.keeps" (defArgs s_Row_keeps) (defBody s_Row_keeps) (defScope s_Row_keeps) .none kV60 dc60 pm60 an60 cd60 ct60), sl60⟩)
    (c60 : PySem.W.codeIn K cd60 "Row.keeps" = true) (k60 : PySem.W.keepIn K (.ref f60) = true)
    (a61 : PySem.W.findIn K (.ref C_Grow) "told" = some (some (.ref f61)))
    (i61 : PySem.W.isFn K (.ref f61) = true)
    (l61 : K.lookup f61 = some ⟨oc61, od61, .func (PySem.W.fnOf "told" "Grow.told" (defArgs s_Grow_told) (defBody s_Grow_told) (defScope s_Grow_told) .none kV61 dc61 pm61 an61 cd61 ct61), sl61⟩)
    (c61 : PySem.W.codeIn K cd61 "Grow.told" = true) (k61 : PySem.W.keepIn K (.ref f61) = true)
    (pg_Shrink : PySem.W.plainGet K C_Shrink Str.empty = true)
    (hd_Shrink : PySem.W.hasDictIn K C_Shrink = true)
    (po_Shrink : PySem.W.plainOver K C_Shrink = true)
    (sa_Shrink : PySem.W.findIn K (.ref C_Shrink) "__setattr__" = some (some (.builtin "object.__setattr__")))
    (mk_Shrink : PySem.W.makesIn K C_Shrink = true)
    (kc_Shrink : PySem.W.keepIn K (.ref C_Shrink) = true)
    (n_Shrink_many : PySem.W.findIn K (.ref C_Shrink) "many" = some none)
    (a62 : PySem.W.findIn K (.ref C_Shrink) "__init__" = some (some (.ref f62)))
    (i62 : PySem.W.isFn K (.ref f62) = true)
    (l62 : K.lookup f62 = some ⟨oc62, od62, .func (PySem.W.fnOf "__init__" "Shrink.__init__" (defArgs s_Shrink_init) (defBody s_Shrink_init) (defScope s_Shrink_init) .none kV62 dc62 pm62 an62 cd62 ct62), sl62⟩)
    (c62 : PySem.W.codeIn K cd62 "Shrink.__init__" = true) (k62 : PySem.W.keepIn K (.ref f62) = true)
    (a63 : PySem.W.findIn K (.ref C_Shrink) "goes" = some (some (.ref f63)))
    (i63 : PySem.W.isFn K (.ref f63) = true)
    (l63 : K.lookup f63 = some ⟨oc63, od63, .func (PySem.W.fnOf "goes" "Row.goes" (defArgs s_Row_goes) (defBody s_Row_goes) (defScope s_Row_goes) .none kV63 dc63 pm63 an63 cd63 ct63), sl63⟩)
    (c63 : PySem.W.codeIn K cd63 "Row.goes" = true) (k63 : PySem.W.keepIn K (.ref f63) = true)
    (a64 : PySem.W.findIn K (.ref C_Shrink) "height" = some (some (.ref f64)))
    (i64 : PySem.W.isFn K (.ref f64) = true)
    (l64 : K.lookup f64 = some ⟨oc64, od64, .func (PySem.W.fnOf "height" "Shrink.height" (defArgs s_Shrink_height) (defBody s_Shrink_height) (defScope s_Shrink_height) .none kV64 dc64 pm64 an64 cd64 ct64), sl64⟩)
    (c64 : PySem.W.codeIn K cd64 "Shrink.height" = true) (k64 : PySem.W.keepIn K (.ref f64) = true)
    (a65 : PySem.W.findIn K (.ref C_Shrink) "keeps" = some (some (.ref f65)))
    (i65 : PySem.W.isFn K (.ref f65) = true)
    (l65 : K.lookup f65 = some ⟨oc65, od65, .func (PySem.W.fnOf "keeps" "Shrink.keeps" (defArgs s_Shrink_keeps) (defBody s_Shrink_keeps) (defScope s_Shrink_keeps) .none kV65 dc65 pm65 an65 cd65 ct65), sl65⟩)
    (c65 : PySem.W.codeIn K cd65 "Shrink.keeps" = true) (k65 : PySem.W.keepIn K (.ref f65) = true)
    (a66 : PySem.W.findIn K (.ref C_Shrink) "told" = some (some (.ref f66)))
    (i66 : PySem.W.isFn K (.ref f66) = true)
    (l66 : K.lookup f66 = some ⟨oc66, od66, .func (PySem.W.fnOf "told" "Shrink.told" (defArgs s_Shrink_told) (defBody s_Shrink_told) (defScope s_Shrink_told) .none kV66 dc66 pm66 an66 cd66 ct66), sl66⟩)
    (c66 : PySem.W.codeIn K cd66 "Shrink.told" = true) (k66 : PySem.W.keepIn K (.ref f66) = true)
    (pg_Put : PySem.W.plainGet K C_Put Str.empty = true)
    (hd_Put : PySem.W.hasDictIn K C_Put = true)
    (po_Put : PySem.W.plainOver K C_Put = true)
    (sa_Put : PySem.W.findIn K (.ref C_Put) "__setattr__" = some (some (.builtin "object.__setattr__")))
    (mk_Put : PySem.W.makesIn K C_Put = true)
    (kc_Put : PySem.W.keepIn K (.ref C_Put) = true)
    (n_Put_box : PySem.W.findIn K (.ref C_Put) "box" = some none)
    (n_Put_cell : PySem.W.findIn K (.ref C_Put) "cell" = some none)
    (a67 : PySem.W.findIn K (.ref C_Put) "__init__" = some (some (.ref f67)))
    (i67 : PySem.W.isFn K (.ref f67) = true)
    (l67 : K.lookup f67 = some ⟨oc67, od67, .func (PySem.W.fnOf "__init__" "Reaching.__init__" (defArgs s_Reaching_init) (defBody s_Reaching_init) (defScope s_Reaching_init) .none kV67 dc67 pm67 an67 cd67 ct67), sl67⟩)
    (c67 : PySem.W.codeIn K cd67 "Reaching.__init__" = true) (k67 : PySem.W.keepIn K (.ref f67) = true)
    (a68 : PySem.W.findIn K (.ref C_Put) "goes" = some (some (.ref f68)))
    (i68 : PySem.W.isFn K (.ref f68) = true)
    (l68 : K.lookup f68 = some ⟨oc68, od68, .func (PySem.W.fnOf "goes" "Row.goes" (defArgs s_Row_goes) (defBody s_Row_goes) (defScope s_Row_goes) .none kV68 dc68 pm68 an68 cd68 ct68), sl68⟩)
    (c68 : PySem.W.codeIn K cd68 "Row.goes" = true) (k68 : PySem.W.keepIn K (.ref f68) = true)
    (a69 : PySem.W.findIn K (.ref C_Put) "height" = some (some (.ref f69)))
    (i69 : PySem.W.isFn K (.ref f69) = true)
    (l69 : K.lookup f69 = some ⟨oc69, od69, .func (PySem.W.fnOf "height" "Reaching.height" (defArgs s_Reaching_height) (defBody s_Reaching_height) (defScope s_Reaching_height) .none kV69 dc69 pm69 an69 cd69 ct69), sl69⟩)
    (c69 : PySem.W.codeIn K cd69 "Reaching.height" = true) (k69 : PySem.W.keepIn K (.ref f69) = true)
    (a70 : PySem.W.findIn K (.ref C_Put) "keeps" = some (some (.ref f70)))
    (i70 : PySem.W.isFn K (.ref f70) = true)
    (l70 : K.lookup f70 = some ⟨oc70, od70, .func (PySem.W.fnOf "keeps" "Put.keeps" (defArgs s_Put_keeps) (defBody s_Put_keeps) (defScope s_Put_keeps) .none kV70 dc70 pm70 an70 cd70 ct70), sl70⟩)
    (c70 : PySem.W.codeIn K cd70 "Put.keeps" = true) (k70 : PySem.W.keepIn K (.ref f70) = true)
    (a71 : PySem.W.findIn K (.ref C_Put) "told" = some (some (.ref f71)))
    (i71 : PySem.W.isFn K (.ref f71) = true)
    (l71 : K.lookup f71 = some ⟨oc71, od71, .func (PySem.W.fnOf "told" "Put.told" (defArgs s_Put_told) (defBody s_Put_told) (defScope s_Put_told) .none kV71 dc71 pm71 an71 cd71 ct71), sl71⟩)
    (c71 : PySem.W.codeIn K cd71 "Put.told" = true) (k71 : PySem.W.keepIn K (.ref f71) = true)
    (pg_Get : PySem.W.plainGet K C_Get Str.empty = true)
    (hd_Get : PySem.W.hasDictIn K C_Get = true)
    (po_Get : PySem.W.plainOver K C_Get = true)
    (sa_Get : PySem.W.findIn K (.ref C_Get) "__setattr__" = some (some (.builtin "object.__setattr__")))
    (mk_Get : PySem.W.makesIn K C_Get = true)
    (kc_Get : PySem.W.keepIn K (.ref C_Get) = true)
    (n_Get_box : PySem.W.findIn K (.ref C_Get) "box" = some none)
    (n_Get_cell : PySem.W.findIn K (.ref C_Get) "cell" = some none)
    (a72 : PySem.W.findIn K (.ref C_Get) "__init__" = some (some (.ref f72)))
    (i72 : PySem.W.isFn K (.ref f72) = true)
    (l72 : K.lookup f72 = some ⟨oc72, od72, .func (PySem.W.fnOf "__init__" "Reaching.__init__" (defArgs s_Reaching_init) (defBody s_Reaching_init) (defScope s_Reaching_init) .none kV72 dc72 pm72 an72 cd72 ct72), sl72⟩)
    (c72 : PySem.W.codeIn K cd72 "Reaching.__init__" = true) (k72 : PySem.W.keepIn K (.ref f72) = true)
    (a73 : PySem.W.findIn K (.ref C_Get) "goes" = some (some (.ref f73)))
    (i73 : PySem.W.isFn K (.ref f73) = true)
    (l73 : K.lookup f73 = some ⟨oc73, od73, .func (PySem.W.fnOf "goes" "Row.goes" (defArgs s_Row_goes) (defBody s_Row_goes) (defScope s_Row_goes) .none kV73 dc73 pm73 an73 cd73 ct73), sl73⟩)
    (c73 : PySem.W.codeIn K cd73 "Row.goes" = true) (k73 : PySem.W.keepIn K (.ref f73) = true)
    (a74 : PySem.W.findIn K (.ref C_Get) "height" = some (some (.ref f74)))
    (i74 : PySem.W.isFn K (.ref f74) = true)
    (l74 : K.lookup f74 = some ⟨oc74, od74, .func (PySem.W.fnOf "height" "Reaching.height" (defArgs s_Reaching_height) (defBody s_Reaching_height) (defScope s_Reaching_height) .none kV74 dc74 pm74 an74 cd74 ct74), sl74⟩)
    (c74 : PySem.W.codeIn K cd74 "Reaching.height" = true) (k74 : PySem.W.keepIn K (.ref f74) = true)
    (a75 : PySem.W.findIn K (.ref C_Get) "keeps" = some (some (.ref f75)))
    (i75 : PySem.W.isFn K (.ref f75) = true)
    (l75 : K.lookup f75 = some ⟨oc75, od75, .func (PySem.W.fnOf "keeps" "Get.keeps" (defArgs s_Get_keeps) (defBody s_Get_keeps) (defScope s_Get_keeps) .none kV75 dc75 pm75 an75 cd75 ct75), sl75⟩)
    (c75 : PySem.W.codeIn K cd75 "Get.keeps" = true) (k75 : PySem.W.keepIn K (.ref f75) = true)
    (a76 : PySem.W.findIn K (.ref C_Get) "told" = some (some (.ref f76)))
    (i76 : PySem.W.isFn K (.ref f76) = true)
    (l76 : K.lookup f76 = some ⟨oc76, od76, .func (PySem.W.fnOf "told" "Get.told" (defArgs s_Get_told) (defBody s_Get_told) (defScope s_Get_told) .none kV76 dc76 pm76 an76 cd76 ct76), sl76⟩)
    (c76 : PySem.W.codeIn K cd76 "Get.told" = true) (k76 : PySem.W.keepIn K (.ref f76) = true)
    (pg_Table : PySem.W.plainGet K C_Table Str.empty = true)
    (hd_Table : PySem.W.hasDictIn K C_Table = true)
    (po_Table : PySem.W.plainOver K C_Table = true)
    (sa_Table : PySem.W.findIn K (.ref C_Table) "__setattr__" = some (some (.builtin "object.__setattr__")))
    (mk_Table : PySem.W.makesIn K C_Table = true)
    (kc_Table : PySem.W.keepIn K (.ref C_Table) = true)
    (n_Table_entries : PySem.W.findIn K (.ref C_Table) "entries" = some none)
    (n_Table_landings : PySem.W.findIn K (.ref C_Table) "landings" = some none)
    (a77 : PySem.W.findIn K (.ref C_Table) "__init__" = some (some (.ref f77)))
    (i77 : PySem.W.isFn K (.ref f77) = true)
    (l77 : K.lookup f77 = some ⟨oc77, od77, .func (PySem.W.fnOf "__init__" "Table.__init__" (defArgs s_Table_init) (defBody s_Table_init) (defScope s_Table_init) (.ref da77) kV77 dc77 pm77 an77 cd77 ct77), sl77⟩)
    (d77 : K.lookup da77 = some ⟨dc77', dd77, .seq #[.none] dn77, dl77⟩)
    (c77 : PySem.W.codeIn K cd77 "Table.__init__" = true) (k77 : PySem.W.keepIn K (.ref f77) = true)
    (ha_Set : PySem.W.findIn K (.ref C_Set) "__class__" = some (some (.builtin "object.__class__"))) (hm_Set : PySem.W.mroIn K C_Set (.type "object") = some true)
    (is_Set_Call : PySem.W.kitOne K (.ref C_Set) (.ref C_Call) = some false)
    (is_Set_Back : PySem.W.kitOne K (.ref C_Set) (.ref C_Back) = some false)
    (ha_Copy : PySem.W.findIn K (.ref C_Copy) "__class__" = some (some (.builtin "object.__class__"))) (hm_Copy : PySem.W.mroIn K C_Copy (.type "object") = some true)
    (is_Copy_Call : PySem.W.kitOne K (.ref C_Copy) (.ref C_Call) = some false)
    (is_Copy_Back : PySem.W.kitOne K (.ref C_Copy) (.ref C_Back) = some false)
    (ha_Add : PySem.W.findIn K (.ref C_Add) "__class__" = some (some (.builtin "object.__class__"))) (hm_Add : PySem.W.mroIn K C_Add (.type "object") = some true)
    (is_Add_Call : PySem.W.kitOne K (.ref C_Add) (.ref C_Call) = some false)
    (is_Add_Back : PySem.W.kitOne K (.ref C_Add) (.ref C_Back) = some false)
    (ha_Grow : PySem.W.findIn K (.ref C_Grow) "__class__" = some (some (.builtin "object.__class__"))) (hm_Grow : PySem.W.mroIn K C_Grow (.type "object") = some true)
    (is_Grow_Call : PySem.W.kitOne K (.ref C_Grow) (.ref C_Call) = some false)
    (is_Grow_Back : PySem.W.kitOne K (.ref C_Grow) (.ref C_Back) = some false)
    (ha_Shrink : PySem.W.findIn K (.ref C_Shrink) "__class__" = some (some (.builtin "object.__class__"))) (hm_Shrink : PySem.W.mroIn K C_Shrink (.type "object") = some true)
    (is_Shrink_Call : PySem.W.kitOne K (.ref C_Shrink) (.ref C_Call) = some false)
    (is_Shrink_Back : PySem.W.kitOne K (.ref C_Shrink) (.ref C_Back) = some false)
    (ha_Put : PySem.W.findIn K (.ref C_Put) "__class__" = some (some (.builtin "object.__class__"))) (hm_Put : PySem.W.mroIn K C_Put (.type "object") = some true)
    (is_Put_Call : PySem.W.kitOne K (.ref C_Put) (.ref C_Call) = some false)
    (is_Put_Back : PySem.W.kitOne K (.ref C_Put) (.ref C_Back) = some false)
    (ha_Get : PySem.W.findIn K (.ref C_Get) "__class__" = some (some (.builtin "object.__class__"))) (hm_Get : PySem.W.mroIn K C_Get (.type "object") = some true)
    (is_Get_Call : PySem.W.kitOne K (.ref C_Get) (.ref C_Call) = some false)
    (is_Get_Back : PySem.W.kitOne K (.ref C_Get) (.ref C_Back) = some false)
    (ha_Jump : PySem.W.findIn K (.ref C_Jump) "__class__" = some (some (.builtin "object.__class__"))) (hm_Jump : PySem.W.mroIn K C_Jump (.type "object") = some true)
    (is_Jump_Call : PySem.W.kitOne K (.ref C_Jump) (.ref C_Call) = some false)
    (is_Jump_Back : PySem.W.kitOne K (.ref C_Jump) (.ref C_Back) = some false)
    (ha_Branch : PySem.W.findIn K (.ref C_Branch) "__class__" = some (some (.builtin "object.__class__"))) (hm_Branch : PySem.W.mroIn K C_Branch (.type "object") = some true)
    (is_Branch_Call : PySem.W.kitOne K (.ref C_Branch) (.ref C_Call) = some false)
    (is_Branch_Back : PySem.W.kitOne K (.ref C_Branch) (.ref C_Back) = some false)
    (ha_Call : PySem.W.findIn K (.ref C_Call) "__class__" = some (some (.builtin "object.__class__"))) (hm_Call : PySem.W.mroIn K C_Call (.type "object") = some true)
    (is_Call_Call : PySem.W.kitOne K (.ref C_Call) (.ref C_Call) = some true)
    (is_Call_Back : PySem.W.kitOne K (.ref C_Call) (.ref C_Back) = some false)
    (ha_Back : PySem.W.findIn K (.ref C_Back) "__class__" = some (some (.builtin "object.__class__"))) (hm_Back : PySem.W.mroIn K C_Back (.type "object") = some true)
    (is_Back_Call : PySem.W.kitOne K (.ref C_Back) (.ref C_Call) = some false)
    (is_Back_Back : PySem.W.kitOne K (.ref C_Back) (.ref C_Back) = some true)
    (ha_Drop : PySem.W.findIn K (.ref C_Drop) "__class__" = some (some (.builtin "object.__class__"))) (hm_Drop : PySem.W.mroIn K C_Drop (.type "object") = some true)
    (is_Drop_Call : PySem.W.kitOne K (.ref C_Drop) (.ref C_Call) = some false)
    (is_Drop_Back : PySem.W.kitOne K (.ref C_Drop) (.ref C_Back) = some false)
    (ob1 : PySem.W.specialIn K (.builtin "object.__class__") "__get__" = some (some (.builtin "getset_descriptor.__get__"))) (ob2 : PySem.W.takesIn K (.builtin "object.__class__") = some true)
    (k_list_list : PySem.W.kitOne K (.type "list") (.type "list") = some true)
    (k_tuple_tuple : PySem.W.kitOne K (.type "tuple") (.type "tuple") = some true)
    (k_int_bool : PySem.W.kitOne K (.type "int") (.type "bool") = some false)
    (a78 : PySem.W.nsIn K mainGlobals "bounded" = some (some (.ref f78)))
    (l78 : K.lookup f78 = some ⟨oc78, od78, .func (PySem.W.fnOf "bounded" "bounded" (defArgs s_bounded) (defBody s_bounded) (defScope s_bounded) .none kV78 dc78 pm78 an78 cd78 ct78), sl78⟩)
    (c78 : PySem.W.codeIn K cd78 "bounded" = true) (k78 : PySem.W.keepIn K (.ref f78) = true)
    (a79 : PySem.W.nsIn K mainGlobals "box_place" = some (some (.ref f79)))
    (l79 : K.lookup f79 = some ⟨oc79, od79, .func (PySem.W.fnOf "box_place" "box_place" (defArgs s_box_place) (defBody s_box_place) (defScope s_box_place) .none kV79 dc79 pm79 an79 cd79 ct79), sl79⟩)
    (c79 : PySem.W.codeIn K cd79 "box_place" = true) (k79 : PySem.W.keepIn K (.ref f79) = true)
    (a80 : PySem.W.nsIn K mainGlobals "cell_place" = some (some (.ref f80)))
    (l80 : K.lookup f80 = some ⟨oc80, od80, .func (PySem.W.fnOf "cell_place" "cell_place" (defArgs s_cell_place) (defBody s_cell_place) (defScope s_cell_place) .none kV80 dc80 pm80 an80 cd80 ct80), sl80⟩)
    (c80 : PySem.W.codeIn K cd80 "cell_place" = true) (k80 : PySem.W.keepIn K (.ref f80) = true)
    (a81 : PySem.W.nsIn K mainGlobals "without" = some (some (.ref f81)))
    (l81 : K.lookup f81 = some ⟨oc81, od81, .func (PySem.W.fnOf "without" "without" (defArgs s_without) (defBody s_without) (defScope s_without) .none kV81 dc81 pm81 an81 cd81 ct81), sl81⟩)
    (c81 : PySem.W.codeIn K cd81 "without" = true) (k81 : PySem.W.keepIn K (.ref f81) = true)
    (a82 : PySem.W.nsIn K mainGlobals "filled" = some (some (.ref f82)))
    (l82 : K.lookup f82 = some ⟨oc82, od82, .func (PySem.W.fnOf "filled" "filled" (defArgs s_filled) (defBody s_filled) (defScope s_filled) .none kV82 dc82 pm82 an82 cd82 ct82), sl82⟩)
    (c82 : PySem.W.codeIn K cd82 "filled" = true) (k82 : PySem.W.keepIn K (.ref f82) = true)
    (a83 : PySem.W.nsIn K mainGlobals "sets_of" = some (some (.ref f83)))
    (l83 : K.lookup f83 = some ⟨oc83, od83, .func (PySem.W.fnOf "sets_of" "sets_of" (defArgs s_sets_of) (defBody s_sets_of) (defScope s_sets_of) .none kV83 dc83 pm83 an83 cd83 ct83), sl83⟩)
    (c83 : PySem.W.codeIn K cd83 "sets_of" = true) (k83 : PySem.W.keepIn K (.ref f83) = true)
    (a84 : PySem.W.nsIn K mainGlobals "is_row" = some (some (.ref f84)))
    (l84 : K.lookup f84 = some ⟨oc84, od84, .func (PySem.W.fnOf "is_row" "is_row" (defArgs s_is_row) (defBody s_is_row) (defScope s_is_row) .none kV84 dc84 pm84 an84 cd84 ct84), sl84⟩)
    (c84 : PySem.W.codeIn K cd84 "is_row" = true) (k84 : PySem.W.keepIn K (.ref f84) = true)
    (a85 : PySem.W.nsIn K mainGlobals "has_wrong_place" = some (some (.ref f85)))
    (l85 : K.lookup f85 = some ⟨oc85, od85, .func (PySem.W.fnOf "has_wrong_place" "has_wrong_place" (defArgs s_has_wrong_place) (defBody s_has_wrong_place) (defScope s_has_wrong_place) .none kV85 dc85 pm85 an85 cd85 ct85), sl85⟩)
    (c85 : PySem.W.codeIn K cd85 "has_wrong_place" = true) (k85 : PySem.W.keepIn K (.ref f85) = true)
    (a86 : PySem.W.nsIn K mainGlobals "may_go_back" = some (some (.ref f86)))
    (l86 : K.lookup f86 = some ⟨oc86, od86, .func (PySem.W.fnOf "may_go_back" "may_go_back" (defArgs s_may_go_back) (defBody s_may_go_back) (defScope s_may_go_back) .none kV86 dc86 pm86 an86 cd86 ct86), sl86⟩)
    (c86 : PySem.W.codeIn K cd86 "may_go_back" = true) (k86 : PySem.W.keepIn K (.ref f86) = true)
    (a87 : PySem.W.nsIn K mainGlobals "own_complaint" = some (some (.ref f87)))
    (l87 : K.lookup f87 = some ⟨oc87, od87, .func (PySem.W.fnOf "own_complaint" "own_complaint" (defArgs s_own_complaint) (defBody s_own_complaint) (defScope s_own_complaint) .none kV87 dc87 pm87 an87 cd87 ct87), sl87⟩)
    (c87 : PySem.W.codeIn K cd87 "own_complaint" = true) (k87 : PySem.W.keepIn K (.ref f87) = true)
    (a88 : PySem.W.nsIn K mainGlobals "way_complaint" = some (some (.ref f88)))
    (l88 : K.lookup f88 = some ⟨oc88, od88, .func (PySem.W.fnOf "way_complaint" "way_complaint" (defArgs s_way_complaint) (defBody s_way_complaint) (defScope s_way_complaint) .none kV88 dc88 pm88 an88 cd88 ct88), sl88⟩)
    (c88 : PySem.W.codeIn K cd88 "way_complaint" = true) (k88 : PySem.W.keepIn K (.ref f88) = true)
    (a89 : PySem.W.nsIn K mainGlobals "target_complaint" = some (some (.ref f89)))
    (l89 : K.lookup f89 = some ⟨oc89, od89, .func (PySem.W.fnOf "target_complaint" "target_complaint" (defArgs s_target_complaint) (defBody s_target_complaint) (defScope s_target_complaint) .none kV89 dc89 pm89 an89 cd89 ct89), sl89⟩)
    (c89 : PySem.W.codeIn K cd89 "target_complaint" = true) (k89 : PySem.W.keepIn K (.ref f89) = true)
    (a90 : PySem.W.nsIn K mainGlobals "each_once" = some (some (.ref f90)))
    (l90 : K.lookup f90 = some ⟨oc90, od90, .func (PySem.W.fnOf "each_once" "each_once" (defArgs s_each_once) (defBody s_each_once) (defScope s_each_once) .none kV90 dc90 pm90 an90 cd90 ct90), sl90⟩)
    (c90 : PySem.W.codeIn K cd90 "each_once" = true) (k90 : PySem.W.keepIn K (.ref f90) = true)
    (a91 : PySem.W.nsIn K mainGlobals "row_complaints" = some (some (.ref f91)))
    (l91 : K.lookup f91 = some ⟨oc91, od91, .func (PySem.W.fnOf "row_complaints" "row_complaints" (defArgs s_row_complaints) (defBody s_row_complaints) (defScope s_row_complaints) .none kV91 dc91 pm91 an91 cd91 ct91), sl91⟩)
    (c91 : PySem.W.codeIn K cd91 "row_complaints" = true) (k91 : PySem.W.keepIn K (.ref f91) = true)
    (a92 : PySem.W.nsIn K mainGlobals "landing_complaint" = some (some (.ref f92)))
    (l92 : K.lookup f92 = some ⟨oc92, od92, .func (PySem.W.fnOf "landing_complaint" "landing_complaint" (defArgs s_landing_complaint) (defBody s_landing_complaint) (defScope s_landing_complaint) .none kV92 dc92 pm92 an92 cd92 ct92), sl92⟩)
    (c92 : PySem.W.codeIn K cd92 "landing_complaint" = true) (k92 : PySem.W.keepIn K (.ref f92) = true)
    (a93 : PySem.W.nsIn K mainGlobals "checked" = some (some (.ref f93)))
    (l93 : K.lookup f93 = some ⟨oc93, od93, .func (PySem.W.fnOf "checked" "checked" (defArgs s_checked) (defBody s_checked) (defScope s_checked) .none kV93 dc93 pm93 an93 cd93 ct93), sl93⟩)
    (c93 : PySem.W.codeIn K cd93 "checked" = true) (k93 : PySem.W.keepIn K (.ref f93) = true)
    (a94 : PySem.W.nsIn K mainGlobals "_law_cell_at" = some (some (.ref f94)))
    (l94 : K.lookup f94 = some ⟨oc94, od94, .func (PySem.W.fnOf "_law_cell_at" "_law_cell_at" (defArgs s_law_cell_at) (defBody s_law_cell_at) (defScope s_law_cell_at) .none kV94 dc94 pm94 an94 cd94 ct94), sl94⟩)
    (c94 : PySem.W.codeIn K cd94 "_law_cell_at" = true) (k94 : PySem.W.keepIn K (.ref f94) = true)
    (a95 : PySem.W.nsIn K mainGlobals "_law_row" = some (some (.ref f95)))
    (l95 : K.lookup f95 = some ⟨oc95, od95, .func (PySem.W.fnOf "_law_row" "_law_row" (defArgs s_law_row) (defBody s_law_row) (defScope s_law_row) .none kV95 dc95 pm95 an95 cd95 ct95), sl95⟩)
    (c95 : PySem.W.codeIn K cd95 "_law_row" = true) (k95 : PySem.W.keepIn K (.ref f95) = true)
    (a96 : PySem.W.nsIn K mainGlobals "_law_set" = some (some (.ref f96)))
    (l96 : K.lookup f96 = some ⟨oc96, od96, .func (PySem.W.fnOf "_law_set" "_law_set" (defArgs s_law_set) (defBody s_law_set) (defScope s_law_set) .none kV96 dc96 pm96 an96 cd96 ct96), sl96⟩)
    (c96 : PySem.W.codeIn K cd96 "_law_set" = true) (k96 : PySem.W.keepIn K (.ref f96) = true)
    (a97 : PySem.W.nsIn K mainGlobals "_law_entry" = some (some (.ref f97)))
    (l97 : K.lookup f97 = some ⟨oc97, od97, .func (PySem.W.fnOf "_law_entry" "_law_entry" (defArgs s_law_entry) (defBody s_law_entry) (defScope s_law_entry) .none kV97 dc97 pm97 an97 cd97 ct97), sl97⟩)
    (c97 : PySem.W.codeIn K cd97 "_law_entry" = true) (k97 : PySem.W.keepIn K (.ref f97) = true)
    (a98 : PySem.W.nsIn K mainGlobals "_law_sets" = some (some (.ref f98)))
    (l98 : K.lookup f98 = some ⟨oc98, od98, .func (PySem.W.fnOf "_law_sets" "_law_sets" (defArgs s_law_sets) (defBody s_law_sets) (defScope s_law_sets) .none kV98 dc98 pm98 an98 cd98 ct98), sl98⟩)
    (c98 : PySem.W.codeIn K cd98 "_law_sets" = true) (k98 : PySem.W.keepIn K (.ref f98) = true)
    (a99 : PySem.W.nsIn K mainGlobals "_law_own" = some (some (.ref f99)))
    (l99 : K.lookup f99 = some ⟨oc99, od99, .func (PySem.W.fnOf "_law_own" "_law_own" (defArgs s_law_own) (defBody s_law_own) (defScope s_law_own) .none kV99 dc99 pm99 an99 cd99 ct99), sl99⟩)
    (c99 : PySem.W.codeIn K cd99 "_law_own" = true) (k99 : PySem.W.keepIn K (.ref f99) = true)
    (a100 : PySem.W.nsIn K mainGlobals "_law_next" = some (some (.ref f100)))
    (l100 : K.lookup f100 = some ⟨oc100, od100, .func (PySem.W.fnOf "_law_next" "_law_next" (defArgs s_law_next) (defBody s_law_next) (defScope s_law_next) .none kV100 dc100 pm100 an100 cd100 ct100), sl100⟩)
    (c100 : PySem.W.codeIn K cd100 "_law_next" = true) (k100 : PySem.W.keepIn K (.ref f100) = true)
    (a101 : PySem.W.nsIn K mainGlobals "_law_of_row" = some (some (.ref f101)))
    (l101 : K.lookup f101 = some ⟨oc101, od101, .func (PySem.W.fnOf "_law_of_row" "_law_of_row" (defArgs s_law_of_row) (defBody s_law_of_row) (defScope s_law_of_row) .none kV101 dc101 pm101 an101 cd101 ct101), sl101⟩)
    (c101 : PySem.W.codeIn K cd101 "_law_of_row" = true) (k101 : PySem.W.keepIn K (.ref f101) = true)
    (a102 : PySem.W.nsIn K mainGlobals "_law_of_landing" = some (some (.ref f102)))
    (l102 : K.lookup f102 = some ⟨oc102, od102, .func (PySem.W.fnOf "_law_of_landing" "_law_of_landing" (defArgs s_law_of_landing) (defBody s_law_of_landing) (defScope s_law_of_landing) .none kV102 dc102 pm102 an102 cd102 ct102), sl102⟩)
    (c102 : PySem.W.codeIn K cd102 "_law_of_landing" = true) (k102 : PySem.W.keepIn K (.ref f102) = true)
    (a103 : PySem.W.nsIn K mainGlobals "_law_due" = some (some (.ref f103)))
    (l103 : K.lookup f103 = some ⟨oc103, od103, .func (PySem.W.fnOf "_law_due" "_law_due" (defArgs s_law_due) (defBody s_law_due) (defScope s_law_due) .none kV103 dc103 pm103 an103 cd103 ct103), sl103⟩)
    (c103 : PySem.W.codeIn K cd103 "_law_due" = true) (k103 : PySem.W.keepIn K (.ref f103) = true)
    (a104 : PySem.W.nsIn K mainGlobals "_law_told" = some (some (.ref f104)))
    (l104 : K.lookup f104 = some ⟨oc104, od104, .func (PySem.W.fnOf "_law_told" "_law_told" (defArgs s_law_told) (defBody s_law_told) (defScope s_law_told) .none kV104 dc104 pm104 an104 cd104 ct104), sl104⟩)
    (c104 : PySem.W.codeIn K cd104 "_law_told" = true) (k104 : PySem.W.keepIn K (.ref f104) = true)
    (a105 : PySem.W.nsIn K mainGlobals "law" = some (some (.ref f105)))
    (l105 : K.lookup f105 = some ⟨oc105, od105, .func (PySem.W.fnOf "law" "law" (defArgs s_law) (defBody s_law) (defScope s_law) .none kV105 dc105 pm105 an105 cd105 ct105), sl105⟩)
    (c105 : PySem.W.codeIn K cd105 "law" = true) (k105 : PySem.W.keepIn K (.ref f105) = true) :
    ∃ (a : Adr) (fd : FuncData), Txt K mg a ∧ Fun K "law" "law" s_law fa fd ∧ ∀ (s : Shared) (v : Value), BindsTo s fd ⟨[v], []⟩ [("_law_script", v)] := by
  have e := hfa.symm.trans (PySem.W.mg_of X G a105)
  cases e
  refine ⟨⟨0, C_Set, C_Copy, C_Add, 0, 0, 0, C_Grow, C_Shrink, C_Put, C_Get, C_Jump, C_Branch, C_Call, C_Back, C_Drop, 0, 0, 0, C_NoRow, 0, 0, C_Table, 0, 0, 0, 0, 0, 0, G_START, 0, 0, G_KEPT_BOXES, G_SET_NAMES, 0, 0⟩, _, ?_, fun_mk (st := s_law) l105 c105 k105, fun s v => .of_eq rfl⟩
  exact {
    z_all := PySem.W.mg_none_of X G z_all
    z_any := PySem.W.mg_none_of X G z_any
    z_bool := PySem.W.mg_none_of X G z_bool
    z_dict := PySem.W.mg_none_of X G z_dict
    z_isinstance := PySem.W.mg_none_of X G z_isinstance
    z_len := PySem.W.mg_none_of X G z_len
    z_list := PySem.W.mg_none_of X G z_list
    z_max := PySem.W.mg_none_of X G z_max
    z_range := PySem.W.mg_none_of X G z_range
    z_sorted := PySem.W.mg_none_of X G z_sorted
    z_tuple := PySem.W.mg_none_of X G z_tuple
    z_zip := PySem.W.mg_none_of X G z_zip
    g_FIRST_CELL_BIT := ⟨_, PySem.W.mg_of X G g_FIRST_CELL_BIT⟩
    s_KEPT_BOXES := PySem.W.mg_of X G g_KEPT_BOXES
    t_KEPT_BOXES := sqtK t4_KEPT_BOXES (show 3 ≤ sizeLine by decide) (.cons ⟨_, rfl⟩ (.cons ⟨_, rfl⟩ (.cons ⟨_, rfl⟩ .nil)))
    g_LOST_BY_CALL := ⟨_, PySem.W.mg_of X G g_LOST_BY_CALL⟩
    s_SET_NAMES := PySem.W.mg_of X G g_SET_NAMES
    t_SET_NAMES := sqtK t9_SET_NAMES (show 4 ≤ sizeLine by decide) (.cons ⟨_, rfl⟩ (.cons ⟨_, rfl⟩ (.cons ⟨_, rfl⟩ (.cons ⟨_, rfl⟩ .nil))))
    s_START := PySem.W.mg_of X G g_START
    t_START := ⟨_, sqtK t12_START (show 3 ≤ sizeLine by decide) (.cons ⟨_, rfl⟩ (.cons ⟨_, rfl⟩ (.cons rfl .nil))), sqtK t16_START (show 3 ≤ sizeLine by decide) (.cons ⟨_, rfl⟩ (.cons ⟨_, rfl⟩ (.cons ⟨_, rfl⟩ .nil)))⟩
    g_TOP_BOX := ⟨_, PySem.W.mg_of X G g_TOP_BOX⟩
    g_TOP_CELLS := ⟨_, PySem.W.mg_of X G g_TOP_CELLS⟩
    g_TOP_TARGET := ⟨_, PySem.W.mg_of X G g_TOP_TARGET⟩
    g_TOP_VALUE := ⟨_, PySem.W.mg_of X G g_TOP_VALUE⟩
    c_Add := PySem.W.mg_of X G c_Add
    c_Back := PySem.W.mg_of X G c_Back
    c_Branch := PySem.W.mg_of X G c_Branch
    c_Call := PySem.W.mg_of X G c_Call
    c_Copy := PySem.W.mg_of X G c_Copy
    c_Drop := PySem.W.mg_of X G c_Drop
    c_Get := PySem.W.mg_of X G c_Get
    c_Grow := PySem.W.mg_of X G c_Grow
    c_Jump := PySem.W.mg_of X G c_Jump
    c_NoRow := PySem.W.mg_of X G c_NoRow
    c_Put := PySem.W.mg_of X G c_Put
    c_Set := PySem.W.mg_of X G c_Set
    c_Shrink := PySem.W.mg_of X G c_Shrink
    c_Table := PySem.W.mg_of X G c_Table
    cl_Jump := ⟨pg_Jump, hd_Jump, po_Jump, sa_Jump⟩
    n_Jump_target := n_Jump_target
    i_Jump := ⟨_, _, fun_mk (st := s_Jump_init) l17 c17 k17, ⟨mk_Jump, a17, i17, kc_Jump⟩, (fun_mk (st := s_Jump_init) l17 c17 k17).binds (ps := ["self", "target"]) fun _ _ _ _ _ _ us hl => match us, hl with | [_, _], _ => rfl⟩
    m_Jump_goes := ⟨_, _, fun_mk (st := s_Jump_goes) l18 c18 k18, ⟨a18, i18, k18⟩, (fun_mk (st := s_Jump_goes) l18 c18 k18).binds (ps := ["self", "at"]) fun _ _ _ _ _ _ us hl => match us, hl with | [_, _], _ => rfl⟩
    m_Jump_height := ⟨_, _, fun_mk (st := s_Row_height) l19 c19 k19, ⟨a19, i19, k19⟩, (fun_mk (st := s_Row_height) l19 c19 k19).binds (ps := ["self", "high"]) fun _ _ _ _ _ _ us hl => match us, hl with | [_, _], _ => rfl⟩
    m_Jump_keeps := ⟨_, _, fun_mk (st := s_Row_keeps) l20 c20 k20, ⟨a20, i20, k20⟩, (fun_mk (st := s_Row_keeps) l20 c20 k20).binds (ps := ["self", "places", "high"]) fun _ _ _ _ _ _ us hl => match us, hl with | [_, _, _], _ => rfl⟩
    m_Jump_told := ⟨_, _, fun_mk (st := s_Jump_told) l21 c21 k21, ⟨a21, i21, k21⟩, (fun_mk (st := s_Jump_told) l21 c21 k21).binds (ps := ["self"]) fun _ _ _ _ _ _ us hl => match us, hl with | [_], _ => rfl⟩
    cl_Branch := ⟨pg_Branch, hd_Branch, po_Branch, sa_Branch⟩
    n_Branch_box := n_Branch_box
    n_Branch_target := n_Branch_target
    i_Branch := ⟨_, _, fun_mk (st := s_Branch_init) l22 c22 k22, ⟨mk_Branch, a22, i22, kc_Branch⟩, (fun_mk (st := s_Branch_init) l22 c22 k22).binds (ps := ["self", "box", "target"]) fun _ _ _ _ _ _ us hl => match us, hl with | [_, _, _], _ => rfl⟩
    m_Branch_goes := ⟨_, _, fun_mk (st := s_Branch_goes) l23 c23 k23, ⟨a23, i23, k23⟩, (fun_mk (st := s_Branch_goes) l23 c23 k23).binds (ps := ["self", "at"]) fun _ _ _ _ _ _ us hl => match us, hl with | [_, _], _ => rfl⟩
    m_Branch_height := ⟨_, _, fun_mk (st := s_Row_height) l24 c24 k24, ⟨a24, i24, k24⟩, (fun_mk (st := s_Row_height) l24 c24 k24).binds (ps := ["self", "high"]) fun _ _ _ _ _ _ us hl => match us, hl with | [_, _], _ => rfl⟩
    m_Branch_keeps := ⟨_, _, fun_mk (st := s_Row_keeps) l25 c25 k25, ⟨a25, i25, k25⟩, (fun_mk (st := s_Row_keeps) l25 c25 k25).binds (ps := ["self", "places", "high"]) fun _ _ _ _ _ _ us hl => match us, hl with | [_, _, _], _ => rfl⟩
    m_Branch_told := ⟨_, _, fun_mk (st := s_Branch_told) l26 c26 k26, ⟨a26, i26, k26⟩, (fun_mk (st := s_Branch_told) l26 c26 k26).binds (ps := ["self"]) fun _ _ _ _ _ _ us hl => match us, hl with | [_], _ => rfl⟩
    cl_Call := ⟨pg_Call, hd_Call, po_Call, sa_Call⟩
    n_Call_target := n_Call_target
    i_Call := ⟨_, _, fun_mk (st := s_Call_init) l27 c27 k27, ⟨mk_Call, a27, i27, kc_Call⟩, (fun_mk (st := s_Call_init) l27 c27 k27).binds (ps := ["self", "target"]) fun _ _ _ _ _ _ us hl => match us, hl with | [_, _], _ => rfl⟩
    m_Call_goes := ⟨_, _, fun_mk (st := s_Row_goes) l28 c28 k28, ⟨a28, i28, k28⟩, (fun_mk (st := s_Row_goes) l28 c28 k28).binds (ps := ["self", "at"]) fun _ _ _ _ _ _ us hl => match us, hl with | [_, _], _ => rfl⟩
    m_Call_height := ⟨_, _, fun_mk (st := s_Row_height) l29 c29 k29, ⟨a29, i29, k29⟩, (fun_mk (st := s_Row_height) l29 c29 k29).binds (ps := ["self", "high"]) fun _ _ _ _ _ _ us hl => match us, hl with | [_, _], _ => rfl⟩
    m_Call_keeps := ⟨_, _, fun_mk (st := s_Call_keeps) l30 c30 k30, ⟨a30, i30, k30⟩, (fun_mk (st := s_Call_keeps) l30 c30 k30).binds (ps := ["self", "places", "high"]) fun _ _ _ _ _ _ us hl => match us, hl with | [_, _, _], _ => rfl⟩
    m_Call_told := ⟨_, _, fun_mk (st := s_Call_told) l31 c31 k31, ⟨a31, i31, k31⟩, (fun_mk (st := s_Call_told) l31 c31 k31).binds (ps := ["self"]) fun _ _ _ _ _ _ us hl => match us, hl with | [_], _ => rfl⟩
    cl_Back := ⟨pg_Back, hd_Back, po_Back, sa_Back⟩
    n_Back_box := n_Back_box
    i_Back := ⟨_, _, fun_mk (st := s_Back_init) l32 c32 k32, ⟨mk_Back, a32, i32, kc_Back⟩, (fun_mk (st := s_Back_init) l32 c32 k32).binds (ps := ["self", "box"]) fun _ _ _ _ _ _ us hl => match us, hl with | [_, _], _ => rfl⟩
    m_Back_goes := ⟨_, _, fun_mk (st := s_Back_goes) l33 c33 k33, ⟨a33, i33, k33⟩, (fun_mk (st := s_Back_goes) l33 c33 k33).binds (ps := ["self", "at"]) fun _ _ _ _ _ _ us hl => match us, hl with | [_, _], _ => rfl⟩
    m_Back_height := ⟨_, _, fun_mk (st := s_Row_height) l34 c34 k34, ⟨a34, i34, k34⟩, (fun_mk (st := s_Row_height) l34 c34 k34).binds (ps := ["self", "high"]) fun _ _ _ _ _ _ us hl => match us, hl with | [_, _], _ => rfl⟩
    m_Back_keeps := ⟨_, _, fun_mk (st := s_Row_keeps) l35 c35 k35, ⟨a35, i35, k35⟩, (fun_mk (st := s_Row_keeps) l35 c35 k35).binds (ps := ["self", "places", "high"]) fun _ _ _ _ _ _ us hl => match us, hl with | [_, _, _], _ => rfl⟩
    m_Back_told := ⟨_, _, fun_mk (st := s_Back_told) l36 c36 k36, ⟨a36, i36, k36⟩, (fun_mk (st := s_Back_told) l36 c36 k36).binds (ps := ["self"]) fun _ _ _ _ _ _ us hl => match us, hl with | [_], _ => rfl⟩
    cl_Drop := ⟨pg_Drop, hd_Drop, po_Drop, sa_Drop⟩
    n_Drop_box := n_Drop_box
    i_Drop := ⟨_, _, fun_mk (st := s_Drop_init) l37 c37 k37, ⟨mk_Drop, a37, i37, kc_Drop⟩, (fun_mk (st := s_Drop_init) l37 c37 k37).binds (ps := ["self", "box"]) fun _ _ _ _ _ _ us hl => match us, hl with | [_, _], _ => rfl⟩
    m_Drop_goes := ⟨_, _, fun_mk (st := s_Drop_goes) l38 c38 k38, ⟨a38, i38, k38⟩, (fun_mk (st := s_Drop_goes) l38 c38 k38).binds (ps := ["self", "at"]) fun _ _ _ _ _ _ us hl => match us, hl with | [_, _], _ => rfl⟩
    m_Drop_height := ⟨_, _, fun_mk (st := s_Row_height) l39 c39 k39, ⟨a39, i39, k39⟩, (fun_mk (st := s_Row_height) l39 c39 k39).binds (ps := ["self", "high"]) fun _ _ _ _ _ _ us hl => match us, hl with | [_, _], _ => rfl⟩
    m_Drop_keeps := ⟨_, _, fun_mk (st := s_Row_keeps) l40 c40 k40, ⟨a40, i40, k40⟩, (fun_mk (st := s_Row_keeps) l40 c40 k40).binds (ps := ["self", "places", "high"]) fun _ _ _ _ _ _ us hl => match us, hl with | [_, _, _], _ => rfl⟩
    m_Drop_told := ⟨_, _, fun_mk (st := s_Drop_told) l41 c41 k41, ⟨a41, i41, k41⟩, (fun_mk (st := s_Drop_told) l41 c41 k41).binds (ps := ["self"]) fun _ _ _ _ _ _ us hl => match us, hl with | [_], _ => rfl⟩
    cl_Set := ⟨pg_Set, hd_Set, po_Set, sa_Set⟩
    n_Set_box := n_Set_box
    n_Set_number := n_Set_number
    i_Set := ⟨_, _, fun_mk (st := s_Set_init) l42 c42 k42, ⟨mk_Set, a42, i42, kc_Set⟩, (fun_mk (st := s_Set_init) l42 c42 k42).binds (ps := ["self", "box", "number"]) fun _ _ _ _ _ _ us hl => match us, hl with | [_, _, _], _ => rfl⟩
    m_Set_goes := ⟨_, _, fun_mk (st := s_Row_goes) l43 c43 k43, ⟨a43, i43, k43⟩, (fun_mk (st := s_Row_goes) l43 c43 k43).binds (ps := ["self", "at"]) fun _ _ _ _ _ _ us hl => match us, hl with | [_, _], _ => rfl⟩
    m_Set_height := ⟨_, _, fun_mk (st := s_Row_height) l44 c44 k44, ⟨a44, i44, k44⟩, (fun_mk (st := s_Row_height) l44 c44 k44).binds (ps := ["self", "high"]) fun _ _ _ _ _ _ us hl => match us, hl with | [_, _], _ => rfl⟩
    m_Set_keeps := ⟨_, _, fun_mk (st := s_Set_keeps) l45 c45 k45, ⟨a45, i45, k45⟩, (fun_mk (st := s_Set_keeps) l45 c45 k45).binds (ps := ["self", "places", "high"]) fun _ _ _ _ _ _ us hl => match us, hl with | [_, _, _], _ => rfl⟩
    m_Set_told := ⟨_, _, fun_mk (st := s_Set_told) l46 c46 k46, ⟨a46, i46, k46⟩, (fun_mk (st := s_Set_told) l46 c46 k46).binds (ps := ["self"]) fun _ _ _ _ _ _ us hl => match us, hl with | [_], _ => rfl⟩
    cl_Copy := ⟨pg_Copy, hd_Copy, po_Copy, sa_Copy⟩
    n_Copy_box := n_Copy_box
    n_Copy_one := n_Copy_one
    i_Copy := ⟨_, _, fun_mk (st := s_Copy_init) l47 c47 k47, ⟨mk_Copy, a47, i47, kc_Copy⟩, (fun_mk (st := s_Copy_init) l47 c47 k47).binds (ps := ["self", "box", "one"]) fun _ _ _ _ _ _ us hl => match us, hl with | [_, _, _], _ => rfl⟩
    m_Copy_goes := ⟨_, _, fun_mk (st := s_Row_goes) l48 c48 k48, ⟨a48, i48, k48⟩, (fun_mk (st := s_Row_goes) l48 c48 k48).binds (ps := ["self", "at"]) fun _ _ _ _ _ _ us hl => match us, hl with | [_, _], _ => rfl⟩
    m_Copy_height := ⟨_, _, fun_mk (st := s_Row_height) l49 c49 k49, ⟨a49, i49, k49⟩, (fun_mk (st := s_Row_height) l49 c49 k49).binds (ps := ["self", "high"]) fun _ _ _ _ _ _ us hl => match us, hl with | [_, _], _ => rfl⟩
    m_Copy_keeps := ⟨_, _, fun_mk (st := s_Copy_keeps) l50 c50 k50, ⟨a50, i50, k50⟩, (fun_mk (st := s_Copy_keeps) l50 c50 k50).binds (ps := ["self", "places", "high"]) fun _ _ _ _ _ _ us hl => match us, hl with | [_, _, _], _ => rfl⟩
    m_Copy_told := ⟨_, _, fun_mk (st := s_Copy_told) l51 c51 k51, ⟨a51, i51, k51⟩, (fun_mk (st := s_Copy_told) l51 c51 k51).binds (ps := ["self"]) fun _ _ _ _ _ _ us hl => match us, hl with | [_], _ => rfl⟩
    cl_Add := ⟨pg_Add, hd_Add, po_Add, sa_Add⟩
    n_Add_box := n_Add_box
    n_Add_one := n_Add_one
    n_Add_other := n_Add_other
    i_Add := ⟨_, _, fun_mk (st := s_Reckoning_init) l52 c52 k52, ⟨mk_Add, a52, i52, kc_Add⟩, (fun_mk (st := s_Reckoning_init) l52 c52 k52).binds (ps := ["self", "box", "one", "other"]) fun _ _ _ _ _ _ us hl => match us, hl with | [_, _, _, _], _ => rfl⟩
    m_Add_goes := ⟨_, _, fun_mk (st := s_Row_goes) l53 c53 k53, ⟨a53, i53, k53⟩, (fun_mk (st := s_Row_goes) l53 c53 k53).binds (ps := ["self", "at"]) fun _ _ _ _ _ _ us hl => match us, hl with | [_, _], _ => rfl⟩
    m_Add_height := ⟨_, _, fun_mk (st := s_Row_height) l54 c54 k54, ⟨a54, i54, k54⟩, (fun_mk (st := s_Row_height) l54 c54 k54).binds (ps := ["self", "high"]) fun _ _ _ _ _ _ us hl => match us, hl with | [_, _], _ => rfl⟩
    m_Add_keeps := ⟨_, _, fun_mk (st := s_Reckoning_keeps) l55 c55 k55, ⟨a55, i55, k55⟩, (fun_mk (st := s_Reckoning_keeps) l55 c55 k55).binds (ps := ["self", "places", "high"]) fun _ _ _ _ _ _ us hl => match us, hl with | [_, _, _], _ => rfl⟩
    m_Add_told := ⟨_, _, fun_mk (st := s_Add_told) l56 c56 k56, ⟨a56, i56, k56⟩, (fun_mk (st := s_Add_told) l56 c56 k56).binds (ps := ["self"]) fun _ _ _ _ _ _ us hl => match us, hl with | [_], _ => rfl⟩
    cl_Grow := ⟨pg_Grow, hd_Grow, po_Grow, sa_Grow⟩
    n_Grow_many := n_Grow_many
    i_Grow := ⟨_, _, fun_mk (st := s_Grow_init) l57 c57 k57, ⟨mk_Grow, a57, i57, kc_Grow⟩, (fun_mk (st := s_Grow_init) l57 c57 k57).binds (ps := ["self", "many"]) fun _ _ _ _ _ _ us hl => match us, hl with | [_, _], _ => rfl⟩
    m_Grow_goes := ⟨_, _, fun_mk (st := s_Row_goes) l58 c58 k58, ⟨a58, i58, k58⟩, (fun_mk (st := s_Row_goes) l58 c58 k58).binds (ps := ["self", "at"]) fun _ _ _ _ _ _ us hl => match us, hl with | [_, _], _ => rfl⟩
    m_Grow_height := ⟨_, _, fun_mk (st := s_Grow_height) l59 c59 k59, ⟨a59, i59, k59⟩, (fun_mk (st := s_Grow_height) l59 c59 k59).binds (ps := ["self", "high"]) fun _ _ _ _ _ _ us hl => match us, hl with | [_, _], _ => rfl⟩
    m_Grow_keeps := ⟨_, _, fun_mk (st := s_Row_keeps) l60 c60 k60, ⟨a60, i60, k60⟩, (fun_mk (st := s_Row_keeps) l60 c60 k60).binds (ps := ["self", "places", "high"]) fun _ _ _ _ _ _ us hl => match us, hl with | [_, _, _], _ => rfl⟩
    m_Grow_told := ⟨_, _, fun_mk (st := s_Grow_told) l61 c61 k61, ⟨a61, i61, k61⟩, (fun_mk (st := s_Grow_told) l61 c61 k61).binds (ps := ["self"]) fun _ _ _ _ _ _ us hl => match us, hl with | [_], _ => rfl⟩
    cl_Shrink := ⟨pg_Shrink, hd_Shrink, po_Shrink, sa_Shrink⟩
    n_Shrink_many := n_Shrink_many
    i_Shrink := ⟨_, _, fun_mk (st := s_Shrink_init) l62 c62 k62, ⟨mk_Shrink, a62, i62, kc_Shrink⟩, (fun_mk (st := s_Shrink_init) l62 c62 k62).binds (ps := ["self", "many"]) fun _ _ _ _ _ _ us hl => match us, hl with | [_, _], _ => rfl⟩
    m_Shrink_goes := ⟨_, _, fun_mk (st := s_Row_goes) l63 c63 k63, ⟨a63, i63, k63⟩, (fun_mk (st := s_Row_goes) l63 c63 k63).binds (ps := ["self", "at"]) fun _ _ _ _ _ _ us hl => match us, hl with | [_, _], _ => rfl⟩
    m_Shrink_height := ⟨_, _, fun_mk (st := s_Shrink_height) l64 c64 k64, ⟨a64, i64, k64⟩, (fun_mk (st := s_Shrink_height) l64 c64 k64).binds (ps := ["self", "high"]) fun _ _ _ _ _ _ us hl => match us, hl with | [_, _], _ => rfl⟩
    m_Shrink_keeps := ⟨_, _, fun_mk (st := s_Shrink_keeps) l65 c65 k65, ⟨a65, i65, k65⟩, (fun_mk (st := s_Shrink_keeps) l65 c65 k65).binds (ps := ["self", "places", "high"]) fun _ _ _ _ _ _ us hl => match us, hl with | [_, _, _], _ => rfl⟩
    m_Shrink_told := ⟨_, _, fun_mk (st := s_Shrink_told) l66 c66 k66, ⟨a66, i66, k66⟩, (fun_mk (st := s_Shrink_told) l66 c66 k66).binds (ps := ["self"]) fun _ _ _ _ _ _ us hl => match us, hl with | [_], _ => rfl⟩
    cl_Put := ⟨pg_Put, hd_Put, po_Put, sa_Put⟩
    n_Put_box := n_Put_box
    n_Put_cell := n_Put_cell
    i_Put := ⟨_, _, fun_mk (st := s_Reaching_init) l67 c67 k67, ⟨mk_Put, a67, i67, kc_Put⟩, (fun_mk (st := s_Reaching_init) l67 c67 k67).binds (ps := ["self", "box", "cell"]) fun _ _ _ _ _ _ us hl => match us, hl with | [_, _, _], _ => rfl⟩
    m_Put_goes := ⟨_, _, fun_mk (st := s_Row_goes) l68 c68 k68, ⟨a68, i68, k68⟩, (fun_mk (st := s_Row_goes) l68 c68 k68).binds (ps := ["self", "at"]) fun _ _ _ _ _ _ us hl => match us, hl with | [_, _], _ => rfl⟩
    m_Put_height := ⟨_, _, fun_mk (st := s_Reaching_height) l69 c69 k69, ⟨a69, i69, k69⟩, (fun_mk (st := s_Reaching_height) l69 c69 k69).binds (ps := ["self", "high"]) fun _ _ _ _ _ _ us hl => match us, hl with | [_, _], _ => rfl⟩
    m_Put_keeps := ⟨_, _, fun_mk (st := s_Put_keeps) l70 c70 k70, ⟨a70, i70, k70⟩, (fun_mk (st := s_Put_keeps) l70 c70 k70).binds (ps := ["self", "places", "high"]) fun _ _ _ _ _ _ us hl => match us, hl with | [_, _, _], _ => rfl⟩
    m_Put_told := ⟨_, _, fun_mk (st := s_Put_told) l71 c71 k71, ⟨a71, i71, k71⟩, (fun_mk (st := s_Put_told) l71 c71 k71).binds (ps := ["self"]) fun _ _ _ _ _ _ us hl => match us, hl with | [_], _ => rfl⟩
    cl_Get := ⟨pg_Get, hd_Get, po_Get, sa_Get⟩
    n_Get_box := n_Get_box
    n_Get_cell := n_Get_cell
    i_Get := ⟨_, _, fun_mk (st := s_Reaching_init) l72 c72 k72, ⟨mk_Get, a72, i72, kc_Get⟩, (fun_mk (st := s_Reaching_init) l72 c72 k72).binds (ps := ["self", "box", "cell"]) fun _ _ _ _ _ _ us hl => match us, hl with | [_, _, _], _ => rfl⟩
    m_Get_goes := ⟨_, _, fun_mk (st := s_Row_goes) l73 c73 k73, ⟨a73, i73, k73⟩, (fun_mk (st := s_Row_goes) l73 c73 k73).binds (ps := ["self", "at"]) fun _ _ _ _ _ _ us hl => match us, hl with | [_, _], _ => rfl⟩
    m_Get_height := ⟨_, _, fun_mk (st := s_Reaching_height) l74 c74 k74, ⟨a74, i74, k74⟩, (fun_mk (st := s_Reaching_height) l74 c74 k74).binds (ps := ["self", "high"]) fun _ _ _ _ _ _ us hl => match us, hl with | [_, _], _ => rfl⟩
    m_Get_keeps := ⟨_, _, fun_mk (st := s_Get_keeps) l75 c75 k75, ⟨a75, i75, k75⟩, (fun_mk (st := s_Get_keeps) l75 c75 k75).binds (ps := ["self", "places", "high"]) fun _ _ _ _ _ _ us hl => match us, hl with | [_, _, _], _ => rfl⟩
    m_Get_told := ⟨_, _, fun_mk (st := s_Get_told) l76 c76 k76, ⟨a76, i76, k76⟩, (fun_mk (st := s_Get_told) l76 c76 k76).binds (ps := ["self"]) fun _ _ _ _ _ _ us hl => match us, hl with | [_], _ => rfl⟩
    cl_Table := ⟨pg_Table, hd_Table, po_Table, sa_Table⟩
    n_Table_entries := n_Table_entries
    n_Table_landings := n_Table_landings
    i_Table := ⟨_, _, funD_mk2 (st := s_Table_init) l77 d77 c77 k77, ⟨mk_Table, a77, i77, kc_Table⟩, bindsF (funD_mk2 (st := s_Table_init) l77 d77 c77 k77) (ps := ["self", "entries", "landings"]) fun _ _ _ _ _ _ _ us hl => match us, hl with | [_, _, _], _ => ⟨_, rfl, rfl⟩, (funD_mk2 (st := s_Table_init) l77 d77 c77 k77).bindsD (ps := ["self", "entries", "landings"]) fun _ _ _ _ _ _ _ us hl => match us, hl with | [_, _], _ => ⟨_, rfl, rfl⟩⟩
    ty_Set := ⟨ha_Set, hm_Set⟩
    is_Set_Call := is_Set_Call
    is_Set_Back := is_Set_Back
    ty_Copy := ⟨ha_Copy, hm_Copy⟩
    is_Copy_Call := is_Copy_Call
    is_Copy_Back := is_Copy_Back
    ty_Add := ⟨ha_Add, hm_Add⟩
    is_Add_Call := is_Add_Call
    is_Add_Back := is_Add_Back
    ty_Grow := ⟨ha_Grow, hm_Grow⟩
    is_Grow_Call := is_Grow_Call
    is_Grow_Back := is_Grow_Back
    ty_Shrink := ⟨ha_Shrink, hm_Shrink⟩
    is_Shrink_Call := is_Shrink_Call
    is_Shrink_Back := is_Shrink_Back
    ty_Put := ⟨ha_Put, hm_Put⟩
    is_Put_Call := is_Put_Call
    is_Put_Back := is_Put_Back
    ty_Get := ⟨ha_Get, hm_Get⟩
    is_Get_Call := is_Get_Call
    is_Get_Back := is_Get_Back
    ty_Jump := ⟨ha_Jump, hm_Jump⟩
    is_Jump_Call := is_Jump_Call
    is_Jump_Back := is_Jump_Back
    ty_Branch := ⟨ha_Branch, hm_Branch⟩
    is_Branch_Call := is_Branch_Call
    is_Branch_Back := is_Branch_Back
    ty_Call := ⟨ha_Call, hm_Call⟩
    is_Call_Call := is_Call_Call
    is_Call_Back := is_Call_Back
    ty_Back := ⟨ha_Back, hm_Back⟩
    is_Back_Call := is_Back_Call
    is_Back_Back := is_Back_Back
    ty_Drop := ⟨ha_Drop, hm_Drop⟩
    is_Drop_Call := is_Drop_Call
    is_Drop_Back := is_Drop_Back
    ob1 := ob1
    ob2 := ob2
    k_list_list := k_list_list
    k_tuple_tuple := k_tuple_tuple
    k_int_bool := k_int_bool
    fn_bounded := ⟨_, _, fun_mk (st := s_bounded) l78 c78 k78, PySem.W.mg_of X G a78, (fun_mk (st := s_bounded) l78 c78 k78).binds (ps := ["number", "top"]) fun _ _ _ _ _ _ us hl => match us, hl with | [_, _], _ => rfl⟩
    fn_box_place := ⟨_, _, fun_mk (st := s_box_place) l79 c79 k79, PySem.W.mg_of X G a79, (fun_mk (st := s_box_place) l79 c79 k79).binds (ps := ["box"]) fun _ _ _ _ _ _ us hl => match us, hl with | [_], _ => rfl⟩
    fn_cell_place := ⟨_, _, fun_mk (st := s_cell_place) l80 c80 k80, PySem.W.mg_of X G a80, (fun_mk (st := s_cell_place) l80 c80 k80).binds (ps := ["cell", "high"]) fun _ _ _ _ _ _ us hl => match us, hl with | [_, _], _ => rfl⟩
    fn_without := ⟨_, _, fun_mk (st := s_without) l81 c81 k81, PySem.W.mg_of X G a81, (fun_mk (st := s_without) l81 c81 k81).binds (ps := ["places", "place"]) fun _ _ _ _ _ _ us hl => match us, hl with | [_, _], _ => rfl⟩
    fn_filled := ⟨_, _, fun_mk (st := s_filled) l82 c82 k82, PySem.W.mg_of X G a82, (fun_mk (st := s_filled) l82 c82 k82).binds (ps := ["places", "place", "source"]) fun _ _ _ _ _ _ us hl => match us, hl with | [_, _, _], _ => rfl⟩
    fn_sets_of := ⟨_, _, fun_mk (st := s_sets_of) l83 c83 k83, PySem.W.mg_of X G a83, (fun_mk (st := s_sets_of) l83 c83 k83).binds (ps := ["entry"]) fun _ _ _ _ _ _ us hl => match us, hl with | [_], _ => rfl⟩
    fn_is_row := ⟨_, _, fun_mk (st := s_is_row) l84 c84 k84, PySem.W.mg_of X G a84, (fun_mk (st := s_is_row) l84 c84 k84).binds (ps := ["number", "entries"]) fun _ _ _ _ _ _ us hl => match us, hl with | [_, _], _ => rfl⟩
    fn_has_wrong_place := ⟨_, _, fun_mk (st := s_has_wrong_place) l85 c85 k85, PySem.W.mg_of X G a85, (fun_mk (st := s_has_wrong_place) l85 c85 k85).binds (ps := ["entry"]) fun _ _ _ _ _ _ us hl => match us, hl with | [_], _ => rfl⟩
    fn_may_go_back := ⟨_, _, fun_mk (st := s_may_go_back) l86 c86 k86, PySem.W.mg_of X G a86, (fun_mk (st := s_may_go_back) l86 c86 k86).binds (ps := ["row", "entry"]) fun _ _ _ _ _ _ us hl => match us, hl with | [_, _], _ => rfl⟩
    fn_own_complaint := ⟨_, _, fun_mk (st := s_own_complaint) l87 c87 k87, PySem.W.mg_of X G a87, (fun_mk (st := s_own_complaint) l87 c87 k87).binds (ps := ["row", "entry"]) fun _ _ _ _ _ _ us hl => match us, hl with | [_, _], _ => rfl⟩
    fn_way_complaint := ⟨_, _, fun_mk (st := s_way_complaint) l88 c88 k88, PySem.W.mg_of X G a88, (fun_mk (st := s_way_complaint) l88 c88 k88).binds (ps := ["row", "entry", "coming", "entries"]) fun _ _ _ _ _ _ us hl => match us, hl with | [_, _, _, _], _ => rfl⟩
    fn_target_complaint := ⟨_, _, fun_mk (st := s_target_complaint) l89 c89 k89, PySem.W.mg_of X G a89, (fun_mk (st := s_target_complaint) l89 c89 k89).binds (ps := ["row", "entries"]) fun _ _ _ _ _ _ us hl => match us, hl with | [_, _], _ => rfl⟩
    fn_each_once := ⟨_, _, fun_mk (st := s_each_once) l90 c90 k90, PySem.W.mg_of X G a90, (fun_mk (st := s_each_once) l90 c90 k90).binds (ps := ["numbers"]) fun _ _ _ _ _ _ us hl => match us, hl with | [_], _ => rfl⟩
    fn_row_complaints := ⟨_, _, fun_mk (st := s_row_complaints) l91 c91 k91, PySem.W.mg_of X G a91, (fun_mk (st := s_row_complaints) l91 c91 k91).binds (ps := ["code", "entries", "at"]) fun _ _ _ _ _ _ us hl => match us, hl with | [_, _, _], _ => rfl⟩
    fn_landing_complaint := ⟨_, _, fun_mk (st := s_landing_complaint) l92 c92 k92, PySem.W.mg_of X G a92, (fun_mk (st := s_landing_complaint) l92 c92 k92).binds (ps := ["code", "entries", "at", "landing"]) fun _ _ _ _ _ _ us hl => match us, hl with | [_, _, _, _], _ => rfl⟩
    fn_checked := ⟨_, _, fun_mk (st := s_checked) l93 c93 k93, PySem.W.mg_of X G a93, (fun_mk (st := s_checked) l93 c93 k93).binds (ps := ["code", "table"]) fun _ _ _ _ _ _ us hl => match us, hl with | [_, _], _ => rfl⟩
    fn_law_cell_at := ⟨_, _, fun_mk (st := s_law_cell_at) l94 c94 k94, PySem.W.mg_of X G a94, (fun_mk (st := s_law_cell_at) l94 c94 k94).binds (ps := ["_law_script", "_law_k"]) fun _ _ _ _ _ _ us hl => match us, hl with | [_, _], _ => rfl⟩
    fn_law_row := ⟨_, _, fun_mk (st := s_law_row) l95 c95 k95, PySem.W.mg_of X G a95, (fun_mk (st := s_law_row) l95 c95 k95).binds (ps := ["_law_cell", "_law_many"]) fun _ _ _ _ _ _ us hl => match us, hl with | [_, _], _ => rfl⟩
    fn_law_set := ⟨_, _, fun_mk (st := s_law_set) l96 c96 k96, PySem.W.mg_of X G a96, (fun_mk (st := s_law_set) l96 c96 k96).binds (ps := ["_law_cell", "_law_own_here", "_law_height"]) fun _ _ _ _ _ _ us hl => match us, hl with | [_, _, _], _ => rfl⟩
    fn_law_entry := ⟨_, _, fun_mk (st := s_law_entry) l97 c97 k97, PySem.W.mg_of X G a97, (fun_mk (st := s_law_entry) l97 c97 k97).binds (ps := ["_law_cell", "_law_before", "_law_row_here"]) fun _ _ _ _ _ _ us hl => match us, hl with | [_, _, _], _ => rfl⟩
    fn_law_sets := ⟨_, _, fun_mk (st := s_law_sets) l98 c98 k98, PySem.W.mg_of X G a98, (fun_mk (st := s_law_sets) l98 c98 k98).binds (ps := ["_law_entry_here"]) fun _ _ _ _ _ _ us hl => match us, hl with | [_], _ => rfl⟩
    fn_law_own := ⟨_, _, fun_mk (st := s_law_own) l99 c99 k99, PySem.W.mg_of X G a99, (fun_mk (st := s_law_own) l99 c99 k99).binds (ps := ["_law_row_here", "_law_entry_here"]) fun _ _ _ _ _ _ us hl => match us, hl with | [_, _], _ => rfl⟩
    fn_law_next := ⟨_, _, fun_mk (st := s_law_next) l100 c100 k100, PySem.W.mg_of X G a100, (fun_mk (st := s_law_next) l100 c100 k100).binds (ps := ["_law_row_here", "_law_entry_here", "_law_entries", "_law_at"]) fun _ _ _ _ _ _ us hl => match us, hl with | [_, _, _, _], _ => rfl⟩
    fn_law_of_row := ⟨_, _, fun_mk (st := s_law_of_row) l101 c101 k101, PySem.W.mg_of X G a101, (fun_mk (st := s_law_of_row) l101 c101 k101).binds (ps := ["_law_code", "_law_entries", "_law_i"]) fun _ _ _ _ _ _ us hl => match us, hl with | [_, _, _], _ => rfl⟩
    fn_law_of_landing := ⟨_, _, fun_mk (st := s_law_of_landing) l102 c102 k102, PySem.W.mg_of X G a102, (fun_mk (st := s_law_of_landing) l102 c102 k102).binds (ps := ["_law_code", "_law_entries", "_law_i", "_law_at"]) fun _ _ _ _ _ _ us hl => match us, hl with | [_, _, _, _], _ => rfl⟩
    fn_law_due := ⟨_, _, fun_mk (st := s_law_due) l103 c103 k103, PySem.W.mg_of X G a103, (fun_mk (st := s_law_due) l103 c103 k103).binds (ps := ["_law_code", "_law_entries", "_law_landings"]) fun _ _ _ _ _ _ us hl => match us, hl with | [_, _, _], _ => rfl⟩
    fn_law_told := ⟨_, _, fun_mk (st := s_law_told) l104 c104 k104, PySem.W.mg_of X G a104, (fun_mk (st := s_law_told) l104 c104 k104).binds (ps := ["_law_found"]) fun _ _ _ _ _ _ us hl => match us, hl with | [_], _ => rfl⟩
    fn_law := ⟨_, _, fun_mk (st := s_law) l105 c105 k105, PySem.W.mg_of X G a105, (fun_mk (st := s_law) l105 c105 k105).binds (ps := ["_law_script"]) fun _ _ _ _ _ _ us hl => match us, hl with | [_], _ => rfl⟩ }
theorem walk {l : PySem.W.OpenLaw} {q : Program} {loose : List Str} {XP : (Str → Option Value) → Heap → Prop} {YP : World → Heap → Prop} {d : DefRec} {K : Params → PySem.W.Frag} (hn : l.most = some 63) (hdf : d.params.defaults = [])
    (hY : ∀ (w : World) (h : Heap), YP w h → (K w.params).In h)
    (F : ∀ (w : World) (mg : Str → Option Value) (fa : Addr) (h : Heap), (K w.params).In h → h.Ns mainGlobals mg → mg d.name = some (.ref fa) →
      ∃ fd : FuncData, (∀ (s : Shared) (u : Value), BindsTo s fd ⟨[u], []⟩ [("_law_script", u)]) ∧ ∀ base : Heap, (K w.params).In base → base.Ns mainGlobals mg → FnOk l.prog w (K w.params) mg base CX0 7 fa fd ["_law_script"] (spLaw (K w.params))) :
    PySem.W.WalkO q loose XP YP l.row.toRowW d [] (fun f vs => PySem.call f vs) :=
  L2.walk_of (n := 63) (k := 7) (x := "_law_script") (CX := fun _ => CX0) (sp := fun w => spLaw (K w.params)) hn (by decide) hdf ⟨rfl, by decide, by decide⟩ hY F (fun _ _ a ns hl _ hS => ⟨a, ns, rfl, hS, hl, fun _ => rfl⟩) fun _ _ _ _ _ z => z
end FB
namespace PySem.W.Fast
def tw1231543147495880430:=0
def tw18412060026251694470:=0
def tw4427300141453881443:=0
def tw12960612214525642575:=0
def tw892803431409653080:=0
def tw9530014350419615778:=0
def tw8199265377331740765:=0
def tw16913186512879778172:=0
def tw11182579994347110453:=0
def tw7044676177604997662:=0
def tw13610590190975315154:=0
def tw14580359438987237731:=0
def tw17088505124842419633:=0
def tw11853379094438424114:=0
def tw7197283335180754512:=0
def tw13027367284308445037:=0
def tw13571168621758173850:=0
def tw8029427364758787754:=0
def tw2333683091264050302:=0
def tw15533037682841564625:=0
def tw11177832947860649272:=0
def tw12295906671362562518:=0
def tw4920706792399614347:=0
def tw6367323011044453378:=0
def tw16288999234300363747:=0
def tw9318626210434220795:=0
def tw16338377190782457509:=0
def tw5633409867342270683:=0
def tw6320311827292526630:=0
def tw7318905073527090933:=0
def tw6414068162216991083:=0
def tw8663919359215452684:=0
def tw14488099683190636592:=0
def tw1846672375422604451:=0
def tw5458901851762136481:=0
def tw9704274953551234718:=0
def tw7385400993232799512:=0
def tw842738485647498667:=0
def tw5837897563220510206:=0
def tw1123551926005464099:=0
def tw18296734382520221360:=0
def tw8815270395525063420:=0
def tw9821258971715314444:=0
def tw4661456617069200203:=0
def tw3989034421987907849:=0
def tw6759823351160603798:=0
def tw17526184569289266217:=0
def tw6445117522940752209:=0
def tw4019166022175515774:=0
def tw14090609350777068790:=0
def tw2431524210359186214:=0
def tw3279320828005136882:=0
def tw10993267890704990214:=0
def tw15809694584793541923:=0
def tw10758063277393298835:=0
def tw17385884763893668358:=0
def tw10816445586644681963:=0
def tw7996777895579163308:=0
def tw16070454583361627632:=0
def tw1438698348615997755:=0
def tw16493957254586259927:=0
def tw10934012014604622496:=0
def tw10958628057575899899:=0
def tw17468203159894655094:=0
def tw14596175786257592066:=0
def tw17036073743459459429:=0
def tw7000410995713480672:=0
def tw7326248614314787735:=0
def tw12413472780296481236:=0
def tw3468148498798606163:=0
def tw7931518920847137261:=0
def tw3379819604758579591:=0
def tw17769851081865986097:=0
def tw3741142556284634748:=0
def tw13329097171465635973:=0
def tw16242515026532253976:=0
def tw11213559856649913949:=0
def tw8019818032552781257:=0
def tw8648019915147292373:=0
def tw1661448965749145375:=0
def tw13589884093766045310:=0
def tw17870736101146033981:=0
def tw6377631682779958927:=0
def tw11943746869137527100:=0
def tw12205326059354374744:=0
def tw3459922364172019292:=0
def tw1434630276402237503:=0
def tw13669193157288308143:=0
def tw17485195849097437010:=0
def tw9756984998091278724:=0
def tw16574038635277973615:=0
def tw8255112749223201954:=0
def tw3958885249032766949:=0
def tw279527242533754201:=0
def tw11601412680561699248:=0
def tw6887884680012081712:=0
def tw6536848099879510765:=0
def tw9948651005363281230:=0
def tw8818539484030271977:=0
def tw11535867220511745637:=0
def tw16249453910889544390:=0
def tw565681419606898269:=0
def tw12350559712273875766:=0
def tw11877130356226610511:=0
def tw18395102556517568475:=0
def tw9349781064411167823:=0
def tw16361393001856198393:=0
def tw13507012484284736001:=0
def tw17801163184308008208:=0
def tw5489315614404483544:=0
def tw13397418367043742544:=0
def tw18014686979237059789:=0
def tw4472358637744493258:=0
def tw2040158114395581387:=0
def tw3630896484832487502:=0
def tw7803213573040066311:=0
def tw10654845939990553697:=0
def tw6831759112328221605:=0
def tw16959073277502907804:=0
def tw10792013182173872260:=0
def tw17427448694170538413:=0
def tw1600073255727314515:=0
def tw241266436688057733:=0
def tw821975652342588657:=0
def tw2210708856028799572:=0
def tw16016869555042342475:=0
def tw12482917725280298100:=0
def tw17784435799500224186:=0
def tw9638915985980838564:=0
def tw11594550899585330287:=0
def tw518256690208397257:=0
def tw9896177447569839345:=0
def tw12984675706641818846:=0
def tw15849218495454832766:=0
def tw7319446592908016400:=0
def tw6117938083725616586:=0
def tw15198624003519952329:=0
def tw15551392826222981560:=0
def tw18009438198956031273:=0
def tw10098278279463308144:=0
def tw12564039697775327:=0
def tw5390594921458414083:=0
def tw10521514072621030179:=0
def tw5150672944720754556:=0
def tw13317617246553276114:=0
def tw17692895607847092081:=0
def tw18419566961532050049:=0
def tw2721445277342059386:=0
def tw10270148994596508210:=0
def tw6247202758218083426:=0
def tw15362272415430731580:=0
def tw8144643041116874627:=0
def tw3480889730577957524:=0
def tw12614974736273793320:=0
def tw4054954855691289298:=0
def tw6215553506649700552:=0
def tw8507816109179957808:=0
def tw14156014365382612726:=0
def tw15704220257384539107:=0
def tw14566572032185317333:=0
def tw7201903696336107663:=0
def tw7116760974088916611:=0
def tw15459286723923249036:=0
def tw559618505347573936:=0
def tw3067239456572939107:=0
def tw15243133319770005608:=0
def tw1183664275187165604:=0
def tw2241408968495086004:=0
def tw12099970498587893251:=0
def tw10629907479502877272:=0
def tw5886647694793167697:=0
def tw388170366893725172:=0
def tw8655430647416261042:=0
def tw16572292844965863802:=0
def tw7504238588251664846:=0
def tw1599857528576621572:=0
def tw8550878810236511586:=0
def tw7522526391910561905:=0
def tw11357712631839047458:=0
def tw416558550871804833:=0
def tw10157667181263832803:=0
def tw16557742294115896057:=0
def tw2833331534502096213:=0
def tw986779226818602946:=0
def tw4363130794974054174:=0
def tw12983777197662044655:=0
def tw8493281406246764213:=0
def tw1276503733502198666:=0
def tw12378822977665803861:=0
def tw7666607076259422465:=0
def tw10218054735145654575:=0
def tw15176902047020299418:=0
def tw5660072189025311502:=0
def tw12431067694306735104:=0
def tw4341493997478751303:=0
def tw4257020923548614621:=0
def tw7422541356024348482:=0
def tw4209323329613255971:=0
def tw8948760855604082137:=0
def tw17904206086113404989:=0
def tw3297772494690078012:=0
def tw16164914951222508292:=0
def tw17048065444997754922:=0
def tw7528062215531573652:=0
def tw7158082275214111401:=0
def tw16757654677586187454:=0
def tw14632185329491525487:=0
def tw12544819706332207352:=0
def tw4599624627280609760:=0
def tw6588412926499196870:=0
def tw15932628101531313362:=0
def tw16088850132514265963:=0
def tw14693630439190640003:=0
def tw16335157797150196355:=0
def tw12803448419576583753:=0
def tw14106592362306348445:=0
def tw16937390154077691357:=0
def tw884510127947464995:=0
def tw5150709536600553863:=0
def tw10106806548102225229:=0
def tw3158735308149625262:=0
def tw12083806647296195536:=0
def tw3625645303416027218:=0
def tw4772850248891697274:=0
def tw12740459351408897562:=0
def tw13577509089787236597:=0
def tw15299205798088731178:=0
def tw469729009057708341:=0
def tw2544652938003225913:=0
def tw12793168210788935402:=0
def tw12823545378331151740:=0
def tw14433753945744186171:=0
def tw16975296677350394184:=0
def tw17327804680809844190:=0
def tw1871500151408952431:=0
def tw7139933532590824705:=0
def tw5310238216569638330:=0
def tw17415559518219735408:=0
def tw3947032789311994479:=0
def tw11220055533052780577:=0
def tw3090106743185077735:=0
def tw4986335332565202222:=0
def tw11655483354415906926:=0
def tw6071077984459615283:=0
def tw1972299795833464402:=0
def tw7554170331071424465:=0
def tw683527090352120416:=0
def tw15680949645469765813:=0
def tw8607754287940517442:=0
def tw11785724737939417226:=0
def tw13028914922096248303:=0
def tw12848166760802628593:=0
def tw6753914561516050954:=0
def tw14179382719478695626:=0
def tw17617373453678670453:=0
def tw7045784932346567928:=0
def tw2541711776564850409:=0
def tw5433095072995856641:=0
def tw1638595905184387115:=0
def tw14028585567227919251:=0
def tw1937875977288518018:=0
def tw13391917123683202403:=0
def tw16815282718015350536:=0
def tw2868266751106276426:=0
def tw2713364734764692063:=0
def tw3240300298925442973:=0
def tw16271367967439070138:=0
def tw12540939579097034422:=0
def tw12308529342368886248:=0
def tw14954312209130982149:=0
def tw16511535515862632435:=0
def tw15202846441304639632:=0
def tw9693396718887844091:=0
def tw3005691427708268861:=0
def tw9062561300593915154:=0
def tw13665277185648690130:=0
def tw15769089246917654219:=0
def tw612749904126151194:=0
def tw15916244548563502708:=0
def tw3517181694863754383:=0
def tw3092090667860868049:=0
def tw16936071065227350612:=0
def tw3079413767248388978:=0
def tw14503466105552083815:=0
def tw7132249825832230553:=0
def tw9675774388384945053:=0
def tw17047268049919442262:=0
def tw2762972306022463718:=0
def tw11713413677518554771:=0
def tw2896654013822889215:=0
def tw2718821265576599911:=0
def tw13644611244681198085:=0
def tw4399059358503250416:=0
def tw17738125857441062005:=0
def tw14010663441653665830:=0
def tw11868052720063687607:=0
def tw2934504019776297620:=0
def tw4915171960904415418:=0
def tw3056043000311141871:=0
def tw6385202006311987085:=0
def tw6533786522782663861:=0
def tw11010391991689842647:=0
def tw15876546986060533098:=0
def tw11456047274545644078:=0
def tw10127471608406883548:=0
def tw5018252039336136012:=0
def tw1371465518405364241:=0
def tw14623643584743586139:=0
def tw7367196730964972357:=0
def tw8058095548825350351:=0
def tw3468366057586691470:=0
def tw14998794117964879643:=0
def tw15925361605769849411:=0
def tw8775007036809676532:=0
def tw13831336166283050736:=0
def tw8900687304749047657:=0
def tw13433693995163122956:=0
def tw888972678029351131:=0
def tw13198661163564900093:=0
def tw9971255207439087171:=0
def tw6160810944213922395:=0
def tw2311747984147874190:=0
def tw18362632551066437922:=0
def tw16728493204899402838:=0
def tw3049362956204020739:=0
def tw6588314563033833947:=0
def tw15443370388728575627:=0
def tw2908149961540118003:=0
def tw2739686136612335868:=0
def tw2929458585103501032:=0
def tw18069710270301591107:=0
def tw9201366852685566838:=0
def tw8630141399497379137:=0
def tw6262709251872608957:=0
def tw16878261463295647086:=0
def tw17309083196435060998:=0
def tw4664705444598829964:=0
def tw400894694105425068:=0
def tw10871216304130247596:=0
def tw697084970662117813:=0
def tw10294289239250881155:=0
def tw15029770361577861343:=0
def tw12831312255647919383:=0
def tw6647732867564707331:=0
def tw8706414226628420418:=0
def tw18243885485986823799:=0
def tw7965755893437694737:=0
def tw4427897921586058254:=0
def tw11284445017886761000:=0
def tw9574039848587207336:=0
def tw13037918881617381212:=0
def tw16086703293487715690:=0
def tw17487571379793618250:=0
def tw7173842567230635532:=0
def tw4809326639530390469:=0
def tw17591375395748917137:=0
def tw11760725221207753459:=0
def tw2734983017112018700:=0
def tw9548297737680501056:=0
def tw5136072735891409748:=0
def tw8830415414504651152:=0
def tw13416053034081720943:=0
def tw1784026855740117582:=0
def tw4157094443704377740:=0
def tw12778546705771504883:=0
def tw5182213324311738274:=0
def tw6434930571688057070:=0
def tw282106713414130103:=0
def tw10583838816322919965:=0
def tw15939915857721784774:=0
def tw1394918973877482995:=0
def tw15582402416634016144:=0
def tw10086130351561053989:=0
def tw4632166343625643128:=0
def tw1034943748514202765:=0
def tw16188328305458513433:=0
def tw16609055742523952670:=0
def tw7589010066434391966:=0
def tw4257662341033673598:=0
def tw3164700136413459206:=0
def tw4713134835518677990:=0
def tw3431060147951965843:=0
def tw11188453648680017490:=0
def tw10573383799930987609:=0
def tw12819206783697506051:=0
def tw18026661399493584139:=0
def tw15219373906789225984:=0
def tw7142639305348712439:=0
def tw6706212594511810957:=0
def tw10564715923961557108:=0
def tw763780720231557374:=0
def tw6152634949628732948:=0
def tw11682988916881465059:=0
def tw7113991520443110861:=0
def tw6483500994828770144:=0
def tw13157604435025774770:=0
def tw16507995497004919467:=0
def tw12544301897352133578:=0
def tw11007644798400735105:=0
def tw9229845221901762062:=0
def tw1425460046639589226:=0
def tw7815719203803583374:=0
def tw10740564168667709982:=0
def tw1749054675131619836:=0
def tw5397372779860005928:=0
def tw2734399389861677698:=0
def tw9242067121262605948:=0
def tw16515545677458440414:=0
def tw18258836225536061664:=0
def tw17553627778716420427:=0
def tw8344761714924233614:=0
def tw17675112051239401186:=0
def tw2286255760790351865:=0
def tw10884761201679414272:=0
def tw4449020696403920275:=0
def tw1520004428409767150:=0
def tw3812108411120449883:=0
def tw14654363535794385386:=0
def tw3238209596586776762:=0
def tw14701539810637068022:=0
def tw3425340986701606152:=0
def tw961419482252381280:=0
def tw2508743805282217735:=0
def tw13608462330542183534:=0
def tw469769367877013178:=0
def tw4378594632901938925:=0
def tw18331291117249870213:=0
def tw1518918170557626063:=0
def tw1392505350282604571:=0
def tw7104375158380295414:=0
def tw17040514228381703347:=0
def tw16393825414822153963:=0
def tw16939241796838486624:=0
def tw12644550388240858276:=0
def tw11182008932499067452:=0
def tw4717673352324416637:=0
def tw4461954174270157322:=0
def tw4223759425181892020:=0
def tw15735774683929980967:=0
def tw14786003010435496237:=0
def tw2151755568460483452:=0
def tw1917064871005332250:=0
def tw805552186293470085:=0
def tw6273933573349205207:=0
def tw1478819506210032597:=0
def tw16588782797556169419:=0
def tw6853512331940806310:=0
def tw15264702997784692655:=0
def tw7891620400094325499:=0
def tw2577732681231416689:=0
def tw2810046061499958554:=0
def tw15905340346615391525:=0
def tw13989330996973698421:=0
def tw14361639222600961740:=0
def tw8034226171894368389:=0
def tw15043892453953295929:=0
def tw16067978593608408111:=0
def tw3972875302079837448:=0
def tw16098370593721579700:=0
def tw14927267807382369425:=0
def tw5215122078668180703:=0
def tw136348573647320267:=0
def tw4512173556285323019:=0
def tw7603463846038486:=0
def tw14795429462177311552:=0
def tw5590707008317865850:=0
def tw6174182108592502070:=0
def tw4606258231588127944:=0
def tw15743956374382909166:=0
def tw9289564206547467080:=0
def tw13759367348089063076:=0
def tw16321557607295354747:=0
def tw1235652901952058482:=0
def tw675765706293203871:=0
def tw10908066749380035473:=0
def tw15522937777097891146:=0
def tw12014354733313047284:=0
def tw13228742331864742097:=0
def tw11674813569825870765:=0
def tw9526106963962906528:=0
def tw4466179088629814994:=0
def tw2615532927314640823:=0
def tw2666859759577724857:=0
def tw599232178751765339:=0
def tw4708001182497817799:=0
def tw11283725796045395611:=0
def tw15508719736410716332:=0
def tw16818274251831614838:=0
def tw11925269672978752936:=0
def tw2743081588027463212:=0
def tw2450898437671850927:=0
def tw1088103861753652173:=0
def tw17564193618454984072:=0
def tw17418167265798794137:=0
def tw14716642324603642814:=0
def tw6594099408993141841:=0
def tw7960726883140148078:=0
def tw13327346387178375109:=0
def tw8074010436962997784:=0
def tw8924806448969079612:=0
def tw18017691268642248868:=0
def tw8126782225892685302:=0
def tw17629821145385807415:=0
def tw1208701068879128865:=0
def tw5924030075854556979:=0
def tw13965214603341303985:=0
def tw11531167820684619072:=0
def tw8067347136297325803:=0
def tw12748099868493402742:=0
def tw16205178267371446734:=0
def tw5544863274996778714:=0
def tw6908221373524404276:=0
def tw10140794674431074412:=0
def tw5461198670272307172:=0
def tw8887276027240284781:=0
def tw16255711906642128057:=0
def tw15231605538976272324:=0
def tw13755728997249517821:=0
def tw7966563750860415301:=0
def tw17921790937501539267:=0
def tw7268362827206784477:=0
def tw15767154851648236863:=0
def tw8358487968788163351:=0
def tw3885746619277247115:=0
def tw17075613330726643872:=0
def tw11991946085758374784:=0
def tw13469235836759608519:=0
def tw15850449656325481303:=0
def tw12047855062489926017:=0
def tw4975784734850375854:=0
def tw17867002609293251945:=0
def tw13805751405245875796:=0
def tw10354034115275070298:=0
def tw13779195856551395701:=0
def tw8770788972033040778:=0
def tw5661498752574432441:=0
def tw7855310050400044261:=0
def tw12716523839071163920:=0
def tw460360945831492492:=0
def tw14226837175998380520:=0
def tw5296843177680331532:=0
def tw7944398077651367022:=0
def tw4137680989000699361:=0
def tw123137700530828094:=0
def tw1168470779201132619:=0
def tw6051664260966088895:=0
def tw9803176469134400348:=0
def tw342006801182626548:=0
def tw432682255979958734:=0
def tw16251195939685954758:=0
def tw7118523928790024635:=0
def tw12407844463898025780:=0
def tw16101595898733951718:=0
def tw5017698632079840798:=0
def tw6449878405397882071:=0
def tw17144610423913898336:=0
def tw1694864621140986252:=0
def tw14468115437938342074:=0
def tw17572760233850312206:=0
def tw16623531007521529733:=0
def tw4002943440723610351:=0
def tw12768065742612755232:=0
def tw3706717610192059253:=0
def tw1446672320393325859:=0
def tw13633318210984020342:=0
def tw9170533303455406001:=0
def tw126692155643369845:=0
def tw3981614014362787912:=0
def tw12998607209570519005:=0
def tw7733603187891396005:=0
def tw16196336079188518183:=0
def tw5491412962598970958:=0
def tw2768742118091448284:=0
def tw16831296537724191815:=0
def tw6580878520789111725:=0
def tw9684343800958643849:=0
def tw8498684383538394759:=0
def tw12196829862915718338:=0
def tw8682494217868176931:=0
def tw3387419224632672126:=0
def tw10284539725751132286:=0
def tw2956744017558760543:=0
def tw14371888812584694868:=0
def tw8138911570129130520:=0
def tw17319426663305451315:=0
def tw13974375337720886132:=0
def tw17806020365146348056:=0
def tw5489771755560195756:=0
def tw13694004929475916300:=0
def tw2426874134661702673:=0
def tw7145598716599338761:=0
def tw15180326941549162971:=0
def tw6913733463478873032:=0
def tw13351576740694468548:=0
def tw1240008304688942746:=0
def tw1968653855251059642:=0
def tw14513585499395882409:=0
def tw2937233361212091468:=0
def tw11220488487942018400:=0
def tw14541582165120403287:=0
def tw11321129938440576745:=0
def tw3316775138483509159:=0
def tw7847589817627053938:=0
def tw12674128222253665887:=0
def tw420939513052547743:=0
def tw15080250026709179559:=0
def tw12239097991422737304:=0
def tw13578739746361353029:=0
def tw10151076105294362304:=0
def tw16203056407217854572:=0
def tw1155679642176856143:=0
def tw5434824984786181013:=0
def tw2970921788785950526:=0
def tw1134002391459868103:=0
def tw3253189044257420019:=0
def tw2123508130097331358:=0
def tw18051780958352314909:=0
def tw16086307949177816328:=0
def tw18001668186726463270:=0
def tw17695169346881739011:=0
def tw15581574956847474748:=0
def tw17747622625232524267:=0
def tw1490910795610933936:=0
def tw17853173780924328349:=0
def tw5823187392901897735:=0
def tw8873994138625841704:=0
def tw9834032976110937863:=0
def tw15620984536686044247:=0
def tw2876253558034826354:=0
def tw14575638782594683187:=0
def tw2684028331232644770:=0
def tw16317090129109298686:=0
def tw12687618485398027050:=0
def tw3000802933365291072:=0
def tw17559903563607743674:=0
def tw4596295612070410003:=0
def tw11236577025891174082:=0
def tw17594740967082196665:=0
def tw15507670516430919430:=0
def tw3682432069886533507:=0
def tw9095913328227618684:=0
def tw4247092533941701564:=0
def tw2356849816487317342:=0
def tw9883194404006782038:=0
def tw14897448057808241672:=0
def tw11255885671809567580:=0
def tw1207298958979053473:=0
def tw14514765675040917498:=0
def tw17482825617070288923:=0
def tw2179533716434072155:=0
def tw6342164245306104865:=0
def tw7932831317341345826:=0
def tw3269209155355798021:=0
def tw13370622578014051474:=0
def tw16596398277245581188:=0
def tw4082789135101741089:=0
def tw14406049644524267897:=0
def tw15871113424092815284:=0
def tw11296080866898913517:=0
def tw15819518341760190617:=0
def tw4312797776889114880:=0
def tw8917072330823792812:=0
def tw5667984483189428803:=0
def tw1165005647917144851:=0
def tw1818280972079842563:=0
def tw1301099511574507340:=0
def tw15162199137501575119:=0
def tw3114719843146918390:=0
def tw7629802044262870282:=0
def tw6169628361073865713:=0
def tw12019976704291043707:=0
def tw13901159708036877913:=0
def tw13183029898398574971:=0
def tw14550836635584084656:=0
def tw3327248076774746818:=0
def tw8360761601594777740:=0
def tw2580835759789825191:=0
def tw12307988959079565881:=0
def tw966501765927915262:=0
def tw18031845696517696387:=0
def tw6464121666047772977:=0
def tw17953471514844892755:=0
def tw8840196905229845569:=0
def tw2943596955688976885:=0
def tw8662681802500382324:=0
def tw6188686441148397006:=0
def tw9663641086343088900:=0
def tw7864003005895860697:=0
def tw825835301550420665:=0
def tw7892727058980038201:=0
def tw9132706980064877084:=0
def tw13808301131824835051:=0
def tw14938864536113106144:=0
def tw11441367461293695848:=0
def tw6058479538910832095:=0
def tw2889980946352339226:=0
def tw11945830170663188176:=0
def tw17812634334751248254:=0
def tw9828678189972883605:=0
def tw1021232663427284057:=0
def tw7726703603374916381:=0
def tw16316822500995520696:=0
def tw15338124618368064683:=0
def tw2954568322146361541:=0
def tw11888443845024393564:=0
def tw15100104903679963712:=0
def tw8111287214607920805:=0
def tw14684756673448229722:=0
def tw1433079063596050580:=0
def tw15810614046799004257:=0
def tw13922223998146112362:=0
def tw12038336492598061682:=0
def tw5278650077654755240:=0
def tw14894266283713282925:=0
def tw2043258884730091089:=0
def tw7540031784502886829:=0
def tw11313313091477852782:=0
def tw16192871080227434461:=0
def tw1530886270870476744:=0
def tw10506289312374379011:=0
def tw81873027548972881:=0
def tw8992450134903509717:=0
def tw13636094594108583506:=0
def tw4789664394517278826:=0
def tw6517581082532136837:=0
def tw14189703570853997671:=0
def tw16791779829401376658:=0
def tw10422902079619539189:=0
def tw8361839538198958188:=0
def tw13982157346766016911:=0
def tw8305200216364336238:=0
def tw4907238653424551366:=0
def tw3079857729016554099:=0
def tw10203377085787774510:=0
def tw17805327761284034285:=0
def tw12539815447002151468:=0
def tw3101091023321424008:=0
def tw16468780661058730391:=0
def tw5123124313208862978:=0
def tw18035244623589500417:=0
def tw17650687447217607735:=0
def tw8270621163840613269:=0
def tw1129989900841510068:=0
def tw5471638647386416871:=0
def tw6919842128798557364:=0
def tw9761959307348158851:=0
def tw16141774367018505309:=0
def tw3646652819385142080:=0
def tw10507765474224814633:=0
def tw8060201214225175495:=0
def tw5540973180744332362:=0
def tw6571138714257954903:=0
def tw9941778296604205937:=0
def tw13566699224520923732:=0
def tw12855331183405870146:=0
def tw11843941178917135849:=0
def tw17192816832158219907:=0
def tw14648109841248445614:=0
def tw7982840237282046917:=0
def tw9720344017512694568:=0
def tw15184966740327169381:=0
def tw15924447970455162889:=0
def tw10759643967231138661:=0
def tw808977254077838909:=0
def tw12334712720449619564:=0
def tw5222157297165578652:=0
def tw9784416273405296081:=0
def tw2084081382687747737:=0
def tw10407124150843937703:=0
def tw7969624762216285465:=0
def tw17889290578210195318:=0
def tw10771122936178318656:=0
def tw3993833629063422643:=0
def tw14774454011185539705:=0
def tw1626048719857312279:=0
def tw9973270763392050844:=0
def tw2378235717197600867:=0
def tw360772488060494174:=0
def tw11793586567058685311:=0
def tw3203516364015309474:=0
def tw1945468774627052707:=0
def tw830838619048897453:=0
def tw7298604962733031766:=0
def tw4989562827266643085:=0
def tw2319802695439706291:=0
def tw1812580041931237232:=0
def tw2937137382207164431:=0
def tw13479880259225822969:=0
def tw13379982318398592397:=0
def tw11572558351703266375:=0
def tw3315395646382614175:=0
def tw2522057093575890424:=0
def tw5591138537010458772:=0
def tw373443000025096927:=0
def tw18310552514612604878:=0
def tw15476260427057207534:=0
def tw13053967059329358798:=0
def tw9554075078506171165:=0
def tw6152979837229930972:=0
def tw9720291419107763813:=0
def tw12073014063294164608:=0
def tw11434379090465353605:=0
def tw12670787902845466413:=0
def tw16652464475334698787:=0
def tw4390291732146040154:=0
def tw3834905953807902749:=0
def tw5810579956262890607:=0
def tw3861702752480147658:=0
def tw15466254079921940187:=0
def tw6400460970070139243:=0
def tw11063819038166159649:=0
def tw17005509147851039002:=0
def tw13298346583106558629:=0
def tw14233288559326274979:=0
def tw3483235395045230102:=0
def tw5767179966495100859:=0
def tw16766225902703117284:=0
def tw17718611931154152513:=0
def tw4627071755291269127:=0
def tw7951840390515813962:=0
def tw15453226885183617242:=0
def tw1438994890792768041:=0
def tw5955813549371811743:=0
def tw402536968324946243:=0
def tw7865455646016582926:=0
def tw11640510988116764757:=0
def tw18312008228517582531:=0
def tw3019607554942229676:=0
def tw12415437587691410851:=0
def tw13497452160103720728:=0
def tw17596651564388751869:=0
def tw17419607267292460111:=0
def tw920413821621327803:=0
def tw17944015430001468602:=0
def tw9278309749012600960:=0
def tw1015710133827798726:=0
def tw7212398181935789843:=0
def tw2547646067171010357:=0
def tw1157801388610430358:=0
def tw5529985193588339168:=0
def tw7350184045777873180:=0
def tw16804034185148936990:=0
def tw3676376135091457444:=0
def tw18109621234203606484:=0
def tw9082397423780124422:=0
def tw9648836271659339313:=0
def tw17839542692180564099:=0
def tw8321815585826360520:=0
def tw175286282833927362:=0
def tw16452851857379947309:=0
def tw14121657233275510924:=0
def tw3438944267864074080:=0
def tw6845668407600381140:=0
def tw11270262931453667761:=0
def tw12922000905114344117:=0
def tw12167083296177144385:=0
def tw2413455444440014291:=0
def tw9312547535573724089:=0
def tw7178574522674619506:=0
def tw9922177822450050562:=0
def tw16024409008353167979:=0
def tw13730516332704920260:=0
def tw2247905905548042270:=0
def tw14748647128610504445:=0
def tw11820129534472836257:=0
def tw14293930681954326137:=0
def tw7667878175065897369:=0
def tw11773658619986319313:=0
def tw11668297338153241827:=0
def tw5281754570164819054:=0
def tw4481556970831939216:=0
def tw17440965269353951546:=0
def tw9652252139111020971:=0
def tw9639660382122368437:=0
def tw4488515685103257687:=0
def tw11068622505430941467:=0
def tw6008423177704122426:=0
def tw8427989101359182654:=0
def tw6181465409763623381:=0
def tw608102790095039757:=0
def tw10357448408328372456:=0
def tw6968124989806207187:=0
def tw4753251903036158213:=0
def tw10184972818486035536:=0
def tw13378917336313243492:=0
def tw1060984792348903552:=0
def tw10295786120460333261:=0
def tw914410138648282658:=0
def tw12316150334586392879:=0
def tw2415395820870332003:=0
def tw3751413992493642274:=0
def tw12136308594819511132:=0
def tw6289249100312971200:=0
def tw3596121542283389859:=0
def tw5128873675877756295:=0
def tw3395991224661711271:=0
def tw14010227781210504297:=0
def tw12855354204824978946:=0
def tw6508045822224309401:=0
def tw2560640237693835133:=0
def tw6132706189029043656:=0
def tw9492603376533641405:=0
def tw257881263758908317:=0
def tw5891588744397944336:=0
def tw5689698971532080267:=0
def tw7127866016666067562:=0
def tw15825410314747169538:=0
def tw11271572234111104554:=0
def tw8364465221314088932:=0
def tw17374839811696994050:=0
def tw15898149371567134439:=0
def tw4594068154240051286:=0
def tw10498584933672374095:=0
def tw10861271979566573790:=0
def tw12978229174446392570:=0
def tw669891609126960175:=0
def tw12294808652236413680:=0
def tw17506824350196756036:=0
def tw15682875367929420378:=0
def tw16727318649844058515:=0
end PySem.W.Fast
open PySem PySem.W PyProof.Rows
local macro_rules | `(tactic| walk_at "k") => `(tactic| first | k_is | kit_is | rfl | kernel_rfl)
set_option maxRecDepth 100000 in
set_option maxHeartbeats 0 in
theorem PySem.Challenge.cw_frameback_k31_the_checker_by_its_words_holds : PySem.Challenge.rw_frameback_k31_the_checker_by_its_words.Holds := by
  w_on; o_law; k_head; (case hw => w_witness2)
  k_fill
  refine FB.walk (l := PySem.Challenge.rw_frameback_k31_the_checker_by_its_words) rfl rfl (fun w h Y => PySem.W.kIn_of Y) ?F
  case F =>
    intro w mg fa h KX G hmg
    have T : ∃ (a : FB.Adr) (fd : FuncData), FB.Txt (L2.KOf KX) mg a ∧ L2.Fun (L2.KOf KX) "law" "law" FB.s_law fa fd ∧ ∀ (s : Shared) (v : Value), BindsTo s fd ⟨[v], []⟩ [("_law_script", v)] := by
      dsimp only [L2.KOf]
      refine' FB.txt_mk KX G hmg ?z_all ?z_any ?z_bool ?z_dict ?z_isinstance ?z_len ?z_list ?z_max ?z_range ?z_sorted ?z_tuple ?z_zip ?g_FIRST_CELL_BIT ?g_KEPT_BOXES ?t4_KEPT_BOXES ?g_LOST_BY_CALL ?g_SET_NAMES ?t9_SET_NAMES ?g_START ?t12_START ?t16_START ?g_TOP_BOX ?g_TOP_CELLS ?g_TOP_TARGET ?g_TOP_VALUE ?c_Add ?c_Back ?c_Branch ?c_Call ?c_Copy ?c_Drop ?c_Get ?c_Grow ?c_Jump ?c_NoRow ?c_Put ?c_Set ?c_Shrink ?c_Table ?pg_Jump ?hd_Jump ?po_Jump ?sa_Jump ?mk_Jump ?kc_Jump ?n_Jump_target ?a17 ?i17 ?l17 ?c17 ?k17 ?a18 ?i18 ?l18 ?c18 ?k18 ?a19 ?i19 ?l19 ?c19 ?k19 ?a20 ?i20 ?l20 ?c20 ?k20 ?a21 ?i21 ?l21 ?c21 ?k21 ?pg_Branch ?hd_Branch ?po_Branch ?sa_Branch ?mk_Branch ?kc_Branch ?n_Branch_box ?n_Branch_target ?a22 ?i22 ?l22 ?c22 ?k22 ?a23 ?i23 ?l23 ?c23 ?k23 ?a24 ?i24 ?l24 ?c24 ?k24 ?a25 ?i25 ?l25 ?c25 ?k25 ?a26 ?i26 ?l26 ?c26 ?k26 ?pg_Call ?hd_Call ?po_Call ?sa_Call ?mk_Call ?kc_Call ?n_Call_target ?a27 ?i27 ?l27 ?c27 ?k27 ?a28 ?i28 ?l28 ?c28 ?k28 ?a29 ?i29 ?l29 ?c29 ?k29 ?a30 ?i30 ?l30 ?c30 ?k30 ?a31 ?i31 ?l31 ?c31 ?k31 ?pg_Back ?hd_Back ?po_Back ?sa_Back ?mk_Back ?kc_Back ?n_Back_box ?a32 ?i32 ?l32 ?c32 ?k32 ?a33 ?i33 ?l33 ?c33 ?k33 ?a34 ?i34 ?l34 ?c34 ?k34 ?a35 ?i35 ?l35 ?c35 ?k35 ?a36 ?i36 ?l36 ?c36 ?k36 ?pg_Drop ?hd_Drop ?po_Drop ?sa_Drop ?mk_Drop ?kc_Drop ?n_Drop_box ?a37 ?i37 ?l37 ?c37 ?k37 ?a38 ?i38 ?l38 ?c38 ?k38 ?a39 ?i39 ?l39 ?c39 ?k39 ?a40 ?i40 ?l40 ?c40 ?k40 ?a41 ?i41 ?l41 ?c41 ?k41 ?pg_Set ?hd_Set ?po_Set ?sa_Set ?mk_Set ?kc_Set ?n_Set_box ?n_Set_number ?a42 ?i42 ?l42 ?c42 ?k42 ?a43 ?i43 ?l43 ?c43 ?k43 ?a44 ?i44 ?l44 ?c44 ?k44 ?a45 ?i45 ?l45 ?c45 ?k45 ?a46 ?i46 ?l46 ?c46 ?k46 ?pg_Copy ?hd_Copy ?po_Copy ?sa_Copy ?mk_Copy ?kc_Copy ?n_Copy_box ?n_Copy_one ?a47 ?i47 ?l47 ?c47 ?k47 ?a48 ?i48 ?l48 ?c48 ?k48 ?a49 ?i49 ?l49 ?c49 ?k49 ?a50 ?i50 ?l50 ?c50 ?k50 ?a51 ?i51 ?l51 ?c51 ?k51 ?pg_Add ?hd_Add ?po_Add ?sa_Add ?mk_Add ?kc_Add ?n_Add_box ?n_Add_one ?n_Add_other ?a52 ?i52 ?l52 ?c52 ?k52 ?a53 ?i53 ?l53 ?c53 ?k53 ?a54 ?i54 ?l54 ?c54 ?k54 ?a55 ?i55 ?l55 ?c55 ?k55 ?a56 ?i56 ?l56 ?c56 ?k56 ?pg_Grow ?hd_Grow ?po_Grow ?sa_Grow ?mk_Grow ?kc_Grow ?n_Grow_many ?a57 ?i57 ?l57 ?c57 ?k57 ?a58 ?i58 ?l58 ?c58 ?k58 ?a59 ?i59 ?l59 ?c59 ?k59 ?a60 ?i60 ?l60 ?c60 ?k60 ?a61 ?i61 ?l61 ?c61 ?k61 ?pg_Shrink ?hd_Shrink ?po_Shrink ?sa_Shrink ?mk_Shrink ?kc_Shrink ?n_Shrink_many ?a62 ?i62 ?l62 ?c62 ?k62 ?a63 ?i63 ?l63 ?c63 ?k63 ?a64 ?i64 ?l64 ?c64 ?k64 ?a65 ?i65 ?l65 ?c65 ?k65 ?a66 ?i66 ?l66 ?c66 ?k66 ?pg_Put ?hd_Put ?po_Put ?sa_Put ?mk_Put ?kc_Put ?n_Put_box ?n_Put_cell ?a67 ?i67 ?l67 ?c67 ?k67 ?a68 ?i68 ?l68 ?c68 ?k68 ?a69 ?i69 ?l69 ?c69 ?k69 ?a70 ?i70 ?l70 ?c70 ?k70 ?a71 ?i71 ?l71 ?c71 ?k71 ?pg_Get ?hd_Get ?po_Get ?sa_Get ?mk_Get ?kc_Get ?n_Get_box ?n_Get_cell ?a72 ?i72 ?l72 ?c72 ?k72 ?a73 ?i73 ?l73 ?c73 ?k73 ?a74 ?i74 ?l74 ?c74 ?k74 ?a75 ?i75 ?l75 ?c75 ?k75 ?a76 ?i76 ?l76 ?c76 ?k76 ?pg_Table ?hd_Table ?po_Table ?sa_Table ?mk_Table ?kc_Table ?n_Table_entries ?n_Table_landings ?a77 ?i77 ?l77 ?d77 ?c77 ?k77 ?ha_Set ?hm_Set ?is_Set_Call ?is_Set_Back ?ha_Copy ?hm_Copy ?is_Copy_Call ?is_Copy_Back ?ha_Add ?hm_Add ?is_Add_Call ?is_Add_Back ?ha_Grow ?hm_Grow ?is_Grow_Call ?is_Grow_Back ?ha_Shrink ?hm_Shrink ?is_Shrink_Call ?is_Shrink_Back ?ha_Put ?hm_Put ?is_Put_Call ?is_Put_Back ?ha_Get ?hm_Get ?is_Get_Call ?is_Get_Back ?ha_Jump ?hm_Jump ?is_Jump_Call ?is_Jump_Back ?ha_Branch ?hm_Branch ?is_Branch_Call ?is_Branch_Back ?ha_Call ?hm_Call ?is_Call_Call ?is_Call_Back ?ha_Back ?hm_Back ?is_Back_Call ?is_Back_Back ?ha_Drop ?hm_Drop ?is_Drop_Call ?is_Drop_Back ?ob1 ?ob2 ?k_list_list ?k_tuple_tuple ?k_int_bool ?a78 ?l78 ?c78 ?k78 ?a79 ?l79 ?c79 ?k79 ?a80 ?l80 ?c80 ?k80 ?a81 ?l81 ?c81 ?k81 ?a82 ?l82 ?c82 ?k82 ?a83 ?l83 ?c83 ?k83 ?a84 ?l84 ?c84 ?k84 ?a85 ?l85 ?c85 ?k85 ?a86 ?l86 ?c86 ?k86 ?a87 ?l87 ?c87 ?k87 ?a88 ?l88 ?c88 ?k88 ?a89 ?l89 ?c89 ?k89 ?a90 ?l90 ?c90 ?k90 ?a91 ?l91 ?c91 ?k91 ?a92 ?l92 ?c92 ?k92 ?a93 ?l93 ?c93 ?k93 ?a94 ?l94 ?c94 ?k94 ?a95 ?l95 ?c95 ?k95 ?a96 ?l96 ?c96 ?k96 ?a97 ?l97 ?c97 ?k97 ?a98 ?l98 ?c98 ?k98 ?a99 ?l99 ?c99 ?k99 ?a100 ?l100 ?c100 ?k100 ?a101 ?l101 ?c101 ?k101 ?a102 ?l102 ?c102 ?k102 ?a103 ?l103 ?c103 ?k103 ?a104 ?l104 ?c104 ?k104 ?a105 ?l105 ?c105 ?k105
      (case z_all => walk_at "k")
      (case z_any => walk_at "k")
      (case z_bool => walk_at "k")
      (case z_dict => walk_at "k")
      (case z_isinstance => walk_at "k")
      (case z_len => walk_at "k")
      (case z_list => walk_at "k")
      (case z_max => walk_at "k")
      (case z_range => walk_at "k")
      (case z_sorted => walk_at "k")
      (case z_tuple => walk_at "k")
      (case z_zip => walk_at "k")
      (case g_FIRST_CELL_BIT => walk_at "k")
      (case g_KEPT_BOXES => walk_at "k")
      (case t4_KEPT_BOXES => walk_at "k")
      (case g_LOST_BY_CALL => walk_at "k")
      (case g_SET_NAMES => walk_at "k")
      (case t9_SET_NAMES => walk_at "k")
      (case g_START => walk_at "k")
      (case t12_START => walk_at "k")
      (case t16_START => walk_at "k")
      (case g_TOP_BOX => walk_at "k")
      (case g_TOP_CELLS => walk_at "k")
      (case g_TOP_TARGET => walk_at "k")
      (case g_TOP_VALUE => walk_at "k")
      (case c_Add => walk_at "k")
      (case c_Back => walk_at "k")
      (case c_Branch => walk_at "k")
      (case c_Call => walk_at "k")
      (case c_Copy => walk_at "k")
      (case c_Drop => walk_at "k")
      (case c_Get => walk_at "k")
      (case c_Grow => walk_at "k")
      (case c_Jump => walk_at "k")
      (case c_NoRow => walk_at "k")
      (case c_Put => walk_at "k")
      (case c_Set => walk_at "k")
      (case c_Shrink => walk_at "k")
      (case c_Table => walk_at "k")
      (case pg_Jump => walk_at "k")
      (case hd_Jump => walk_at "k")
      (case po_Jump => walk_at "k")
      (case sa_Jump => walk_at "k")
      (case mk_Jump => walk_at "k")
      (case kc_Jump => walk_at "k")
      (case n_Jump_target => walk_at "k")
      (case a17 => walk_at "k")
      (case i17 => walk_at "k")
      (case l17 => walk_at "k")
      (case c17 => walk_at "k")
      (case k17 => walk_at "k")
      (case a18 => walk_at "k")
      (case i18 => walk_at "k")
      (case l18 => walk_at "k")
      (case c18 => walk_at "k")
      (case k18 => walk_at "k")
      (case a19 => walk_at "k")
      (case i19 => walk_at "k")
      (case l19 => walk_at "k")
      (case c19 => walk_at "k")
      (case k19 => walk_at "k")
      (case a20 => walk_at "k")
      (case i20 => walk_at "k")
      (case l20 => walk_at "k")
      (case c20 => walk_at "k")
      (case k20 => walk_at "k")
      (case a21 => walk_at "k")
      (case i21 => walk_at "k")
      (case l21 => walk_at "k")
      (case c21 => walk_at "k")
      (case k21 => walk_at "k")
      (case pg_Branch => walk_at "k")
      (case hd_Branch => walk_at "k")
      (case po_Branch => walk_at "k")
      (case sa_Branch => walk_at "k")
      (case mk_Branch => walk_at "k")
      (case kc_Branch => walk_at "k")
      (case n_Branch_box => walk_at "k")
      (case n_Branch_target => walk_at "k")
      (case a22 => walk_at "k")
      (case i22 => walk_at "k")
      (case l22 => walk_at "k")
      (case c22 => walk_at "k")
      (case k22 => walk_at "k")
      (case a23 => walk_at "k")
      (case i23 => walk_at "k")
      (case l23 => walk_at "k")
      (case c23 => walk_at "k")
      (case k23 => walk_at "k")
      (case a24 => walk_at "k")
      (case i24 => walk_at "k")
      (case l24 => walk_at "k")
      (case c24 => walk_at "k")
      (case k24 => walk_at "k")
      (case a25 => walk_at "k")
      (case i25 => walk_at "k")
      (case l25 => walk_at "k")
      (case c25 => walk_at "k")
      (case k25 => walk_at "k")
      (case a26 => walk_at "k")
      (case i26 => walk_at "k")
      (case l26 => walk_at "k")
      (case c26 => walk_at "k")
      (case k26 => walk_at "k")
      (case pg_Call => walk_at "k")
      (case hd_Call => walk_at "k")
      (case po_Call => walk_at "k")
      (case sa_Call => walk_at "k")
      (case mk_Call => walk_at "k")
      (case kc_Call => walk_at "k")
      (case n_Call_target => walk_at "k")
      (case a27 => walk_at "k")
      (case i27 => walk_at "k")
      (case l27 => walk_at "k")
      (case c27 => walk_at "k")
      (case k27 => walk_at "k")
      (case a28 => walk_at "k")
      (case i28 => walk_at "k")
      (case l28 => walk_at "k")
      (case c28 => walk_at "k")
      (case k28 => walk_at "k")
      (case a29 => walk_at "k")
      (case i29 => walk_at "k")
      (case l29 => walk_at "k")
      (case c29 => walk_at "k")
      (case k29 => walk_at "k")
      (case a30 => walk_at "k")
      (case i30 => walk_at "k")
      (case l30 => walk_at "k")
      (case c30 => walk_at "k")
      (case k30 => walk_at "k")
      (case a31 => walk_at "k")
      (case i31 => walk_at "k")
      (case l31 => walk_at "k")
      (case c31 => walk_at "k")
      (case k31 => walk_at "k")
      (case pg_Back => walk_at "k")
      (case hd_Back => walk_at "k")
      (case po_Back => walk_at "k")
      (case sa_Back => walk_at "k")
      (case mk_Back => walk_at "k")
      (case kc_Back => walk_at "k")
      (case n_Back_box => walk_at "k")
      (case a32 => walk_at "k")
      (case i32 => walk_at "k")
      (case l32 => walk_at "k")
      (case c32 => walk_at "k")
      (case k32 => walk_at "k")
      (case a33 => walk_at "k")
      (case i33 => walk_at "k")
      (case l33 => walk_at "k")
      (case c33 => walk_at "k")
      (case k33 => walk_at "k")
      (case a34 => walk_at "k")
      (case i34 => walk_at "k")
      (case l34 => walk_at "k")
      (case c34 => walk_at "k")
      (case k34 => walk_at "k")
      (case a35 => walk_at "k")
      (case i35 => walk_at "k")
      (case l35 => walk_at "k")
      (case c35 => walk_at "k")
      (case k35 => walk_at "k")
      (case a36 => walk_at "k")
      (case i36 => walk_at "k")
      (case l36 => walk_at "k")
      (case c36 => walk_at "k")
      (case k36 => walk_at "k")
      (case pg_Drop => walk_at "k")
      (case hd_Drop => walk_at "k")
      (case po_Drop => walk_at "k")
      (case sa_Drop => walk_at "k")
      (case mk_Drop => walk_at "k")
      (case kc_Drop => walk_at "k")
      (case n_Drop_box => walk_at "k")
      (case a37 => walk_at "k")
      (case i37 => walk_at "k")
      (case l37 => walk_at "k")
      (case c37 => walk_at "k")
      (case k37 => walk_at "k")
      (case a38 => walk_at "k")
      (case i38 => walk_at "k")
      (case l38 => walk_at "k")
      (case c38 => walk_at "k")
      (case k38 => walk_at "k")
      (case a39 => walk_at "k")
      (case i39 => walk_at "k")
      (case l39 => walk_at "k")
      (case c39 => walk_at "k")
      (case k39 => walk_at "k")
      (case a40 => walk_at "k")
      (case i40 => walk_at "k")
      (case l40 => walk_at "k")
      (case c40 => walk_at "k")
      (case k40 => walk_at "k")
      (case a41 => walk_at "k")
      (case i41 => walk_at "k")
      (case l41 => walk_at "k")
      (case c41 => walk_at "k")
      (case k41 => walk_at "k")
      (case pg_Set => walk_at "k")
      (case hd_Set => walk_at "k")
      (case po_Set => walk_at "k")
      (case sa_Set => walk_at "k")
      (case mk_Set => walk_at "k")
      (case kc_Set => walk_at "k")
      (case n_Set_box => walk_at "k")
      (case n_Set_number => walk_at "k")
      (case a42 => walk_at "k")
      (case i42 => walk_at "k")
      (case l42 => walk_at "k")
      (case c42 => walk_at "k")
      (case k42 => walk_at "k")
      (case a43 => walk_at "k")
      (case i43 => walk_at "k")
      (case l43 => walk_at "k")
      (case c43 => walk_at "k")
      (case k43 => walk_at "k")
      (case a44 => walk_at "k")
      (case i44 => walk_at "k")
      (case l44 => walk_at "k")
      (case c44 => walk_at "k")
      (case k44 => walk_at "k")
      (case a45 => walk_at "k")
      (case i45 => walk_at "k")
      (case l45 => walk_at "k")
      (case c45 => walk_at "k")
      (case k45 => walk_at "k")
      (case a46 => walk_at "k")
      (case i46 => walk_at "k")
      (case l46 => walk_at "k")
      (case c46 => walk_at "k")
      (case k46 => walk_at "k")
      (case pg_Copy => walk_at "k")
      (case hd_Copy => walk_at "k")
      (case po_Copy => walk_at "k")
      (case sa_Copy => walk_at "k")
      (case mk_Copy => walk_at "k")
      (case kc_Copy => walk_at "k")
      (case n_Copy_box => walk_at "k")
      (case n_Copy_one => walk_at "k")
      (case a47 => walk_at "k")
      (case i47 => walk_at "k")
      (case l47 => walk_at "k")
      (case c47 => walk_at "k")
      (case k47 => walk_at "k")
      (case a48 => walk_at "k")
      (case i48 => walk_at "k")
      (case l48 => walk_at "k")
      (case c48 => walk_at "k")
      (case k48 => walk_at "k")
      (case a49 => walk_at "k")
      (case i49 => walk_at "k")
      (case l49 => walk_at "k")
      (case c49 => walk_at "k")
      (case k49 => walk_at "k")
      (case a50 => walk_at "k")
      (case i50 => walk_at "k")
      (case l50 => walk_at "k")
      (case c50 => walk_at "k")
      (case k50 => walk_at "k")
      (case a51 => walk_at "k")
      (case i51 => walk_at "k")
      (case l51 => walk_at "k")
      (case c51 => walk_at "k")
      (case k51 => walk_at "k")
      (case pg_Add => walk_at "k")
      (case hd_Add => walk_at "k")
      (case po_Add => walk_at "k")
      (case sa_Add => walk_at "k")
      (case mk_Add => walk_at "k")
      (case kc_Add => walk_at "k")
      (case n_Add_box => walk_at "k")
      (case n_Add_one => walk_at "k")
      (case n_Add_other => walk_at "k")
      (case a52 => walk_at "k")
      (case i52 => walk_at "k")
      (case l52 => walk_at "k")
      (case c52 => walk_at "k")
      (case k52 => walk_at "k")
      (case a53 => walk_at "k")
      (case i53 => walk_at "k")
      (case l53 => walk_at "k")
      (case c53 => walk_at "k")
      (case k53 => walk_at "k")
      (case a54 => walk_at "k")
      (case i54 => walk_at "k")
      (case l54 => walk_at "k")
      (case c54 => walk_at "k")
      (case k54 => walk_at "k")
      (case a55 => walk_at "k")
      (case i55 => walk_at "k")
      (case l55 => walk_at "k")
      (case c55 => walk_at "k")
      (case k55 => walk_at "k")
      (case a56 => walk_at "k")
      (case i56 => walk_at "k")
      (case l56 => walk_at "k")
      (case c56 => walk_at "k")
      (case k56 => walk_at "k")
      (case pg_Grow => walk_at "k")
      (case hd_Grow => walk_at "k")
      (case po_Grow => walk_at "k")
      (case sa_Grow => walk_at "k")
      (case mk_Grow => walk_at "k")
      (case kc_Grow => walk_at "k")
      (case n_Grow_many => walk_at "k")
      (case a57 => walk_at "k")
      (case i57 => walk_at "k")
      (case l57 => walk_at "k")
      (case c57 => walk_at "k")
      (case k57 => walk_at "k")
      (case a58 => walk_at "k")
      (case i58 => walk_at "k")
      (case l58 => walk_at "k")
      (case c58 => walk_at "k")
      (case k58 => walk_at "k")
      (case a59 => walk_at "k")
      (case i59 => walk_at "k")
      (case l59 => walk_at "k")
      (case c59 => walk_at "k")
      (case k59 => walk_at "k")
      (case a60 => walk_at "k")
      (case i60 => walk_at "k")
      (case l60 => walk_at "k")
      (case c60 => walk_at "k")
      (case k60 => walk_at "k")
      (case a61 => walk_at "k")
      (case i61 => walk_at "k")
      (case l61 => walk_at "k")
      (case c61 => walk_at "k")
      (case k61 => walk_at "k")
      (case pg_Shrink => walk_at "k")
      (case hd_Shrink => walk_at "k")
      (case po_Shrink => walk_at "k")
      (case sa_Shrink => walk_at "k")
      (case mk_Shrink => walk_at "k")
      (case kc_Shrink => walk_at "k")
      (case n_Shrink_many => walk_at "k")
      (case a62 => walk_at "k")
      (case i62 => walk_at "k")
      (case l62 => walk_at "k")
      (case c62 => walk_at "k")
      (case k62 => walk_at "k")
      (case a63 => walk_at "k")
      (case i63 => walk_at "k")
      (case l63 => walk_at "k")
      (case c63 => walk_at "k")
      (case k63 => walk_at "k")
      (case a64 => walk_at "k")
      (case i64 => walk_at "k")
      (case l64 => walk_at "k")
      (case c64 => walk_at "k")
      (case k64 => walk_at "k")
      (case a65 => walk_at "k")
      (case i65 => walk_at "k")
      (case l65 => walk_at "k")
      (case c65 => walk_at "k")
      (case k65 => walk_at "k")
      (case a66 => walk_at "k")
      (case i66 => walk_at "k")
      (case l66 => walk_at "k")
      (case c66 => walk_at "k")
      (case k66 => walk_at "k")
      (case pg_Put => walk_at "k")
      (case hd_Put => walk_at "k")
      (case po_Put => walk_at "k")
      (case sa_Put => walk_at "k")
      (case mk_Put => walk_at "k")
      (case kc_Put => walk_at "k")
      (case n_Put_box => walk_at "k")
      (case n_Put_cell => walk_at "k")
      (case a67 => walk_at "k")
      (case i67 => walk_at "k")
      (case l67 => walk_at "k")
      (case c67 => walk_at "k")
      (case k67 => walk_at "k")
      (case a68 => walk_at "k")
      (case i68 => walk_at "k")
      (case l68 => walk_at "k")
      (case c68 => walk_at "k")
      (case k68 => walk_at "k")
      (case a69 => walk_at "k")
      (case i69 => walk_at "k")
      (case l69 => walk_at "k")
      (case c69 => walk_at "k")
      (case k69 => walk_at "k")
      (case a70 => walk_at "k")
      (case i70 => walk_at "k")
      (case l70 => walk_at "k")
      (case c70 => walk_at "k")
      (case k70 => walk_at "k")
      (case a71 => walk_at "k")
      (case i71 => walk_at "k")
      (case l71 => walk_at "k")
      (case c71 => walk_at "k")
      (case k71 => walk_at "k")
      (case pg_Get => walk_at "k")
      (case hd_Get => walk_at "k")
      (case po_Get => walk_at "k")
      (case sa_Get => walk_at "k")
      (case mk_Get => walk_at "k")
      (case kc_Get => walk_at "k")
      (case n_Get_box => walk_at "k")
      (case n_Get_cell => walk_at "k")
      (case a72 => walk_at "k")
      (case i72 => walk_at "k")
      (case l72 => walk_at "k")
      (case c72 => walk_at "k")
      (case k72 => walk_at "k")
      (case a73 => walk_at "k")
      (case i73 => walk_at "k")
      (case l73 => walk_at "k")
      (case c73 => walk_at "k")
      (case k73 => walk_at "k")
      (case a74 => walk_at "k")
      (case i74 => walk_at "k")
      (case l74 => walk_at "k")
      (case c74 => walk_at "k")
      (case k74 => walk_at "k")
      (case a75 => walk_at "k")
      (case i75 => walk_at "k")
      (case l75 => walk_at "k")
      (case c75 => walk_at "k")
      (case k75 => walk_at "k")
      (case a76 => walk_at "k")
      (case i76 => walk_at "k")
      (case l76 => walk_at "k")
      (case c76 => walk_at "k")
      (case k76 => walk_at "k")
      (case pg_Table => walk_at "k")
      (case hd_Table => walk_at "k")
      (case po_Table => walk_at "k")
      (case sa_Table => walk_at "k")
      (case mk_Table => walk_at "k")
      (case kc_Table => walk_at "k")
      (case n_Table_entries => walk_at "k")
      (case n_Table_landings => walk_at "k")
      (case a77 => walk_at "k")
      (case i77 => walk_at "k")
      (case l77 => walk_at "k")
      (case d77 => walk_at "k")
      (case c77 => walk_at "k")
      (case k77 => walk_at "k")
      (case ha_Set => walk_at "k")
      (case hm_Set => walk_at "k")
      (case is_Set_Call => walk_at "k")
      (case is_Set_Back => walk_at "k")
      (case ha_Copy => walk_at "k")
      (case hm_Copy => walk_at "k")
      (case is_Copy_Call => walk_at "k")
      (case is_Copy_Back => walk_at "k")
      (case ha_Add => walk_at "k")
      (case hm_Add => walk_at "k")
      (case is_Add_Call => walk_at "k")
      (case is_Add_Back => walk_at "k")
      (case ha_Grow => walk_at "k")
      (case hm_Grow => walk_at "k")
      (case is_Grow_Call => walk_at "k")
      (case is_Grow_Back => walk_at "k")
      (case ha_Shrink => walk_at "k")
      (case hm_Shrink => walk_at "k")
      (case is_Shrink_Call => walk_at "k")
      (case is_Shrink_Back => walk_at "k")
      (case ha_Put => walk_at "k")
      (case hm_Put => walk_at "k")
      (case is_Put_Call => walk_at "k")
      (case is_Put_Back => walk_at "k")
      (case ha_Get => walk_at "k")
      (case hm_Get => walk_at "k")
      (case is_Get_Call => walk_at "k")
      (case is_Get_Back => walk_at "k")
      (case ha_Jump => walk_at "k")
      (case hm_Jump => walk_at "k")
      (case is_Jump_Call => walk_at "k")
      (case is_Jump_Back => walk_at "k")
      (case ha_Branch => walk_at "k")
      (case hm_Branch => walk_at "k")
      (case is_Branch_Call => walk_at "k")
      (case is_Branch_Back => walk_at "k")
      (case ha_Call => walk_at "k")
      (case hm_Call => walk_at "k")
      (case is_Call_Call => walk_at "k")
      (case is_Call_Back => walk_at "k")
      (case ha_Back => walk_at "k")
      (case hm_Back => walk_at "k")
      (case is_Back_Call => walk_at "k")
      (case is_Back_Back => walk_at "k")
      (case ha_Drop => walk_at "k")
      (case hm_Drop => walk_at "k")
      (case is_Drop_Call => walk_at "k")
      (case is_Drop_Back => walk_at "k")
      (case ob1 => walk_at "k")
      (case ob2 => walk_at "k")
      (case k_list_list => walk_at "k")
      (case k_tuple_tuple => walk_at "k")
      (case k_int_bool => walk_at "k")
      (case a78 => walk_at "k")
      (case l78 => walk_at "k")
      (case c78 => walk_at "k")
      (case k78 => walk_at "k")
      (case a79 => walk_at "k")
      (case l79 => walk_at "k")
      (case c79 => walk_at "k")
      (case k79 => walk_at "k")
      (case a80 => walk_at "k")
      (case l80 => walk_at "k")
      (case c80 => walk_at "k")
      (case k80 => walk_at "k")
      (case a81 => walk_at "k")
      (case l81 => walk_at "k")
      (case c81 => walk_at "k")
      (case k81 => walk_at "k")
      (case a82 => walk_at "k")
      (case l82 => walk_at "k")
      (case c82 => walk_at "k")
      (case k82 => walk_at "k")
      (case a83 => walk_at "k")
      (case l83 => walk_at "k")
      (case c83 => walk_at "k")
      (case k83 => walk_at "k")
      (case a84 => walk_at "k")
      (case l84 => walk_at "k")
      (case c84 => walk_at "k")
      (case k84 => walk_at "k")
      (case a85 => walk_at "k")
      (case l85 => walk_at "k")
      (case c85 => walk_at "k")
      (case k85 => walk_at "k")
      (case a86 => walk_at "k")
      (case l86 => walk_at "k")
      (case c86 => walk_at "k")
      (case k86 => walk_at "k")
      (case a87 => walk_at "k")
      (case l87 => walk_at "k")
      (case c87 => walk_at "k")
      (case k87 => walk_at "k")
      (case a88 => walk_at "k")
      (case l88 => walk_at "k")
      (case c88 => walk_at "k")
      (case k88 => walk_at "k")
      (case a89 => walk_at "k")
      (case l89 => walk_at "k")
      (case c89 => walk_at "k")
      (case k89 => walk_at "k")
      (case a90 => walk_at "k")
      (case l90 => walk_at "k")
      (case c90 => walk_at "k")
      (case k90 => walk_at "k")
      (case a91 => walk_at "k")
      (case l91 => walk_at "k")
      (case c91 => walk_at "k")
      (case k91 => walk_at "k")
      (case a92 => walk_at "k")
      (case l92 => walk_at "k")
      (case c92 => walk_at "k")
      (case k92 => walk_at "k")
      (case a93 => walk_at "k")
      (case l93 => walk_at "k")
      (case c93 => walk_at "k")
      (case k93 => walk_at "k")
      (case a94 => walk_at "k")
      (case l94 => walk_at "k")
      (case c94 => walk_at "k")
      (case k94 => walk_at "k")
      (case a95 => walk_at "k")
      (case l95 => walk_at "k")
      (case c95 => walk_at "k")
      (case k95 => walk_at "k")
      (case a96 => walk_at "k")
      (case l96 => walk_at "k")
      (case c96 => walk_at "k")
      (case k96 => walk_at "k")
      (case a97 => walk_at "k")
      (case l97 => walk_at "k")
      (case c97 => walk_at "k")
      (case k97 => walk_at "k")
      (case a98 => walk_at "k")
      (case l98 => walk_at "k")
      (case c98 => walk_at "k")
      (case k98 => walk_at "k")
      (case a99 => walk_at "k")
      (case l99 => walk_at "k")
      (case c99 => walk_at "k")
      (case k99 => walk_at "k")
      (case a100 => walk_at "k")
      (case l100 => walk_at "k")
      (case c100 => walk_at "k")
      (case k100 => walk_at "k")
      (case a101 => walk_at "k")
      (case l101 => walk_at "k")
      (case c101 => walk_at "k")
      (case k101 => walk_at "k")
      (case a102 => walk_at "k")
      (case l102 => walk_at "k")
      (case c102 => walk_at "k")
      (case k102 => walk_at "k")
      (case a103 => walk_at "k")
      (case l103 => walk_at "k")
      (case c103 => walk_at "k")
      (case k103 => walk_at "k")
      (case a104 => walk_at "k")
      (case l104 => walk_at "k")
      (case c104 => walk_at "k")
      (case k104 => walk_at "k")
      (case a105 => walk_at "k")
      (case l105 => walk_at "k")
      (case c105 => walk_at "k")
      (case k105 => walk_at "k")
    obtain ⟨a, fd, T, FF, B⟩ := T
    exact ⟨fd, B, fun base _ _ => FB.law_fn T FF⟩
