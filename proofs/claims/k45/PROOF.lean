import PyProof.Rows.All
import Wide.All
import OpenK.AllK
import Wide.FinOn
import Lean
import PyProof.EqAt
import PyProof.EqKinds
import PyProof.TupleCall
import PySem.Challenge.RW_frameback_k45_code_laid_and_joined
set_option Elab.async false
set_option linter.all false
set_option maxRecDepth 100000

namespace L2
open PySem PySem.Spec PyProof.Rows


abbrev Key := Sum Int Str
def keyIs : Key → Value → Bool
  | .inl k, v => Value.isInt k v
  | .inr x, v => Value.isStrOf x v
def keyH (w : World) : Key → Int
  | .inl k => hashInt k
  | .inr x => hashStr w x
theorem keyIs_shape : ∀ {k : Key} {v : Value}, keyIs k v = true → (∃ i t, k = Sum.inl i ∧ v = Value.int i t) ∨ (∃ x t, k = Sum.inr x ∧ v = Value.str x t)
  | .inl i, v, h => by
    obtain ⟨t, e⟩ := Value.isInt_shape (k := i) (v := v) h
    exact .inl ⟨i, t, rfl, e⟩
  | .inr x, v, h => by
    obtain ⟨t, e⟩ := Value.isStrOf_shape (x := x) (v := v) h
    exact .inr ⟨x, t, rfl, e⟩
theorem keyIs_int (i : Int) (t : Tok) : keyIs (.inl i) (.int i t) = true := by simp [keyIs, Value.isInt]
theorem keyIs_str (x : Str) (t : Tok) : keyIs (.inr x) (.str x t) = true := by simp [keyIs, Value.isStrOf]
theorem key_ll (a b : Int) : decide ((Sum.inl a : Key) = Sum.inl b) = (a == b) := by
  by_cases e : a = b
  · subst e; simp
  · have h : ¬ (Sum.inl a : Key) = Sum.inl b := fun q => e (Sum.inl.inj q)
    rw [decide_eq_false h]
    exact (beq_eq_false_iff_ne.mpr e).symm
theorem key_rr (a b : Str) : decide ((Sum.inr a : Key) = Sum.inr b) = decide (a = b) := by
  by_cases e : a = b
  · subst e; simp
  · have h : ¬ (Sum.inr a : Key) = Sum.inr b := fun q => e (Sum.inr.inj q)
    rw [decide_eq_false h, decide_eq_false e]
theorem key_lr (a : Int) (b : Str) : decide ((Sum.inl a : Key) = Sum.inr b) = false := decide_eq_false (fun q => nomatch q)
theorem key_rl (a : Str) (b : Int) : decide ((Sum.inr a : Key) = Sum.inl b) = false := decide_eq_false (fun q => nomatch q)

def mixKind (prog : Program) (w : World) : PySem.KeyKind prog w Key where
  is := keyIs
  hash := keyH w
  inj := fun v a b ha hb => by
    rcases keyIs_shape ha with ⟨i, t, rfl, rfl⟩ | ⟨x, t, rfl, rfl⟩
    · rcases keyIs_shape hb with ⟨j, u, rfl, e⟩ | ⟨y, u, rfl, e⟩
      · injection e with e1 _; rw [e1]
      · exact nomatch e
    · rcases keyIs_shape hb with ⟨j, u, rfl, e⟩ | ⟨y, u, rfl, e⟩
      · exact nomatch e
      · injection e with e1 _; rw [e1]
  byValue := fun k v h => by
    rcases keyIs_shape h with ⟨i, t, rfl, rfl⟩ | ⟨x, t, rfl, rfl⟩ <;> rfl
  pyHash := fun hv h => by
    rcases keyIs_shape hv with ⟨i, t, rfl, rfl⟩ | ⟨x, t, rfl, rfl⟩
    · exact wpAny_pyHash_int h
    · exact wpAny_pyHash_str h
  eqBool := fun hu hv h => by
    rcases keyIs_shape hu with ⟨i, t, rfl, rfl⟩ | ⟨x, t, rfl, rfl⟩
    · rcases keyIs_shape hv with ⟨j, u, rfl, rfl⟩ | ⟨y, u, rfl, rfl⟩
      · rw [key_ll] at h; exact wpAny_eqBool_int h
      · rw [key_lr] at h; exact SeqAt.EqAt.int_str i t y u _ _ _ _ h
    · rcases keyIs_shape hv with ⟨j, u, rfl, rfl⟩ | ⟨y, u, rfl, rfl⟩
      · rw [key_rl] at h; exact SeqAt.EqAt.str_int x t j u _ _ _ _ h
      · rw [key_rr] at h; exact wpAny_eqBool_str h
  «strs» := fun k x t v h => by
    rcases keyIs_shape h with ⟨i, u, rfl, e⟩ | ⟨y, u, rfl, e⟩
    · exact nomatch e
    · injection e with e1 _
      subst e1
      cases v <;> rfl

theorem mixKind_int (prog : Program) (w : World) (i : Int) (t : Tok) : (mixKind prog w).is (.inl i) (.int i t) = true := keyIs_int i t
theorem mixKind_str (prog : Program) (w : World) (x : Str) (t : Tok) : (mixKind prog w).is (.inr x) (.str x t) = true := keyIs_str x t
end L2

namespace L2
open PySem PySem.Spec PyProof.Rows


inductive V where
  | non | bl (b : Bool) | int (i : Int) | str (x : Str) | byt (b : Array UInt8) | flt (b : UInt64) | ref (a : Addr) | ty (n : String)
  deriving DecidableEq

def RelV : V → Value → Prop
  | .non, u => u = Value.none
  | .bl b, u => u = Value.bool b
  | .int i, u => ∃ t, u = Value.int i t
  | .str x, u => ∃ t, u = Value.str x t
  | .byt b, u => ∃ t, u = Value.bytes b t
  | .flt b, u => ∃ t, u = Value.float b t
  | .ref a, u => u = Value.ref a
  | .ty n, u => u = Value.type n

abbrev Vals : List V → List Value → Prop := Paired RelV
theorem Vals.length {xs : List V} {us : List Value} (r : Vals xs us) : xs.length = us.length := Paired.length r
theorem Vals.get : ∀ {xs : List V} {us : List Value} {i : Nat} {x : V}, Vals xs us → xs[i]? = some x → ∃ u, us[i]? = some u ∧ RelV x u
  | _, _, _, _, .nil, e => by simp at e
  | _, _, 0, _, .cons r _, e => by simp at e; subst e; exact ⟨_, rfl, r⟩
  | _, _, i + 1, x, .cons _ t, e => by
    obtain ⟨u, h1, h2⟩ := Vals.get (i := i) (x := x) t (by simpa using e)
    exact ⟨u, by simpa using h1, h2⟩
theorem Vals.append : ∀ {xs ys : List V} {us ws : List Value}, Vals xs us → Vals ys ws → Vals (xs ++ ys) (us ++ ws)
  | _, _, _, _, .nil, s => s
  | _, _, _, _, .cons r t, s => .cons r (Vals.append t s)
theorem Vals.take : ∀ {xs : List V} {us : List Value} (n : Nat), Vals xs us → Vals (xs.take n) (us.take n)
  | _, _, 0, _ => .nil
  | _, _, _ + 1, .nil => .nil
  | _, _, n + 1, .cons r t => .cons r (Vals.take n t)
theorem Vals.drop : ∀ {xs : List V} {us : List Value} (n : Nat), Vals xs us → Vals (xs.drop n) (us.drop n)
  | _, _, 0, r => r
  | _, _, _ + 1, .nil => .nil
  | _, _, n + 1, .cons _ t => Vals.drop n t
def RelO : Option V → Option Value → Prop
  | some v, some u => RelV v u
  | none, none => True
  | _, _ => False
def KV {κ : Type} : List (κ × V) → List (κ × Value) → Prop := Paired fun (p : κ × V) (q : κ × Value) => p.1 = q.1 ∧ RelV p.2 q.2


def kV : Key → V
  | .inl i => .int i
  | .inr x => .str x


inductive HO where
  
  | lst (xs : List V)
  
  | tup (xs : List V)
  
  | dK (kvs : List (Key × V)) | dT (kvs : List (List Key × V))
  
  | set (S : Int → Bool) (n : Nat)
  
  | ins (C dx : Addr) (fs : List (Str × V))
  
  | own (x : Addr)
  
  | xd (fs : List (Str × V))
  
  | met (f x : Addr)
  
  | rng (lo hi : Int)
  
  | frz (o : Obj) (u : HO)
  
  | tbl (ps : Array Value)
  
  | ext (φ : Heap → Prop)

abbrev Hp := Addr → Option HO
def upd (H : Hp) (a : Addr) (o : HO) : Hp := fun b => if b = a then some o else H b
theorem upd_same {H : Hp} {a : Addr} {o : HO} : upd H a o a = some o := by unfold upd; rw [if_pos rfl]
theorem upd_ne {H : Hp} {a b : Addr} {o : HO} (h : b ≠ a) : upd H a o b = H b := by unfold upd; rw [if_neg h]
theorem upd_upd {H : Hp} {a : Addr} {o u : HO} : upd (upd H a o) a u = upd H a u := by
  funext b; unfold upd; split <;> rfl

theorem ne_of {H : Hp} {a b : Addr} {o u : HO} (h : H a = some o) (h' : H b = some u) (d : o ≠ u) : a ≠ b := by
  intro e; subst e; rw [h] at h'; exact d (Option.some.inj h')
theorem ne_of_none {H : Hp} {a b : Addr} {o : HO} (h : H a = some o) (h' : H b = none) : a ≠ b := by
  intro e; subst e; rw [h] at h'; cases h'

section
variable (P : Program) (w : World)
def ObjOk (H : Hp) (h : Heap) (a : Addr) : HO → Prop
  | .lst xs => xs.length ≤ sizeLine ∧ ∃ (its : List Value) (n : Nat), Vals xs its ∧ h.get? a = some { cls := .type "list", data := .seq its.toArray n }
  | .tup xs => xs.length ≤ sizeLine ∧ ∃ its : List Value, Vals xs its ∧ IsTup h a its.toArray
  | .dK kvs => kvs.length ≤ sizeLine ∧ (a == sysModules) = false ∧ ∃ vs, KV kvs vs ∧ h.DictOf (mixKind P w) a vs
  | .dT kvs => kvs.length ≤ sizeLine ∧ (a == sysModules) = false ∧ ∃ xs : List (List Key × Addr × Value),
      Paired (fun (p : List Key × V) (q : List Key × Addr × Value) => p.1 = q.1 ∧ H q.2.1 = some (.tup (p.1.map kV)) ∧ RelV p.2 q.2.2) kvs xs ∧
      ∃ o es ep, h.get? a = some o ∧ o.ExactDict ∧ o.data = .dict es ep ∧ es.toList = xs.map (entryOfKey (tupleKind (mixKind P w))) ∧ (xs.map (·.1)).Nodup
  | .set S n => h.SetOf (intKind P w) a S n
  | .ins C dx fs => H dx = some (.own a) ∧ fs.length ≤ 1000 ∧ dx ≠ a ∧ h.get? a = some (PySem.W.instObj C dx) ∧
      ∃ mA, h.Ns1 dx mA ∧ (∀ f, RelO (fs.lookup f) (mA f)) ∧ PySem.Within mA (fs.map (·.1))
  | .own _ => ∃ o, h.get? a = some o
  | .xd fs => ∃ mA, h.Ns1 a mA ∧ ∀ f, RelO (fs.lookup f) (mA f)
  | .rng lo hi => ∃ t u v, h.get? a = some { cls := .type "range", data := .fields #[.int lo t, .int hi u, .int 1 v] }
  | .frz o u => h.get? a = some o ∧ ObjOk H h a u
  | .tbl ps => h.get? a = some { cls := .none, data := .fields ps }
  | .met f x => h.get? a = some (PySem.W.methodObj (.ref f) (.ref x))
  | .ext φ => φ h ∧ (∃ o, h.get? a = some o) ∧ ∀ h1 h2 : Heap, φ h1 → (∀ o, h1.get? a = some o → h2.get? a = some o) → φ h2

def HOk (H : Hp) (h : Heap) : Prop := ∀ a o, H a = some o → ObjOk P w H h a o
end

section
variable {P : Program} {w : World} {H H' : Hp} {h h' : Heap} {a : Addr} {o : HO}
theorem ObjOk.lt (x : ObjOk P w H h a o) : a < h.objs.size := by
  cases o with
  | lst xs => obtain ⟨_, _, _, _, e⟩ := x; exact Heap.lt_size e
  | tup xs => obtain ⟨_, _, _, p⟩ := x; exact p.lt
  | dK kvs => obtain ⟨_, _, _, _, o, _, _, e, _⟩ := x; exact Heap.lt_size e
  | dT kvs => obtain ⟨_, _, _, _, o, _, _, e, _⟩ := x; exact Heap.lt_size e
  | set S n => obtain ⟨o, _, _, _, e, _⟩ := x; exact Heap.lt_size e
  | ins C dx fs => obtain ⟨_, _, _, e, _⟩ := x; exact Heap.lt_size e
  | own y => obtain ⟨_, e⟩ := x; exact Heap.lt_size e
  | xd fs => obtain ⟨_, ⟨_, _, _, e, _⟩, _⟩ := x; exact Heap.lt_size e
  | rng lo hi => obtain ⟨_, _, _, e⟩ := x; exact Heap.lt_size e
  | frz ob u => obtain ⟨e, _⟩ := x; exact Heap.lt_size e
  | tbl ps => exact Heap.lt_size (show h.get? a = some _ from x)
  | met f y => exact Heap.lt_size (show h.get? a = some _ from x)
  | ext φ => obtain ⟨_, ⟨_, e⟩, _⟩ := x; exact Heap.lt_size e
theorem Paired.mapP {α β : Type} {F G : α → β → Prop} : ∀ {l₁ : List α} {l₂ : List β}, Paired F l₁ l₂ → (∀ a b, F a b → G a b) → Paired G l₁ l₂
  | _, _, .nil, _ => .nil
  | _, _, .cons r t, f => .cons (f _ _ r) (Paired.mapP t f)
theorem ObjOk.stay (x : ObjOk P w H h a o) (k : ∀ b u, (b = a ∨ H b = some (.own a)) → h.get? b = some u → h'.get? b = some u)
    (ho : ∀ b, H b = some (.own a) → H' b = some (.own a)) (ht : ∀ b xs, H b = some (.tup xs) → H' b = some (.tup xs)) : ObjOk P w H' h' a o := by
  induction o with
  | lst xs => obtain ⟨z, its, n, r, e⟩ := x; exact ⟨z, its, n, r, k _ _ (.inl rfl) e⟩
  | tup xs => obtain ⟨z, its, r, ob, e, c⟩ := x; exact ⟨z, its, r, ob, k _ _ (.inl rfl) e, c⟩
  | dK kvs => obtain ⟨z, y, vs, r, ob, es, ep, e, c⟩ := x; exact ⟨z, y, vs, r, ob, es, ep, k _ _ (.inl rfl) e, c⟩
  | dT kvs =>
    obtain ⟨z, y, xs, r, ob, es, ep, e, c⟩ := x
    exact ⟨z, y, xs, Paired.mapP r fun p q z => ⟨z.1, ht _ _ z.2.1, z.2.2⟩, ob, es, ep, k _ _ (.inl rfl) e, c⟩
  | set S n => obtain ⟨ob, es, ep, t, e, c⟩ := x; exact ⟨ob, es, ep, t, k _ _ (.inl rfl) e, c⟩
  | ins C dx fs =>
    obtain ⟨d, z, ne, e, mA, ⟨od, es, ep, e2, c⟩, r⟩ := x
    exact ⟨ho _ d, z, ne, k _ _ (.inl rfl) e, mA, ⟨od, es, ep, k _ _ (.inr d) e2, c⟩, r⟩
  | own y => obtain ⟨ob, e⟩ := x; exact ⟨ob, k _ _ (.inl rfl) e⟩
  | xd fs => obtain ⟨mA, ⟨od, es, ep, e, c⟩, r⟩ := x; exact ⟨mA, ⟨od, es, ep, k _ _ (.inl rfl) e, c⟩, r⟩
  | rng lo hi => obtain ⟨t, u, v, e⟩ := x; exact ⟨t, u, v, k _ _ (.inl rfl) e⟩
  | frz ob u ih => obtain ⟨e, q⟩ := x; exact ⟨k _ _ (.inl rfl) e, ih q⟩
  | tbl ps =>
    have e : h.get? a = some { cls := .none, data := .fields ps } := x
    show h'.get? a = some { cls := .none, data := .fields ps }
    exact k a _ (.inl rfl) e
  | met f y =>
    have e : h.get? a = some (PySem.W.methodObj (.ref f) (.ref y)) := x
    show h'.get? a = some (PySem.W.methodObj (.ref f) (.ref y))
    exact k a _ (.inl rfl) e
  | ext φ => obtain ⟨p, ⟨o, e⟩, st⟩ := x; exact ⟨st _ _ p fun o q => k _ _ (.inl rfl) q, ⟨o, k _ _ (.inl rfl) e⟩, st⟩
theorem HOk.lt (x : HOk P w H h) (e : H a = some o) : a < h.objs.size := (x a o e).lt
theorem HOk.fresh (x : HOk P w H h) (e : h.objs.size ≤ a) : H a = none := by
  cases q : H a with
  | none => rfl
  | some u => exact absurd (Nat.lt_of_lt_of_le (x.lt q) e) (Nat.lt_irrefl _)

theorem HOk.kept (x : HOk P w H h) (k : ∀ b u, h.get? b = some u → h'.get? b = some u) : HOk P w H h' := fun a o e =>
  (x a o e).stay (fun b u _ q => k b u q) (fun _ q => q) fun _ _ q => q

theorem HOk.laid (x : HOk P w H h) (k : ∀ b u, h.get? b = some u → h'.get? b = some u) (hp : h.objs.size ≤ a) (new : ObjOk P w (upd H a o) h' a o) : HOk P w (upd H a o) h' := fun b u e => by
  have hn := x.fresh hp
  by_cases hb : b = a
  · subst hb; rw [upd_same] at e; cases e; exact new
  · rw [upd_ne hb] at e
    exact (x b u e).stay (fun c v _ q => k c v q) (fun c q => by rw [upd_ne (ne_of_none q hn)]; exact q) fun c xs q => by rw [upd_ne (ne_of_none q hn)]; exact q
end


def Rd (H : Hp) (a : Addr) (u : HO) : Prop := H a = some u ∨ ∃ o, H a = some (.frz o u)
theorem Rd.ok {P : Program} {w : World} {H : Hp} {h : Heap} {a : Addr} {u : HO} (r : Rd H a u) (x : HOk P w H h) : ObjOk P w H h a u := by
  rcases r with r | ⟨o, r⟩
  · exact x a u r
  · obtain ⟨_, q⟩ := x a _ r
    exact q

def Mut : Option HO → Prop
  | some (.lst _) => True
  | some (.dK _) => True
  | some (.dT _) => True
  | some (.set _ _) => True
  | some (.ins _ _ _) => True
  | some (.ext _) => True
  | _ => False
section
variable {P : Program} {w : World} {H : Hp} {h h' : Heap} {x e : Addr} {o' : HO}

theorem HOk.write (ok : HOk P w H h) (mu : Mut (H x)) (he : e = x ∨ H e = some (.own x)) (k : ∀ b u, b ≠ e → h.get? b = some u → h'.get? b = some u) (heo : ∃ u, h'.get? e = some u)
    (new : ObjOk P w (upd H x o') h' x o') : HOk P w (upd H x o') h' := fun b u q => by
  have nown : ∀ c y, H c = some (.own y) → c ≠ x := fun c y r z => by subst z; rw [r] at mu; exact mu
  have ntup : ∀ c xs, H c = some (.tup xs) → c ≠ x := fun c xs r z => by subst z; rw [r] at mu; exact mu
  by_cases hb : b = x
  · subst hb; rw [upd_same] at q; cases q; exact new
  · rw [upd_ne hb] at q
    by_cases hbe : b = e
    · have q' : H b = some (.own x) := by
        rcases he with z | z
        · exact absurd (hbe.trans z) hb
        · rw [hbe]; exact z
      rw [q] at q'; cases q'
      obtain ⟨v, hv⟩ := heo
      exact ⟨v, by rw [hbe]; exact hv⟩
    · refine (ok b u q).stay (fun c v hc r => k c v ?_ r) (fun c r => by rw [upd_ne (nown c b r)]; exact r) fun c xs r => by rw [upd_ne (ntup c xs r)]; exact r
      rcases hc with rfl | hc
      · exact hbe
      · rintro rfl
        rcases he with z | z
        · exact nown c b hc z
        · rw [hc] at z; cases z; exact hb rfl
end


structure Un (fs ex : List Addr) (H H' : Hp) (h h' : Heap) : Prop where
  keep : ∀ b o, h.get? b = some o → H b = none → b ∉ fs → b ∉ ex → h'.get? b = some o
  slot : ∀ b o, h.get? b = some o → H b = none → b ∈ fs → b ∉ ex → ∃ sl, h'.get? b = some { o with slots := sl }
  free : ∀ b o, h.get? b = some o → H b = none → b ∉ ex → H' b = none
  there : ∀ b o, h.get? b = some o → b ∉ ex → ∃ o', h'.get? b = some o'
  tups : ∀ b xs, H b = some (.tup xs) → H' b = some (.tup xs)
  frzs : ∀ b o u, H b = some (.frz o u) → H' b = some (.frz o u)
  tbls : ∀ b ps, H b = some (.tbl ps) → ∃ more, H' b = some (.tbl (ps ++ more))
section
variable {fs fs' ex ex' : List Addr} {H H1 H2 : Hp} {h h1 h2 h' : Heap} {a x e : Addr} {o : HO}
theorem Un.any (u : Un fs ex H H1 h h1) {b : Addr} {ob : Obj} (q : h.get? b = some ob) (n : H b = none) (hx : b ∉ ex) : ∃ sl, h1.get? b = some { ob with slots := sl } := by
  by_cases hb : b ∈ fs
  · exact u.slot b ob q n hb hx
  · exact ⟨ob.slots, u.keep b ob q n hb hx⟩
theorem Un.kept (k : ∀ b u, h.get? b = some u → h'.get? b = some u) : Un fs ex H H h h' :=
  ⟨fun b ob q _ _ _ => k b ob q, fun b ob q _ _ _ => ⟨ob.slots, k b ob q⟩, fun _ _ _ n _ => n, fun b ob q _ => ⟨ob, k b ob q⟩, fun _ _ q => q, fun _ _ _ q => q, fun _ ps q => ⟨#[], by rw [q]; simp⟩⟩
theorem Un.refl : Un fs ex H H h h := Un.kept fun _ _ q => q
theorem Un.laid (k : ∀ b u, h.get? b = some u → h'.get? b = some u) (hp : h.objs.size ≤ a) (hn : H a = none) : Un fs ex H (upd H a o) h h' where
  keep := fun b u q _ _ _ => k b u q
  slot := fun b u q _ _ _ => ⟨u.slots, k b u q⟩
  free := fun b u q n _ => by rw [upd_ne (Nat.ne_of_lt (Nat.lt_of_lt_of_le (Heap.lt_size q) hp))]; exact n
  there := fun b u q _ => ⟨u, k b u q⟩
  tups := fun b xs q => by rw [upd_ne (ne_of_none q hn)]; exact q
  frzs := fun b u xs q => by rw [upd_ne (ne_of_none q hn)]; exact q
  tbls := fun b ps q => ⟨#[], by rw [upd_ne (ne_of_none q hn), q]; simp⟩
theorem Un.write (mu : Mut (H x)) (he : e = x ∨ H e = some (.own x)) (k : ∀ b u, b ≠ e → h.get? b = some u → h'.get? b = some u) (heo : ∃ u, h'.get? e = some u) : Un fs ex H (upd H x o) h h' := by
  have hx : ∀ b, H b = none → b ≠ x := fun b n z => by subst z; rw [n] at mu; exact mu
  have hb : ∀ b, H b = none → b ≠ e := fun b n z => by
    subst z
    rcases he with r | r
    · exact hx b n r
    · rw [n] at r; cases r
  have hm : ∀ b u, H b = some u → ¬ Mut (some u) → b ≠ x := fun b u q nm z => by subst z; rw [q] at mu; exact nm mu
  refine ⟨fun b u q n _ _ => k b u (hb b n) q, fun b u q n _ _ => ⟨u.slots, k b u (hb b n) q⟩, fun b u q n _ => by rw [upd_ne (hx b n)]; exact n, fun b u q _ => ?_,
    fun b xs q => by rw [upd_ne (hm b _ q fun z => z)]; exact q, fun b u xs q => by rw [upd_ne (hm b _ q fun z => z)]; exact q, fun b ps q => ⟨#[], by rw [upd_ne (hm b _ q fun z => z), q]; simp⟩⟩
  by_cases hbe : b = e
  · subst hbe; exact heo
  · exact ⟨u, k b u hbe q⟩
end


def trk (h : Heap) (H : Hp) : List Addr := (List.range h.objs.size).filter fun a => (H a).isSome
def hidT (h : Heap) (H : Hp) : Heap := PySem.W.hideAll h (trk h H)
theorem hidT_size (h : Heap) (H : Hp) : (hidT h H).objs.size = h.objs.size := PySem.W.hideAll_size _ _
theorem hidT_get {h : Heap} {H : Hp} {b : Addr} {o : Obj} (e : h.get? b = some o) (n : H b = none) : (hidT h H).get? b = some o :=
  PySem.W.hideAll_get _ e fun hm => by
    have q : (H b).isSome = true := (List.mem_filter.mp hm).2
    rw [n] at q; simp at q
theorem of_hidT {h : Heap} {H : Hp} {b : Addr} {o : Obj} (e : (hidT h H).get? b = some o) : h.get? b = some o ∧ H b = none := by
  have e' : h.get? b = some o := PySem.W.of_hideAll (trk h H) e
  refine ⟨e', ?_⟩
  cases q : H b with
  | none => rfl
  | some x =>
    have hm : b ∈ trk h H := List.mem_filter.mpr ⟨List.mem_range.mpr (Heap.lt_size e'), by simp [q]⟩
    have z : (hidT h H).get? b = none := PySem.W.hideAll_none (trk h H) hm
    rw [z] at e; cases e


end L2

namespace L2
open PySem PySem.Spec PyProof.Rows


structure Mod (K : PySem.W.Frag) (mg : Str → Option Value) (base : Heap) : Prop where
  kin : K.In base
  glob : base.Ns mainGlobals mg
  blt : ∃ mb, base.Ns builtinsNs mb ∧ ∀ x : Str, x ≠ "__name__" → mb x = bootBuiltins x
  nolimit : base.NoLimit


structure Cx where
  prog : Program
  w : World
  K : PySem.W.Frag
  mg : Str → Option Value
  base : Heap
  A : Around
  N : List Str
  s₀ : Shared
  H₀ : Hp
  env : Env
  outer : List Env
  stack : List Env
  ex : List Addr
  fn : Str → Bool
  calm : Bool
  pn : List (Addr × Obj)
  xe : Value → Shared → Prop

def frs (l : List Env) : List Addr := l.filterMap (·.frame)
abbrev Cx.fs (X : Cx) : List Addr := frs X.outer

def Vis (sc : Scope) (x : Str) : Prop := sc.names.lookup x = some .local ∨ sc.names.lookup x = some .cell ∨ sc.names.lookup x = some .free
def Loc (sc : Scope) (x : Str) : Prop := sc.names.lookup x = some .local ∨ sc.names.lookup x = some .cell
def Look (env : Env) (h : Heap) (m : Str → Option Value) (x : Str) (u : Value) : Prop :=
  (env.kindOf x = some .local ∧ m x = some u) ∨ ((env.kindOf x = some .cell ∨ env.kindOf x = some .free) ∧ ∃ c, env.cells.lookup x = some c ∧ h.IsCell c (some u))

structure Cx.Ok (X : Cx) : Prop where
  mod : Mod X.K X.mg X.base
  kind : X.env.scope.kind = .function
  glob : X.env.globals = mainGlobals
  blt : X.env.builtins = builtinsNs
  above : X.s₀.heap.objs.size ≤ X.env.locals
  inj : ∀ x y c, X.env.cells.lookup x = some c → X.env.cells.lookup y = some c → x = y
  has : ∀ x, (X.env.kindOf x = some .cell ∨ X.env.kindOf x = some .free) → ∃ c, X.env.cells.lookup x = some c
  cab : ∀ x c, X.fn x = true → X.env.cells.lookup x = some c → X.s₀.heap.objs.size ≤ c
  hd : X.calm = true → X.A.handled = none
  frames : X.A.frames = some X.stack
  stk : X.stack = X.outer ∨ (X.stack = X.env :: X.outer ∧ X.env.frame = some X.env.locals)
  exf : ∀ b ∈ X.ex, b ≠ X.env.locals ∧ ∀ x c, X.env.cells.lookup x = some c → c ≠ b
  bs : ∀ b o, X.base.get? b = some o → X.s₀.heap.get? b = some o ∧ X.H₀ b = none
  bsz : X.base.objs.size ≤ X.s₀.heap.objs.size
  noex : ∀ b o, X.base.get? b = some o → b ∉ X.ex
  exfs : ∀ b ∈ X.ex, b ∉ X.fs
  funs : X.s₀.heap.FunFrames X.base X.outer
  frf : ∀ b ∈ X.fs, X.H₀ b = none

structure Inv (X : Cx) (pins : List (Addr × Obj)) (σ : List (Option V)) (H : Hp) (s : Shared) : Prop where
  ok : X.Ok
  os : s.os = X.s₀.os
  bare : AllBare s.gens
  base : Un X.fs X.ex X.H₀ H X.s₀.heap s.heap
  loc : ∃ m, s.heap.Ns X.env.locals m ∧ ∀ (i : Nat) (x : Str) (v : V), X.N[i]? = some x → σ[i]? = some (some v) → Vis X.env.scope x → ∃ u, RelV v u ∧ Look X.env s.heap m x u
  cell : ∀ x c, X.env.cells.lookup x = some c → ∃ v, s.heap.IsCell c v
  free : H X.env.locals = none
  freeC : ∀ x c, X.env.cells.lookup x = some c → H c = none
  pin : ∀ p ∈ X.pn ++ pins, s.heap.get? p.1 = some p.2 ∧ H p.1 = none ∧ p.1 ≠ X.env.locals ∧ p.1 ∉ X.fs ∧ ∀ v, p.2.data ≠ .cell v
  hok : HOk X.prog X.w H s.heap
  len : σ.length = X.N.length

section
variable {X : Cx} {pins : List (Addr × Obj)} {σ : List (Option V)} {H H' : Hp} {s : Shared} {h' : Heap}

theorem Cx.Ok.nofr (ok : X.Ok) {b : Addr} {o : Obj} (e : X.base.get? b = some o) : b ∉ X.fs := fun hb => by
  have := (ok.funs.mem hb).1
  rw [e] at this; cases this
theorem Inv.bs (I : Inv X pins σ H s) : ∀ b o, X.base.get? b = some o → s.heap.get? b = some o ∧ H b = none := fun b o e =>
  ⟨I.base.keep b o (I.ok.bs b o e).1 (I.ok.bs b o e).2 (I.ok.nofr e) (I.ok.noex b o e), I.base.free b o (I.ok.bs b o e).1 (I.ok.bs b o e).2 (I.ok.noex b o e)⟩
theorem Inv.bk (I : Inv X pins σ H s) : ∀ b o, X.base.get? b = some o → s.heap.get? b = some o := fun b o e => (I.bs b o e).1
theorem Inv.mod (I : Inv X pins σ H s) : Mod X.K X.mg X.base := I.ok.mod
theorem Inv.kIn (I : Inv X pins σ H s) : X.K.In s.heap := I.ok.mod.kin.keeps I.bk
theorem Inv.lt (I : Inv X pins σ H s) : X.env.locals < s.heap.objs.size := let ⟨_, hn, _⟩ := I.loc; hn.lt
theorem Inv.sz (I : Inv X pins σ H s) : X.s₀.heap.objs.size ≤ s.heap.objs.size := Nat.le_trans I.ok.above (Nat.le_of_lt I.lt)
theorem Inv.nofs (I : Inv X pins σ H s) {a : Addr} (h : s.heap.objs.size ≤ a) : a ∉ X.fs := fun hb => by
  obtain ⟨_, o, ho, _⟩ := I.ok.funs.mem hb
  exact absurd (Nat.lt_of_lt_of_le (Heap.lt_size ho) (Nat.le_trans I.sz h)) (Nat.lt_irrefl _)
theorem Inv.cne (I : Inv X pins σ H s) : ∀ x c, X.env.cells.lookup x = some c → c ≠ X.env.locals := fun x c e z => by
  obtain ⟨v, o, ho, hd⟩ := I.cell x c e
  obtain ⟨m, ⟨o', es, ep, ho', hd', _⟩, _⟩ := I.loc
  rw [z, ho'] at ho; cases ho; rw [hd'] at hd; cases hd
theorem Inv.funs (I : Inv X pins σ H s) : s.heap.FunFrames X.base X.outer := by
  have all : ∀ (l : List Env), (∀ b ∈ frs l, b ∈ X.fs) → X.s₀.heap.FunFrames X.base l → s.heap.FunFrames X.base l := by
    intro l
    induction l with
    | nil => intro _ _; trivial
    | cons env r ih =>
      intro hs hl
      obtain ⟨hk, ⟨L, o, hf, hn, ho, hd⟩, hr⟩ := hl
      have hL : L ∈ X.fs := hs L (by unfold frs; rw [List.filterMap_cons, hf]; exact List.mem_cons_self)
      obtain ⟨sl, e⟩ := I.base.slot L o ho (I.ok.frf L hL) hL fun z => I.ok.exfs L z hL
      exact ⟨hk, ⟨L, _, hf, hn, e, hd⟩, ih (fun b hb => hs b (by unfold frs; rw [List.filterMap_cons, hf]; exact List.mem_cons_of_mem _ hb)) hr⟩
  exact all X.outer (fun _ hb => hb) I.ok.funs


theorem Inv.stack (I : Inv X pins σ H s) : s.heap.FunFrames X.base X.stack := by
  rcases I.ok.stk with e | ⟨e, hf⟩
  · rw [e]; exact I.funs
  · rw [e]
    obtain ⟨m, hn, _⟩ := I.loc
    refine .cons (by rw [I.ok.kind]; decide) hf hn ?_ I.funs
    exact Heap.get?_none_of_le (Nat.le_trans I.ok.bsz I.ok.above)
theorem Inv.stkSub (I : Inv X pins σ H s) : ∀ b ∈ frs X.stack, b ∈ X.env.locals :: X.fs := fun b hb => by
  rcases I.ok.stk with e | ⟨e, hf⟩
  · rw [e] at hb; exact List.mem_cons_of_mem _ hb
  · rw [e] at hb
    unfold frs at hb
    rw [List.filterMap_cons, hf] at hb
    exact hb
theorem Inv.stkFree (I : Inv X pins σ H s) : ∀ b ∈ frs X.stack, H b = none := fun b hb => by
  rcases List.mem_cons.mp (I.stkSub b hb) with e | hb
  · rw [e]; exact I.free
  · obtain ⟨_, o, ho, _⟩ := I.ok.funs.mem hb
    exact I.base.free b o ho (I.ok.frf b hb) fun z => I.ok.exfs b z hb


theorem Inv.step {g' : Array GenState} {t' : Nat} {d' : Drawn} {ch : List Addr} (I : Inv X pins σ H s)
    (hch : ∀ b ∈ ch, (b ∈ X.ex ∨ X.s₀.heap.objs.size ≤ b) ∧ b ≠ X.env.locals ∧ (∀ x c, X.env.cells.lookup x = some c → c ≠ b) ∧ ∀ p ∈ X.pn ++ pins, p.1 ≠ b)
    (keep : ∀ b o, b ≠ X.env.locals → b ∉ X.fs → b ∉ ch → s.heap.get? b = some o → H b = none → h'.get? b = some o)
    (slot : ∀ b o, b ≠ X.env.locals → b ∈ X.fs → b ∉ ch → s.heap.get? b = some o → H b = none → ∃ sl, h'.get? b = some { o with slots := sl }) (free : ∀ b o, b ∉ ch → s.heap.get? b = some o → H b = none → H' b = none)
    (there : ∀ b o, b ∉ ch → s.heap.get? b = some o → ∃ o', h'.get? b = some o')
    (tups : ∀ b xs, H b = some (.tup xs) → H' b = some (.tup xs)) (frzs : ∀ b o u, H b = some (.frz o u) → H' b = some (.frz o u)) (tbls : ∀ b ps, H b = some (.tbl ps) → ∃ more, H' b = some (.tbl (ps ++ more)))
    (ns : ∀ m, s.heap.Ns X.env.locals m → h'.Ns X.env.locals m) (hok : HOk X.prog X.w H' h') (hg : AllBare g') :
    Inv X pins σ H' { s with heap := h', gens := g', drawn := d', toks := t' } := by
  have neL : ∀ b o, X.s₀.heap.get? b = some o → b ≠ X.env.locals := fun b o e => Nat.ne_of_lt (Nat.lt_of_lt_of_le (Heap.lt_size e) I.ok.above)
  have neC : ∀ b o, X.s₀.heap.get? b = some o → b ∉ X.ex → b ∉ ch := fun b o e hx hb => by
    rcases (hch b hb).1 with z | z
    · exact hx z
    · exact absurd (Nat.lt_of_lt_of_le (Heap.lt_size e) z) (Nat.lt_irrefl _)
  have cellK : ∀ x c, X.env.cells.lookup x = some c → ∀ v, s.heap.IsCell c v → h'.IsCell c v := fun x c e v ⟨o, ho, hd⟩ => by
    have nch : c ∉ ch := fun z => (hch c z).2.2.1 x c e rfl
    by_cases hc : c ∈ X.fs
    · obtain ⟨sl, q⟩ := slot c o (I.cne x c e) hc nch ho (I.freeC x c e)
      exact ⟨_, q, hd⟩
    · exact ⟨o, keep c o (I.cne x c e) hc nch ho (I.freeC x c e), hd⟩
  refine ⟨I.ok, I.os, hg, ⟨fun b o e n hb hx => ?_, fun b o e n hb hx => ?_, fun b o e n hx => ?_, fun b o e hx => ?_, fun b xs e => tups b xs (I.base.tups b xs e), fun b o xs e => frzs b o xs (I.base.frzs b o xs e), fun b ps e => ?_⟩, ?_, fun x c e => ?_, ?_, fun x c e => ?_, fun p hp => ?_, hok, I.len⟩
  · exact keep b o (neL b o e) hb (neC b o e hx) (I.base.keep b o e n hb hx) (I.base.free b o e n hx)
  · obtain ⟨sl, e1⟩ := I.base.slot b o e n hb hx
    obtain ⟨sl', e2⟩ := slot b _ (neL b o e) hb (neC b o e hx) e1 (I.base.free b o e n hx)
    exact ⟨sl', e2⟩
  · obtain ⟨o', e1⟩ := I.base.there b o e hx
    exact free b o' (neC b o e hx) e1 (I.base.free b o e n hx)
  · obtain ⟨o', e1⟩ := I.base.there b o e hx
    exact there b o' (neC b o e hx) e1
  · obtain ⟨m1, e1⟩ := I.base.tbls b ps e
    obtain ⟨m2, e2⟩ := tbls b _ e1
    exact ⟨m1 ++ m2, by rw [e2, Array.append_assoc]⟩
  · obtain ⟨m, hn, hl⟩ := I.loc
    refine ⟨m, ns m hn, fun i x v e1 e2 e3 => ?_⟩
    obtain ⟨u, r, l⟩ := hl i x v e1 e2 e3
    refine ⟨u, r, ?_⟩
    rcases l with l | ⟨k, c, e, z⟩
    · exact .inl l
    · exact .inr ⟨k, c, e, cellK x c e _ z⟩
  · obtain ⟨v, z⟩ := I.cell x c e
    exact ⟨v, cellK x c e v z⟩
  · obtain ⟨m, ⟨o, _, _, ho, _⟩, _⟩ := I.loc
    exact free _ o (fun z => (hch _ z).2.1 rfl) ho I.free
  · obtain ⟨v, o, ho, hd⟩ := I.cell x c e
    exact free c o (fun z => (hch c z).2.2.1 x c e rfl) ho (I.freeC x c e)
  · obtain ⟨e, n, ne, nf, d⟩ := I.pin p hp
    have nch : p.1 ∉ ch := fun z => (hch p.1 z).2.2.2 p hp rfl
    exact ⟨keep p.1 p.2 ne nf nch e n, free p.1 p.2 nch e n, ne, nf, d⟩

theorem Inv.un {t' : Nat} (I : Inv X pins σ H s) (u : Un X.fs [] H H' s.heap h') (hok : HOk X.prog X.w H' h') : Inv X pins σ H' { s with heap := h', toks := t' } := by
  obtain ⟨m, ⟨o, es, ep, ho, r⟩, _⟩ := id I.loc
  obtain ⟨sl, hL⟩ := u.any ho I.free (by simp)
  exact I.step (g' := s.gens) (d' := s.drawn) (ch := []) (fun _ z => nomatch z) (fun b o _ hb _ e n => u.keep b o e n hb (by simp)) (fun b o _ hb _ e n => u.slot b o e n hb (by simp)) (fun b o _ e n => u.free b o e n (by simp)) (fun b o _ e => u.there b o e (by simp)) u.tups u.frzs u.tbls (fun m' hm => by
    obtain ⟨o', es', ep', ho', r'⟩ := hm
    rw [ho] at ho'; cases ho'
    exact ⟨_, es', ep', hL, r'⟩) hok I.bare

theorem Inv.call {g' : Array GenState} {t' : Nat} {d' : Drawn} {ch : List Addr} (I : Inv X pins σ H s) (u : Un (frs X.stack) ch H H' s.heap h') (hok : HOk X.prog X.w H' h') (hg : AllBare g')
    (hch : ∀ b ∈ ch, (b ∈ X.ex ∨ X.s₀.heap.objs.size ≤ b) ∧ b ≠ X.env.locals ∧ (∀ x c, X.env.cells.lookup x = some c → c ≠ b) ∧ ∀ p ∈ X.pn ++ pins, p.1 ≠ b) :
    Inv X pins σ H' { s with heap := h', gens := g', drawn := d', toks := t' } := by
  obtain ⟨m, ⟨o, es, ep, ho, r⟩, _⟩ := id I.loc
  obtain ⟨sl, hL⟩ := u.any ho I.free fun z => (hch _ z).2.1 rfl
  exact I.step (ch := ch) hch (fun b o hL hb hc e n => u.keep b o e n (fun z => (List.mem_cons.mp (I.stkSub b z)).elim hL hb) hc) (fun b o _ _ hc e n => u.any e n hc) (fun b o hc e n => u.free b o e n hc) (fun b o hc e => u.there b o e hc) u.tups u.frzs u.tbls (fun m' hm => by
    obtain ⟨o', es', ep', ho', r'⟩ := hm
    rw [ho] at ho'; cases ho'
    exact ⟨_, es', ep', hL, r'⟩) hok hg

theorem Inv.turned {t' : Nat} {it : Addr} (I : Inv X pins σ H s) (k : ∀ b o, b ≠ it → s.heap.get? b = some o → h'.get? b = some o) (hn : H it = none) (hL : it ≠ X.env.locals)
    (h1 : it ∈ X.ex ∨ X.s₀.heap.objs.size ≤ it) (h2 : ∀ x c, X.env.cells.lookup x = some c → c ≠ it) (h3 : ∀ p ∈ X.pn ++ pins, p.1 ≠ it) : Inv X pins σ H { s with heap := h', toks := t' } := by
  have nit : ∀ b u, H b = some u → b ≠ it := fun b u e z => by rw [z, hn] at e; cases e
  refine I.step (g' := s.gens) (d' := s.drawn) (ch := [it]) (fun b hb => ?_) (fun b o _ _ hc e _ => k b o (fun z => hc (by simp [z])) e) (fun b o _ _ hc e _ => ⟨o.slots, k b o (fun z => hc (by simp [z])) e⟩) (fun _ _ _ _ n => n)
    (fun b o hc e => ⟨o, k b o (fun z => hc (by simp [z])) e⟩) (fun _ _ e => e) (fun _ _ _ e => e) (fun b ps e => ⟨#[], by rw [e]; simp⟩) (fun m hm => ?_) (fun b u e => ?_) I.bare
  · have e : b = it := by simpa using hb
    subst e
    exact ⟨h1, hL, h2, h3⟩
  · obtain ⟨o, es, ep, ho, r⟩ := hm
    exact ⟨o, es, ep, k _ o (Ne.symm hL) ho, r⟩
  · refine (I.hok b u e).stay (fun c v hc q => k c v ?_ q) (fun _ q => q) fun _ _ q => q
    rcases hc with z | z
    · rw [z]; exact nit b u e
    · exact nit c _ z
theorem Inv.tok (I : Inv X pins σ H s) (t : Nat) : Inv X pins σ H { s with toks := t } := I.un (h' := s.heap) (t' := t) Un.refl I.hok

theorem Inv.kept {t' : Nat} (I : Inv X pins σ H s) (k : ∀ b u, s.heap.get? b = some u → h'.get? b = some u) : Inv X pins σ H { s with heap := h', toks := t' } := I.un (Un.kept k) (I.hok.kept k)

theorem Inv.laid {a : Addr} {o : HO} {t' : Nat} (I : Inv X pins σ H s) (k : ∀ b u, s.heap.get? b = some u → h'.get? b = some u) (hp : s.heap.objs.size ≤ a) (new : ObjOk X.prog X.w (upd H a o) h' a o) :
    Inv X pins σ (upd H a o) { s with heap := h', toks := t' } := I.un (Un.laid k hp (I.hok.fresh hp)) (I.hok.laid k hp new)

theorem Inv.write {x e : Addr} {o : HO} {t' : Nat} (I : Inv X pins σ H s) (mu : Mut (H x)) (he : e = x ∨ H e = some (.own x)) (k : ∀ b u, b ≠ e → s.heap.get? b = some u → h'.get? b = some u) (heo : ∃ u, h'.get? e = some u)
    (new : ObjOk X.prog X.w (upd H x o) h' x o) : Inv X pins σ (upd H x o) { s with heap := h', toks := t' } := I.un (Un.write mu he k heo) (I.hok.write mu he k heo new)

theorem Inv.pins_of {pins' : List (Addr × Obj)} (I : Inv X pins σ H s) (h : ∀ p ∈ pins', s.heap.get? p.1 = some p.2 ∧ H p.1 = none ∧ p.1 ≠ X.env.locals ∧ p.1 ∉ X.fs ∧ ∀ v, p.2.data ≠ .cell v) : Inv X pins' σ H s :=
  ⟨I.ok, I.os, I.bare, I.base, I.loc, I.cell, I.free, I.freeC, fun p hp => (List.mem_append.mp hp).elim (fun z => I.pin p (List.mem_append_left _ z)) (h p), I.hok, I.len⟩

theorem nodup_ix {N : List Str} (hN : N.Nodup) {i j : Nat} {x : Str} (a : N[i]? = some x) (b : N[j]? = some x) : i = j := by
  obtain ⟨h1, e1⟩ := List.getElem?_eq_some_iff.mp a
  obtain ⟨h2, e2⟩ := List.getElem?_eq_some_iff.mp b
  exact (List.getElem_inj hN).mp (e1.trans e2.symm)


theorem store_ok2 {M : Model} {A : Around} {E : Value → Shared → Prop} {i : Nat} {x : Str} {v : V} {u : Value} {Q : Unit → Shared → Prop} (I : Inv X pins σ H s) (hN : X.N.Nodup) (hi : X.N[i]? = some x) (hx : Loc X.env.scope x) (r : RelV v u)
    (h : ∀ s', Inv X pins (σ.set i (some v)) H s' → (∃ a, Heap.SameBut a s.heap s'.heap ∧ (a = X.env.locals ∨ X.env.cells.lookup x = some a)) → Q () s') (hf : X.fn x = true ∨ X.env.scope.names.lookup x = some .local := by first | exact .inl rfl | exact .inr rfl | assumption) : wpAny M A (storeName X.env x u) Q E s := by
  obtain ⟨m, hn, hl⟩ := id I.loc
  have hcls : (X.env.scope.kind == .class || (X.env.scope.kind == .module && X.env.locals != X.env.globals)) = false := by rw [I.ok.kind]; rfl
  have hiσ : i < σ.length := by rw [I.len]; exact (List.getElem?_eq_some_iff.mp hi).1
  have cne := I.cne
  have tracked : ∀ {a : Addr} {h' : Heap}, (∃ o, s.heap.get? a = some o ∧ H a = none) → Heap.SameBut a s.heap h' → HOk X.prog X.w H h' := fun {a h'} ha hs b ob e => by
    obtain ⟨_, _, hfree⟩ := ha
    refine (I.hok b ob e).stay (fun c w' hc q => (hs.2 c ?_).trans q) (fun _ q => q) fun _ _ q => q
    rintro rfl
    rcases hc with rfl | hc
    · rw [hfree] at e; cases e
    · rw [hfree] at hc; cases hc
  rcases hx with hk | hk
  · refine wpAny_storeName_local hk hn (fun h' hn' hs => ?_) hcls
    obtain ⟨oL, _, _, hoL, _⟩ := id hn
    refine h _ ⟨I.ok, I.os, I.bare, ⟨fun b o e n hb hx => ?_, fun b o e n hb hx => ?_, I.base.free, fun b o e hx => ?_, I.base.tups, I.base.frzs, I.base.tbls⟩, ⟨_, hn', fun j y v' e1 e2 e3 => ?_⟩, fun y c e => ?_, I.free, I.freeC, fun p hp => ?_, tracked ⟨oL, hoL, I.free⟩ hs, by simpa using I.len⟩ ⟨_, hs, .inl rfl⟩
    · exact (hs.2 b (Nat.ne_of_lt (Nat.lt_of_lt_of_le (Heap.lt_size e) I.ok.above))).trans (I.base.keep b o e n hb hx)
    · obtain ⟨sl, e1⟩ := I.base.slot b o e n hb hx
      exact ⟨sl, (hs.2 b (Nat.ne_of_lt (Nat.lt_of_lt_of_le (Heap.lt_size e) I.ok.above))).trans e1⟩
    · obtain ⟨o', e1⟩ := I.base.there b o e hx
      exact ⟨o', (hs.2 b (Nat.ne_of_lt (Nat.lt_of_lt_of_le (Heap.lt_size e) I.ok.above))).trans e1⟩
    · by_cases hj : j = i
      · subst hj
        rw [hi] at e1; cases e1
        rw [List.getElem?_set_self hiσ] at e2
        cases e2
        exact ⟨u, r, .inl ⟨hk, by simp⟩⟩
      · rw [List.getElem?_set_ne (Ne.symm hj)] at e2
        obtain ⟨u', r', q⟩ := hl j y v' e1 e2 e3
        refine ⟨u', r', ?_⟩
        rcases q with ⟨k, e⟩ | ⟨k, c, e, z⟩
        · refine .inl ⟨k, ?_⟩
          have : y ≠ x := fun e => hj (nodup_ix hN e1 (e ▸ hi))
          simp [this, e]
        · exact .inr ⟨k, c, e, z.sameBut hs (cne y c e)⟩
    · obtain ⟨w', z⟩ := I.cell y c e
      exact ⟨w', z.sameBut hs (cne y c e)⟩
    · obtain ⟨e, n, ne, nf, d⟩ := I.pin p hp
      exact ⟨(hs.2 p.1 ne).trans e, n, ne, nf, d⟩
  · have hfn : X.fn x = true := by
      rcases hf with z | z
      · exact z
      · rw [z] at hk; cases hk
    obtain ⟨c, hc⟩ := I.ok.has x (.inl hk)
    obtain ⟨w', z⟩ := I.cell x c hc
    refine wpAny_storeName_cell I.ok.kind hk hc z (fun h' hc' hs => ?_)
    obtain ⟨oc, hoc, hocd⟩ := id z
    refine h { s with heap := h' } ⟨I.ok, I.os, I.bare, ⟨fun b o e n hb hx => ?_, fun b o e n hb hx => ?_, I.base.free, fun b o e hx => ?_, I.base.tups, I.base.frzs, I.base.tbls⟩, ⟨m, hn.sameBut hs (Ne.symm (cne x c hc)), fun j y v' e1 e2 e3 => ?_⟩, fun y c' e => ?_, I.free, I.freeC, fun p hp => ?_, tracked ⟨oc, hoc, I.freeC x c hc⟩ hs, by simpa using I.len⟩ ⟨c, hs, .inr hc⟩
    · exact (hs.2 b (Nat.ne_of_lt (Nat.lt_of_lt_of_le (Heap.lt_size e) (I.ok.cab x c hfn hc)))).trans (I.base.keep b o e n hb hx)
    · obtain ⟨sl, e1⟩ := I.base.slot b o e n hb hx
      exact ⟨sl, (hs.2 b (Nat.ne_of_lt (Nat.lt_of_lt_of_le (Heap.lt_size e) (I.ok.cab x c hfn hc)))).trans e1⟩
    · obtain ⟨o', e1⟩ := I.base.there b o e hx
      exact ⟨o', (hs.2 b (Nat.ne_of_lt (Nat.lt_of_lt_of_le (Heap.lt_size e) (I.ok.cab x c hfn hc)))).trans e1⟩
    · by_cases hj : j = i
      · subst hj
        rw [hi] at e1; cases e1
        rw [List.getElem?_set_self hiσ] at e2
        cases e2
        exact ⟨u, r, .inr ⟨.inl hk, c, hc, hc'⟩⟩
      · rw [List.getElem?_set_ne (Ne.symm hj)] at e2
        obtain ⟨u', r', q⟩ := hl j y v' e1 e2 e3
        refine ⟨u', r', ?_⟩
        rcases q with q | ⟨k, c', e, z'⟩
        · exact .inl q
        · refine .inr ⟨k, c', e, z'.sameBut hs ?_⟩
          rintro rfl
          exact hj (nodup_ix hN e1 (I.ok.inj _ _ _ e hc ▸ hi))
    · by_cases hcc : c' = c
      · subst hcc; exact ⟨_, hc'⟩
      · obtain ⟨w2, z2⟩ := I.cell y c' e
        exact ⟨w2, z2.sameBut hs hcc⟩
    · obtain ⟨e, n, ne, nf, d⟩ := I.pin p hp
      refine ⟨(hs.2 p.1 ?_).trans e, n, ne, nf, d⟩
      intro q
      rw [q, hoc] at e
      have q' : oc = p.2 := Option.some.inj e
      exact d w' (by rw [← q']; exact hocd)
theorem store_ok {M : Model} {A : Around} {E : Value → Shared → Prop} {i : Nat} {x : Str} {v : V} {u : Value} {Q : Unit → Shared → Prop} (I : Inv X pins σ H s) (hN : X.N.Nodup) (hi : X.N[i]? = some x) (hx : Loc X.env.scope x) (r : RelV v u)
    (h : ∀ s', Inv X pins (σ.set i (some v)) H s' → Q () s') (hf : X.fn x = true ∨ X.env.scope.names.lookup x = some .local := by first | exact .inl rfl | exact .inr rfl | assumption) : wpAny M A (storeName X.env x u) Q E s :=
  store_ok2 I hN hi hx r (fun s' I' _ => h s' I') hf

theorem Inv.call' {s' : Shared} {ch : List Addr} (I : Inv X pins σ H s) (ho : s'.os = s.os) (u : Un (frs X.stack) ch H H' s.heap s'.heap) (hok : HOk X.prog X.w H' s'.heap) (hg : AllBare s'.gens)
    (hch : ∀ b ∈ ch, (b ∈ X.ex ∨ X.s₀.heap.objs.size ≤ b) ∧ b ≠ X.env.locals ∧ (∀ x c, X.env.cells.lookup x = some c → c ≠ b) ∧ ∀ p ∈ X.pn ++ pins, p.1 ≠ b) : Inv X pins σ H' s' := by
  obtain ⟨h', g', d', t', o'⟩ := s'
  have e : o' = s.os := ho
  subst e
  exact I.call (g' := g') (t' := t') (d' := d') u hok hg hch
end



abbrev XK := Value → Option Addr → Hp → Prop
abbrev St := List (Option V)
abbrev VK := V → Hp → Prop

abbrev TE := St → Hp → VK → Prop
abbrev TT := St → Hp → (Bool → Hp → Prop) → Prop
abbrev TA := St → Hp → (List V → Hp → Prop) → Prop

structure Ends where
  nx : St → Hp → Prop
  rt : VK
  bk : St → Hp → Prop := fun _ _ => False
  ct : St → Hp → Prop := fun _ _ => False
abbrev TS := Ends → St → Hp → Prop

def EP (X : Cx) (pins : List (Addr × Obj)) (σ : St) (Q : VK) (u : Value) (s' : Shared) : Prop := ∃ v H', Inv X pins σ H' s' ∧ RelV v u ∧ Q v H'
def TP (X : Cx) (pins : List (Addr × Obj)) (σ : St) (Q : Bool → Hp → Prop) (b : Bool) (s' : Shared) : Prop := ∃ H', Inv X pins σ H' s' ∧ Q b H'
def AP (X : Cx) (pins : List (Addr × Obj)) (σ : St) (Q : List V → Hp → Prop) (us : List Value) (s' : Shared) : Prop := ∃ vs H', Inv X pins σ H' s' ∧ Vals vs us ∧ Q vs H'
def SP (X : Cx) (pins : List (Addr × Obj)) (D : Ends) (f : Flow) (s' : Shared) : Prop :=
  match f with
  | .next => ∃ σ' H', Inv X pins σ' H' s' ∧ D.nx σ' H'
  | .brk => ∃ σ' H', Inv X pins σ' H' s' ∧ D.bk σ' H'
  | .cont => ∃ σ' H', Inv X pins σ' H' s' ∧ D.ct σ' H'
  | .ret u => ∃ v σ' H', Inv X pins σ' H' s' ∧ RelV v u ∧ D.rt v H'

def PE (X : Cx) (e : Expr) (t : TE) : Prop :=
  ∀ (pins : List (Addr × Obj)) (s : Shared) (σ : St) (H : Hp) (Q : VK), Inv X pins σ H s → t σ H Q → wpAny (model X.prog X.w) X.A (eval e X.env) (EP X pins σ Q) X.xe s
def PT (X : Cx) (e : Expr) (t : TT) : Prop :=
  ∀ (pins : List (Addr × Obj)) (s : Shared) (σ : St) (H : Hp) (Q : Bool → Hp → Prop), Inv X pins σ H s → t σ H Q → wpAny (model X.prog X.w) X.A (isTrue e X.env (eval e X.env)) (TP X pins σ Q) X.xe s

def PW (X : Cx) (e : Expr) (t : TT) : Prop :=
  ∀ (whole : Sem Value) (pins : List (Addr × Obj)) (s : Shared) (σ : St) (H : Hp) (Q : Bool → Hp → Prop), Inv X pins σ H s → t σ H Q → wpAny (model X.prog X.w) X.A (isTrue e X.env whole) (TP X pins σ Q) X.xe s
theorem PW.pt {X : Cx} {e : Expr} {t : TT} (h : PW X e t) : PT X e t := h _

def PA (X : Cx) (es : List Expr) (t : TA) : Prop :=
  ∀ (pos : Pos) (pins : List (Addr × Obj)) (s : Shared) (σ : St) (H : Hp) (Q : List V → Hp → Prop), Inv X pins σ H s → t σ H Q → wpAny (model X.prog X.w) X.A (spliced (backTo pos (starEach es X.env))) (AP X pins σ Q) X.xe s
def PS (X : Cx) (st : Stmt) (t : TS) : Prop :=
  ∀ (pins : List (Addr × Obj)) (s : Shared) (σ : St) (H : Hp) (D : Ends), Inv X pins σ H s → t D σ H → wpAny (model X.prog X.w) X.A (exec st X.env) (SP X pins D) X.xe s
def PSs (X : Cx) (st : List Stmt) (t : TS) : Prop :=
  ∀ (pins : List (Addr × Obj)) (s : Shared) (σ : St) (H : Hp) (D : Ends), Inv X pins σ H s → t D σ H → wpAny (model X.prog X.w) X.A (execs st X.env) (SP X pins D) X.xe s

theorem thn {α : Type} {t : Sem α} {Q Q' : α → Shared → Prop} {M : Model} {A : Around} {E : Value → Shared → Prop} {s : Shared} (h : wpAny M A t Q E s) (hQ : ∀ a s, Q a s → Q' a s) : wpAny M A t Q' E s := wpAny_mono h hQ fun _ _ x => x
end L2

namespace L2
open PySem PySem.Spec PyProof.Rows
section
variable {X : Cx}


def tVar (i : Nat) : TE := fun σ H Q => ∃ v, σ[i]? = some (some v) ∧ Q v H
def tC (v : V) : TE := fun _ H Q => Q v H
theorem pe_var {i : Nat} {x : Str} {pos : Pos} (hN : X.N[i]? = some x) (hv : Vis X.env.scope x) (hd : (x == ("__debug__" : Str)) = false := by decide) (hcd : (x == ("__classdict__" : Str)) = false := by decide) : PE X (.Name x pos) (tVar i) := by
  intro pins s σ H Q I h
  obtain ⟨v, e, h⟩ := h
  obtain ⟨m, hn, hl⟩ := I.loc
  obtain ⟨u, r, l⟩ := hl i x v hN e hv
  have fin : EP X pins σ Q u s := ⟨v, H, I, r, h⟩
  rcases l with ⟨hk, hm⟩ | ⟨hk, c, hc, hcell⟩
  · exact wpAny_Name (wpAny_loadName_local I.ok.kind hk hn hm fin) hd
  · rcases hk with hk | hk
    · exact wpAny_Name (wpAny_loadName_cell I.ok.kind hk hc hcell fin) hd
    · exact wpAny_Name (wpAny_loadName_free I.ok.kind hk hc hcell fin hcd) hd
theorem pe_int {i j pos} : PE X (.Constant (.int i) j pos) (tC (.int i)) := fun _ _ _ H _ I h => wpAny_Constant_int ⟨.int i, H, I.tok _, ⟨_, rfl⟩, h⟩
theorem pe_bl {b j pos} : PE X (.Constant (.bool b) j pos) (tC (.bl b)) := fun _ _ _ H _ I h => Constant_bool ⟨.bl b, H, I, rfl, h⟩
theorem pe_non {j pos} : PE X (.Constant .none j pos) (tC .non) := fun _ _ _ H _ I h => Constant_none ⟨.non, H, I, rfl, h⟩
theorem pe_str {x j pos} : PE X (.Constant (.str x) j pos) (tC (.str x)) := fun _ _ _ H _ I h => Calls.Constant_str ⟨.str x, H, I.tok _, ⟨_, rfl⟩, h⟩


def Gl (X : Cx) (x : Str) : Prop := X.env.kindOf x = some .globalImplicit
theorem ld_glob {E : Value → Shared → Prop} {pins : List (Addr × Obj)} {s : Shared} {σ : St} {H : Hp} {x : Str} {u : Value} {pos : Pos} {Q : Value → Shared → Prop} (I : Inv X pins σ H s) (hg : Gl X x) (hm : X.mg x = some u) (h : Q u s)
    (hd : (x == ("__debug__" : Str)) = false := by decide) : wpAny (model X.prog X.w) X.A (eval (.Name x pos) X.env) Q E s :=
  Calls.Name_function_global I.ok.kind hg (Calls.loadGlobal_global (by rw [I.ok.glob]; exact I.mod.glob.keeps I.bk) hm h) hd
theorem ld_blt {E : Value → Shared → Prop} {pins : List (Addr × Obj)} {s : Shared} {σ : St} {H : Hp} {x : Str} {u : Value} {pos : Pos} {Q : Value → Shared → Prop} (I : Inv X pins σ H s) (hg : Gl X x) (hm : X.mg x = none) (hv : bootBuiltins x = some u) (h : Q u s)
    (hn : x ≠ "__name__" := by decide) (hd : (x == ("__debug__" : Str)) = false := by decide) : wpAny (model X.prog X.w) X.A (eval (.Name x pos) X.env) Q E s := by
  obtain ⟨mb, h1, h2⟩ := I.mod.blt
  exact Calls.Name_function_global I.ok.kind hg (Calls.loadGlobal_builtin (by rw [I.ok.glob]; exact I.mod.glob.keeps I.bk) hm (by rw [I.ok.blt]; exact h1.keeps I.bk) ((h2 x hn).trans hv) h) hd

theorem pe_glob {x : Str} {v : V} {u : Value} {pos : Pos} (hg : Gl X x) (hm : X.mg x = some u) (r : RelV v u) (hd : (x == ("__debug__" : Str)) = false := by decide) : PE X (.Name x pos) (tC v) :=
  fun _ _ _ H _ I h => ld_glob I hg hm ⟨v, H, I, r, h⟩ hd
theorem pe_bltn {x : Str} {v : V} {u : Value} {pos : Pos} (hg : Gl X x) (hm : X.mg x = none) (hv : bootBuiltins x = some u) (r : RelV v u) (hn : x ≠ "__name__" := by decide) (hd : (x == ("__debug__" : Str)) = false := by decide) : PE X (.Name x pos) (tC v) :=
  fun _ _ _ H _ I h => ld_blt I hg hm hv ⟨v, H, I, r, h⟩ hn hd



variable {a b : Expr} {ta tb : TE} {pos : Pos}
variable {tA tB' : TT} {rest : List Expr}
def tOr (t u : TT) : TT := fun σ H Q => t σ H fun c H1 => if c = true then Q true H1 else u σ H1 Q
def tNot (t : TT) : TT := fun σ H Q => t σ H fun c H1 => Q (!c) H1
theorem pw_or1 (ha : PT X a tA) : PW X (.BoolOp .Or [a] pos) tA := by
  intro wh pins s σ H Q I h
  refine isTrue_or (thn (ha pins s σ H Q I h) fun c s1 e => ?_)
  cases c with
  | false => exact isTrue_or_nil e
  | true => exact e
theorem pw_or (ha : PT X a tA) (hb : PW X (.BoolOp .Or (b :: rest) pos) tB') : PW X (.BoolOp .Or (a :: b :: rest) pos) (tOr tA tB') := by
  intro wh pins s σ H Q I h
  refine isTrue_or (thn (ha pins s σ H _ I h) fun c s1 ⟨H1, I1, q1⟩ => ?_)
  cases c with
  | true => exact ⟨H1, I1, q1⟩
  | false => exact hb wh pins s1 σ H1 Q I1 q1
theorem pt_not (ha : PT X a tA) : PT X (.UnaryOp .Not a pos) (tNot tA) := by
  intro pins s σ H Q I h
  exact isTrue_not (ha pins s σ H (fun c H1 => Q (!c) H1) I h)

def tAndV (ta tb : TE) : TE := fun σ H Q => ta σ H fun x H1 => ∃ c, x = .bl c ∧ if c = true then tb σ H1 Q else Q (.bl false) H1
def tNotV (ta : TE) : TE := fun σ H Q => ta σ H fun x H1 => ∃ c, x = .bl c ∧ Q (.bl (!c)) H1
theorem pe_one {op} {t : TE} (h : PE X a t) : PE X (.BoolOp op [a] pos) t := fun pins s σ H Q I hw => BoolOp_one (h pins s σ H Q I hw)
theorem pe_and (ha : PE X a ta) (hb : PE X (.BoolOp .And (b :: rest) pos) tb) : PE X (.BoolOp .And (a :: b :: rest) pos) (tAndV ta tb) := by
  intro pins s σ H Q I h
  refine BoolOp_and (thn (ha pins s σ H _ I h) fun v s1 ⟨x, H1, I1, r1, q1⟩ => ?_)
  obtain ⟨c, rfl, q1⟩ := q1
  cases r1
  refine wpAny_truthy_bool ?_
  cases c with
  | true => exact hb pins s1 σ H1 Q I1 q1
  | false => exact ⟨.bl false, H1, I1, rfl, q1⟩
theorem pe_not (ha : PE X a ta) : PE X (.UnaryOp .Not a pos) (tNotV ta) := by
  intro pins s σ H Q I h
  refine UnaryOp_ (thn (ha pins s σ H _ I h) fun v s1 ⟨x, H1, I1, r1, q1⟩ => ?_)
  obtain ⟨c, rfl, q1⟩ := q1
  cases r1
  exact not_of (wpAny_truthy_bool ⟨.bl (!c), H1, I1, rfl, q1⟩)

def tIf (t : TT) (ta tb : TE) : TE := fun σ H Q => t σ H fun c H1 => if c = true then ta σ H1 Q else tb σ H1 Q
theorem pe_ifExp {c : Expr} (hc : PT X c tA) (ha : PE X a ta) (hb : PE X b tb) : PE X (.IfExp c a b pos) (tIf tA ta tb) := by
  intro pins s σ H Q I h
  refine wpAny_IfExp (thn (hc pins s σ H _ I h) fun d s1 ⟨H1, I1, q1⟩ => ?_)
  cases d with
  | true => exact ha pins s1 σ H1 Q I1 q1
  | false => exact hb pins s1 σ H1 Q I1 q1
end
end L2

namespace L2
open PySem PySem.Spec PyProof.Rows


def SqL (K : PySem.W.Frag) (H : Hp) (a : Addr) (xs : List V) : Prop :=
  Rd H a (.lst xs) ∨
    ∃ (o : Obj) (its : Array Value) (n : Nat), K.lookup a = some o ∧ o.cls = .type "list" ∧ o.dict = none ∧ o.data = .seq its n ∧ its.size ≤ sizeLine ∧ Vals xs its.toList
def SqT (K : PySem.W.Frag) (H : Hp) (a : Addr) (xs : List V) : Prop :=
  Rd H a (.tup xs) ∨
    ∃ (o : Obj) (its : Array Value) (n : Nat), K.lookup a = some o ∧ o.cls = .type "tuple" ∧ o.data = .seq its n ∧ its.size ≤ sizeLine ∧ Vals xs its.toList
def absV : Value → Option V
  | .none => some .non
  | .bool b => some (.bl b)
  | .int i _ => some (.int i)
  | .str x _ => some (.str x)
  | .bytes b _ => some (.byt b)
  | .float b _ => some (.flt b)
  | .ref a => some (.ref a)
  | .type n => some (.ty n)
  | _ => none
theorem RelV.abs {x : V} {u : Value} (r : RelV x u) : absV u = some x := by
  cases x with
  | non => cases r; rfl
  | bl _ => cases r; rfl
  | int _ => obtain ⟨t, rfl⟩ := r; rfl
  | str _ => obtain ⟨t, rfl⟩ := r; rfl
  | byt _ => obtain ⟨t, rfl⟩ := r; rfl
  | flt _ => obtain ⟨t, rfl⟩ := r; rfl
  | ref _ => cases r; rfl
  | ty _ => cases r; rfl
theorem RelV.inj {x y : V} {u : Value} (r : RelV x u) (q : RelV y u) : x = y := Option.some.inj (r.abs.symm.trans q.abs)
theorem Vals.inj : ∀ {xs ys : List V} {us : List Value}, Vals xs us → Vals ys us → xs = ys
  | _, _, _, .nil, .nil => rfl
  | _, _, _, .cons r t, .cons r' t' => by rw [r.inj r', Vals.inj t t']
section
variable {X : Cx} {pins : List (Addr × Obj)} {σ : St} {H : Hp} {s : Shared} {a : Addr} {xs ys : List V}
theorem SqL.of {K : PySem.W.Frag} (h : H a = some (.lst xs)) : SqL K H a xs := .inl (.inl h)
theorem SqT.of {K : PySem.W.Frag} (h : H a = some (.tup xs)) : SqT K H a xs := .inl (.inl h)
theorem Inv.list (I : Inv X pins σ H s) (h : SqL X.K H a xs) : ∃ its : List Value, Vals xs its ∧ PlainL s.heap a its.toArray ∧ xs.length ≤ sizeLine := by
  rcases h with h | ⟨o, its, n, hk, hc, hd, hs, hz, r⟩
  · obtain ⟨z, its, n, r, e⟩ := h.ok I.hok
    exact ⟨its, r, ⟨_, n, e, rfl, rfl, rfl⟩, z⟩
  · refine ⟨its.toList, r, ⟨o, n, I.kIn a o hk, hc, hd, by simpa using hs⟩, ?_⟩
    have e := r.length
    simp only [Array.length_toList] at e
    omega
theorem Inv.tuple (I : Inv X pins σ H s) (h : SqT X.K H a xs) : ∃ its : List Value, Vals xs its ∧ IsTup s.heap a its.toArray ∧ xs.length ≤ sizeLine := by
  rcases h with h | ⟨o, its, n, hk, hc, hs, hz, r⟩
  · obtain ⟨z, its, r, p⟩ := h.ok I.hok
    exact ⟨its, r, p, z⟩
  · refine ⟨its.toList, r, ⟨o, I.kIn a o hk, hc, n, by simpa using hs⟩, ?_⟩
    have e := r.length
    simp only [Array.length_toList] at e
    omega
theorem Inv.list_inj (I : Inv X pins σ H s) (h : SqL X.K H a xs) (h' : SqL X.K H a ys) : xs = ys := by
  obtain ⟨its, r, ⟨o, n, e, _, _, d⟩, _⟩ := I.list h
  obtain ⟨its', r', ⟨o', n', e', _, _, d'⟩, _⟩ := I.list h'
  rw [e] at e'; cases e'
  rw [d] at d'
  injection d' with d1 _
  have : its = its' := by simpa using congrArg Array.toList d1
  subst this
  exact r.inj r'
theorem Inv.tuple_inj (I : Inv X pins σ H s) (h : SqT X.K H a xs) (h' : SqT X.K H a ys) : xs = ys := by
  obtain ⟨its, r, ⟨o, e, _, n, d⟩, _⟩ := I.tuple h
  obtain ⟨its', r', ⟨o', e', _, n', d'⟩, _⟩ := I.tuple h'
  rw [e] at e'; cases e'
  rw [d] at d'
  injection d' with d1 _
  have : its = its' := by simpa using congrArg Array.toList d1
  subst this
  exact r.inj r'
end


abbrev Cx.wish (X : Cx) (E : Value → Shared → Prop) : Cx := { X with xe := E }

abbrev Cx.nox (X : Cx) : Cx := X.wish fun _ _ => False
theorem Cx.Ok.wish {X : Cx} (ok : X.Ok) (E : Value → Shared → Prop) : (X.wish E).Ok :=
  ⟨ok.mod, ok.kind, ok.glob, ok.blt, ok.above, ok.inj, ok.has, ok.cab, ok.hd, ok.frames, ok.stk, ok.exf, ok.bs, ok.bsz, ok.noex, ok.exfs, ok.funs, ok.frf⟩
theorem Cx.Ok.unwish {X : Cx} {E : Value → Shared → Prop} (ok : (X.wish E).Ok) : X.Ok :=
  ⟨ok.mod, ok.kind, ok.glob, ok.blt, ok.above, ok.inj, ok.has, ok.cab, ok.hd, ok.frames, ok.stk, ok.exf, ok.bs, ok.bsz, ok.noex, ok.exfs, ok.funs, ok.frf⟩
section
variable {X : Cx} {pins : List (Addr × Obj)} {σ : St} {H : Hp} {s : Shared} {E : Value → Shared → Prop}
theorem Inv.wish (I : Inv X pins σ H s) (E : Value → Shared → Prop) : Inv (X.wish E) pins σ H s := ⟨I.ok.wish E, I.os, I.bare, I.base, I.loc, I.cell, I.free, I.freeC, I.pin, I.hok, I.len⟩
theorem Inv.unwish (I : Inv (X.wish E) pins σ H s) : Inv X pins σ H s := ⟨I.ok.unwish, I.os, I.bare, I.base, I.loc, I.cell, I.free, I.freeC, I.pin, I.hok, I.len⟩
theorem SP.unwish {D : Ends} {f : Flow} {s' : Shared} (h : SP (X.wish E) pins D f s') : SP X pins D f s' := by
  cases f with
  | next => obtain ⟨σ', H', I, q⟩ := h; exact ⟨σ', H', I.unwish, q⟩
  | brk => obtain ⟨σ', H', I, q⟩ := h; exact ⟨σ', H', I.unwish, q⟩
  | cont => obtain ⟨σ', H', I, q⟩ := h; exact ⟨σ', H', I.unwish, q⟩
  | ret u => obtain ⟨v, σ', H', I, r, q⟩ := h; exact ⟨v, σ', H', I.unwish, r, q⟩
theorem PT.nox {e : Expr} {t : TT} (h : PT X.nox e t) : PT X e t := fun pins s σ H Q I hw =>
  wpAny_mono (h pins s σ H Q (I.wish _) hw) (fun _ _ ⟨H', I', q⟩ => ⟨H', I'.unwish, q⟩) fun _ _ z => False.elim z
theorem PSs.nox {st : List Stmt} {t : TS} (h : PSs X.nox st t) : PSs X st t := fun pins s σ H D I hw =>
  wpAny_mono (h pins s σ H D (I.wish _) hw) (fun _ _ q => q.unwish) fun _ _ z => False.elim z
end


section
variable {X : Cx} {st : Stmt} {rest : List Stmt} {t u : TS} {e : Expr} {te : TE} {pos : Pos}
def tNext : TS := fun D σ H => D.nx σ H
def tSeq (t u : TS) : TS := fun D σ H => t { D with nx := u D } σ H
theorem pss_nil : PSs X [] tNext := fun _ _ σ H _ I h => wpAny_execs_nil ⟨σ, H, I, h⟩
theorem pss_cons (h1 : PS X st t) (h2 : PSs X rest u) : PSs X (st :: rest) (tSeq t u) := by
  intro pins s σ H D I h
  refine wpAny_execs_cons (thn (h1 pins s σ H { D with nx := u D } I h) fun f s1 q => ?_)
  cases f with
  | next =>
    obtain ⟨σ', H', I', q⟩ := q
    exact h2 pins s1 σ' H' D I' q
  | ret v => exact q
  | brk => exact q
  | cont => exact q
theorem pss_one (h1 : PS X st t) : PSs X [st] t := by
  intro pins s σ H D I h
  refine wpAny_execs_cons (thn (h1 pins s σ H D I h) fun f s1 q => ?_)
  cases f with
  | next => exact wpAny_execs_nil q
  | ret v => exact q
  | brk => exact q
  | cont => exact q
theorem Inv.quiet {pins : List (Addr × Obj)} {σ : St} {H : Hp} {s : Shared} (I : Inv X pins σ H s) : interactive X.env = false := by simp [interactive, I.ok.kind]

def tDrop (te : TE) : TS := fun D σ H => te σ H fun _ H1 => D.nx σ H1
theorem ps_expr (he : PE X e te) (hs : swapsWith e none pos.line X.env = pure false := by rfl) : PS X (.Expr e pos) (tDrop te) := by
  intro pins s σ H D I h
  exact wpAny_Expr_any (thn (he pins s σ H _ I h) fun v s1 ⟨x, H1, I1, r1, q1⟩ => ⟨σ, H1, I1, q1⟩) I.quiet hs
def tRet (te : TE) : TS := fun D σ H => te σ H D.rt
theorem ps_ret (he : PE X e te) : PS X (.Return (some e) pos) (tRet te) := by
  intro pins s σ H D I h
  exact wpAny_Return_some (thn (he pins s σ H _ I h) fun v s1 ⟨x, H1, I1, r1, q1⟩ => ⟨x, σ, H1, I1, r1, q1⟩)
def tIfS (c : TT) (t u : TS) : TS := fun D σ H => c σ H fun b H1 => if b = true then t D σ H1 else u D σ H1
theorem ps_if {c : Expr} {a b : List Stmt} {tc : TT} (hc : PT X c tc) (ha : PSs X a t) (hb : PSs X b u) : PS X (.If c a b pos) (tIfS tc t u) := by
  intro pins s σ H D I h
  refine wpAny_If (thn (hc pins s σ H _ I h) fun d s1 ⟨H1, I1, q1⟩ => ?_)
  cases d with
  | true => exact ha pins s1 σ H1 D I1 q1
  | false => exact hb pins s1 σ H1 D I1 q1

def tNever : TS := fun _ _ _ => False
theorem ps_never : PS X st tNever := fun _ _ _ _ _ _ h => h.elim
end


abbrev TG := V → St → Hp → (St → Hp → Prop) → Prop
abbrev TGs := List V → St → Hp → (St → Hp → Prop) → Prop
def PG (X : Cx) (target : Expr) (t : TG) : Prop :=
  ∀ (pins : List (Addr × Obj)) (s : Shared) (σ : St) (H : Hp) (v : V) (u : Value) (Q : St → Hp → Prop), Inv X pins σ H s → RelV v u → t v σ H Q →
    wpAny (model X.prog X.w) X.A (assign target X.env u) (fun _ s' => ∃ σ' H', Inv X pins σ' H' s' ∧ Q σ' H') X.xe s

def PGs (X : Cx) (ts : List Expr) (t : TGs) : Prop :=
  ∀ (pins : List (Addr × Obj)) (s : Shared) (σ : St) (H : Hp) (vs : List V) (us : List Value) (Q : St → Hp → Prop), Inv X pins σ H s → Vals vs us → t vs σ H Q →
    wpAny (model X.prog X.w) X.A (assignInOrder ((assignEach ts X.env).map (·.2)) us) (fun _ s' => ∃ σ' H', Inv X pins σ' H' s' ∧ Q σ' H') X.xe s

section
variable {X : Cx} {pos : Pos}
def gName (i : Nat) : TG := fun v σ H Q => Q (σ.set i (some v)) H
theorem pg_name {i : Nat} {x : Str} (hN : X.N.Nodup) (hi : X.N[i]? = some x) (hx : Loc X.env.scope x) (hf : X.fn x = true ∨ X.env.scope.names.lookup x = some .local := by first | exact .inl rfl | exact .inr rfl | assumption) : PG X (.Name x pos) (gName i) := by
  intro pins s σ H v u Q I r h
  exact wpAny_assign_Name (store_ok I hN hi hx r (fun s' I' => ⟨_, H, I', h⟩) hf)
def gNil : TGs := fun vs σ H Q => vs = [] ∧ Q σ H
def gCons (t : TG) (u : TGs) : TGs := fun vs σ H Q => ∃ v r, vs = v :: r ∧ t v σ H fun σ' H' => u r σ' H' Q
theorem pgs_nil : PGs X [] gNil := by
  intro pins s σ H vs us Q I r h
  obtain ⟨e, h⟩ := h
  subst e
  cases r
  exact assignInOrder_nil ⟨σ, H, I, h⟩
theorem pgs_cons {e : Expr} {es : List Expr} {t : TG} {u : TGs} (h1 : PG X e t) (h2 : PGs X es u)
    (hs : (assignEach (e :: es) X.env).map (·.2) = assign e X.env :: (assignEach es X.env).map (·.2) := by rfl) : PGs X (e :: es) (gCons t u) := by
  intro pins s σ H vs us Q I r h
  obtain ⟨v, vr, e1, h⟩ := h
  subst e1
  cases r with
  | cons r rr =>
    rw [hs]
    refine assignInOrder_cons (thn (h1 pins s σ H _ _ _ I r h) fun _ s1 ⟨σ1, H1, I1, q1⟩ => ?_)
    exact h2 pins s1 σ1 H1 _ _ Q I1 rr q1

def gTup (K : PySem.W.Frag) (n : Nat) (t : TGs) : TG := fun v σ H Q => ∃ a xs, v = .ref a ∧ SqT K H a xs ∧ xs.length = n ∧ t xs σ H Q
theorem pg_tup {es : List Expr} {k : Nat} {t : TGs} {n : Nat} (hc : X.calm = true) (h : PGs X es t)
    (hn : (assignEach es X.env).length = n := by rfl) (hst : (assignEach es X.env).findIdx? (·.1) = none := by rfl) : PG X (.Tuple es k pos) (gTup X.K n t) := by
  intro pins s σ H v u Q I r hw
  obtain ⟨a, xs, e1, hq, hl, hw⟩ := hw
  subst e1
  cases r
  obtain ⟨its, rv, ht, hz⟩ := I.tuple hq
  refine assign_Tuple_tuple (I.ok.hd hc) ht (by simp [hn, ← hl, rv.length]) hst fun h' hx => ?_
  have I1 : Inv X pins σ H { s with heap := h' } := I.kept (t' := s.toks) fun b o e => hx b o (Nat.ne_of_lt (Heap.lt_size e)) e
  exact h pins _ σ H xs _ Q I1 (by simpa using rv) hw

def tAsg (te : TE) (g : TG) : TS := fun D σ H => te σ H fun x H1 => g x σ H1 D.nx
theorem ps_set {i : Nat} {x : Str} {e : Expr} {te : TE} {pos' : Pos} (hN : X.N.Nodup) (hi : X.N[i]? = some x) (hx : Loc X.env.scope x) (he : PE X e te) (hs : swapsWith e (some (.Name x pos')) pos.line X.env = pure false := by rfl) (hf : X.fn x = true ∨ X.env.scope.names.lookup x = some .local := by first | exact .inl rfl | exact .inr rfl | assumption) :
    PS X (.Assign [.Name x pos'] e pos) (tAsg te (gName i)) := by
  intro pins s σ H D I h
  refine wpAny_Assign_Name (thn (he pins s σ H _ I h) fun v s1 ⟨y, H1, I1, r1, q1⟩ => ?_) hs
  exact store_ok I1 hN hi hx r1 (fun s2 I2 => ⟨_, H1, I2, q1⟩) hf

end


section
variable {X : Cx} {pos : Pos}

end



structure It where
  go : Nat → Hp → Prop
  yld : Nat → Hp → V → Hp → Prop
  stop : Nat → Hp → Prop

def FpOk (X : Cx) (pins : List (Addr × Obj)) (H : Hp) (b : Addr) : Prop :=
  H b = none ∧ b ≠ X.env.locals ∧ b ∉ X.fs ∧ (b ∈ X.ex ∨ X.s₀.heap.objs.size ≤ b) ∧ (∀ x c, X.env.cells.lookup x = some c → c ≠ b) ∧ ∀ p ∈ X.pn ++ pins, p.1 ≠ b
theorem Inv.fpOk {X : Cx} {pins : List (Addr × Obj)} {σ : St} {H H' : Hp} {s : Shared} {b : Addr} (I : Inv X pins σ H s) (hb : s.heap.objs.size ≤ b) (hn : H' b = none) : FpOk X pins H' b := by
  refine ⟨hn, Nat.ne_of_gt (Nat.lt_of_lt_of_le I.lt hb), I.nofs hb, .inr (Nat.le_trans I.sz hb), fun x c e z => ?_, fun p hp z => ?_⟩
  · obtain ⟨v, q⟩ := I.cell x c e
    exact absurd (Nat.lt_of_lt_of_le q.lt (by rw [z]; exact hb)) (Nat.lt_irrefl _)
  · exact absurd (Nat.lt_of_lt_of_le (Heap.lt_size (I.pin p hp).1) (by rw [z]; exact hb)) (Nat.lt_irrefl _)
structure Turn (P : Program) (w : World) (K : PySem.W.Frag) (tg : Expr) (J : It) (fp : List Addr) (it : Addr) (tn : Nat → Heap → Prop) : Prop where
  mem : it ∈ fp
  obj : ∀ i h, tn i h → ∀ b ∈ fp, ∃ o, h.get? b = some o ∧ ∀ v, o.data ≠ .cell v
  keep : ∀ i h h', tn i h → (∀ b ∈ fp, ∀ o, h.get? b = some o → h'.get? b = some o) → tn i h'
  item : ∀ (X : Cx), X.prog = P → X.w = w → X.K = K → X.calm = true → ∀ (i : Nat) (pins : List (Addr × Obj)) (s : Shared) (σ : St) (H : Hp) (E : Value → Shared → Prop), Inv X pins σ H s → (∀ b ∈ fp, FpOk X pins H b) → tn i s.heap → J.go i H →
    wpAny (model P w) X.A (pyNext (.ref it)) (fun r s1 => ∃ u, r = some u ∧
      wpAny (model P w) X.A (letOwnedTupleGo tg (.ref it) u) (fun _ s2 => ∃ x H', Inv X pins σ H' s2 ∧ RelV x u ∧ J.yld i H x H' ∧ tn (i + 1) s2.heap ∧ ∀ b ∈ fp, H' b = none) E s1) E s
  done : ∀ (X : Cx), X.prog = P → X.w = w → X.K = K → X.calm = true → ∀ (i : Nat) (pins : List (Addr × Obj)) (s : Shared) (σ : St) (H : Hp) (E : Value → Shared → Prop), Inv X pins σ H s → (∀ b ∈ fp, FpOk X pins H b) → tn i s.heap → J.stop i H →
    wpAny (model P w) X.A (pyNext (.ref it)) (fun r s1 => r = none ∧ Inv X pins σ H s1) E s
  self : ∀ (A : Around) (i : Nat) (s : Shared) (Q : Value → Shared → Prop) (E : Value → Shared → Prop), tn i s.heap → Q (.ref it) s → wpAny (model P w) A (pyIter (.ref it)) Q E s
abbrev TI := St → Hp → (It → Hp → Prop) → Prop

def PIE (X : Cx) (pins : List (Addr × Obj)) (σ : St) (tg : Expr) (R : It → Hp → Prop) (itv : Value) (s2 : Shared) : Prop :=
  ∃ (it : Addr) (fp : List Addr) (tn : Nat → Heap → Prop) (J : It) (H' : Hp), itv = .ref it ∧ Inv X pins σ H' s2 ∧ Turn X.prog X.w X.K tg J fp it tn ∧ tn 0 s2.heap ∧ (∀ b ∈ fp, FpOk X pins H' b) ∧ R J H'
def PI (X : Cx) (tg iter : Expr) (wi : TI) : Prop :=
  ∀ (pins : List (Addr × Obj)) (s : Shared) (σ : St) (H : Hp) (R : It → Hp → Prop), Inv X pins σ H s → wi σ H R →
    wpAny (model X.prog X.w) X.A (eval iter X.env) (fun v s1 => wpAny (model X.prog X.w) X.A (pyIter v) (PIE X pins σ tg R) X.xe s1) X.xe s


theorem go_of {M : Model} {A : Around} {E : Value → Shared → Prop} {s : Shared} {tg : Expr} {it : Addr} {u : Value} {o : Obj} {n : String} {vs : Array Value} {Q : Unit → Shared → Prop} (ho : s.heap.get? it = some o) (hc : o.cls = .type n) (hd : o.data = .fields vs)
    (hn : ["enumerate", "zip", "dict_itemiterator", "dict_reverseitemiterator", "odict_iterator", "itertools.zip_longest", "itertools.pairwise"].contains n = false) (hQ : Q () s) : wpAny M A (letOwnedTupleGo tg (.ref it) u) Q E s := by
  unfold letOwnedTupleGo
  cases tg <;> first
    | exact wpAny_pure hQ
    | (cases u <;> first
        | exact wpAny_pure hQ
        | (refine wpAny_bind (wpAny_load ho ?_)
           rw [hc, hd]
           show wpAny M A (if (["enumerate", "zip", "dict_itemiterator", "dict_reverseitemiterator", "odict_iterator", "itertools.zip_longest", "itertools.pairwise"].contains n && vs[0]? == some (rawInt _)) = true then _ else _) Q E s
           rw [if_neg (by intro h; rw [hn, Bool.false_and] at h; cases h)]
           exact wpAny_pure hQ))


def Itl (K : PySem.W.Frag) (a : Addr) : It :=
  ⟨fun i H => ∃ xs x, SqL K H a xs ∧ xs[i]? = some x, fun i H x H' => H' = H ∧ ∀ xs, SqL K H a xs → xs[i]? = some x, fun i H => ∃ xs, SqL K H a xs ∧ xs.length ≤ i⟩
def Itt (K : PySem.W.Frag) (a : Addr) : It :=
  ⟨fun i H => ∃ xs x, SqT K H a xs ∧ xs[i]? = some x, fun i H x H' => H' = H ∧ ∀ xs, SqT K H a xs → xs[i]? = some x, fun i H => ∃ xs, SqT K H a xs ∧ xs.length ≤ i⟩

def Itr (lo : Int) (n : Nat) : It := ⟨fun i _ => i < n, fun i H x H' => H' = H ∧ x = .int (lo + i), fun i _ => n ≤ i⟩
theorem turn_list {P : Program} {w : World} {K : PySem.W.Frag} {tg : Expr} (a it : Addr) : Turn P w K tg (Itl K a) [it] it (fun i h => h.IsListIter it a i) where
  mem := by simp
  obj := fun i h st b hb => by
    have e : b = it := by simpa using hb
    subst e
    obtain ⟨o, e, c, d⟩ := st
    exact ⟨o, e, fun v z => by rw [d] at z; cases z⟩
  keep := fun i h h' st k => st.at fun o e => k it (by simp) o e
  item := by
    intro X hP hw hK hc i pins s σ H E I hf st hg
    subst hP hw hK
    obtain ⟨xs, x, hq, hx⟩ := hg
    obtain ⟨its, rv, p, hz⟩ := I.list hq
    obtain ⟨u, hu, ru⟩ := rv.get hx
    obtain ⟨f0, f1, f2, f3, f4, f5⟩ := hf it (by simp)
    refine wpAny_pyNext_list_item st p.isList (x := u) (by simpa using hu) fun h' st' sb => ?_
    have I1 : Inv X pins σ H { s with heap := h' } := I.turned (t' := s.toks) (fun b o hb e => (sb.2 b hb).trans e) f0 f1 f3 f4 f5
    obtain ⟨o, e, c, d⟩ := id st'
    exact ⟨u, rfl, go_of (s := { s with heap := h' }) e c d (by decide) ⟨x, H, I1, ru, ⟨rfl, fun ys hy => by rw [I.list_inj hy hq]; exact hx⟩, st', fun b hb => (hf b hb).1⟩⟩
  done := by
    intro X hP hw hK hc i pins s σ H E I hf st hg
    subst hP hw hK
    obtain ⟨xs, hq, hx⟩ := hg
    obtain ⟨its, rv, p, hz⟩ := I.list hq
    obtain ⟨f0, f1, f2, f3, f4, f5⟩ := hf it (by simp)
    have hl := rv.length
    exact wpAny_pyNext_list_end (I.ok.hd hc) st p.isList (by simp; omega) fun h' eb => ⟨rfl, I.turned (t' := s.toks) (fun b o hb e => eb b o hb e) f0 f1 f3 f4 f5⟩
  self := fun _ _ _ _ _ st h => wpAny_pyIter_listiter st h
theorem turn_tuple {P : Program} {w : World} {K : PySem.W.Frag} {tg : Expr} (a it : Addr) : Turn P w K tg (Itt K a) [it] it (fun i h => h.IsTupleIter it a i) where
  mem := by simp
  obj := fun i h st b hb => by
    have e : b = it := by simpa using hb
    subst e
    obtain ⟨o, e, c, d⟩ := st
    exact ⟨o, e, fun v z => by rw [d] at z; cases z⟩
  keep := fun i h h' st k => st.at fun o e => k it (by simp) o e
  item := by
    intro X hP hw hK hc i pins s σ H E I hf st hg
    subst hP hw hK
    obtain ⟨xs, x, hq, hx⟩ := hg
    obtain ⟨its, rv, p, hz⟩ := I.tuple hq
    obtain ⟨u, hu, ru⟩ := rv.get hx
    obtain ⟨f0, f1, f2, f3, f4, f5⟩ := hf it (by simp)
    refine wpAny_pyNext_tuple_item st (show s.heap.IsTuple a its.toArray from p) (x := u) (by simpa using hu) fun h' st' sb => ?_
    have I1 : Inv X pins σ H { s with heap := h' } := I.turned (t' := s.toks) (fun b o hb e => (sb.2 b hb).trans e) f0 f1 f3 f4 f5
    obtain ⟨o, e, c, d⟩ := id st'
    exact ⟨u, rfl, go_of (s := { s with heap := h' }) e c d (by decide) ⟨x, H, I1, ru, ⟨rfl, fun ys hy => by rw [I.tuple_inj hy hq]; exact hx⟩, st', fun b hb => (hf b hb).1⟩⟩
  done := by
    intro X hP hw hK hc i pins s σ H E I hf st hg
    subst hP hw hK
    obtain ⟨xs, hq, hx⟩ := hg
    obtain ⟨its, rv, p, hz⟩ := I.tuple hq
    obtain ⟨f0, f1, f2, f3, f4, f5⟩ := hf it (by simp)
    have hl := rv.length
    exact wpAny_pyNext_tuple_end (I.ok.hd hc) st (show s.heap.IsTuple a its.toArray from p) (by simp; omega) fun h' eb => ⟨rfl, I.turned (t' := s.toks) (fun b o hb e => eb b o hb e) f0 f1 f3 f4 f5⟩
  self := fun _ _ _ _ _ st h => wpAny_pyIter_tupleiter st h
theorem turn_range {P : Program} {w : World} {K : PySem.W.Frag} {tg : Expr} (it : Addr) (lo : Int) (n : Nat) : Turn P w K tg (Itr lo n) [it] it (fun i h => IsRangeIter h it (lo + (i : Nat) * 1) ((n : Int) - (i : Nat)) 1) where
  mem := by simp
  obj := fun i h st b hb => by
    have e : b = it := by simpa using hb
    subst e
    exact ⟨_, st, fun v z => by
      have z' : Data.fields _ = Data.cell v := z
      cases z'⟩
  keep := fun i h h' st k => k it (by simp) _ st
  item := by
    intro X hP hw hK hc i pins s σ H E I hf st hg
    subst hP hw hK
    obtain ⟨f0, f1, f2, f3, f4, f5⟩ := hf it (by simp)
    have W := Walks.range (prog := X.prog) (w := X.w) (I.ok.hd hc) it lo 1 n
    refine W.item i s _ _ hg st fun v h' tk hv st' kk => ?_
    obtain ⟨t, rfl⟩ := hv
    have I1 : Inv X pins σ H { s with heap := h', toks := tk } := I.turned (fun b o hb e => kk b o (by simpa using hb) e) f0 f1 f3 f4 f5
    refine ⟨_, rfl, go_of (s := { s with heap := h', toks := tk }) (n := "range_iterator") st' rfl rfl (by decide) ⟨.int (lo + i), H, I1, ⟨t, ?_⟩, ⟨rfl, rfl⟩, st', fun b hb => (hf b hb).1⟩⟩
    rw [Int.mul_one]
  done := by
    intro X hP hw hK hc i pins s σ H E I hf st hg
    subst hP hw hK
    obtain ⟨f0, f1, f2, f3, f4, f5⟩ := hf it (by simp)
    exact wpAny_pyNext_range_end (I.ok.hd hc) st (by have : n ≤ i := hg; omega) fun h' eb => ⟨rfl, I.turned (t' := s.toks) (fun b o hb e => eb b o hb e) f0 f1 f3 f4 f5⟩
  self := fun _ _ _ _ _ st h => wpAny_pyIter_rangeiter st h
end L2

namespace L2
open PySem PySem.Spec PyProof.Rows
section
variable {X : Cx} {tg : Expr}
theorem range_it {pins : List (Addr × Obj)} {σ : St} {H : Hp} {s : Shared} {R : It → Hp → Prop} {E : Value → Shared → Prop} {lo hi : Int} {t u v : Tok} {tk : Nat} (I : Inv X pins σ H s) (h1 : -(2 ^ 62) ≤ lo) (h2 : lo < 2 ^ 62) (h3 : -(2 ^ 62) ≤ hi) (h4 : hi < 2 ^ 62)
    (q : R (Itr lo (hi - lo).toNat) H) : wpAny (model X.prog X.w) X.A (pyIter (.ref s.heap.objs.size)) (PIE X pins σ tg R) E { s with heap := s.heap.push { cls := .type "range", data := .fields #[.int lo t, .int hi u, .int 1 v] }, toks := tk } := by
  refine wpAny_pyIter_range (IsRange.new ..) (small_one h1 h2 h3 h4) ?_
  have I1 : Inv X pins σ H { s with heap := s.heap.push { cls := .type "range", data := .fields #[.int lo t, .int hi u, .int 1 v] }, toks := tk } := I.kept fun b o e => Heap.get?_push_of_some _ e
  refine ⟨(s.heap.push { cls := .type "range", data := .fields #[.int lo t, .int hi u, .int 1 v] }).objs.size, [(s.heap.push { cls := .type "range", data := .fields #[.int lo t, .int hi u, .int 1 v] }).objs.size], _, _, H, rfl,
    I1.kept (t' := tk) fun b o e => Heap.get?_push_of_some _ e, turn_range _ lo (hi - lo).toNat, ?_, fun b hb => ?_, q⟩
  · have e1 : lo + ((0 : Nat) : Int) * 1 = lo := by simp
    have e2 : (((hi - lo).toNat : Nat) : Int) - ((0 : Nat) : Int) = Builtin.Range.rangeSize lo hi 1 := by rw [rangeSize_one]; split <;> omega
    show IsRangeIter _ _ (lo + ((0 : Nat) : Int) * 1) ((((hi - lo).toNat : Nat) : Int) - ((0 : Nat) : Int)) 1
    rw [e1, e2]
    exact Heap.get?_push_size _ rfl
  · have e : b = (s.heap.push { cls := .type "range", data := .fields #[.int lo t, .int hi u, .int 1 v] }).objs.size := by simpa using hb
    subst e
    exact I1.fpOk (Nat.le_refl _) (I1.hok.fresh (Nat.le_refl _))
def iRng1 (ta : TA) : TI := fun σ H R => ta σ H fun vs H1 => ∃ j : Int, vs = [.int j] ∧ -(2 ^ 62) ≤ j ∧ j < 2 ^ 62 ∧ R (Itr 0 j.toNat) H1
theorem pi_range1 {a : Expr} {ta : TA} {p pos : Pos} (hg : Gl X "range") (hm : X.mg "range" = none) (ha : PA X [a] ta) (hs : starEach [a] X.env = [(false, eval a X.env)] := by rfl) : PI X tg (.Call (.Name "range" p) [a] [] pos) (iRng1 ta) := by
  intro pins s σ H R I h
  refine Call_ (ld_blt I hg hm boot_range (PyProof.Rows.callWith_type1 (thn (ha pos pins s σ H _ I h) fun us s1 ⟨vs, H1, I1, r1, q1⟩ => ?_) hs rfl))
  obtain ⟨j, e, q1, q2, q⟩ := q1
  subst e
  cases r1 with
  | cons r rr =>
    cases rr
    obtain ⟨t, rfl⟩ := r
    exact call_range_1 (range_it I1 (by omega) (by omega) q1 q2 (by simpa using q))
def tFor (wi : TI) (g : TG) (tb : TS) : TS := fun D σ H => wi σ H fun J H1 => ∃ W : Nat → Nat → St → Hp → Prop, (∃ m, W 0 m σ H1) ∧ ∀ i m σ H, W i m σ H →
  (J.stop i H ∧ D.nx σ H) ∨ (J.go i H ∧ ∃ N : St → Hp → Prop, (∀ σ' H', N σ' H' → ∃ m', m' < m ∧ W (i + 1) m' σ' H') ∧ ∀ x H', J.yld i H x H' → g x σ H' fun σ2 H2 => tb { D with nx := N, ct := N, bk := D.nx } σ2 H2)

def pinsAt (fp : List Addr) (h : Heap) : List (Addr × Obj) := fp.filterMap fun b => (h.get? b).map fun o => (b, o)
theorem mem_pinsAt {fp : List Addr} {h : Heap} {b : Addr} {o : Obj} (hb : b ∈ fp) (e : h.get? b = some o) : (b, o) ∈ pinsAt fp h := List.mem_filterMap.mpr ⟨b, hb, by rw [e]; rfl⟩
theorem of_pinsAt {fp : List Addr} {h : Heap} {p : Addr × Obj} (hp : p ∈ pinsAt fp h) : p.1 ∈ fp ∧ h.get? p.1 = some p.2 := by
  obtain ⟨b, hb, e⟩ := List.mem_filterMap.mp hp
  cases q : h.get? b with
  | none => rw [q] at e; cases e
  | some o =>
    rw [q] at e
    have e' : (b, o) = p := Option.some.inj e
    subst e'
    exact ⟨hb, q⟩
theorem Inv.pinned {pins : List (Addr × Obj)} {σ : St} {H : Hp} {s : Shared} {fp : List Addr} (I : Inv X pins σ H s) (hf : ∀ b ∈ fp, FpOk X pins H b) (ho : ∀ b ∈ fp, ∃ o, s.heap.get? b = some o ∧ ∀ v, o.data ≠ .cell v) : Inv X (pins ++ pinsAt fp s.heap) σ H s :=
  I.pins_of fun p hp => (List.mem_append.mp hp).elim (fun z => I.pin p (List.mem_append_right _ z)) fun z => by
    obtain ⟨hb, e⟩ := of_pinsAt z
    obtain ⟨f0, f1, f2, _⟩ := hf p.1 hb
    obtain ⟨o, e', d⟩ := ho p.1 hb
    rw [e] at e'; cases e'
    exact ⟨e, f0, f1, f2, d⟩
theorem Inv.unpinned {pins pl : List (Addr × Obj)} {σ : St} {H : Hp} {s : Shared} (I : Inv X (pins ++ pl) σ H s) : Inv X pins σ H s := I.pins_of fun p hp => I.pin p (List.mem_append_right _ (List.mem_append_left _ hp))
theorem ps_for {iter : Expr} {body : List Stmt} {wi : TI} {g : TG} {tb : TS} {pos : Pos} (hp : PassesOwn (model X.prog X.w) X.A X.env X.xe) (hc : X.calm = true) (hi : PI X tg iter wi) (hg : PG X tg g) (hb : PSs X body tb)
    (hs : ∀ x, foldedSetIterable iter X.env x = pure x := by intro _; rfl) : PS X (.For tg iter body [] pos) (tFor wi g tb) := by
  intro pins s σ H D I h
  refine wpAny_For (thn (hi pins s σ H _ I h) fun v s1 h1 => thn h1 fun itv s2 h2 => ?_) hs
  obtain ⟨it, fp, tn, J, H2, e, I2, T, st2, f2, W, ⟨m0, w0⟩, turn⟩ := h2
  subst e
  -- what stays true of the iterator's objects through the loop
  have stat : ∀ {H' : Hp}, (∀ b ∈ fp, H' b = none) → ∀ b ∈ fp, FpOk X pins H' b := fun hn b hb => ⟨hn b hb, (f2 b hb).2⟩
  refine codeAny_forLoop_any (fun n s' => ∃ i σ' H', Inv X pins σ' H' s' ∧ tn i s'.heap ∧ (∀ b ∈ fp, H' b = none) ∧ W i n σ' H') ?_ m0 ⟨0, σ, H2, I2, st2, fun b hb => (f2 b hb).1, w0⟩
  rintro n s3 ⟨i, σ3, H3, I3, st3, fr3, w3⟩
  rcases turn i n σ3 H3 w3 with ⟨stop, qn⟩ | ⟨go, N, hN, step⟩
  · refine wpAny_passesOwn hp (thn (T.done X rfl rfl rfl hc i pins s3 σ3 H3 X.xe I3 (stat fr3) st3 stop) fun r s4 ⟨hr, I4⟩ => ?_)
    subst hr
    exact wpAny_execs_nil ⟨σ3, H3, I4, qn⟩
  · refine wpAny_passesOwn hp (thn (T.item X rfl rfl rfl hc i pins s3 σ3 H3 X.xe I3 (stat fr3) st3 go) fun r s4 ⟨u, hr, h4⟩ => ?_)
    subst hr
    refine wpAny_passesOwn hp (thn h4 fun _ s5 ⟨x, H5, I5, r5, y5, st5, fr5⟩ => ?_)
    have I5' := I5.pinned (stat fr5) (T.obj _ _ st5)
    refine wpAny_passesOwn hp (thn (hg _ s5 σ3 H5 x u _ I5' r5 (step x H5 y5)) fun _ s6 ⟨σ6, H6, I6, q6⟩ => ?_)
    refine wpAny_passesOwn hp (thn (hb _ s6 σ6 H6 _ I6 q6) fun f s7 q7 => ?_)
    have again : ∀ {σ7 : St} {H7 : Hp}, Inv X (pins ++ pinsAt fp s5.heap) σ7 H7 s7 → N σ7 H7 → ∃ m, m < n ∧ ∃ i σ' H', Inv X pins σ' H' s7 ∧ tn i s7.heap ∧ (∀ b ∈ fp, H' b = none) ∧ W i m σ' H' := fun {σ7 H7} I7 n7 => by
      obtain ⟨m', hm, w7⟩ := hN σ7 H7 n7
      refine ⟨m', hm, i + 1, σ7, H7, I7.unpinned, T.keep _ _ _ st5 fun b hb o e => (I7.pin (b, o) (List.mem_append_right _ (List.mem_append_right _ (mem_pinsAt hb e)))).1, fun b hb => ?_, w7⟩
      obtain ⟨o, e, d⟩ := T.obj _ _ st5 b hb
      exact (I7.pin (b, o) (List.mem_append_right _ (List.mem_append_right _ (mem_pinsAt hb e)))).2.1
    cases f with
    | next => obtain ⟨σ7, H7, I7, n7⟩ := q7; exact again I7 n7
    | cont => obtain ⟨σ7, H7, I7, n7⟩ := q7; exact again I7 n7
    | brk => obtain ⟨σ7, H7, I7, q7⟩ := q7; exact ⟨σ7, H7, I7.unpinned, q7⟩
    | ret v => obtain ⟨x7, σ7, H7, I7, r7, q7⟩ := q7; exact ⟨x7, σ7, H7, I7.unpinned, r7, q7⟩
end



theorem for_list {K : PySem.W.Frag} {a : Addr} {xs : List V} {g : TG} {tb : TS} {D : Ends} {σ : St} {H : Hp} (Pv : Nat → St → Hp → Prop) (h0 : Pv 0 σ H) (hl : ∀ i σ H, i ≤ xs.length → Pv i σ H → SqL K H a xs)
    (hs : ∀ i x σ H, xs[i]? = some x → Pv i σ H → g x σ H fun σ2 H2 => tb { D with nx := Pv (i + 1), ct := Pv (i + 1), bk := D.nx } σ2 H2) (hd : ∀ σ H, Pv xs.length σ H → D.nx σ H) :
    ∃ W : Nat → Nat → St → Hp → Prop, (∃ m, W 0 m σ H) ∧ ∀ i m σ H, W i m σ H →
      ((Itl K a).stop i H ∧ D.nx σ H) ∨ ((Itl K a).go i H ∧ ∃ N : St → Hp → Prop, (∀ σ' H', N σ' H' → ∃ m', m' < m ∧ W (i + 1) m' σ' H') ∧ ∀ x H', (Itl K a).yld i H x H' → g x σ H' fun σ2 H2 => tb { D with nx := N, ct := N, bk := D.nx } σ2 H2) := by
  refine ⟨fun i m σ H => m = xs.length - i ∧ i ≤ xs.length ∧ Pv i σ H, ⟨xs.length, by simp, Nat.zero_le _, h0⟩, ?_⟩
  rintro i m σ H ⟨rfl, hi, p⟩
  have q := hl i σ H hi p
  by_cases hlt : i < xs.length
  · refine .inr ⟨⟨xs, xs[i], q, by simp [hlt]⟩, Pv (i + 1), fun σ' H' p' => ⟨xs.length - (i + 1), by omega, rfl, hlt, p'⟩, fun x H' y => ?_⟩
    obtain ⟨e, y⟩ := y
    subst e
    exact hs i x σ _ (y xs q) p
  · have e : i = xs.length := by omega
    subst e
    exact .inl ⟨⟨xs, q, Nat.le_refl _⟩, hd σ H p⟩
theorem for_range {lo : Int} {n : Nat} {g : TG} {tb : TS} {D : Ends} {σ : St} {H : Hp} (Pv : Nat → St → Hp → Prop) (h0 : Pv 0 σ H)
    (hs : ∀ i σ H, i < n → Pv i σ H → g (.int (lo + i)) σ H fun σ2 H2 => tb { D with nx := Pv (i + 1), ct := Pv (i + 1), bk := D.nx } σ2 H2) (hd : ∀ σ H, Pv n σ H → D.nx σ H) :
    ∃ W : Nat → Nat → St → Hp → Prop, (∃ m, W 0 m σ H) ∧ ∀ i m σ H, W i m σ H →
      ((Itr lo n).stop i H ∧ D.nx σ H) ∨ ((Itr lo n).go i H ∧ ∃ N : St → Hp → Prop, (∀ σ' H', N σ' H' → ∃ m', m' < m ∧ W (i + 1) m' σ' H') ∧ ∀ x H', (Itr lo n).yld i H x H' → g x σ H' fun σ2 H2 => tb { D with nx := N, ct := N, bk := D.nx } σ2 H2) := by
  refine ⟨fun i m σ H => m = n - i ∧ i ≤ n ∧ Pv i σ H, ⟨n, by simp, Nat.zero_le _, h0⟩, ?_⟩
  rintro i m σ H ⟨rfl, hi, p⟩
  by_cases hlt : i < n
  · refine .inr ⟨hlt, Pv (i + 1), fun σ' H' p' => ⟨n - (i + 1), by omega, rfl, hlt, p'⟩, fun x H' y => ?_⟩
    obtain ⟨e, y⟩ := y
    subst e y
    exact hs i σ _ hlt p
  · have e : i = n := by omega
    subst e
    exact .inl ⟨Nat.le_refl _, hd σ H p⟩

end L2

namespace L2
open PySem PySem.Spec PyProof.Rows

abbrev R2 := V → V → Hp → VK → Prop

def OpR (X : Cx) (f : Value → Value → Sem Value) (r : R2) : Prop :=
  ∀ (pins : List (Addr × Obj)) (s : Shared) (σ : St) (H : Hp) (x y : V) (v u : Value) (Q : VK), Inv X pins σ H s → RelV x v → RelV y u → r x y H Q →
    wpAny (model X.prog X.w) X.A (f v u) (EP X pins σ Q) X.xe s

def UnR (X : Cx) (f : Value → Sem Value) (r : V → Hp → VK → Prop) : Prop :=
  ∀ (pins : List (Addr × Obj)) (s : Shared) (σ : St) (H : Hp) (x : V) (v : Value) (Q : VK), Inv X pins σ H s → RelV x v → r x H Q →
    wpAny (model X.prog X.w) X.A (f v) (EP X pins σ Q) X.xe s

def CallR (X : Cx) (f : Value) (r : List V → Hp → VK → Prop) : Prop :=
  ∀ (pins : List (Addr × Obj)) (s : Shared) (σ : St) (H : Hp) (xs : List V) (us : List Value) (Q : VK), Inv X pins σ H s → Vals xs us → r xs H Q →
    wpAny (model X.prog X.w) X.A (call f us) (EP X pins σ Q) X.xe s

def TruR (X : Cx) (r : V → Hp → (Bool → Hp → Prop) → Prop) : Prop :=
  ∀ (pins : List (Addr × Obj)) (s : Shared) (σ : St) (H : Hp) (x : V) (v : Value) (Q : Bool → Hp → Prop), Inv X pins σ H s → RelV x v → r x H Q →
    wpAny (model X.prog X.w) X.A (truthy v) (TP X pins σ Q) X.xe s

def tOp (r : R2) (ta tb : TE) : TE := fun σ H Q => ta σ H fun x H1 => tb σ H1 fun y H2 => r x y H2 Q
def tUn (r : V → Hp → VK → Prop) (ta : TE) : TE := fun σ H Q => ta σ H fun x H1 => r x H1 Q

def rI (C : Int → Int → Prop) (g : Int → Int → V) : R2 := fun x y H Q => ∃ i j, x = .int i ∧ y = .int j ∧ C i j ∧ Q (g i j) H
def rI0 (g : Int → Int → V) : R2 := fun x y H Q => ∃ i j, x = .int i ∧ y = .int j ∧ Q (g i j) H
def rU (g : Int → V) : V → Hp → VK → Prop := fun x H Q => ∃ i, x = .int i ∧ Q (g i) H

section
variable {X : Cx} {a b c : Expr} {ta tb tc : TE} {pos : Pos}

theorem binT (ha : PE X a ta) (hb : PE X b tb) {pins : List (Addr × Obj)} {s : Shared} {σ : St} {H : Hp} {R : V → V → Hp → Prop} (I : Inv X pins σ H s)
    (h : ta σ H fun x H1 => tb σ H1 fun y H2 => R x y H2) {Q : Value → Shared → Prop} {f : Value → Value → Sem Value}
    (hf : ∀ v u s2 x y H2, Inv X pins σ H2 s2 → RelV x v → RelV y u → R x y H2 → wpAny (model X.prog X.w) X.A (f v u) Q X.xe s2) :
    wpAny (model X.prog X.w) X.A (eval a X.env) (fun v s₁ => wpAny (model X.prog X.w) X.A (eval b X.env) (fun u s₂ => wpAny (model X.prog X.w) X.A (f v u) Q X.xe s₂) X.xe s₁) X.xe s := by
  refine thn (ha pins s σ H _ I h) fun v s1 ⟨x, H1, I1, r1, q1⟩ => ?_
  refine thn (hb pins s1 σ H1 _ I1 q1) fun u s2 ⟨y, H2, I2, r2, q2⟩ => ?_
  exact hf v u s2 x y H2 I2 r1 r2 q2

theorem pe_op {op : Operator} {r : R2} (ho : OpR X (binaryOp op) r) (ha : PE X a ta) (hb : PE X b tb) : PE X (.BinOp a op b pos) (tOp r ta tb) := by
  intro pins s σ H Q I h
  exact wpAny_BinOp (binT ha hb I h fun v u s2 x y H2 I2 rx ry q => ho pins s2 σ H2 x y v u Q I2 rx ry q)
theorem pe_un {op : UnaryOp} {r : V → Hp → VK → Prop} (ho : UnR X (unaryOp op) r) (ha : PE X a ta) : PE X (.UnaryOp op a pos) (tUn r ta) := by
  intro pins s σ H Q I h
  exact UnaryOp_ (thn (ha pins s σ H _ I h) fun v s1 ⟨x, H1, I1, r1, q1⟩ => ho pins s1 σ H1 x v Q I1 r1 q1)

theorem opI {f : Value → Value → Sem Value} {C : Int → Int → Prop} {g : Int → Int → Int}
    (rule : ∀ (i j : Int) (t u : Tok) (s : Shared) (Q : Value → Shared → Prop) (E : Value → Shared → Prop), C i j → Q (.int (g i j) s.toks) { s with toks := s.toks + 1 } → wpAny (model X.prog X.w) X.A (f (.int i t) (.int j u)) Q E s) :
    OpR X f (rI C fun i j => .int (g i j)) := by
  intro pins s σ H x y v u Q I rx ry h
  obtain ⟨i, j, rfl, rfl, hc, q⟩ := h
  obtain ⟨t, rfl⟩ := rx
  obtain ⟨t', rfl⟩ := ry
  exact rule i j t t' s _ _ hc ⟨.int (g i j), H, I.tok _, ⟨_, rfl⟩, q⟩
theorem opI0 {f : Value → Value → Sem Value} {g : Int → Int → Int}
    (rule : ∀ (i j : Int) (t u : Tok) (s : Shared) (Q : Value → Shared → Prop) (E : Value → Shared → Prop), Q (.int (g i j) s.toks) { s with toks := s.toks + 1 } → wpAny (model X.prog X.w) X.A (f (.int i t) (.int j u)) Q E s) :
    OpR X f (rI0 fun i j => .int (g i j)) := by
  intro pins s σ H x y v u Q I rx ry h
  obtain ⟨i, j, rfl, rfl, q⟩ := h
  obtain ⟨t, rfl⟩ := rx
  obtain ⟨t', rfl⟩ := ry
  exact rule i j t t' s _ _ ⟨.int (g i j), H, I.tok _, ⟨_, rfl⟩, q⟩
theorem opB0 {f : Value → Value → Sem Value} {g : Int → Int → Bool}
    (rule : ∀ (i j : Int) (t u : Tok) (s : Shared) (Q : Value → Shared → Prop) (E : Value → Shared → Prop), Q (.bool (g i j)) s → wpAny (model X.prog X.w) X.A (f (.int i t) (.int j u)) Q E s) :
    OpR X f (rI0 fun i j => .bl (g i j)) := by
  intro pins s σ H x y v u Q I rx ry h
  obtain ⟨i, j, rfl, rfl, q⟩ := h
  obtain ⟨t, rfl⟩ := rx
  obtain ⟨t', rfl⟩ := ry
  exact rule i j t t' s _ _ ⟨.bl (g i j), H, I, rfl, q⟩

def CDiv (i j : Int) : Prop := 0 < j ∧ j < 1073741824
def CMul (i j : Int) : Prop := (-(2 ^ 64) < i ∧ i < 2 ^ 64) ∨ (-(2 ^ 64) < j ∧ j < 2 ^ 64)
theorem CMul.ok {i j : Int} (h : CMul i j) : IntMulOk i j := by
  rcases h with ⟨h1, h2⟩ | ⟨h1, h2⟩
  · exact .of_left (intBits_le_64 h1 h2)
  · exact .of_right (intBits_le_64 h1 h2)
theorem two_pow_nn (k : Nat) : (0 : Int) ≤ 2 ^ k := by
  rw [two_pow_cast]
  exact Int.natCast_nonneg _

theorem op_add : OpR X (binaryOp .Add) (rI0 fun i j => .int (i + j)) := opI0 fun _ _ _ _ _ _ _ q => add_int q
theorem op_sub : OpR X (binaryOp .Sub) (rI0 fun i j => .int (i - j)) := opI0 fun _ _ _ _ _ _ _ q => sub_int q
theorem op_mul : OpR X (binaryOp .Mult) (rI CMul fun i j => .int (i * j)) := opI fun _ _ _ _ _ _ _ hc q => mul_int q hc.ok

theorem op_fdiv : OpR X (binaryOp .FloorDiv) (rI CDiv fun i j => .int (i / j)) := opI fun i j _ _ _ _ _ hc q => by
  have h1 : (0 : Int) < j := hc.1
  have h2 : j < 1073741824 := hc.2
  exact floordiv_int (by omega) (by rw [Int.fdiv_eq_ediv_of_nonneg i (by omega)]; exact q) (.inl (PyProof.noPylong_small (by omega)))
theorem op_mod : OpR X (binaryOp .Mod) (rI (fun _ j => 0 < j) fun i j => .int (i % j)) := opI fun i j _ _ _ _ _ hc q => by
  have h1 : (0 : Int) < j := hc
  exact mod_int' (by omega) (by rw [Int.fmod_eq_emod_of_nonneg i (by omega)]; exact q)
theorem op_shr : OpR X (binaryOp .RShift) (rI (fun _ j => 0 ≤ j) fun i j => .int (i / 2 ^ j.toNat)) := opI fun i j _ _ _ _ _ hc q =>
  rshift_int hc (by rw [Int.fdiv_eq_ediv_of_nonneg i (two_pow_nn _)]; exact q)
theorem op_and : OpR X (binaryOp .BitAnd) (rI0 fun i j => .int (Builtin.bitAnd i j)) := opI0 fun _ _ _ _ _ _ _ q => and_int q
theorem unI {f : Value → Sem Value} {g : Int → Int}
    (rule : ∀ (i : Int) (t : Tok) (s : Shared) (Q : Value → Shared → Prop) (E : Value → Shared → Prop), Q (.int (g i) s.toks) { s with toks := s.toks + 1 } → wpAny (model X.prog X.w) X.A (f (.int i t)) Q E s) :
    UnR X f (rU fun i => .int (g i)) := by
  intro pins s σ H x v Q I rx h
  obtain ⟨i, rfl, q⟩ := h
  obtain ⟨t, rfl⟩ := rx
  exact rule i t s _ _ ⟨.int (g i), H, I.tok _, ⟨_, rfl⟩, q⟩
theorem un_neg : UnR X (unaryOp .USub) (rU fun i => .int (-i)) := unI fun _ _ _ _ _ q => neg_int q
end



def scal : V → V → Bool
  | .non, .non => true | .non, .int _ => true | .int _, .non => true | .non, .bl _ => true | .bl _, .non => true | .non, .str _ => true | .str _, .non => true
  | .int _, .int _ => true | .bl _, .bl _ => true | .str _, .str _ => true | .byt _, .byt _ => true
  | .int _, .str _ => true | .str _, .int _ => true | .bl _, .str _ => true | .str _, .bl _ => true
  | _, _ => false
def rEq : R2 := fun x y H Q => scal x y = true ∧ Q (.bl (decide (x = y))) H
def rNe : R2 := fun x y H Q => scal x y = true ∧ Q (.bl (!decide (x = y))) H

theorem dec_int {i j : Int} : decide (V.int i = V.int j) = (i == j) := by
  rw [Bool.eq_iff_iff]
  simp
theorem dec_bl {i j : Bool} : decide (V.bl i = V.bl j) = (i == j) := by
  rw [Bool.eq_iff_iff]
  simp
theorem dec_str {i j : Str} : decide (V.str i = V.str j) = (i == j) := by
  rw [Bool.eq_iff_iff]
  simp
theorem dec_byt {i j : Array UInt8} : decide (V.byt i = V.byt j) = (i.toList == j.toList) := by
  rw [Bool.eq_iff_iff]
  cases i
  cases j
  simp

section
variable {X : Cx} {a b c : Expr} {ta tb tc : TE} {pos : Pos}
theorem fin_bl {pins : List (Addr × Obj)} {σ : St} {H : Hp} {s : Shared} {Q : VK} {k k' : Bool} (I : Inv X pins σ H s) (q : Q (.bl k) H) (e : k = k') : EP X pins σ Q (.bool k') s := by
  subst e
  exact ⟨.bl k, H, I, rfl, q⟩
theorem op_eq : OpR X (compareOp .Eq) rEq := by
  intro pins s σ H x y v u Q I rx ry h
  obtain ⟨hs, q⟩ := h
  cases x with
  | non =>
    cases rx
    cases y with
    | non => cases ry; exact PySem.EqNone.eq_none_none (fin_bl I q (by simp))
    | bl j => cases ry; exact PySem.EqNone.eq_none_bool (fin_bl I q (by simp))
    | int j => obtain ⟨t', rfl⟩ := ry; exact PySem.EqNone.eq_none_int (fin_bl I q (by simp))
    | str j => obtain ⟨t', rfl⟩ := ry; exact PySem.EqNone.eq_none_str (fin_bl I q (by simp))
    | _ => exact absurd (show false = true from hs) Bool.false_ne_true
  | bl i =>
    cases rx
    cases y with
    | non => cases ry; exact PySem.EqNone.eq_bool_none (fin_bl I q (by simp))
    | bl j => cases ry; exact eq_bool (fin_bl I q dec_bl)
    | str j => obtain ⟨t', rfl⟩ := ry; exact PySem.EqMixed.eq_bool_str (fin_bl I q (by simp))
    | _ => exact absurd (show false = true from hs) Bool.false_ne_true
  | int i =>
    obtain ⟨t, rfl⟩ := rx
    cases y with
    | non => cases ry; exact PySem.EqNone.eq_int_none (fin_bl I q (by simp))
    | int j => obtain ⟨t', rfl⟩ := ry; exact eq_int (fin_bl I q dec_int)
    | str j => obtain ⟨t', rfl⟩ := ry; exact PySem.EqMixed.eq_int_str (fin_bl I q (by simp))
    | _ => exact absurd (show false = true from hs) Bool.false_ne_true
  | str i =>
    obtain ⟨t, rfl⟩ := rx
    cases y with
    | non => cases ry; exact PySem.EqNone.eq_str_none (fin_bl I q (by simp))
    | bl j => cases ry; exact PySem.EqMixed.eq_str_bool (fin_bl I q (by simp))
    | int j => obtain ⟨t', rfl⟩ := ry; exact PySem.EqMixed.eq_str_int (fin_bl I q (by simp))
    | str j => obtain ⟨t', rfl⟩ := ry; exact eq_str (fin_bl I q dec_str)
    | _ => exact absurd (show false = true from hs) Bool.false_ne_true
  | byt i =>
    obtain ⟨t, rfl⟩ := rx
    cases y with
    | byt j => obtain ⟨t', rfl⟩ := ry; exact PySem.W.eq_bytes (fin_bl I q dec_byt)
    | _ => exact absurd (show false = true from hs) Bool.false_ne_true
  | _ => cases y <;> exact absurd (show false = true from hs) Bool.false_ne_true
theorem op_ne : OpR X (compareOp .NotEq) rNe := by
  intro pins s σ H x y v u Q I rx ry h
  obtain ⟨hs, q⟩ := h
  cases x with
  | non =>
    cases rx
    cases y with
    | non => cases ry; exact PySem.EqNone.ne_none_none (fin_bl I q (by simp))
    | bl j => cases ry; exact PySem.EqNone.ne_none_bool (fin_bl I q (by simp))
    | int j => obtain ⟨t', rfl⟩ := ry; exact PySem.EqNone.ne_none_int (fin_bl I q (by simp))
    | str j => obtain ⟨t', rfl⟩ := ry; exact PySem.EqNone.ne_none_str (fin_bl I q (by simp))
    | _ => exact absurd (show false = true from hs) Bool.false_ne_true
  | bl i =>
    cases rx
    cases y with
    | non => cases ry; exact PySem.EqNone.ne_bool_none (fin_bl I q (by simp))
    | bl j => cases ry; exact ne_bool (fin_bl I q (congrArg not dec_bl))
    | str j => obtain ⟨t', rfl⟩ := ry; exact PySem.EqMixed.ne_bool_str (fin_bl I q (by simp))
    | _ => exact absurd (show false = true from hs) Bool.false_ne_true
  | int i =>
    obtain ⟨t, rfl⟩ := rx
    cases y with
    | non => cases ry; exact PySem.EqNone.ne_int_none (fin_bl I q (by simp))
    | int j => obtain ⟨t', rfl⟩ := ry; exact ne_int (fin_bl I q (congrArg not dec_int))
    | str j => obtain ⟨t', rfl⟩ := ry; exact PySem.EqMixed.ne_int_str (fin_bl I q (by simp))
    | _ => exact absurd (show false = true from hs) Bool.false_ne_true
  | str i =>
    obtain ⟨t, rfl⟩ := rx
    cases y with
    | non => cases ry; exact PySem.EqNone.ne_str_none (fin_bl I q (by simp))
    | bl j => cases ry; exact PySem.EqMixed.ne_str_bool (fin_bl I q (by simp))
    | int j => obtain ⟨t', rfl⟩ := ry; exact PySem.EqMixed.ne_str_int (fin_bl I q (by simp))
    | str j => obtain ⟨t', rfl⟩ := ry; exact ne_str (fin_bl I q (congrArg not dec_str))
    | _ => exact absurd (show false = true from hs) Bool.false_ne_true
  | byt i =>
    obtain ⟨t, rfl⟩ := rx
    cases y with
    | byt j => obtain ⟨t', rfl⟩ := ry; exact PySem.W.ne_bytes (fin_bl I q (congrArg not dec_byt))
    | _ => exact absurd (show false = true from hs) Bool.false_ne_true
  | _ => cases y <;> exact absurd (show false = true from hs) Bool.false_ne_true

theorem op_lt : OpR X (compareOp .Lt) (rI0 fun i j => .bl (decide (i < j))) := opB0 fun _ _ _ _ _ _ _ q => lt_int q
theorem op_gt : OpR X (compareOp .Gt) (rI0 fun i j => .bl (decide (j < i))) := opB0 fun _ _ _ _ _ _ _ q => gt_int q
theorem op_isN : OpR X (compareOp .Is) (fun x y H Q => y = .non ∧ Q (.bl (decide (x = .non))) H) := by
  intro pins s σ H x y v u Q I rx ry h
  obtain ⟨rfl, q⟩ := h
  cases ry
  refine is_none_gen (fin_bl I q ?_)
  cases x <;> first
    | (cases rx; rfl)
    | (obtain ⟨t, rfl⟩ := rx; rfl)
theorem OpR.or {f : Value → Value → Sem Value} {r r' : R2} (h : OpR X f r) (h' : OpR X f r') : OpR X f (fun x y H Q => r x y H Q ∨ r' x y H Q) := by
  intro pins s σ H x y v u Q I rx ry q
  rcases q with q | q
  · exact h pins s σ H x y v u Q I rx ry q
  · exact h' pins s σ H x y v u Q I rx ry q

theorem nomark (b : Expr) {op : CmpOp} (h : op ≠ .In := by decide) (h2 : op ≠ .NotIn := by decide) : behindInMarks op b = false := by
  have e1 : (op == CmpOp.In) = false := by cases op <;> first | rfl | exact absurd rfl h
  have e2 : (op == CmpOp.NotIn) = false := by cases op <;> first | rfl | exact absurd rfl h2
  cases b <;> simp [behindInMarks, e1, e2]

theorem pe_cmpR {op : CmpOp} {r : R2} (ho : OpR X (compareOp op) r) (ha : PE X a ta) (hb : PE X b tb) (hm : behindInMarks op b = false) : PE X (.Compare a [op] [b] pos) (tOp r ta tb) := by
  intro pins s σ H Q I h
  exact wpAny_Compare1 (binT ha hb I h fun v u s2 x y H2 I2 rx ry q => ho pins s2 σ H2 x y v u Q I2 rx ry q) hm

def tTest (t : TE) : TT := fun σ H Q => t σ H fun x H' => ∃ k, x = .bl k ∧ Q k H'
theorem pt_cmpR {op : CmpOp} {r : R2} (ho : OpR X (compareOp op) r) (ha : PE X a ta) (hb : PE X b tb) (hm : behindInMarks op b = false) : PT X (.Compare a [op] [b] pos) (tTest (tOp r ta tb)) := by
  intro pins s σ H Q I h
  refine wpAny_isTrue_Compare1 (thn (ha pins s σ H _ I h) fun v s1 ⟨x, H1, I1, r1, q1⟩ => thn (hb pins s1 σ H1 _ I1 q1) fun u s2 ⟨y, H2, I2, r2, q2⟩ =>
    thn (ho pins s2 σ H2 x y v u _ I2 r1 r2 q2) fun c s3 ⟨z, H3, I3, r3, k, e, q3⟩ => ?_) hm
  subst e
  cases r3
  exact wpAny_truthy_bool ⟨H3, I3, q3⟩

def TruV (K : PySem.W.Frag) (x : V) (H : Hp) (k : Bool) : Prop :=
  match x with
  | .non => k = false
  | .bl b => k = b
  | .int i => k = (i != 0)
  | .str y => y.length ≤ sizeLine ∧ k = ((y.length : Int) != 0)
  | .byt y => y.size ≤ sizeLine ∧ k = ((y.size : Int) != 0)
  | .ref p => (∃ xs, SqL K H p xs ∧ k = !xs.isEmpty) ∨ (∃ xs, SqT K H p xs ∧ k = !xs.isEmpty) ∨ ∃ kvs, H p = some (.dK kvs) ∧ k = !kvs.isEmpty
  | _ => False
theorem isEmpty_kv {κ : Type} {kvs : List (κ × V)} {vs : List (κ × Value)} (r : KV kvs vs) : (!vs.isEmpty) = !kvs.isEmpty := by
  cases r <;> rfl
theorem isEmpty_of {xs : List V} {its : List Value} (r : Vals xs its) : (!its.toArray.isEmpty) = !xs.isEmpty := by
  cases r <;> simp
theorem line63 : (sizeLine : Nat) < 2 ^ 63 := by rw [sizeLine_eq]; decide
theorem tru_ok : TruR X (fun x H Q => ∃ k, TruV X.K x H k ∧ Q k H) := by
  intro pins s σ H x v Q I rx h
  obtain ⟨k, e, q⟩ := h
  have hl := line63
  have hs : sizeLine = 16777216 := sizeLine_eq
  cases x with
  | non =>
    cases rx
    have e' : k = false := e
    subst e'
    exact truthy_none ⟨H, I, q⟩
  | bl b =>
    cases rx
    have e' : k = b := e
    subst e'
    exact wpAny_truthy_bool ⟨H, I, q⟩
  | int i =>
    obtain ⟨t, rfl⟩ := rx
    have e' : k = (i != 0) := e
    subst e'
    exact PySem.P.truthy_int ⟨H, I, q⟩
  | str y =>
    obtain ⟨t, rfl⟩ := rx
    obtain ⟨hy, e'⟩ : y.length ≤ sizeLine ∧ k = ((y.length : Int) != 0) := e
    subst e'
    exact PySem.P.truthy_str (by omega) ⟨H, I.tok _, q⟩
  | byt y =>
    obtain ⟨t, rfl⟩ := rx
    obtain ⟨hy, e'⟩ : y.size ≤ sizeLine ∧ k = ((y.size : Int) != 0) := e
    subst e'
    exact PySem.W.truthy_bytes (by omega) ⟨H, I.tok _, q⟩
  | ref p =>
    cases rx
    have e' : (∃ xs, SqL X.K H p xs ∧ k = !xs.isEmpty) ∨ (∃ xs, SqT X.K H p xs ∧ k = !xs.isEmpty) ∨ ∃ kvs, H p = some (.dK kvs) ∧ k = !kvs.isEmpty := e
    rcases e' with ⟨xs, hx, e'⟩ | ⟨xs, hx, e'⟩ | ⟨kvs, hx, e'⟩
    · subst e'
      obtain ⟨its, r, pl, hz⟩ := I.list hx
      have hlen := r.length
      exact wpAny_truthy_list pl.isList (by simp only [List.size_toArray]; omega) ⟨H, I.tok _, by rw [isEmpty_of r]; exact q⟩
    · subst e'
      obtain ⟨its, r, pl, hz⟩ := I.tuple hx
      have hlen := r.length
      exact truthy_tuple pl (by simp only [List.size_toArray]; omega) ⟨H, I.tok _, by rw [isEmpty_of r]; exact q⟩
    · subst e'
      obtain ⟨hz, hS, vs, r, m⟩ : kvs.length ≤ sizeLine ∧ (p == sysModules) = false ∧ ∃ vs, KV kvs vs ∧ s.heap.DictOf (mixKind X.prog X.w) p vs := I.hok p _ hx
      have hlen : kvs.length = vs.length := Paired.length r
      exact wpAny_truthy_dict hS m (by omega) ⟨H, I.tok _, by rw [isEmpty_kv r]; exact q⟩
  | _ => exact (show False from e).elim

theorem pt_truth (ha : PE X a ta) (he : ∀ whole, isTrue a X.env whole = (do let v ← whole; standAt a.pos; holding [v] (truthy v))) :
    PT X a (fun σ H Q => ta σ H fun x H' => ∃ k, TruV X.K x H' k ∧ Q k H') := by
  intro pins s σ H Q I h
  exact isTrue_plain (thn (ha pins s σ H _ I h) fun v s1 ⟨x, H1, I1, r1, q1⟩ => tru_ok pins s1 σ H1 x v Q I1 r1 q1) (he _)


theorem op_add_str : OpR X (binaryOp .Add) (fun x y H Q => ∃ i j, x = .str i ∧ y = .str j ∧ i.length + j.length ≤ sizeLine ∧ Q (.str (i ++ j)) H) := by
  intro pins s σ H x y v u Q I rx ry h
  obtain ⟨i, j, rfl, rfl, hz, q⟩ := h
  obtain ⟨t, rfl⟩ := rx
  obtain ⟨t', rfl⟩ := ry
  exact add_str (fun t' tk => ⟨.str (i ++ j), H, I.tok _, ⟨_, rfl⟩, q⟩) hz
theorem vals1 {x : V} {us : List Value} (r : Vals [x] us) : ∃ u, us = [u] ∧ RelV x u := by
  cases r with
  | cons r1 r2 => cases r2; exact ⟨_, rfl, r1⟩
theorem vals2 {x y : V} {us : List Value} (r : Vals [x, y] us) : ∃ u w', us = [u, w'] ∧ RelV x u ∧ RelV y w' := by
  cases r with
  | cons r1 r2 =>
    cases r2 with
    | cons r3 r4 => cases r4; exact ⟨_, _, rfl, r1, r3⟩
theorem call_int1 : CallR X (.type "int") (fun xs H Q => (∃ i, xs = [.int i] ∧ Q (.int i) H) ∨ ∃ k, xs = [.bl k] ∧ Q (.int (if k then 1 else 0)) H) := by
  intro pins s σ H xs us Q I r h
  rcases h with ⟨i, rfl, q⟩ | ⟨k, rfl, q⟩
  · obtain ⟨u, rfl, t, rfl⟩ := vals1 r
    exact call_int_int ⟨.int i, H, I, ⟨_, rfl⟩, q⟩
  · obtain ⟨u, rfl, r1⟩ := vals1 r
    cases r1
    exact call_int_bool ⟨.int (if k then 1 else 0), H, I.tok _, ⟨_, rfl⟩, q⟩
def LenV (K : PySem.W.Frag) (x : V) (H : Hp) (n : Nat) : Prop :=
  match x with
  | .str y => y.length ≤ sizeLine ∧ n = y.length
  | .byt y => y.size ≤ sizeLine ∧ n = y.size
  | .ref p => (∃ xs, SqL K H p xs ∧ n = xs.length) ∨ ∃ xs, SqT K H p xs ∧ n = xs.length
  | _ => False
theorem call_len : CallR X (.builtin "len") (fun xs H Q => ∃ x n, xs = [x] ∧ LenV X.K x H n ∧ Q (.int n) H) := by
  intro pins s σ H xs us Q I r h
  obtain ⟨x, n, rfl, e, q⟩ := h
  obtain ⟨u, rfl, rx⟩ := vals1 r
  have hl := line63
  have hs : sizeLine = 16777216 := sizeLine_eq
  cases x with
  | str y =>
    obtain ⟨t, rfl⟩ := rx
    obtain ⟨hy, e'⟩ : y.length ≤ sizeLine ∧ n = y.length := e
    subst e'
    exact len_str (by omega) ⟨.int _, H, I.tok _, ⟨_, rfl⟩, q⟩
  | byt y =>
    obtain ⟨t, rfl⟩ := rx
    obtain ⟨hy, e'⟩ : y.size ≤ sizeLine ∧ n = y.size := e
    subst e'
    exact PySem.W.len_bytes (by omega) ⟨.int _, H, I.tok _, ⟨_, rfl⟩, q⟩
  | ref p =>
    cases rx
    have e' : (∃ xs, SqL X.K H p xs ∧ n = xs.length) ∨ ∃ xs, SqT X.K H p xs ∧ n = xs.length := e
    rcases e' with ⟨xs, hx, e'⟩ | ⟨xs, hx, e'⟩
    · subst e'
      obtain ⟨its, r', pl, hz⟩ := I.list hx
      have hlen := r'.length
      exact Calls.call_len_list pl.isList (by simp only [List.size_toArray]; omega) ⟨.int xs.length, H, I.tok _, ⟨_, by simp only [List.size_toArray]; rw [hlen]⟩, q⟩
    · subst e'
      obtain ⟨its, r', pl, hz⟩ := I.tuple hx
      have hlen := r'.length
      exact len_tuple pl (by simp only [List.size_toArray]; omega) ⟨.int xs.length, H, I.tok _, ⟨_, by simp only [List.size_toArray]; rw [hlen]⟩, q⟩
  | _ => exact (show False from e).elim

end
end L2

namespace L2
open PySem PySem.Spec PyProof.Rows


structure ObjM (h : Heap) (x dx C : Addr) (mA : Str → Option Value) : Prop where
  obj : h.get? x = some (PySem.W.instObj C dx)
  ns : h.Ns1 dx mA
  ne : dx ≠ x

theorem lookIn_ns {h : Heap} {dx : Addr} {mA : Str → Option Value} (n : h.Ns1 dx mA) : ∃ od, h.get? dx = some od ∧ ∀ name, PySem.W.lookIn name od = some (mA name) := by
  obtain ⟨o, es, ep, ho, hd, hk, _, hm⟩ := n
  refine ⟨o, ho, fun name => ?_⟩
  have e := hm name
  unfold nsFind findBy at e
  rw [← Array.find?_toList] at e
  unfold PySem.W.lookIn
  rw [hd]
  dsimp only
  split
  · rename_i y q
    rw [q] at e
    exact congrArg some e
  · rename_i q
    rw [q] at e
    have a : es.toList.any (·.refKey) = false := by
      rw [List.any_eq_false]
      intro y hy
      obtain ⟨z, t, hkey⟩ := hk y (Array.mem_toList_iff.mp hy)
      simp [DictEntry.refKey, hkey]
    have a' : ¬ es.toList.any (·.refKey) = true := by rw [a]; exact Bool.false_ne_true
    rw [if_neg a']
    exact congrArg some e

theorem ObjM.look {h : Heap} {x dx C : Addr} {mA : Str → Option Value} (I : ObjM h x dx C mA) : ∃ od, PySem.W.InstAt h x (PySem.W.instObj C dx) C (some od) ∧ ∀ name, PySem.W.lookIn name od = some (mA name) :=
  let ⟨od, ho, hl⟩ := lookIn_ns I.ns
  ⟨od, ⟨I.obj, rfl, rfl, ho⟩, hl⟩

section
variable {prog : Program} {w : World} {A : Around} {E : Value → Shared → Prop} {s : Shared} {K : PySem.W.Frag} {x dx C f : Addr} {mA : Str → Option Value} {name : Str} {v : Value}

theorem get_map {expr : Bool} {Q : Value → Shared → Prop} (X : K.In s.heap) (I : ObjM s.heap x dx C mA) (hg : PySem.W.plainGet K C name = true) (hh : PySem.W.hasDictIn K C = true)
    (ha : PySem.W.findIn K (.ref C) name = some none) (hv : mA name = some v) (hv' : PySem.W.handedIn v = true) (h : Q v { s with toks := s.toks + 1 }) :
    wpAny (model prog w) A (getAttr (.ref x) name expr) Q E s := by
  obtain ⟨od, J, hl⟩ := I.look
  exact PySem.W.get_value X J (PySem.W.plainGet_of hg).1 (PySem.W.findObj_own hh ha rfl (by rw [hl, hv])) hv' h

theorem get_meth {pl : Sem Bool} {Q : Value × List Value → Shared → Prop} (X : K.In s.heap) (I : ObjM s.heap x dx C mA) (hg : PySem.W.plainGet K C name = true)
    (hf : PySem.W.findIn K (.ref C) name = some (some (.ref f))) (ht : PySem.W.isFn K (.ref f) = true) (hv : mA name = none) (h : Q (.ref f, [.ref x]) s) :
    wpAny (model prog w) A (getMethod (.ref x) name pl) Q E s := by
  obtain ⟨od, J, hl⟩ := I.look
  exact PySem.W.method_fn X J (PySem.W.plainGet_of hg).1 (PySem.W.plainGet_of hg).2 hf (beq_iff_eq.mp ht) (by show (PySem.W.lookIn name od).map (·.isSome) = some false; rw [hl, hv]; rfl) h

theorem set_map {ns : List Str} {Q : Unit → Shared → Prop} (X : K.In s.heap) (I : ObjM s.heap x dx C mA)
    (hs : PySem.W.findIn K (.ref C) "__setattr__" = some (some (.builtin "object.__setattr__"))) (hp : PySem.W.plainOver K C = true) (ht : PySem.W.takerIn K C name = some none) (hh : PySem.W.hasDictIn K C = true)
    (hw : PySem.Within mA ns) (hsz : ns.length ≤ sizeLine)
    (h : ∀ h', ObjM h' x dx C (fun y => if y = name then some v else mA y) → Heap.SameBut dx s.heap h' → Q () { s with heap := h', toks := s.toks + 2 }) :
    wpAny (model prog w) A (setAttr (.ref x) name v) Q E s := by
  obtain ⟨od, J, hl⟩ := I.look
  refine PySem.W.set_plain X J hs (PySem.W.osa_open (s := { s with toks := s.toks + 1 }) (r := none) X J hp ht fun b => ?_)
  obtain ⟨cd, hc, hd'⟩ := PySem.W.any_some hh
  have hx : s.heap.get? x = some ⟨.ref C, some dx, .plain, #[]⟩ := I.obj
  refine wpAny_bind (wpAny_pure (wpAny_bind (wpAny_bind (wpAny_loadPart hx (wpAny_bind (PySem.W.Looks.here (s := { s with toks := s.toks + 1 }) (PySem.W.looks_clsIn X hc) ?_))))))
  rw [hd']
  refine wpAny_pure (a := some dx) (wpAny_bind (wpAny_pure (wpAny_bind ?_)))
  refine wpAny_nsSet1 (s := { s with toks := s.toks + 1 }) I.ns fun h' hn2 hs2 => ?_
  obtain ⟨oD, esD, epD, hoD, hdD, hcD⟩ := hn2.count (PySem.Within.cons name v hw)
  refine wpAny_bind (wpAny_lookBehind hoD (by rw [hdD]; exact pastItsLine_dict (Nat.le_trans hcD (by rw [List.length_cons]; omega))) ?_)
  exact wpAny_pure (h _ ⟨(hs2.2 _ (Ne.symm I.ne)).trans I.obj, hn2, I.ne⟩ hs2)


theorem make_map {R : Result → Shared → Prop} {vs : List Value} {kw : List (Str × Value)} (X : K.In s.heap) (hm : PySem.W.makesIn K C = true)
    (hi : PySem.W.findIn K (.ref C) "__init__" = some (some (.ref f))) (hf : PySem.W.typeIn K (.ref f) = some (.type "function"))
    (h : codeAny (model prog w) (A.under (.builtin "type.__call__" ⟨.ref C :: vs, kw⟩)) (.call (.ref f) ⟨.ref (s.heap.objs.size + 1) :: vs, kw⟩) (PySem.W.InitBack (s.heap.objs.size + 1) R)
      { s with heap := (s.heap.push PySem.W.emptyDict).push (PySem.W.instObj C s.heap.objs.size) }) :
    codeAny (model prog w) A (.call (.ref C) ⟨vs, kw⟩) R s := by
  obtain ⟨hh, g, d, t, os⟩ := s
  exact PySem.W.make_core (PySem.W.makes_of X hm) (PySem.W.looks_findIn X hi) (fun self => PySem.W.bind_fn X self hf) (.inl rfl) h

end


def putF (f : Str) (v : V) : List (Str × V) → List (Str × V)
  | [] => [(f, v)]
  | (g, x) :: r => if g = f then (g, v) :: r else (g, x) :: putF f v r
theorem lookup_putF (f g : Str) (v : V) : ∀ fs : List (Str × V), (putF f v fs).lookup g = if g = f then some v else fs.lookup g
  | [] => by
    show List.lookup g [(f, v)] = _
    by_cases h : g = f
    · have hb : (g == f) = true := beq_iff_eq.mpr h
      simp only [List.lookup, hb, if_pos h]
    · have hb : (g == f) = false := beq_eq_false_iff_ne.mpr h
      simp only [List.lookup, hb, if_neg h]
  | (k, x) :: r => by
    have ih := lookup_putF f g v r
    rw [show putF f v ((k, x) :: r) = (if k = f then (k, v) :: r else (k, x) :: putF f v r) from rfl]
    by_cases hk : k = f
    · rw [if_pos hk]
      by_cases h : g = k
      · have hb : (g == k) = true := beq_iff_eq.mpr h
        simp only [List.lookup, hb, if_pos (h.trans hk)]
      · have hb : (g == k) = false := beq_eq_false_iff_ne.mpr h
        simp only [List.lookup, hb, if_neg (fun e : g = f => h (e.trans hk.symm))]
    · rw [if_neg hk]
      by_cases h : g = k
      · have hb : (g == k) = true := beq_iff_eq.mpr h
        simp only [List.lookup, hb, if_neg (fun e : g = f => hk (h.symm.trans e))]
      · have hb : (g == k) = false := beq_eq_false_iff_ne.mpr h
        simp only [List.lookup, hb]
        exact ih
theorem keys_putF (f : Str) (v : V) : ∀ fs : List (Str × V), f ∈ (putF f v fs).map (·.1) ∧ ∀ g, g ∈ fs.map (·.1) → g ∈ (putF f v fs).map (·.1)
  | [] => ⟨by simp [putF], fun g h => by simp at h⟩
  | (k, x) :: r => by
    obtain ⟨i1, i2⟩ := keys_putF f v r
    rw [show putF f v ((k, x) :: r) = (if k = f then (k, v) :: r else (k, x) :: putF f v r) from rfl]
    by_cases hk : k = f
    · rw [if_pos hk]
      subst hk
      exact ⟨by simp, fun g h => by simpa using h⟩
    · rw [if_neg hk]
      refine ⟨?_, fun g h => ?_⟩
      · rw [List.map_cons]
        exact List.mem_cons_of_mem _ i1
      · rw [List.map_cons] at h ⊢
        rcases List.mem_cons.mp h with e | e
        · exact List.mem_cons.mpr (.inl e)
        · exact List.mem_cons_of_mem _ (i2 g e)
theorem length_putF (f : Str) (v : V) : ∀ fs : List (Str × V), (putF f v fs).length ≤ fs.length + 1
  | [] => by simp [putF]
  | (k, x) :: r => by
    have ih := length_putF f v r
    rw [show putF f v ((k, x) :: r) = (if k = f then (k, v) :: r else (k, x) :: putF f v r) from rfl]
    by_cases hk : k = f
    · rw [if_pos hk, List.length_cons, List.length_cons]; omega
    · rw [if_neg hk, List.length_cons, List.length_cons]; omega

theorem RelO.some_of {v : V} {o : Option Value} (r : RelO (some v) o) : ∃ u, o = some u ∧ RelV v u := by
  cases o with
  | none => exact (show False from r).elim
  | some u => exact ⟨u, rfl, r⟩
theorem RelO.none_of {o : Option Value} (r : RelO none o) : o = none := by
  cases o with
  | none => rfl
  | some u => exact (show False from r).elim
theorem handed_of {v : V} {u : Value} (r : RelV v u) : PySem.W.handedIn u = true := by
  cases v with
  | non => cases (show u = Value.none from r); rfl
  | bl b => cases (show u = Value.bool b from r); rfl
  | int i => obtain ⟨t, e⟩ := (show ∃ t, u = Value.int i t from r); cases e; rfl
  | str x => obtain ⟨t, e⟩ := (show ∃ t, u = Value.str x t from r); cases e; rfl
  | byt b => obtain ⟨t, e⟩ := (show ∃ t, u = Value.bytes b t from r); cases e; rfl
  | flt b => obtain ⟨t, e⟩ := (show ∃ t, u = Value.float b t from r); cases e; rfl
  | ref a => cases (show u = Value.ref a from r); rfl
  | ty n => cases (show u = Value.type n from r); rfl

section
variable {P : Program} {w : World} {H H' : Hp} {h h' : Heap} {a C dx : Addr} {fs fs' : List (Str × V)}
theorem ins_get (hok : HOk P w H h) (e : H a = some (.ins C dx fs)) : ∃ mA, ObjM h a dx C mA ∧ (∀ f, RelO (fs.lookup f) (mA f)) ∧ PySem.Within mA (fs.map (·.1)) ∧ fs.length ≤ 1000 ∧ H dx = some (.own a) := by
  obtain ⟨d, z, ne, ob, mA, n, r, q⟩ := (show ObjOk P w H h a (.ins C dx fs) from hok a _ e)
  exact ⟨mA, ⟨ob, n, ne⟩, r, q, z, d⟩
end


structure Cls (K : PySem.W.Frag) (C : Addr) : Prop where
  pg : PySem.W.plainGet K C Str.empty = true
  hd : PySem.W.hasDictIn K C = true
  po : PySem.W.plainOver K C = true
  sa : PySem.W.findIn K (.ref C) "__setattr__" = some (some (.builtin "object.__setattr__"))
theorem Cls.get {K : PySem.W.Frag} {C : Addr} (c : Cls K C) (f : Str) : PySem.W.plainGet K C f = true := c.pg

def NoAttr (K : PySem.W.Frag) (C : Addr) (f : Str) : Prop := PySem.W.findIn K (.ref C) f = some none
theorem NoAttr.taker {K : PySem.W.Frag} {C : Addr} {f : Str} (n : NoAttr K C f) : PySem.W.takerIn K C f = some none := by
  unfold PySem.W.takerIn
  rw [show PySem.W.findIn K (.ref C) f = some none from n]
  rfl

structure Meth (K : PySem.W.Frag) (C : Addr) (m : Str) (f : Addr) : Prop where
  at_ : PySem.W.findIn K (.ref C) m = some (some (.ref f))
  fn : PySem.W.isFn K (.ref f) = true
  kp : PySem.W.keepIn K (.ref f) = true

section
variable {X : Cx} {pins : List (Addr × Obj)} {σ : St} {H : Hp} {s : Shared} {a C dx : Addr} {fs : List (Str × V)} {f : Str} {v : V} {A : Around} {E : Value → Shared → Prop}

theorem getattr_ok {b : Bool} {Q : Value → Shared → Prop} (I : Inv X pins σ H s) (e : H a = some (.ins C dx fs)) (c : Cls X.K C) (n : NoAttr X.K C f) (l : fs.lookup f = some v)
    (h : ∀ u s', Inv X pins σ H s' → RelV v u → Q u s') : wpAny (model X.prog X.w) A (getAttr (.ref a) f b) Q E s := by
  obtain ⟨mA, O, r, _, _, _⟩ := ins_get I.hok e
  obtain ⟨u, hu, ru⟩ := RelO.some_of (v := v) (o := mA f) (by rw [← l]; exact r f)
  exact get_map I.kIn O (c.get f) c.hd n hu (handed_of ru) (h u _ (I.tok _) ru)

theorem getmeth_ok {m : Str} {g : Addr} {pl : Sem Bool} {Q : Value × List Value → Shared → Prop} (I : Inv X pins σ H s) (e : H a = some (.ins C dx fs)) (c : Cls X.K C) (k : Meth X.K C m g) (l : fs.lookup m = none)
    (h : Q (.ref g, [.ref a]) s) : wpAny (model X.prog X.w) A (getMethod (.ref a) m pl) Q E s := by
  obtain ⟨mA, O, r, _, _, _⟩ := ins_get I.hok e
  have hn : mA m = none := RelO.none_of (by rw [← l]; exact r m)
  exact get_meth I.kIn O (c.get m) k.at_ k.fn hn h

theorem setattr_ok {y : V} {u : Value} {Q : Unit → Shared → Prop} (I : Inv X pins σ H s) (e : H a = some (.ins C dx fs)) (c : Cls X.K C) (n : NoAttr X.K C f) (hl : fs.length < 1000) (ry : RelV y u)
    (h : ∀ s', Inv X pins σ (upd H a (.ins C dx (putF f y fs))) s' → Q () s') : wpAny (model X.prog X.w) A (setAttr (.ref a) f u) Q E s := by
  obtain ⟨mA, O, r, wi, _, ho⟩ := ins_get I.hok e
  have hz : (fs.map (·.1)).length ≤ sizeLine := by rw [List.length_map, sizeLine_eq]; omega
  refine set_map I.kIn O c.sa c.po n.taker c.hd wi hz fun h' O' sb => h _ ?_
  have hd : ∃ o, h'.get? dx = some o := let ⟨o, _, _, e', _⟩ := O'.ns; ⟨o, e'⟩
  refine I.write (x := a) (e := dx) (by rw [e]; exact True.intro) (.inr ho) (fun b q hb z => (sb.2 b hb).trans z) hd ?_
  refine ⟨by rw [upd_ne O.ne]; exact ho, ?_, O.ne, O'.obj, _, O'.ns, fun g => ?_, fun g hg => ?_⟩
  · have := length_putF f y fs; omega
  · show RelO ((putF f y fs).lookup g) (if g = f then some u else mA g)
    rw [lookup_putF]
    by_cases q : g = f
    · rw [if_pos q, if_pos q]; exact ry
    · rw [if_neg q, if_neg q]; exact r g
  · by_cases q : g = f
    · rw [q]; exact (keys_putF f y fs).1
    · refine (keys_putF f y fs).2 g (wi g fun z => hg ?_)
      show (if g = f then some u else mA g) = none
      rw [if_neg q]; exact z


theorem Inv.made (I : Inv X pins σ H s) : Inv X pins σ (upd (upd H s.heap.objs.size (.own (s.heap.objs.size + 1))) (s.heap.objs.size + 1) (.ins C s.heap.objs.size []))
    { s with heap := (s.heap.push PySem.W.emptyDict).push (PySem.W.instObj C s.heap.objs.size) } := by
  have e1 : (s.heap.push PySem.W.emptyDict).get? s.heap.objs.size = some PySem.W.emptyDict := Heap.get?_push_size s.heap rfl
  have e2 : ((s.heap.push PySem.W.emptyDict).push (PySem.W.instObj C s.heap.objs.size)).get? (s.heap.objs.size + 1) = some (PySem.W.instObj C s.heap.objs.size) := by
    have := Heap.get?_push_size (s.heap.push PySem.W.emptyDict) (o := PySem.W.instObj C s.heap.objs.size) rfl
    rwa [Heap.size_push] at this
  have e3 : (s.heap.push PySem.W.emptyDict).Ns s.heap.objs.size (fun _ => none) := ⟨PySem.W.emptyDict, #[], _, e1, rfl, (fun e he => absurd he (by simp)), fun _ => rfl⟩
  have I1 := I.laid (a := s.heap.objs.size) (o := .own (s.heap.objs.size + 1)) (h' := s.heap.push PySem.W.emptyDict) (t' := s.toks) (fun b u q => Heap.get?_push_of_some _ q) (Nat.le_refl _) ⟨_, e1⟩
  refine I1.laid (a := s.heap.objs.size + 1) (o := .ins C s.heap.objs.size []) (t' := s.toks) (fun b u q => Heap.get?_push_of_some _ q) (Nat.le_of_eq (Heap.size_push _ _)) ?_
  have ne : s.heap.objs.size ≠ s.heap.objs.size + 1 := Nat.ne_of_lt (Nat.lt_succ_self _)
  refine ⟨by rw [upd_ne ne, upd_same], Nat.zero_le _, ne, e2, fun _ => none, (Heap.Ns1.of_empty e3).at fun o q => Heap.get?_push_of_some _ q, fun _ => True.intro, fun y hy => absurd rfl hy⟩


theorem attr_of {prog : Program} {w : World} {env : Env} {e : Expr} {f : Str} {pos : Pos} {s : Shared} {Q : Value → Shared → Prop} (hb : attributeBase e f env (eval e env) = eval e env)
    (h : wpAny (model prog w) A (eval e env) (fun o s₁ => wpAny (model prog w) A (getAttr o f true) Q E s₁) E s) : wpAny (model prog w) A (eval (.Attribute e f pos) env) Q E s :=
  Attribute_any_ h (by rw [arm_eval_Attribute, hb])
end



def tFld (K : PySem.W.Frag) (ta : TE) (f : Str) : TE := fun σ H Q => ta σ H fun x H1 => ∃ a C dx fs v, x = .ref a ∧ H1 a = some (.ins C dx fs) ∧ Cls K C ∧ NoAttr K C f ∧ fs.lookup f = some v ∧ Q v H1

def sFld (K : PySem.W.Frag) (ta tv : TE) (f : Str) : TS := fun D σ H => tv σ H fun y H1 => ta σ H1 fun x H2 => ∃ a C dx fs, x = .ref a ∧ H2 a = some (.ins C dx fs) ∧ Cls K C ∧ NoAttr K C f ∧ fs.length < 1000 ∧
  D.nx σ (upd H2 a (.ins C dx (putF f y fs)))

section
variable {X : Cx} {o e value : Expr} {f : Str} {pos pos' tpos : Pos} {ta tv : TE}
theorem pe_fld (he : PE X e ta) (hb : attributeBase e f X.env (eval e X.env) = eval e X.env) : PE X (.Attribute e f pos) (tFld X.K ta f) := by
  intro pins s σ H Q I h
  refine attr_of hb (thn (he pins s σ H _ I h) fun u s1 ⟨x, H1, I1, rx, a, C, dx, fs, v, ex, ea, c, n, l, q⟩ => ?_)
  subst ex
  obtain rfl : u = Value.ref a := rx
  exact getattr_ok I1 ea c n l fun u' s2 I2 ru => ⟨v, H1, I2, ru, q⟩
theorem ps_fld (ha : PE X o ta) (hv : PE X value tv) (hs : swapsWith value (some (.Attribute o f pos')) pos.line X.env = pure false) : PS X (.Assign [.Attribute o f pos'] value pos) (sFld X.K ta tv f) := by
  intro pins s σ H D I h
  refine plainObj_wpAny_Assign_Attribute (thn (hv pins s σ H _ I h) fun u s1 ⟨y, H1, I1, ry, q⟩ => thn (ha pins s1 σ H1 _ I1 q) fun ov s2 ⟨x, H2, I2, rx, a, C, dx, fs, ex, ea, c, n, l, q2⟩ => ?_) hs
  subst ex
  obtain rfl : ov = Value.ref a := rx
  exact setattr_ok I2 ea c n l ry fun s3 I3 => ⟨σ, _, I3, q2⟩
end


section
variable {X : Cx} {pins : List (Addr × Obj)} {σ : St} {H : Hp} {s : Shared} {A : Around} {E : Value → Shared → Prop} {Q : Value → Shared → Prop} {c : Value} {b : Bool}

inductive TyOf (K : PySem.W.Frag) (H : Hp) : V → Value → Prop where
  | non : TyOf K H .non (.type "NoneType")
  | bl (x : Bool) : TyOf K H (.bl x) (.type "bool")
  | int (i : Int) : TyOf K H (.int i) (.type "int")
  | str (x : Str) : TyOf K H (.str x) (.type "str")
  | flt (x : UInt64) : TyOf K H (.flt x) (.type "float")
  | lst {a : Addr} {xs : List V} (e : H a = some (.lst xs)) : TyOf K H (.ref a) (.type "list")
  | frz {a : Addr} {o : Obj} {xs : List V} (e : H a = some (.frz o (.lst xs))) : TyOf K H (.ref a) (.type "list")
  | tup {a : Addr} {xs : List V} (e : H a = some (.tup xs)) : TyOf K H (.ref a) (.type "tuple")
  | dK {a : Addr} {kvs : List (Key × V)} (e : H a = some (.dK kvs)) : TyOf K H (.ref a) (.type "dict")
  | dT {a : Addr} {kvs : List (List Key × V)} (e : H a = some (.dT kvs)) : TyOf K H (.ref a) (.type "dict")
  | ins {a C dx : Addr} {fs : List (Str × V)} (e : H a = some (.ins C dx fs)) (cl : Cls K C) (ha : PySem.W.findIn K (.ref C) "__class__" = some (some (.builtin "object.__class__")))
      (hn : PySem.W.specialIn K (.builtin "object.__class__") "__get__" = some (some (.builtin "getset_descriptor.__get__"))) (htk : PySem.W.takesIn K (.builtin "object.__class__") = some true)
      (hm : PySem.W.mroIn K C (.type "object") = some true) : TyOf K H (.ref a) (.ref C)

theorem isinst_ok {x : V} {u t : Value} (I : Inv X pins σ H s) (rx : RelV x u) (ty : TyOf X.K H x t) (e : PySem.W.kitOne X.K t c = some b) (h : ∀ tk, Q (.bool b) { s with toks := tk }) :
    wpAny (model X.prog X.w) A (call (.builtin "isinstance") [u, c]) Q E s := by
  cases ty with
  | non => cases (show u = Value.none from rx); exact PySem.W.kia_one PySem.W.kitx_none I.kIn True.intro e (fun z => nomatch z) h
  | bl y => cases (show u = Value.bool y from rx); exact PySem.W.kia_one PySem.W.kitx_bool I.kIn True.intro e (fun z => nomatch z) h
  | int i => obtain ⟨t, q⟩ := (show ∃ t, u = Value.int i t from rx); cases q; exact PySem.W.kia_one PySem.W.kitx_int I.kIn True.intro e (fun z => nomatch z) h
  | str y => obtain ⟨t, q⟩ := (show ∃ t, u = Value.str y t from rx); cases q; exact PySem.W.kia_one PySem.W.kitx_str I.kIn True.intro e (fun z => nomatch z) h
  | flt y => obtain ⟨t, q⟩ := (show ∃ t, u = Value.float y t from rx); cases q; exact PySem.W.kia_one PySem.W.kitx_float I.kIn True.intro e (fun z => nomatch z) h
  | @lst a xs ea =>
    cases (show u = Value.ref a from rx)
    obtain ⟨_, _, n, _, h1⟩ := (show ObjOk X.prog X.w H s.heap a (.lst xs) from I.hok a _ ea)
    exact PySem.W.kia_one PySem.W.kitx_list I.kIn ⟨_, h1, rfl⟩ e (fun z => nomatch z) h
  | @frz a ob xs ea =>
    cases (show u = Value.ref a from rx)
    obtain ⟨_, _, _, n, _, h1⟩ := (show ObjOk X.prog X.w H s.heap a (.frz ob (.lst xs)) from I.hok a _ ea)
    exact PySem.W.kia_one PySem.W.kitx_list I.kIn ⟨_, h1, rfl⟩ e (fun z => nomatch z) h
  | @tup a xs ea =>
    cases (show u = Value.ref a from rx)
    obtain ⟨_, _, _, p⟩ := (show ObjOk X.prog X.w H s.heap a (.tup xs) from I.hok a _ ea)
    obtain ⟨o, h1, h2, _⟩ := p
    exact PySem.W.kia_one PySem.W.kitx_tuple I.kIn ⟨o, h1, h2⟩ e (fun z => nomatch z) h
  | @dK a kvs ea =>
    cases (show u = Value.ref a from rx)
    obtain ⟨_, _, vs, _, p⟩ := (show ObjOk X.prog X.w H s.heap a (.dK kvs) from I.hok a _ ea)
    obtain ⟨o, es, ep, h1, h2, _⟩ := p
    exact PySem.W.kia_one PySem.W.kitx_dict I.kIn ⟨o, h1, h2.1⟩ e (fun z => nomatch z) h
  | @dT a kvs ea =>
    cases (show u = Value.ref a from rx)
    obtain ⟨_, _, xs, _, o, es, ep, h1, h2, _⟩ := (show ObjOk X.prog X.w H s.heap a (.dT kvs) from I.hok a _ ea)
    exact PySem.W.kia_one PySem.W.kitx_dict I.kIn ⟨o, h1, h2.1⟩ e (fun z => nomatch z) h
  | @ins a C dx fs ea cl ha hn htk hm =>
    cases (show u = Value.ref a from rx)
    obtain ⟨mA, O, _⟩ := ins_get I.hok ea
    obtain ⟨od, J, _⟩ := O.look
    exact PySem.W.kia_one (PySem.W.kitx_own (cl.get _) cl.hd ha hn htk hm) I.kIn J e (fun z => nomatch z) h
end
end L2

namespace L2
open PySem PySem.Spec PyProof.Rows


structure Room (k : Nat) (A : Around) : Prop where
  hd : A.handled = none
  dp : A.depth + 3 * k + 5 < recursionLimit
  un : A.units + 16 * k + 200 < cLine
theorem Room.mono {j k : Nat} {A : Around} (r : Room k A) (h : j ≤ k) : Room j A := ⟨r.hd, by have := r.dp; omega, by have := r.un; omega⟩
theorem Room.deeper {k : Nat} {A : Around} (r : Room (k + 1) A) (env : Env) : Room k (A.deeper env) :=
  ⟨r.hd, by have := r.dp; show A.depth + 1 + 3 * k + 5 < _; omega, by have := r.un; show A.units + 3 + 16 * k + 200 < _; omega⟩
theorem make_depth {A : Around} {C : Addr} {us : List Value} {kw : List (Str × Value)} : (A.under (.builtin "type.__call__" ⟨.ref C :: us, kw⟩)).depth = A.depth + 1 := by
  first | rfl | simp [Around.under, Code.weight, Code.isCreation, Code.isGuard, Code.isCaller, Code.frames, Code.isFrame, guardIds]
theorem make_units {A : Around} {C : Addr} {us : List Value} {kw : List (Str × Value)} : (A.under (.builtin "type.__call__" ⟨.ref C :: us, kw⟩)).units = A.units + 1 := by
  first | rfl | simp [Around.under, Code.cUnits, Code.frames, Code.isFrame]
theorem Room.make {k : Nat} {A : Around} (r : Room (k + 1) A) (C : Addr) (us : List Value) (kw : List (Str × Value)) : Room k (A.under (.builtin "type.__call__" ⟨.ref C :: us, kw⟩)) :=
  ⟨r.hd, by have := r.dp; rw [make_depth]; omega, by have := r.un; rw [make_units]; omega⟩
theorem Room.depth {k : Nat} {A : Around} (r : Room k A) : A.depth < recursionLimit := by have := r.dp; omega
theorem Room.units {k : Nat} {A : Around} (r : Room k A) : A.units + 64 < cLine := by have := r.un; omega
def tNil : TA := fun _ H Q => Q [] H
def tCons (ta : TE) (tr : TA) : TA := fun σ H Q => ta σ H fun x H1 => tr σ H1 fun xs H2 => Q (x :: xs) H2
section
variable {X : Cx} {e : Expr} {es : List Expr} {te : TE} {t : TA} {pos : Pos}
theorem pa_nil : PA X [] tNil := fun _ _ _ _ H Q I h => Calls.spliced_nil ⟨[], H, I, .nil, h⟩
theorem pa_cons (ha : PE X e te) (hr : PA X es t) (hs : starEach (e :: es) X.env = (false, eval e X.env) :: starEach es X.env := by rfl) : PA X (e :: es) (tCons te t) := by
  intro pos pins s σ H Q I h
  rw [hs]
  show wpAny _ _ (spliced ((false, eval e X.env) :: backTo pos (starEach es X.env))) _ _ s
  refine Calls.spliced_cons (thn (ha pins s σ H _ I h) fun u s1 ⟨x, H1, I1, r1, q1⟩ => ?_)
  exact thn (hr pos pins s1 σ H1 _ I1 q1) fun us s2 ⟨xs, H2, I2, r2, q2⟩ => ⟨x :: xs, H2, I2, .cons r1 r2, q2⟩


def tTup (t : TA) : TE := fun σ H Q => t σ H fun xs H1 => xs.length ≤ sizeLine ∧ ∀ p, H1 p = none → Q (.ref p) (upd H1 p (.tup xs))
def tLst (t : TA) : TE := fun σ H Q => t σ H fun xs H1 => xs.length ≤ sizeLine ∧ ∀ p, H1 p = none → Q (.ref p) (upd H1 p (.lst xs))
theorem pe_tup {x1} (h : PA X es t) : PE X (.Tuple es x1 pos) (tTup t) := by
  intro pins s σ H Q I hq
  refine wpAny_Tuple_spliced (thn (h pos pins s σ H _ I hq) fun us s1 ⟨xs, H1, I1, r, z, q⟩ => ⟨by rw [← r.length]; exact z, ?_⟩)
  have hf : H1 s1.heap.objs.size = none := I1.hok.fresh (Nat.le_refl _)
  refine ⟨.ref s1.heap.objs.size, upd H1 s1.heap.objs.size (.tup xs), I1.laid (t' := s1.toks) (fun b u e => Heap.get?_push_of_some _ e) (Nat.le_refl _) ?_, rfl, q _ hf⟩
  exact ⟨z, us, r, ⟨_, Heap.get?_push_size _ rfl, rfl, _, rfl⟩⟩
theorem pe_lst (h : PA X es t) : PE X (.List es pos) (tLst t) := by
  intro pins s σ H Q I hq
  refine wpAny_List_spliced (thn (h pos pins s σ H _ I hq) fun us s1 ⟨xs, H1, I1, r, z, q⟩ => ⟨by rw [← r.length]; exact z, ?_⟩)
  have hf : H1 s1.heap.objs.size = none := I1.hok.fresh (Nat.le_refl _)
  refine ⟨.ref s1.heap.objs.size, upd H1 s1.heap.objs.size (.lst xs), I1.laid (t' := s1.toks) (fun b u e => Heap.get?_push_of_some _ e) (Nat.le_refl _) ?_, rfl, q _ hf⟩
  exact ⟨z, us, 0, r, Heap.get?_push_size _ rfl⟩
end



abbrev Sp := List V → Hp → VK → XK → Prop

abbrev CXT := List Env → Hp → Shared → XK → Value → Shared → Prop


structure Env0 (P : Program) (w : World) (K : PySem.W.Frag) (mg : Str → Option Value) (base : Heap) (A : Around) (outer : List Env) (s : Shared) (H : Hp) : Prop where
  frames : A.frames = some outer
  mod : Mod K mg base
  bs : ∀ b o, base.get? b = some o → s.heap.get? b = some o ∧ H b = none
  bsz : base.objs.size ≤ s.heap.objs.size
  funs : s.heap.FunFrames base outer
  frf : ∀ b ∈ frs outer, H b = none
  hok : HOk P w H s.heap
  bare : AllBare s.gens

def CE (outer : List Env) (P : Program) (w : World) (H : Hp) (s : Shared) (Q : VK) (u : Value) (s' : Shared) : Prop :=
  ∃ v H', s'.os = s.os ∧ AllBare s'.gens ∧ Un (frs outer) [] H H' s.heap s'.heap ∧ HOk P w H' s'.heap ∧ RelV v u ∧ Q v H'
def CR (CX : CXT) (outer : List Env) (P : Program) (w : World) (H : Hp) (s : Shared) (Q : VK) (E : XK) (r : Result) (s' : Shared) : Prop :=
  match r with
  | .ok (.ret u) => CE outer P w H s Q u s'
  | .ok _ => False
  | .error e => CX outer H s E e s'
structure FnOk (P : Program) (w : World) (K : PySem.W.Frag) (mg : Str → Option Value) (base : Heap) (CX : CXT) (k : Nat) (f : Addr) (fd : FuncData) (ps : List Str) (sp : Sp) : Prop where
  len : ∀ vs H Q E, sp vs H Q E → vs.length = ps.length
  run : ∀ (A : Around) (outer : List Env) (s : Shared) (H : Hp) (args : Args) (us : List Value) (vs : List V) (Q : VK) (E : XK), Room k A → Env0 P w K mg base A outer s H → BindsTo s fd args (ps.zip us) → Vals vs us → sp vs H Q E →
    codeAny (model P w) A (.call (.ref f) args) (CR CX outer P w H s Q E) s
theorem FnOk.mono {P : Program} {w : World} {K : PySem.W.Frag} {mg : Str → Option Value} {base : Heap} {CX : CXT} {j k : Nat} {f : Addr} {fd : FuncData} {ps : List Str} {sp : Sp} (F : FnOk P w K mg base CX j f fd ps sp) (h : j ≤ k) :
    FnOk P w K mg base CX k f fd ps sp := ⟨F.len, fun A outer s H args us vs Q E hr => F.run A outer s H args us vs Q E (hr.mono h)⟩

theorem Env0.make {P : Program} {w : World} {K : PySem.W.Frag} {mg : Str → Option Value} {base : Heap} {A : Around} {outer : List Env} {s : Shared} {H : Hp} (e : Env0 P w K mg base A outer s H) (C : Addr) (us : List Value) (kw : List (Str × Value)) :
    Env0 P w K mg base (A.under (.builtin "type.__call__" ⟨.ref C :: us, kw⟩)) outer s H := ⟨by first | exact e.frames | (simpa [Around.under, Code.envs, Code.isFrame, pushEnvs] using e.frames), e.mod, e.bs, e.bsz, e.funs, e.frf, e.hok, e.bare⟩
section
variable {X : Cx} {pins : List (Addr × Obj)} {σ : St} {H : Hp} {s s' : Shared}

theorem Inv.env0 (I : Inv X pins σ H s) : Env0 X.prog X.w X.K X.mg X.base X.A X.stack s H :=
  ⟨I.ok.frames, I.ok.mod, I.bs, Nat.le_trans I.ok.bsz I.sz, I.stack, I.stkFree, I.hok, I.bare⟩

theorem Inv.after {Q : VK} {u : Value} (I : Inv X pins σ H s) (h : CE X.stack X.prog X.w H s Q u s') : EP X pins σ Q u s' := by
  obtain ⟨v, H', os, bare, un, hok, r, q⟩ := h
  obtain ⟨hh, g, d, t, os'⟩ := s'
  obtain rfl : os' = s.os := os
  exact ⟨v, H', I.call (h' := hh) (g' := g) (d' := d) (t' := t) (ch := []) un hok bare (fun b z => absurd z (by simp)), r, q⟩
end



def tCall (sp : Sp) (dvs : List V) (E : XK) (t : TA) : TE := fun σ H Q => t σ H fun vs H1 => sp (vs ++ dvs) H1 Q E

def tMake (C : Addr) (sp : Sp) (dvs : List V) (E : XK) (t : TA) : TE := fun σ H Q => t σ H fun vs H1 => ∀ x dx, H1 x = none → H1 dx = none → dx ≠ x →
  sp (.ref x :: (vs ++ dvs)) (upd (upd H1 dx (.own x)) x (.ins C dx [])) (fun v H2 => v = .non ∧ Q (.ref x) H2) E


def Binds (K : PySem.W.Frag) (fd : FuncData) (ps : List Str) (ds : List Value) : Prop :=
  ∀ (s : Shared) (us : List Value), K.In s.heap → (us ++ ds).length = ps.length → BindsTo s fd ⟨us, []⟩ (ps.zip (us ++ ds))

theorem Binds.all {K : PySem.W.Frag} {fd : FuncData} {ps : List Str} (h : ∀ us : List Value, us.length = ps.length → bindArgs fd ⟨us, []⟩ = pure (ps.zip us)) : Binds K fd ps [] := fun s us _ hl => by
  rw [List.append_nil] at hl ⊢
  exact .of_eq (h us hl)


def Passes (CX : CXT) (X : Cx) (E : XK) : Prop := ∀ (pins : List (Addr × Obj)) (σ : St) (H : Hp) (s : Shared) (e : Value) (s' : Shared), Inv X pins σ H s → CX X.stack H s E e s' → X.xe e s'

section
variable {X : Cx} {CX : CXT} {k : Nat} {f C : Addr} {fd : FuncData} {ps : List Str} {sp : Sp} {dvs : List V} {ds : List Value} {E : XK} {x m : Str} {p pos apos : Pos} {e o : Expr} {es : List Expr} {ta : TE} {t : TA}


theorem run_fn {pins : List (Addr × Obj)} {σ : St} {H : Hp} {s : Shared} {Q : VK} {us : List Value} {vs : List V} (F : FnOk X.prog X.w X.K X.mg X.base CX k f fd ps sp) (hr : Room k X.A) (hb : Binds X.K fd ps ds) (hd : Vals dvs ds) (hx : Passes CX X E)
    (I : Inv X pins σ H s) (r : Vals vs us) (h : sp (vs ++ dvs) H Q E) : wpAny (model X.prog X.w) X.A (call (.ref f) us) (EP X pins σ Q) X.xe s := by
  have r2 : Vals (vs ++ dvs) (us ++ ds) := r.append hd
  have hl : (us ++ ds).length = ps.length := by rw [← r2.length]; exact F.len _ _ _ _ h
  refine wpAny_call (codeAny_mono (F.run X.A X.stack s H ⟨us, []⟩ (us ++ ds) (vs ++ dvs) Q E hr I.env0 (hb s us I.kIn hl) r2 h) fun r s' hq => ?_)
  cases r with
  | error e => exact hx pins σ H s e s' I hq
  | ok fl =>
    cases fl with
    | ret u => exact I.after hq
    | next => exact False.elim hq
    | brk => exact False.elim hq
    | cont => exact False.elim hq

theorem pe_call (F : FnOk X.prog X.w X.K X.mg X.base CX k f fd ps sp) (hr : Room k X.A) (hg : Gl X x) (hm : X.mg x = some (.ref f)) (hk : PySem.W.keepIn X.K (.ref f) = true) (hb : Binds X.K fd ps ds) (hd : Vals dvs ds) (hx : Passes CX X E)
    (ha : PA X (e :: es) t) (hdb : (x == ("__debug__" : Str)) = false := by decide) (he : starEach (e :: es) X.env = (false, eval e X.env) :: starEach es X.env := by rfl) (hpl : (backTo pos (starEach es X.env)).any (·.1) = false := by rfl) :
    PE X (.Call (.Name x p) (e :: es) [] pos) (tCall sp dvs E t) := by
  intro pins s σ H Q I h
  refine wpAny_Call_Name_kw (ld_glob I hg hm ?_ hdb)
  refine PySem.W.callWith_K (h₀ := X.base) I.ok.mod.kin hk (thn (ha pos pins s σ H _ I h) fun us s1 ⟨vs, H1, I1, r, q⟩ => ⟨I1.kIn, ?_⟩) he hpl
  exact run_fn F hr hb hd hx I1 r q
structure Mk (K : PySem.W.Frag) (C f : Addr) : Prop where
  makes : PySem.W.makesIn K C = true
  init : PySem.W.findIn K (.ref C) "__init__" = some (some (.ref f))
  fn : PySem.W.isFn K (.ref f) = true
  kp : PySem.W.keepIn K (.ref C) = true

theorem run_make {pins : List (Addr × Obj)} {σ : St} {H : Hp} {s : Shared} {Q : VK} {us : List Value} {vs : List V} (M : Mk X.K C f) (F : FnOk X.prog X.w X.K X.mg X.base CX k f fd ps sp) (hr : Room (k + 1) X.A) (hb : Binds X.K fd ps ds) (hd : Vals dvs ds)
    (hx : Passes CX X E) (I : Inv X pins σ H s) (r : Vals vs us)
    (h : ∀ x dx, H x = none → H dx = none → dx ≠ x → sp (.ref x :: (vs ++ dvs)) (upd (upd H dx (.own x)) x (.ins C dx [])) (fun v H2 => v = .non ∧ Q (.ref x) H2) E) :
    wpAny (model X.prog X.w) X.A (call (.ref C) us) (EP X pins σ Q) X.xe s := by
  have hq := h (s.heap.objs.size + 1) s.heap.objs.size (I.hok.fresh (Nat.le_succ _)) (I.hok.fresh (Nat.le_refl _)) (Nat.ne_of_lt (Nat.lt_succ_self _))
  have I2 := Inv.made (C := C) I
  have r2 : Vals (V.ref (s.heap.objs.size + 1) :: (vs ++ dvs)) (Value.ref (s.heap.objs.size + 1) :: (us ++ ds)) := .cons rfl (r.append hd)
  have hl : (Value.ref (s.heap.objs.size + 1) :: us ++ ds).length = ps.length := by
    have e := r2.length
    rw [F.len _ _ _ _ hq] at e
    exact e.symm
  refine wpAny_call (make_map (f := f) I.kIn M.makes M.init (beq_iff_eq.mp M.fn) (codeAny_mono (F.run _ X.stack _ _ ⟨Value.ref (s.heap.objs.size + 1) :: us, []⟩ (Value.ref (s.heap.objs.size + 1) :: (us ++ ds)) _ _ E (hr.make C us [])
    (I2.env0.make C us []) (hb _ (Value.ref (s.heap.objs.size + 1) :: us) I2.kIn hl) r2 hq) fun r s' hq' => ?_))
  cases r with
  | error e => exact hx pins σ _ _ e s' I2 hq'
  | ok fl =>
    cases fl with
    | ret u =>
      obtain ⟨v, H', I3, rv, ev, q3⟩ := I2.after hq'
      subst ev
      exact ⟨rv, ⟨V.ref (s.heap.objs.size + 1), H', I3, rfl, q3⟩⟩
    | next => exact False.elim hq'
    | brk => exact False.elim hq'
    | cont => exact False.elim hq'
theorem pe_make (M : Mk X.K C f) (F : FnOk X.prog X.w X.K X.mg X.base CX k f fd ps sp) (hr : Room (k + 1) X.A) (hg : Gl X x) (hm : X.mg x = some (.ref C)) (hb : Binds X.K fd ps ds) (hd : Vals dvs ds) (hx : Passes CX X E)
    (ha : PA X (e :: es) t) (hdb : (x == ("__debug__" : Str)) = false := by decide) (he : starEach (e :: es) X.env = (false, eval e X.env) :: starEach es X.env := by rfl) (hpl : (backTo pos (starEach es X.env)).any (·.1) = false := by rfl) :
    PE X (.Call (.Name x p) (e :: es) [] pos) (tMake C sp dvs E t) := by
  intro pins s σ H Q I h
  refine wpAny_Call_Name_kw (ld_glob I hg hm ?_ hdb)
  refine PySem.W.callWith_K (h₀ := X.base) I.ok.mod.kin M.kp (thn (ha pos pins s σ H _ I h) fun us s1 ⟨vs, H1, I1, r, q⟩ => ⟨I1.kIn, ?_⟩) he hpl
  exact run_make M F hr hb hd hx I1 r q
end



section
variable {X : Cx} {CX : CXT} {k : Nat} {f C : Addr} {fd : FuncData} {ps ks : List Str} {sp : Sp} {E : XK} {x m : Str} {p pos apos kpos : Pos} {e o : Expr} {es : List Expr} {kws : List Keyword} {te ta : TE} {t tk : TA} {nm : Option Str}
variable {g : List Value → List Value → List Value} {gV : List V → List V → List V}
end



structure FnScope (N P : List Str) (sc : Scope) : Prop where
  kind : sc.kind = .function
  co : sc.isCoroutine = false
  gen : sc.isGenerator = false
  nd : N.Nodup
  pre : N.take P.length = P
  par : ∀ x ∈ P, sc.names.lookup x = some .local ∨ sc.names.lookup x = some .cell
  nofree : ∀ y ∈ sc.names, y.2 ≠ .free

theorem bindL_out {kindOf : Str → Option NameKind} {x : Str} : ∀ {binds : List (Str × Value)} {m : Str → Option Value}, (∀ v, (x, v) ∉ binds) → bindL kindOf binds m x = m x
  | [], _, _ => rfl
  | (n, v) :: r, m, h => by
    unfold bindL
    rw [bindL_out fun w hw => h w (List.mem_cons_of_mem _ hw)]
    split
    · have : x ≠ n := by rintro rfl; exact h v List.mem_cons_self
      simp [this]
    · rfl
theorem bindC_out {kindOf : Str → Option NameKind} {x : Str} : ∀ {binds : List (Str × Value)} {m : Str → Option Value}, (∀ v, (x, v) ∉ binds) → bindC kindOf binds m x = m x
  | [], _, _ => rfl
  | (n, v) :: r, m, h => by
    unfold bindC
    rw [bindC_out fun w hw => h w (List.mem_cons_of_mem _ hw)]
    split
    · rfl
    · have : x ≠ n := by rintro rfl; exact h v List.mem_cons_self
      simp [this]
theorem bindL_get {kindOf : Str → Option NameKind} {x : Str} {v : Value} : ∀ {P : List Str} {vs : List Value} {i : Nat} {m : Str → Option Value}, P.Nodup → P[i]? = some x → vs[i]? = some v → kindOf x = some .local →
    bindL kindOf (P.zip vs) m x = some v
  | [], _, _, _, _, h, _, _ => by simp at h
  | _ :: _, [], _, _, _, _, h, _ => by simp at h
  | p :: P, w :: vs, 0, m, nd, h1, h2, hk => by
    simp at h1 h2; subst h1; subst h2
    show bindL kindOf ((p, w) :: P.zip vs) m p = _
    unfold bindL
    rw [bindL_out fun v hv => (List.nodup_cons.mp nd).1 (List.of_mem_zip hv).1, if_pos hk]
    simp
  | p :: P, w :: vs, i + 1, m, nd, h1, h2, hk => by
    show bindL kindOf ((p, w) :: P.zip vs) m x = _
    unfold bindL
    exact bindL_get (i := i) (List.nodup_cons.mp nd).2 (by simpa using h1) (by simpa using h2) hk
theorem bindC_get {kindOf : Str → Option NameKind} {x : Str} {v : Value} : ∀ {P : List Str} {vs : List Value} {i : Nat} {m : Str → Option Value}, P.Nodup → P[i]? = some x → vs[i]? = some v → kindOf x ≠ some .local →
    bindC kindOf (P.zip vs) m x = some v
  | [], _, _, _, _, h, _, _ => by simp at h
  | _ :: _, [], _, _, _, _, h, _ => by simp at h
  | p :: P, w :: vs, 0, m, nd, h1, h2, hk => by
    simp at h1 h2; subst h1; subst h2
    show bindC kindOf ((p, w) :: P.zip vs) m p = _
    unfold bindC
    rw [bindC_out fun v hv => (List.nodup_cons.mp nd).1 (List.of_mem_zip hv).1, if_neg hk]
    simp
  | p :: P, w :: vs, i + 1, m, nd, h1, h2, hk => by
    show bindC kindOf ((p, w) :: P.zip vs) m x = _
    unfold bindC
    exact bindC_get (i := i) (List.nodup_cons.mp nd).2 (by simpa using h1) (by simpa using h2) hk


def start (N : List Str) (vs : List V) : St := vs.map some ++ List.replicate (N.length - vs.length) none


def cxOf (CX : CXT) (P : Program) (w : World) (K : PySem.W.Frag) (mg : Str → Option Value) (base : Heap) (N : List Str) (qual : Str) (scope : Scope) (f : Addr) (cd : Value) (A : Around) (outer : List Env) (s : Shared) (H : Hp) (E : XK) : Cx where
  prog := P
  w := w
  K := K
  mg := mg
  base := base
  A := A.deeper (envOfC qual scope s.heap.objs.size f cd)
  N := N
  s₀ := s
  H₀ := H
  env := envOfC qual scope s.heap.objs.size f cd
  outer := outer
  stack := envOfC qual scope s.heap.objs.size f cd :: outer
  ex := []
  calm := true
  fn := fun _ => true
  pn := []
  xe := fun e s' => wpAny (model P w) (A.deeper (envOfC qual scope s.heap.objs.size f cd)) (leaving (envOfC qual scope s.heap.objs.size f cd) e) (fun _ s'' => CX outer H s E e s'') (fun e' s'' => CX outer H s E e' s'') s'

theorem cell_has {sc : Scope} {n : Nat} {x : Str} (h : sc.names.lookup x = some .cell) : ∃ c, (cellsFrom n sc.names []).lookup x = some c := by
  have q := PySem.W.cellsFrom_some sc.names n [] (.inl h)
  exact Option.isSome_iff_exists.mp q

theorem inv_start {CX : CXT} {P : Program} {w : World} {K : PySem.W.Frag} {mg : Str → Option Value} {base : Heap} {N ps : List Str} {qual : Str} {scope : Scope} {f : Addr} {cd : Value} {A : Around} {outer : List Env} {s s1 : Shared} {H : Hp} {E : XK} {us : List Value} {vs : List V}
    (S : FnScope N ps scope) (hd : A.handled = none) (e0 : Env0 P w K mg base A outer s H) (hl : vs.length = ps.length) (r : Vals vs us)
    (x : InCallC s s.heap.objs.size (bindL (envOfC qual scope s.heap.objs.size f cd).kindOf (ps.zip us) fun _ => none) (cellsFrom (s.heap.objs.size + 1) scope.names []) (bindC (envOfC qual scope s.heap.objs.size f cd).kindOf (ps.zip us) fun _ => none) s1) :
    Inv (cxOf CX P w K mg base N qual scope f cd A outer s H E) [] (start N vs) H s1 := by
  have hpl : ps.length ≤ N.length := by have := congrArg List.length S.pre; rw [List.length_take] at this; omega
  obtain ⟨h1, tk, rfl, hk⟩ := x.done
  have noA : ∀ b : Addr, b ∉ (cxOf CX P w K mg base N qual scope f cd A outer s H E).ex := fun b z => absurd (show b ∈ ([] : List Addr) from z) (by simp)
  refine ⟨⟨e0.mod, S.kind, rfl, rfl, Nat.le_refl _, fun y z c h1 h2 => ?_, fun y hy => ?_, fun y c _ h => ?_, fun _ => hd, Around.frames_deeper e0.frames, .inr ⟨rfl, rfl⟩, fun b z => absurd z (noA b), e0.bs, e0.bsz, fun b _ _ => noA b, fun b z => absurd z (noA b), e0.funs, e0.frf⟩,
    rfl, e0.bare, Un.kept hk, ⟨_, x.toInCall.ns, fun i y v h1 h2 h3 => ?_⟩, fun y c h => ⟨_, x.cell y c h⟩, e0.hok.fresh (Nat.le_refl _), fun y c h => ?_, fun p hp => absurd (show p ∈ ([] : List (Addr × Obj)) from hp) (by simp), e0.hok.kept hk, ?_⟩
  · exact name_of_addr x.apart (PySem.mem_of_lookup h1) (PySem.mem_of_lookup h2)
  · have hy : scope.names.lookup y = some .cell ∨ scope.names.lookup y = some .free := hy
    rcases hy with hy | hy
    · exact cell_has hy
    · exact absurd rfl (S.nofree _ (PySem.mem_of_lookup hy))
  · exact Nat.le_of_lt (x.above y c (PySem.mem_of_lookup h))
  · have hi : i < vs.length := by
      unfold start at h2
      by_cases hi : i < vs.length
      · exact hi
      · rw [List.getElem?_append_right (by simpa using hi)] at h2
        rw [List.getElem?_replicate] at h2
        split at h2 <;> cases h2
    have ha : vs[i]? = some v := by
      unfold start at h2
      rw [List.getElem?_append_left (by simpa using hi), List.getElem?_map] at h2
      cases e : vs[i]? with
      | none => rw [e] at h2; cases h2
      | some a => rw [e] at h2; cases h2; rfl
    obtain ⟨u, hu, rv⟩ := r.get ha
    have hp : ps[i]? = some y := by
      rw [← S.pre, List.getElem?_take_of_lt (by omega)]; exact h1
    have ndP : ps.Nodup := by rw [← S.pre]; exact S.nd.sublist (List.take_sublist _ _)
    refine ⟨u, rv, ?_⟩
    rcases S.par y (List.mem_of_getElem? hp) with k | k
    · exact .inl ⟨k, bindL_get ndP hp hu k⟩
    · obtain ⟨c, e⟩ := cell_has (n := s.heap.objs.size + 1) k
      refine .inr ⟨.inl k, c, e, ?_⟩
      have q := x.cell y c e
      rw [bindC_get ndP hp hu (by show scope.names.lookup y ≠ _; rw [k]; decide)] at q
      exact q
  · exact e0.hok.fresh (Nat.le_of_lt (x.above y c (PySem.mem_of_lookup h)))
  · unfold start
    show _ = N.length
    rw [List.length_append, List.length_map, List.length_replicate]
    omega


theorem fn_of {CX : CXT} {P : Program} {w : World} {K : PySem.W.Frag} {mg : Str → Option Value} {base : Heap} {k : Nat} {f : Addr} {name qual : Str} {params : Arguments} {body : List Stmt} {scope : Scope} {dV kV doc pm cdv ct oc : Value} {an od : Option Addr}
    {osl : Array (Option Value)} {N ps : List Str} {sp : Sp} (lk : K.lookup f = some ⟨oc, od, .func (PySem.W.fnOf name qual params body scope dV kV doc pm an cdv ct), osl⟩) (hcd : PySem.W.codeIn K cdv qual = true) (S : FnScope N ps scope)
    (len : ∀ vs H Q E, sp vs H Q E → vs.length = ps.length)
    (hbody : ∀ (A : Around) (outer : List Env) (s : Shared) (H : Hp) (vs : List V) (Q : VK) (E : XK), Room k (A.deeper (envOfC qual scope s.heap.objs.size f cdv)) → sp vs H Q E →
      ∃ t, PSs (cxOf CX P w K mg base N qual scope f cdv A outer s H E) body t ∧ t { nx := fun _ H' => Q .non H', rt := Q } (start N vs) H) :
    FnOk P w K mg base CX (k + 1) f (PySem.W.fnOf name qual params body scope dV kV doc pm an cdv ct) ps sp := by
  refine ⟨len, fun A outer s H args us vs Q E hr e0 hb r hsp => ?_⟩
  have hl := len _ _ _ _ hsp
  have KX : K.In s.heap := e0.mod.kin.keeps fun b o e => (e0.bs b o e).1
  have lim : s.heap.NoLimit := e0.mod.nolimit.keeps fun b o e => (e0.bs b o e).1
  have hkind : ∀ y ∈ ps.zip us, scope.names.lookup y.1 = some .local ∨ (scope.names.lookup y.1 = some .cell ∧ ((cellsFrom (s.heap.objs.size + 1) scope.names []).lookup y.1).isSome = true) := fun ⟨n, v⟩ hy => by
    rcases S.par n (List.of_mem_zip hy).1 with q | q
    · exact .inl q
    · exact .inr ⟨q, PySem.W.cellsFrom_some _ _ _ (.inl q)⟩
  refine codeAny_call_function hr.depth (KX _ _ lk) rfl S.co S.gen rfl (PySem.W.codeRec_of KX hcd) (hb _ _ _ _ ?_)
  refine wpAny_newFunctionEnv_cells S.kind hkind fun env he s1 x => ?_
  subst he
  refine ⟨lim.keeps x.toInCall.keep, codeAny_func ?_⟩
  obtain ⟨t, ht, hq⟩ := hbody A outer s H vs Q E (hr.deeper _) hsp
  have I : Inv (cxOf CX P w K mg base N qual scope f cdv A outer s H E) [] (start N vs) H s1 := inv_start S hr.hd e0 hl r x
  refine wpAny_mono (ht [] s1 (start N vs) H _ I hq) (fun fl s' hs => ?_) fun e s' hs => hs
  have fin : ∀ {σ' : St} {H' : Hp} {v : V} {u : Value}, Inv (cxOf CX P w K mg base N qual scope f cdv A outer s H E) [] σ' H' s' → RelV v u → Q v H' → CE outer P w H s Q u s' :=
    fun {σ' H' v u} J rv q => ⟨v, H', J.os, J.bare, J.base, J.hok, rv, q⟩
  cases fl with
  | ret u =>
    obtain ⟨v, σ', H', J, rv, q⟩ := hs
    exact fin J rv q
  | next =>
    obtain ⟨σ', H', J, q⟩ := hs
    exact fin (v := V.non) (u := Value.none) J rfl q
  | brk =>
    obtain ⟨_, _, _, q⟩ := hs
    exact False.elim q
  | cont =>
    obtain ⟨_, _, _, q⟩ := hs
    exact False.elim q
end L2

namespace L2
open PySem PySem.Spec PyProof.Rows
section
variable {X : Cx} {x : Str} {p pos : Pos} {e : Expr} {es : List Expr} {t : TA} {id T : String} {r : List V → Hp → VK → Prop}

def tCB (r : List V → Hp → VK → Prop) (t : TA) : TE := fun σ H Q => t σ H fun vs H1 => r vs H1 Q

theorem pe_callB (hc : CallR X (.builtin id) r) (hg : Gl X x) (hm : X.mg x = none) (hv : bootBuiltins x = some (.builtin id)) (ha : PA X (e :: es) t) (hn : x ≠ "__name__" := by decide) (hdb : (x == ("__debug__" : Str)) = false := by decide)
    (he : starEach (e :: es) X.env = (false, eval e X.env) :: starEach es X.env := by rfl) (hpl : (backTo pos (starEach es X.env)).any (·.1) = false := by rfl) : PE X (.Call (.Name x p) (e :: es) [] pos) (tCB r t) := by
  intro pins s σ H Q I h
  refine wpAny_Call_Name_kw (ld_blt I hg hm hv ?_ hn hdb)
  exact PyProof.Rows.callWith_builtin1 (thn (ha pos pins s σ H _ I h) fun us s1 ⟨vs, H1, I1, r1, q1⟩ => hc pins s1 σ H1 vs us Q I1 r1 q1) he hpl

theorem pe_callTy (hc : CallR X (.type T) r) (hg : Gl X x) (hm : X.mg x = none) (hv : bootBuiltins x = some (.type T)) (ha : PA X (e :: es) t) (hn : x ≠ "__name__" := by decide) (hdb : (x == ("__debug__" : Str)) = false := by decide)
    (he : starEach (e :: es) X.env = (false, eval e X.env) :: starEach es X.env := by rfl) (hpl : (backTo pos (starEach es X.env)).any (·.1) = false := by rfl) : PE X (.Call (.Name x p) (e :: es) [] pos) (tCB r t) := by
  intro pins s σ H Q I h
  refine wpAny_Call_Name_kw (ld_blt I hg hm hv ?_ hn hdb)
  exact PyProof.Rows.callWith_type1 (thn (ha pos pins s σ H _ I h) fun us s1 ⟨vs, H1, I1, r1, q1⟩ => hc pins s1 σ H1 vs us Q I1 r1 q1) he hpl

end
end L2

namespace HT
open PySem PyProof.Rows


section
open PySem.SeqAt
open PySem.AutoSeq1 (wpAny_loadPart')
open PySem.MeetsSeq PySem.MeetsSeq2 PySem.MeetsSeq3

end

section
variable {prog : Program} {w : World} {A : Around} {E : Value → Shared → Prop} {s : Shared}

theorem cat_tup {t b : Addr} {vs ws : List Value} {Q : Value → Shared → Prop} (ht : IsTup s.heap t vs.toArray) (hb : IsTup s.heap b ws.toArray) (hv : vs ≠ [])
    (h1 : ws = [] → Q (.ref t) s) (h2 : ws ≠ [] → Q (.ref s.heap.objs.size) { s with heap := s.heap.push { cls := .type "tuple", data := .seq (vs ++ ws).toArray } })
    (hsz : vs.length + ws.length ≤ sizeLine) : wpAny (model prog w) A (binaryOp .Add (.ref t) (.ref b)) Q E s := by
  obtain ⟨⟨cls, dd, data, sl⟩, ho, hc, n, hd⟩ := id ht
  obtain ⟨⟨cls2, dd2, data2, sl2⟩, ho2, hc2, n2, hd2⟩ := id hb
  simp only at hc hd hc2 hd2
  subst hc hd hc2 hd2
  have e : vs.toArray ++ ws.toArray = (vs ++ ws).toArray := by simp
  by_cases hw : ws = []
  · exact concat_meets ⟨_, ho, rfl⟩ ⟨_, ho2, rfl⟩ noFill_tuple_add seq_tuple_add PySem.F.slot_tuple_add PySem.F.entry_tuple_add (PySem.F.args_tuple_add_2 _ _)
      (tuple_addW1 t b vs.toArray ws.toArray n n2 dd dd2 sl sl2 (by simpa using hv) (by simp [hw])) ⟨ho, ho2, h1 hw⟩
  · refine concat_meets ⟨_, ho, rfl⟩ ⟨_, ho2, rfl⟩ noFill_tuple_add seq_tuple_add PySem.F.slot_tuple_add PySem.F.entry_tuple_add (PySem.F.args_tuple_add_2 _ _)
      (tuple_addW2 t b vs.toArray ws.toArray n n2 dd dd2 sl sl2 (by simpa using hv) (by simpa using hw) (by rw [List.size_toArray, List.size_toArray]; exact hsz)) ⟨ho, ho2, ?_⟩
    rw [e]
    exact h2 hw



def sIx (n d : Nat) : Option Int → Nat
  | none => d
  | some v => if v < 0 then (v + (n : Int)).toNat else min v.toNat n
theorem sIx_le (n d : Nat) (hd : d ≤ n) (o : Option Int) : sIx n d o ≤ n := by
  cases o with
  | none => exact hd
  | some v =>
    show (if v < 0 then (v + (n : Int)).toNat else min v.toNat n) ≤ n
    by_cases hv : v < 0
    · rw [if_pos hv]; omega
    · rw [if_neg hv]; exact Nat.min_le_right _ _
theorem clip_eq (v : Int) (n d : Nat) : (if v < 0 then max (v + (n : Int)) 0 else min v (n : Int)) = ((sIx n d (some v) : Nat) : Int) := by
  show (if v < 0 then max (v + (n : Int)) 0 else min v (n : Int)) = (((if v < 0 then (v + (n : Int)).toNat else min v.toNat n) : Nat) : Int)
  by_cases hv : v < 0
  · simp only [if_pos hv]; omega
  · simp only [if_neg hv]; omega
theorem adjust_gen (lo hi : Option Int) (n : Nat) : Builtin.Slice.sliceAdjust lo hi 1 (n : Int) = (((sIx n 0 lo : Nat) : Int), ((sIx n n hi : Nat) : Int)) := by
  have h1 : ¬ ((1 : Int) < 0) := by omega
  unfold Builtin.Slice.sliceAdjust
  simp only [h1, if_false]
  refine Prod.ext ?_ ?_
  · cases lo with
    | none => rfl
    | some v => exact clip_eq v n 0
  · cases hi with
    | none => rfl
    | some v => exact clip_eq v n n
theorem places_gen (i j : Nat) : Builtin.Slice.slicePlaces (i : Int) (j : Int) 1 = j - i := by
  unfold Builtin.Slice.slicePlaces
  have h1 : (1 : Int) > 0 := by omega
  simp only [h1, if_true, Int.ediv_one]
  split <;> omega
theorem slicePart_ {v : Value} {o : Option Int} {Q : Option Int → Shared → Prop} (p : IsPart v o) (h : Q o s) : wpAny (model prog w) A (Builtin.Slice.slicePartIndex v) Q E s := by
  cases p with
  | none => exact slicePart_none h
  | int i t => exact slicePart_int h
theorem sliceApplied_gen {sl : Addr} {vl vu : Value} {lo hi : Option Int} {n : Nat} {Q : Int × Int × Nat → Shared → Prop} (hs : s.heap.IsSliceOf sl vl vu .none) (pl : IsPart vl lo) (pu : IsPart vu hi)
    (h : Q (((sIx n 0 lo : Nat) : Int), 1, sIx n n hi - sIx n 0 lo) s) : wpAny (model prog w) A (Builtin.Slice.sliceApplied (.ref sl) (pure (n : Int))) Q E s := by
  obtain ⟨os, hos, hcs, hds⟩ := id hs
  unfold Builtin.Slice.sliceApplied Builtin.Slice.sliceFields
  refine wpAny_bind (wpAny_bind (wpAny_field hos hds (x := vl) rfl (wpAny_bind (wpAny_field hos hds (x := vu) rfl (wpAny_bind (wpAny_field hos hds (x := .none) rfl (wpAny_pure ?_)))))))
  refine wpAny_bind (slicePart_none ?_)
  show wpAny _ _ (if ((1 : Int) == 0) = true then _ else _) _ _ s
  rw [if_neg (by decide)]
  refine wpAny_bind (slicePart_ pl (wpAny_bind (slicePart_ pu (wpAny_bind (wpAny_pure ?_)))))
  show wpAny _ _ (match Builtin.Slice.sliceAdjust lo hi 1 (n : Int) with | (lo, hi) => pure (lo, (1 : Int), Builtin.Slice.slicePlaces lo hi 1)) _ _ s
  rw [adjust_gen lo hi n]
  show wpAny _ _ (pure (((sIx n 0 lo : Nat) : Int), (1 : Int), Builtin.Slice.slicePlaces ((sIx n 0 lo : Nat) : Int) ((sIx n n hi : Nat) : Int) 1)) _ _ s
  rw [places_gen]
  exact wpAny_pure h
theorem pick_gen (xs : Array Value) (i k : Nat) : ((List.range k).filterMap fun (m : Nat) => xs[((i : Int) + (m : Int) * 1).toNat]?).toArray = ((xs.toList.drop i).take k).toArray := by
  have e : (fun (m : Nat) => xs[((i : Int) + (m : Int) * 1).toNat]?) = fun m => xs[i + m]? := by
    funext m
    have : ((i : Int) + (m : Int) * 1).toNat = i + m := by omega
    rw [this]
  rw [e]
  have := pick_run xs i k
  rw [List.filterMap_map] at this
  have e2 : ((fun x => xs[x]?) ∘ fun x => i + x) = fun m => xs[i + m]? := rfl
  rw [e2] at this
  rw [this]

theorem getItem_tuple_cut {t sl : Addr} {items : Array Value} {vl vu : Value} {lo hi : Option Int} {Q : Value → Shared → Prop} (ht : IsTup s.heap t items) (hs : s.heap.IsSliceOf sl vl vu .none) (pl : IsPart vl lo) (pu : IsPart vu hi)
    (hw : ¬ (sIx items.size 0 lo = 0 ∧ sIx items.size items.size hi = items.size))
    (h : Q (.ref s.heap.objs.size) { s with heap := s.heap.push { cls := .type "tuple", data := .seq ((items.toList.drop (sIx items.size 0 lo)).take (sIx items.size items.size hi - sIx items.size 0 lo)).toArray } })
    (hsz : items.size ≤ sizeLine) : wpAny (model prog w) A (getItem (.ref t) (.ref sl)) Q E s := by
  have htake : sizeOk (.seq ((items.toList.drop (sIx items.size 0 lo)).take (sIx items.size items.size hi - sIx items.size 0 lo)).toArray) := by
    show ((items.toList.drop (sIx items.size 0 lo)).take (sIx items.size items.size hi - sIx items.size 0 lo)).toArray.size ≤ sizeLine
    rw [List.size_toArray, List.length_take, List.length_drop, Array.length_toList]
    omega
  have hj : sIx items.size items.size hi ≤ items.size := sIx_le _ _ (Nat.le_refl _) hi
  obtain ⟨os, hos, hcs, hds⟩ := id hs
  have hTs : s.TypeIs (.ref sl) "slice" := ⟨os, hos, hcs⟩
  unfold getItem
  try with_reducible refine wpAny_holding ?_
  first | refine wpAny_bind (wpAny_pure ?_) | skip
  refine wpAny_bind (wpAny_sequenceKey ht.typeIs (by decide) ?_)
  refine wpAny_bind (wpAny_callSpecial?_slot (name := Str.ofString "__getitem__") ht.typeIs PyProof.Rows.slot_tuple_getitem
    (wpAny_call_entry PyProof.Rows.slot_tuple_getitem ht.typeIs entry_tuple_getitem ?_ (args_tuple_getitem _ _)))
  show wpAny _ _ (Builtin.Tuple.tupleItemsOf (.ref t) >>= _) _ _ s
  refine wpAny_bind (tupleItemsOf_ ht ?_)
  refine wpAny_bind (wpAny_typeOf hTs ?_)
  rw [if_pos (by decide)]
  refine wpAny_bind (sliceApplied_gen hs pl pu ?_)
  have hno : ¬ ((((sIx items.size 0 lo : Nat) : Int) == 0 && (1 : Int) == 1 && (sIx items.size items.size hi - sIx items.size 0 lo) == items.size) = true) := by
    intro q
    rw [Bool.and_eq_true, Bool.and_eq_true] at q
    have q1 : ((sIx items.size 0 lo : Nat) : Int) = 0 := eq_of_beq q.1.1
    have q2 : sIx items.size items.size hi - sIx items.size 0 lo = items.size := eq_of_beq q.2
    exact hw ⟨by omega, by omega⟩
  show wpAny _ _ (if (((sIx items.size 0 lo : Nat) : Int) == 0 && (1 : Int) == 1 && (sIx items.size items.size hi - sIx items.size 0 lo) == items.size) = true then _ else _) _ _ s
  rw [if_neg hno, pick_gen]
  first
    | exact wpAny_bind (m := Builtin.Tuple.tupleExact _) (wpAny_newObj_type (wpAny_pure ⟨_, rfl, wpAny_pure h⟩) htake)
    | exact wpAny_bind (m := Builtin.Tuple.tupleExact _) (wpAny_newObj_type (wpAny_bind (wpAny_pure (wpAny_pure ⟨_, rfl, wpAny_pure h⟩))) htake)
    | exact wpAny_bind (wpAny_bind (m := Builtin.Tuple.tupleExact _) (wpAny_newObj_type (wpAny_pure (wpAny_pure ⟨_, rfl, wpAny_pure h⟩)) htake))
    | exact wpAny_bind (wpAny_bind (m := Builtin.Tuple.tupleExact _) (wpAny_newObj_type (wpAny_pure ⟨_, rfl, wpAny_pure h⟩) htake))
end
end HT

namespace L2
open PySem PySem.Spec PyProof.Rows


abbrev TO := St → Hp → (Option Int → Hp → Prop) → Prop

def PO (X : Cx) (e : Option Expr) (t : TO) : Prop :=
  ∀ (pins : List (Addr × Obj)) (s : Shared) (σ : St) (H : Hp) (Q : Option Int → Hp → Prop), Inv X pins σ H s → t σ H Q →
    wpAny (model X.prog X.w) X.A (evalPart e X.env) (fun u s' => ∃ o H', Inv X pins σ H' s' ∧ IsPart u o ∧ Q o H') X.xe s
def tNoPart : TO := fun _ H Q => Q none H
def tPart (t : TE) : TO := fun σ H Q => t σ H fun x H1 => ∃ i, x = .int i ∧ Q (some i) H1

section
variable {X : Cx} {e : Expr} {te : TE} {lo hi : Option Expr} {tl th : TO} {pos p2 : Pos}

theorem po_none : PO X none tNoPart := by
  intro pins s σ H Q I h
  rw [evalPart_none]
  exact wpAny_pure ⟨none, H, I, .none, h⟩
theorem po_some (h : PE X e te) : PO X (some e) (tPart te) := by
  intro pins s σ H Q I hw
  rw [evalPart_some]
  refine thn (h pins s σ H _ I hw) fun u s1 ⟨x, H1, I1, r1, q1⟩ => ?_
  obtain ⟨i, rfl, q⟩ := q1
  obtain ⟨t, rfl⟩ := r1
  exact ⟨some i, H1, I1, .int i t, q⟩


def SlR (X : Cx) (r : V → Option Int → Option Int → Hp → VK → Prop) : Prop :=
  ∀ (pins : List (Addr × Obj)) (s : Shared) (σ : St) (H : Hp) (x : V) (v vl vu : Value) (lo hi : Option Int) (sl : Addr) (Q : VK), Inv X pins σ H s → RelV x v → s.heap.IsSliceOf sl vl vu .none → IsPart vl lo → IsPart vu hi → r x lo hi H Q →
    ∃ T id, typeLookup (.type T) "__getitem__" = pure (some (.builtin id)) ∧ s.TypeIs v T ∧ wpAny (model X.prog X.w) X.A (getItem v (.ref sl)) (EP X pins σ Q) X.xe s
theorem SlR.or {r r' : V → Option Int → Option Int → Hp → VK → Prop} (h : SlR X r) (h' : SlR X r') : SlR X (fun x lo hi H Q => r x lo hi H Q ∨ r' x lo hi H Q) := by
  intro pins s σ H x v vl vu lo hi sl Q I rx hs pl pu q
  rcases q with q | q
  · exact h pins s σ H x v vl vu lo hi sl Q I rx hs pl pu q
  · exact h' pins s σ H x v vl vu lo hi sl Q I rx hs pl pu q
def tSl (r : V → Option Int → Option Int → Hp → VK → Prop) (te : TE) (tl th : TO) : TE := fun σ H Q => te σ H fun x H1 => tl σ H1 fun l H2 => th σ H2 fun u H3 => r x l u H3 Q

theorem pe_slice {r : V → Option Int → Option Int → Hp → VK → Prop} (hr : SlR X r) (he : PE X e te) (hl : PO X lo tl) (hu : PO X hi th) : PE X (.Subscript e (.Slice lo hi none p2) pos) (tSl r te tl th) := by
  intro pins s σ H Q I h
  refine Subscript_ (thn (he pins s σ H _ I h) fun v s1 ⟨x, H1, I1, r1, q1⟩ => ?_)
  refine wpAny_Slice (thn (hl pins s1 σ H1 _ I1 q1) fun vl s2 ⟨l, H2, I2, pl, q2⟩ => thn (hu pins s2 σ H2 _ I2 q2) fun vu s3 ⟨u, H3, I3, pu, q3⟩ => ?_)
  rw [evalPart_none]
  refine wpAny_pure ?_
  have I4 : Inv X pins σ H3 { s3 with heap := s3.heap.push { cls := .type "slice", data := .fields #[vl, vu, .none] } } := I3.kept (t' := s3.toks) fun b ob q => Heap.get?_push_of_some _ q
  obtain ⟨T, id, hT, ht, hg⟩ := hr pins { s3 with heap := s3.heap.push { cls := .type "slice", data := .fields #[vl, vu, .none] } } σ H3 x v vl vu l u s3.heap.objs.size Q I4 r1 (Heap.IsSliceOf.new ..) pl pu q3
  show wpAny (model X.prog X.w) X.A (subscriptTail e (.Slice lo hi none p2) v (.ref s3.heap.objs.size)) (EP X pins σ Q) X.xe { s3 with heap := s3.heap.push { cls := .type "slice", data := .fields #[vl, vu, .none] } }
  exact tail_any (ops := [.ref s3.heap.objs.size, v]) ht hT hg (by with_unfolding_all rfl)


def cutV (xs : List V) (lo hi : Option Int) : List V := (xs.drop (HT.sIx xs.length 0 lo)).take (HT.sIx xs.length xs.length hi - HT.sIx xs.length 0 lo)
theorem cutV_length (xs : List V) (lo hi : Option Int) : (cutV xs lo hi).length ≤ xs.length := by
  unfold cutV
  rw [List.length_take, List.length_drop]
  omega

def rSlT (K : PySem.W.Frag) : V → Option Int → Option Int → Hp → VK → Prop := fun x lo hi H Q => ∃ a xs, x = .ref a ∧ SqT K H a xs ∧
  ¬ (HT.sIx xs.length 0 lo = 0 ∧ HT.sIx xs.length xs.length hi = xs.length) ∧ ∀ p, H p = none → Q (.ref p) (upd H p (.tup (cutV xs lo hi)))
theorem sl_tup : SlR X (rSlT X.K) := by
  intro pins s σ H x v vl vu lo hi sl Q I rx hs pl pu h
  obtain ⟨a, xs, rfl, hx, hw, q⟩ := h
  cases rx
  obtain ⟨its, r, ht, hz⟩ := I.tuple hx
  have hlen : its.toArray.size = xs.length := by rw [List.size_toArray]; exact r.length.symm
  refine ⟨"tuple", _, PyProof.Rows.slot_tuple_getitem.lookup, ht.typeIs, ?_⟩
  refine HT.getItem_tuple_cut ht hs pl pu (by rw [hlen]; exact hw) ?_ (by rw [hlen]; exact hz)
  rw [hlen]
  refine ⟨.ref s.heap.objs.size, _, I.laid (t' := s.toks) (o := .tup (cutV xs lo hi)) (fun b ob q => Heap.get?_push_of_some _ q) (Nat.le_refl _) ?_, rfl, q _ (I.hok.fresh (Nat.le_refl _))⟩
  exact ⟨Nat.le_trans (cutV_length xs lo hi) hz, _, (r.drop (HT.sIx xs.length 0 lo)).take (HT.sIx xs.length xs.length hi - HT.sIx xs.length 0 lo), IsTup.new _ _⟩


def rCatT (K : PySem.W.Frag) : R2 := fun x y H Q => ∃ a b xs ys, x = .ref a ∧ y = .ref b ∧ SqT K H a xs ∧ SqT K H b ys ∧ xs ≠ [] ∧ xs.length + ys.length ≤ sizeLine ∧
  (ys = [] → Q (.ref a) H) ∧ (ys ≠ [] → ∀ p, H p = none → Q (.ref p) (upd H p (.tup (xs ++ ys))))
theorem Vals.nil_iff {xs : List V} {us : List Value} (r : Vals xs us) : us = [] ↔ xs = [] := by
  cases r with
  | nil => simp
  | cons _ _ => simp
theorem op_catT : OpR X (binaryOp .Add) (rCatT X.K) := by
  intro pins s σ H x y v u Q I rx ry h
  obtain ⟨a, b, xs, ys, rfl, rfl, ha, hb, hx, hz, q1, q2⟩ := h
  cases rx
  cases ry
  obtain ⟨its, r1, p1, _⟩ := I.tuple ha
  obtain ⟨its2, r2, p2, _⟩ := I.tuple hb
  refine HT.cat_tup p1 p2 (fun z => hx (r1.nil_iff.mp z)) (fun z => ⟨.ref a, H, I, rfl, q1 (r2.nil_iff.mp z)⟩) (fun z => ?_) (by rw [← r1.length, ← r2.length]; exact hz)
  refine ⟨.ref s.heap.objs.size, _, I.laid (t' := s.toks) (o := .tup (xs ++ ys)) (fun b ob q => Heap.get?_push_of_some _ q) (Nat.le_refl _) ?_, rfl, q2 (fun w => z (r2.nil_iff.mpr w)) _ (I.hok.fresh (Nat.le_refl _))⟩
  exact ⟨by rw [List.length_append]; exact hz, _, r1.append r2, IsTup.new _ _⟩

end
end L2

namespace L2
open PySem PySem.Spec PyProof.Rows



def ixN (n : Nat) (i : Int) : Option Nat := if 0 ≤ i then (if i < n then some i.toNat else none) else if -(n : Int) ≤ i then some (i + n).toNat else none
def atI {α : Type} (xs : List α) (i : Int) : Option α := (ixN xs.length i).bind fun j => xs[j]?
theorem ixN_seq {n : Nat} {i : Int} {j : Nat} (h : ixN n i = some j) : seqIndex? i n = some j ∧ j < n ∧ -(n : Int) ≤ i ∧ i < n := by
  unfold ixN at h
  by_cases h0 : 0 ≤ i
  · rw [if_pos h0] at h
    by_cases h1 : i < n
    · rw [if_pos h1] at h
      have e : i.toNat = j := Option.some.inj h
      exact ⟨by rw [seqIndex_of h0 h1, e], by omega, by omega, h1⟩
    · rw [if_neg h1] at h; cases h
  · rw [if_neg h0] at h
    by_cases h1 : -(n : Int) ≤ i
    · rw [if_pos h1] at h
      have e : (i + n).toNat = j := Option.some.inj h
      exact ⟨by rw [seqIndex_neg (by omega) h1, e], by omega, h1, by omega⟩
    · rw [if_neg h1] at h; cases h
theorem atI_get {α : Type} {xs : List α} {i : Int} {v : α} (h : atI xs i = some v) : ∃ j, seqIndex? i xs.length = some j ∧ xs[j]? = some v ∧ j < xs.length ∧ -(xs.length : Int) ≤ i ∧ i < xs.length := by
  unfold atI at h
  cases e : ixN xs.length i with
  | none => rw [e] at h; cases h
  | some j =>
    rw [e] at h
    obtain ⟨h1, h2, h3, h4⟩ := ixN_seq e
    exact ⟨j, h1, h, h2, h3, h4⟩
theorem atI_nat {α : Type} {xs : List α} {j : Nat} {v : α} (h : xs[j]? = some v) : atI xs (j : Int) = some v := by
  have hj : j < xs.length := (List.getElem?_eq_some_iff.mp h).1
  have e : ixN xs.length (j : Int) = some j := by
    unfold ixN
    rw [if_pos (by omega), if_pos (by omega)]; simp
  unfold atI; rw [e]; exact h
def PlainIx (b : Expr) : Prop := ∀ o i, subscripted b false o i = operate [o, i] (getItem o i)

def IxR (X : Cx) (r : R2) : Prop :=
  ∀ (value slice : Expr) (pins : List (Addr × Obj)) (s : Shared) (σ : St) (H : Hp) (x y : V) (v u : Value) (Q : VK), Inv X pins σ H s → RelV x v → RelV y u → r x y H Q →
    subscripted slice false v u = operate [v, u] (getItem v u) → wpAny (model X.prog X.w) X.A (subscriptTail value slice v u) (EP X pins σ Q) X.xe s

def MtR (X : Cx) (id : String) (r : V → List V → Hp → VK → Prop) : Prop :=
  ∀ (pins : List (Addr × Obj)) (s : Shared) (σ : St) (H : Hp) (x : V) (xs : List V) (v : Value) (us : List Value) (Q : VK), Inv X pins σ H s → RelV x v → Vals xs us → r x xs H Q →
    wpAny (model X.prog X.w) X.A (call (.builtin id) (v :: us)) (EP X pins σ Q) X.xe s
section
variable {X : Cx} {a b : Expr} {ta tb : TE} {pos : Pos}
theorem IxR.or {r r' : R2} (h : IxR X r) (h' : IxR X r') : IxR X (fun x y H Q => r x y H Q ∨ r' x y H Q) := by
  intro value slice pins s σ H x y v u Q I rx ry q hs
  rcases q with q | q
  · exact h value slice pins s σ H x y v u Q I rx ry q hs
  · exact h' value slice pins s σ H x y v u Q I rx ry q hs
theorem pe_ix {r : R2} (hr : IxR X r) (ha : PE X a ta) (hb : PE X b tb) (hs : PlainIx b) : PE X (.Subscript a b pos) (tOp r ta tb) := by
  intro pins s σ H Q I h
  exact Subscript_ (binT ha hb I h fun v u s2 x y H2 I2 rx ry q => hr a b pins s2 σ H2 x y v u Q I2 rx ry q (hs _ _))

def rIxL (K : PySem.W.Frag) : R2 := fun x y H Q => ∃ p xs i v, x = .ref p ∧ y = .int i ∧ SqL K H p xs ∧ atI xs i = some v ∧ Q v H
def rIxT (K : PySem.W.Frag) : R2 := fun x y H Q => ∃ p xs i v, x = .ref p ∧ y = .int i ∧ SqT K H p xs ∧ atI xs i = some v ∧ Q v H
def rIxS : R2 := fun x y H Q => ∃ z i c, x = .str z ∧ y = .int i ∧ z.length ≤ sizeLine ∧ atI z.cps.toList i = some c ∧ Q (.str ⟨#[c]⟩) H
theorem ix_list : IxR X (rIxL X.K) := by
  intro value slice pins s σ H x y v u Q I rx ry h hs
  obtain ⟨p, xs, i, z, rfl, rfl, hq, he, q⟩ := h
  cases rx
  obtain ⟨t, rfl⟩ := ry
  obtain ⟨its, r, pl, hz⟩ := I.list hq
  obtain ⟨j, h1, h2, h3, h4, h5⟩ := atI_get he
  obtain ⟨w, ew, rw'⟩ := r.get h2
  have hl := r.length
  have hn := line63
  have fin : EP X pins σ Q w s := ⟨z, H, I, rw', q⟩
  by_cases h0 : 0 ≤ i
  · have hj : i.toNat = j := by
      rw [seqIndex_of h0 h5] at h1
      exact Option.some.inj h1
    exact item_listR pl.isList h0 (by omega) (by rw [hj]; simpa using ew) fin hs
  · have hj : (i + (its.toArray.size : Int)).toNat = j := by
      rw [seqIndex_neg (by omega) h4] at h1
      rw [List.size_toArray, ← hl]
      exact Option.some.inj h1
    exact subscriptTail_builtinR (x := w) pl.isList.typeIs slot_list_getitem.lookup
      (wpAny_getItem_list_neg (Q := fun r s' => r = w ∧ EP X pins σ Q r s') pl.isList (by omega) (by rw [List.size_toArray] <;> omega) (by omega) (by rw [hj]; simpa using ew) ⟨rfl, fin⟩) hs
theorem ix_tup : IxR X (rIxT X.K) := by
  intro value slice pins s σ H x y v u Q I rx ry h hs
  obtain ⟨p, xs, i, z, rfl, rfl, hq, he, q⟩ := h
  cases rx
  obtain ⟨t, rfl⟩ := ry
  obtain ⟨its, r, pl, hz⟩ := I.tuple hq
  obtain ⟨j, h1, h2, h3, h4, h5⟩ := atI_get he
  obtain ⟨w, ew, rw'⟩ := r.get h2
  have hl := r.length
  have hn := line63
  have fin : EP X pins σ Q w s := ⟨z, H, I, rw', q⟩
  exact subscriptTail_builtinR (x := w) pl.typeIs slot_tuple_getitem.lookup
    (getItem_tuple (j := j) (Q := fun r s' => r = w ∧ EP X pins σ Q r s') pl (by omega) (by omega) (by rw [List.size_toArray, ← hl]; exact h1) (by simpa using ew) ⟨rfl, fin⟩) hs
theorem ix_str : IxR X rIxS := by
  intro value slice pins s σ H x y v u Q I rx ry h hs
  obtain ⟨z, i, c, rfl, rfl, hz, he, q⟩ := h
  obtain ⟨t, rfl⟩ := rx
  obtain ⟨t', rfl⟩ := ry
  obtain ⟨j, h1, h2, h3, h4, h5⟩ := atI_get he
  have hl : z.cps.toList.length = z.length := by simp [Str.length]
  rw [hl] at h1 h4 h5
  have hn := line63
  exact tail_any (typeIs_str s z t) slot_str_getitem.lookup (getItem_str (c := c) (by
    have e1 : decide (i < -(2 ^ 63 : Int)) = false := decide_eq_false (by omega)
    have e2 : decide (i ≥ 2 ^ 63) = false := decide_eq_false (by omega)
    rw [e1, e2, Bool.or_false]) (by rw [h1]; simpa using h2) ⟨.str ⟨#[c]⟩, H, I.tok _, ⟨_, rfl⟩, q⟩) hs

def rIx (K : PySem.W.Frag) : R2 := fun x y H Q => rIxL K x y H Q ∨ rIxT K x y H Q ∨ rIxS x y H Q
theorem ix_seq : IxR X (rIx X.K) := ix_list.or (ix_tup.or ix_str)



theorem slice_bounds (lo hi : Option Int) (n : Nat) : (sliceBounds lo hi none n).1 = ((HT.sIx n 0 lo : Nat) : Int) ∧ (sliceBounds lo hi none n).2.1 = ((HT.sIx n n hi : Nat) : Int) ∧ (sliceBounds lo hi none n).2.2 = 1 := by
  refine ⟨?_, ?_, rfl⟩
  · cases lo with
    | none => simp [sliceBounds, HT.sIx]
    | some i =>
      simp only [sliceBounds, HT.sIx, Option.getD_none, show (1 : Int) > 0 by decide, if_true]
      by_cases h : i < 0
      · simp only [h, if_true] <;> omega
      · simp only [h, if_false] <;> omega
  · cases hi with
    | none => simp [sliceBounds, HT.sIx]
    | some i =>
      simp only [sliceBounds, HT.sIx, Option.getD_none, show (1 : Int) > 0 by decide, if_true]
      by_cases h : i < 0
      · simp only [h, if_true] <;> omega
      · simp only [h, if_false] <;> omega
theorem slicePick_cut (its : List Value) (lo hi : Option Int) : slicePick its.toArray lo hi none = ((its.drop (HT.sIx its.length 0 lo)).take (HT.sIx its.length its.length hi - HT.sIx its.length 0 lo)).toArray := by
  obtain ⟨h1, h2, h3⟩ := slice_bounds lo hi its.toArray.size
  unfold slicePick
  rw [h1, h2, h3]
  simp only [sliceRange_one, pick_run, List.size_toArray] <;> rfl

def rSlL (K : PySem.W.Frag) : V → Option Int → Option Int → Hp → VK → Prop := fun x lo hi H Q => ∃ a xs, x = .ref a ∧ SqL K H a xs ∧ ∀ p, H p = none → Q (.ref p) (upd H p (.lst (cutV xs lo hi)))
theorem sl_list : SlR X (rSlL X.K) := by
  intro pins s σ H x v vl vu lo hi sl Q I rx hs pl pu h
  obtain ⟨a, xs, rfl, hx, q⟩ := h
  cases rx
  obtain ⟨its, r, ht, hz⟩ := I.list hx
  have hlen := r.length
  refine ⟨"list", _, slot_list_getitem.lookup, ht.isList.typeIs, ?_⟩
  refine wpAny_getItem_list_slice ht.isList hs pl pu .none (by simp) ?_ (by rw [List.size_toArray] <;> omega)
  rw [slicePick_cut, ← hlen]
  refine ⟨.ref s.heap.objs.size, _, I.laid (t' := s.toks) (o := .lst (cutV xs lo hi)) (fun b ob q => Heap.get?_push_of_some _ q) (Nat.le_refl _) ?_, rfl, q _ (I.hok.fresh (Nat.le_refl _))⟩
  exact ⟨Nat.le_trans (cutV_length xs lo hi) hz, _, 0, (r.drop (HT.sIx xs.length 0 lo)).take (HT.sIx xs.length xs.length hi - HT.sIx xs.length 0 lo), Heap.get?_push_size _ rfl⟩


def flatV : V → Bool
  | .non => true
  | .bl _ => true
  | .int _ => true
  | .str _ => true
  | _ => false

def eqV : V → V → Bool
  | .non, .non => true
  | .bl a, .bl b => a == b
  | .bl a, .int b => (if a then 1 else 0) == b
  | .int a, .bl b => a == (if b then 1 else 0)
  | .int a, .int b => a == b
  | .str a, .str b => a == b
  | _, _ => false
theorem eqAt_V {A : Around} {s : Shared} {y x : V} {u v : Value} (ry : RelV y u) (rx : RelV x v) (fy : flatV y = true) (fx : flatV x = true) : SeqAt.EqAt A s u v (eqV y x) := by
  cases y with
  | non =>
    cases ry
    cases x with
    | non => cases rx; exact SeqAt.EqAt.same _
    | bl b => cases rx; exact SeqAt.EqAt.none_bool b
    | int b => obtain ⟨t, rfl⟩ := rx; exact SeqAt.EqAt.none_int b t
    | str b => obtain ⟨t, rfl⟩ := rx; exact SeqAt.EqAt.none_str b t
    | _ => exact absurd (show false = true from fx) Bool.false_ne_true
  | bl a =>
    cases ry
    cases x with
    | non => cases rx; exact SeqAt.EqAt.bool_none a
    | bl b => cases rx; exact SeqAt.EqAt.bool_bool a b
    | int b => obtain ⟨t, rfl⟩ := rx; exact SeqAt.EqAt.bool_int a b t
    | str b => obtain ⟨t, rfl⟩ := rx; exact SeqAt.EqAt.bool_str a b t
    | _ => exact absurd (show false = true from fx) Bool.false_ne_true
  | int a =>
    obtain ⟨t', rfl⟩ := ry
    cases x with
    | non => cases rx; exact SeqAt.EqAt.int_none a t'
    | bl b => cases rx; exact SeqAt.EqAt.int_bool a t' b
    | int b => obtain ⟨t, rfl⟩ := rx; exact SeqAt.EqAt.int_int a t' b t
    | str b => obtain ⟨t, rfl⟩ := rx; exact SeqAt.EqAt.int_str a t' b t
    | _ => exact absurd (show false = true from fx) Bool.false_ne_true
  | str a =>
    obtain ⟨t', rfl⟩ := ry
    cases x with
    | non => cases rx; exact SeqAt.EqAt.str_none a t'
    | bl b => cases rx; exact SeqAt.EqAt.str_bool a t' b
    | int b => obtain ⟨t, rfl⟩ := rx; exact SeqAt.EqAt.str_int a t' b t
    | str b => obtain ⟨t, rfl⟩ := rx; exact SeqAt.EqAt.str_str a t' b t
    | _ => exact absurd (show false = true from fx) Bool.false_ne_true
  | _ => exact absurd (show false = true from fy) Bool.false_ne_true

def eqU (x : V) (u : Value) : Bool := match u with
  | .none => eqV .non x
  | .bool b => eqV (.bl b) x
  | .int i _ => eqV (.int i) x
  | .str z _ => eqV (.str z) x
  | _ => false
theorem eqU_of {x y : V} {u : Value} (r : RelV y u) (f : flatV y = true) : eqU x u = eqV y x := by
  cases y with
  | non => cases r; rfl
  | bl b => cases r; rfl
  | int i => obtain ⟨t, rfl⟩ := r; rfl
  | str z => obtain ⟨t, rfl⟩ := r; rfl
  | _ => exact absurd (show false = true from f) Bool.false_ne_true
theorem any_eqU {x : V} : ∀ {xs : List V} {us : List Value}, Vals xs us → xs.all flatV = true → us.any (eqU x) = xs.any fun y => eqV y x
  | _, _, .nil, _ => rfl
  | y :: xs, u :: us, .cons r t, f => by
    rw [List.all_cons, Bool.and_eq_true] at f
    rw [List.any_cons, List.any_cons, eqU_of r f.1, any_eqU t f.2]
theorem mem_eqAt {A : Around} {s : Shared} {x : V} {v : Value} (rx : RelV x v) (fx : flatV x = true) : ∀ {xs : List V} {us : List Value}, Vals xs us → xs.all flatV = true → ∀ u ∈ us, SeqAt.EqAt A s u v (eqU x u)
  | _, _, .nil, _ => fun u hu => by cases hu
  | y :: xs, u :: us, .cons r t, f => fun u' hu => by
    rw [List.all_cons, Bool.and_eq_true] at f
    rcases List.mem_cons.mp hu with rfl | hu
    · rw [eqU_of r f.1]; exact eqAt_V r rx f.1 fx
    · exact mem_eqAt rx fx t f.2 u' hu
def inV (x : V) (xs : List V) : Bool := xs.any fun y => eqV y x

def rIn (K : PySem.W.Frag) (neg : Bool) : R2 := fun x y H Q => ∃ p xs, y = .ref p ∧ (SqL K H p xs ∨ SqT K H p xs) ∧ flatV x = true ∧ xs.all flatV = true ∧ Q (.bl (if neg then !inV x xs else inV x xs)) H
theorem op_in_seq : OpR X (compareOp .In) (rIn X.K false) := by
  intro pins s σ H x y v u Q I rx ry h
  obtain ⟨p, xs, rfl, hq, fx, fs, q⟩ := h
  cases ry
  rcases hq with hq | hq
  · obtain ⟨its, r, pl, hz⟩ := I.list hq
    refine SeqAt.in_listAt (eqU x) pl.isList (fun w hw => mem_eqAt rx fx r fs w (by simpa using hw)) ⟨.bl _, H, I, rfl, ?_⟩
    rw [show its.toArray.any (eqU x) = its.any (eqU x) by simp, any_eqU r fs]
    exact q
  · obtain ⟨its, r, pl, hz⟩ := I.tuple hq
    refine SeqAt.in_tupleAt (eqU x) pl (fun w hw => mem_eqAt rx fx r fs w (by simpa using hw)) ⟨.bl _, H, I, rfl, ?_⟩
    rw [show its.toArray.any (eqU x) = its.any (eqU x) by simp, any_eqU r fs]
    exact q
theorem call_list_of : CallR X (.type "list") (fun xs H Q => ∃ p ys, xs = [.ref p] ∧ (SqL X.K H p ys ∨ SqT X.K H p ys) ∧ ∀ l, H l = none → Q (.ref l) (upd H l (.lst ys))) := by
  intro pins s σ H xs us Q I r h
  obtain ⟨p, ys, rfl, hq, q⟩ := h
  obtain ⟨u, rfl, rx⟩ := vals1 r
  cases rx
  have fin : ∀ (its : List Value), Vals ys its → ys.length ≤ sizeLine → ∀ (h' : Heap) (c' : Nat), (∀ b o', s.heap.get? b = some o' → h'.get? b = some o') →
      h'.get? s.heap.objs.size = some { cls := .type "list", dict := none, data := .seq its.toArray c', slots := #[] } → EP X pins σ Q (.ref s.heap.objs.size) { s with heap := h' } := fun its r' hz h' c' kp e =>
    ⟨.ref s.heap.objs.size, _, I.laid (t' := s.toks) kp (Nat.le_refl _) (show ObjOk X.prog X.w _ h' _ (.lst ys) from ⟨hz, its, c', r', e⟩), rfl, q _ (I.hok.fresh (Nat.le_refl _))⟩
  rcases hq with hq | hq
  · obtain ⟨its, r', pl, hz⟩ := I.list hq
    have hlen := r'.length
    obtain ⟨o, ho, hc, n, hd⟩ := pl.isList
    exact call_list_seq p (.inl rfl) ho hc hd (fun h' c' kp e => fin its r' hz h' c' kp e) (by simp only [List.size_toArray] <;> omega)
  · obtain ⟨its, r', pl, hz⟩ := I.tuple hq
    have hlen := r'.length
    obtain ⟨o, ho, hc, n, hd⟩ := pl
    exact call_list_seq p (.inr rfl) ho hc hd (fun h' c' kp e => fin its r' hz h' c' kp e) (by simp only [List.size_toArray] <;> omega)
def tyV (K : PySem.W.Frag) (T : String) (x : V) (H : Hp) : Prop := match x with
  | .str _ => T = "str"
  | .int _ => T = "int"
  | .ref p => (T = "list" ∧ ∃ xs, SqL K H p xs) ∨ (T = "tuple" ∧ ∃ o, K.lookup p = some o ∧ o.cls = .type "tuple" ∧ o.dict = none) ∨
      (T = "dict" ∧ ((∃ kvs, H p = some (.dK kvs)) ∨ ∃ kvs, H p = some (.dT kvs))) ∨ (T = "set" ∧ ∃ S n, H p = some (.set S n))
  | _ => False
theorem tyV_is {pins : List (Addr × Obj)} {σ : St} {H : Hp} {s : Shared} {T : String} {x : V} {v : Value} (I : Inv X pins σ H s) (r : RelV x v) (ty : tyV X.K T x H) :
    s.TypeIs v T ∧ ∀ a, v = .ref a → ∃ ob, s.heap.get? a = some ob ∧ ob.dict = none := by
  cases x with
  | str z =>
    obtain ⟨t, rfl⟩ := r
    cases (show T = "str" from ty)
    exact ⟨typeIs_str s z t, fun _ e => nomatch e⟩
  | int i =>
    obtain ⟨t, rfl⟩ := r
    cases (show T = "int" from ty)
    exact ⟨typeIs_int s i t, fun _ e => nomatch e⟩
  | ref p =>
    cases r
    rcases ty with ⟨rfl, xs, hq⟩ | ⟨rfl, o, hk, hc, hd⟩ | ⟨rfl, hk⟩ | ⟨rfl, S, n, hk⟩
    · obtain ⟨its, _, pl, _⟩ := I.list hq
      refine ⟨pl.isList.typeIs, fun a e => ?_⟩
      cases e
      obtain ⟨o, n, e, c, hd, _⟩ := pl
      exact ⟨o, e, hd⟩
    · refine ⟨⟨o, I.kIn p o hk, hc⟩, fun a e => ?_⟩
      cases e
      exact ⟨o, I.kIn _ o hk, hd⟩
    · have z : ∃ o, s.heap.get? p = some o ∧ o.ExactDict := by
        rcases hk with ⟨kvs, hk⟩ | ⟨kvs, hk⟩
        · obtain ⟨_, _, _, _, o, _, _, e, ex, _⟩ := I.hok p _ hk
          exact ⟨o, e, ex⟩
        · obtain ⟨_, _, _, _, o, _, _, e, ex, _⟩ := I.hok p _ hk
          exact ⟨o, e, ex⟩
      obtain ⟨o, e, ex⟩ := z
      refine ⟨⟨o, e, ex.1⟩, fun a e2 => ?_⟩
      cases e2
      exact ⟨o, e, ex.2.1⟩
    · obtain ⟨o, _, _, _, e, ex, _⟩ := I.hok p _ hk
      refine ⟨⟨o, e, ex.1⟩, fun a e2 => ?_⟩
      cases e2
      exact ⟨o, e, ex.2.1⟩
  | _ => exact False.elim ty
def tBM (K : PySem.W.Frag) (T : String) (r : V → List V → Hp → VK → Prop) (to : TE) (t : TA) : TE := fun σ H Q => to σ H fun x H1 => tyV K T x H1 ∧ t σ H1 fun xs H2 => r x xs H2 Q
variable {o e : Expr} {es : List Expr} {to : TE} {t : TA} {name : Str} {apos cpos : Pos} {T id : String} {r : V → List V → Hp → VK → Prop}
theorem pe_bm (pa : PlainAttrs T) (slot : Slot T name id) (hty : typeOf (.builtin id) = pure (.type "method_descriptor")) (hm : MtR X id r) (ho : PE X o to) (ha : PA X (e :: es) t)
    (hbase : attributeBase o name X.env (eval o X.env) = eval o X.env := by rfl)
    (hfew : ((backTo cpos (starEach (e :: es) X.env)).all (fun x => !x.1) && (backToKw cpos (keywordEach [] X.env)).all (fun x => x.1.isSome)
      && decide ((e :: es).length + ([] : List Keyword).length + (if ([] : List Keyword).isEmpty then 0 else 1) < 30)) = true := by rfl)
    (hline : (apos.endLine == cpos.line) = true := by rfl) (hs : starEach (e :: es) X.env = (false, eval e X.env) :: starEach es X.env := by rfl) (hplain : (backTo cpos (starEach es X.env)).any (·.1) = false := by rfl) :
    PE X (.Call (.Attribute o name apos) (e :: es) [] cpos) (tBM X.K T r to t) := by
  intro pins s σ H Q I h
  refine wpAny_Call_method_late hbase hfew hline rfl (thn (ho pins s σ H _ I h) fun v s1 ⟨x, H1, I1, r1, ty, q1⟩ => ?_)
  obtain ⟨h1, h2⟩ := tyV_is I1 r1 ty
  refine ⟨T, id, pa, slot, hty, h1, h2, ?_⟩
  have hA := ha cpos pins s1 σ H1 _ I1 q1
  rw [hs] at hA ⊢
  refine Calls.callWith_builtin (by show (false || (backTo cpos (starEach es X.env)).any (·.1)) = false; rw [hplain] <;> rfl) (Calls.evalArgs_plain ?_)
  exact thn hA fun us s2 ⟨vs, H2, I2, r2, q2⟩ => hm pins s2 σ H2 x vs v us Q I2 r1 r2 q2

end
end L2

namespace L2
open PySem PySem.Spec PyProof.Rows

def MtM (X : Cx) (id : String) (r : V → List V → Hp → VK → Prop) : Prop :=
  ∀ (pins : List (Addr × Obj)) (s : Shared) (σ : St) (H : Hp) (x : V) (xs : List V) (v : Value) (us : List Value) (Q : VK), Inv X pins σ H s → RelV x v → Vals xs us → r x xs H Q →
    wpAny (model X.prog X.w) X.A (call (.builtin id) (v :: us)) (EP X pins σ Q) X.xe s


theorem Vals.one : ∀ {x : V} {us : List Value}, Vals [x] us → ∃ u, us = [u] ∧ RelV x u
  | _, _, .cons r .nil => ⟨_, rfl, r⟩
theorem Vals.rep {xs : List V} {us : List Value} (h : Vals xs us) : ∀ k : Nat, Vals (List.replicate k xs).flatten (List.replicate k us).flatten
  | 0 => .nil
  | k + 1 => by
    rw [List.replicate_succ, List.replicate_succ, List.flatten_cons, List.flatten_cons]
    exact Vals.append h (Vals.rep h k)
theorem foldl_rep (its : List Value) : ∀ (k : Nat) (acc : List Value),
    List.foldl (fun x1 x2 => x1 ++ x2) acc.toArray (List.replicate k its.toArray) = (acc ++ (List.replicate k its).flatten).toArray
  | 0, acc => by simp
  | k + 1, acc => by
    have e : acc.toArray ++ its.toArray = (acc ++ its).toArray := by simp
    have e2 : (acc ++ its) ++ (List.replicate k its).flatten = acc ++ (List.replicate (k + 1) its).flatten := by
      rw [List.replicate_succ, List.flatten_cons, List.append_assoc]
    rw [← e2, ← foldl_rep its k (acc ++ its), ← e, List.replicate_succ, List.foldl_cons]

section
variable {X : Cx} {pins : List (Addr × Obj)} {σ : St} {H : Hp} {s : Shared} {l b : Addr} {xs ys zs : List V}


theorem Inv.lset {its its' : List Value} {n : Nat} {f : Array Value → Array Value} {t' : Nat} (I : Inv X pins σ H s) (hH : H l = some (.lst xs))
    (e : s.heap.get? l = some { cls := .type "list", data := .seq its.toArray n }) (hf : f its.toArray = its'.toArray) (hv : Vals ys its') (hz : ys.length ≤ sizeLine) :
    Inv X pins σ (upd H l (.lst ys)) { s with heap := s.heap.update l (Obj.mapSeq f), toks := t' } := by
  have q := PySem.IsL.update e f
  rw [hf] at q
  refine I.write (x := l) (e := l) (by rw [hH]; exact trivial) (.inl rfl) (fun b' u hb hu => (Heap.get?_update_other s.heap (Obj.mapSeq f) (Ne.symm hb)).trans hu) ⟨_, q⟩ ?_
  exact ⟨hz, its', _, hv, q⟩
theorem Inv.lnew {its : List Value} {t' : Nat} (I : Inv X pins σ H s) (hv : Vals ys its) (hz : ys.length ≤ sizeLine) :
    Inv X pins σ (upd H s.heap.objs.size (.lst ys)) { s with heap := s.heap.push { cls := .type "list", data := .seq its.toArray }, toks := t' } :=
  I.laid (fun _ _ q => Heap.get?_push_of_some _ q) (Nat.le_refl _) ⟨hz, its, 0, hv, Heap.get?_push_size _ rfl⟩
theorem Inv.fresh (I : Inv X pins σ H s) : H s.heap.objs.size = none := I.hok.fresh (Nat.le_refl _)
theorem Inv.lstM (I : Inv X pins σ H s) (hH : H l = some (.lst xs)) : xs.length ≤ sizeLine ∧ ∃ (its : List Value) (n : Nat), Vals xs its ∧ xs.length = its.length ∧ s.heap.get? l = some { cls := .type "list", data := .seq its.toArray n } := by
  obtain ⟨z, its, n, r, e⟩ := I.hok l _ hH
  exact ⟨z, its, n, r, r.length, e⟩

theorem notLongL {n : Nat} (h : n ≤ sizeLine) : Builtin.List.listTooLong n = false := by
  unfold Builtin.List.listTooLong
  exact decide_eq_false (by omega)
end

section
variable {X : Cx}


def rExtend : V → List V → Hp → VK → Prop := fun x vs H Q => ∃ l b xs zs, x = .ref l ∧ vs = [.ref b] ∧ H l = some (.lst xs) ∧ H b = some (.lst zs) ∧ xs.length + zs.length ≤ sizeLine ∧ Q .non (upd H l (.lst (xs ++ zs)))
theorem mt_extend : MtM X "list.extend" rExtend := by
  intro pins s σ H x vs v us Q I rx rv h
  obtain ⟨l, b, xs, zs, rfl, rfl, hH, hB, hz, q⟩ := h
  cases rx
  obtain ⟨u, rfl, ru⟩ := rv.one
  cases ru
  obtain ⟨z, its, n, r, hl, e⟩ := I.lstM hH
  obtain ⟨z2, its2, n2, r2, hl2, e2⟩ := I.lstM hB
  have hsz : its.toArray.size + its2.toArray.size ≤ sizeLine := by rw [List.size_toArray, List.size_toArray]; omega
  have hlong : ¬ (!its.toArray.isEmpty && Builtin.List.listTooLong (its.toArray.size + its2.toArray.size)) = true := by
    rw [notLongL hsz, Bool.and_false]
    exact Bool.false_ne_true
  refine call_meets F.slot_list_extend ⟨_, e, rfl⟩ F.entry_list_extend (F.args_list_extend_2 _ _)
    (AutoSeq1.list_extend_list_list_0 l its.toArray n b its2.toArray n2 hlong (by rw [List.size_toArray]; omega) (by omega)) ⟨e, e2, ?_⟩
  refine ⟨.non, _, I.lset (its' := its ++ its2) hH e (by simp) (r.append r2) ?_, rfl, q⟩
  rw [List.length_append]
  omega

def rCat : R2 := fun x y H Q => ∃ l b xs zs, x = .ref l ∧ y = .ref b ∧ H l = some (.lst xs) ∧ H b = some (.lst zs) ∧ xs.length + zs.length ≤ sizeLine ∧ ∀ p, H p = none → Q (.ref p) (upd H p (.lst (xs ++ zs)))
theorem op_cat : OpR X (binaryOp .Add) rCat := by
  intro pins s σ H x y v u Q I rx ry h
  obtain ⟨l, b, xs, zs, rfl, rfl, hH, hB, hz, q⟩ := h
  cases rx
  cases ry
  obtain ⟨z, its, n, r, hl, e⟩ := I.lstM hH
  obtain ⟨z2, its2, n2, r2, hl2, e2⟩ := I.lstM hB
  refine PySem.P.add_list e e2 ?_ (by rw [List.size_toArray, List.size_toArray]; omega)
  have ea : its.toArray ++ its2.toArray = (its ++ its2).toArray := by simp
  rw [ea]
  exact ⟨.ref _, _, I.lnew (t' := s.toks) (r.append r2) (by rw [List.length_append]; omega), rfl, q _ I.fresh⟩

def rRep : R2 := fun x y H Q => ∃ l k xs, x = .ref l ∧ y = .int k ∧ H l = some (.lst xs) ∧ -(2 ^ 63) ≤ k ∧ k < 2 ^ 63 ∧ xs.length * k.toNat ≤ sizeLine ∧
  ∀ p, H p = none → Q (.ref p) (upd H p (.lst (List.replicate k.toNat xs).flatten))
theorem len_rep {α : Type} (xs : List α) (k : Nat) : (List.replicate k xs).flatten.length = k * xs.length := by
  induction k with
  | zero => simp
  | succ k ih => rw [List.replicate_succ, List.flatten_cons, List.length_append, ih, Nat.succ_mul, Nat.add_comm]
theorem op_rep : OpR X (binaryOp .Mult) rRep := by
  intro pins s σ H x y v u Q I rx ry h
  obtain ⟨l, k, xs, rfl, rfl, hH, h1, h2, hz, q⟩ := h
  cases rx
  obtain ⟨t, rfl⟩ := ry
  obtain ⟨z, its, n, r, hl, e⟩ := I.lstM hH
  have hlen : its.toArray.size * k.toNat ≤ sizeLine := by rw [List.size_toArray, ← hl]; exact hz
  have hcap : ¬ its.toArray.size * k.toNat > (2 ^ 63 - 1) / 8 := by
    have : (sizeLine : Nat) ≤ (2 ^ 63 - 1) / 8 := by decide
    omega
  have hfit : ¬ (!Builtin.List.listFitsIndex k) = true := by
    rw [fitsIndex_both h1 h2]
    exact Bool.false_ne_true
  have hlong : ¬ Builtin.List.listTooLong (its.toArray.size * k.toNat) = true := by
    rw [notLongL hlen]
    exact Bool.false_ne_true
  have hnew : List.foldl (fun x1 x2 => x1 ++ x2) #[] (List.replicate (if its.toArray.isEmpty = true then 0 else k.toNat) its.toArray) = (List.replicate k.toNat its).flatten.toArray := by
    have f0 : ∀ m : Nat, List.foldl (fun x1 x2 => x1 ++ x2) #[] (List.replicate m its.toArray) = (List.replicate m its).flatten.toArray := fun m => by
      have := foldl_rep its m []
      rw [List.nil_append] at this
      exact this
    rw [f0]
    cases its with
    | nil => simp
    | cons a r' => rw [if_neg (by simp)]
  refine wpAny_binaryOp_repeat_ref (T := "list") (U := "int") (by decide) ⟨_, e, rfl⟩ (fun s' => typeIs_int s' k t) noFill_list_mul F.fills_int_mul F.slot_int_rmul repeat_list F.slot_int_index.lookup
    (call_meets F.slot_int_rmul (typeIs_int s k t) F.entry_int_rmul (F.args_int_rmul_2 _ _) (int___rmul___int_list k t l its.toArray n)
      ⟨e, rfl, ⟨_, e, rfl⟩, call_meets F.slot_list_mul ⟨_, e, rfl⟩ F.entry_list_mul (F.args_list_mul_2 _ _) (AutoListH.list___mul___list_int_3 l its.toArray n k t hfit hcap hlong) ⟨e, ?_⟩⟩)
  rw [hnew]
  exact ⟨.ref _, _, I.lnew (t' := s.toks) (r.rep k.toNat) (by rw [len_rep, Nat.mul_comm]; exact hz), rfl, q _ I.fresh⟩


end


section
variable {prog : Program} {w : World} {A : Around} {E : Value → Shared → Prop} {s : Shared}
end

section
variable {X : Cx}

end
end L2

namespace L2
open PySem PySem.Spec PyProof.Rows


section
variable {κ : Type} [DecidableEq κ]
def valV (kvs : List (κ × V)) (k : κ) : Option V := (kvs.find? fun kv => decide (kv.1 = k)).map (·.2)

def putK (kvs : List (κ × V)) (k : κ) (v : V) : List (κ × V) :=
  if (kvs.any fun kv => decide (kv.1 = k)) = true then kvs.map (fun kv => if kv.1 = k then (kv.1, v) else kv) else kvs ++ [(k, v)]
theorem valV_pos {p : κ × V} {r : List (κ × V)} {k : κ} (e : p.1 = k) : valV (p :: r) k = some p.2 := by simp [valV, List.find?_cons, e]
theorem valV_neg {p : κ × V} {r : List (κ × V)} {k : κ} (e : ¬ p.1 = k) : valV (p :: r) k = valV r k := by simp [valV, List.find?_cons, e]
theorem valV_any (k : κ) : ∀ kvs : List (κ × V), (kvs.any fun kv => decide (kv.1 = k)) = (valV kvs k).isSome
  | [] => rfl
  | p :: r => by
    rw [List.any_cons]
    by_cases e : p.1 = k
    · simp only [valV_pos e, decide_eq_true e, Bool.true_or, Option.isSome_some]
    · rw [valV_neg e, decide_eq_false e, Bool.false_or]; exact valV_any k r
theorem length_putK (kvs : List (κ × V)) (k : κ) (v : V) : (putK kvs k v).length ≤ kvs.length + 1 := by
  unfold putK
  split
  · rw [List.length_map]; omega
  · rw [List.length_append, List.length_cons, List.length_nil]; omega
theorem putK_new {kvs : List (κ × V)} {k : κ} (v : V) (h : valV kvs k = none) : putK kvs k v = kvs ++ [(k, v)] := by
  unfold putK
  rw [valV_any, h]
  exact if_neg (by decide)

theorem RelO.isSome_eq {o : Option V} {u : Option Value} (r : RelO o u) : o.isSome = u.isSome := by
  cases o with
  | none => cases u with
    | none => rfl
    | some _ => exact (show False from r).elim
  | some _ => cases u with
    | none => exact (show False from r).elim
    | some _ => rfl
theorem KV.val {kvs : List (κ × V)} {vs : List (κ × Value)} (r : KV kvs vs) (k : κ) : RelO (valV kvs k) (valueAt vs k) := by
  unfold KV at r
  induction r with
  | nil => exact True.intro
  | @cons p q ps qs h t ih =>
    obtain ⟨h1, h2⟩ := h
    by_cases e : p.1 = k
    · have e' : q.1 = k := h1.symm.trans e
      have b : valueAt (q :: qs) k = some q.2 := by simp [valueAt, List.find?_cons, e']
      rw [valV_pos e, b]; exact h2
    · have e' : ¬ q.1 = k := fun z => e (h1.trans z)
      have b : valueAt (q :: qs) k = valueAt qs k := by simp [valueAt, List.find?_cons, e']
      rw [valV_neg e, b]; exact ih
theorem KV.any {kvs : List (κ × V)} {vs : List (κ × Value)} (r : KV kvs vs) (k : κ) : (kvs.any fun kv => decide (kv.1 = k)) = vs.any fun kv => decide (kv.1 = k) := by
  unfold KV at r
  induction r with
  | nil => rfl
  | cons h t ih => rw [List.any_cons, List.any_cons, ih, h.1]
theorem KV.repl {kvs : List (κ × V)} {vs : List (κ × Value)} (r : KV kvs vs) (k : κ) {y : V} {u : Value} (ry : RelV y u) :
    KV (kvs.map fun kv => if kv.1 = k then (kv.1, y) else kv) (vs.map fun kv => if kv.1 = k then (kv.1, u) else kv) := by
  unfold KV at r ⊢
  induction r with
  | nil => exact .nil
  | @cons p q ps qs h t ih =>
    rw [List.map_cons, List.map_cons]
    refine .cons ?_ ih
    obtain ⟨h1, h2⟩ := h
    by_cases e : p.1 = k
    · rw [if_pos e, if_pos (h1.symm.trans e)]; exact ⟨h1, ry⟩
    · rw [if_neg e, if_neg (fun z => e (h1.trans z))]; exact ⟨h1, h2⟩
theorem KV.put {kvs : List (κ × V)} {vs : List (κ × Value)} (r : KV kvs vs) (k : κ) {y : V} {u : Value} (ry : RelV y u) : KV (putK kvs k y) (stored vs k u) := by
  unfold putK stored
  rw [r.any k]
  by_cases e : (vs.any fun kv => decide (kv.1 = k)) = true
  · rw [if_pos e, if_pos e]; exact r.repl k ry
  · rw [if_neg e, if_neg e]; exact Paired.snoc r ⟨rfl, ry⟩
theorem KV.length {kvs : List (κ × V)} {vs : List (κ × Value)} (r : KV kvs vs) : kvs.length = vs.length := Paired.length r
end



theorem kV_is {P : Program} {w : World} {k : Key} {u : Value} (r : RelV (kV k) u) : (mixKind P w).is k u = true := by
  cases k with
  | inl i => obtain ⟨t, e⟩ := (show ∃ t, u = Value.int i t from r); subst e; exact mixKind_int P w i t
  | inr x => obtain ⟨t, e⟩ := (show ∃ t, u = Value.str x t from r); subst e; exact mixKind_str P w x t
theorem items_are {P : Program} {w : World} : ∀ {ks : List Key} {us : List Value}, Vals (ks.map kV) us → ItemsAre (mixKind P w) ks us
  | [], _, r => by rw [List.map_nil] at r; cases r; exact .nil
  | k :: ks, _, r => by
    rw [List.map_cons] at r
    cases r with
    | cons h t => exact .cons (kV_is h) (items_are t)


abbrev KT (H : Hp) : List (List Key × V) → List (List Key × Addr × Value) → Prop := Paired fun p q => p.1 = q.1 ∧ H q.2.1 = some (.tup (p.1.map kV)) ∧ RelV p.2 q.2.2
theorem KT.val {H : Hp} {kvs : List (List Key × V)} {xs : List (List Key × Addr × Value)} (r : KT H kvs xs) (k : List Key) : RelO (valV kvs k) ((atKey xs k).map (·.2)) := by
  induction r with
  | nil => exact True.intro
  | @cons p q ps qs h t ih =>
    obtain ⟨h1, _, h2⟩ := h
    by_cases e : p.1 = k
    · have e' : q.1 = k := h1.symm.trans e
      have b : atKey (q :: qs) k = some q.2 := by simp [atKey, List.find?_cons, e']
      rw [valV_pos e, b]; exact h2
    · have e' : ¬ q.1 = k := fun z => e (h1.trans z)
      have b : atKey (q :: qs) k = atKey qs k := by simp [atKey, List.find?_cons, e']
      rw [valV_neg e, b]; exact ih
theorem KT.repl {H : Hp} {kvs : List (List Key × V)} {xs : List (List Key × Addr × Value)} (r : KT H kvs xs) (k : List Key) {y : V} {u : Value} (ry : RelV y u) :
    KT H (kvs.map fun kv => if kv.1 = k then (kv.1, y) else kv) (xs.map (putAt k u)) := by
  induction r with
  | nil => exact .nil
  | @cons p q ps qs h t ih =>
    rw [List.map_cons, List.map_cons]
    refine .cons ?_ ih
    obtain ⟨h1, h2, h3⟩ := h
    unfold putAt
    by_cases e : p.1 = k
    · rw [if_pos e, if_pos (h1.symm.trans e)]; exact ⟨h1, h2, ry⟩
    · rw [if_neg e, if_neg (fun z => e (h1.trans z))]; exact ⟨h1, h2, h3⟩
theorem KT.put {H : Hp} {kvs : List (List Key × V)} {xs : List (List Key × Addr × Value)} (r : KT H kvs xs) (k : List Key) {b : Addr} {y : V} {u : Value} (hb : H b = some (.tup (k.map kV))) (ry : RelV y u) :
    KT H (putK kvs k y) (storedH xs k b u) := by
  have e : (kvs.any fun kv => decide (kv.1 = k)) = (atKey xs k).isSome := by
    rw [valV_any, (r.val k).isSome_eq, Option.isSome_map]
  unfold putK storedH
  rw [e]
  by_cases q : (atKey xs k).isSome = true
  · rw [if_pos q, if_pos q]; exact r.repl k ry
  · rw [if_neg q, if_neg q]; exact Paired.snoc r ⟨rfl, hb, ry⟩
theorem KT.keeps {H H' : Hp} {kvs : List (List Key × V)} {xs : List (List Key × Addr × Value)} (r : KT H kvs xs) (ht : ∀ b ys, H b = some (.tup ys) → H' b = some (.tup ys)) : KT H' kvs xs :=
  Paired.mapP r fun _ _ z => ⟨z.1, ht _ _ z.2.1, z.2.2⟩

section
variable {P : Program} {w : World} {H : Hp} {h : Heap} {a : Addr}
theorem rd_of {u : HO} (ok : HOk P w H h) (e : Rd H a u) : ObjOk P w H h a u := e.ok ok
theorem dk_rd {kvs : List (Key × V)} (ok : HOk P w H h) (e : Rd H a (.dK kvs)) : kvs.length ≤ sizeLine ∧ (a == sysModules) = false ∧ ∃ vs, KV kvs vs ∧ h.DictOf (mixKind P w) a vs :=
  show ObjOk P w H h a (.dK kvs) from rd_of ok e
theorem dk_of {kvs : List (Key × V)} (ok : HOk P w H h) (e : H a = some (.dK kvs)) : kvs.length ≤ sizeLine ∧ (a == sysModules) = false ∧ ∃ vs, KV kvs vs ∧ h.DictOf (mixKind P w) a vs := dk_rd ok (.inl e)

theorem key_of {ks : List Key} (ok : HOk P w H h) (e : H a = some (.tup (ks.map kV))) : (tupleKind (mixKind P w)).is h ks a := by
  obtain ⟨_, its, r, o, h1, h2, n, h3⟩ := (show ObjOk P w H h a (.tup (ks.map kV)) from ok a _ e)
  exact ⟨o, its.toArray, n, h1, h2, h3, by simpa using items_are r⟩
theorem dt_rd {kvs : List (List Key × V)} (ok : HOk P w H h) (e : Rd H a (.dT kvs)) : kvs.length ≤ sizeLine ∧ (a == sysModules) = false ∧
    ∃ xs, KT H kvs xs ∧ h.DictOfH (tupleKind (mixKind P w)) a xs := by
  obtain ⟨z, y, xs, r, o, es, ep, h1, h2, h3, h4, h5⟩ := (show ObjOk P w H h a (.dT kvs) from rd_of ok e)
  refine ⟨z, y, xs, r, o, es, ep, h1, h2, h3, h4, fun x hx => ?_, h5⟩
  have all : ∀ {l : List (List Key × V)} {m : List (List Key × Addr × Value)}, KT H l m → ∀ x ∈ m, (tupleKind (mixKind P w)).is h x.1 x.2.1 := by
    intro l m q
    induction q with
    | nil => intro x hx; exact nomatch hx
    | @cons p q ps qs hq t ih =>
      intro x hx
      rcases List.mem_cons.mp hx with e | hx
      · subst e
        exact key_of ok (by rw [← hq.1]; exact hq.2.1)
      · exact ih x hx
  exact all r x hx
theorem dt_of {kvs : List (List Key × V)} (ok : HOk P w H h) (e : H a = some (.dT kvs)) : kvs.length ≤ sizeLine ∧ (a == sysModules) = false ∧
    ∃ xs, KT H kvs xs ∧ h.DictOfH (tupleKind (mixKind P w)) a xs := dt_rd ok (.inl e)
end


def DGet (H : Hp) (a : Addr) (y : V) (r : Option V) : Prop :=
  (∃ kvs k, Rd H a (.dK kvs) ∧ y = kV k ∧ r = valV kvs k) ∨ ∃ kvs k b, Rd H a (.dT kvs) ∧ y = .ref b ∧ H b = some (.tup (k.map kV)) ∧ r = valV kvs k

def DPut (H : Hp) (a : Addr) (y v : V) (H' : Hp) : Prop :=
  (∃ kvs k, H a = some (.dK kvs) ∧ y = kV k ∧ kvs.length < sizeLine ∧ H' = upd H a (.dK (putK kvs k v))) ∨
  ∃ kvs k b, H a = some (.dT kvs) ∧ y = .ref b ∧ H b = some (.tup (k.map kV)) ∧ kvs.length < sizeLine ∧ H' = upd H a (.dT (putK kvs k v))
theorem DPut.k {H : Hp} {a : Addr} {kvs : List (Key × V)} {k : Key} {v : V} (e : H a = some (.dK kvs)) (hl : kvs.length < sizeLine) : DPut H a (kV k) v (upd H a (.dK (putK kvs k v))) := .inl ⟨kvs, k, e, rfl, hl, rfl⟩
section
variable {X : Cx} {pins : List (Addr × Obj)} {σ : St} {H : Hp} {s : Shared} {a : Addr} {y v : V} {u r : Value} {o : Option V} {A : Around} {E : Value → Shared → Prop}

theorem Inv.big (I : Inv X pins σ H s) : sysModules < s.heap.objs.size := by
  have h : mainGlobals < s.heap.objs.size := (I.mod.glob.keeps I.bk).lt
  exact Nat.lt_trans (by decide) h


theorem d_getItem {Q : Value → Shared → Prop} (hu : A.units + 1 < cLine) (I : Inv X pins σ H s) (g : DGet H a y (some v)) (ry : RelV y u) (h : ∀ w' s', Inv X pins σ H s' → RelV v w' → Q w' s') :
    wpAny (model X.prog X.w) A (getItem (.ref a) u) Q E s := by
  rcases g with ⟨kvs, k, e, ey, l⟩ | ⟨kvs, k, b, e, ey, eb, l⟩
  · subst ey
    obtain ⟨z, hd, vs, rel, dd⟩ := dk_rd I.hok e
    obtain ⟨w', hw, rw'⟩ := RelO.some_of (v := v) (o := valueAt vs k) (by rw [l]; exact rel.val k)
    exact wpAny_getItem_of (kV_is ry) dd.mapOf hw (h w' _ (I.tok _) rw')
  · subst ey
    cases (show u = Value.ref b from ry)
    obtain ⟨z, hd, xs, rel, dd⟩ := dt_rd I.hok e
    obtain ⟨w', hw, rw'⟩ := RelO.some_of (v := v) (o := (atKey xs k).map (·.2)) (by rw [l]; exact rel.val k)
    obtain ⟨p, hp, hp2⟩ := Option.map_eq_some_iff.mp hw
    refine wpAny_getItem_heap (tupleKind_room_in1 hu) (key_of I.hok eb) dd hp ?_
    rw [hp2]
    exact h w' _ (I.tok _) rw'

theorem d_write {h' : Heap} {t' : Nat} {ob : HO} (I : Inv X pins σ H s) (mu : Mut (H a)) (hs : Heap.SameBut a s.heap h') (he : ∃ q, h'.get? a = some q) (new : ObjOk X.prog X.w (upd H a ob) h' a ob) :
    Inv X pins σ (upd H a ob) { s with heap := h', toks := t' } :=
  I.write (x := a) (e := a) mu (.inl rfl) (fun b q hb z => (hs.2 b hb).trans z) he new
theorem dk_new {P : Program} {w : World} {H' : Hp} {h' : Heap} {kvs : List (Key × V)} {vs : List (Key × Value)} (z : kvs.length ≤ sizeLine) (hd : (a == sysModules) = false) (rel : KV kvs vs) (dd : h'.DictOf (mixKind P w) a vs) :
    ObjOk P w H' h' a (.dK kvs) := ⟨z, hd, vs, rel, dd⟩

theorem d_setItem {H' : Hp} {Q : Unit → Shared → Prop} (hu : A.units + 1 < cLine) (I : Inv X pins σ H s) (g : DPut H a y v H') (ry : RelV y u) (rv : RelV v r) (h : ∀ s', Inv X pins σ H' s' → Q () s') :
    wpAny (model X.prog X.w) A (setItem (.ref a) u r) Q E s := by
  rcases g with ⟨kvs, k, e, ey, l, eH⟩ | ⟨kvs, k, b, e, ey, eb, l, eH⟩
  · subst ey eH
    obtain ⟨z, hd, vs, rel, dd⟩ := dk_of I.hok e
    have hz : vs.length ≤ sizeLine := by rw [← rel.length]; exact z
    have hl : (putK kvs k v).length ≤ sizeLine := by have := length_putK kvs k v; omega
    refine wpAny_setItem_pairs (hsz := hz) (kV_is ry) dd fun h' dd' hs => h _ ?_
    have he : ∃ q, h'.get? a = some q := let ⟨q, _, _, hq, _⟩ := dd'; ⟨q, hq⟩
    exact d_write I (by rw [e]; exact True.intro) hs he (dk_new hl hd (rel.put k rv) dd')
  · subst ey eH
    cases (show u = Value.ref b from ry)
    obtain ⟨z, hd, xs, rel, dd⟩ := dt_of I.hok e
    have hz : xs.length ≤ sizeLine := by rw [← Paired.length rel]; exact z
    have hl : (putK kvs k v).length ≤ sizeLine := by have := length_putK kvs k v; omega
    refine wpAny_setItem_heap (hsz := hz) (tupleKind_room_in1 hu) (key_of I.hok eb) dd fun h' dd' hs => h _ ?_
    obtain ⟨q, es, ep, hq, h2, h3, h4, _, h5⟩ := dd'
    refine d_write I (by rw [e]; exact True.intro) hs ⟨q, hq⟩ ⟨hl, hd, _, (rel.put k eb rv).keeps fun c ys ec => ?_, q, es, ep, hq, h2, h3, h4, h5⟩
    rw [upd_ne (ne_of ec e (fun z => nomatch z))]
    exact ec
end

section
variable {X : Cx} {pins : List (Addr × Obj)} {σ : St} {H : Hp} {s : Shared} {a : Addr} {kvs : List (Key × V)} {k : Key} {u : Value} {A : Around} {E : Value → Shared → Prop}

end




def NoSl (i : Expr) : Prop := ∀ ov iv, subscripted i false ov iv = operate [ov, iv] (getItem ov iv)
theorem subD_of {prog : Program} {w : World} {A : Around} {E : Value → Shared → Prop} {s : Shared} {env : Env} {value slice : Expr} {pos : Pos} {T id : String} {Q : Value → Shared → Prop}
    (hl : typeLookup (.type T) "__getitem__" = pure (some (.builtin id))) (hs : NoSl slice)
    (h : wpAny (model prog w) A (eval value env) (fun o s₁ => wpAny (model prog w) A (eval slice env) (fun i s₂ => s₂.TypeIs o T ∧ wpAny (model prog w) A (getItem o i) Q E s₂) E s₁) E s) :
    wpAny (model prog w) A (eval (.Subscript value slice pos) env) Q E s := by
  refine Subscript_ (wpAny_mono h (fun o s₁ h₁ => wpAny_mono h₁ (fun i s₂ h₂ => ?_) fun _ _ x => x) fun _ _ x => x)
  obtain ⟨hT, h₂⟩ := h₂
  unfold subscriptTail
  refine wpAny_bind ?_
  rw [getitemInPython_of_ne hT.not_modules]
  refine wpAny_bind (wpAny_specialOf hT hl ?_)
  have fin : wpAny (model prog w) A (subscripted slice false o i) (fun r s₃ => wpAny (model prog w) A (letTemporaryGo value o r >>= fun _ => pure r) Q E s₃) E s₂ := by
    rw [hs o i]
    exact wpAny_operating (wpAny_mono h₂ (fun r s₃ h₃ => wpAny_bind (wpAny_letTemporaryGo (wpAny_pure h₃))) fun _ _ x => x)
  first
    | exact wpAny_pure (wpAny_bind fin)
    | exact wpAny_bind (wpAny_pure (wpAny_bind fin))
    | exact wpAny_bind fin

theorem dict_typeIs {X : Cx} {pins : List (Addr × Obj)} {σ : St} {H : Hp} {s : Shared} {a : Addr} {y : V} {o : Option V} (I : Inv X pins σ H s) (g : DGet H a y o) : s.TypeIs (.ref a) "dict" := by
  rcases g with ⟨kvs, k, e, _, _⟩ | ⟨kvs, k, b, e, _, _, _⟩
  · obtain ⟨_, _, vs, _, dd⟩ := dk_rd I.hok e
    exact dd.typeIs
  · obtain ⟨_, _, xs, _, dd⟩ := dt_rd I.hok e
    exact dd.typeIs
def tDGet (td ty : TE) : TE := fun σ H Q => td σ H fun x H1 => ty σ H1 fun y H2 => ∃ a v, x = .ref a ∧ DGet H2 a y (some v) ∧ Q v H2

def sDPut (td ty tv : TE) : TS := fun D σ H => tv σ H fun v H1 => td σ H1 fun x H2 => ty σ H2 fun y H3 => ∃ a H4, x = .ref a ∧ DPut H3 a y v H4 ∧ D.nx σ H4

section
variable {X : Cx} {o i e value : Expr} {pos pos' tpos : Pos} {td ty tv : TE}
theorem pe_dget (hu : X.A.units + 1 < cLine) (ho : PE X o td) (hi : PE X i ty) (hs : NoSl i) : PE X (.Subscript o i pos) (tDGet td ty) := by
  intro pins s σ H Q I h
  refine subD_of PySem.F.slot_dict_getitem.lookup hs (thn (ho pins s σ H _ I h) fun u s1 ⟨x, H1, I1, rx, q1⟩ => thn (hi pins s1 σ H1 _ I1 q1) fun iv s2 ⟨y, H2, I2, ry, a, v, ex, g, q2⟩ => ?_)
  subst ex
  obtain rfl : u = Value.ref a := rx
  exact ⟨dict_typeIs I2 g, d_getItem hu I2 g ry fun w' s3 I3 rw' => ⟨v, H2, I3, rw', q2⟩⟩
theorem ps_dput (hu : X.A.units + 1 < cLine) (ho : PE X o td) (hi : PE X i ty) (hv : PE X value tv) (hs : swapsWith value (some (.Subscript o i pos')) pos.line X.env = pure false) :
    PS X (.Assign [.Subscript o i pos'] value pos) (sDPut td ty tv) := by
  intro pins s σ H D I h
  refine wpAny_Assign_Subscript (thn (hv pins s σ H _ I h) fun r s1 ⟨v, H1, I1, rv, q1⟩ => thn (ho pins s1 σ H1 _ I1 q1) fun u s2 ⟨x, H2, I2, rx, q2⟩ => thn (hi pins s2 σ H2 _ I2 q2) fun iv s3 ⟨y, H3, I3, ry, a, H4, ex, g, q3⟩ => ?_) hs
  subst ex
  obtain rfl : u = Value.ref a := rx
  exact d_setItem hu I3 g ry rv fun s4 I4 => ⟨σ, H4, I4, q3⟩
end



theorem dk_empty {P : Program} {w : World} {H : Hp} (h : Heap) (hb : sysModules < h.objs.size) : ObjOk P w H (h.push { cls := .type "dict", data := .dict #[] }) h.objs.size (.dK []) :=
  ⟨Nat.zero_le _, beq_eq_false_iff_ne.mpr (Ne.symm (Nat.ne_of_lt hb)), [], .nil, Heap.DictOf.new h⟩
def tDNewK : TE := fun _ H Q => ∀ p, H p = none → Q (.ref p) (upd H p (.dK []))
section
variable {X : Cx} {pos : Pos}
theorem pe_dnewK : PE X (.Dict [] [] pos) tDNewK := fun pins s σ H Q I h =>
  wpAny_Dict_empty ⟨.ref s.heap.objs.size, _, I.laid (a := s.heap.objs.size) (o := .dK []) (t' := s.toks) (fun _ _ q => Heap.get?_push_of_some _ q) (Nat.le_refl _) (dk_empty s.heap I.big), rfl, h _ (I.hok.fresh (Nat.le_refl _))⟩
end


section
variable {X : Cx} {pins : List (Addr × Obj)} {σ : St} {H : Hp} {s : Shared} {a : Addr} {y d : V} {u r : Value} {o : Option V} {A : Around} {E : Value → Shared → Prop}

end

section
variable {X : Cx} {o e f : Expr} {apos cpos : Pos} {td ty tx : TE}
end


section
variable {X : Cx} {pins : List (Addr × Obj)} {σ : St} {H : Hp} {s : Shared} {a : Addr} {kvs : List (Key × V)} {A : Around} {E : Value → Shared → Prop}
theorem d_copyOf {Q : Value → Shared → Prop} (I : Inv X pins σ H s) (e : Rd H a (.dK kvs)) (h : ∀ p s', H p = none → Inv X pins σ (upd H p (.dK kvs)) s' → Q (.ref p) s') : wpAny (model X.prog X.w) A (call (.type "dict") [.ref a]) Q E s := by
  obtain ⟨z, hd, vs, rel, dd⟩ := dk_rd I.hok e
  refine kt_call_dict hd dd (by rw [← rel.length]; exact z) fun h' dd' hs => ?_
  refine h _ _ (I.hok.fresh (Nat.le_refl _)) (I.laid (a := s.heap.objs.size) (o := .dK kvs) (t' := s.toks) (fun b q hq => ?_) (Nat.le_refl _) (dk_new z (beq_eq_false_iff_ne.mpr (Ne.symm (Nat.ne_of_lt I.big))) rel dd'))
  exact (hs.2 b (Nat.ne_of_lt (Heap.lt_size hq))).trans (Heap.get?_push_of_some _ hq)
end


section
variable {X : Cx} {pins : List (Addr × Obj)} {σ : St} {H : Hp} {s : Shared} {a : Addr} {y : V} {u : Value} {A : Around} {E : Value → Shared → Prop}

end
end L2

namespace Att
open PySem PySem.W PySem.Calls PyProof.Rows


theorem ints_of_wellAll {P : Params} {h : Heap} : ∀ (ns : List Int) (vs : List Value), WellAll P h vs (ns.map WData.int) → IntsAre vs ns := by
  intro ns
  induction ns with
  | nil =>
    intro vs w
    rw [List.map_nil] at w
    cases w
    exact .nil
  | cons n ns ih =>
    intro vs w
    rw [List.map_cons] at w
    cases w with
    | cons a b =>
      cases a
      exact .cons _ _ (ih _ b)

theorem script_of {l : OpenLaw} {n : Nat} (hn : l.most = some n) {P : Params} {h : Heap} {args : List WData} {vals : List Value}
    (hpre : l.row.toRowW.claim.pre args = true) (hwl : WellAll P h vals args) :
    ∃ a vs ns, vals = [Value.ref a] ∧ args = [WData.list (ns.map WData.int)] ∧ h.get? a = some { cls := .type "list", data := .seq vs.toArray } ∧ IntsAre vs ns ∧ ns.length ≤ n := by
  have hsh : WShape.hasAll [] args [.list .int] = true := (pre_splitW hpre).1
  have hc : l.pre.holds [] { args := args } = true := (pre_splitW hpre).2
  obtain ⟨d, r, rfl, h1, h2⟩ := hasAllW_cons hsh
  obtain rfl := hasAllW_nil h2
  obtain ⟨xs, rfl, h3⟩ := hasW_list h1
  obtain ⟨ns, rfl⟩ := items_int h3
  have hlen : ns.length ≤ n := by
    unfold OpenLaw.pre at hc
    have h4 : (WTm.not (.lt (.lit (.int (n : Int))) (.len (.arg 0)))).holds [] { args := [.list (ns.map .int)] } = true := by
      have h4 := (holds_andW hc).1
      rw [hn] at h4
      exact h4
    have h5 := condW_of h4 (w_not (w_lt w_lit (w_len_list (w_arg rfl))))
    rw [List.length_map] at h5
    refine Nat.le_of_not_lt fun q => ?_
    have q' : (n : Int) < ((ns.length : Nat) : Int) := by omega
    first
      | (rw [decide_eq_true q'] at h5; exact absurd h5 (by decide))
      | (simp at h5; omega)
  cases hwl with
  | cons w1 w2 =>
    cases w2
    cases w1 with
    | list ho hall => exact ⟨_, _, ns, rfl, rfl, ho, ints_of_wellAll ns _ hall, hlen⟩

theorem post_true (l : OpenLaw) (args : List WData) : l.row.toRowW.claim.post args (.bool true) args = true :=
  postW_of (r := l.row.toRowW) (X := (true == true))
    (show WShape.has [] (.bool true) .bool = true by first | rfl | decide | simp [WShape.has, WShape.arms, WShape.armsAll])
    (show (WTm.eq .res (.lit (.bool true))).value [] { args := args, res := some (.bool true), after := args } = some (.bool (true == true)) from w_eq_bool (w_res rfl) w_lit) rfl


theorem attach_call {l : OpenLaw} {n : Nat} {q : Program} {loose : List Str} {XP : (Str → Option Value) → Heap → Prop} {YP : World → Heap → Prop} {d : DefRec}
    (hn : l.most = some n) (hdf : d.params.defaults = [])
    (call : ∀ (w : World) (s₀ s₁ : Shared) (mg mb : Str → Option Value) (fa : Addr) (o : Obj) (pm cd doc : Value) (a : Addr) (vs : List Value) (ns : List Int),
      Ground q loose [] XP w s₀ mg mb s₁.heap → YP w s₁.heap →
      s₁.heap.get? fa = some o → o.data = .func (docDef d.name d.params d.body d.scope pm cd doc) → s₁.heap.CodeRec cd d.name → mg d.name = some (.ref fa) →
      s₁.heap.get? a = some { cls := .type "list", data := .seq vs.toArray } → IntsAre vs ns → ns.length ≤ n → s₁.gens = #[] →
      codeAny (model l.prog w) callerA (.call (.ref fa) ⟨[.ref a], []⟩) (fun r s' => r = .ok (.ret (.bool true)) ∧ OldK s₁.heap s'.heap ∧ s'.os = s₁.os ∧ AllBare s'.gens) s₁) :
    WalkO q loose XP YP l.row.toRowW d [] (fun f vs => PySem.call f vs) := by
  intro w s₀ s₁ mg mb G Y fa o pm cd doc dV kV ho hd hcd hD hmg hg args vals as hpre hlay hrd hwl hlo
  obtain rfl : dV = .none := Dflts.none hD hdf
  obtain rfl : kV = .none := Dflts.noKw hD
  obtain ⟨a, vs, ns, rfl, rfl, hobj, hints, hlen⟩ := script_of hn hpre hwl
  refine enter_call (codeAny_mono (call w s₀ s₁ mg mb fa o pm cd doc a vs ns G Y ho (fd_plain hd) hcd hmg hobj hints hlen hg) fun r s' hq => ?_)
  obtain ⟨rfl, h2, h3, h4⟩ := hq
  exact ⟨.inl ⟨.bool true, .bool true, [], rfl, fun _ => rfl, .bool true, post_true l _, fun _ => ⟨List.Pairwise.nil, fun _ hm => (nomatch hm)⟩⟩, h2, h3, h4⟩


section
variable {prog : Program} {w : World} {A : Around} {E : Value → Shared → Prop} {s : Shared} {K : Frag}


end
end Att

namespace L2
open PySem PySem.Spec PyProof.Rows

theorem vals_ints : ∀ {vs : List Value} {ns : List Int}, IntsAre vs ns → Vals (ns.map V.int) vs
  | _, _, .nil => .nil
  | _, _, .cons n t h => .cons ⟨t, rfl⟩ (vals_ints h)


def Only (H : Hp) : Prop := ∀ b, H b = none ∨ ∃ o xs, H b = some (.frz o (.lst xs))


theorem law_call {P : Program} {w : World} {K : PySem.W.Frag} {mg mb : Str → Option Value} {CX : CXT} {k : Nat} {fa a : Addr} {fd : FuncData} {x : Str} {sp : Sp} {s₁ : Shared} {vs : List Value} {ns : List Int}
    (KX : K.In s₁.heap) (hns : s₁.heap.Ns mainGlobals mg) (hb : s₁.heap.Ns builtinsNs mb) (hbb : ∀ x : Str, x ≠ "__name__" → mb x = bootBuiltins x) (hlim : s₁.heap.NoLimit) (hg : s₁.gens = #[])
    (ha : s₁.heap.get? a = some { cls := .type "list", data := .seq vs.toArray }) (hi : IntsAre vs ns) (hl : ns.length ≤ sizeLine) (hr : Room k callerA)
    (F : ∀ base : Heap, K.In base → base.Ns mainGlobals mg → FnOk P w K mg base CX k fa fd [x] sp) (hbind : ∀ (s : Shared) (u : Value), BindsTo s fd ⟨[u], []⟩ [(x, u)])
    (hsp : ∀ H : Hp, Only H → SqL K H a (ns.map V.int) → sp [.ref a] H (fun v _ => v = .bl true) fun _ _ _ => False)
    (hCX : ∀ H e s', CX [] H s₁ (fun _ _ _ => False) e s' → False) :
    codeAny (model P w) callerA (.call (.ref fa) ⟨[.ref a], []⟩) (fun r s' => r = .ok (.ret (.bool true)) ∧ OldK s₁.heap s'.heap ∧ s'.os = s₁.os ∧ AllBare s'.gens) s₁ := by
  have rv := vals_ints hi
  have lenV := hi.length
  -- from an abstract heap in which nothing but the script may be tracked
  have core : ∀ H : Hp, Only H → SqL K H a (ns.map V.int) → HOk P w H s₁.heap → (∀ b, H b ≠ none → b = a) → (H a ≠ none → K.lookup a = none) →
      codeAny (model P w) callerA (.call (.ref fa) ⟨[.ref a], []⟩) (fun r s' => r = .ok (.ret (.bool true)) ∧ OldK s₁.heap s'.heap ∧ s'.os = s₁.os ∧ AllBare s'.gens) s₁ := by
    intro H hO hS hok hA hK
    have base_of : ∀ {b : Addr} {o : Obj}, s₁.heap.get? b = some o → H b = none → (hidT s₁.heap H).get? b = some o := fun e n => hidT_get e n
    have noA : ∀ {b : Addr} {o : Obj} {es : Array DictEntry} {ep : Nat}, s₁.heap.get? b = some o → o.data = .dict es ep → H b = none := fun {b o es ep} e d => by
      cases q : H b with
      | none => rfl
      | some u =>
        have e' : b = a := hA b (by rw [q]; simp)
        subst e'
        rw [ha] at e; cases e
        have d' : Data.seq vs.toArray _ = Data.dict es ep := d
        cases d'
    have nsK : ∀ {b : Addr} {m : Str → Option Value}, s₁.heap.Ns b m → (hidT s₁.heap H).Ns b m := fun {b m} ⟨o, es, ep, e, d, r⟩ => ⟨o, es, ep, base_of e (noA e d), d, r⟩
    have hKb : K.In (hidT s₁.heap H) := fun b o e => base_of (KX b o e) (by
      cases q : H b with
      | none => rfl
      | some u =>
        have e' : b = a := hA b (by rw [q]; simp)
        subst e'
        rw [hK (by rw [q]; simp)] at e; cases e)
    have hM : Mod K mg (hidT s₁.heap H) := ⟨hKb, nsK hns, ⟨mb, nsK hb, hbb⟩, let ⟨mc, h1, h2⟩ := hlim; ⟨mc, nsK h1, h2⟩⟩
    have e0 : Env0 P w K mg (hidT s₁.heap H) callerA [] s₁ H := ⟨rfl, hM, fun b o e => of_hidT e, Nat.le_of_eq (hidT_size _ _), trivial, fun b hb => absurd (show b ∈ ([] : List Addr) from hb) (by simp), hok, .of_eq hg⟩
    refine codeAny_mono ((F _ hKb (nsK hns)).run callerA [] s₁ H ⟨[.ref a], []⟩ [.ref a] [.ref a] _ _ hr e0 (hbind s₁ (.ref a)) (.cons rfl .nil) (hsp H hO hS)) fun r s' h => ?_
    cases r with
    | error e => exact (hCX H e s' h).elim
    | ok fl =>
      cases fl with
      | next => exact False.elim h
      | brk => exact False.elim h
      | cont => exact False.elim h
      | ret u =>
        obtain ⟨v, H', os, bare, un, hok', r', q⟩ := h
        have q' : v = .bl true := q
        subst q'
        obtain rfl : u = Value.bool true := r'
        refine ⟨rfl, OldK.of_keep fun b o e => ?_, os, bare⟩
        cases q : H b with
        | none => exact un.keep b o e q (by intro z; exact absurd (show b ∈ ([] : List Addr) from z) (by simp)) (by simp)
        | some u =>
          rcases hO b with z | ⟨ob, xs, z⟩
          · rw [q] at z; cases z
          · have z2 := un.frzs b ob _ z
            obtain ⟨e1, _⟩ := hok b _ z
            obtain ⟨e2, _⟩ := hok' b _ z2
            rw [e] at e1; cases e1
            exact e2
  cases hk : K.lookup a with
  | some o =>
    -- the script is one of the module's own objects
    have e := KX a o hk
    rw [ha] at e
    cases e
    refine core (fun _ => none) (fun _ => .inl rfl) (.inr ⟨_, vs.toArray, _, hk, rfl, rfl, rfl, by rw [List.size_toArray, lenV]; exact hl, by simpa using rv⟩) (fun b u z => by have z' : (none : Option HO) = some u := z; cases z') (fun b z => absurd rfl z) fun z => absurd rfl z
  | none =>
    refine core (fun b => if b = a then some (.frz { cls := .type "list", data := .seq vs.toArray } (.lst (ns.map V.int))) else none) (fun b => ?_) (.inl (.inr ⟨{ cls := .type "list", data := .seq vs.toArray }, if_pos rfl⟩)) (fun b u z => ?_) (fun b z => ?_) fun _ => hk
    · by_cases hb : b = a
      · exact .inr ⟨_, _, if_pos hb⟩
      · exact .inl (if_neg hb)
    · by_cases hb : b = a
      · have z' := (if_pos hb).symm.trans z
        cases z'
        subst hb
        exact ⟨ha, by rw [List.length_map]; exact hl, vs, _, rv, ha⟩
      · have z' := (if_neg hb).symm.trans z
        cases z'
    · by_cases hb : b = a
      · exact hb
      · exact absurd (if_neg hb) z
end L2

namespace L2
open PySem PySem.Spec PyProof.Rows

abbrev KOf {K : PySem.W.Frag} {h : Heap} (_ : K.In h) : PySem.W.Frag := K


theorem walk_of {l : PySem.W.OpenLaw} {n k : Nat} {q : Program} {loose : List Str} {XP : (Str → Option Value) → Heap → Prop} {YP : World → Heap → Prop} {d : DefRec} {K : Params → PySem.W.Frag} {CX : World → CXT} {sp : World → Sp} {x : Str}
    (hn : l.most = some n) (hn2 : n ≤ sizeLine) (hdf : d.params.defaults = []) (hr : Room k callerA)
    (hY : ∀ (w : World) (h : Heap), YP w h → (K w.params).In h)
    (F : ∀ (w : World) (mg : Str → Option Value) (fa : Addr) (h : Heap), (K w.params).In h → h.Ns mainGlobals mg → mg d.name = some (.ref fa) →
      ∃ fd : FuncData, (∀ (s : Shared) (u : Value), BindsTo s fd ⟨[u], []⟩ [(x, u)]) ∧
        ∀ base : Heap, (K w.params).In base → base.Ns mainGlobals mg → FnOk l.prog w (K w.params) mg base (CX w) k fa fd [x] (sp w))
    (hsp : ∀ (w : World) (H : Hp) (a : Addr) (ns : List Int), ns.length ≤ n → Only H → SqL (K w.params) H a (ns.map V.int) → sp w [.ref a] H (fun v _ => v = .bl true) fun _ _ _ => False)
    (hCX : ∀ (w : World) (H : Hp) (s : Shared) (e : Value) (s' : Shared), CX w [] H s (fun _ _ _ => False) e s' → False) :
    PySem.W.WalkO q loose XP YP l.row.toRowW d [] (fun f vs => PySem.call f vs) := by
  refine Att.attach_call hn hdf fun w s₀ s₁ mg mb fa o pm cd doc a vs ns G Y ho hd hcd hmg hobj hints hlen hg => ?_
  have KX := hY w _ Y
  obtain ⟨fd, hb, hF⟩ := F w mg fa _ KX G.T.g hmg
  exact law_call KX G.T.g G.T.b G.T.builtins G.T.nolimit hg hobj hints (Nat.le_trans hlen hn2) hr hF hb (fun H hO hS => hsp w H a ns hlen hO hS) fun H e s' => hCX w H s₁ e s'

end L2




namespace L2
open PySem PySem.Spec PyProof.Rows



def inClass (s : Stmt) (j : Nat) : Stmt := match s with
  | .ClassDef _ _ _ body _ _ _ _ _ _ _ => body.getD j (.Pass ⟨0, 0, 0, 0⟩)
  | _ => .Pass ⟨0, 0, 0, 0⟩
def defArgs (s : Stmt) : Arguments := match s with
  | .FunctionDef _ a _ _ _ _ _ _ _ _ => a
  | _ => { posonlyargs := [], args := [], vararg := none, kwonlyargs := [], kw_defaults := [], kwarg := none, defaults := [] }
def defBody (s : Stmt) : List Stmt := match s with
  | .FunctionDef _ _ b _ _ _ _ _ _ _ => b
  | _ => []
def defScope (s : Stmt) : Scope := match s with
  | .FunctionDef _ _ _ _ _ _ sc _ _ _ => sc
  | _ => { kind := .function, names := [], isGenerator := false, isCoroutine := false }


abbrev CX0 : CXT := fun _ _ _ _ _ _ => False
abbrev E0 : XK := fun _ _ _ => False
theorem pass0 {X : Cx} : Passes CX0 X E0 := fun _ _ _ _ _ _ _ h => h.elim


structure Fun (K : PySem.W.Frag) (x qual : Str) (st : Stmt) (f : Addr) (fd : FuncData) : Prop where
  ex : ∃ (oc : Value) (od : Option Addr) (kV doc pm : Value) (an : Option Addr) (cdv ct : Value) (osl : Array (Option Value)),
    fd = PySem.W.fnOf x qual (defArgs st) (defBody st) (defScope st) .none kV doc pm an cdv ct ∧ K.lookup f = some ⟨oc, od, .func fd, osl⟩ ∧ PySem.W.codeIn K cdv qual = true
  kp : PySem.W.keepIn K (.ref f) = true
section
variable {P : Program} {w : World} {K : PySem.W.Frag} {mg : Str → Option Value} {base : Heap}

theorem Fun.ok {x qual : Str} {st : Stmt} {f : Addr} {fd : FuncData} {N ps : List Str} {k : Nat} {sp : Sp} (F : Fun K x qual st f fd) (S : FnScope N ps (defScope st)) (len : ∀ vs H Q E, sp vs H Q E → vs.length = ps.length)
    (hbody : ∀ (cdv : Value) (A : Around) (outer : List Env) (s : Shared) (H : Hp) (vs : List V) (Q : VK) (E : XK), Room k (A.deeper (envOfC qual (defScope st) s.heap.objs.size f cdv)) → sp vs H Q E →
      ∃ t, PSs (cxOf CX0 P w K mg base N qual (defScope st) f cdv A outer s H E).nox (defBody st) t ∧ t { nx := fun _ H' => Q .non H', rt := Q } (start N vs) H) : FnOk P w K mg base CX0 (k + 1) f fd ps sp := by
  obtain ⟨oc, od, kV, doc, pm, an, cdv, ct, osl, rfl, lk, hcd⟩ := F.ex
  refine fn_of lk hcd S len fun A outer s H vs Q E hr hsp => ?_
  obtain ⟨t, h, q⟩ := hbody cdv A outer s H vs Q E hr hsp
  exact ⟨t, h.nox, q⟩

theorem Fun.binds {x qual : Str} {st : Stmt} {f : Addr} {fd : FuncData} {ps : List Str} (F : Fun K x qual st f fd)
    (h : ∀ (kV doc pm : Value) (an : Option Addr) (cdv ct : Value) (us : List Value), us.length = ps.length → bindArgs (PySem.W.fnOf x qual (defArgs st) (defBody st) (defScope st) .none kV doc pm an cdv ct) ⟨us, []⟩ = pure (ps.zip us)) : Binds K fd ps [] := by
  obtain ⟨oc, od, kV, doc, pm, an, cdv, ct, osl, rfl, lk, hcd⟩ := F.ex
  exact .all (h kV doc pm an cdv ct)
theorem fun_mk {x qual : Str} {st : Stmt} {f : Addr} {oc : Value} {od an : Option Addr} {osl : Array (Option Value)} {kV doc pm cdv ct : Value} (l : K.lookup f = some ⟨oc, od, .func (PySem.W.fnOf x qual (defArgs st) (defBody st) (defScope st) .none kV doc pm an cdv ct), osl⟩)
    (c : PySem.W.codeIn K cdv qual = true) (k : PySem.W.keepIn K (.ref f) = true) : Fun K x qual st f (PySem.W.fnOf x qual (defArgs st) (defBody st) (defScope st) .none kV doc pm an cdv ct) := ⟨⟨oc, od, kV, doc, pm, an, cdv, ct, osl, rfl, l, c⟩, k⟩
end
theorem hu_of {A : Around} {k : Nat} (hr : Room k A) : A.units + 1 < cLine := Nat.lt_of_le_of_lt (Nat.add_le_add_left (by decide : 1 ≤ 64) _) hr.units
section
variable {X : Cx}
theorem pv (i : Nat) {x : Str} {pos : Pos} (hN : X.N[i]? = some x := by rfl) (hv : Vis X.env.scope x := by first | exact Or.inl rfl | exact Or.inr (Or.inl rfl) | exact Or.inr (Or.inr rfl)) (hd : (x == ("__debug__" : Str)) = false := by decide)
    (hcd : (x == ("__classdict__" : Str)) = false := by decide) : PE X (.Name x pos) (tVar i) := pe_var hN hv hd hcd

end


theorem iteF {A B : Prop} (h : B) : if false = true then A else B := by
  rw [if_neg Bool.false_ne_true]
  exact h
theorem iteT {A B : Prop} (h : A) : if true = true then A else B := by
  rw [if_pos rfl]
  exact h
def Same (H H' : Hp) : Prop := ∀ b o, H b = some o → H' b = some o
theorem Same.refl (H : Hp) : Same H H := fun _ _ h => h
theorem Same.trans {H H1 H2 : Hp} (a : Same H H1) (b : Same H1 H2) : Same H H2 := fun c o h => b c o (a c o h)
theorem Same.seq {K : PySem.W.Frag} {H H' : Hp} {a : Addr} {xs : List V} (e : Same H H') (h : SqL K H a xs) : SqL K H' a xs := by
  rcases h with (h | ⟨o, h⟩) | h
  · exact .inl (.inl (e _ _ h))
  · exact .inl (.inr ⟨o, e _ _ h⟩)
  · exact .inr h


section
variable {κ : Type} [DecidableEq κ]
end
end L2

namespace Bt
end Bt
namespace L3
open PySem PySem.Spec PyProof.Rows L2
abbrev St := L2.St


def lstO (its : List Value) : Obj := { cls := .type "list", data := .seq its.toArray its.length }
theorem lstO_snoc (its : List Value) (y : Value) : ({ cls := .type "list", data := .seq (its.toArray.push y) (its.length + 1) } : Obj) = lstO (its ++ [y]) := by
  show ({ cls := .type "list", data := .seq (its.toArray.push y) (its.length + 1) } : Obj) = { cls := .type "list", data := .seq (its ++ [y]).toArray (its ++ [y]).length }
  rw [List.length_append, List.length_singleton, List.push_toArray]

section
variable {prog : Program} {w : World} {A : Around} {R : Result → Shared → Prop} {s : Shared}

theorem compLoop_go {elt target iter : Expr} {ifs : List Expr} {scope : Scope} {pos : Pos} {it acc : Value} {env : Env} (I : Nat → Shared → Prop)
    (turn : ∀ n s, I n s → wpAny (model prog w) A (pyNext it) (fun r s1 => match r with
      | none => R (.ok .next) s1
      | some v => wpAny (model prog w) A (letOwnedTupleGo target it v) (fun _ s2 => wpAny (model prog w) A (assign target env v) (fun _ s3 =>
          wpAny (model prog w) A (forIn ifs true fun c r => if r = true then do let ok ← isTrue c env (eval c env); pure (ForInStep.yield ok) else pure (ForInStep.yield r)) (fun ok s4 =>
            if ok = true then wpAny (model prog w) A (eval elt env) (fun x s5 =>
              wpAny (model prog w) A (call (.builtin "list.append") [acc, x]) (fun _ s6 => ∃ m, m < n ∧ I m s6) (notedBy (model prog w) A env fun e s' => R (.error e) s') s5) (notedBy (model prog w) A env fun e s' => R (.error e) s') s4
            else ∃ m, m < n ∧ I m s4) (notedBy (model prog w) A env fun e s' => R (.error e) s') s3) (notedBy (model prog w) A env fun e s' => R (.error e) s') s2)
          (notedBy (model prog w) A env fun e s' => R (.error e) s') s1) (notedBy (model prog w) A env fun e s' => R (.error e) s') s)
    (n : Nat) (h : I n s) :
    codeAny (model prog w) A (.compLoop (.ListComp elt [⟨target, iter, ifs, 0⟩] scope pos) 0 it acc env) R s := by
  refine codeAny_loop rfl I (fun n s hI => ?_) n h
  show wpAny _ A ((compTurn (.ListComp elt [⟨target, iter, ifs, 0⟩] scope pos) 0 it acc env).onRaise (fun x => do noteFrame x env; theTreesLotGoes x)) _ _ s
  refine wpAny_noted ?_
  rw [compTurn_list]
  refine wpAny_bind (wpAny_standAt (wpAny_bind (wpAny_mono (turn n s hI) (fun r s1 h1 => ?_) fun _ _ h' => h')))
  cases r with
  | none => exact wpAny_pure h1
  | some v =>
    refine wpAny_bind (wpAny_mono h1 (fun _ s2 h2 => ?_) fun _ _ h' => h')
    refine wpAny_bind (wpAny_mono h2 (fun _ s3 h3 => wpAny_bind (wpAny_mono h3 (fun ok s4 h4 => ?_) fun _ _ h' => h')) fun _ _ h' => h')
    cases ok with
    | false => exact wpAny_pure ⟨rfl, h4⟩
    | true =>
      exact wpAny_bind (wpAny_bind (wpAny_mono h4 (fun x s5 h5 => wpAny_bind (wpAny_mono h5 (fun _ s6 h6 => wpAny_pure (wpAny_pure ⟨rfl, h6⟩)) fun _ _ h' => h')) fun _ _ h' => h'))
end


def cxComp (X : Cx) (scope : Scope) (cl : List (Str × Addr)) (own : List Str) (fr : List (Str × Nat)) (C : Addr) (s2 : Shared) (H2 : Hp) (fp : List Addr) : Cx :=
  { prog := X.prog, w := X.w, K := X.K, mg := X.mg, base := X.base, A := X.A, N := own ++ fr.map (·.1), s₀ := s2, H₀ := H2, env := compEnvC scope cl C X.env, outer := X.stack, stack := X.stack,
    ex := fp, fn := fun _ => false, calm := X.calm, pn := [], xe := fun _ _ => False }

def innerS (own : List Str) (fr : List (Str × Nat)) (σ : St) : St := own.map (fun _ => none) ++ fr.map fun p => (σ[p.2]?).join
def ClOk (env : Env) : List (Str × Addr) → Prop
  | [] => True
  | (n, c) :: r => env.cells.lookup n = some c ∧ ClOk env r
theorem ClOk.get {env : Env} : ∀ {cl : List (Str × Addr)} {x : Str} {c : Addr}, ClOk env cl → cl.lookup x = some c → env.cells.lookup x = some c
  | [], _, _, _, h => by simp at h
  | (n, d) :: r, x, c, ok, h => by
    rw [List.lookup_cons] at h
    cases e : x == n with
    | true =>
      rw [e] at h
      have e' : x = n := by simpa using e
      cases h
      rw [e']
      exact ok.1
    | false =>
      rw [e] at h
      exact ClOk.get ok.2 h
def CellK (sc : Scope) (x : Str) : Prop := sc.names.lookup x = some .cell ∨ sc.names.lookup x = some .free
def FrOk (X : Cx) (scope : Scope) (cl : List (Str × Addr)) : List (Str × Nat) → Prop
  | [] => True
  | (x, j) :: r => (X.N[j]? = some x ∧ CellK X.env.scope x ∧ CellK (relabel scope X.env) x ∧ (cl.lookup x).isSome = true) ∧ FrOk X scope cl r
theorem FrOk.get {X : Cx} {scope : Scope} {cl : List (Str × Addr)} : ∀ {fr : List (Str × Nat)} {i : Nat} {p : Str × Nat}, FrOk X scope cl fr → fr[i]? = some p →
    X.N[p.2]? = some p.1 ∧ CellK X.env.scope p.1 ∧ CellK (relabel scope X.env) p.1 ∧ (cl.lookup p.1).isSome = true
  | [], _, _, _, h => by simp at h
  | (x, j) :: r, 0, p, ok, h => by
    simp at h
    subst h
    exact ok.1
  | (x, j) :: r, i + 1, p, ok, h => FrOk.get (i := i) ok.2 (by simpa using h)
structure CompSc (X : Cx) (scope : Scope) (cl : List (Str × Addr)) (own : List Str) (fr : List (Str × Nat)) : Prop where
  clos : closureFor scope X.env = pure cl
  cells : ClOk X.env cl
  frs : FrOk X scope cl fr
  kind : scope.kind = .function
  nocell : ∀ y ∈ scope.names, y.2 ≠ .cell
  names : ∀ y ∈ scope.names, y.2 = .local → scope.names.lookup y.1 = some .local
  has : (scope.names.all fun y => y.2 != .free || (cl.lookup y.1).isSome) = true

theorem lookup_relabel_has {env : Env} {cl : List (Str × Addr)} : ∀ {names : List (Str × NameKind)} {x : Str}, (∀ y ∈ names, y.2 ≠ .cell) → (names.all fun y => y.2 != .free || (cl.lookup y.1).isSome) = true →
    ((names.map fun (n, k) => if (k == NameKind.free && env.scope.kind == .function && env.kindOf n == some .cell) then (n, NameKind.cell) else (n, k)).lookup x = some .cell ∨
     (names.map fun (n, k) => if (k == NameKind.free && env.scope.kind == .function && env.kindOf n == some .cell) then (n, NameKind.cell) else (n, k)).lookup x = some .free) → ∃ c, cl.lookup x = some c
  | [], _, _, _, h => by rcases h with h | h <;> simp at h
  | (n, k) :: r, x, nc, ha, h => by
    rw [List.all_cons, Bool.and_eq_true] at ha
    have ih := @lookup_relabel_has env cl r x (fun y hy => nc y (List.mem_cons_of_mem _ hy)) ha.2
    have nk : k ≠ .cell := nc (n, k) List.mem_cons_self
    have hk := ha.1
    cases hx : x == n with
    | true =>
      have ex : x = n := by simpa using hx
      subst ex
      by_cases hf : k = .free
      · subst hf
        have z : (cl.lookup x).isSome = true := by simpa using hk
        exact Option.isSome_iff_exists.mp z
      · exfalso
        have hb : (k == NameKind.free) = false := by simpa using hf
        rcases h with h | h
        · rw [List.map_cons] at h
          simp only [hb, Bool.false_and, Bool.false_eq_true, if_false, List.lookup_cons, beq_self_eq_true] at h
          exact nk (Option.some.inj h)
        · rw [List.map_cons] at h
          simp only [hb, Bool.false_and, Bool.false_eq_true, if_false, List.lookup_cons, beq_self_eq_true] at h
          exact hf (Option.some.inj h)
    | false =>
      refine ih ?_
      rcases h with h | h
      · left
        rw [List.map_cons] at h
        by_cases hc : (k == NameKind.free && env.scope.kind == .function && env.kindOf n == some .cell) = true
        · simp only [hc, if_true, List.lookup_cons, hx] at h; exact h
        · simp only [hc, Bool.false_eq_true, if_false, List.lookup_cons, hx] at h; exact h
      · right
        rw [List.map_cons] at h
        by_cases hc : (k == NameKind.free && env.scope.kind == .function && env.kindOf n == some .cell) = true
        · simp only [hc, if_true, List.lookup_cons, hx] at h; exact h
        · simp only [hc, Bool.false_eq_true, if_false, List.lookup_cons, hx] at h; exact h


def PTs (Y : Cx) (ifs : List Expr) (t : TT) : Prop :=
  ∀ (pins : List (Addr × Obj)) (s : Shared) (σ : St) (H : Hp) (Q : Bool → Hp → Prop), Inv Y pins σ H s → t σ H Q →
    wpAny (model Y.prog Y.w) Y.A (forIn ifs true fun c r => if r = true then do let ok ← isTrue c Y.env (eval c Y.env); pure (ForInStep.yield ok) else pure (ForInStep.yield r)) (TP Y pins σ Q) Y.xe s
def tTrue : TT := fun _ H Q => Q true H
theorem pts_nil {Y : Cx} : PTs Y [] tTrue := fun _ _ _ H _ I h => wpAny_tests_nil ⟨H, I, h⟩
def tComp (own : List Str) (fr : List (Str × Nat)) (wi : TI) (g : TG) (tc : TT) (te : TE) (fin : List V → Hp → Prop) : St → Hp → Prop := fun σ H => wi σ H fun J H1 =>
  ∃ W : Nat → Nat → List V → St → Hp → Prop, (∃ m, W 0 m [] (innerS own fr σ) H1) ∧ ∀ i m ys σ' H', W i m ys σ' H' →
    (J.stop i H' ∧ ys.length ≤ sizeLine ∧ fin ys H') ∨
    (J.go i H' ∧ ∃ N : List V → St → Hp → Prop, (∀ ys2 σ2 H2, N ys2 σ2 H2 → ys2.length ≤ sizeLine ∧ ∃ m', m' < m ∧ W (i + 1) m' ys2 σ2 H2) ∧
      ∀ x H2, J.yld i H' x H2 → g x σ' H2 fun σ3 H3 => tc σ3 H3 fun b H4 => if b = true then te σ3 H4 fun y H5 => N (ys ++ [y]) σ3 H5 else N ys σ3 H4)


structure Off (X : Cx) (pins : List (Addr × Obj)) (H : Hp) (C : Addr) : Prop where
  none : H C = none
  loc : C ≠ X.env.locals
  above : X.s₀.heap.objs.size ≤ C
  cell : ∀ x c, X.env.cells.lookup x = some c → c ≠ C
  pin : ∀ p ∈ X.pn ++ pins, p.1 ≠ C

section
variable {X : Cx} {tg elt iter : Expr} {ifs : List Expr} {scope : Scope} {cl : List (Str × Addr)} {own : List Str} {fr : List (Str × Nat)} {wi : TI} {g : TG} {tc : TT} {te : TE} {pos : Pos}

theorem comp_core (hc : X.calm = true) (S : CompSc X scope cl own fr) (hi : PI X tg iter wi) (hg : ∀ C s2 H2 fp, PG (cxComp X scope cl own fr C s2 H2 fp) tg g)
    (ht : ∀ C s2 H2 fp, PTs (cxComp X scope cl own fr C s2 H2 fp) ifs tc) (he : ∀ C s2 H2 fp, PE (cxComp X scope cl own fr C s2 H2 fp) elt te)
    {pins : List (Addr × Obj)} {s : Shared} {σ : St} {H : Hp} {fin : List V → Hp → Prop} (I : Inv X pins σ H s) (h : tComp own fr wi g tc te fin σ H)
    {RR : Value → Addr → Result → Shared → Prop}
    (hR : ∀ (D C : Addr) (s4 : Shared) (H3 : Hp) (ys : List V) (m : Str → Option Value), H3 D = none → Inv X pins σ (upd H3 D (.lst ys)) s4 → s4.heap.Ns C m → Off X pins (upd H3 D (.lst ys)) C → fin ys H3 → RR (.ref D) C (.ok .next) s4) :
    wpAny (model X.prog X.w) X.A (eval iter X.env) (fun x s1 => wpAny (model X.prog X.w) X.A (pyIter x) (fun itv s2 => wpAny (model X.prog X.w) X.A (newList []) (fun acc s3 =>
      wpAny (model X.prog X.w) X.A (newFunctionEnv scope X.env.globals cl [] X.env.qual none .none (some X.env)) (fun cenv s4 =>
        codeAny (model X.prog X.w) X.A (.compStart (.ListComp elt [⟨tg, iter, ifs, 0⟩] scope pos) 0 itv acc { cenv with scope := relabel scope X.env }) (RR acc cenv.locals) s4) X.xe s3) X.xe s2) X.xe s1) X.xe s := by
  refine thn (hi pins s σ H _ I h) fun v s1 h1 => thn h1 fun itv s2 h2 => ?_
  obtain ⟨it, fp, tn, J, H2, rfl, I2, T, st2, f2, W, ⟨m0, w0⟩, turn⟩ := h2
  refine wpAny_newObj_type (wpAny_newFunctionEnv S.nocell (by intro y hy; simp at hy) (fun h1 hns1 hsb1 => ?_) S.kind)
  dsimp only at hns1 hsb1 ⊢
  generalize hHP : s2.heap.push { cls := .type "list", dict := none, data := .seq ([] : List Value).toArray } = HP at hns1 hsb1 ⊢
  have hC : HP.objs.size = s2.heap.objs.size + 1 := by rw [← hHP, Heap.size_push]
  have hDC : s2.heap.objs.size ≠ HP.objs.size := by rw [hC]; exact Nat.ne_of_lt (Nat.lt_succ_self _)
  have below : ∀ b, b < s2.heap.objs.size → b ≠ HP.objs.size ∧ b ≠ s2.heap.objs.size := fun b hb => ⟨by rw [hC]; exact Nat.ne_of_lt (Nat.lt_succ_of_lt hb), Nat.ne_of_lt hb⟩
  have old : ∀ b o, s2.heap.get? b = some o → h1.get? b = some o := fun b o e => hsb1.extBut b o (below b (Heap.lt_size e)).1 (Heap.get?_push_of_some _ (hHP ▸ Heap.get?_push_of_some _ e))
  have hacc : h1.get? s2.heap.objs.size = some (lstO []) := hsb1.extBut _ _ hDC (Heap.get?_push_of_some _ (hHP ▸ Heap.get?_push_size _ rfl))
  have hfpo : ∀ b ∈ fp, b < s2.heap.objs.size := fun b hb => by obtain ⟨o, e, _⟩ := T.obj 0 _ st2 b hb; exact Heap.lt_size e
  have hcells : ∀ x c, cl.lookup x = some c → X.env.cells.lookup x = some c := fun x c e => S.cells.get e
  have hcD : ∀ x c, X.env.cells.lookup x = some c → c < s2.heap.objs.size := fun x c e => by obtain ⟨v, q⟩ := I2.cell x c e; exact q.lt
  have st1 : tn 0 h1 := T.keep _ _ _ st2 fun b _ o e => old b o e
  have hDfree : H2 s2.heap.objs.size = none := I2.hok.fresh (Nat.le_refl _)
  have hCfree : H2 HP.objs.size = none := I2.hok.fresh (by rw [hC]; exact Nat.le_succ _)
  have nostk : ∀ b, s2.heap.objs.size ≤ b → b ∉ L2.frs X.stack := fun b hb hm => by
    rcases List.mem_cons.mp (I2.stkSub b hm) with e | e
    · exact absurd I2.lt (by rw [← e]; exact Nat.not_lt.mpr hb)
    · exact I2.nofs hb e
  have hDlt : s2.heap.objs.size < h1.objs.size := Heap.lt_size hacc
  -- the block's context
  have YOk : (cxComp X scope cl own fr HP.objs.size s2 H2 fp).Ok := by
    refine ⟨I2.ok.mod, S.kind, I2.ok.glob, I2.ok.blt, ?_, fun x y c e1 e2 => I2.ok.inj x y c (hcells _ _ e1) (hcells _ _ e2), fun x hx => ?_, fun x c hf => ?_, I2.ok.hd, I2.ok.frames, .inl rfl, fun b hb => ⟨?_, fun x c e => ?_⟩,
      I2.bs, Nat.le_trans I2.ok.bsz I2.sz, fun b o e hb => ?_, fun b hb hm => ?_, I2.stack, I2.stkFree⟩
    · show s2.heap.objs.size ≤ HP.objs.size
      rw [hC]; exact Nat.le_succ _
    · exact lookup_relabel_has (env := X.env) S.nocell S.has hx
    · cases hf
    · exact (below b (hfpo b hb)).1
    · exact (f2 b hb).2.2.2.2.1 x c (hcells _ _ e)
    · rcases (f2 b hb).2.2.2.1 with z | z
      · exact I2.ok.noex b o e z
      · exact absurd (Heap.lt_size (I2.ok.bs b o e).1) (Nat.not_lt.mpr z)
    · rcases List.mem_cons.mp (I2.stkSub b hm) with e | e
      · exact (f2 b hb).2.1 e
      · exact (f2 b hb).2.2.1 e
  have hpinD : ∀ {h' : Heap} {its : List Value} {H' : Hp}, h'.get? s2.heap.objs.size = some (lstO its) → H' s2.heap.objs.size = none → ∀ p ∈ ([(s2.heap.objs.size, lstO its)] : List (Addr × Obj)),
      h'.get? p.1 = some p.2 ∧ H' p.1 = none ∧ p.1 ≠ HP.objs.size ∧ p.1 ∉ L2.frs X.stack ∧ ∀ v, p.2.data ≠ .cell v := fun {h' its H'} e n p hp => by
    have e1 : p = (s2.heap.objs.size, lstO its) := by simpa using hp
    subst e1
    exact ⟨e, n, hDC, nostk _ (Nat.le_refl _), fun v z => by cases z⟩
  have IY : Inv (cxComp X scope cl own fr HP.objs.size s2 H2 fp) [(s2.heap.objs.size, lstO [])] (innerS own fr σ) H2 { s2 with heap := h1, toks := s2.toks + ([] : List (Str × Value)).length } := by
    refine ⟨YOk, rfl, I2.bare, Un.kept old, ⟨_, hns1, fun i x v e1 e2 e3 => ?_⟩, fun x c e => ?_, hCfree, fun x c e => I2.freeC x c (hcells _ _ e), hpinD hacc hDfree, I2.hok.kept old, ?_⟩
    · have e1' : (own ++ fr.map (·.1))[i]? = some x := e1
      have e2' : (own.map (fun _ => (none : Option V)) ++ fr.map fun p => (σ[p.2]?).join)[i]? = some (some v) := e2
      by_cases hi' : i < own.length
      · rw [List.getElem?_append_left (by simpa using hi'), List.getElem?_map] at e2'
        rw [List.getElem?_eq_getElem hi'] at e2'
        cases e2'
      · rw [List.getElem?_append_right (by simpa using hi'), List.getElem?_map] at e2'
        rw [List.getElem?_append_right (Nat.not_lt.mp hi'), List.getElem?_map] at e1'
        rw [List.length_map] at e2'
        cases ef : fr[i - own.length]? with
        | none => rw [ef] at e1'; cases e1'
        | some p =>
          rw [ef] at e1' e2'
          have ex : p.1 = x := Option.some.inj e1'
          have ev : (σ[p.2]?).join = some v := Option.some.inj e2'
          obtain ⟨hN, hk, hk2, hs⟩ := S.frs.get ef
          have eσ : σ[p.2]? = some (some v) := by
            cases q : σ[p.2]? with
            | none => rw [q] at ev; cases ev
            | some o => rw [q] at ev; exact congrArg some ev
          obtain ⟨m, hn, hl⟩ := I2.loc
          obtain ⟨u, r, l⟩ := hl p.2 p.1 v hN eσ (by rcases hk with k | k; exact .inr (.inl k); exact .inr (.inr k))
          subst ex
          obtain ⟨c, ec⟩ := Option.isSome_iff_exists.mp hs
          refine ⟨u, r, .inr ⟨hk2, c, ec, ?_⟩⟩
          rcases l with ⟨hl1, _⟩ | ⟨_, c', ec', z⟩
          · have hl1' : X.env.scope.names.lookup p.1 = some .local := hl1
            rcases hk with z | z
            · rw [z] at hl1'; cases hl1'
            · rw [z] at hl1'; cases hl1'
          · have := hcells _ _ ec
            rw [ec'] at this
            cases this
            exact z.keeps old
    · obtain ⟨v, z⟩ := I2.cell x c (hcells _ _ e)
      exact ⟨v, z.keeps old⟩
    · show (own.map (fun _ => (none : Option V)) ++ fr.map fun p => (σ[p.2]?).join).length = (own ++ fr.map (·.1)).length
      simp
  have stat : ∀ {its : List Value} {H' : Hp}, (∀ b ∈ fp, H' b = none) → ∀ b ∈ fp, FpOk (cxComp X scope cl own fr HP.objs.size s2 H2 fp) [(s2.heap.objs.size, lstO its)] H' b := fun {its H'} hn b hb =>
    ⟨hn b hb, (below b (hfpo b hb)).1, fun hm => by
        rcases List.mem_cons.mp (I2.stkSub b hm) with e | e
        · exact (f2 b hb).2.1 e
        · exact (f2 b hb).2.2.1 e, .inl hb, fun x c e => (f2 b hb).2.2.2.2.1 x c (hcells _ _ e), fun p hp => by
        have e1 : p = (s2.heap.objs.size, lstO its) := by
          have hp' : p ∈ ([] : List (Addr × Obj)) ++ [(s2.heap.objs.size, lstO its)] := hp
          simpa using hp'
        subst e1
        exact (below b (hfpo b hb)).2.symm⟩
  have loop : ∀ s3 : Shared, s3 = { s2 with heap := h1, toks := s2.toks + ([] : List (Str × Value)).length } →
      codeAny (model X.prog X.w) X.A (.compLoop (.ListComp elt [⟨tg, iter, ifs, 0⟩] scope pos) 0 (.ref it) (.ref s2.heap.objs.size) (compEnvC scope cl HP.objs.size X.env)) (RR (.ref s2.heap.objs.size) HP.objs.size) s3 := by
    rintro s3 rfl
    refine compLoop_go (fun n s' => ∃ i ys its σ' H', Inv (cxComp X scope cl own fr HP.objs.size s2 H2 fp) [(s2.heap.objs.size, lstO its)] σ' H' s' ∧ Vals ys its ∧ tn i s'.heap ∧ (∀ b ∈ fp, H' b = none) ∧ W i n ys σ' H') ?_ m0
      ⟨0, [], [], innerS own fr σ, H2, IY, .nil, st1, fun b hb => (f2 b hb).1, w0⟩
    rintro n s3 ⟨i, ys, its, σ3, H3, I3, rv, st3, fr3, w3⟩
    rcases turn i n ys σ3 H3 w3 with ⟨stop, hz, qn⟩ | ⟨go, N, hN, step⟩
    · refine wpAny_mono (T.done (cxComp X scope cl own fr HP.objs.size s2 H2 fp) rfl rfl rfl hc i _ s3 σ3 H3 (fun _ _ => False) I3 (stat fr3) st3 stop) (fun r s4 h4 => ?_) fun _ _ f => f.elim
      obtain ⟨hr, I4⟩ := h4
      subst hr
      obtain ⟨eD, nD, _⟩ := I4.pin (s2.heap.objs.size, lstO its) (by simp [cxComp])
      obtain ⟨m, hn, _⟩ := id I4.loc
      have nC : H3 HP.objs.size = none := I4.free
      have bu := I4.base
      have J4 : Inv X pins σ (upd H3 s2.heap.objs.size (.lst ys)) s4 := by
        refine I2.call' (ch := fp) I4.os ⟨fun b o e n hb hx => bu.keep b o e n hb hx, fun b o e n hb hx => bu.slot b o e n hb hx, fun b o e n hx => ?_, fun b o e hx => bu.there b o e hx, fun b xs e => ?_, fun b o u e => ?_, fun b ps e => ?_⟩ ?_ I4.bare ?_
        · rw [upd_ne (below b (Heap.lt_size e)).2]; exact bu.free b o e n hx
        · have z := bu.tups b xs e
          rw [upd_ne (ne_of_none z nD)]; exact z
        · have z := bu.frzs b o u e
          rw [upd_ne (ne_of_none z nD)]; exact z
        · obtain ⟨more, z⟩ := bu.tbls b ps e
          exact ⟨more, by rw [upd_ne (ne_of_none z nD)]; exact z⟩
        · intro b o e
          by_cases hb : b = s2.heap.objs.size
          · subst hb
            rw [upd_same] at e
            cases e
            exact ⟨hz, its, its.length, rv, eD⟩
          · rw [upd_ne hb] at e
            exact (I4.hok b o e).stay (fun c u _ q => q) (fun c q => by rw [upd_ne (ne_of_none q nD)]; exact q) fun c xs q => by rw [upd_ne (ne_of_none q nD)]; exact q
        · intro b hb
          exact ⟨(f2 b hb).2.2.2.1, (f2 b hb).2.1, (f2 b hb).2.2.2.2.1, (f2 b hb).2.2.2.2.2⟩
      refine hR _ _ s4 H3 ys m nD J4 hn ⟨?_, ?_, ?_, ?_, ?_⟩ qn
      · rw [upd_ne hDC.symm]; exact nC
      · exact Nat.ne_of_gt (Nat.lt_of_lt_of_le I2.lt (by rw [hC]; exact Nat.le_succ _))
      · exact Nat.le_trans I2.sz (by rw [hC]; exact Nat.le_succ _)
      · exact fun x c e => (below c (hcD x c e)).1
      · exact fun p hp => (below p.1 (Heap.lt_size (I2.pin p hp).1)).1
    · refine wpAny_mono (T.item (cxComp X scope cl own fr HP.objs.size s2 H2 fp) rfl rfl rfl hc i _ s3 σ3 H3 (fun _ _ => False) I3 (stat fr3) st3 go) (fun r s4 h4 => ?_) fun _ _ f => f.elim
      obtain ⟨u, hr, h4⟩ := h4
      subst hr
      refine wpAny_mono h4 (fun _ s5 h5 => ?_) fun _ _ f => f.elim
      obtain ⟨x, H5, I5, r5, y5, st5, fr5⟩ := h5
      have I5' := I5.pinned (stat fr5) (T.obj _ _ st5)
      refine wpAny_mono (hg _ _ _ _ _ s5 σ3 H5 x u _ I5' r5 (step x H5 y5)) (fun _ s6 h6 => ?_) fun _ _ f => f.elim
      obtain ⟨σ6, H6, I6, q6⟩ := h6
      refine wpAny_mono (ht _ _ _ _ _ s6 σ6 H6 _ I6 q6) (fun ok s7 h7 => ?_) fun _ _ f => f.elim
      obtain ⟨H7, I7, q7⟩ := h7
      have keepT : ∀ {σ8 : St} {H8 : Hp} {s8 : Shared} {l : List (Addr × Obj)}, Inv (cxComp X scope cl own fr HP.objs.size s2 H2 fp) (l ++ pinsAt fp s5.heap) σ8 H8 s8 → tn (i + 1) s8.heap ∧ ∀ b ∈ fp, H8 b = none := fun {σ8 H8 s8 l} I8 => by
        refine ⟨T.keep _ _ _ st5 fun b hb o e => (I8.pin (b, o) (List.mem_append_right _ (List.mem_append_right _ (mem_pinsAt hb e)))).1, fun b hb => ?_⟩
        obtain ⟨o, e, _⟩ := T.obj _ _ st5 b hb
        exact (I8.pin (b, o) (List.mem_append_right _ (List.mem_append_right _ (mem_pinsAt hb e)))).2.1
      cases ok with
      | false =>
        rw [if_neg Bool.false_ne_true] at q7 ⊢
        obtain ⟨_, m', hm, w7⟩ := hN _ _ _ q7
        exact ⟨m', hm, i + 1, ys, its, σ6, H7, I7.unpinned, rv, (keepT I7).1, (keepT I7).2, w7⟩
      | true =>
        rw [if_pos rfl] at q7 ⊢
        refine wpAny_mono (he _ _ _ _ _ s7 σ6 H7 _ I7 q7) (fun y s8 h8 => ?_) fun _ _ f => f.elim
        obtain ⟨yv, H8, I8, r8, n8⟩ := h8
        obtain ⟨hlt', m', hm, w8⟩ := hN _ _ _ n8
        have hlt : ys.length < sizeLine := by rw [List.length_append] at hlt'; exact hlt'
        obtain ⟨eD, nD, nL, _, _⟩ := I8.pin (s2.heap.objs.size, lstO its) (by simp [cxComp])
        refine append_at (its := its.toArray) (n := its.length) (hsz := by rw [List.size_toArray, ← rv.length]; exact Nat.le_of_lt hlt) eD fun h9 sb9 eD9 => ?_
        have I8p : Inv (cxComp X scope cl own fr HP.objs.size s2 H2 fp) (pinsAt fp s5.heap) σ6 H8 s8 := I8.pins_of fun p hp => I8.pin p (List.mem_append_right _ (List.mem_append_right _ hp))
        have I9p : Inv (cxComp X scope cl own fr HP.objs.size s2 H2 fp) (pinsAt fp s5.heap) σ6 H8 { s8 with heap := h9 } :=
          I8p.turned (t' := s8.toks) (fun b o hb e => (sb9.2 b hb).trans e) nD nL (.inr (Nat.le_refl _)) (fun x c e => (below c (hcD x c (hcells _ _ e))).2) fun p hp => by
            have hp' : p ∈ pinsAt fp s5.heap := by simpa [cxComp] using hp
            exact (below p.1 (hfpo _ (of_pinsAt hp').1)).2
        have eD9' : h9.get? s2.heap.objs.size = some (lstO (its ++ [y])) := eD9.trans (congrArg some (lstO_snoc its y))
        have I9 : Inv (cxComp X scope cl own fr HP.objs.size s2 H2 fp) [(s2.heap.objs.size, lstO (its ++ [y]))] σ6 H8 { s8 with heap := h9 } := I9p.pins_of (hpinD eD9' nD)
        have K9 := keepT (l := []) (by simpa using I9p)
        exact ⟨m', hm, i + 1, ys ++ [yv], its ++ [y], σ6, H8, I9, rv.append (.cons r8 .nil), K9.1, K9.2, w8⟩
  exact codeAny_compStart_list (loop _ rfl) (T.self _ 0 _ _ _ st1 (loop _ rfl))


def tCompE (own : List Str) (fr : List (Str × Nat)) (wi : TI) (g : TG) (tc : TT) (te : TE) : TE := fun σ H Q => tComp own fr wi g tc te (fun ys H3 => ∀ p, H3 p = none → Q (.ref p) (upd H3 p (.lst ys))) σ H
theorem pe_comp (hc : X.calm = true) (S : CompSc X scope cl own fr) (hi : PI X tg iter wi) (hg : ∀ C s2 H2 fp, PG (cxComp X scope cl own fr C s2 H2 fp) tg g)
    (ht : ∀ C s2 H2 fp, PTs (cxComp X scope cl own fr C s2 H2 fp) ifs tc) (he : ∀ C s2 H2 fp, PE (cxComp X scope cl own fr C s2 H2 fp) elt te)
    (hs : ∀ x, foldedSetIterable iter X.env x = pure x := by intro _; rfl) : PE X (.ListComp elt [⟨tg, iter, ifs, 0⟩] scope pos) (tCompE own fr wi g tc te) := by
  intro pins s σ H Q I h
  rw [eval_ListComp]
  refine wpAny_comprehension_free (use := none) rfl hs S.clos S.kind S.names ?_
  refine comp_core hc S hi hg ht he I h fun D C s4 H3 ys m nD J hn off q => ?_
  refine ⟨m, hn, fun h' sb => ⟨.ref D, _, J.turned (t' := s4.toks) (fun b o hb e => (sb.2 b hb).trans e) off.none off.loc (.inr off.above) off.cell off.pin, rfl, q D nD⟩⟩

def tCompS (i : Nat) (own : List Str) (fr : List (Str × Nat)) (wi : TI) (g : TG) (tc : TT) (te : TE) : TS := fun D σ H => tComp own fr wi g tc te (fun ys H3 => ∀ p, H3 p = none → D.nx (σ.set i (some (.ref p))) (upd H3 p (.lst ys))) σ H
theorem ps_setC {i : Nat} {y : Str} {py spos : Pos} (hN : X.N.Nodup) (hi' : X.N[i]? = some y) (hx : X.env.scope.names.lookup y = some .local) (hc : X.calm = true) (S : CompSc X scope cl own fr) (hi : PI X tg iter wi) (hg : ∀ C s2 H2 fp, PG (cxComp X scope cl own fr C s2 H2 fp) tg g)
    (ht : ∀ C s2 H2 fp, PTs (cxComp X scope cl own fr C s2 H2 fp) ifs tc) (he : ∀ C s2 H2 fp, PE (cxComp X scope cl own fr C s2 H2 fp) elt te)
    (hsw : swapsWith (.ListComp elt [⟨tg, iter, ifs, 0⟩] scope pos) (some (.Name y py)) spos.line X.env = pure true := by rfl)
    (hs : ∀ x, foldedSetIterable iter X.env x = pure x := by intro _; rfl) : PS X (.Assign [.Name y py] (.ListComp elt [⟨tg, iter, ifs, 0⟩] scope pos) spos) (tCompS i own fr wi g tc te) := by
  intro pins s σ H D I h
  rw [exec_Assign_Name_used _ _ _ _ hsw]
  refine wpAny_bind (wpAny_standAt (wpAny_bind ?_))
  show wpAny _ X.A (do let _ ← comprehension (.ListComp elt [⟨tg, iter, ifs, 0⟩] scope pos) scope X.env _ (newList []) false (eval iter X.env) (some (assign (.Name y py) X.env))) _ _ s
  refine wpAny_bind (wpAny_mono (wpAny_comprehension_free (use := some (assign (.Name y py) X.env)) (Q := fun _ s' => SP X pins D .next s') rfl hs S.clos S.kind S.names ?_) (fun _ s' hq => wpAny_pure (wpAny_pure hq)) fun _ _ e => e)
  refine comp_core hc S hi hg ht he I h fun Da C s4 H3 ys m nD J hn off q => ?_
  show wpAny _ X.A (assign (.Name y py) X.env (.ref Da)) _ _ _
  refine wpAny_assign_Name (store_ok2 J hN hi' (.inl hx) (v := .ref Da) rfl (fun s5 I5 hsb => ?_) (.inr hx))
  obtain ⟨a, sb, ha⟩ := hsb
  have nCa : C ≠ a := by
    rcases ha with z | z
    · rw [z]; exact off.loc
    · exact (off.cell _ _ z).symm
  refine ⟨m, hn.sameBut sb nCa, fun h' sb' => ⟨_, _, I5.turned (t' := s5.toks) (fun b o hb e => (sb'.2 b hb).trans e) off.none off.loc (.inr off.above) off.cell off.pin, q Da nD⟩⟩
end
section
variable {K : PySem.W.Frag} {a : Addr} {xs : List V} {own : List Str} {fr : List (Str × Nat)} {g : TG} {tc : TT} {te : TE} {fin : List V → Hp → Prop} {σ : St} {H : Hp}

def CompW (J : It) (g : TG) (tc : TT) (te : TE) (fin : List V → Hp → Prop) (σ0 : St) (H1 : Hp) : Prop :=
  ∃ W : Nat → Nat → List V → St → Hp → Prop, (∃ m, W 0 m [] σ0 H1) ∧ ∀ i m ys σ' H', W i m ys σ' H' →
    (J.stop i H' ∧ ys.length ≤ sizeLine ∧ fin ys H') ∨
    (J.go i H' ∧ ∃ N : List V → St → Hp → Prop, (∀ ys2 σ2 H2, N ys2 σ2 H2 → ys2.length ≤ sizeLine ∧ ∃ m', m' < m ∧ W (i + 1) m' ys2 σ2 H2) ∧
      ∀ x H2, J.yld i H' x H2 → g x σ' H2 fun σ3 H3 => tc σ3 H3 fun b H4 => if b = true then te σ3 H4 fun y H5 => N (ys ++ [y]) σ3 H5 else N ys σ3 H4)
theorem comp_list {σ0 : St} (Pv : Nat → List V → St → Hp → Prop) (h0 : Pv 0 [] σ0 H) (hl : ∀ i ys σ H, i ≤ xs.length → Pv i ys σ H → SqL K H a xs ∧ ys.length ≤ sizeLine)
    (hs : ∀ i x ys σ H, xs[i]? = some x → Pv i ys σ H → g x σ H fun σ3 H3 => tc σ3 H3 fun b H4 => if b = true then te σ3 H4 fun y H5 => Pv (i + 1) (ys ++ [y]) σ3 H5 else Pv (i + 1) ys σ3 H4)
    (hd : ∀ ys σ H, Pv xs.length ys σ H → fin ys H) : CompW (Itl K a) g tc te fin σ0 H := by
  refine ⟨fun i m ys σ H => m = xs.length - i ∧ i ≤ xs.length ∧ Pv i ys σ H, ⟨xs.length, by simp, Nat.zero_le _, h0⟩, ?_⟩
  rintro i m ys σ H ⟨rfl, hi, p⟩
  obtain ⟨q, hz⟩ := hl i ys σ H hi p
  by_cases hlt : i < xs.length
  · refine .inr ⟨⟨xs, xs[i], q, by simp [hlt]⟩, Pv (i + 1), fun ys2 σ2 H2 p' => ⟨(hl (i + 1) ys2 σ2 H2 hlt p').2, xs.length - (i + 1), by omega, rfl, hlt, p'⟩, fun x H2 y => ?_⟩
    obtain ⟨e, y⟩ := y
    subst e
    exact hs i x ys σ _ (y xs q) p
  · have e : i = xs.length := by omega
    subst e
    exact .inl ⟨⟨xs, q, Nat.le_refl _⟩, hz, hd ys σ H p⟩
theorem comp_range {σ0 : St} {lo : Int} {n : Nat} (Pv : Nat → List V → St → Hp → Prop) (h0 : Pv 0 [] σ0 H) (hl : ∀ i ys σ H, i ≤ n → Pv i ys σ H → ys.length ≤ sizeLine)
    (hs : ∀ i ys σ H, i < n → Pv i ys σ H → g (.int (lo + i)) σ H fun σ3 H3 => tc σ3 H3 fun b H4 => if b = true then te σ3 H4 fun y H5 => Pv (i + 1) (ys ++ [y]) σ3 H5 else Pv (i + 1) ys σ3 H4)
    (hd : ∀ ys σ H, Pv n ys σ H → fin ys H) : CompW (Itr lo n) g tc te fin σ0 H := by
  refine ⟨fun i m ys σ H => m = n - i ∧ i ≤ n ∧ Pv i ys σ H, ⟨n, by simp, Nat.zero_le _, h0⟩, ?_⟩
  rintro i m ys σ H ⟨rfl, hi, p⟩
  by_cases hlt : i < n
  · refine .inr ⟨hlt, Pv (i + 1), fun ys2 σ2 H2 p' => ⟨hl (i + 1) ys2 σ2 H2 hlt p', n - (i + 1), by omega, rfl, hlt, p'⟩, fun x H2 y => ?_⟩
    obtain ⟨e, y⟩ := y
    subst e y
    exact hs i ys σ _ hlt p
  · have e : i = n := by omega
    subst e
    exact .inl ⟨Nat.le_refl _, hl _ ys σ H hi p, hd ys σ H p⟩
end
end L3
namespace L3
open PySem PySem.Spec PyProof.Rows L2 PySem.SeqAt


theorem look_new {H : Hp} {p q : Addr} {o u : HO} (hq : H q = some u) (hp : H p = none) : upd H p o q = some u := by
  rw [upd_ne (ne_of_none hq hp)]; exact hq
theorem look_ne {H : Hp} {p q : Addr} {o : HO} {u : Option HO} (hne : q ≠ p) (hq : H q = u) : upd H p o q = u := by
  rw [upd_ne hne]; exact hq
theorem none_upd {H : Hp} {p q : Addr} {o : HO} (h : upd H p o q = none) : H q = none ∧ q ≠ p := by
  by_cases e : q = p
  · subst e; rw [upd_same] at h; cases h
  · rw [upd_ne e] at h; exact ⟨h, e⟩
theorem same_new {H : Hp} {p : Addr} {o : HO} (h : H p = none) : Same H (upd H p o) := fun b u q => look_new q h
theorem SqT_same {K : PySem.W.Frag} {H H' : Hp} {a : Addr} {xs : List V} (e : Same H H') (h : SqT K H a xs) : SqT K H' a xs := by
  rcases h with (h | ⟨o, h⟩) | h
  · exact .inl (.inl (e _ _ h))
  · exact .inl (.inr ⟨o, e _ _ h⟩)
  · exact .inr h


mutual
def Dp (K : PySem.W.Frag) (H : Hp) : PyData → V → Prop
  | .none, v => v = .non
  | .bool b, v => v = .bl b
  | .int i, v => v = .int i
  | .str x, v => v = .str x
  | .list ds, v => ∃ a xs, v = .ref a ∧ SqL K H a xs ∧ DpAll K H ds xs
  | .tuple ds, v => ∃ a xs, v = .ref a ∧ SqT K H a xs ∧ DpAll K H ds xs
  | .dict _, _ => False
def DpAll (K : PySem.W.Frag) (H : Hp) : List PyData → List V → Prop
  | [], vs => vs = []
  | d :: ds, vs => ∃ v r, vs = v :: r ∧ Dp K H d v ∧ DpAll K H ds r
end
theorem dpAll_ints {K : PySem.W.Frag} {H : Hp} : ∀ ns : List Int, DpAll K H (ns.map PyData.int) (ns.map V.int)
  | [] => by rw [List.map_nil, List.map_nil, DpAll]
  | n :: ns => by
    rw [List.map_cons, List.map_cons, DpAll]
    exact ⟨_, _, rfl, by rw [Dp], dpAll_ints ns⟩
theorem dp_int {K : PySem.W.Frag} {H : Hp} (i : Int) : Dp K H (.int i) (.int i) := by rw [Dp]
theorem dp_str {K : PySem.W.Frag} {H : Hp} (x : Str) : Dp K H (.str x) (.str x) := by rw [Dp]
theorem dp_lst {K : PySem.W.Frag} {H : Hp} {a : Addr} {xs : List V} {ds : List PyData} (h : SqL K H a xs) (q : DpAll K H ds xs) : Dp K H (.list ds) (.ref a) := by
  rw [Dp]; exact ⟨a, _, rfl, h, q⟩
theorem dp_tup {K : PySem.W.Frag} {H : Hp} {a : Addr} {xs : List V} {ds : List PyData} (h : SqT K H a xs) (q : DpAll K H ds xs) : Dp K H (.tuple ds) (.ref a) := by
  rw [Dp]; exact ⟨a, _, rfl, h, q⟩
theorem dpAll_nil {K : PySem.W.Frag} {H : Hp} : DpAll K H [] [] := by rw [DpAll]
theorem dpAll_cons {K : PySem.W.Frag} {H : Hp} {d : PyData} {ds : List PyData} {v : V} {r : List V} (h : Dp K H d v) (q : DpAll K H ds r) : DpAll K H (d :: ds) (v :: r) := by
  rw [DpAll]; exact ⟨_, _, rfl, h, q⟩
theorem canLay_ints : ∀ ns : List Int, PyData.canLayAll0 (ns.map PyData.int) = true
  | [] => rfl
  | n :: ns => by
    rw [List.map_cons, PyData.canLayAll0, canLay_ints ns]; rfl
theorem depth_ints : ∀ ns : List Int, PyData.depthAll (ns.map PyData.int) = 0
  | [] => rfl
  | n :: ns => by
    rw [List.map_cons, PyData.depthAll, depth_ints ns]; rfl
section
variable {X : Cx} {pins : List (Addr × Obj)} {σ : St} {H : Hp} {s : Shared}
mutual
theorem dp_reads (I : Inv X pins σ H s) : ∀ (d : PyData) (v : V) (u : Value), Dp X.K H d v → RelV v u → ∃ as, Reads s.heap u d as
  | .none, v, u, h, r => by
    rw [Dp] at h; subst h; cases (show u = Value.none from r); exact ⟨_, .none⟩
  | .bool b, v, u, h, r => by
    rw [Dp] at h; subst h; cases (show u = Value.bool b from r); exact ⟨_, .bool b⟩
  | .int i, v, u, h, r => by
    rw [Dp] at h; subst h; obtain ⟨t, e⟩ := (show ∃ t, u = Value.int i t from r); subst e; exact ⟨_, .int i t⟩
  | .str x, v, u, h, r => by
    rw [Dp] at h; subst h; obtain ⟨t, e⟩ := (show ∃ t, u = Value.str x t from r); subst e; exact ⟨_, .str x t⟩
  | .list ds, v, u, h, r => by
    rw [Dp] at h
    obtain ⟨a, xs, e, hq, ha⟩ := h
    subst e
    cases (show u = Value.ref a from r)
    obtain ⟨its, rv, pl, hz⟩ := I.list hq
    obtain ⟨o, ho, hc, n, hd⟩ := pl.isList
    obtain ⟨as, z⟩ := dpAll_reads I ds xs its ha rv
    exact ⟨_, .list ho hc hd (by simpa using z)⟩
  | .tuple ds, v, u, h, r => by
    rw [Dp] at h
    obtain ⟨a, xs, e, hq, ha⟩ := h
    subst e
    cases (show u = Value.ref a from r)
    obtain ⟨its, rv, pl, hz⟩ := I.tuple hq
    obtain ⟨o, ho, hc, n, hd⟩ := pl
    obtain ⟨as, z⟩ := dpAll_reads I ds xs its ha rv
    exact ⟨_, .tuple ho hc hd (by simpa using z)⟩
  | .dict _, v, u, h, r => by rw [Dp] at h; exact h.elim
theorem dpAll_reads (I : Inv X pins σ H s) : ∀ (ds : List PyData) (vs : List V) (us : List Value), DpAll X.K H ds vs → Vals vs us → ∃ as, ReadsAll s.heap us ds as
  | [], vs, us, h, r => by
    rw [DpAll] at h; subst h; cases r; exact ⟨_, .nil⟩
  | d :: ds, vs, us, h, r => by
    rw [DpAll] at h
    obtain ⟨v, rr, e, h1, h2⟩ := h
    subst e
    cases r with
    | cons r1 r2 =>
      obtain ⟨as, z1⟩ := dp_reads I d _ _ h1 r1
      obtain ⟨bs, z2⟩ := dpAll_reads I ds _ _ h2 r2
      exact ⟨_, .cons z1 z2⟩
end
end
def rEqD (K : PySem.W.Frag) : R2 := fun x y H Q => ∃ dx dy, Dp K H dx x ∧ Dp K H dy y ∧ shaped dx = true ∧ shaped dy = true ∧ Q (.bl (PyData.eqv dx dy)) H
def rNeD (K : PySem.W.Frag) : R2 := fun x y H Q => ∃ dx dy, Dp K H dx x ∧ Dp K H dy y ∧ shaped dx = true ∧ shaped dy = true ∧ Q (.bl (!PyData.eqv dx dy)) H

def rEqA (K : PySem.W.Frag) : R2 := fun x y H Q => rEq x y H Q ∨ rEqD K x y H Q
def rNeA (K : PySem.W.Frag) : R2 := fun x y H Q => rNe x y H Q ∨ rNeD K x y H Q
section
variable {X : Cx}
theorem op_eqD (hu : X.A.units + 64 < cLine) : OpR X (compareOp .Eq) (rEqD X.K) := by
  intro pins s σ H x y v u Q I rx ry h
  obtain ⟨dx, dy, hx, hy, sx, sy, q⟩ := h
  obtain ⟨as, ra⟩ := dp_reads I dx x v hx rx
  obtain ⟨bs, rb⟩ := dp_reads I dy y u hy ry
  exact eq_dataH ra rb sx sy hu ⟨.bl _, H, I, rfl, q⟩
theorem op_neD (hu : X.A.units + 64 < cLine) : OpR X (compareOp .NotEq) (rNeD X.K) := by
  intro pins s σ H x y v u Q I rx ry h
  obtain ⟨dx, dy, hx, hy, sx, sy, q⟩ := h
  obtain ⟨as, ra⟩ := dp_reads I dx x v hx rx
  obtain ⟨bs, rb⟩ := dp_reads I dy y u hy ry
  exact ne_dataH ra rb sx sy hu ⟨.bl _, H, I, rfl, q⟩
theorem op_eqA (hu : X.A.units + 64 < cLine) : OpR X (compareOp .Eq) (rEqA X.K) := op_eq.or (op_eqD hu)
theorem op_neA (hu : X.A.units + 64 < cLine) : OpR X (compareOp .NotEq) (rNeA X.K) := op_ne.or (op_neD hu)
end
theorem canLay_of (d : PyData) (h : shaped d = true) : d.canLay0 = true := (Bool.and_eq_true_iff.mp h).1
theorem r_eqS {K : PySem.W.Frag} {x y : V} {H : Hp} {Q : VK} (h : scal x y = true) (q : Q (.bl (decide (x = y))) H) : rEqA K x y H Q := .inl ⟨h, q⟩
theorem r_neS {K : PySem.W.Frag} {x y : V} {H : Hp} {Q : VK} (h : scal x y = true) (q : Q (.bl (!decide (x = y))) H) : rNeA K x y H Q := .inl ⟨h, q⟩
theorem r_eqT {K : PySem.W.Frag} {x y : V} {H : Hp} {Q : VK} (d : PyData) (hx : Dp K H d x) (hy : Dp K H d y) (hs : shaped d = true) (q : Q (.bl true) H) : rEqA K x y H Q :=
  .inr ⟨d, d, hx, hy, hs, hs, by rw [eqv_refl d (canLay_of d hs)]; exact q⟩
theorem r_neT {K : PySem.W.Frag} {x y : V} {H : Hp} {Q : VK} (d : PyData) (hx : Dp K H d x) (hy : Dp K H d y) (hs : shaped d = true) (q : Q (.bl false) H) : rNeA K x y H Q :=
  .inr ⟨d, d, hx, hy, hs, hs, by rw [eqv_refl d (canLay_of d hs)]; exact q⟩


def clsOf : V → Value
  | .ty n => .type n
  | .ref a => .ref a
  | _ => .none
theorem clsOf_eq {c : V} {u : Value} (r : RelV c u) (h : clsOf c ≠ .none) : u = clsOf c := by
  cases c <;> first | exact r | exact (h rfl).elim
def rIsi (K : PySem.W.Frag) : List V → Hp → VK → Prop := fun xs H Q => ∃ x c t b, xs = [x, c] ∧ clsOf c ≠ .none ∧ TyOf K H x t ∧ PySem.W.kitOne K t (clsOf c) = some b ∧ Q (.bl b) H
theorem call_isi {X : Cx} : CallR X (.builtin "isinstance") (rIsi X.K) := by
  intro pins s σ H xs us Q I r h
  obtain ⟨x, c, t, b, rfl, hc, ty, e, q⟩ := h
  obtain ⟨u, w', rfl, rx, rc⟩ := vals2 r
  cases clsOf_eq rc hc
  exact isinst_ok I rx ty e fun tk => ⟨.bl b, H, I.tok _, rfl, q⟩
theorem r_isi {K : PySem.W.Frag} {x c : V} {H : Hp} {Q : VK} {t : Value} {b : Bool} (hc : clsOf c ≠ .none) (ty : TyOf K H x t) (e : PySem.W.kitOne K t (clsOf c) = some b) (q : Q (.bl b) H) : rIsi K [x, c] H Q := ⟨x, c, t, b, rfl, hc, ty, e, q⟩


theorem bool_index : typeLookup (.type "bool") "__index__" = pure (some (.builtin "int.__index__")) := by rw [typeLookup_type, builtinLookup_eq_fast]; kernel_rfl
theorem listSubscript_bool {M : Model} {A : Around} {E : Value → Shared → Prop} {s : Shared} {b : Bool} {Q : Option Int → Shared → Prop} (h : Q (some (if b then 1 else 0)) s) :
    wpAny M A (Builtin.List.listSubscript? (.bool b)) Q E s := by
  unfold Builtin.List.listSubscript?
  refine wpAny_bind (wpAny_specialOf (T := "bool") (show s.TypeIs (.bool b) "bool" from rfl) bool_index ?_)
  show wpAny M A (asIndex (.bool b) >>= _) Q E s
  refine wpAny_bind (wpAny_of_eq (a := if b then 1 else 0) rfl ?_)
  show wpAny M A (if (!Builtin.List.listFitsIndex (if b then 1 else 0)) = true then _ else _) Q E s
  rw [if_neg (by cases b <;> decide)]
  exact wpAny_pure h
theorem getItem_list_bool {prog : Program} {w : World} {A : Around} {E : Value → Shared → Prop} {s : Shared} {l : Addr} {items : Array Value} {b : Bool} {x : Value} {Q : Value → Shared → Prop} (hl : s.heap.IsList l items)
    (hx : items[if b then 1 else 0]? = some x) (h : Q x s) : wpAny (model prog w) A (getItem (.ref l) (.bool b)) Q E s := by
  obtain ⟨o, ho, hc, ne, hd⟩ := id hl
  unfold getItem
  try with_reducible refine wpAny_holding ?_
  first | refine wpAny_bind (wpAny_pure ?_) | skip
  refine wpAny_bind (wpAny_sequenceKey hl.typeIs (by decide) ?_)
  refine wpAny_bind (wpAny_callSpecial?_slot (name := Str.ofString "__getitem__") hl.typeIs slot_list_getitem
    (wpAny_call_entry slot_list_getitem hl.typeIs entry_list_getitem ?_ (args_list_getitem _ _)))
  show wpAny _ _ (Builtin.List.listSubscript? (.bool b) >>= _) _ _ s
  refine wpAny_bind (listSubscript_bool ?_)
  cases b with
  | true =>
    have hx' : items[1]? = some x := hx
    show wpAny _ _ ((seqItemAt l 1 >>= fun r => pure (r.map (1, ·))) >>= _) _ _ s
    refine wpAny_bind (wpAny_bind (wpAny_seqItemAt ho hd (wpAny_pure ?_)))
    rw [hx']
    first
      | exact wpAny_bind (wpAny_pure (wpAny_pure ⟨x, rfl, wpAny_pure h⟩))
      | exact wpAny_pure ⟨x, rfl, wpAny_pure h⟩
  | false =>
    have hx' : items[0]? = some x := hx
    show wpAny _ _ ((seqItemAt l 0 >>= fun r => pure (r.map (0, ·))) >>= _) _ _ s
    refine wpAny_bind (wpAny_bind (wpAny_seqItemAt ho hd (wpAny_pure ?_)))
    rw [hx']
    first
      | exact wpAny_bind (wpAny_pure (wpAny_pure ⟨x, rfl, wpAny_pure h⟩))
      | exact wpAny_pure ⟨x, rfl, wpAny_pure h⟩
def rIxB (K : PySem.W.Frag) : R2 := fun x y H Q => ∃ p xs b v, x = .ref p ∧ y = .bl b ∧ SqL K H p xs ∧ xs[if b then 1 else 0]? = some v ∧ Q v H
theorem ix_bool {X : Cx} : IxR X (rIxB X.K) := by
  intro value slice pins s σ H x y v u Q I rx ry h hs
  obtain ⟨p, xs, b, z, rfl, rfl, hq, he, q⟩ := h
  cases rx
  cases ry
  obtain ⟨its, r, pl, hz⟩ := I.list hq
  obtain ⟨w, ew, rw'⟩ := r.get he
  exact subscriptTail_builtinR (x := w) pl.isList.typeIs slot_list_getitem.lookup
    (getItem_list_bool (Q := fun r s' => r = w ∧ EP X pins σ Q r s') pl.isList (by simpa using ew) ⟨rfl, z, H, I, rw', q⟩) hs

def rIxA (K : PySem.W.Frag) : R2 := fun x y H Q => rIx K x y H Q ∨ rIxB K x y H Q
theorem ix_any {X : Cx} : IxR X (rIxA X.K) := ix_seq.or ix_bool
theorem r_ixL {K : PySem.W.Frag} {p : Addr} {xs : List V} {i : Int} {v : V} {H : Hp} {Q : VK} (h : SqL K H p xs) (e : atI xs i = some v) (q : Q v H) : rIxA K (.ref p) (.int i) H Q := .inl (.inl ⟨p, xs, i, v, rfl, rfl, h, e, q⟩)
theorem r_ixT {K : PySem.W.Frag} {p : Addr} {xs : List V} {i : Int} {v : V} {H : Hp} {Q : VK} (h : SqT K H p xs) (e : atI xs i = some v) (q : Q v H) : rIxA K (.ref p) (.int i) H Q := .inl (.inr (.inl ⟨p, xs, i, v, rfl, rfl, h, e, q⟩))
def rStr : R2 := fun x y H Q => ∃ i j, x = .str i ∧ y = .str j ∧ i.length + j.length ≤ sizeLine ∧ Q (.str (i ++ j)) H
def rPlus (K : PySem.W.Frag) : R2 := fun x y H Q => rI0 (fun i j => .int (i + j)) x y H Q ∨ rCat x y H Q ∨ rCatT K x y H Q ∨ rStr x y H Q
theorem op_plus {X : Cx} : OpR X (binaryOp .Add) (rPlus X.K) := op_add.or (op_cat.or (op_catT.or op_add_str))
theorem r_plusI {K : PySem.W.Frag} {i j : Int} {H : Hp} {Q : VK} (q : Q (.int (i + j)) H) : rPlus K (.int i) (.int j) H Q := .inl ⟨i, j, rfl, rfl, q⟩
theorem r_plusL {K : PySem.W.Frag} {a b : Addr} {xs ys : List V} {H : Hp} {Q : VK} (ha : H a = some (.lst xs)) (hb : H b = some (.lst ys)) (hz : xs.length + ys.length ≤ sizeLine) (q : ∀ p, H p = none → Q (.ref p) (upd H p (.lst (xs ++ ys)))) :
    rPlus K (.ref a) (.ref b) H Q := .inr (.inl ⟨a, b, xs, ys, rfl, rfl, ha, hb, hz, q⟩)
def rTimes : R2 := fun x y H Q => rI CMul (fun i j => .int (i * j)) x y H Q ∨ rRep x y H Q
theorem op_times {X : Cx} : OpR X (binaryOp .Mult) rTimes := op_mul.or op_rep
theorem r_timesI {i j : Int} {H : Hp} {Q : VK} (h : CMul i j) (q : Q (.int (i * j)) H) : rTimes (.int i) (.int j) H Q := .inl ⟨i, j, rfl, rfl, h, q⟩
def rSlA (K : PySem.W.Frag) : V → Option Int → Option Int → Hp → VK → Prop := fun x lo hi H Q => rSlL K x lo hi H Q ∨ rSlT K x lo hi H Q
theorem sl_any {X : Cx} : SlR X (rSlA X.K) := sl_list.or sl_tup


structure FnE (P : Program) (w : World) (K : PySem.W.Frag) (mg : Str → Option Value) (base : Heap) (CX : CXT) (k : Nat) (x : Str) (sp : Sp) : Prop where
  ex : ∃ (f : Addr) (fd : FuncData) (ps : List Str), FnOk P w K mg base CX k f fd ps sp ∧ mg x = some (.ref f) ∧ PySem.W.keepIn K (.ref f) = true ∧ Binds K fd ps []
structure MethE (P : Program) (w : World) (K : PySem.W.Frag) (mg : Str → Option Value) (base : Heap) (CX : CXT) (k : Nat) (C : Addr) (m : Str) (sp : Sp) : Prop where
  cl : Cls K C
  ex : ∃ (f : Addr) (fd : FuncData) (ps : List Str), Meth K C m f ∧ FnOk P w K mg base CX k f fd ps sp ∧ Binds K fd ps []
structure MkE (P : Program) (w : World) (K : PySem.W.Frag) (mg : Str → Option Value) (base : Heap) (CX : CXT) (k : Nat) (x : Str) (C : Addr) (sp : Sp) : Prop where
  ex : ∃ (f : Addr) (fd : FuncData) (ps : List Str), Mk K C f ∧ FnOk P w K mg base CX k f fd ps sp ∧ mg x = some (.ref C) ∧ Binds K fd ps []
theorem MethE.mono {P : Program} {w : World} {K : PySem.W.Frag} {mg : Str → Option Value} {base : Heap} {CX : CXT} {j k : Nat} {C : Addr} {m : Str} {sp : Sp} (M : MethE P w K mg base CX j C m sp) (h : j ≤ k) : MethE P w K mg base CX k C m sp := by
  obtain ⟨f, fd, ps, a, b, c⟩ := M.ex
  exact ⟨M.cl, f, fd, ps, a, b.mono h, c⟩
def tCallE (sp : Sp) (E : XK) (t : TA) : TE := fun σ H Q => t σ H fun vs H1 => sp vs H1 Q E
def tMakeE (C : Addr) (sp : Sp) (E : XK) (t : TA) : TE := fun σ H Q => t σ H fun vs H1 => ∀ x dx, H1 x = none → H1 dx = none → dx ≠ x →
  sp (.ref x :: vs) (upd (upd H1 dx (.own x)) x (.ins C dx [])) (fun v H2 => v = .non ∧ Q (.ref x) H2) E
def tMethE (P : Program) (w : World) (K : PySem.W.Frag) (mg : Str → Option Value) (base : Heap) (CX : CXT) (k : Nat) (m : Str) (E : XK) (ta : TE) (t : TA) : TE := fun σ H Q => ta σ H fun x H1 =>
  ∃ a C dx fs sp, x = .ref a ∧ H1 a = some (.ins C dx fs) ∧ fs.lookup m = none ∧ MethE P w K mg base CX k C m sp ∧ t σ H1 fun vs H2 => sp (.ref a :: vs) H2 Q E
section
variable {X : Cx} {CX : CXT} {k : Nat} {C : Addr} {sp : Sp} {E : XK} {x m : Str} {p pos apos : Pos} {e o : Expr} {es : List Expr} {ta : TE} {t : TA}
theorem pe_callE (G : FnE X.prog X.w X.K X.mg X.base CX k x sp) (hr : Room k X.A) (hx : Passes CX X E) (hg : Gl X x) (ha : PA X (e :: es) t) (hdb : (x == ("__debug__" : Str)) = false := by decide)
    (he : starEach (e :: es) X.env = (false, eval e X.env) :: starEach es X.env := by rfl) (hpl : (backTo pos (starEach es X.env)).any (·.1) = false := by rfl) : PE X (.Call (.Name x p) (e :: es) [] pos) (tCallE sp E t) := by
  obtain ⟨f, fd, ps, F, hm, hk, hb⟩ := G.ex
  have z := pe_call (p := p) (pos := pos) F hr hg hm hk hb .nil hx ha hdb he hpl
  intro pins s σ H Q I h
  refine z pins s σ H Q I ?_
  have e1 : tCall sp [] E t = tCallE sp E t := by
    funext σ H Q
    show t σ H (fun vs H1 => sp (vs ++ []) H1 Q E) = t σ H (fun vs H1 => sp vs H1 Q E)
    simp only [List.append_nil]
  rw [e1]; exact h
theorem pe_makeE (G : MkE X.prog X.w X.K X.mg X.base CX k x C sp) (hr : Room (k + 1) X.A) (hx : Passes CX X E) (hg : Gl X x) (ha : PA X (e :: es) t) (hdb : (x == ("__debug__" : Str)) = false := by decide)
    (he : starEach (e :: es) X.env = (false, eval e X.env) :: starEach es X.env := by rfl) (hpl : (backTo pos (starEach es X.env)).any (·.1) = false := by rfl) : PE X (.Call (.Name x p) (e :: es) [] pos) (tMakeE C sp E t) := by
  obtain ⟨f, fd, ps, M, F, hm, hb⟩ := G.ex
  have z := pe_make (p := p) (pos := pos) M F hr hg hm hb .nil hx ha hdb he hpl
  intro pins s σ H Q I h
  refine z pins s σ H Q I ?_
  have e1 : tMake C sp [] E t = tMakeE C sp E t := by
    funext σ H Q
    show t σ H (fun vs H1 => ∀ x dx, H1 x = none → H1 dx = none → dx ≠ x → sp (.ref x :: (vs ++ [])) _ _ E) = t σ H (fun vs H1 => ∀ x dx, H1 x = none → H1 dx = none → dx ≠ x → sp (.ref x :: vs) _ _ E)
    simp only [List.append_nil]
  rw [e1]; exact h
theorem pe_methE {pl : Sem Bool} (he : PE X o ta) (hr : Room k X.A) (hx : Passes CX X E) (ha : PA X (e :: es) t)
    (hst : starEach (e :: es) X.env = (false, eval e X.env) :: starEach es X.env := by rfl) (hpl : (backTo pos (starEach es X.env)).any (·.1) = false := by rfl)
    (ht : eval (.Call (.Attribute o m apos) (e :: es) [] pos) X.env = (do
      let ov ← eval o X.env
      standAt apos.atName
      let (f, first) ← holding [ov] (getMethod ov m pl)
      callWith pos f first (backTo pos (starEach (e :: es) X.env)) (backToKw pos (keywordEach [] X.env))) := by rfl) :
    PE X (.Call (.Attribute o m apos) (e :: es) [] pos) (tMethE X.prog X.w X.K X.mg X.base CX k m E ta t) := by
  intro pins s σ H Q I h
  refine PySem.W.methodCall_KW (pl := pl) (thn (he pins s σ H _ I h) fun u s1 ⟨x, H1, I1, rx, a, C, dx, fs, sp, ex, ea, l, M, q⟩ => ?_) ht
  subst ex
  obtain rfl : u = Value.ref a := rx
  obtain ⟨f, fd, ps, hm, F, hb⟩ := M.ex
  refine getmeth_ok I1 ea M.cl hm l ?_
  refine PySem.W.callWith_K (first := [.ref a]) (h₀ := X.base) I.ok.mod.kin hm.kp (thn (ha pos pins s1 σ H1 _ I1 q) fun us s2 ⟨vs, H2, I2, r, q2⟩ => ⟨I2.kIn, ?_⟩) hst hpl
  exact run_fn (us := .ref a :: us) (vs := .ref a :: vs) F hr hb .nil hx I2 (.cons rfl r) (by rw [List.append_nil]; exact q2)
theorem pe_methE0 {pl : Sem Bool} (he : PE X o ta) (hr : Room k X.A) (hx : Passes CX X E)
    (ht : eval (.Call (.Attribute o m apos) [] [] pos) X.env = (do
      let ov ← eval o X.env
      standAt apos.atName
      let (f, first) ← holding [ov] (getMethod ov m pl)
      callWith pos f first (backTo pos (starEach [] X.env)) (backToKw pos (keywordEach [] X.env))) := by rfl) :
    PE X (.Call (.Attribute o m apos) [] [] pos) (tMethE X.prog X.w X.K X.mg X.base CX k m E ta tNil) := by
  intro pins s σ H Q I h
  refine PySem.W.methodCall_KW (pl := pl) (thn (he pins s σ H _ I h) fun u s1 ⟨x, H1, I1, rx, a, C, dx, fs, sp, ex, ea, l, M, q⟩ => ?_) ht
  subst ex
  obtain rfl : u = Value.ref a := rx
  obtain ⟨f, fd, ps, hm, F, hb⟩ := M.ex
  refine getmeth_ok I1 ea M.cl hm l ?_
  exact PySem.W.callWith_K0 (first := [.ref a]) I1.kIn hm.kp (run_fn (us := [.ref a]) (vs := [.ref a]) F hr hb .nil hx I1 (.cons rfl .nil) q)
end


theorem b_len : bootBuiltins "len" = some (.builtin "len") := by decide +kernel
theorem b_isinstance : bootBuiltins "isinstance" = some (.builtin "isinstance") := by decide +kernel
theorem b_sum : bootBuiltins "sum" = some (.builtin "sum") := by decide +kernel
theorem b_int : bootBuiltins "int" = some (.type "int") := by decide +kernel
theorem b_list : bootBuiltins "list" = some (.type "list") := by decide +kernel
theorem b_tuple : bootBuiltins "tuple" = some (.type "tuple") := by decide +kernel
def rFld (K : PySem.W.Frag) (f : Str) : V → Hp → VK → Prop := fun x H1 Q => ∃ a C dx fs v, x = .ref a ∧ H1 a = some (.ins C dx fs) ∧ Cls K C ∧ NoAttr K C f ∧ fs.lookup f = some v ∧ Q v H1
def rMeth (P : Program) (w : World) (K : PySem.W.Frag) (mg : Str → Option Value) (base : Heap) (CX : CXT) (k : Nat) (m : Str) (E : XK) (σ : St) (t : TA) : V → Hp → VK → Prop := fun x H1 Q =>
  ∃ a C dx fs sp, x = .ref a ∧ H1 a = some (.ins C dx fs) ∧ fs.lookup m = none ∧ MethE P w K mg base CX k C m sp ∧ t σ H1 fun vs H2 => sp (.ref a :: vs) H2 Q E
def sFldV (K : PySem.W.Frag) (f : Str) (y : V) (D : Ends) (σ : St) : V → Hp → Prop := fun x H2 => ∃ a C dx fs, x = .ref a ∧ H2 a = some (.ins C dx fs) ∧ Cls K C ∧ NoAttr K C f ∧ fs.length < 1000 ∧ D.nx σ (upd H2 a (.ins C dx (putF f y fs)))
def rLen (K : PySem.W.Frag) : List V → Hp → VK → Prop := fun xs H Q => ∃ x n, xs = [x] ∧ LenV K x H n ∧ Q (.int n) H
theorem call_lenA {X : Cx} : CallR X (.builtin "len") (rLen X.K) := call_len
theorem r_lenL {K : PySem.W.Frag} {p : Addr} {xs : List V} {H : Hp} {Q : VK} (h : SqL K H p xs) (q : Q (.int xs.length) H) : rLen K [.ref p] H Q := ⟨.ref p, xs.length, rfl, .inl ⟨xs, h, rfl⟩, q⟩
theorem r_lenT {K : PySem.W.Frag} {p : Addr} {xs : List V} {H : Hp} {Q : VK} (h : SqT K H p xs) (q : Q (.int xs.length) H) : rLen K [.ref p] H Q := ⟨.ref p, xs.length, rfl, .inr ⟨xs, h, rfl⟩, q⟩
def rLst (K : PySem.W.Frag) : List V → Hp → VK → Prop := fun xs H Q => ∃ p ys, xs = [.ref p] ∧ (SqL K H p ys ∨ SqT K H p ys) ∧ ∀ l, H l = none → Q (.ref l) (upd H l (.lst ys))
theorem call_listA {X : Cx} : CallR X (.type "list") (rLst X.K) := call_list_of
theorem r_listL {K : PySem.W.Frag} {p : Addr} {xs : List V} {H : Hp} {Q : VK} (h : SqL K H p xs) (q : ∀ l, H l = none → Q (.ref l) (upd H l (.lst xs))) : rLst K [.ref p] H Q := ⟨p, xs, rfl, .inl h, q⟩
theorem r_slL {K : PySem.W.Frag} {p : Addr} {xs : List V} {lo hi : Option Int} {H : Hp} {Q : VK} (h : SqL K H p xs) (q : ∀ l, H l = none → Q (.ref l) (upd H l (.lst (cutV xs lo hi)))) : rSlA K (.ref p) lo hi H Q := .inl ⟨p, xs, rfl, h, q⟩
theorem r_slT {K : PySem.W.Frag} {p : Addr} {xs : List V} {lo hi : Option Int} {H : Hp} {Q : VK} (h : SqT K H p xs) (hn : ¬ (HT.sIx xs.length 0 lo = 0 ∧ HT.sIx xs.length xs.length hi = xs.length)) (q : ∀ l, H l = none → Q (.ref l) (upd H l (.tup (cutV xs lo hi)))) :
    rSlA K (.ref p) lo hi H Q := .inr ⟨p, xs, rfl, h, hn, q⟩
def rTru (K : PySem.W.Frag) (x : V) (H : Hp) (Q : Bool → Hp → Prop) : Prop := ∃ k, TruV K x H k ∧ Q k H
theorem r_truB {K : PySem.W.Frag} {b : Bool} {H : Hp} {Q : Bool → Hp → Prop} (q : Q b H) : rTru K (.bl b) H Q := ⟨b, rfl, q⟩
theorem iteNT {A B : Prop} (h : B) : if (!true) = true then A else B := h
theorem sql_new {K : PySem.W.Frag} {H : Hp} {a p : Addr} {xs : List V} {o : HO} (h : SqL K H a xs) (hp : H p = none) : SqL K (upd H p o) a xs := Same.seq (same_new hp) h
theorem sqt_new {K : PySem.W.Frag} {H : Hp} {a p : Addr} {xs : List V} {o : HO} (h : SqT K H a xs) (hp : H p = none) : SqT K (upd H p o) a xs := SqT_same (same_new hp) h
theorem ty_list {K : PySem.W.Frag} {H : Hp} {p : Addr} {xs : List V} (h : H p = some (.lst xs)) : tyV K "list" (.ref p) H := .inl ⟨rfl, xs, SqL.of h⟩

def ForW (J : It) (g : TG) (tb : TS) (D : Ends) (σ : St) (H1 : Hp) : Prop := ∃ W : Nat → Nat → St → Hp → Prop, (∃ m, W 0 m σ H1) ∧ ∀ i m σ H, W i m σ H →
  (J.stop i H ∧ D.nx σ H) ∨ (J.go i H ∧ ∃ N : St → Hp → Prop, (∀ σ' H', N σ' H' → ∃ m', m' < m ∧ W (i + 1) m' σ' H') ∧ ∀ x H', J.yld i H x H' → g x σ H' fun σ2 H2 => tb { D with nx := N, ct := N, bk := D.nx } σ2 H2)
theorem r_for {wi : TI} {g : TG} {tb : TS} {D : Ends} {σ : St} {H : Hp} (q : wi σ H fun J H1 => ForW J g tb D σ H1) : tFor wi g tb D σ H := q

def iSeq (K : PySem.W.Frag) (tl : TE) : TI := fun σ H R => tl σ H fun x H1 => ∃ a, x = .ref a ∧ (((∃ xs, SqL K H1 a xs) ∧ R (Itl K a) H1) ∨ ((∃ xs, SqT K H1 a xs) ∧ R (Itt K a) H1))
theorem r_iSeq {K : PySem.W.Frag} {tl : TE} {σ : St} {H : Hp} {R : It → Hp → Prop} (q : tl σ H fun x H1 => ∃ a, x = .ref a ∧ (((∃ xs, SqL K H1 a xs) ∧ R (Itl K a) H1) ∨ ((∃ xs, SqT K H1 a xs) ∧ R (Itt K a) H1))) : iSeq K tl σ H R := q
theorem r_rng1 {ta : TA} {σ : St} {H : Hp} {R : It → Hp → Prop} (q : ta σ H fun vs H1 => ∃ j : Int, vs = [.int j] ∧ -(2 ^ 62) ≤ j ∧ j < 2 ^ 62 ∧ R (Itr 0 j.toNat) H1) : iRng1 ta σ H R := q
theorem pi_seq {X : Cx} {tg l : Expr} {tl : TE} (hl : PE X l tl) : PI X tg l (iSeq X.K tl) := by
  intro pins s σ H R I h
  refine thn (hl pins s σ H _ I h) fun v s1 ⟨x, H1, I1, r1, q1⟩ => ?_
  obtain ⟨a, e, hq⟩ := q1
  subst e
  cases r1
  rcases hq with ⟨⟨xs, hq⟩, q⟩ | ⟨⟨xs, hq⟩, q⟩
  · obtain ⟨its, rv, p, hz⟩ := I1.list hq
    refine wpAny_pyIter_list p.isList ?_
    refine ⟨s1.heap.objs.size, [s1.heap.objs.size], _, _, H1, rfl, I1.kept (t' := s1.toks) fun b o e => Heap.get?_push_of_some _ e, turn_list a _, ⟨_, Heap.get?_push_size _ rfl, rfl, rfl⟩, fun b hb => ?_, q⟩
    have e : b = s1.heap.objs.size := by simpa using hb
    subst e
    exact I1.fpOk (Nat.le_refl _) (I1.hok.fresh (Nat.le_refl _))
  · obtain ⟨its, rv, p, hz⟩ := I1.tuple hq
    refine wpAny_pyIter_tuple (show s1.heap.IsTuple a its.toArray from p) ?_
    refine ⟨s1.heap.objs.size, [s1.heap.objs.size], _, _, H1, rfl, I1.kept (t' := s1.toks) fun b o e => Heap.get?_push_of_some _ e, turn_tuple a _, ⟨_, Heap.get?_push_size _ rfl, rfl, rfl⟩, fun b hb => ?_, q⟩
    have e : b = s1.heap.objs.size := by simpa using hb
    subst e
    exact I1.fpOk (Nat.le_refl _) (I1.hok.fresh (Nat.le_refl _))
section
variable {σ : St} {H : Hp} {Q : VK}
theorem r_var {i : Nat} {v : V} (h : σ[i]? = some (some v)) (q : Q v H) : tVar i σ H Q := ⟨v, h, q⟩
theorem r_c {v : V} (q : Q v H) : tC v σ H Q := q
theorem r_op {r : R2} {ta tb : TE} (q : ta σ H fun x H1 => tb σ H1 fun y H2 => r x y H2 Q) : tOp r ta tb σ H Q := q
theorem r_un {r : V → Hp → VK → Prop} {ta : TE} (q : ta σ H fun x H1 => r x H1 Q) : tUn r ta σ H Q := q
theorem r_U {g : Int → V} {i : Int} (q : Q (g i) H) : rU g (.int i) H Q := ⟨i, rfl, q⟩
theorem r_I0 {g : Int → Int → V} {i j : Int} (q : Q (g i j) H) : rI0 g (.int i) (.int j) H Q := ⟨i, j, rfl, rfl, q⟩
theorem r_I {C : Int → Int → Prop} {g : Int → Int → V} {i j : Int} (h : C i j) (q : Q (g i j) H) : rI C g (.int i) (.int j) H Q := ⟨i, j, rfl, rfl, h, q⟩
theorem r_cb {r : List V → Hp → VK → Prop} {t : TA} (q : t σ H fun vs H1 => r vs H1 Q) : tCB r t σ H Q := q
theorem r_callE {sp : Sp} {E : XK} {t : TA} (q : t σ H fun vs H1 => sp vs H1 Q E) : tCallE sp E t σ H Q := q
theorem r_makeE {C : Addr} {sp : Sp} {E : XK} {t : TA} (q : t σ H fun vs H1 => ∀ x dx, H1 x = none → H1 dx = none → dx ≠ x → sp (.ref x :: vs) (upd (upd H1 dx (.own x)) x (.ins C dx [])) (fun v H2 => v = .non ∧ Q (.ref x) H2) E) : tMakeE C sp E t σ H Q := q
theorem r_methE {P : Program} {w : World} {K : PySem.W.Frag} {mg : Str → Option Value} {base : Heap} {CX : CXT} {k : Nat} {m : Str} {E : XK} {ta : TE} {t : TA} (q : ta σ H fun x H1 => rMeth P w K mg base CX k m E σ t x H1 Q) : tMethE P w K mg base CX k m E ta t σ H Q := q
theorem r_methV {P : Program} {w : World} {K : PySem.W.Frag} {mg : Str → Option Value} {base : Heap} {CX : CXT} {k : Nat} {m : Str} {E : XK} {t : TA} {p C dx : Addr} {fs : List (Str × V)} {sp : Sp} (h : H p = some (.ins C dx fs)) (l : fs.lookup m = none) (M : MethE P w K mg base CX k C m sp)
    (q : t σ H fun vs H2 => sp (.ref p :: vs) H2 Q E) : rMeth P w K mg base CX k m E σ t (.ref p) H Q := ⟨p, C, dx, fs, sp, rfl, h, l, M, q⟩
theorem r_fld {K : PySem.W.Frag} {ta : TE} {f : Str} (q : ta σ H fun x H1 => rFld K f x H1 Q) : tFld K ta f σ H Q := q
theorem r_fldV {K : PySem.W.Frag} {f : Str} {p C dx : Addr} {fs : List (Str × V)} {v : V} (h : H p = some (.ins C dx fs)) (c : Cls K C) (n : NoAttr K C f) (l : fs.lookup f = some v) (q : Q v H) : rFld K f (.ref p) H Q := ⟨p, C, dx, fs, v, rfl, h, c, n, l, q⟩
theorem r_tup {t : TA} (q : t σ H fun xs H1 => xs.length ≤ sizeLine ∧ ∀ p, H1 p = none → Q (.ref p) (upd H1 p (.tup xs))) : tTup t σ H Q := q
theorem r_lst {t : TA} (q : t σ H fun xs H1 => xs.length ≤ sizeLine ∧ ∀ p, H1 p = none → Q (.ref p) (upd H1 p (.lst xs))) : tLst t σ H Q := q
theorem r_andV {ta tb : TE} (q : ta σ H fun x H1 => ∃ c, x = .bl c ∧ if c = true then tb σ H1 Q else Q (.bl false) H1) : tAndV ta tb σ H Q := q
theorem r_notV {ta : TE} (q : ta σ H fun x H1 => ∃ c, x = .bl c ∧ Q (.bl (!c)) H1) : tNotV ta σ H Q := q
theorem r_if {t : TT} {ta tb : TE} (q : t σ H fun c H1 => if c = true then ta σ H1 Q else tb σ H1 Q) : tIf t ta tb σ H Q := q
theorem r_sl {r : V → Option Int → Option Int → Hp → VK → Prop} {te : TE} {tl th : TO} (q : te σ H fun x H1 => tl σ H1 fun l H2 => th σ H2 fun u H3 => r x l u H3 Q) : tSl r te tl th σ H Q := q
theorem r_bm {K : PySem.W.Frag} {T : String} {r : V → List V → Hp → VK → Prop} {to : TE} {t : TA} (q : to σ H fun x H1 => tyV K T x H1 ∧ t σ H1 fun xs H2 => r x xs H2 Q) : tBM K T r to t σ H Q := q
end
section
variable {σ : St} {H : Hp} {Q : List V → Hp → Prop}
theorem r_nil (q : Q [] H) : tNil σ H Q := q
theorem r_cons {ta : TE} {tr : TA} (q : ta σ H fun x H1 => tr σ H1 fun xs H2 => Q (x :: xs) H2) : tCons ta tr σ H Q := q
end
section
variable {σ : St} {H : Hp} {Q : Option Int → Hp → Prop}
theorem r_noPart (q : Q none H) : tNoPart σ H Q := q
theorem r_part {t : TE} (q : t σ H fun x H1 => ∃ i, x = .int i ∧ Q (some i) H1) : tPart t σ H Q := q
end
section
variable {σ : St} {H : Hp} {Q : Bool → Hp → Prop}
theorem r_test {t : TE} (q : t σ H fun x H' => ∃ k, x = .bl k ∧ Q k H') : tTest t σ H Q := q
theorem r_or {t u : TT} (q : t σ H fun c H1 => if c = true then Q true H1 else u σ H1 Q) : tOr t u σ H Q := q
theorem r_not {t : TT} (q : t σ H fun c H1 => Q (!c) H1) : tNot t σ H Q := q
theorem r_true (q : Q true H) : tTrue σ H Q := q
def tTru (K : PySem.W.Frag) (ta : TE) : TT := fun σ H Q => ta σ H fun x H' => rTru K x H' Q
theorem pt_tru {X : Cx} {a : Expr} {ta : TE} (ha : PE X a ta) (he : ∀ whole, isTrue a X.env whole = (do let v ← whole; standAt a.pos; holding [v] (truthy v)) := by intro _; rfl) : PT X a (tTru X.K ta) := pt_truth ha he
theorem r_tru {K : PySem.W.Frag} {ta : TE} (q : ta σ H fun x H' => rTru K x H' Q) : tTru K ta σ H Q := q
end
section
variable {D : Ends} {σ : St} {H : Hp}
theorem r_next (q : D.nx σ H) : tNext D σ H := q
theorem r_seq {t u : TS} (q : t { D with nx := u D } σ H) : tSeq t u D σ H := q
theorem r_ret {te : TE} (q : te σ H D.rt) : tRet te D σ H := q
theorem r_ifS {c : TT} {t u : TS} (q : c σ H fun b H1 => if b = true then t D σ H1 else u D σ H1) : tIfS c t u D σ H := q
theorem r_asg {te : TE} {g : TG} (q : te σ H fun x H1 => g x σ H1 D.nx) : tAsg te g D σ H := q
theorem r_drop {te : TE} (q : te σ H fun _ H1 => D.nx σ H1) : tDrop te D σ H := q
theorem r_sFld {K : PySem.W.Frag} {ta tv : TE} {f : Str} (q : tv σ H fun y H1 => ta σ H1 fun x H2 => sFldV K f y D σ x H2) : sFld K ta tv f D σ H := q
theorem r_sFldV {K : PySem.W.Frag} {f : Str} {y : V} {p C dx : Addr} {fs : List (Str × V)} (h : H p = some (.ins C dx fs)) (c : Cls K C) (n : NoAttr K C f) (l : fs.length < 1000) (q : D.nx σ (upd H p (.ins C dx (putF f y fs)))) : sFldV K f y D σ (.ref p) H := ⟨p, C, dx, fs, rfl, h, c, n, l, q⟩
end
theorem ifDec {c A B : Prop} [Decidable c] (h1 : c → A) (h2 : ¬ c → B) : if decide c = true then A else B := by
  by_cases h : c
  · rw [if_pos (decide_eq_true h)]; exact h1 h
  · rw [if_neg (by rw [decide_eq_false h]; exact Bool.false_ne_true)]; exact h2 h
theorem ifDecN {c A B : Prop} [Decidable c] (h1 : ¬ c → A) (h2 : c → B) : if (!decide c) = true then A else B := by
  by_cases h : c
  · rw [if_neg (by rw [decide_eq_true h]; decide)]; exact h2 h
  · rw [if_pos (by rw [decide_eq_false h]; rfl)]; exact h1 h
theorem ifInt {a b : Int} {A B : Prop} (h1 : a = b → A) (h2 : a ≠ b → B) : if decide (V.int a = V.int b) = true then A else B :=
  ifDec (fun e => h1 (by cases e; rfl)) fun e => h2 fun z => e (by rw [z])
theorem ifIntN {a b : Int} {A B : Prop} (h1 : a ≠ b → A) (h2 : a = b → B) : if (!decide (V.int a = V.int b)) = true then A else B :=
  ifDecN (fun e => h1 fun z => e (by rw [z])) fun e => h2 (by cases e; rfl)
end L3
namespace L3
open PySem PySem.Spec PyProof.Rows L2
section
variable {P : Program} {w : World} {K : PySem.W.Frag} {mg : Str → Option Value} {base : Heap} {x qual : Str} {st : Stmt} {N ps : List Str} {sp : Sp} {C : Addr}

def BodyOk (P : Program) (w : World) (K : PySem.W.Frag) (mg : Str → Option Value) (base : Heap) (k : Nat) (qual : Str) (st : Stmt) (N : List Str) (sp : Sp) : Prop :=
  ∀ (f : Addr) (cdv : Value) (A : Around) (outer : List Env) (s : Shared) (H : Hp) (vs : List V) (Q : VK) (E : XK), Room k (A.deeper (envOfC qual (defScope st) s.heap.objs.size f cdv)) → sp vs H Q E →
    ∃ t, PSs (cxOf CX0 P w K mg base N qual (defScope st) f cdv A outer s H E).nox (defBody st) t ∧ t { nx := fun _ H' => Q .non H', rt := Q } (start N vs) H
theorem fnE_of (k : Nat) (h : ∃ f fd, Fun K x qual st f fd ∧ mg x = some (.ref f) ∧ Binds K fd ps []) (S : FnScope N ps (defScope st)) (len : ∀ vs H Q E, sp vs H Q E → vs.length = ps.length)
    (hbody : BodyOk P w K mg base k qual st N sp) : FnE P w K mg base CX0 (k + 1) x sp := by
  obtain ⟨f, fd, F, hm, hb⟩ := h
  exact ⟨f, fd, ps, F.ok S len (hbody f), hm, F.kp, hb⟩
theorem methE_of (k : Nat) (c : Cls K C) (h : ∃ f fd, Fun K x qual st f fd ∧ Meth K C x f ∧ Binds K fd ps []) (S : FnScope N ps (defScope st)) (len : ∀ vs H Q E, sp vs H Q E → vs.length = ps.length)
    (hbody : BodyOk P w K mg base k qual st N sp) : MethE P w K mg base CX0 (k + 1) C x sp := by
  obtain ⟨f, fd, F, hm, hb⟩ := h
  exact ⟨c, f, fd, ps, hm, F.ok S len (hbody f), hb⟩
theorem mkE_of {y : Str} (k : Nat) (hy : mg y = some (.ref C)) (h : ∃ f fd, Fun K "__init__" qual st f fd ∧ Mk K C f ∧ Binds K fd ps []) (S : FnScope N ps (defScope st)) (len : ∀ vs H Q E, sp vs H Q E → vs.length = ps.length)
    (hbody : BodyOk P w K mg base k qual st N sp) : MkE P w K mg base CX0 (k + 1) y C sp := by
  obtain ⟨f, fd, F, hm, hb⟩ := h
  exact ⟨f, fd, ps, hm, F.ok S len (hbody f), hy, hb⟩
end
end L3

namespace L3
open PySem PySem.Spec PyProof.Rows L2 PySem.SeqAt

section
variable {X : Cx} {K : PySem.W.Frag}
theorem op_plusK (h : X.K = K) : OpR X (binaryOp .Add) (rPlus K) := by subst h; exact op_plus
theorem op_eqK (h : X.K = K) (hu : X.A.units + 64 < cLine) : OpR X (compareOp .Eq) (rEqA K) := by subst h; exact op_eqA hu
theorem op_neK (h : X.K = K) (hu : X.A.units + 64 < cLine) : OpR X (compareOp .NotEq) (rNeA K) := by subst h; exact op_neA hu
theorem op_inK (h : X.K = K) : OpR X (compareOp .In) (rIn K false) := by subst h; exact op_in_seq
theorem ix_K (h : X.K = K) : IxR X (rIxA K) := by subst h; exact ix_any
theorem sl_K (h : X.K = K) : SlR X (rSlA K) := by subst h; exact sl_any
theorem pi_seqK {tg l : Expr} {tl : TE} (h : X.K = K) (hl : PE X l tl) : PI X tg l (iSeq K tl) := by subst h; exact pi_seq hl
theorem call_lenK (h : X.K = K) : CallR X (.builtin "len") (rLen K) := by subst h; exact call_lenA
theorem call_listK (h : X.K = K) : CallR X (.type "list") (rLst K) := by subst h; exact call_listA
theorem call_isiK (h : X.K = K) : CallR X (.builtin "isinstance") (rIsi K) := by subst h; exact call_isi
theorem pe_fldK {e : Expr} {f : Str} {pos : Pos} {ta : TE} (h : X.K = K) (he : PE X e ta) (hb : attributeBase e f X.env (eval e X.env) = eval e X.env := by rfl) : PE X (.Attribute e f pos) (tFld K ta f) := by subst h; exact pe_fld he hb
theorem ps_fldK {o value : Expr} {f : Str} {pos pos' : Pos} {ta tv : TE} (h : X.K = K) (ha : PE X o ta) (hv : PE X value tv) (hs : swapsWith value (some (.Attribute o f pos')) pos.line X.env = pure false := by rfl) :
    PS X (.Assign [.Attribute o f pos'] value pos) (sFld K ta tv f) := by subst h; exact ps_fld ha hv hs
theorem pt_truK {a : Expr} {ta : TE} (h : X.K = K) (ha : PE X a ta) (he : ∀ whole, isTrue a X.env whole = (do let v ← whole; standAt a.pos; holding [v] (truthy v)) := by intro _; rfl) : PT X a (tTru K ta) := by subst h; exact pt_tru ha he
theorem pg_tupK {es : List Expr} {k : Nat} {t : TGs} {n : Nat} {pos : Pos} (hK : X.K = K) (hc : X.calm = true) (h : PGs X es t)
    (hn : (assignEach es X.env).length = n := by rfl) (hst : (assignEach es X.env).findIdx? (·.1) = none := by rfl) : PG X (.Tuple es k pos) (gTup K n t) := by subst hK; exact pg_tup hc h hn hst
theorem pe_bmK {o e : Expr} {es : List Expr} {to : TE} {t : TA} {name : Str} {apos cpos : Pos} {T id : String} {r : V → List V → Hp → VK → Prop} (h : X.K = K) (pa : PlainAttrs T) (slot : Slot T name id) (hty : typeOf (.builtin id) = pure (.type "method_descriptor")) (hm : MtR X id r) (ho : PE X o to) (ha : PA X (e :: es) t)
    (hbase : attributeBase o name X.env (eval o X.env) = eval o X.env := by rfl)
    (hfew : ((backTo cpos (starEach (e :: es) X.env)).all (fun x => !x.1) && (backToKw cpos (keywordEach [] X.env)).all (fun x => x.1.isSome)
      && decide ((e :: es).length + ([] : List Keyword).length + (if ([] : List Keyword).isEmpty then 0 else 1) < 30)) = true := by rfl)
    (hline : (apos.endLine == cpos.line) = true := by rfl) (hs : starEach (e :: es) X.env = (false, eval e X.env) :: starEach es X.env := by rfl) (hplain : (backTo cpos (starEach es X.env)).any (·.1) = false := by rfl) :
    PE X (.Call (.Attribute o name apos) (e :: es) [] cpos) (tBM K T r to t) := by subst h; exact pe_bm pa slot hty hm ho ha hbase hfew hline hs hplain
end
section
variable {X : Cx} {P : Program} {w : World} {K : PySem.W.Frag} {mg : Str → Option Value} {base : Heap} {CX : CXT} {k : Nat} {E : XK} {m : Str} {pos apos : Pos} {e o : Expr} {es : List Expr} {ta : TE} {t : TA}
theorem pe_methK {pl : Sem Bool} (hP : X.prog = P ∧ X.w = w ∧ X.K = K ∧ X.mg = mg ∧ X.base = base) (he : PE X o ta) (hr : Room k X.A) (hx : Passes CX X E) (ha : PA X (e :: es) t)
    (hst : starEach (e :: es) X.env = (false, eval e X.env) :: starEach es X.env := by rfl) (hpl : (backTo pos (starEach es X.env)).any (·.1) = false := by rfl)
    (ht : eval (.Call (.Attribute o m apos) (e :: es) [] pos) X.env = (do
      let ov ← eval o X.env
      standAt apos.atName
      let (f, first) ← holding [ov] (getMethod ov m pl)
      callWith pos f first (backTo pos (starEach (e :: es) X.env)) (backToKw pos (keywordEach [] X.env))) := by rfl) :
    PE X (.Call (.Attribute o m apos) (e :: es) [] pos) (tMethE P w K mg base CX k m E ta t) := by
  obtain ⟨rfl, rfl, rfl, rfl, rfl⟩ := hP
  exact pe_methE (pl := pl) he hr hx ha hst hpl ht
theorem pe_methK0 {pl : Sem Bool} (hP : X.prog = P ∧ X.w = w ∧ X.K = K ∧ X.mg = mg ∧ X.base = base) (he : PE X o ta) (hr : Room k X.A) (hx : Passes CX X E)
    (ht : eval (.Call (.Attribute o m apos) [] [] pos) X.env = (do
      let ov ← eval o X.env
      standAt apos.atName
      let (f, first) ← holding [ov] (getMethod ov m pl)
      callWith pos f first (backTo pos (starEach [] X.env)) (backToKw pos (keywordEach [] X.env))) := by rfl) :
    PE X (.Call (.Attribute o m apos) [] [] pos) (tMethE P w K mg base CX k m E ta tNil) := by
  obtain ⟨rfl, rfl, rfl, rfl, rfl⟩ := hP
  exact pe_methE0 (pl := pl) he hr hx ht
end
end L3
namespace L3
open PySem PySem.Spec PyProof.Rows L2 PySem.SeqAt

theorem r_alloc {H : Hp} {R : Addr → Prop} (q : ∀ p, H p = none → R p) : ∀ p, H p = none → R p := q
theorem r_small {n : Nat} {R : Prop} (h : n ≤ sizeLine) (q : R) : n ≤ sizeLine ∧ R := ⟨h, q⟩
theorem none_same {H H' : Hp} {q : Addr} (s : Same H H') (h : H' q = none) : H q = none := by
  cases e : H q with
  | none => rfl
  | some u => rw [s _ _ e] at h; cases h
theorem same_none {H H1 : Hp} {p : Addr} {o : HO} (s : Same H H1) (h : H1 p = none) : Same H (upd H1 p o) := s.trans (same_new h)

theorem r_62 {j : Int} {R : Prop} (h1 : -(2 ^ 62) ≤ j) (h2 : j < 2 ^ 62) (q : R) : -(2 ^ 62) ≤ j ∧ j < 2 ^ 62 ∧ R := ⟨h1, h2, q⟩
theorem r_itL {K : PySem.W.Frag} {H : Hp} {a : Addr} {xs : List V} {A B : Prop} (h : SqL K H a xs) (q : A) : ((∃ xs, SqL K H a xs) ∧ A) ∨ ((∃ xs, SqT K H a xs) ∧ B) := .inl ⟨⟨xs, h⟩, q⟩
theorem r_tyL {K : PySem.W.Frag} {H : Hp} {p : Addr} {xs : List V} {R : Prop} (h : H p = some (.lst xs)) (q : R) : tyV K "list" (.ref p) H ∧ R := ⟨ty_list h, q⟩
theorem dp_none {K : PySem.W.Frag} {H : Hp} : Dp K H .none .non := by rw [Dp]
theorem upd_again {H : Hp} {p : Addr} {o1 o2 : HO} : upd (upd H p o1) p o2 = upd H p o2 := upd_upd ..
theorem r_gN {i : Nat} {v : V} {σ σ' : St} {H : Hp} {Q : St → Hp → Prop} (h : σ.set i (some v) = σ') (q : Q σ' H) : gName i v σ H Q := by subst h; exact q
theorem r_st {N : List Str} {vs : List V} {σ' : St} {t : TS} {D : Ends} {H : Hp} (h : start N vs = σ') (q : t D σ' H) : t D (start N vs) H := by subst h; exact q
theorem r_compS' {i : Nat} {own : List Str} {fr : List (Str × Nat)} {wi : TI} {g : TG} {tc : TT} {te : TE} {D : Ends} {σ σi : St} {H : Hp} (h : innerS own fr σ = σi) (q : wi σ H fun J H1 => CompW J g tc te (fun ys H3 => ∀ p, H3 p = none → gName i (.ref p) σ (upd H3 p (.lst ys)) D.nx) σi H1) : tCompS i own fr wi g tc te D σ H := by subst h; exact q
theorem r_compE' {own : List Str} {fr : List (Str × Nat)} {wi : TI} {g : TG} {tc : TT} {te : TE} {σ σi : St} {H : Hp} {Q : VK} (h : innerS own fr σ = σi) (q : wi σ H fun J H1 => CompW J g tc te (fun ys H3 => ∀ p, H3 p = none → Q (.ref p) (upd H3 p (.lst ys))) σi H1) : tCompE own fr wi g tc te σ H Q := by subst h; exact q
def rIsN : R2 := fun x y H Q => y = .non ∧ Q (.bl (decide (x = .non))) H
theorem op_isNA {X : Cx} : OpR X (compareOp .Is) rIsN := op_isN
theorem r_isNr {p : Addr} {H : Hp} {Q : VK} (q : Q (.bl false) H) : rIsN (.ref p) .non H Q := ⟨rfl, q⟩
theorem r_isNn {H : Hp} {Q : VK} (q : Q (.bl true) H) : rIsN .non .non H Q := ⟨rfl, q⟩
theorem vals_ints : ∀ {ns : List Int} {its : List Value}, Vals (ns.map V.int) its → ∃ xs : List (Int × Tok), its = xs.map (fun p => Value.int p.1 p.2) ∧ xs.map (·.1) = ns
  | [], its, r => by cases r; exact ⟨[], rfl, rfl⟩
  | n :: ns, its, r => by
    cases r with
    | cons r1 r2 =>
      obtain ⟨t, e⟩ := (show ∃ t, _ = Value.int n t from r1)
      subst e
      obtain ⟨xs, e1, e2⟩ := vals_ints r2
      exact ⟨(n, t) :: xs, by rw [e1]; rfl, by rw [List.map_cons, e2]⟩
def rSum (K : PySem.W.Frag) : List V → Hp → VK → Prop := fun xs H Q => ∃ (p : Addr) (ns : List Int), xs = [.ref p] ∧ SqL K H p (ns.map V.int) ∧ Q (.int ns.sum) H
theorem call_sumI {X : Cx} (hc : X.calm = true) : CallR X (.builtin "sum") (rSum X.K) := by
  intro pins s σ H xs us Q I r h
  obtain ⟨p, ns, rfl, hq, q⟩ := h
  obtain ⟨u, rfl, rx⟩ := vals1 r
  cases rx
  obtain ⟨its, rv, pl, hz⟩ := I.list hq
  obtain ⟨ys, e1, e2⟩ := vals_ints rv
  have e3 : its.toArray = intItems ys.toArray := by unfold intItems; rw [e1]; simp
  have hl : s.heap.IsList p (intItems ys.toArray) := by rw [← e3]; exact pl.isList
  refine sum_intListG (I.ok.hd hc) hl fun h' tk t' hk => ?_
  rw [preSum_eq, List.take_of_length_le (by simp)]
  refine ⟨.int ns.sum, H, I.kept hk, ⟨t', ?_⟩, q⟩
  rw [show ys.toArray.toList.map (·.1) = ns from e2]
theorem call_sumK {X : Cx} {K : PySem.W.Frag} (h : X.K = K) (hc : X.calm = true) : CallR X (.builtin "sum") (rSum K) := by subst h; exact call_sumI hc
theorem r_sum {K : PySem.W.Frag} {p : Addr} {ns : List Int} {H : Hp} {Q : VK} (h : SqL K H p (ns.map V.int)) (q : Q (.int ns.sum) H) : rSum K [.ref p] H Q := ⟨p, ns, rfl, h, q⟩

theorem r_inP {K : PySem.W.Frag} {p : Addr} {xs : List V} {x : V} {H : Hp} {Q : VK} (h : SqL K H p xs) (f1 : flatV x = true) (f2 : xs.all flatV = true) (q : Q (.bl (inV x xs)) H) : rIn K false x (.ref p) H Q := ⟨p, xs, rfl, .inl h, f1, f2, q⟩
end L3
namespace L3
open PySem PySem.Spec PyProof.Rows L2 PySem.SeqAt

def rDict : List V → Hp → VK → Prop := fun xs H Q => ∃ a kvs, xs = [.ref a] ∧ Rd H a (.dK kvs) ∧ ∀ p, H p = none → Q (.ref p) (upd H p (.dK kvs))
theorem call_dict1 {X : Cx} : CallR X (.type "dict") rDict := by
  intro pins s σ H xs us Q I r h
  obtain ⟨a, kvs, rfl, e, q⟩ := h
  obtain ⟨u, rfl, rx⟩ := vals1 r
  cases rx
  exact d_copyOf I e fun p s' hp I' => ⟨.ref p, _, I', rfl, q p hp⟩
def dSame (kvs : List (Key × V)) : Prop := ∀ p ∈ kvs, ∃ i : Int, p.2 = .int i ∧ valV kvs p.1 = some (.int i)
theorem hits_of {A : Around} {s : Shared} {kvs : List (Key × V)} {vs' : List (Key × Value)} (r' : KV kvs vs') : ∀ {part : List (Key × V)} {us : List (Key × Value)}, KV part us → (∀ p ∈ part, ∃ i : Int, p.2 = .int i ∧ valV kvs p.1 = some (.int i)) → PySem.W.KeqHits A s vs' us true := by
  intro part us r
  unfold KV at r
  induction r with
  | nil => intro _; exact .nil
  | @cons p q part us r1 r2 ih =>
    intro h
    obtain ⟨k, v⟩ := p
    obtain ⟨k2, u⟩ := q
    obtain ⟨e1, e2⟩ := r1
    have e1 : k = k2 := e1
    subst e1
    obtain ⟨i, e3, e4⟩ := h (k, v) List.mem_cons_self
    have e3 : v = .int i := e3
    subst e3
    obtain ⟨t, e5⟩ := (show ∃ t, u = Value.int i t from e2)
    subst e5
    have r3 := r'.val k
    rw [e4] at r3
    obtain ⟨u', e6, e7⟩ := RelO.some_of r3
    obtain ⟨t', e8⟩ := (show ∃ t, u' = Value.int i t from e7)
    subst e8
    have z : EqAt A s (Value.int i t) (Value.int i t') true := by
      have := EqAt.int_int (A := A) (s := s) i t i t'
      rw [beq_self_eq_true] at this; exact this
    exact PySem.W.KeqHits.hit (e := true) (b := true) e6 z (ih fun p hp => h p (List.mem_cons_of_mem _ hp))
def rNeDic : R2 := fun x y H Q => ∃ a b kvs, x = .ref a ∧ y = .ref b ∧ Rd H a (.dK kvs) ∧ Rd H b (.dK kvs) ∧ dSame kvs ∧ Q (.bl false) H
theorem op_neDic {X : Cx} (hu : X.A.units + 64 < cLine) : OpR X (compareOp .NotEq) rNeDic := by
  intro pins s σ H x y v u Q I rx ry h
  obtain ⟨a, b, kvs, rfl, rfl, ha, hb, hs, q⟩ := h
  cases rx
  cases ry
  obtain ⟨z, hd, vs, rel, dd⟩ := dk_rd I.hok ha
  obtain ⟨z', hd', vs', rel', dd'⟩ := dk_rd I.hok hb
  refine PySem.W.keq_ne (r := true) hd hd' dd dd' (by omega) (fun _ => hits_of rel' rel hs) ?_
  rw [← rel.length, ← rel'.length, beq_self_eq_true]
  exact ⟨.bl _, H, I, rfl, q⟩
theorem r_dict {a : Addr} {kvs : List (Key × V)} {H : Hp} {Q : VK} (h : H a = some (.dK kvs)) (q : ∀ p, H p = none → Q (.ref p) (upd H p (.dK kvs))) : rDict [.ref a] H Q := ⟨a, kvs, rfl, .inl h, q⟩
theorem r_neDic {a b : Addr} {kvs : List (Key × V)} {H : Hp} {Q : VK} (ha : H a = some (.dK kvs)) (hb : H b = some (.dK kvs)) (hs : dSame kvs) (q : Q (.bl false) H) : rNeDic (.ref a) (.ref b) H Q := ⟨a, b, kvs, rfl, rfl, .inl ha, .inl hb, hs, q⟩
theorem r_dnew {σ : St} {H : Hp} {Q : VK} (q : ∀ p, H p = none → Q (.ref p) (upd H p (.dK []))) : tDNewK σ H Q := q
theorem r_dPut {td ty tv : TE} {D : Ends} {σ : St} {H : Hp} (q : tv σ H fun v H1 => td σ H1 fun x H2 => ty σ H2 fun y H3 => ∃ a H4, x = .ref a ∧ DPut H3 a y v H4 ∧ D.nx σ H4) : sDPut td ty tv D σ H := q
theorem r_dputI {p : Addr} {kvs : List (Key × V)} {k : Int} {v : V} {H : Hp} {R : Hp → Prop} (h : H p = some (.dK kvs)) (hl : kvs.length < sizeLine) (q : R (upd H p (.dK (putK kvs (.inl k) v)))) : ∃ a H4, V.ref p = .ref a ∧ DPut H a (.int k) v H4 ∧ R H4 :=
  ⟨p, _, rfl, DPut.k (k := .inl k) h hl, q⟩
theorem r_dGet {td ty : TE} {σ : St} {H : Hp} {Q : VK} (q : td σ H fun x H1 => ty σ H1 fun y H2 => ∃ a v, x = .ref a ∧ DGet H2 a y (some v) ∧ Q v H2) : tDGet td ty σ H Q := q
structure FunD (K : PySem.W.Frag) (x qual : Str) (st : Stmt) (f : Addr) (fd : FuncData) : Prop where
  ex : ∃ (oc : Value) (od : Option Addr) (da : Addr) (kV doc pm : Value) (an : Option Addr) (cdv ct : Value) (osl : Array (Option Value)) (o : Obj) (n : Nat),
    fd = PySem.W.fnOf x qual (defArgs st) (defBody st) (defScope st) (.ref da) kV doc pm an cdv ct ∧ K.lookup f = some ⟨oc, od, .func fd, osl⟩ ∧ PySem.W.codeIn K cdv qual = true ∧ K.lookup da = some o ∧ o.data = .seq #[.none] n
  kp : PySem.W.keepIn K (.ref f) = true
theorem funD_mk {K : PySem.W.Frag} {x qual : Str} {st : Stmt} {f da : Addr} {o : Obj} {oc : Value} {od an : Option Addr} {osl : Array (Option Value)} {kV doc pm cdv ct : Value} (l : K.lookup f = some ⟨oc, od, .func (PySem.W.fnOf x qual (defArgs st) (defBody st) (defScope st) (.ref da) kV doc pm an cdv ct), osl⟩)
    (d : K.lookup da = some o ∧ ∃ n, o.data = .seq #[.none] n) (c : PySem.W.codeIn K cdv qual = true) (k : PySem.W.keepIn K (.ref f) = true) : FunD K x qual st f (PySem.W.fnOf x qual (defArgs st) (defBody st) (defScope st) (.ref da) kV doc pm an cdv ct) :=
  let ⟨n, e⟩ := d.2; ⟨⟨oc, od, da, kV, doc, pm, an, cdv, ct, osl, o, n, rfl, l, c, d.1, e⟩, k⟩
section
variable {P : Program} {w : World} {K : PySem.W.Frag} {mg : Str → Option Value} {base : Heap}
theorem FunD.ok {x qual : Str} {st : Stmt} {f : Addr} {fd : FuncData} {N ps : List Str} {k : Nat} {sp : Sp} (F : FunD K x qual st f fd) (S : FnScope N ps (defScope st)) (len : ∀ vs H Q E, sp vs H Q E → vs.length = ps.length)
    (hbody : ∀ (cdv : Value) (A : Around) (outer : List Env) (s : Shared) (H : Hp) (vs : List V) (Q : VK) (E : XK), Room k (A.deeper (envOfC qual (defScope st) s.heap.objs.size f cdv)) → sp vs H Q E →
      ∃ t, PSs (cxOf CX0 P w K mg base N qual (defScope st) f cdv A outer s H E).nox (defBody st) t ∧ t { nx := fun _ H' => Q .non H', rt := Q } (start N vs) H) : FnOk P w K mg base CX0 (k + 1) f fd ps sp := by
  obtain ⟨oc, od, da, kV, doc, pm, an, cdv, ct, osl, o, n, rfl, lk, hcd, _, _⟩ := F.ex
  refine fn_of lk hcd S len fun A outer s H vs Q E hr hsp => ?_
  obtain ⟨t, h, q⟩ := hbody cdv A outer s H vs Q E hr hsp
  exact ⟨t, h.nox, q⟩
theorem FunD.bindsD {x qual : Str} {st : Stmt} {f : Addr} {fd : FuncData} {ps : List Str} (F : FunD K x qual st f fd)
    (h : ∀ (da : Addr) (kV doc pm : Value) (an : Option Addr) (cdv ct : Value) (us : List Value), us.length + 1 = ps.length → ∃ k : Option (Array Value) → Sem (List (Str × Value)), bindArgs (PySem.W.fnOf x qual (defArgs st) (defBody st) (defScope st) (.ref da) kV doc pm an cdv ct) ⟨us, []⟩ = seqItems? (.ref da) >>= k ∧ k (some #[.none]) = pure (ps.zip (us ++ [.none]))) : Binds K fd ps [.none] := by
  obtain ⟨oc, od, da, kV, doc, pm, an, cdv, ct, osl, o, n, rfl, lk, hcd, ld, ed⟩ := F.ex
  intro s us KX hl
  obtain ⟨k, h1, h2⟩ := h da kV doc pm an cdv ct us (by rw [List.length_append] at hl; exact hl)
  exact .of_defaults rfl (KX _ _ ld) ed h1 h2
end
structure MkD (P : Program) (w : World) (K : PySem.W.Frag) (mg : Str → Option Value) (base : Heap) (CX : CXT) (k : Nat) (x : Str) (C : Addr) (sp : Sp) : Prop where
  ex : ∃ (f : Addr) (fd : FuncData) (ps : List Str), Mk K C f ∧ FnOk P w K mg base CX k f fd ps sp ∧ mg x = some (.ref C) ∧ Binds K fd ps [.none]
section
variable {X : Cx} {CX : CXT} {k : Nat} {C : Addr} {sp : Sp} {E : XK} {x m : Str} {p pos apos : Pos} {e o : Expr} {es : List Expr} {ta : TE} {t : TA}
end
section
variable {P : Program} {w : World} {K : PySem.W.Frag} {mg : Str → Option Value} {base : Heap} {x qual : Str} {st : Stmt} {N ps : List Str} {sp : Sp} {C : Addr}
theorem mkE_ofD {y : Str} (k : Nat) (hy : mg y = some (.ref C)) (h : ∃ f fd, FunD K "__init__" qual st f fd ∧ Mk K C f ∧ Binds K fd ps [] ∧ Binds K fd ps [.none]) (S : FnScope N ps (defScope st)) (len : ∀ vs H Q E, sp vs H Q E → vs.length = ps.length)
    (hbody : BodyOk P w K mg base k qual st N sp) : MkE P w K mg base CX0 (k + 1) y C sp ∧ MkD P w K mg base CX0 (k + 1) y C sp := by
  obtain ⟨f, fd, F, hm, hb, hb2⟩ := h
  exact ⟨⟨f, fd, ps, hm, F.ok S len (hbody f), hy, hb⟩, ⟨f, fd, ps, hm, F.ok S len (hbody f), hy, hb2⟩⟩
end

theorem r_plusT {K : PySem.W.Frag} {a b : Addr} {xs ys : List V} {H : Hp} {Q : VK} (ha : SqT K H a xs) (hb : SqT K H b ys) (h1 : xs ≠ []) (h2 : ys ≠ []) (hz : xs.length + ys.length ≤ sizeLine) (q : ∀ p, H p = none → Q (.ref p) (upd H p (.tup (xs ++ ys)))) :
    rPlus K (.ref a) (.ref b) H Q := .inr (.inr (.inl ⟨a, b, xs, ys, rfl, rfl, ha, hb, h1, hz, fun e => absurd e h2, fun _ => q⟩))
section
variable {K : PySem.W.Frag} {a : Addr} {xs : List V} {g : TG} {tc : TT} {te : TE} {fin : List V → Hp → Prop} {H : Hp}
end
end L3
namespace L3
open PySem PySem.Spec PyProof.Rows

section
variable {prog : Program} {w : World} {A : Around} {E : Value → Shared → Prop} {s : Shared}

end
section
variable {prog : Program} {w : World} {A : Around} {E : Value → Shared → Prop} {s : Shared}
end
end L3
namespace L3
open PySem PySem.Spec PyProof.Rows L2

theorem inv_turns {X : Cx} {pins : List (Addr × Obj)} {σ : St} {H : Hp} {s : Shared} {h' : Heap} {ch : List Addr} {T : Addr} {xs : List V} (I : Inv X pins σ H s) (hf : ∀ b ∈ ch, FpOk X pins H b) (hT : s.heap.objs.size ≤ T)
    (k : ∀ b o, b ∉ ch → s.heap.get? b = some o → h'.get? b = some o) (kc : ∀ b ∈ ch, ∃ o, h'.get? b = some o) (new : ObjOk X.prog X.w (upd H T (.tup xs)) h' T (.tup xs)) : Inv X pins σ (upd H T (.tup xs)) { s with heap := h' } := by
  have hn : H T = none := I.hok.fresh hT
  have nc : ∀ b u, H b = some u → b ∉ ch := fun b u e hb => by rw [(hf b hb).1] at e; cases e
  have nT : ∀ b o, s.heap.get? b = some o → b ≠ T := fun b o e z => absurd (Heap.lt_size e) (by rw [z]; exact Nat.not_lt.mpr hT)
  refine I.call' (ch := ch) rfl ⟨fun b o e _ _ hc => k b o hc e, fun b o e _ _ hc => ⟨o.slots, k b o hc e⟩, fun b o e n _ => by rw [upd_ne (nT b o e)]; exact n, fun b o e hc => ⟨o, k b o hc e⟩, fun b xs e => ?_, fun b o u e => ?_, fun b ps e => ⟨#[], ?_⟩⟩ ?_ I.bare ?_
  · rw [upd_ne (ne_of_none e hn)]; exact e
  · rw [upd_ne (ne_of_none e hn)]; exact e
  · rw [upd_ne (ne_of_none e hn), e]; simp
  · intro b u e
    by_cases hb : b = T
    · subst hb
      rw [upd_same] at e
      cases e
      exact new
    · rw [upd_ne hb] at e
      refine (I.hok b u e).stay (fun c v hc q => k c v ?_ q) (fun c q => by rw [upd_ne (ne_of_none q hn)]; exact q) fun c ys q => by rw [upd_ne (ne_of_none q hn)]; exact q
      rcases hc with z | z
      · rw [z]; exact nc b u e
      · exact nc c _ z
  · intro b hb
    obtain ⟨f0, f1, f2, f3, f4, f5⟩ := hf b hb
    exact ⟨f3, f1, f4, f5⟩
theorem b_zip : bootBuiltins "zip" = some (.type "zip") := by decide +kernel
end L3
namespace L3
open PySem PySem.Spec PyProof.Rows L2

theorem r_extend {l b : Addr} {xs zs : List V} {H : Hp} {Q : VK} (h : H l = some (.lst xs)) (hb : H b = some (.lst zs)) (hz : xs.length + zs.length ≤ sizeLine) (q : Q .non (upd H l (.lst (xs ++ zs)))) : rExtend (.ref l) [.ref b] H Q := ⟨l, b, xs, zs, rfl, rfl, h, hb, hz, q⟩
end L3

namespace L3
open PySem PySem.Spec PyProof.Rows L2 PySem.SeqAt

theorem PS.nox {X : Cx} {st : Stmt} {t : TS} (h : PS X.nox st t) : PS X st t := fun pins s σ H D I hw =>
  wpAny_mono (h pins s σ H D (I.wish _) hw) (fun _ _ q => q.unwish) fun _ _ z => z.elim
theorem PA.nox {X : Cx} {es : List Expr} {t : TA} (h : PA X.nox es t) : PA X es t := fun pos pins s σ H Q I hw =>
  wpAny_mono (h pos pins s σ H Q (I.wish _) hw) (fun _ _ ⟨v, H', I', r, q⟩ => ⟨v, H', I'.unwish, r, q⟩) fun _ _ z => z.elim


theorem hok_stays {P : Program} {w : World} {H : Hp} {h0 h5 : Heap} {l : List Addr} (x : HOk P w H h0) (hl : ∀ b ∈ l, H b = none) (k : (PySem.W.hideAll h0 l).StaysIn h5) : HOk P w H h5 := fun a o e => by
  refine (x a o e).stay (fun b u hb q => k b u (PySem.W.hideAll_get _ q fun hm => ?_)) (fun _ q => q) fun _ _ q => q
  have hn := hl b hm
  rcases hb with rfl | hb
  · rw [e] at hn; cases hn
  · rw [hb] at hn; cases hn
theorem un_stays {fs : List Addr} {H H' : Hp} {h h0 h5 : Heap} {l : List Addr} (u : Un fs [] H H' h h0) (hl : ∀ b ∈ l, b ∈ fs ∨ h.objs.size ≤ b) (k : (PySem.W.hideAll h0 l).StaysIn h5) (up : h0.UpToSlots h5)
    (hf : ∀ b ∈ fs, H b = none ∧ ∀ o, h.get? b = some o → ∀ vs, o.data ≠ .fields vs) : Un fs [] H H' h h5 := by
  have nl : ∀ b o, h.get? b = some o → b ∉ fs → b ∉ l := fun b o q hb hm => by
    rcases hl b hm with z | z
    · exact hb z
    · exact absurd (Nat.lt_of_lt_of_le (Heap.lt_size q) z) (Nat.lt_irrefl _)
  have sl : ∀ b o, h.get? b = some o → b ∈ fs → ∃ sl, h5.get? b = some { o with slots := sl } := fun b o q hb => by
    obtain ⟨s1, e1⟩ := u.slot b o q (hf b hb).1 hb (by simp)
    obtain ⟨s2, e2⟩ := up b _ e1 ((hf b hb).2 o q)
    exact ⟨s2, e2⟩
  refine ⟨fun b o q n hb hx => k b o (PySem.W.hideAll_get _ (u.keep b o q n hb hx) (nl b o q hb)), fun b o q _ hb _ => sl b o q hb, u.free, fun b o q hx => ?_, u.tups, u.frzs, u.tbls⟩
  by_cases hb : b ∈ fs
  · obtain ⟨s2, e2⟩ := sl b o q hb
    exact ⟨_, e2⟩
  · obtain ⟨o', e'⟩ := u.there b o q hx
    exact ⟨o', k b o' (PySem.W.hideAll_get _ e' (nl b o q hb))⟩


structure Thrown (P : Program) (w : World) (outer : List Env) (H : Hp) (s : Shared) (ea C : Addr) (H' : Hp) (s' : Shared) : Prop where
  os : s'.os = s.os
  bare : AllBare s'.gens
  ex : ∃ (h0 : Heap) (l : List Addr) (a0 : Value), Un (frs outer) [] H H' s.heap h0 ∧ HOk P w H' h0 ∧ (∀ b ∈ l, H' b = none ∧ (b ∈ frs outer ∨ s.heap.objs.size ≤ b)) ∧ h0.get? ea = none ∧
    Heap.FlyingW (PySem.W.hideAll h0 l) outer ea (.ref C) a0 s'.heap ∧ h0.UpToSlots s'.heap
def CXR (P : Program) (w : World) : CXT := fun outer H s E e s' => ∃ (ea C : Addr) (H' : Hp), e = .ref ea ∧ Thrown P w outer H s ea C H' s' ∧ E (.ref C) none H'


structure ExcC (K : PySem.W.Frag) (mg : Str → Option Value) (x : Str) (C : Addr) : Prop where
  glob : mg x = some (.ref C)
  ex : PySem.W.excIn K C [.type "ValueError", .type "Exception", .type "BaseException", .type "object"] "ValueError.__new__" = true
theorem ExcC.obj {K : PySem.W.Frag} {mg : Str → Option Value} {x : Str} {C : Addr} {h : Heap} (c : ExcC K mg x C) (X : K.In h) :
    ∃ (bm : List Value) (N : Addr) (nm qn : Str) (bs : List Value) (hd : Bool) (sn : List Str) (sub : List Value) (ab : Bool) (col : Option Bool) (dd : Option Addr) (k0 k1 k2 k3 k5 : Option Value) (mN : Str → Option Value),
      h.get? C = some (excClassObj nm qn C N bs bm hd sn sub ab col dd k0 k1 k2 k3 k5 "ValueError.__new__") ∧ h.Ns N mN ∧ mN "__init__" = none ∧
      OwnTail h [.type "ValueError", .type "Exception", .type "BaseException", .type "object"] bm := by
  have hq := c.ex
  unfold PySem.W.excIn at hq
  split at hq
  · rename_i dd cd sl hlk
    split at hq
    · rename_i C' bm k0 k1 k2 k3 id k5 hmro hsl
      simp only [Bool.and_eq_true, Bool.not_eq_true', beq_iff_eq] at hq
      obtain ⟨⟨⟨⟨⟨e1, e2⟩, e3⟩, e4⟩, e5⟩, e6⟩ := hq
      subst e1 e2
      obtain ⟨nm, bs, mro, ns, qn, hd, sn, sub, ab, col, del⟩ := cd
      dsimp only at hmro e3 e5 e6
      subst hmro e3
      obtain ⟨sl⟩ := sl
      dsimp only at hsl
      subst hsl
      exact ⟨bm, ns, nm, qn, bs, hd, sn, sub, ab, col, dd, k0, k1, k2, k3, k5, _, X _ _ hlk, .of_isNs (PySem.W.isNs_of_in X e5), PySem.W.nsMap_none_of_in X e5 e6, PySem.W.tail_of_in X e4⟩
    · cases hq
  · cases hq
end L3
namespace L3
open PySem PySem.Spec PyProof.Rows L2 PySem.SeqAt

def tRaise (C : Addr) (E : XK) (t : TA) : TS := fun _ σ H => t σ H fun vs H1 => vs.length ≤ 1000 ∧ E (.ref C) none H1

theorem frs_body {X : Cx} (hst : X.stack = X.env :: X.outer) (hfr : X.env.frame = some X.env.locals) : frs X.stack = X.env.locals :: frs X.outer := by
  rw [hst]; unfold frs; rw [List.filterMap_cons, hfr]

theorem raise_leaves {X : Cx} {pins : List (Addr × Obj)} {σ : St} {H : Hp} {s : Shared} {h' : Heap} {e C : Addr} {args : List Value} {Q : Unit → Shared → Prop} {Ex : Value → Shared → Prop} (I : Inv X pins σ H s)
    (hst : X.stack = X.env :: X.outer) (hfr : X.env.frame = some X.env.locals) (hex : X.ex = []) (hx : Heap.MadeExcOf s.heap h' e (.ref C) args)
    (hQ : ∀ s', Thrown X.prog X.w X.outer X.H₀ X.s₀ e C H s' → Q () s') : wpAny (model X.prog X.w) X.A (leaving X.env (.ref e)) Q Ex { s with heap := h' } := by
  have hfs := frs_body hst hfr
  have hin : ∀ env ∈ X.stack, ∀ a, env.frame = some a → a ∈ frs X.stack := fun env he b hb => List.mem_filterMap.mpr ⟨env, he, hb⟩
  have hl : s.heap.FunFrames (PySem.W.hideAll s.heap (frs X.stack)) (X.env :: X.outer) := by
    have z := PySem.W.funFrames_hide I.stack hin
    rw [hst] at z ⊢; exact z
  refine wpAny_leaves_madeW (s := { s with heap := h' }) (by rw [← hst]; exact I.ok.frames) hfr (fun b o q => PySem.W.of_hideAll _ q) hl hx fun h2 t x1 _ _ x4 => hQ _ ⟨I.os, I.bare, ?_⟩
  have hb := I.base
  rw [hex] at hb
  refine ⟨s.heap, frs X.stack, .ref t, hb, I.hok, fun b hm => ⟨I.stkFree b hm, ?_⟩, hx.new, x1, (Heap.UpToSlots.of_keeps hx.keeps).trans x4⟩
  rw [hfs] at hm
  rcases List.mem_cons.mp hm with rfl | hm
  · exact .inr I.ok.above
  · exact .inl hm
theorem ps_raise {P : Program} {w : World} {K : PySem.W.Frag} {mg : Str → Option Value} {base : Heap} {N : List Str} {qual : Str} {scope : Scope} {f : Addr} {cd : Value} {A : Around} {outer : List Env} {s0 : Shared} {H0 : Hp} {E : XK}
    {C : Addr} {x : Str} {np cpos pos : Pos} {e0 : Expr} {es : List Expr} {t : TA} (c : ExcC K mg x C) (hg : Gl (cxOf (CXR P w) P w K mg base N qual scope f cd A outer s0 H0 E) x)
    (ha : PA (cxOf (CXR P w) P w K mg base N qual scope f cd A outer s0 H0 E).nox (e0 :: es) t) (hdb : (x == ("__debug__" : Str)) = false := by decide)
    (he : starEach (e0 :: es) (cxOf (CXR P w) P w K mg base N qual scope f cd A outer s0 H0 E).env = (false, eval e0 (cxOf (CXR P w) P w K mg base N qual scope f cd A outer s0 H0 E).env) :: starEach es (cxOf (CXR P w) P w K mg base N qual scope f cd A outer s0 H0 E).env := by rfl)
    (hpl : (backTo cpos (starEach es (cxOf (CXR P w) P w K mg base N qual scope f cd A outer s0 H0 E).env)).any (·.1) = false := by rfl) :
    PS (cxOf (CXR P w) P w K mg base N qual scope f cd A outer s0 H0 E) (.Raise (some (.Call (.Name x np) (e0 :: es) [] cpos)) none pos) (tRaise C E t) := by
  intro pins s σ H D I h
  obtain ⟨bm, N', nm, qn, bs, hd, sn, sub, ab, col, dd, k0, k1, k2, k3, k5, mN, hC, hN, hni, TL⟩ := c.obj I.ok.mod.kin
  refine wpAny_Raise_call_subU (C := C) (mN := mN) (N := N') (nm := nm) (q := qn) (bs := bs) (bm := bm) (hdct := hd) (sn := sn) (sub := sub) (ab := ab) (col := col) (dd := dd) (k0 := k0) (k1 := k1) (k2 := k2) (k3 := k3) (k5 := k5)
    PySem.F.excBase_ValueError (by decide +kernel) PySem.F.excBase_ValueError (TL.hasType (by decide +kernel)) (I.ok.hd rfl) (by rw [he]; show (false || (backTo cpos (starEach es _)).any (·.1)) = false; rw [hpl]; rfl) hni ?_
  refine ld_glob I hg c.glob ⟨rfl, ?_⟩ hdb
  have hargs := (L3.PA.nox ha) cpos pins s σ H _ I h
  rw [he] at hargs ⊢
  refine Calls.evalArgs_plain (thn hargs fun us s1 ⟨vs, H1, I1, r, hlen, q⟩ => ?_)
  refine ⟨rfl, ?_, I1.bk _ _ hC, hN.keeps I1.bk, TL.keeps I1.bk, fun h' e hm => ?_⟩
  · show us.length ≤ sizeLine
    rw [← r.length]
    exact Nat.le_trans hlen (by decide +kernel)
  · exact raise_leaves (X := cxOf (CXR P w) P w K mg base N qual scope f cd A outer s0 H0 E) I1 rfl rfl rfl hm fun s' th => ⟨e, C, H1, rfl, th, q⟩

end L3
namespace L3
open PySem PySem.Spec PyProof.Rows L2 PySem.SeqAt
section
variable {P : Program} {w : World} {K : PySem.W.Frag} {mg : Str → Option Value} {base : Heap} {x qual : Str} {st : Stmt} {N ps : List Str} {sp : Sp} {C : Addr} {k : Nat}

def BodyX (P : Program) (w : World) (K : PySem.W.Frag) (mg : Str → Option Value) (base : Heap) (k : Nat) (qual : Str) (st : Stmt) (N : List Str) (sp : Sp) : Prop :=
  ∀ (f : Addr) (cdv : Value) (A : Around) (outer : List Env) (s : Shared) (H : Hp) (vs : List V) (Q : VK) (E : XK), Room k (A.deeper (envOfC qual (defScope st) s.heap.objs.size f cdv)) → sp vs H Q E →
    ∃ t, PSs (cxOf (CXR P w) P w K mg base N qual (defScope st) f cdv A outer s H E) (defBody st) t ∧ t { nx := fun _ H' => Q .non H', rt := Q } (start N vs) H
theorem Fun.okX {f : Addr} {fd : FuncData} (F : Fun K x qual st f fd) (S : FnScope N ps (defScope st)) (len : ∀ vs H Q E, sp vs H Q E → vs.length = ps.length) (hbody : BodyX P w K mg base k qual st N sp) : FnOk P w K mg base (CXR P w) (k + 1) f fd ps sp := by
  obtain ⟨oc, od, kV, doc, pm, an, cdv, ct, osl, rfl, lk, hcd⟩ := F.ex
  exact fn_of lk hcd S len fun A outer s H vs Q E hr hsp => hbody f cdv A outer s H vs Q E hr hsp
theorem fnX_of (k : Nat) (h : ∃ f fd, Fun K x qual st f fd ∧ mg x = some (.ref f) ∧ Binds K fd ps []) (S : FnScope N ps (defScope st)) (len : ∀ vs H Q E, sp vs H Q E → vs.length = ps.length)
    (hbody : BodyX P w K mg base k qual st N sp) : FnE P w K mg base (CXR P w) (k + 1) x sp := by
  obtain ⟨f, fd, F, hm, hb⟩ := h
  exact ⟨f, fd, ps, Fun.okX F S len hbody, hm, F.kp, hb⟩
end

section
variable {X : Cx} {pins : List (Addr × Obj)} {σ : St} {H : Hp} {s : Shared}

theorem goes_ok {M : Model} {A : Around} {E : Value → Shared → Prop} {i : Nat} {n : Str} {pos : Pos} {Q : Unit → Shared → Prop} (I : Inv X pins σ H s) (hN : X.N.Nodup) (hi : X.N[i]? = some n) (hk : X.env.scope.names.lookup n = some .local)
    (h : ∀ s', Inv X pins (σ.set i none) H s' → Q () s') : wpAny M A (do bindName X.env n .none; unbindBehindTheSuite X.env n pos) Q E s := by
  obtain ⟨m, hn, hl⟩ := id I.loc
  have hiσ : i < σ.length := by rw [I.len]; exact (List.getElem?_eq_some_iff.mp hi).1
  have cne := I.cne
  obtain ⟨oL, _, _, hoL, _⟩ := id hn
  refine wpAny_nameGoes_keeps hk hn (by rw [I.ok.kind]; rfl) fun h' v hn' hs => h _ ?_
  have lo : ∀ b o, X.s₀.heap.get? b = some o → h'.get? b = s.heap.get? b := fun b o e => hs.2 b (Nat.ne_of_lt (Nat.lt_of_lt_of_le (Heap.lt_size e) I.ok.above))
  refine ⟨I.ok, I.os, I.bare, ⟨fun b o e n hb hx => ?_, fun b o e n hb hx => ?_, I.base.free, fun b o e hx => ?_, I.base.tups, I.base.frzs, I.base.tbls⟩, ⟨_, hn', fun j y v' e1 e2 e3 => ?_⟩, fun y c e => ?_, I.free, I.freeC, fun p hp => ?_, fun b ob e => ?_, by simpa using I.len⟩
  · rw [lo b o e]; exact I.base.keep b o e n hb hx
  · rw [lo b o e]; exact I.base.slot b o e n hb hx
  · rw [lo b o e]; exact I.base.there b o e hx
  · by_cases hj : j = i
    · subst hj
      rw [List.getElem?_set_self hiσ] at e2
      cases e2
    · rw [List.getElem?_set_ne (Ne.symm hj)] at e2
      obtain ⟨u', r', q⟩ := hl j y v' e1 e2 e3
      refine ⟨u', r', ?_⟩
      rcases q with ⟨k, e⟩ | ⟨k, c, e, z⟩
      · have ne : y ≠ n := fun e => hj (nodup_ix hN e1 (e ▸ hi))
        exact .inl ⟨k, by simp [ne, e]⟩
      · exact .inr ⟨k, c, e, z.sameBut hs (cne y c e)⟩
  · obtain ⟨w', z⟩ := I.cell y c e
    exact ⟨w', z.sameBut hs (cne y c e)⟩
  · obtain ⟨e, n, ne, nf, d⟩ := I.pin p hp
    exact ⟨(hs.2 p.1 ne).trans e, n, ne, nf, d⟩
  · refine (I.hok b ob e).stay (fun c w' hc q => (hs.2 c ?_).trans q) (fun _ q => q) fun _ _ q => q
    rintro rfl
    have hf := I.free
    rcases hc with hc | hc
    · rw [hc, e] at hf; cases hf
    · rw [hc] at hf; cases hf


abbrev Cx.sup (X : Cx) (e : Addr) (pl : List (Addr × Obj)) : Cx := { X with A := X.A.mark (some (.ref e)), calm := false, xe := fun _ _ => False, pn := X.pn ++ pl }
theorem Cx.Ok.sup {e : Addr} {pl : List (Addr × Obj)} (ok : X.Ok) : (Cx.sup X e pl).Ok :=
  ⟨ok.mod, ok.kind, ok.glob, ok.blt, ok.above, ok.inj, ok.has, ok.cab, (fun z => by cases z), ok.frames, ok.stk, ok.exf, ok.bs, ok.bsz, ok.noex, ok.exfs, ok.funs, ok.frf⟩
theorem Cx.Ok.unsup {e : Addr} {pl : List (Addr × Obj)} (ok : (Cx.sup X e pl).Ok) (h : X.calm = true → X.A.handled = none) : X.Ok :=
  ⟨ok.mod, ok.kind, ok.glob, ok.blt, ok.above, ok.inj, ok.has, ok.cab, h, ok.frames, ok.stk, ok.exf, ok.bs, ok.bsz, ok.noex, ok.exfs, ok.funs, ok.frf⟩
theorem Inv.sup {e : Addr} {pl : List (Addr × Obj)} (I : Inv X pins σ H s) (h : ∀ p ∈ pl, s.heap.get? p.1 = some p.2 ∧ H p.1 = none ∧ p.1 ≠ X.env.locals ∧ p.1 ∉ X.fs ∧ ∀ v, p.2.data ≠ .cell v) : Inv (Cx.sup X e pl) pins σ H s :=
  ⟨Cx.Ok.sup I.ok, I.os, I.bare, I.base, I.loc, I.cell, I.free, I.freeC, fun p hp => by
    rcases List.mem_append.mp hp with hp | hp
    · rcases List.mem_append.mp hp with hp | hp
      · exact I.pin p (List.mem_append_left _ hp)
      · exact h p hp
    · exact I.pin p (List.mem_append_right _ hp), I.hok, I.len⟩
theorem Inv.unsup {e : Addr} {pl : List (Addr × Obj)} (I : Inv (Cx.sup X e pl) pins σ H s) (h : X.calm = true → X.A.handled = none) : Inv X pins σ H s :=
  ⟨Cx.Ok.unsup I.ok h, I.os, I.bare, I.base, I.loc, I.cell, I.free, I.freeC, fun p hp => by
    rcases List.mem_append.mp hp with hp | hp
    · exact I.pin p (List.mem_append_left _ (List.mem_append_left _ hp))
    · exact I.pin p (List.mem_append_right _ hp), I.hok, I.len⟩
end
end L3
namespace L3
open PySem PySem.Spec PyProof.Rows L2 PySem.SeqAt


def Threw (X : Cx) (pins : List (Addr × Obj)) (σ : St) (Ew : XK) (ex : Value) (s' : Shared) : Prop :=
  ∃ (ea C : Addr) (H1 : Hp) (s1 : Shared) (H' : Hp), ex = .ref ea ∧ Inv X pins σ H1 s1 ∧ Thrown X.prog X.w X.stack H1 s1 ea C H' s' ∧ Ew (.ref C) none H'
abbrev TB := Ends → XK → St → Hp → Prop
def PB (X : Cx) (body : List Stmt) (tb : TB) : Prop :=
  ∀ (pins : List (Addr × Obj)) (s : Shared) (σ : St) (H : Hp) (D : Ends) (Ew : XK), Inv X pins σ H s → tb D Ew σ H → wpAny (model X.prog X.w) X.A (execs body X.env) (SP X pins D) (Threw X pins σ Ew) s
section
variable {X : Cx} {pins : List (Addr × Obj)} {σ : St} {H : Hp} {s : Shared} {k : Nat} {g x n : Str} {sp : Sp} {e : Expr} {es : List Expr} {t : TA} {gp cpos pos py : Pos}

theorem call_throws {Q : VK} {Ew : XK} (G : FnE X.prog X.w X.K X.mg X.base (CXR X.prog X.w) k g sp) (hr : Room k X.A) (hg : Gl X g) (ha : PA X.nox (e :: es) t) (I : Inv X pins σ H s) (h : t σ H fun vs H1 => sp vs H1 Q Ew)
    (hdb : (g == ("__debug__" : Str)) = false) (he : starEach (e :: es) X.env = (false, eval e X.env) :: starEach es X.env) (hpl : (backTo cpos (starEach es X.env)).any (·.1) = false) :
    wpAny (model X.prog X.w) X.A (eval (.Call (.Name g gp) (e :: es) [] cpos) X.env) (EP X pins σ Q) (Threw X pins σ Ew) s := by
  obtain ⟨f, fd, ps, F, hm, hk, hb⟩ := G.ex
  refine wpAny_Call_Name_kw (ld_glob I hg hm ?_ hdb)
  refine PySem.W.callWith_K (h₀ := X.base) I.ok.mod.kin hk (wpAny_mono (ha cpos pins s σ H _ (I.wish _) h) (fun us s1 ⟨vs, H1, I1, r, q⟩ => ⟨I1.kIn, ?_⟩) fun _ _ z => z.elim) he hpl
  have J : Inv X pins σ H1 s1 := I1.unwish
  have hl : us.length = ps.length := by rw [← r.length]; exact F.len _ _ _ _ q
  have hbd := hb s1 us J.kIn (by rw [List.append_nil]; exact hl)
  rw [List.append_nil] at hbd
  refine wpAny_call (codeAny_mono (F.run X.A X.stack s1 H1 ⟨us, []⟩ us vs Q Ew hr J.env0 hbd r q) fun r2 s' hq => ?_)
  cases r2 with
  | error ex =>
    obtain ⟨ea, C, H', rfl, th, q2⟩ := (show CXR X.prog X.w X.stack H1 s1 Ew ex s' from hq)
    exact ⟨ea, C, H1, s1, H', rfl, J, th, q2⟩
  | ok fl =>
    cases fl with
    | ret u => exact J.after hq
    | next => exact False.elim hq
    | brk => exact False.elim hq
    | cont => exact False.elim hq
end
end L3
namespace L3
open PySem PySem.Spec PyProof.Rows L2 PySem.SeqAt
section
variable {X : Cx} {pins : List (Addr × Obj)} {σ : St} {H H1 H' : Hp} {s s1 s' : Shared} {ea C : Addr}

theorem landed_at {h0 h5 : Heap} {l : List Addr} (I : Inv X pins σ H1 s1) (os : s'.os = s1.os) (bare : AllBare s'.gens) (u : Un (frs X.stack) [] H1 H' s1.heap h0) (hok : HOk X.prog X.w H' h0)
    (hl : ∀ b ∈ l, H' b = none ∧ (b ∈ frs X.stack ∨ s1.heap.objs.size ≤ b)) (k : (PySem.W.hideAll h0 l).StaysIn h5) (up : h0.UpToSlots h5) : Inv X pins σ H' { s' with heap := h5 } :=
  I.call' (s' := { s' with heap := h5 }) os (un_stays u (fun b hb => (hl b hb).2) k up fun b hb => ⟨I.stkFree b hb, fun o q => by
    obtain ⟨_, o', q', d⟩ := I.stack.mem hb
    rw [q] at q'; cases q'; exact d⟩) (hok_stays hok (fun b hb => (hl b hb).1) k) bare (fun b z => absurd z (by simp))

theorem apart_at (I : Inv X pins σ H' s') (hn : s'.heap.get? ea = none) : H' ea = none ∧ ea ≠ X.env.locals ∧ ea ∉ X.fs := by
  refine ⟨?_, fun z => ?_, fun z => ?_⟩
  · cases q : H' ea with
    | none => rfl
    | some o =>
      obtain ⟨o', e'⟩ : ∃ o', s'.heap.get? ea = some o' := by
        have z := I.hok ea o q
        clear q
        induction o with
        | lst xs => obtain ⟨_, _, _, _, e⟩ := z; exact ⟨_, e⟩
        | tup xs => obtain ⟨_, _, _, ob, e, _⟩ := z; exact ⟨_, e⟩
        | dK kvs => obtain ⟨_, _, _, _, ob, _, _, e, _⟩ := z; exact ⟨_, e⟩
        | dT kvs => obtain ⟨_, _, _, _, ob, _, _, e, _⟩ := z; exact ⟨_, e⟩
        | set S n => obtain ⟨ob, _, _, _, e, _⟩ := z; exact ⟨_, e⟩
        | ins C dx fs => obtain ⟨_, _, _, e, _⟩ := z; exact ⟨_, e⟩
        | own y => obtain ⟨_, e⟩ := z; exact ⟨_, e⟩
        | xd fs => obtain ⟨_, ⟨od, _, _, e, _⟩, _⟩ := z; exact ⟨_, e⟩
        | rng lo hi => obtain ⟨_, _, _, e⟩ := z; exact ⟨_, e⟩
        | frz ob u => obtain ⟨e, _⟩ := z; exact ⟨_, e⟩
        | tbl ps => exact ⟨_, z⟩
        | met f y => exact ⟨_, z⟩
        | ext φ => obtain ⟨_, ⟨_, e⟩, _⟩ := z; exact ⟨_, e⟩
      rw [hn] at e'; cases e'
  · obtain ⟨m, ⟨o, _, _, e, _⟩, _⟩ := I.loc
    rw [← z, hn] at e; cases e
  · obtain ⟨_, o, e, _⟩ := I.funs.mem z
    rw [hn] at e; cases e
def tTry (tb : TB) (C : Addr) (i : Nat) (th : Addr → TS) : TS := fun D σ H =>
  tb D (fun c _ H2 => c = .ref C ∧ ∀ ea, H2 ea = none → th ea { nx := fun σ' H' => D.nx (σ'.set i none) H', rt := fun _ _ => False } (σ.set i (some (.ref ea))) H2) σ H

end
end L3
namespace L3
open PySem PySem.Spec PyProof.Rows L2 PySem.SeqAt PySem.W Builtin Builtin.ObjectAttr Builtin.Getset_descriptor

structure ExcK (K : PySem.W.Frag) (C : Addr) : Prop where
  cl : (PySem.W.clsIn K C).isSome = true
  ga : PySem.W.findIn K (.ref C) "__getattribute__" = some (some (.builtin "BaseException.__getattribute__"))
  gt : PySem.W.findIn K (.ref C) "__getattr__" = some none
  co : PySem.W.findIn K (.ref C) "__class__" = some (some (.builtin "object.__class__"))
  gs : PySem.W.specialIn K (.builtin "object.__class__") "__get__" = some (some (.builtin "getset_descriptor.__get__"))
  tk : PySem.W.takesIn K (.builtin "object.__class__") = some true
  mo : PySem.W.mroIn K C (.type "object") = some true
  mb : PySem.W.mroIn K C (.type "BaseException") = some true
section
variable {prog : Program} {w : World} {A : Around} {E : Value → Shared → Prop} {s : Shared} {K : PySem.W.Frag} {x C : Addr} {ox : Obj}
theorem exc_type {M : Model} {h : Heap} (hx : h.get? x = some ox) (hc : ox.cls = .ref C) : Looks M h (typeOf (.ref x)) (.ref C) := by
  rw [← hc]; exact (Looks.ld hx).andThen .now
theorem exc_get {R : Result → Shared → Prop} {tp : Value} (X : K.In s.heap) (hx : s.heap.get? x = some ox) (hc : ox.cls = .ref C) (F : ExcK K C) (h : R (.ok (.ret (.ref C))) s) :
    codeAny (model prog w) A (.call (.builtin "getset_descriptor.__get__") ⟨[.builtin "object.__class__", .ref x, tp], []⟩) R s := by
  obtain ⟨hh, g, dr, t, os⟩ := s
  have LT := exc_type (M := model prog w) hx hc
  have LM := looks_mroIn (M := model prog w) X F.mo
  have hty : Shared.TypeIs ⟨hh, g, dr, t, os⟩ (.builtin "object.__class__") "getset_descriptor" := KF.type_class
  refine codeAny_call_builtin KF.slot_gs.plain KF.entry_gs ?_
  refine KF.slot_gs.check _ _ _ _ _ _ _ _ hty (KF.args_gs _ _ _) ?_
  unfold Builtin.«getset_descriptor.__get__» descrGet
  rw [dga_obj]
  refine wpAny_bind (wpAny_pure ?_)
  unfold descrGetter descrCheckInstance descrNameAndClass PySem.isInstance
  simp only [KF.owner_class]
  repeat lk
  refine ⟨Code.quiet_builtin _ (by decide +kernel), codeAny_builtin KF.entry_class ?_⟩
  unfold Builtin.«object.__class__» PySem.shownTypeOf
  repeat lk
  exact h
theorem exc_find {M : Model} {h : Heap} (X : K.In h) (F : ExcK K C) : Looks M h (find (.ref x) (.ref C) "__class__") (.bind (.builtin "getset_descriptor.__get__") (.builtin "object.__class__")) := by
  refine (looks_findIn (M := M) X F.co).andThen ?_
  refine (show Looks M h (getOf (some (.builtin "object.__class__"))) (some (.builtin "getset_descriptor.__get__")) from looks_specialIn X F.gs).andThen ?_
  have L3 := looks_takesIn (M := M) X F.tk
  exact (show Looks M h (dataDescriptor? (some (.builtin "object.__class__")) (some (.builtin "getset_descriptor.__get__"))) (some (.builtin "getset_descriptor.__get__", .builtin "object.__class__")) from L3.andThen .now).andThen (Looks.tag .now)
end
end L3
namespace L3
open PySem PySem.Spec PyProof.Rows L2 PySem.SeqAt PySem.W Builtin Builtin.ObjectAttr Builtin.Getset_descriptor
section
variable {prog : Program} {w : World} {A : Around} {E : Value → Shared → Prop} {s : Shared} {K : PySem.W.Frag} {x C : Addr} {ox : Obj}
theorem exc_entry {Q : Fin → Shared → Prop} {tk : Tok} (X : K.In s.heap) (hx : s.heap.get? x = some ox) (hc : ox.cls = .ref C) (F : ExcK K C) (h : Q (.done (.ret (.ref C))) s) :
    wpAny (model prog w) A (Builtin.«object.__getattribute__» ⟨[.ref x, .str "__class__" tk], []⟩) Q E s := by
  obtain ⟨hh, g, dr, t, os⟩ := s
  have LT := exc_type (M := model prog w) hx hc
  have LF := exc_find (M := model prog w) (x := x) X F
  unfold Builtin.«object.__getattribute__»
  repeat (first | with_reducible refine wpAny_call ?_ | lk)
  refine exc_get X hx hc F ?_
  repeat lk
  exact h
theorem exc_check {M : Model} {nameV : Value} {Q : Unit → Shared → Prop} (X : K.In s.heap) (hx : s.heap.get? x = some ox) (hc : ox.cls = .ref C) (F : ExcK K C) (h : Q () s) :
    wpAny M A (checkBuiltinCall "BaseException.__getattribute__" ⟨[.ref x, nameV], []⟩) Q E s := by
  obtain ⟨hh, g, dr, t, os⟩ := s
  have LT := exc_type (M := M) hx hc
  have LM := looks_mroIn (M := M) X F.mb
  have k1 : builtinKind "BaseException.__getattribute__" = some .slot := by decide +kernel
  have k2 : splitId "BaseException.__getattribute__" = some ("BaseException", "__getattribute__") := by decide +kernel
  have k3 := PySem.F.args_bexc_ga (.ref x) nameV
  simp only [checkBuiltinCall, k1, k2]
  refine wpAny_bind ?_
  unfold PySem.isInstance
  repeat lk
  exact h
theorem exc_class {Q : Option Value → Shared → Prop} (X : K.In s.heap) (hx : s.heap.get? x = some ox) (hc : ox.cls = .ref C) (F : ExcK K C) (h : Q (some (.ref C)) { s with toks := s.toks + 1 }) :
    wpAny (model prog w) A (getAttr? (.ref x) "__class__") Q E s := by
  obtain ⟨hh, g, dr, t, os⟩ := s
  have LT := exc_type (M := model prog w) hx hc
  have LG := looks_findIn (M := model prog w) X F.ga
  have LH := looks_findIn (M := model prog w) X F.gt
  unfold getAttr? getAttrBy? getAttrBy
  refine wpAny_bind (wpAny_mkText (wpAny_bind (wpAny_attempt (wpAny_holding (wpAny_bind (LT.at ?_))))))
  refine wpAny_bind (LG.at ?_)
  have n1 : (onTheHeap (.ref C) && Value.builtin "BaseException.__getattribute__" == Value.builtin "object.__getattribute__") = false := by
    show (true && Value.builtin "BaseException.__getattribute__" == Value.builtin "object.__getattribute__") = false
    decide +kernel
  show wpAny _ _ (if (onTheHeap (.ref C) && Value.builtin "BaseException.__getattribute__" == Value.builtin "object.__getattribute__") = true then _ else getAttrByItsOwn _ _ _ _ _ _) _ _ _
  rw [n1, if_neg Bool.false_ne_true]
  unfold getAttrByItsOwn hookBefore
  refine wpAny_bind (LH.at ?_)
  refine wpAny_bind (wpAny_attempt (wpAny_holding ?_))
  have b1 := PySem.F.excAttr_ValueError.ga.bind (.ref x)
  show wpAny _ _ (boundAndCalled _ _ _) _ _ _
  unfold boundAndCalled
  rw [b1]
  refine wpAny_bind (wpAny_pure ?_)
  refine wpAny_call (codeAny_call_builtin PySem.F.excAttr_ValueError.ga.plain PySem.F.entry_bexc_ga (exc_check (s := ⟨hh, g, dr, t + 1, os⟩) X hx hc F (exc_entry (s := ⟨hh, g, dr, t + 1, os⟩) X hx hc F ?_)))
  exact handed_on rfl (wpAny_pure h)
theorem exc_kit (hc : ox.cls = .ref C) (F : ExcK K C) : KitX K (.ref x) (.ref C) (fun h => h.get? x = some ox) where
  ty := fun _ _ _ p => exc_type p hc
  it := fun _ _ X _ => by
    obtain ⟨cd, hcd⟩ := Option.isSome_iff_exists.mp F.cl
    unfold clsIn at hcd
    split at hcd
    · rename_i hlk
      intro A' Q' E' s' k q
      unfold isType loadHead
      exact wpAny_bind (wpAny_loadPart (k _ _ (X _ _ hlk)) (wpAny_pure q))
    · cases hcd
  ne := fun h tp dd its n sl X htp => by
    obtain ⟨cd, hcd⟩ := Option.isSome_iff_exists.mp F.cl
    refine Bool.eq_false_iff.mpr fun q => ?_
    have e : C = tp := Value.ref.inj (beq_iff_eq.mp q)
    subst e
    unfold clsIn at hcd
    split at hcd
    · rename_i hlk
      have z := (X _ _ hlk).symm.trans htp
      cases z
    · cases hcd
  ca := fun X p k => exc_class X p hc F k

def rIsiX (K : PySem.W.Frag) (ea C : Addr) : List V → Hp → VK → Prop := fun xs H Q => ∃ c b, xs = [.ref ea, c] ∧ clsOf c ≠ .none ∧ kitOne K (.ref C) (clsOf c) = some b ∧ Q (.bl b) H
theorem call_isiX {X : Cx} {ea : Addr} {oe : Obj} (hp : (ea, oe) ∈ X.pn) (hc : oe.cls = .ref C) (F : ExcK X.K C) : CallR X (.builtin "isinstance") (rIsiX X.K ea C) := by
  intro pins s σ H xs us Q I r h
  obtain ⟨c, b, rfl, hn, e, q⟩ := h
  obtain ⟨u, w', rfl, rx, rc⟩ := vals2 r
  cases clsOf_eq rc hn
  cases (show u = Value.ref ea from rx)
  exact kia_one (exc_kit hc F) I.kIn (I.pin (ea, oe) (List.mem_append_left _ hp)).1 e (fun z => nomatch z) fun tk => ⟨.bl b, H, I.tok _, rfl, q⟩
theorem r_isiX {K : PySem.W.Frag} {ea C : Addr} {c : V} {H : Hp} {Q : VK} {b : Bool} (hc : clsOf c ≠ .none) (e : kitOne K (.ref C) (clsOf c) = some b) (q : Q (.bl b) H) : rIsiX K ea C [.ref ea, c] H Q := ⟨c, b, rfl, hc, e, q⟩
theorem call_isiXK {X : Cx} {K : PySem.W.Frag} {ea C : Addr} {oe : Obj} (h : X.K = K) (hp : (ea, oe) ∈ X.pn) (hc : oe.cls = .ref C) (F : ExcK K C) : CallR X (.builtin "isinstance") (rIsiX K ea C) := by subst h; exact call_isiX hp hc F

theorem r_raise {C : Addr} {E : XK} {t : TA} {D : Ends} {σ : L2.St} {H : Hp} (h : t σ H fun vs H1 => vs.length ≤ 1000 ∧ E (.ref C) none H1) : tRaise C E t D σ H := h
end
end L3
namespace L3
open PySem PySem.Spec PyProof.Rows L2 PySem.SeqAt

section
variable {X : Cx} {k : Nat} {g : Str} {sp : Sp} {e c : Expr} {es : List Expr} {t : TA} {gp cpos pos : Pos} {b1 b2 : List Stmt} {tc : TT} {t1 t2 : TB}
def bExpr (sp : Sp) (t : TA) : TB := fun D Ew σ H => t σ H fun vs H1 => sp vs H1 (fun _ H2 => D.nx σ H2) Ew
theorem pb_expr (G : FnE X.prog X.w X.K X.mg X.base (CXR X.prog X.w) k g sp) (hr : Room k X.A) (hg : Gl X g) (ha : PA X.nox (e :: es) t) (hdb : (g == ("__debug__" : Str)) = false := by decide)
    (he : starEach (e :: es) X.env = (false, eval e X.env) :: starEach es X.env := by rfl) (hpl : (backTo cpos (starEach es X.env)).any (·.1) = false := by rfl) (hi : interactive X.env = false := by rfl) :
    PB X [.Expr (.Call (.Name g gp) (e :: es) [] cpos) pos] (bExpr sp t) := by
  intro pins s σ H D Ew I h
  refine wpAny_execs_cons (wpAny_Expr_any (wpAny_mono (call_throws G hr hg ha I h hdb he hpl) (fun v s1 ⟨y, H1, I1, r1, q1⟩ => wpAny_execs_nil ⟨σ, H1, I1, q1⟩) fun _ _ z => z) hi rfl)
end
section
variable {X : Cx} {v : Expr} {tv : TE} {x y : Str} {j1 j2 : Nat} {p0 p1 p2 p3 : Pos}
def tFstr (x y : Str) (tv : TE) : TE := fun σ H Q => tv σ H fun u H1 => ∃ i, u = .int i ∧ i.natAbs.log2 < 1920 ∧ (Str.empty ++ x ++ Str.ofString (toString i)).length ≤ sizeLine ∧ (Str.empty ++ x ++ Str.ofString (toString i) ++ y).length ≤ sizeLine ∧ Q (.str (Str.empty ++ x ++ Str.ofString (toString i) ++ y)) H1
theorem pe_fstr (hv : PE X v tv) (hx : (Str.empty ++ x).length ≤ sizeLine := by decide +kernel) : PE X (.JoinedStr [.Constant (.str x) j1 p1, .FormattedValue v (-1) none p2, .Constant (.str y) j2 p3] p0) (tFstr x y tv) := by
  intro pins s σ H Q I h
  refine JoinedStr_many (joinParts_cons (thn (pe_str (X := X) pins s σ H (fun u H' => u = .str x ∧ H' = H) I ⟨rfl, rfl⟩) fun u1 s1 ⟨v1, H1, I1, r1, e1, e2⟩ => ?_))
  subst e1 e2
  obtain ⟨t1, rfl⟩ := r1
  refine ⟨hx, joinParts_cons (FormattedValue_plain (thn (hv pins s1 σ H1 _ I1 h) fun u2 s2 ⟨v2, H2, I2, r2, i, e, hd, hy, hz, q⟩ => ?_))⟩
  subst e
  obtain ⟨t2, rfl⟩ := r2
  refine formatField_int_small hd ?_
  refine ⟨hy, joinParts_cons (thn (pe_str (X := X) pins _ σ H2 (fun u H' => u = .str y ∧ H' = H2) (I2.tok _) ⟨rfl, rfl⟩) fun u3 s3 ⟨v3, H3, I3, r3, e3, e4⟩ => ?_)⟩
  subst e3 e4
  obtain ⟨t3, rfl⟩ := r3
  exact ⟨hz, joinParts_nil ⟨.str _, _, I3.tok _, ⟨_, rfl⟩, q⟩ hz⟩
end
end L3
namespace L3
open PySem PySem.Spec PyProof.Rows

section
variable {prog : Program} {w : World} {A : Around} {E : Value → Shared → Prop} {s : Shared}
end
section
variable {prog : Program} {w : World} {A : Around} {E : Value → Shared → Prop} {s : Shared}
end
end L3
namespace L3
open PySem PySem.Spec PyProof.Rows L2

end L3
namespace L3
open PySem PySem.Spec PyProof.Rows L2 PySem.SeqAt

def dIn (kvs lvs : List (Key × V)) : Prop := ∀ p ∈ kvs, ∃ i : Int, p.2 = .int i ∧ valV lvs p.1 = some (.int i)
end L3
namespace L3
open PySem PySem.Spec PyProof.Rows L2 PySem.SeqAt

section
variable {P : Program} {w : World} {K : PySem.W.Frag} {mg : Str → Option Value} {base : Heap} {dv : Value}
end
section
variable {X : Cx} {CX : CXT} {k : Nat} {C : Addr} {dV : V} {sp : Sp} {E : XK} {x m : Str} {p pos apos : Pos} {e o : Expr} {es : List Expr} {ta : TE} {t : TA}
end
section
variable {P : Program} {w : World} {K : PySem.W.Frag} {mg : Str → Option Value} {base : Heap} {x qual : Str} {st : Stmt} {N ps : List Str} {sp : Sp} {C : Addr}
end

theorem pass_no {P : Program} {w : World} {X : Cx} : Passes (CXR P w) X (fun _ _ _ => False) := fun _ _ _ _ _ _ _ h => by
  obtain ⟨ea, C, H', _, _, z⟩ := h
  exact z.elim

end L3
namespace FB
open PySem PySem.Spec PyProof.Rows L2 L3 PySem.SeqAt


inductive Rw where
  | set (b n : Int) | copy (b o : Int) | add (b o t : Int) | sub (b o t : Int) | mul (b o t : Int) | less (b o t : Int)
  | grow (m : Int) | shrink (m : Int) | put (b c : Int) | get (b c : Int)
  | jump (t : Int) | branch (b t : Int) | call (t : Int) | back (b : Int) | drop (b : Int)
def isBox (b : Int) : Prop := 0 ≤ b ∧ b ≤ 7
def isVal (n : Int) : Prop := 0 ≤ n ∧ n ≤ 4294967295
def isMany (n : Int) : Prop := 0 ≤ n ∧ n ≤ 4000
def isTgt (n : Int) : Prop := 0 ≤ n ∧ n ≤ 2000
def Rw.ok : Rw → Prop
  | .set b n => isBox b ∧ isVal n
  | .copy b o => isBox b ∧ isBox o
  | .add b o t | .sub b o t | .mul b o t | .less b o t => isBox b ∧ isBox o ∧ isBox t
  | .grow m | .shrink m => isMany m
  | .put b c | .get b c => isBox b ∧ isMany c
  | .jump t | .call t => isTgt t
  | .branch b t => isBox b ∧ isTgt t
  | .back b | .drop b => isBox b
def gI (xs : List Int) (i : Int) : Int := xs.getD i.toNat 0
def sI (xs : List Int) (i v : Int) : List Int := xs.set i.toNat v
theorem sI_len (xs : List Int) (i v : Int) : (sI xs i v).length = xs.length := by unfold sI; exact List.length_set ..
theorem gI_at {xs : List Int} {i : Int} (h0 : 0 ≤ i) (h1 : i < xs.length) : atI (xs.map V.int) i = some (.int (gI xs i)) := by
  have e : i = ((i.toNat : Nat) : Int) := by omega
  have hl : i.toNat < xs.length := by omega
  have z : atI (xs.map V.int) ((i.toNat : Nat) : Int) = some (.int (gI xs i)) := atI_nat (by
    rw [List.getElem?_map, List.getElem?_eq_getElem hl]
    simp [gI, List.getD, List.getElem?_eq_getElem hl])
  rw [← e] at z; exact z
theorem r_lenI {K : PySem.W.Frag} {p : Addr} {xs : List Int} {H : Hp} {Q : VK} (h : SqL K H p (xs.map V.int)) (q : Q (.int xs.length) H) : rLen K [.ref p] H Q := r_lenL h (by rw [List.length_map]; exact q)
def cutI (xs : List Int) (lo hi : Option Int) : List Int := (xs.drop (HT.sIx xs.length 0 lo)).take (HT.sIx xs.length xs.length hi - HT.sIx xs.length 0 lo)
theorem cutV_map (xs : List Int) (lo hi : Option Int) : cutV (xs.map V.int) lo hi = (cutI xs lo hi).map V.int := by
  unfold cutV cutI; rw [List.length_map, List.map_take, List.map_drop]
theorem cutI_len (xs : List Int) (lo hi : Option Int) : (cutI xs lo hi).length ≤ xs.length := by
  unfold cutI; rw [List.length_take, List.length_drop]; omega
theorem r_slI {K : PySem.W.Frag} {p : Addr} {xs : List Int} {lo hi : Option Int} {H : Hp} {Q : VK} (h : SqL K H p (xs.map V.int)) (q : ∀ l, H l = none → Q (.ref l) (upd H l (.lst ((cutI xs lo hi).map V.int)))) : rSlA K (.ref p) lo hi H Q :=
  r_slL h (by rw [cutV_map]; exact q)
def Rw.told : Rw → Str × List Int
  | .set b n => ("set", [b, n])
  | .copy b o => ("copy", [b, o])
  | .add b o t => ("add", [b, o, t])
  | .sub b o t => ("sub", [b, o, t])
  | .mul b o t => ("mul", [b, o, t])
  | .less b o t => ("less", [b, o, t])
  | .grow m => ("grow", [m])
  | .shrink m => ("shrink", [m])
  | .put b c => ("put", [b, c])
  | .get b c => ("get", [b, c])
  | .jump t => ("jump", [t])
  | .branch b t => ("branch", [b, t])
  | .call t => ("call", [t])
  | .back b => ("back", [b])
  | .drop b => ("drop", [b])

def Rw.flds : Rw → List (Str × V)
  | .set b n => putF "number" (.int n) (putF "box" (.int b) [])
  | .copy b o => putF "one" (.int o) (putF "box" (.int b) [])
  | .add b o t | .sub b o t | .mul b o t | .less b o t => putF "other" (.int t) (putF "one" (.int o) (putF "box" (.int b) []))
  | .grow m | .shrink m => putF "many" (.int m) []
  | .put b c | .get b c => putF "cell" (.int c) (putF "box" (.int b) [])
  | .jump t | .call t => putF "target" (.int t) []
  | .branch b t => putF "target" (.int t) (putF "box" (.int b) [])
  | .back b | .drop b => putF "box" (.int b) []
structure Adr where
  C_Row : Addr
  C_Set : Addr
  C_Copy : Addr
  C_Add : Addr
  C_Sub : Addr
  C_Mul : Addr
  C_Less : Addr
  C_Grow : Addr
  C_Shrink : Addr
  C_Put : Addr
  C_Get : Addr
  C_Jump : Addr
  C_Branch : Addr
  C_Call : Addr
  C_Back : Addr
  C_Drop : Addr
  C_Reckoning : Addr
  C_Reaching : Addr
  C_FrameError : Addr
  C_NoRow : Addr
  C_NoTable : Addr
  C_NoText : Addr
  C_Table : Addr
  C_Reading : Addr
  C_Machine : Addr
  C_Astray : Addr
  C_NoProgram : Addr
  C_NoLine : Addr
  C_NoName : Addr
  G_START : Addr
  G_WHICH : Addr
  G_COUNTS : Addr
  G_KEPT_BOXES : Addr
  G_SET_NAMES : Addr
  G_PARTS : Addr
  G_UNCOUNTED : Addr
def Rw.cls (a : Adr) : Rw → Addr
  | .set .. => a.C_Set
  | .copy .. => a.C_Copy
  | .add .. => a.C_Add
  | .sub .. => a.C_Sub
  | .mul .. => a.C_Mul
  | .less .. => a.C_Less
  | .grow .. => a.C_Grow
  | .shrink .. => a.C_Shrink
  | .put .. => a.C_Put
  | .get .. => a.C_Get
  | .jump .. => a.C_Jump
  | .branch .. => a.C_Branch
  | .call .. => a.C_Call
  | .back .. => a.C_Back
  | .drop .. => a.C_Drop

def RowAt (a : Adr) (H : Hp) (p : Addr) (r : Rw) : Prop := ∃ dx, H p = some (.ins (r.cls a) dx r.flds)
theorem RowAt.same {a : Adr} {H H' : Hp} {p : Addr} {r : Rw} (h : RowAt a H p r) (s : Same H H') : RowAt a H' p r := let ⟨dx, e⟩ := h; ⟨dx, s _ _ e⟩


def spBounded : Sp := fun vs H Q _ => ∃ n top : Int, vs = [.int n, .int top] ∧ 0 ≤ n ∧ n ≤ top ∧ Q (.int n) H
def kpInit (H : Hp) (x dx C : Addr) (fs : List (Str × V)) (Q : VK) : Prop := H x = some (.ins C dx []) ∧ ∀ H', (∀ b o, H b = some o → b ≠ x → H' b = some o) → H' x = some (.ins C dx fs) → Q .non H'
def spIni1 (C : Addr) (mk : Int → Rw) : Sp := fun vs H Q _ => ∃ (x dx : Addr) (i : Int), vs = [.ref x, .int i] ∧ (mk i).ok ∧ kpInit H x dx C (mk i).flds Q
def spIni2 (C : Addr) (mk : Int → Int → Rw) : Sp := fun vs H Q _ => ∃ (x dx : Addr) (i j : Int), vs = [.ref x, .int i, .int j] ∧ (mk i j).ok ∧ kpInit H x dx C (mk i j).flds Q
def spIni3 (C : Addr) (mk : Int → Int → Int → Rw) : Sp := fun vs H Q _ => ∃ (x dx : Addr) (i j k : Int), vs = [.ref x, .int i, .int j, .int k] ∧ (mk i j k).ok ∧ kpInit H x dx C (mk i j k).flds Q
theorem kp_make {C : Addr} {a : Adr} {r : Rw} {H : Hp} {Q : VK} (hc : r.cls a = C) (q : ∀ p H', Same H H' → H p = none → RowAt a H' p r → Q (.ref p) H') {x dx : Addr} (hx : H x = none) (hdx : H dx = none) :
    kpInit (upd (upd H dx (.own x)) x (.ins C dx [])) x dx C r.flds (fun v H2 => v = .non ∧ Q (.ref x) H2) := by
  refine ⟨upd_same, fun H' kp hH' => ⟨rfl, q x H' (fun b o e => ?_) hx ⟨dx, by rw [hc]; exact hH'⟩⟩⟩
  exact kp b o (by rw [upd_ne (ne_of_none e hx), upd_ne (ne_of_none e hdx)]; exact e) (ne_of_none e hx)
theorem r_row1 {C : Addr} {mk : Int → Rw} {a : Adr} {i : Int} {H : Hp} {Q : VK} {E : XK} (hk : (mk i).ok) (hc : (mk i).cls a = C) (q : ∀ p H', Same H H' → H p = none → RowAt a H' p (mk i) → Q (.ref p) H') :
    ∀ x dx, H x = none → H dx = none → dx ≠ x → spIni1 C mk (.ref x :: [.int i]) (upd (upd H dx (.own x)) x (.ins C dx [])) (fun v H2 => v = .non ∧ Q (.ref x) H2) E := fun x dx hx hdx _ => ⟨x, dx, i, rfl, hk, kp_make hc q hx hdx⟩
theorem r_row2 {C : Addr} {mk : Int → Int → Rw} {a : Adr} {i j : Int} {H : Hp} {Q : VK} {E : XK} (hk : (mk i j).ok) (hc : (mk i j).cls a = C) (q : ∀ p H', Same H H' → H p = none → RowAt a H' p (mk i j) → Q (.ref p) H') :
    ∀ x dx, H x = none → H dx = none → dx ≠ x → spIni2 C mk (.ref x :: [.int i, .int j]) (upd (upd H dx (.own x)) x (.ins C dx [])) (fun v H2 => v = .non ∧ Q (.ref x) H2) E := fun x dx hx hdx _ => ⟨x, dx, i, j, rfl, hk, kp_make hc q hx hdx⟩
theorem r_row3 {C : Addr} {mk : Int → Int → Int → Rw} {a : Adr} {i j k : Int} {H : Hp} {Q : VK} {E : XK} (hk : (mk i j k).ok) (hc : (mk i j k).cls a = C) (q : ∀ p H', Same H H' → H p = none → RowAt a H' p (mk i j k) → Q (.ref p) H') :
    ∀ x dx, H x = none → H dx = none → dx ≠ x → spIni3 C mk (.ref x :: [.int i, .int j, .int k]) (upd (upd H dx (.own x)) x (.ins C dx [])) (fun v H2 => v = .non ∧ Q (.ref x) H2) E := fun x dx hx hdx _ => ⟨x, dx, i, j, k, rfl, hk, kp_make hc q hx hdx⟩
theorem kp_two {H : Hp} {x : Addr} {o1 o2 : HO} : ∀ b o, H b = some o → b ≠ x → upd (upd H x o1) x o2 b = some o := fun b o e ne => by rw [upd_ne ne, upd_ne ne]; exact e
theorem kp_one {H : Hp} {x : Addr} {o1 : HO} : ∀ b o, H b = some o → b ≠ x → upd H x o1 b = some o := fun b o e ne => by rw [upd_ne ne]; exact e
theorem kp_three {H : Hp} {x : Addr} {o1 o2 o3 : HO} : ∀ b o, H b = some o → b ≠ x → upd (upd (upd H x o1) x o2) x o3 b = some o := fun b o e ne => by rw [upd_ne ne, upd_ne ne, upd_ne ne]; exact e

def spTold (a : Adr) (r : Rw) : Sp := fun vs H Q _ => ∃ (x : Addr), vs = [.ref x] ∧ RowAt a H x r ∧ ∀ p, H p = none → Q (.ref p) (upd H p (.tup (.str r.told.1 :: r.told.2.map V.int)))

theorem r_bounded {n top : Int} {H : Hp} {Q : VK} {E : XK} (h0 : 0 ≤ n) (h1 : n ≤ top) (q : Q (.int n) H) : spBounded [.int n, .int top] H Q E := ⟨n, top, rfl, h0, h1, q⟩
def cellAt (ns : List Int) (k : Int) : Int := ns.getD k.toNat 0
def spCellAt (K : PySem.W.Frag) : Sp := fun vs H Q _ => ∃ (p : Addr) (ns : List Int) (k : Int), vs = [.ref p, .int k] ∧ SqL K H p (ns.map V.int) ∧ 0 ≤ k ∧ Q (.int (cellAt ns k)) H
theorem r_cellAt {K : PySem.W.Frag} {p : Addr} {ns : List Int} {k : Int} {H : Hp} {Q : VK} {E : XK} (h : SqL K H p (ns.map V.int)) (h0 : 0 ≤ k) (q : Q (.int (cellAt ns k)) H) : spCellAt K [.ref p, .int k] H Q E := ⟨p, ns, k, rfl, h, h0, q⟩
theorem cellAt_out {ns : List Int} {k : Int} (h0 : 0 ≤ k) (h : ¬ k < ns.length) : cellAt ns k = 0 := by
  unfold cellAt
  rw [List.getD_eq_getElem?_getD, List.getElem?_eq_none (by omega)]
  rfl
def spLaw (K : PySem.W.Frag) : Sp := fun vs H Q _ => ∃ (a : Addr) (ns : List Int), vs = [.ref a] ∧ SqL K H a (ns.map V.int) ∧ ns.length ≤ 63 ∧ ∀ H', Q (.bl true) H'
theorem look_of {fs : List (Str × V)} {f g : Str} {v w : V} (h : f ≠ g) (e : fs.lookup f = some w) : (putF g v fs).lookup f = some w := by rw [lookup_putF, if_neg h]; exact e
theorem look_hit {fs : List (Str × V)} {f : Str} {v : V} : (putF f v fs).lookup f = some v := by rw [lookup_putF, if_pos rfl]
theorem look_no {fs : List (Str × V)} {f g : Str} {v : V} (h : f ≠ g) (e : fs.lookup f = none) : (putF g v fs).lookup f = none := by rw [lookup_putF, if_neg h]; exact e
theorem len_of {fs : List (Str × V)} {f : Str} {v : V} {n : Nat} (e : fs.length ≤ n) : (putF f v fs).length ≤ n + 1 := Nat.le_trans (length_putF _ _ _) (Nat.succ_le_succ e)
end FB
namespace L3
open PySem PySem.Spec PyProof.Rows L2 PySem.SeqAt

section
variable {prog : Program} {w : World} {A : Around} {E : Value → Shared → Prop} {h : Heap} {g : Array GenState} {d : Drawn} {t : Nat} {os : OsState}
variable {nm q : Str} {C N : Addr} {bs bm bmB : List Value} {hdct : Bool} {sn : List Str} {sub : List Value} {ab : Bool} {col : Option Bool} {dd : Option Addr} {k0 k1 k2 k3 k5 : Option Value} {B Bn newId nid initId inN : String} {bmN : List Value}
end
end L3
namespace L3
open PySem PySem.Spec PyProof.Rows L2 PySem.SeqAt

end L3
namespace L3
open PySem PySem.Spec PyProof.Rows L2 PySem.SeqAt PySem.W Builtin Builtin.ObjectAttr

section
variable {prog : Program} {w : World} {A : Around} {E : Value → Shared → Prop} {s : Shared} {K : PySem.W.Frag} {x C t : Addr} {name : Str} {v : Value}
end
end L3
namespace L3
open PySem PySem.Spec PyProof.Rows L2 PySem.SeqAt
section
variable {X : Cx} {pins : List (Addr × Obj)} {σ : L2.St} {H : Hp} {s : Shared} {a C : Addr} {f : Str} {A : Around} {E : Value → Shared → Prop}
end

end L3
namespace L3
open PySem PySem.Spec PyProof.Rows L2 PySem.SeqAt

section
variable {M : Model} {A : Around} {E : Value → Shared → Prop} {s : Shared}

end
end L3
namespace L3
open PySem PySem.Spec PyProof.Rows L2 PySem.SeqAt
section
variable {M : Model} {A : Around} {E : Value → Shared → Prop} {env : Env}
variable {nm q : Str} {C N : Addr} {bs bm : List Value} {hdct : Bool} {sn : List Str} {sub : List Value} {ab : Bool} {col : Option Bool} {dd : Option Addr} {k0 k1 k2 k3 k5 : Option Value} {newId : String}
end
section
variable {prog : Program} {w : World} {A : Around} {E : Value → Shared → Prop} {s : Shared} {env : Env}
variable {nm q : Str} {C N : Addr} {bs bm bmB : List Value} {hdct : Bool} {sn : List Str} {sub : List Value} {ab : Bool} {col : Option Bool} {dd : Option Addr} {k0 k1 k2 k3 k5 : Option Value} {B Bn newId nid initId inN : String} {bmN : List Value}
end

end L3
namespace L3
open PySem PySem.Spec PyProof.Rows L2 PySem.SeqAt

section
variable {P : Program} {w : World} {K : PySem.W.Frag} {mg : Str → Option Value} {base : Heap} {x qual : Str} {st : Stmt} {N ps : List Str} {sp : Sp} {C : Addr} {k : Nat}
end

section
variable {X : Cx} {pins : List (Addr × Obj)} {σ : L2.St} {H : Hp} {s : Shared} {k : Nat} {g x n : Str} {sp : Sp} {e : Expr} {es : List Expr} {t : TA} {tx : TEX} {ta : TAX} {te : TE} {gp cpos pos py : Pos}
end
end L3
namespace L3
open PySem PySem.Spec PyProof.Rows L2 PySem.SeqAt PySem.W Builtin Builtin.ObjectAttr
section
variable {prog : Program} {w : World} {A : Around} {E : Value → Shared → Prop} {s : Shared} {K : PySem.W.Frag} {x C dx : Addr} {ox od : Obj} {name : Str} {v : Value}
end

section
variable {X : Cx} {pins : List (Addr × Obj)} {σ : L2.St} {C fI : Addr}
end
end L3
namespace L3
open PySem PySem.Spec PyProof.Rows L2 PySem.SeqAt

end L3
namespace L3
open PySem PySem.Spec PyProof.Rows L2 PySem.SeqAt
end L3
namespace L3
open PySem PySem.Spec PyProof.Rows L2 PySem.SeqAt

section
variable {prog : Program} {w : World} {A : Around} {E : Value → Shared → Prop} {s : Shared}
end
end L3
namespace L3
open PySem PySem.Spec PyProof.Rows L2 PySem.SeqAt
section
variable {M : Model} {A : Around} {E : Value → Shared → Prop}
variable {nm q : Str} {D N : Addr} {bs bm : List Value} {hdct : Bool} {sn : List Str} {sub : List Value} {ab : Bool} {col : Option Bool} {dd : Option Addr} {k0 k1 k2 k3 k5 : Option Value} {newId : String}

theorem excMatches_up {K : PySem.W.Frag} {h : Heap} {g : Array GenState} {d : Drawn} {t : Nat} {os : OsState} {e C : Addr} {oe : Obj} {Q : Bool → Shared → Prop} (X : K.In h)
    (hD : h.get? D = some (excClassObj nm q D N bs bm hdct sn sub ab col dd k0 k1 k2 k3 k5 newId)) (hbase : bm.contains (.type "BaseException") = true) (he : h.get? e = some oe) (hcls : oe.cls = .ref C) (hup : PySem.W.mroIn K C (.ref D) = some true)
    (hq : Q true ⟨h, g, d, t, os⟩) : wpAny M A (excMatches (.ref e) (.ref D)) Q E ⟨h, g, d, t, os⟩ := by
  have hcB : (Value.ref D :: bm).contains (.type "BaseException") = true := by rw [List.contains_cons, hbase, Bool.or_true]
  have f := tc_notTuple
  unfold excMatches
  repeat (first | (with_reducible refine wpAny_loadPart_at he ?_; rw [hcls]) | with_reducible refine wpAny_loadPart_at hD ?_ | (with_reducible refine (PySem.W.looks_mroIn X hup).at ?_) | (with_reducible refine wpAny_isSubtype_exc hD ?_; rw [hcB]) | wp_step)
  exact hq
end
section
variable {X : Cx} {pins : List (Addr × Obj)} {σ : St} {H H1 H' : Hp} {s s1 s' : Shared} {ea C : Addr}
theorem ps_tryU {D : Addr} {body : List Stmt} {tb : TB} {x n : Str} {np hpos pos : Pos} {b0 : Stmt} {suite : List Stmt} {i : Nat} {th : Addr → TS} (hst : X.stack = X.env :: X.outer) (hfr : X.env.frame = some X.env.locals) (hc : X.calm = true)
    (hb : PB X body tb) (c : ExcC X.K X.mg x D) (hup : PySem.W.mroIn X.K C (.ref D) = some true) (hg : Gl X x) (hN : X.N.Nodup) (hi : X.N[i]? = some n) (hn : X.env.scope.names.lookup n = some .local)
    (hs : ∀ ea oe, oe.cls = .ref C → (∃ vs, oe.data = .fields vs) → PSs (Cx.sup X ea [(ea, oe)]) (b0 :: suite) (th ea)) (hdb : (x == ("__debug__" : Str)) = false := by decide) :
    PS X (.Try body [.ExceptHandler (some (.Name x np)) (some n) (b0 :: suite) hpos] [] [] pos) (tTry tb C i th) := by
  intro pins s σ H DD I0 h
  refine wpAny_Try_except (wpAny_mono (hb pins s σ H DD _ I0 h) (fun f s1 q => ?_) fun ex s' q => ?_)
  · cases f with
    | next => exact wpAny_execs_nil q
    | brk => exact q
    | cont => exact q
    | ret u => exact q
  obtain ⟨ea, C', H1, s1, H', rfl, I, ⟨os, bare, h0, l, a0, u, hok, hl, hnew, fl, up⟩, ec, q⟩ := q
  cases ec
  have hh : X.calm = true → X.A.handled = none := I.ok.hd
  have fl' : Heap.FlyingW (PySem.W.hideAll h0 l) (X.env :: X.outer) ea (.ref C) a0 s'.heap := by rw [← hst]; exact fl
  have ap := apart_at (I.call (h' := h0) (g' := s'.gens) (d' := s'.drawn) (t' := s'.toks) (ch := []) u hok bare (fun b z => absurd z (by simp))) hnew
  refine wpAny_looks_onW (by rw [← hst]; exact I.ok.frames) hfr fl' fun h4 held4 up4 => ?_
  refine wpAny_landsW held4 fun h5 fl5 up5 => ?_
  have I5 : Inv X pins σ H' { s' with heap := h5 } := landed_at I os bare u hok hl fl5.1 ((up.trans up4).trans up5)
  obtain ⟨oe, hoe, hoec⟩ := fl5.there
  refine wpAny_handleBy_cons (codeAny_handlers_test (ld_glob (X := Cx.sup X ea []) (Inv.sup I5 (fun p hp => nomatch hp)) hg c.glob ?_ hdb)) (by intro z; cases z)
  obtain ⟨bm, N', nm, qn, bs, hd, sn, sub, ab, col, dd, k0, k1, k2, k3, k5, mN, hC, hNs, hni, TL⟩ := c.obj I5.kIn
  refine excMatches_up I5.kIn hC (TL.hasType (by decide +kernel)) hoe hoec hup (codeAny_handlers_suite_as ?_)
  refine lands_againW fl5 fun h6 fl6 up6 => ?_
  have I6 : Inv X pins σ H' { s' with heap := h6 } := landed_at I os bare u hok hl fl6.1 (((up.trans up4).trans up5).trans up6)
  obtain ⟨oe6, vs6, hoe6, hoec6, hoed6, _⟩ := fl6.first
  have I6p : Inv (Cx.sup X ea [(ea, oe6)]) pins σ H' { s' with heap := h6 } := Inv.sup I6 fun p hp => by
    have e : p = (ea, oe6) := by simpa using hp
    subst e
    exact ⟨hoe6, ap.1, ap.2.1, ap.2.2, fun v z => by rw [hoed6] at z; cases z⟩
  refine store_ok (X := Cx.sup X ea [(ea, oe6)]) I6p hN hi (.inl hn) (show RelV (.ref ea) (.ref ea) from rfl) (fun s7 I7 => ?_) (.inr hn)
  refine wpAny_mono (hs ea oe6 hoec6 ⟨vs6, hoed6⟩ pins s7 _ H' _ I7 (q ea ap.1)) (fun f s8 q8 => ?_) fun _ _ z => z.elim
  cases f with
  | next =>
    obtain ⟨σ', H'', I8, q9⟩ := q8
    exact goes_ok (Inv.unsup I8 hh) hN hi hn fun s9 I9 => ⟨_, H'', I9, q9⟩
  | brk => obtain ⟨_, _, _, z⟩ := q8; exact z.elim
  | cont => obtain ⟨_, _, _, z⟩ := q8; exact z.elim
  | ret v => obtain ⟨_, _, _, _, _, z⟩ := q8; exact z.elim
end
end L3
namespace L3
open PySem PySem.Spec PyProof.Rows L2

section
variable {prog : Program} {w : World} {A : Around} {E : Value → Shared → Prop} {s : Shared}
theorem callZipL {t u : Addr} {xs ys : Array Value} {Q : Value → Shared → Prop} (h1 : s.heap.IsList t xs) (h2 : s.heap.IsList u ys)
    (q : ∀ h' n, n = s.heap.objs.size → IsZip h' (n + 4) (n + 2) (n + 3) .none → IsPair h' (n + 2) (.ref n) (.ref (n + 1)) → IsPair h' (n + 3) .none .none → h'.IsListIter n t 0 → h'.IsListIter (n + 1) u 0 →
      (∀ c o, s.heap.get? c = some o → h'.get? c = some o) → Q (.ref (n + 4)) { s with heap := h' }) : wpAny (model prog w) A (call (.type "zip") [.ref t, .ref u]) Q E s :=
  call_zip_2 h1 h2 fun h' a1 a2 a3 a4 a5 _ a7 => q h' _ rfl a1 a2 a3 a4 a5 a7
theorem nextZipL {z TI TO i1 i2 t1 t2 : Addr} {k : Nat} {xs ys : Array Value} {a b : Value} {Q : Option Value → Shared → Prop} (D : ZipApart z TI TO i1 i2 t1 t2) (hz : IsZip s.heap z TI TO .none) (hTI : IsPair s.heap TI (.ref i1) (.ref i2)) (hTO : IsPair s.heap TO a b)
    (h1 : s.heap.IsListIter i1 t1 k) (h2 : s.heap.IsListIter i2 t2 k) (ht1 : s.heap.IsList t1 xs) (ht2 : s.heap.IsList t2 ys)
    (q1 : ∀ x y, xs[k]? = some x → ys[k]? = some y → ∀ h', IsZip h' z TI TO (rawInt s.heap.objs.size) → IsPair h' TO x y → h'.IsListIter i1 t1 (k + 1) → h'.IsListIter i2 t2 (k + 1) → IsPair h' s.heap.objs.size x y →
      (∀ c o, c ≠ z → c ≠ TO → c ≠ i1 → c ≠ i2 → s.heap.get? c = some o → h'.get? c = some o) → Q (some (.ref s.heap.objs.size)) { s with heap := h' })
    (q2 : (xs[k]? = none ∨ ys[k]? = none) → A.handled = none ∧ ∀ h', (∀ c o, c ≠ z → c ≠ TO → c ≠ i1 → c ≠ i2 → s.heap.get? c = some o → h'.get? c = some o) → Q none { s with heap := h' }) :
    wpAny (model prog w) A (pyNext (.ref z)) Q E s := by
  cases hx : xs[k]? with
  | none =>
    obtain ⟨hh, q⟩ := q2 (.inl hx)
    exact wpAny_pyNext_zip_end hh D hz hTI hTO h1 h2 ht1 ht2 (.inl hx) q
  | some x =>
    cases hy : ys[k]? with
    | none =>
      obtain ⟨hh, q⟩ := q2 (.inr hy)
      exact wpAny_pyNext_zip_end hh D hz hTI hTO h1 h2 ht1 ht2 (.inr hy) q
    | some y => exact wpAny_pyNext_zip_item D hz hTI hTO h1 h2 ht1 ht2 hx hy fun h' a1 a2 a3 a4 a5 _ a7 => q1 x y hx hy h' a1 a2 a3 a4 a5 a7
end
def ItzL (K : PySem.W.Frag) (a b : Addr) : It :=
  ⟨fun i H => ∃ xs ys x y, SqL K H a xs ∧ SqL K H b ys ∧ xs[i]? = some x ∧ ys[i]? = some y,
   fun i H v H' => ∃ T x y, v = .ref T ∧ H T = none ∧ H' = upd H T (.tup [x, y]) ∧ ∀ xs ys, SqL K H a xs → SqL K H b ys → xs[i]? = some x ∧ ys[i]? = some y,
   fun i H => ∃ xs ys, SqL K H a xs ∧ SqL K H b ys ∧ (xs.length ≤ i ∨ ys.length ≤ i)⟩
theorem turn_zipL {P : Program} {w : World} {K : PySem.W.Frag} {es : List Expr} {n : Nat} {pos : Pos} {a b z TI TO i1 i2 : Addr} (D : ZipApart z TI TO i1 i2 a b) :
    Turn P w K (.Tuple es n pos) (ItzL K a b) [z, TI, TO, i1, i2] z (fun i h => IsZip h z TI TO .none ∧ IsPair h TI (.ref i1) (.ref i2) ∧ (∃ x y, IsPair h TO x y) ∧ h.IsListIter i1 a i ∧ h.IsListIter i2 b i) where
  mem := by simp
  obj := fun i h st c hc => by
    obtain ⟨hz, hI, ⟨x, y, hO⟩, ⟨o1, e1, _, d1⟩, ⟨o2, e2, _, d2⟩⟩ := st
    have hc : c = z ∨ c = TI ∨ c = TO ∨ c = i1 ∨ c = i2 := by simpa using hc
    rcases hc with rfl | rfl | rfl | rfl | rfl
    · exact ⟨_, hz, fun v e => by cases e⟩
    · exact ⟨_, hI, fun v e => by cases e⟩
    · exact ⟨_, hO, fun v e => by cases e⟩
    · exact ⟨_, e1, fun v e => by rw [d1] at e; cases e⟩
    · exact ⟨_, e2, fun v e => by rw [d2] at e; cases e⟩
  keep := fun i h h' st k => by
    obtain ⟨hz, hI, ⟨x, y, hO⟩, h1, h2⟩ := st
    exact ⟨k z (by simp) _ hz, k TI (by simp) _ hI, ⟨x, y, k TO (by simp) _ hO⟩, h1.at fun o e => k i1 (by simp) o e, h2.at fun o e => k i2 (by simp) o e⟩
  item := by
    intro X hP hw hK hc i pins s σ H E I hf st hg
    subst hP hw hK
    obtain ⟨hz, hI, ⟨x0, y0, hO⟩, h1, h2⟩ := st
    obtain ⟨xs, ys, x, y, hq1, hq2, hx, hy⟩ := hg
    obtain ⟨its1, rv1, p1, _⟩ := I.list hq1
    obtain ⟨its2, rv2, p2, _⟩ := I.list hq2
    obtain ⟨u, hu, ru⟩ := rv1.get hx
    obtain ⟨v, hv, rv⟩ := rv2.get hy
    refine nextZipL D hz hI hO h1 h2 (p1.isList) (p2.isList) (fun u' v' hu' hv' h' z1 z2 z3 z4 z5 kk => ?_) fun he => ?_
    · have e1 : u' = u := by simpa [hu] using hu'.symm
      have e2 : v' = v := by simpa [hv] using hv'.symm
      subst e1 e2
      refine ⟨_, rfl, wpAny_letOwnedTupleGo_zip z1 fun h2' hz2 s2 => ?_⟩
      have T0 : H s.heap.objs.size = none := I.hok.fresh (Nat.le_refl _)
      have tz : s.heap.objs.size ≠ z := Nat.ne_of_gt (Heap.lt_size hz)
      have J : Inv X pins σ (upd H s.heap.objs.size (.tup [x, y])) { s with heap := h2' } := by
        refine inv_turns (ch := [z, TI, TO, i1, i2]) I hf (Nat.le_refl _) (fun c o hc e => ?_) (fun c hc => ?_) ?_
        · have c1 : c ≠ z := fun q => hc (by simp [q])
          exact s2.extBut _ _ c1 (kk c o c1 (fun q => hc (by simp [q])) (fun q => hc (by simp [q])) (fun q => hc (by simp [q])) e)
        · have hc : c = z ∨ c = TI ∨ c = TO ∨ c = i1 ∨ c = i2 := by simpa using hc
          rcases hc with rfl | rfl | rfl | rfl | rfl
          · exact ⟨_, hz2⟩
          · exact ⟨_, s2.extBut _ _ D.TIz (kk _ _ D.TIz D.TITO D.TIi1 D.TIi2 hI)⟩
          · exact ⟨_, s2.extBut _ _ D.TOz z2⟩
          · obtain ⟨o, e, _⟩ := z3; exact ⟨o, s2.extBut _ _ D.i1z e⟩
          · obtain ⟨o, e, _⟩ := z4; exact ⟨o, s2.extBut _ _ D.i2z e⟩
        · exact ⟨by show 2 ≤ sizeLine; decide, [u', v'], .cons ru (.cons rv .nil), ⟨_, s2.extBut _ _ tz z5, rfl, _, rfl⟩⟩
      refine ⟨.ref s.heap.objs.size, _, J, rfl, ⟨_, x, y, rfl, T0, rfl, fun xs' ys' q1 q2 => ?_⟩, ⟨hz2, s2.extBut _ _ D.TIz (kk _ _ D.TIz D.TITO D.TIi1 D.TIi2 hI), ⟨_, _, s2.extBut _ _ D.TOz z2⟩, z3.at fun o e => s2.extBut _ _ D.i1z e, z4.at fun o e => s2.extBut _ _ D.i2z e⟩, fun c hc => ?_⟩
      · rw [I.list_inj q1 hq1, I.list_inj q2 hq2]; exact ⟨hx, hy⟩
      · have hlt : c < s.heap.objs.size := by
          have hc : c = z ∨ c = TI ∨ c = TO ∨ c = i1 ∨ c = i2 := by simpa using hc
          rcases hc with e | e | e | e | e <;> rw [e]
          · exact Heap.lt_size hz
          · exact Heap.lt_size hI
          · exact Heap.lt_size hO
          · obtain ⟨o, e, _⟩ := h1; exact Heap.lt_size e
          · obtain ⟨o, e, _⟩ := h2; exact Heap.lt_size e
        rw [upd_ne (Nat.ne_of_lt hlt)]; exact (hf c hc).1
    · exfalso
      rcases he with he | he
      · simp [hu] at he
      · simp [hv] at he
  done := by
    intro X hP hw hK hc i pins s σ H E I hf st hg
    subst hP hw hK
    obtain ⟨hz, hI, ⟨x0, y0, hO⟩, h1, h2⟩ := st
    obtain ⟨xs, ys, hq1, hq2, hl⟩ := hg
    obtain ⟨its1, rv1, p1, _⟩ := I.list hq1
    obtain ⟨its2, rv2, p2, _⟩ := I.list hq2
    have l1 := rv1.length
    have l2 := rv2.length
    refine nextZipL D hz hI hO h1 h2 (p1.isList) (p2.isList) (fun u' v' hu' hv' h' z1 z2 z3 z4 z5 kk => ?_) fun he => ⟨I.ok.hd hc, fun h' kk => ⟨rfl, ?_⟩⟩
    · exfalso
      have g1 : i < its1.length := by simpa using (Array.getElem?_eq_some_iff.mp hu').1
      have g2 : i < its2.length := by simpa using (Array.getElem?_eq_some_iff.mp hv').1
      omega
    · have hnc : ∀ c o, c ∉ [z, TI, TO, i1, i2] → s.heap.get? c = some o → h'.get? c = some o := fun c o hc e => kk c o (fun q => hc (by simp [q])) (fun q => hc (by simp [q])) (fun q => hc (by simp [q])) (fun q => hc (by simp [q])) e
      refine I.call' (s' := { s with heap := h' }) (ch := [z, TI, TO, i1, i2]) rfl ⟨fun b o e _ _ hc => hnc b o hc e, fun b o e _ _ hc => ⟨o.slots, hnc b o hc e⟩, fun b o e n _ => n, fun b o e hc => ⟨o, hnc b o hc e⟩, fun _ _ e => e, fun _ _ _ e => e, fun b ps e => ⟨#[], by rw [e]; simp⟩⟩ (fun b u e => ?_) I.bare ?_
      · have nc : ∀ b u, H b = some u → b ∉ [z, TI, TO, i1, i2] := fun b u e hb => by rw [(hf b hb).1] at e; cases e
        refine (I.hok b u e).stay (fun c v hc q => hnc c v ?_ q) (fun _ q => q) fun _ _ q => q
        rcases hc with q | q
        · rw [q]; exact nc b u e
        · exact nc c _ q
      · intro b hb
        obtain ⟨f0, f1, f2, f3, f4, f5⟩ := hf b hb
        exact ⟨f3, f1, f4, f5⟩
  self := fun _ _ _ _ _ st h => wpAny_pyIter_zip st.1 h
def iZipL (K : PySem.W.Frag) (ta : TA) : TI := fun σ H R => ta σ H fun vs H1 => ∃ a b xs ys, vs = [.ref a, .ref b] ∧ SqL K H1 a xs ∧ SqL K H1 b ys ∧ R (ItzL K a b) H1
theorem pi_zipL2 {X : Cx} {K : PySem.W.Frag} {es : List Expr} {n : Nat} {tpos : Pos} {a b : Expr} {ta : TA} {p pos : Pos} (hK : X.K = K) (hg : Gl X "zip") (hm : X.mg "zip" = none) (ha : PA X [a, b] ta) (hs : starEach [a, b] X.env = [(false, eval a X.env), (false, eval b X.env)] := by rfl) (hs2 : starEach [b] X.env = [(false, eval b X.env)] := by rfl) :
    PI X (.Tuple es n tpos) (.Call (.Name "zip" p) [a, b] [] pos) (iZipL K ta) := by
  subst hK
  intro pins s σ H R I h
  refine Call_ (ld_blt I hg hm b_zip (PyProof.Rows.callWith_type1 (thn (ha pos pins s σ H _ I h) fun us s1 ⟨vs, H1, I1, r1, q1⟩ => ?_) (by rw [hs, hs2]) (by rw [hs2]; rfl)))
  obtain ⟨x, y, xs, ys, e, hx, hy, q⟩ := q1
  subst e
  cases r1 with
  | cons r rr =>
    cases rr with
    | cons r' rr =>
      cases rr
      cases r
      cases r'
      obtain ⟨its1, rv1, p1, _⟩ := I1.list hx
      obtain ⟨its2, rv2, p2, _⟩ := I1.list hy
      have lx : x < s1.heap.objs.size := (by obtain ⟨o, n, e, _⟩ := p1; exact Heap.lt_size e)
      have ly : y < s1.heap.objs.size := (by obtain ⟨o, n, e, _⟩ := p2; exact Heap.lt_size e)
      refine callZipL (p1.isList) (p2.isList) fun h' m hm' z1 z2 z3 z4 z5 kk => ?_
      subst hm'
      refine wpAny_pyIter_zip z1 ⟨_, [s1.heap.objs.size + 4, s1.heap.objs.size + 2, s1.heap.objs.size + 3, s1.heap.objs.size, s1.heap.objs.size + 1], _, _, H1, rfl, I1.kept (t' := s1.toks) kk, turn_zipL ⟨?_, ?_, ?_, ?_, ?_, ?_, ?_, ?_, ?_, ?_, ?_, ?_, ?_, ?_, ?_, ?_, ?_, ?_⟩, ⟨z1, z2, ⟨_, _, z3⟩, z4, z5⟩, fun c hc => ?last, q⟩
      case last =>
        have hc : c = s1.heap.objs.size + 4 ∨ c = s1.heap.objs.size + 2 ∨ c = s1.heap.objs.size + 3 ∨ c = s1.heap.objs.size ∨ c = s1.heap.objs.size + 1 := by simpa using hc
        have hge : s1.heap.objs.size ≤ c := by rcases hc with e | e | e | e | e <;> rw [e] <;> first | exact Nat.le_add_right _ _ | exact Nat.le_refl _
        exact I1.fpOk hge (I1.hok.fresh hge)
      all_goals (intro e; have e' : @Eq Nat _ _ := e; have lx' : @LT.lt Nat _ _ _ := lx; have ly' : @LT.lt Nat _ _ _ := ly; omega)
theorem r_zipL {K : PySem.W.Frag} {ta : TA} {σ : St} {H : Hp} {R : It → Hp → Prop} (q : ta σ H fun vs H1 => ∃ a b xs ys, vs = [.ref a, .ref b] ∧ SqL K H1 a xs ∧ SqL K H1 b ys ∧ R (ItzL K a b) H1) : iZipL K ta σ H R := q

end L3
namespace L3
open PySem PySem.Spec PyProof.Rows L2
end L3
namespace L3
open PySem PySem.Spec PyProof.Rows L2 PySem.SeqAt

section
variable {X : Cx} {k : Nat} {x m : Str} {e o : Expr} {es : List Expr} {ta : TE} {t : TA} {apos cpos pos py : Pos}
end
end L3
namespace L3
open PySem PySem.Spec PyProof.Rows L2 PySem.SeqAt

section
variable {X : Cx} {pins : List (Addr × Obj)} {σ : L2.St} {C fI : Addr}
end
end L3
namespace L3
open PySem PySem.Spec PyProof.Rows L2 PySem.SeqAt

section
variable {prog : Program} {w : World} {A : Around} {E : Value → Shared → Prop} {s : Shared}
end

section
variable {M : Model} {A : Around} {E : Value → Shared → Prop} {s : Shared}
end
end L3
namespace L3
open PySem PySem.Spec PyProof.Rows L2 PySem.SeqAt

section
variable {X : Cx} {pins : List (Addr × Obj)} {σ : L2.St} {H : Hp} {s : Shared}

theorem inv_swap {d : Addr} {o o' : HO} (I : Inv X pins σ H s) (hd : H d = some o) (n1 : ∀ y, o ≠ .own y) (n2 : ∀ xs, o ≠ .tup xs) (n3 : ∀ ps, o ≠ .tbl ps) (n4 : ∀ u v, X.H₀ d = some (.frz u v) → o' = .frz u v)
    (ok : ObjOk X.prog X.w (upd H d o') s.heap d o') : Inv X pins σ (upd H d o') s := by
  have nd : ∀ {b : Addr}, H b = none → b ≠ d := fun {b} e z => by rw [z, hd] at e; cases e
  refine ⟨I.ok, I.os, I.bare, ⟨I.base.keep, I.base.slot, fun b ob q n hx => ?_, I.base.there, fun b xs e => ?_, fun b u v e => ?_, fun b ps e => ?_⟩, I.loc, I.cell, ?_, fun x c e => ?_, fun p hp => ?_, fun b u e => ?_, I.len⟩
  · have z := I.base.free b ob q n hx
    rw [upd_ne (nd z)]; exact z
  · have z := I.base.tups b xs e
    rw [upd_ne (fun y => by rw [y, hd] at z; exact n2 xs (Option.some.inj z))]; exact z
  · by_cases hb : b = d
    · subst hb; rw [upd_same, n4 u v e]
    · rw [upd_ne hb]; exact I.base.frzs b u v e
  · obtain ⟨more, z⟩ := I.base.tbls b ps e
    exact ⟨more, by rw [upd_ne (fun y => by rw [y, hd] at z; exact n3 _ (Option.some.inj z))]; exact z⟩
  · rw [upd_ne (nd I.free)]; exact I.free
  · rw [upd_ne (nd (I.freeC x c e))]; exact I.freeC x c e
  · obtain ⟨h1, h2, h3⟩ := I.pin p hp
    exact ⟨h1, by rw [upd_ne (nd h2)]; exact h2, h3⟩
  · by_cases hb : b = d
    · subst hb
      rw [upd_same] at e
      cases e
      exact ok
    · rw [upd_ne hb] at e
      refine (I.hok b u e).stay (fun _ _ _ q => q) (fun c q => ?_) fun c xs q => ?_
      · rw [upd_ne (fun y => by rw [y, hd] at q; exact n1 _ (Option.some.inj q))]; exact q
      · rw [upd_ne (fun y => by rw [y, hd] at q; exact n2 _ (Option.some.inj q))]; exact q
def DObj (P : Program) (w : World) (ob : Obj) (vs : List (Key × Value)) (ep : Nat) : Prop := ∃ es, ob.ExactDict ∧ ob.data = .dict es ep ∧ KeysOf (mixKind P w) es ∧ Pairs (mixKind P w) es.toList vs ∧ (vs.map (·.1)).Nodup
theorem DObj.at {P : Program} {w : World} {ob : Obj} {vs : List (Key × Value)} {ep : Nat} {h : Heap} {d : Addr} (x : DObj P w ob vs ep) (e : h.get? d = some ob) : h.DictAt (mixKind P w) d vs ep := let ⟨es, r⟩ := x; ⟨ob, es, e, r⟩
theorem inv_freeze {d : Addr} {kvs : List (Key × V)} (I : Inv X pins σ H s) (hd : H d = some (.dK kvs)) : ∃ ob vs ep, s.heap.get? d = some ob ∧ (d == sysModules) = false ∧ KV kvs vs ∧ DObj X.prog X.w ob vs ep ∧ Inv X pins σ (upd H d (.frz ob (.dK kvs))) s := by
  obtain ⟨z, y, vs, r, ob, es, ep, e, c⟩ := id (I.hok d _ hd)
  refine ⟨ob, vs, ep, e, y, r, ⟨es, c⟩, inv_swap I hd (fun _ q => by cases q) (fun _ q => by cases q) (fun _ q => by cases q) (fun u v q => ?_) ⟨e, z, y, vs, r, ob, es, ep, e, c⟩⟩
  have := I.base.frzs d u v q
  rw [hd] at this; cases this
theorem inv_thaw {d : Addr} {ob : Obj} {kvs : List (Key × V)} (I : Inv X pins σ H s) (hd : H d = some (.frz ob (.dK kvs))) (h0 : ∀ u v, X.H₀ d ≠ some (.frz u v)) : Inv X pins σ (upd H d (.dK kvs)) s := by
  obtain ⟨_, z, y, vs, r, q⟩ := id (I.hok d _ hd)
  exact inv_swap I hd (fun _ q => by cases q) (fun _ q => by cases q) (fun _ q => by cases q) (fun u v q => absurd q (h0 u v)) ⟨z, y, vs, r, q⟩
end
theorem KV.at {κ : Type} : ∀ {kvs : List (κ × V)} {vs : List (κ × Value)} {i : Nat} {k : κ} {v : V}, KV kvs vs → kvs[i]? = some (k, v) → ∃ u, vs[i]? = some (k, u) ∧ RelV v u
  | _, _, _, _, _, .nil, e => by simp at e
  | _, _, 0, _, _, .cons (b := q) h r, e => by
    obtain ⟨k', u⟩ := q
    cases e
    obtain ⟨h1, h2⟩ := h
    cases h1
    exact ⟨u, rfl, h2⟩
  | _, _, i + 1, _, _, .cons h r, e => by
    obtain ⟨u, h1, h2⟩ := KV.at (i := i) r (by simpa using e)
    exact ⟨u, by simpa using h1, h2⟩
theorem KV.len {κ : Type} {kvs : List (κ × V)} {vs : List (κ × Value)} (h : KV kvs vs) : kvs.length = vs.length := Paired.length h
theorem rel_key {P : Program} {w : World} {k : Key} {key : Value} (h : (mixKind P w).is k key = true) : RelV (kV k) key := by
  rcases keyIs_shape h with ⟨i, t, rfl, rfl⟩ | ⟨x, t, rfl, rfl⟩
  · exact ⟨t, rfl⟩
  · exact ⟨t, rfl⟩
def ItK (d : Addr) (ob : Obj) (kvs : List (Key × V)) : It :=
  ⟨fun i H => H d = some (.frz ob (.dK kvs)) ∧ ∃ k v, kvs[i]? = some (k, v), fun i H x H' => H' = H ∧ ∃ k v, kvs[i]? = some (k, v) ∧ x = kV k, fun i H => H d = some (.frz ob (.dK kvs)) ∧ kvs.length ≤ i⟩
theorem turn_keys {P : Program} {w : World} {K : PySem.W.Frag} {tg : Expr} {d it : Addr} {ob : Obj} {kvs : List (Key × V)} {vs : List (Key × Value)} {ep : Nat} (hD : DObj P w ob vs ep) (hkv : KV kvs vs) :
    Turn P w K tg (ItK d ob kvs) [it] it (fun i h => h.IsKeyIter it d i vs.length ep) where
  mem := by simp
  obj := fun i h st b hb => by
    have e : b = it := by simpa using hb
    subst e
    obtain ⟨o, e, c, dd⟩ := st
    exact ⟨o, e, fun v z => by rw [dd] at z; cases z⟩
  keep := fun i h h' st k => st.at fun o e => k it (by simp) o e
  item := by
    intro X hP hw hK hc i pins s σ H E I hf st hg
    subst hP hw hK
    obtain ⟨hd, k, v, hx⟩ := hg
    obtain ⟨e, _⟩ := id (I.hok d _ hd)
    obtain ⟨u, hu, ru⟩ := KV.at hkv hx
    obtain ⟨f0, f1, f2, f3, f4, f5⟩ := hf it (by simp)
    refine wpAny_pyNext_dict_item st (hD.at e) hu fun key h' hkey st' sb => ?_
    have I1 : Inv X pins σ H { s with heap := h' } := I.turned (t' := s.toks) (fun b o hb e => (sb.2 b hb).trans e) f0 f1 f3 f4 f5
    exact ⟨key, rfl, letGo_keyiter (s' := { s with heap := h' }) st' ⟨kV k, H, I1, rel_key hkey, ⟨rfl, k, v, hx, rfl⟩, st', fun b hb => (hf b hb).1⟩⟩
  done := by
    intro X hP hw hK hc i pins s σ H E I hf st hg
    subst hP hw hK
    obtain ⟨hd, hl⟩ := hg
    obtain ⟨e, _⟩ := id (I.hok d _ hd)
    obtain ⟨f0, f1, f2, f3, f4, f5⟩ := hf it (by simp)
    have hlen := KV.len hkv
    exact wpAny_pyNext_dict_end (I.ok.hd hc) st (hD.at e) (by simp; omega) fun h' eb => ⟨rfl, I.turned (t' := s.toks) (fun b o hb e => eb b o hb e) f0 f1 f3 f4 f5⟩
  self := fun _ _ _ _ _ st h => wpAny_pyIter_keyiter st h
def iKeys (td : TE) : TI := fun σ H R => td σ H fun x H1 => ∃ d kvs, x = .ref d ∧ H1 d = some (.dK kvs) ∧ ∀ ob, R (ItK d ob kvs) (upd H1 d (.frz ob (.dK kvs)))

theorem pi_keys {X : Cx} {tg e : Expr} {td : TE} (he : PE X e td) : PI X tg e (iKeys td) := by
  intro pins s σ H R I h
  refine thn (he pins s σ H _ I h) fun v s1 ⟨x, H1, I1, r1, q1⟩ => ?_
  obtain ⟨d, kvs, rfl, hd, q⟩ := q1
  cases r1
  obtain ⟨ob, vs, ep, eo, hsm, hkv, hD, I2⟩ := inv_freeze I1 hd
  refine wpAny_pyIter_dict hsm (hD.at eo) ?_
  refine ⟨s1.heap.objs.size, [s1.heap.objs.size], _, _, _, rfl, I2.kept (t' := s1.toks) fun b o e => Heap.get?_push_of_some _ e, turn_keys hD hkv, ⟨_, Heap.get?_push_size _ rfl, rfl, rfl⟩, fun b hb => ?_, q ob⟩
  have e : b = s1.heap.objs.size := by simpa using hb
  subst e
  exact I2.fpOk (Nat.le_refl _) (I2.hok.fresh (Nat.le_refl _))
end L3
namespace L3
open PySem PySem.Spec PyProof.Rows L2 PySem.SeqAt

def Th (H0 : Hp) (q : Hp → Prop) (H' : Hp) : Prop := q H' ∨ ∃ d ob kvs, H' d = some (.frz ob (.dK kvs)) ∧ (∀ u v, H0 d ≠ some (.frz u v)) ∧ q (upd H' d (.dK kvs))
def tThaw (H0 : Hp) (t : TS) : TS := fun D σ H => t { nx := fun σ' H' => Th H0 (D.nx σ') H', rt := fun v H' => Th H0 (D.rt v) H', bk := fun σ' H' => Th H0 (D.bk σ') H', ct := fun σ' H' => Th H0 (D.ct σ') H' } σ H
theorem ps_thaw {X : Cx} {st : Stmt} {t : TS} (h : PS X st t) : PS X st (tThaw X.H₀ t) := by
  intro pins s σ H D I hh
  refine wpAny_mono (h pins s σ H _ I hh) (fun f s1 q => ?_) fun _ _ z => z
  cases f with
  | next =>
    obtain ⟨σ', H', I', q⟩ := q
    rcases q with q | ⟨d, ob, kvs, e, h0, q⟩
    · exact ⟨σ', H', I', q⟩
    · exact ⟨σ', _, inv_thaw I' e h0, q⟩
  | brk =>
    obtain ⟨σ', H', I', q⟩ := q
    rcases q with q | ⟨d, ob, kvs, e, h0, q⟩
    · exact ⟨σ', H', I', q⟩
    · exact ⟨σ', _, inv_thaw I' e h0, q⟩
  | cont =>
    obtain ⟨σ', H', I', q⟩ := q
    rcases q with q | ⟨d, ob, kvs, e, h0, q⟩
    · exact ⟨σ', H', I', q⟩
    · exact ⟨σ', _, inv_thaw I' e h0, q⟩
  | ret u =>
    obtain ⟨v, σ', H', I', r, q⟩ := q
    rcases q with q | ⟨d, ob, kvs, e, h0, q⟩
    · exact ⟨v, σ', H', I', r, q⟩
    · exact ⟨v, σ', _, inv_thaw I' e h0, r, q⟩
theorem r_thaw {H0 : Hp} {t : TS} {D : Ends} {σ : L2.St} {H : Hp} (h : t { nx := fun σ' H' => Th H0 (D.nx σ') H', rt := fun v H' => Th H0 (D.rt v) H', bk := fun σ' H' => Th H0 (D.bk σ') H', ct := fun σ' H' => Th H0 (D.ct σ') H' } σ H) : tThaw H0 t D σ H := h
theorem r_keys {td : TE} {σ : L2.St} {H : Hp} {R : It → Hp → Prop} (q : td σ H fun x H1 => ∃ d kvs, x = .ref d ∧ H1 d = some (.dK kvs) ∧ ∀ ob, R (ItK d ob kvs) (upd H1 d (.frz ob (.dK kvs)))) : iKeys td σ H R := q
theorem for_keys {d : Addr} {ob : Obj} {kvs : List (Key × V)} {g : TG} {tb : TS} {D : Ends} {σ : L2.St} {H : Hp} (Pv : Nat → L2.St → Hp → Prop) (h0 : Pv 0 σ H) (hl : ∀ i σ H, i ≤ kvs.length → Pv i σ H → H d = some (.frz ob (.dK kvs)))
    (hs : ∀ i k v σ H, kvs[i]? = some (k, v) → Pv i σ H → g (kV k) σ H fun σ2 H2 => tb { D with nx := Pv (i + 1), ct := Pv (i + 1), bk := D.nx } σ2 H2) (hd : ∀ σ H, Pv kvs.length σ H → D.nx σ H) : ForW (ItK d ob kvs) g tb D σ H := by
  refine ⟨fun i m σ H => m = kvs.length - i ∧ i ≤ kvs.length ∧ Pv i σ H, ⟨kvs.length, by simp, Nat.zero_le _, h0⟩, ?_⟩
  rintro i m σ H ⟨rfl, hi, p⟩
  have q1 := hl i σ H hi p
  by_cases hlt : i < kvs.length
  · refine .inr ⟨⟨q1, kvs[i].1, kvs[i].2, by simp [hlt]⟩, Pv (i + 1), fun σ' H' p' => ⟨kvs.length - (i + 1), by omega, rfl, hlt, p'⟩, fun x H' y => ?_⟩
    obtain ⟨rfl, k, v, hk, rfl⟩ := y
    exact hs i k v σ H' hk p
  · have e : i = kvs.length := by omega
    subst e
    exact .inl ⟨⟨q1, Nat.le_refl _⟩, hd σ H p⟩
end L3
namespace L3
open PySem PySem.Spec PyProof.Rows L2 PySem.SeqAt

def ItD (d : Addr) (ob : Obj) (kvs : List (Key × V)) : It :=
  ⟨fun i H => H d = some (.frz ob (.dK kvs)) ∧ ∃ k v, kvs[i]? = some (k, v), fun i H x H' => ∃ T k v, x = .ref T ∧ H T = none ∧ H' = upd H T (.tup [kV k, v]) ∧ kvs[i]? = some (k, v), fun i H => H d = some (.frz ob (.dK kvs)) ∧ kvs.length ≤ i⟩
theorem turn_items {P : Program} {w : World} {K : PySem.W.Frag} {es : List Expr} {n : Nat} {pos : Pos} {d it : Addr} {ob : Obj} {kvs : List (Key × V)} {vs : List (Key × Value)} {ep : Nat} (hD : DObj P w ob vs ep) (hkv : KV kvs vs) :
    Turn P w K (.Tuple es n pos) (ItD d ob kvs) [it] it (fun i h => ∃ ok ov, IsItemIter h it d i vs.length ep ok ov) where
  mem := by simp
  obj := fun i h st b hb => by
    have e : b = it := by simpa using hb
    subst e
    obtain ⟨ok, ov, e⟩ := st
    exact ⟨_, e, fun v z => by cases z⟩
  keep := fun i h h' st k => by
    obtain ⟨ok, ov, e⟩ := st
    exact ⟨ok, ov, k it (by simp) _ e⟩
  item := by
    intro X hP hw hK hc i pins s σ H E I hf st hg
    subst hP hw hK
    obtain ⟨ok, ov, st⟩ := st
    obtain ⟨hd, k, v, hx⟩ := hg
    obtain ⟨e, _⟩ := id (I.hok d _ hd)
    obtain ⟨u, hu, ru⟩ := KV.at hkv hx
    refine wpAny_pyNext_items_item st (hD.at e) hu fun key h' hkey ho ht hz kk => ?_
    refine ⟨_, rfl, wpAny_letOwnedTupleGo_items ho fun h2' he2 s2 => ?_⟩
    have T0 : H s.heap.objs.size = none := I.hok.fresh (Nat.le_refl _)
    have te : s.heap.objs.size ≠ it := Nat.ne_of_gt (Heap.lt_size st)
    have J : Inv X pins σ (upd H s.heap.objs.size (.tup [kV k, v])) { s with heap := h2' } := by
      refine inv_turns (ch := [it]) I hf (Nat.le_refl _) (fun c o hc z => ?_) (fun c hc => ?_) ?_
      · have c1 : c ≠ it := fun q => hc (by simp [q])
        exact s2.extBut _ _ c1 (kk c o c1 z)
      · have hc : c = it := by simpa using hc
        subst hc
        exact ⟨_, he2⟩
      · exact ⟨by show 2 ≤ sizeLine; decide, [key, u], .cons (rel_key hkey) (.cons ru .nil), ⟨_, s2.extBut _ _ te ht, rfl, _, rfl⟩⟩
    refine ⟨.ref s.heap.objs.size, _, J, rfl, ⟨_, k, v, rfl, T0, rfl, hx⟩, ⟨_, _, he2⟩, fun c hc => ?_⟩
    have hc' : c = it := by simpa using hc
    have hlt : c < s.heap.objs.size := by rw [hc']; exact Heap.lt_size st
    rw [upd_ne (Nat.ne_of_lt hlt)]; exact (hf c hc).1
  done := by
    intro X hP hw hK hc i pins s σ H E I hf st hg
    subst hP hw hK
    obtain ⟨ok, ov, st⟩ := st
    obtain ⟨hd, hl⟩ := hg
    obtain ⟨e, _⟩ := id (I.hok d _ hd)
    obtain ⟨f0, f1, f2, f3, f4, f5⟩ := hf it (by simp)
    have hlen := KV.len hkv
    exact wpAny_pyNext_items_end (I.ok.hd hc) st (hD.at e) (by simp; omega) fun h' eb => ⟨rfl, I.turned (t' := s.toks) (fun b o hb e => eb b o hb e) f0 f1 f3 f4 f5⟩
  self := fun A i s Q E st h => by
    obtain ⟨ok, ov, st⟩ := st
    exact PySem.W.kcp_self st h
def iItems (td : TE) : TI := fun σ H R => td σ H fun x H1 => ∃ d kvs, x = .ref d ∧ H1 d = some (.dK kvs) ∧ ∀ ob, R (ItD d ob kvs) (upd H1 d (.frz ob (.dK kvs)))
theorem pi_items {X : Cx} {es : List Expr} {n : Nat} {tpos : Pos} {o : Expr} {td : TE} {apos cpos : Pos} (ho : PE X o td) (hbase : attributeBase o "items" X.env (eval o X.env) = eval o X.env := by rfl) (hline : (apos.endLine == cpos.line) = true := by rfl) :
    PI X (.Tuple es n tpos) (.Call (.Attribute o "items" apos) [] [] cpos) (iItems td) := by
  intro pins s σ H R I h
  refine wpAny_Call_method0_late hbase hline (thn (ho pins s σ H _ I h) fun v s1 ⟨x, H1, I1, r1, q1⟩ => ?_)
  obtain ⟨d, kvs, ex, hd, q⟩ := q1
  subst ex
  obtain ⟨h1, h2⟩ := tyV_is (T := "dict") I1 r1 (.inr (.inr (.inl ⟨rfl, .inl ⟨kvs, hd⟩⟩)))
  cases r1
  obtain ⟨ob, vs, ep, eo, hsm, hkv, hD, I2⟩ := inv_freeze I1 hd
  refine ⟨"dict", "dict.items", PySem.F.plainAttrs_dict, PySem.F.slot_dict_items, PySem.F.type_dict_items, h1, h2, Calls.callWith_builtin rfl (PySem.evalArgs_none ?_)⟩
  refine call_meetsIn PySem.F.slot_dict_items h1 PySem.F.entry_dict_items (PySem.F.args_dict_items_1 _) (meets_dict_items (mixKind X.prog X.w) d hsm) ⟨⟨vs, (hD.at eo).dictOf⟩, ?_⟩
  refine wpAny_pyIter_items (kvs := vs) (ep := ep) ⟨_, Heap.get?_push_size _ rfl, rfl, rfl⟩ (Heap.DictAt.push (hD.at eo) _) ?_
  have hz : (s1.heap.push { cls := .type "dict_items", data := .fields #[.ref d] }).objs.size = s1.heap.objs.size + 1 := Heap.size_push ..
  refine ⟨_, [(s1.heap.push { cls := .type "dict_items", data := .fields #[.ref d] }).objs.size], _, _, _, rfl, I2.kept (t' := s1.toks) fun b o e => Heap.get?_push_of_some _ (Heap.get?_push_of_some _ e), turn_items hD hkv, ⟨_, _, Heap.get?_push_size _ rfl⟩, fun b hb => ?_, q ob⟩
  have e : b = (s1.heap.push { cls := .type "dict_items", data := .fields #[.ref d] }).objs.size := by simpa using hb
  have hge : s1.heap.objs.size ≤ b := by rw [e, hz]; exact Nat.le_succ _
  exact I2.fpOk hge (I2.hok.fresh hge)
theorem r_items {td : TE} {σ : L2.St} {H : Hp} {R : It → Hp → Prop} (q : td σ H fun x H1 => ∃ d kvs, x = .ref d ∧ H1 d = some (.dK kvs) ∧ ∀ ob, R (ItD d ob kvs) (upd H1 d (.frz ob (.dK kvs)))) : iItems td σ H R := q
theorem for_items {d : Addr} {ob : Obj} {kvs : List (Key × V)} {g : TG} {tb : TS} {D : Ends} {σ : L2.St} {H : Hp} (Pv : Nat → L2.St → Hp → Prop) (h0 : Pv 0 σ H) (hl : ∀ i σ H, i ≤ kvs.length → Pv i σ H → H d = some (.frz ob (.dK kvs)))
    (hs : ∀ i k v T σ H, kvs[i]? = some (k, v) → Pv i σ H → H T = none → g (.ref T) σ (upd H T (.tup [kV k, v])) fun σ2 H2 => tb { D with nx := Pv (i + 1), ct := Pv (i + 1), bk := D.nx } σ2 H2) (hd : ∀ σ H, Pv kvs.length σ H → D.nx σ H) : ForW (ItD d ob kvs) g tb D σ H := by
  refine ⟨fun i m σ H => m = kvs.length - i ∧ i ≤ kvs.length ∧ Pv i σ H, ⟨kvs.length, by simp, Nat.zero_le _, h0⟩, ?_⟩
  rintro i m σ H ⟨rfl, hi, p⟩
  have q1 := hl i σ H hi p
  by_cases hlt : i < kvs.length
  · refine .inr ⟨⟨q1, kvs[i].1, kvs[i].2, by simp [hlt]⟩, Pv (i + 1), fun σ' H' p' => ⟨kvs.length - (i + 1), by omega, rfl, hlt, p'⟩, fun x H' y => ?_⟩
    obtain ⟨T, k, v, rfl, hT, rfl, hk⟩ := y
    exact hs i k v T σ H hk p hT
  · have e : i = kvs.length := by omega
    subst e
    exact .inl ⟨⟨q1, Nat.le_refl _⟩, hd σ H p⟩
end L3

namespace FB
open PySem PySem.Spec PyProof.Rows L2 L3 PySem.SeqAt
local macro_rules | `(tactic| walk_at "clok") => `(tactic| repeat (first | exact True.intro | refine ⟨rfl, ?_⟩))
local macro_rules | `(tactic| walk_at "frok") => `(tactic| repeat (first | exact True.intro | refine ⟨⟨rfl, (by first | exact Or.inl rfl | exact Or.inr rfl), (by first | exact Or.inl rfl | exact Or.inr rfl), rfl⟩, ?_⟩))
local macro_rules | `(tactic| walk_at "hlk") => `(tactic| first | (with_reducible assumption) | (exact upd_same) | ((with_reducible refine' look_new ?x ?y); (case y => with_reducible assumption); (case x => walk_at "hlk")) | ((fail_if_success (((with_reducible refine' look_new ?x ?y); (case y => with_reducible assumption)))); (with_reducible refine' look_ne ?x ?y); (case x => walk_at "ne"); (case y => walk_at "hlk")) | ((with_reducible refine' same_at ?x ?y); (case x => with_reducible assumption); (case y => walk_at "hlk")))
local macro_rules | `(tactic| walk_at "ne") => `(tactic| first | (with_reducible assumption) | (apply Ne.symm; (with_reducible assumption)) | ((with_reducible refine' ne_of_none ?x ?y); (case y => with_reducible assumption); (case x => walk_at "hlk")) | (apply Ne.symm; (with_reducible refine' ne_of_none ?x ?y); (case y => with_reducible assumption); (case x => walk_at "hlk")))
local macro_rules | `(tactic| walk_at "sql") => `(tactic| first | (with_reducible assumption) | (refine' SqL.of ?x; (case x => first | (with_reducible assumption) | (exact upd_same))) | ((with_reducible refine' sql_new ?x ?y); (case y => with_reducible assumption); (case x => walk_at "sql")) | ((fail_if_success (((with_reducible refine' sql_new ?x ?y); (case y => with_reducible assumption)))); first | ((with_reducible refine' sql_upd ?s ?h ?q); (case h => with_reducible assumption); (case s => walk_at "same"); (case q => walk_at "sql")) | (refine' SqL.of ?x; (case x => (with_reducible refine' look_ne ?x2 ?y2); (case x2 => walk_at "ne"); (case y2 => walk_at "hlk")))) | ((with_reducible refine' Same.seq ?x ?y); (case x => with_reducible assumption); (case y => walk_at "sql")))
local macro_rules | `(tactic| walk_at "sqt") => `(tactic| first | (with_reducible assumption) | (refine' SqT.of ?x; (case x => first | (with_reducible assumption) | (exact upd_same))) | ((with_reducible refine' sqt_new ?x ?y); (case y => with_reducible assumption); (case x => walk_at "sqt")) | ((fail_if_success (((with_reducible refine' sqt_new ?x ?y); (case y => with_reducible assumption)))); first | ((with_reducible refine' sqt_upd ?s ?h ?q); (case h => with_reducible assumption); (case s => walk_at "same"); (case q => walk_at "sqt")) | (refine' SqT.of ?x; (case x => (with_reducible refine' look_ne ?x2 ?y2); (case x2 => walk_at "ne"); (case y2 => walk_at "hlk")))) | ((with_reducible refine' SqT_same ?x ?y); (case x => with_reducible assumption); (case y => walk_at "sqt")))
local macro_rules | `(tactic| walk_at "lk") => `(tactic| first | (with_reducible exact look_hit) | (refine' look_of ?x ?y; (case x => decide +kernel); (case y => walk_at "lk")) | exact look_hit)
local macro_rules | `(tactic| walk_at "nolk") => `(tactic| first | (with_reducible rfl) | (refine' look_no ?x ?y; (case x => decide +kernel); (case y => walk_at "nolk")) | rfl)
local macro_rules | `(tactic| walk_at "fewf") => `(tactic| first | exact Nat.lt_of_le_of_lt (Nat.le_refl 0) (by decide) | exact Nat.lt_of_le_of_lt (len_of (Nat.le_refl 0)) (by decide) | exact Nat.lt_of_le_of_lt (len_of (len_of (Nat.le_refl 0))) (by decide) | exact Nat.lt_of_le_of_lt (len_of (len_of (len_of (Nat.le_refl 0)))) (by decide))
local macro_rules | `(tactic| walk_at "small") => `(tactic| first | exact Nat.le_of_ble_eq_true rfl | (show _ ≤ sizeLine; rw [sizeLine_eq]; first | omega | (simp only [List.length_map, List.length_cons, List.length_nil, List.length_append, List.length_replicate, List.length_set, List.length_range]; omega)))
local macro_rules | `(tactic| walk_at "r1") => `(tactic| with_reducible first
  | refine r_var (by with_unfolding_all rfl) ?_
  | refine r_c ?_ | refine r_op ?_ | refine r_I0 ?_ | refine r_plusI ?_ | refine r_seq ?_ | refine r_asg ?_ | (refine' r_gN ?x ?_; (case x => simp only [List.set_cons_succ, List.set_cons_zero]; rfl)) | refine r_ret ?_ | refine r_ifS ?_ | refine r_test ?_
  | refine r_cons ?_ | refine r_nil ?_ | refine r_cb ?_ | refine r_callE ?_ | refine r_makeE ?_ | refine r_methE ?_ | refine r_fld ?_ | refine r_tru ?_ | refine r_truB ?_ | refine r_truI ?_
  | refine r_not ?_ | refine r_and ?_ | refine r_or ?_ | refine r_next ?_ | refine r_drop ?_ | refine r_sFld ?_ | refine r_retN ?_ | refine r_un ?_ | refine r_U ?_ | refine r_if ?_
  | refine r_andV ?_ | refine r_orV ?_ | refine r_notV ?_ | refine r_sl ?_ | refine r_part ?_ | refine r_noPart ?_ | refine r_bm ?_ | refine r_bm0 ?_ | refine r_tup ?_ | refine r_lst ?_ | refine r_two ?_
  | (refine' r_compE' ?x ?_; (case x => with_unfolding_all rfl)) | (refine' r_compS' ?x ?_; (case x => with_unfolding_all rfl)) | refine r_for ?_ | refine r_iSeq ?_ | refine r_rng1 ?_ | refine r_rng2 ?_ | refine r_true ?_
  | refine r_isNr ?_ | refine r_isNn ?_ | refine r_isNi ?_ | refine r_notNr ?_ | refine r_notNn ?_ | refine r_notNi ?_
  | refine iteT ?_ | refine iteF ?_ | refine iteNT ?_ | refine iteNF ?_
  | refine ⟨_, rfl, ?_⟩)
local macro_rules | `(tactic| walk_at "r2") => `(tactic| first
  | ((with_reducible refine' r_fldV ?h ?c ?n ?l ?_); (case h => walk_at "hlk"); (case c => walk_at "cls"); (case n => walk_at "noat"); (case l => walk_at "lk"))
  | ((with_reducible refine' r_sFldV ?h ?c ?n ?l ?_); (case h => walk_at "hlk"); (case c => walk_at "cls"); (case n => walk_at "noat"); (case l => walk_at "fewf"))
  | ((with_reducible refine' r_lenI ?h ?_); (case h => walk_at "sql"))
  | ((with_reducible refine' r_lenL ?h ?_); (case h => walk_at "sql"))
  | ((with_reducible refine' r_lenT ?h ?_); (case h => walk_at "sqt"))
  | ((with_reducible refine' r_listL ?h ?_); (case h => walk_at "sql"))
  | ((with_reducible refine' r_listT ?h ?_); (case h => walk_at "sqt"))
  | ((with_reducible refine' r_eqS ?h ?_); (case h => rfl))
  | ((with_reducible refine' r_neS ?h ?_); (case h => rfl)))
local macro_rules | `(tactic| walk_at "none") => `(tactic| first | (with_reducible assumption) | ((with_reducible refine' none_same ?x ?y); (case y => with_reducible assumption); (case x => walk_at "same")))
local macro_rules | `(tactic| walk_at "same") => `(tactic| first | (with_reducible assumption) | (with_reducible exact Same.refl _) | ((with_reducible refine' same_none ?x ?y); (case y => with_reducible assumption); (case x => walk_at "same")) | ((fail_if_success (((with_reducible refine' same_none ?x ?y); (case y => with_reducible assumption)))); (with_reducible refine' same_upd ?x ?y); (case y => walk_at "none"); (case x => walk_at "same")) | ((with_reducible refine' Same.trans ?x ?y); (case y => with_reducible assumption); (case x => walk_at "same")))
local macro_rules | `(tactic| walk_at "tt") => `(tactic| first | assumption | omega | with_unfolding_all rfl | decide | (simp only [List.length_map, List.length_cons, List.length_nil, List.length_append, List.length_replicate, List.length_set, sI_len]; omega))
local macro_rules | `(tactic| walk_at "nn") => `(tactic| first | assumption | omega | decide | (simp only [List.length_map, List.length_cons, List.length_nil, List.length_append, List.length_replicate, List.length_set, sI_len]; omega))
local macro_rules | `(tactic| walk_at "cond") => `(tactic| first
  | ((with_reducible refine' r_I ?h ?_); (case h => first | exact ⟨by decide, by decide⟩ | (show (0 : Int) < _; first | decide | omega) | (show (0 : Int) ≤ _; first | decide | omega)))
  | ((with_reducible refine' r_ifB ?x ?_); (case x => intro hh; exact absurd hh (by decide)); intro _)
  | ((with_reducible refine' r_ifB ?_ ?x); (case x => intro hh; exact absurd hh (by decide)); intro _)
  | ((with_reducible refine' ifInt ?x ?_); (case x => intro hh; exact absurd hh (by walk_at "nn")); intro _)
  | ((with_reducible refine' ifInt ?_ ?x); (case x => intro hh; exact absurd (by walk_at "tt") hh); intro _)
  | ((with_reducible refine' ifIntN ?x ?_); (case x => intro hh; exact absurd (by walk_at "tt") hh); intro _)
  | ((with_reducible refine' ifIntN ?_ ?x); (case x => intro hh; exact absurd hh (by walk_at "nn")); intro _)
  | ((with_reducible refine' ifDec ?x ?_); (case x => intro hh; exact absurd hh (by walk_at "nn")); intro _)
  | ((with_reducible refine' ifDec ?_ ?x); (case x => intro hh; exact absurd (by walk_at "tt") hh); intro _)
  | ((with_reducible refine' ifDecN ?x ?_); (case x => intro hh; exact absurd (by walk_at "tt") hh); intro _)
  | ((with_reducible refine' ifDecN ?_ ?x); (case x => intro hh; exact absurd hh (by walk_at "nn")); intro _))
local macro_rules | `(tactic| walk_at "at") => `(tactic| first | assumption | ((with_reducible refine' gI_at ?x ?y); (case x => walk_at "tt"); (case y => walk_at "tt")) | ((with_reducible refine' gI_neg ?x ?y); (case x => walk_at "tt"); (case y => walk_at "tt")) | rfl)
local macro_rules | `(tactic| walk_at "calls") => `(tactic| first
  | ((with_reducible refine' r_bounded ?a ?b ?_); (case a => omega); (case b => omega))
  | ((with_reducible refine' r_withBox ?h ?a ?b ?_); (case h => walk_at "sql"); (case a => omega); (case b => omega))
  | ((with_reducible refine' r_cellAt ?h ?a ?_); (case h => walk_at "sql"); (case a => omega))
  | (with_reducible refine r_whole ?_) | (with_reducible refine r_without ?_) | (with_reducible refine r_filled ?_)
  | ((with_reducible refine' r_boxPl ?a ?b ?_); (case a => omega); (case b => omega))
  | ((with_reducible refine' r_cellPl ?a ?b ?c ?_); (case a => omega); (case b => omega); (case c => omega))
  | ((with_reducible refine' r_setI ?x ?y ?z ?_); (case x => walk_at "hlk"); (case y => walk_at "tt"); (case z => walk_at "tt"))
  | ((with_reducible refine' r_setIN ?x ?y ?z ?_); (case x => walk_at "hlk"); (case y => walk_at "tt"); (case z => walk_at "tt"))
  | ((with_reducible refine' r_ixT ?h ?e ?_); (case h => walk_at "sqt"); (case e => walk_at "at"))
  | ((with_reducible refine' r_ixL ?h ?e ?_); (case h => walk_at "sql"); (case e => walk_at "at"))
  | (with_reducible refine r_gSub ?_))
local macro_rules | `(tactic| walk_at "ty") => `(tactic| first | (with_reducible exact TyOf.int _) | (with_reducible exact TyOf.bl _) | (with_reducible exact TyOf.str _) | (with_reducible exact TyOf.non) | (refine' TyOf.lst ?x; (case x => walk_at "hlk")) | (refine' TyOf.tup ?x; (case x => walk_at "hlk")))
local macro_rules | `(tactic| walk_at "dp") => `(tactic| first | (with_reducible exact dp_int _) | (with_reducible exact dp_str _) | (with_reducible exact dp_bool _) | (with_reducible exact dp_none) | ((with_reducible refine' dp_ints ?x); (case x => walk_at "sql")) | ((with_reducible refine' dp_lst ?x ?y); (case x => walk_at "sql"); (case y => walk_at "dps")) | ((with_reducible refine' dp_tup ?x ?y); (case x => walk_at "sqt"); (case y => walk_at "dps")))
local macro_rules | `(tactic| walk_at "dps") => `(tactic| first | (with_reducible exact dpAll_nil) | ((with_reducible refine' dpAll_cons ?x ?y); (case x => walk_at "dp"); (case y => walk_at "dps")))
local macro_rules | `(tactic| walk_at "shaped") => `(tactic| first | exact shaped_ints _ | (unfold shaped; simp [PyData.canLay0, PyData.canLayAll0, canLay_ints, PyData.depth, PyData.depthAll, depth_ints]))
local macro_rules | `(tactic| walk_at "eqd") => `(tactic| first
  | ((with_reducible refine' r_eqT ?d ?x ?y ?s ?_); (case x => walk_at "dp"); (case y => walk_at "dp"); (case s => walk_at "shaped"))
  | ((with_reducible refine' r_neT ?d ?x ?y ?s ?_); (case x => walk_at "dp"); (case y => walk_at "dp"); (case s => walk_at "shaped")))
local macro_rules | `(tactic| walk_at "r3") => `(tactic| first
  | (with_reducible refine r_alloc (fun _ _ => ?_))
  | ((with_reducible refine' r_small ?x ?_); (case x => walk_at "small"))
  | ((with_reducible refine' r_62 ?x ?y ?_); (case x => walk_at "tt"); (case y => walk_at "tt"))
  | ((with_reducible refine' r_62b ?x ?y ?z ?u ?_); (case x => walk_at "tt"); (case y => walk_at "tt"); (case z => walk_at "tt"); (case u => walk_at "tt"))
  | ((with_reducible refine' r_itL ?x ?_); (case x => walk_at "sql"))
  | ((with_reducible refine' r_itT ?x ?_); (case x => walk_at "sqt"))
  | ((with_reducible refine' r_slI ?x ?_); (case x => walk_at "sql"))
  | ((with_reducible refine' r_slL ?x ?_); (case x => walk_at "sql"))
  | ((with_reducible refine' r_timesZ ?x ?y ?z ?_); (case x => walk_at "hlk"); (case y => walk_at "tt"); (case z => walk_at "tt"))
  | ((with_reducible refine' r_plusII ?x ?y ?z ?_); (case x => walk_at "hlk"); (case y => walk_at "hlk"); (case z => walk_at "small"))
  | ((with_reducible refine' r_tyL ?x ?_); (case x => walk_at "hlk"))
  | ((with_reducible refine' r_timesI ?h ?_); (case h => walk_at "cmul"))
  | ((with_reducible refine' r_sum ?h ?_); (case h => walk_at "sql"))
  | ((with_reducible refine' r_inT ?h ?x ?y ?_); (case h => walk_at "sqt"); (case x => rfl); (case y => rfl))
  | ((with_reducible refine' r_clear ?x ?_); (case x => walk_at "hlk"))
  | ((with_reducible refine' r_append ?x ?y ?_); (case x => walk_at "hlk"); (case y => walk_at "small"))
  | ((with_reducible refine' r_isi ?c ?t ?e ?_); (case c => exact fun z => nomatch z); (case t => walk_at "ty"); (case e => walk_at "kit")))
local macro_rules | `(tactic| walk_at "rd") => `(tactic| repeat (first | walk_at "r1" | walk_at "r3" | walk_at "r2" | walk_at "cond" | walk_at "calls" | walk_at "mine"))
local macro_rules | `(tactic| walk_at "rds") => `(tactic| repeat' (first | walk_at "r1" | walk_at "r3" | walk_at "r2" | walk_at "cond" | walk_at "calls" | walk_at "mine" | walk_at "cs"))
local macro_rules | `(tactic| walk_at "sp") => `(tactic| (repeat' split) <;> first | assumption | rfl | (exfalso; omega))
local macro_rules | `(tactic| walk_at "rok") => `(tactic| first | assumption | exact ⟨by omega, by omega⟩)
local macro_rules | `(tactic| walk_at "cmul") => `(tactic| first | exact Or.inl ⟨by decide, by decide⟩ | exact Or.inr ⟨by decide, by decide⟩ | exact Or.inl ⟨by omega, by omega⟩ | exact Or.inr ⟨by omega, by omega⟩)

set_option hygiene false
local macro_rules | `(tactic| walk_at "cs") => `(tactic| with_reducible first | refine ifInt (fun hh => ?_) (fun hh => ?_) | refine ifIntN (fun hh => ?_) (fun hh => ?_) | refine ifDec (fun hh => ?_) (fun hh => ?_) | refine ifDecN (fun hh => ?_) (fun hh => ?_) | (refine' r_ixDi ?h (fun hh => ?_) (fun hh => ?_); (case h => walk_at "sql")) | (refine' r_ixD ?h (fun hh => ?_) (fun hh => ?_); (case h => walk_at "sql")))
local macro_rules | `(tactic| walk_at "tf") => `(tactic| (show Q _ _; refine' q _ _ _ _ ?zs ?znt ?znb ?znp ?ze1 ?ze2 ?ze3 ?zt ?zb ?zp; (case zt => walk_at "hlk"); (case zb => walk_at "hlk"); (case zp => walk_at "hlk"); (case zs => walk_at "same"); (case znt => walk_at "none"); (case znb => walk_at "none"); (case znp => walk_at "none"); (case ze1 => walk_at "ne"); (case ze2 => walk_at "ne"); (case ze3 => walk_at "ne")))

local macro_rules | `(tactic| walk_at "cls") => `(tactic| first | assumption | exact T.cl_Table | exact T.cl_Jump | exact T.cl_Branch | exact T.cl_Call | exact T.cl_Set | exact T.cl_Copy | exact T.cl_Add | exact T.cl_Grow | exact T.cl_Shrink | exact T.cl_Put | exact T.cl_Get | exact T.cl_Back | exact T.cl_Drop)
local macro_rules | `(tactic| walk_at "noat") => `(tactic| first | assumption | exact T.n_Table_entries | exact T.n_Table_landings | exact T.n_Jump_target | exact T.n_Branch_box | exact T.n_Branch_target | exact T.n_Call_target | exact T.n_Set_box | exact T.n_Set_number | exact T.n_Copy_box | exact T.n_Copy_one | exact T.n_Add_box | exact T.n_Add_one | exact T.n_Add_other | exact T.n_Grow_many | exact T.n_Shrink_many | exact T.n_Put_box | exact T.n_Put_cell | exact T.n_Get_box | exact T.n_Get_cell | exact T.n_Back_box | exact T.n_Drop_box)
local macro_rules | `(tactic| walk_at "kit") => `(tactic| first | assumption | exact T.k_list_list | exact T.k_tuple_tuple | exact T.is_Table_Table)
set_option hygiene true
def top (i : Nat) : Stmt := PySem.Challenge.pw_frameback_k45_code_laid_and_joined.main.body.getD i (.Pass ⟨0, 0, 0, 0⟩)
abbrev s_bounded : Stmt := top 11
theorem sc_bounded : FnScope ["number", "top"] ["number", "top"] (defScope s_bounded) := ⟨rfl, rfl, rfl, by decide +kernel, rfl, by decide +kernel, by decide +kernel⟩
abbrev s_Table_init : Stmt := inClass (top 13) 0
theorem sc_Table_init : FnScope ["self", "entries", "landings"] ["self", "entries", "landings"] (defScope s_Table_init) := ⟨rfl, rfl, rfl, by decide +kernel, rfl, by decide +kernel, by decide +kernel⟩
abbrev s_laid : Stmt := top 15
theorem sc_laid : FnScope ["code", "by"] ["code", "by"] (defScope s_laid) := ⟨rfl, rfl, rfl, by decide +kernel, rfl, by decide +kernel, by decide +kernel⟩
abbrev s_joined : Stmt := top 16
theorem sc_joined : FnScope ["parts", "code", "entries", "landings", "rows", "table", "ahead", "call", "landing"] ["parts"] (defScope s_joined) := ⟨rfl, rfl, rfl, by decide +kernel, rfl, by decide +kernel, by decide +kernel⟩
abbrev s_Row_laid : Stmt := inClass (top 18) 3
theorem sc_Row_laid : FnScope ["self", "by"] ["self", "by"] (defScope s_Row_laid) := ⟨rfl, rfl, rfl, by decide +kernel, rfl, by decide +kernel, by decide +kernel⟩
abbrev s_Set_init : Stmt := inClass (top 19) 0
theorem sc_Set_init : FnScope ["self", "box", "number"] ["self", "box", "number"] (defScope s_Set_init) := ⟨rfl, rfl, rfl, by decide +kernel, rfl, by decide +kernel, by decide +kernel⟩
abbrev s_Set_told : Stmt := inClass (top 19) 3
theorem sc_Set_told : FnScope ["self"] ["self"] (defScope s_Set_told) := ⟨rfl, rfl, rfl, by decide +kernel, rfl, by decide +kernel, by decide +kernel⟩
abbrev s_Copy_init : Stmt := inClass (top 20) 0
theorem sc_Copy_init : FnScope ["self", "box", "one"] ["self", "box", "one"] (defScope s_Copy_init) := ⟨rfl, rfl, rfl, by decide +kernel, rfl, by decide +kernel, by decide +kernel⟩
abbrev s_Copy_told : Stmt := inClass (top 20) 3
theorem sc_Copy_told : FnScope ["self"] ["self"] (defScope s_Copy_told) := ⟨rfl, rfl, rfl, by decide +kernel, rfl, by decide +kernel, by decide +kernel⟩
abbrev s_Reckoning_init : Stmt := inClass (top 21) 0
theorem sc_Reckoning_init : FnScope ["self", "box", "one", "other"] ["self", "box", "one", "other"] (defScope s_Reckoning_init) := ⟨rfl, rfl, rfl, by decide +kernel, rfl, by decide +kernel, by decide +kernel⟩
abbrev s_Add_told : Stmt := inClass (top 22) 1
theorem sc_Add_told : FnScope ["self"] ["self"] (defScope s_Add_told) := ⟨rfl, rfl, rfl, by decide +kernel, rfl, by decide +kernel, by decide +kernel⟩
abbrev s_Grow_init : Stmt := inClass (top 23) 0
theorem sc_Grow_init : FnScope ["self", "many"] ["self", "many"] (defScope s_Grow_init) := ⟨rfl, rfl, rfl, by decide +kernel, rfl, by decide +kernel, by decide +kernel⟩
abbrev s_Grow_told : Stmt := inClass (top 23) 3
theorem sc_Grow_told : FnScope ["self"] ["self"] (defScope s_Grow_told) := ⟨rfl, rfl, rfl, by decide +kernel, rfl, by decide +kernel, by decide +kernel⟩
abbrev s_Shrink_init : Stmt := inClass (top 24) 0
theorem sc_Shrink_init : FnScope ["self", "many"] ["self", "many"] (defScope s_Shrink_init) := ⟨rfl, rfl, rfl, by decide +kernel, rfl, by decide +kernel, by decide +kernel⟩
abbrev s_Shrink_told : Stmt := inClass (top 24) 4
theorem sc_Shrink_told : FnScope ["self"] ["self"] (defScope s_Shrink_told) := ⟨rfl, rfl, rfl, by decide +kernel, rfl, by decide +kernel, by decide +kernel⟩
abbrev s_Reaching_init : Stmt := inClass (top 25) 0
theorem sc_Reaching_init : FnScope ["self", "box", "cell"] ["self", "box", "cell"] (defScope s_Reaching_init) := ⟨rfl, rfl, rfl, by decide +kernel, rfl, by decide +kernel, by decide +kernel⟩
abbrev s_Put_told : Stmt := inClass (top 26) 2
theorem sc_Put_told : FnScope ["self"] ["self"] (defScope s_Put_told) := ⟨rfl, rfl, rfl, by decide +kernel, rfl, by decide +kernel, by decide +kernel⟩
abbrev s_Get_told : Stmt := inClass (top 27) 2
theorem sc_Get_told : FnScope ["self"] ["self"] (defScope s_Get_told) := ⟨rfl, rfl, rfl, by decide +kernel, rfl, by decide +kernel, by decide +kernel⟩
abbrev s_Jump_init : Stmt := inClass (top 29) 0
theorem sc_Jump_init : FnScope ["self", "target"] ["self", "target"] (defScope s_Jump_init) := ⟨rfl, rfl, rfl, by decide +kernel, rfl, by decide +kernel, by decide +kernel⟩
abbrev s_Jump_told : Stmt := inClass (top 29) 3
theorem sc_Jump_told : FnScope ["self"] ["self"] (defScope s_Jump_told) := ⟨rfl, rfl, rfl, by decide +kernel, rfl, by decide +kernel, by decide +kernel⟩
abbrev s_Jump_laid : Stmt := inClass (top 29) 4
theorem sc_Jump_laid : FnScope ["self", "by"] ["self", "by"] (defScope s_Jump_laid) := ⟨rfl, rfl, rfl, by decide +kernel, rfl, by decide +kernel, by decide +kernel⟩
abbrev s_Branch_init : Stmt := inClass (top 30) 0
theorem sc_Branch_init : FnScope ["self", "box", "target"] ["self", "box", "target"] (defScope s_Branch_init) := ⟨rfl, rfl, rfl, by decide +kernel, rfl, by decide +kernel, by decide +kernel⟩
abbrev s_Branch_told : Stmt := inClass (top 30) 3
theorem sc_Branch_told : FnScope ["self"] ["self"] (defScope s_Branch_told) := ⟨rfl, rfl, rfl, by decide +kernel, rfl, by decide +kernel, by decide +kernel⟩
abbrev s_Branch_laid : Stmt := inClass (top 30) 4
theorem sc_Branch_laid : FnScope ["self", "by"] ["self", "by"] (defScope s_Branch_laid) := ⟨rfl, rfl, rfl, by decide +kernel, rfl, by decide +kernel, by decide +kernel⟩
abbrev s_Call_init : Stmt := inClass (top 31) 0
theorem sc_Call_init : FnScope ["self", "target"] ["self", "target"] (defScope s_Call_init) := ⟨rfl, rfl, rfl, by decide +kernel, rfl, by decide +kernel, by decide +kernel⟩
abbrev s_Call_told : Stmt := inClass (top 31) 3
theorem sc_Call_told : FnScope ["self"] ["self"] (defScope s_Call_told) := ⟨rfl, rfl, rfl, by decide +kernel, rfl, by decide +kernel, by decide +kernel⟩
abbrev s_Call_laid : Stmt := inClass (top 31) 4
theorem sc_Call_laid : FnScope ["self", "by"] ["self", "by"] (defScope s_Call_laid) := ⟨rfl, rfl, rfl, by decide +kernel, rfl, by decide +kernel, by decide +kernel⟩
abbrev s_Back_init : Stmt := inClass (top 32) 0
theorem sc_Back_init : FnScope ["self", "box"] ["self", "box"] (defScope s_Back_init) := ⟨rfl, rfl, rfl, by decide +kernel, rfl, by decide +kernel, by decide +kernel⟩
abbrev s_Back_told : Stmt := inClass (top 32) 3
theorem sc_Back_told : FnScope ["self"] ["self"] (defScope s_Back_told) := ⟨rfl, rfl, rfl, by decide +kernel, rfl, by decide +kernel, by decide +kernel⟩
abbrev s_Drop_init : Stmt := inClass (top 33) 0
theorem sc_Drop_init : FnScope ["self", "box"] ["self", "box"] (defScope s_Drop_init) := ⟨rfl, rfl, rfl, by decide +kernel, rfl, by decide +kernel, by decide +kernel⟩
abbrev s_Drop_told : Stmt := inClass (top 33) 3
theorem sc_Drop_told : FnScope ["self"] ["self"] (defScope s_Drop_told) := ⟨rfl, rfl, rfl, by decide +kernel, rfl, by decide +kernel, by decide +kernel⟩
abbrev s_law_cell_at : Stmt := top 35
theorem sc_law_cell_at : FnScope ["_law_script", "_law_k"] ["_law_script", "_law_k"] (defScope s_law_cell_at) := ⟨rfl, rfl, rfl, by decide +kernel, rfl, by decide +kernel, by decide +kernel⟩
abbrev s_law_mixed : Stmt := top 36
theorem sc_law_mixed : FnScope ["_law_cell", "_law_k", "_law_number"] ["_law_cell", "_law_k"] (defScope s_law_mixed) := ⟨rfl, rfl, rfl, by decide +kernel, rfl, by decide +kernel, by decide +kernel⟩
abbrev s_law_row : Stmt := top 37
theorem sc_law_row : FnScope ["_law_number", "_law_many", "_law_kind", "_law_box", "_law_one", "_law_count", "_law_target"] ["_law_number", "_law_many"] (defScope s_law_row) := ⟨rfl, rfl, rfl, by decide +kernel, rfl, by decide +kernel, by decide +kernel⟩
abbrev s_law_entry : Stmt := top 38
theorem sc_law_entry : FnScope ["_law_number", "_law_kept"] ["_law_number"] (defScope s_law_entry) := ⟨rfl, rfl, rfl, by decide +kernel, rfl, by decide +kernel, by decide +kernel⟩
abbrev s_law_part : Stmt := top 39
theorem sc_law_part : FnScope ["_law_cell", "_law_many", "_law_code", "_law_entries", "_law_landings", "_law_k"] ["_law_cell"] (defScope s_law_part) := ⟨rfl, rfl, rfl, by decide +kernel, rfl, by decide +kernel, by decide +kernel⟩
abbrev s_law_parts : Stmt := top 40
theorem sc_law_parts : FnScope ["_law_script", "_law_parts_here", "_law_cell", "_law_many"] ["_law_script"] (defScope s_law_parts) := ⟨rfl, rfl, rfl, by decide +kernel, rfl, by decide +kernel, by decide +kernel⟩
abbrev s_law_moved : Stmt := top 41
theorem sc_law_moved : FnScope ["_law_told", "_law_by"] ["_law_told", "_law_by"] (defScope s_law_moved) := ⟨rfl, rfl, rfl, by decide +kernel, rfl, by decide +kernel, by decide +kernel⟩
abbrev s_law_refused : Stmt := top 42
theorem sc_law_refused : FnScope ["_law_parts_here", "_law_refused_here", "e"] ["_law_parts_here"] (defScope s_law_refused) := ⟨rfl, rfl, rfl, by decide +kernel, rfl, by decide +kernel, by decide +kernel⟩
abbrev s_law_stay : Stmt := top 43
theorem sc_law_stay : FnScope ["_law_handed", "_law_parts_here", "_law_one", "_law_other"] ["_law_handed", "_law_parts_here"] (defScope s_law_stay) := ⟨rfl, rfl, rfl, by decide +kernel, rfl, by decide +kernel, by decide +kernel⟩
abbrev s_law_laid_right : Stmt := top 44
theorem sc_law_laid_right : FnScope ["_law_code", "_law_by", "_law_found"] ["_law_code", "_law_by"] (defScope s_law_laid_right) := ⟨rfl, rfl, rfl, by decide +kernel, rfl, by decide +kernel, by decide +kernel⟩
abbrev s_law : Stmt := top 45
theorem sc_law : FnScope ["_law_script", "_law_parts_here", "_law_handed", "_law_told", "_law_entries", "_law_landings", "_law_code", "_law_some", "_law_more", "_law_by", "_law_call", "_law_found"] ["_law_script"] (defScope s_law) := ⟨rfl, rfl, rfl, by decide +kernel, rfl, by decide +kernel, by decide +kernel⟩
structure Txt (K : PySem.W.Frag) (mg : Str → Option Value) (a : Adr) : Prop where
  z_dict : mg "dict" = none
  z_int : mg "int" = none
  z_isinstance : mg "isinstance" = none
  z_len : mg "len" = none
  z_list : mg "list" = none
  z_range : mg "range" = none
  z_sum : mg "sum" = none
  z_tuple : mg "tuple" = none
  z_zip : mg "zip" = none
  g_TOP_BOX : ∃ t, mg "TOP_BOX" = some (Value.int 7 t)
  g_TOP_CELLS : ∃ t, mg "TOP_CELLS" = some (Value.int 4000 t)
  g_TOP_ROWS : ∃ t, mg "TOP_ROWS" = some (Value.int 2000 t)
  g_TOP_TARGET : ∃ t, mg "TOP_TARGET" = some (Value.int 2000 t)
  g_TOP_VALUE : ∃ t, mg "TOP_VALUE" = some (Value.int 4294967295 t)
  c_Add : mg "Add" = some (.ref a.C_Add)
  c_Back : mg "Back" = some (.ref a.C_Back)
  c_Branch : mg "Branch" = some (.ref a.C_Branch)
  c_Call : mg "Call" = some (.ref a.C_Call)
  c_Copy : mg "Copy" = some (.ref a.C_Copy)
  c_Drop : mg "Drop" = some (.ref a.C_Drop)
  c_FrameError : mg "FrameError" = some (.ref a.C_FrameError)
  c_Get : mg "Get" = some (.ref a.C_Get)
  c_Grow : mg "Grow" = some (.ref a.C_Grow)
  c_Jump : mg "Jump" = some (.ref a.C_Jump)
  c_NoRow : mg "NoRow" = some (.ref a.C_NoRow)
  c_NoTable : mg "NoTable" = some (.ref a.C_NoTable)
  c_Put : mg "Put" = some (.ref a.C_Put)
  c_Set : mg "Set" = some (.ref a.C_Set)
  c_Shrink : mg "Shrink" = some (.ref a.C_Shrink)
  c_Table : mg "Table" = some (.ref a.C_Table)
  cl_Table : Cls K a.C_Table
  n_Table_entries : NoAttr K a.C_Table "entries"
  n_Table_landings : NoAttr K a.C_Table "landings"
  i_Table : ∃ f fd, FunD K "__init__" "Table.__init__" s_Table_init f fd ∧ Mk K a.C_Table f ∧ Binds K fd ["self", "entries", "landings"] [] ∧ Binds K fd ["self", "entries", "landings"] [.none]
  cl_Jump : Cls K a.C_Jump
  n_Jump_target : NoAttr K a.C_Jump "target"
  i_Jump : ∃ f fd, Fun K "__init__" "Jump.__init__" s_Jump_init f fd ∧ Mk K a.C_Jump f ∧ Binds K fd ["self", "target"] []
  m_Jump_laid : ∃ f fd, Fun K "laid" "Jump.laid" s_Jump_laid f fd ∧ Meth K a.C_Jump "laid" f ∧ Binds K fd ["self", "by"] []
  m_Jump_told : ∃ f fd, Fun K "told" "Jump.told" s_Jump_told f fd ∧ Meth K a.C_Jump "told" f ∧ Binds K fd ["self"] []
  cl_Branch : Cls K a.C_Branch
  n_Branch_box : NoAttr K a.C_Branch "box"
  n_Branch_target : NoAttr K a.C_Branch "target"
  i_Branch : ∃ f fd, Fun K "__init__" "Branch.__init__" s_Branch_init f fd ∧ Mk K a.C_Branch f ∧ Binds K fd ["self", "box", "target"] []
  m_Branch_laid : ∃ f fd, Fun K "laid" "Branch.laid" s_Branch_laid f fd ∧ Meth K a.C_Branch "laid" f ∧ Binds K fd ["self", "by"] []
  m_Branch_told : ∃ f fd, Fun K "told" "Branch.told" s_Branch_told f fd ∧ Meth K a.C_Branch "told" f ∧ Binds K fd ["self"] []
  cl_Call : Cls K a.C_Call
  n_Call_target : NoAttr K a.C_Call "target"
  i_Call : ∃ f fd, Fun K "__init__" "Call.__init__" s_Call_init f fd ∧ Mk K a.C_Call f ∧ Binds K fd ["self", "target"] []
  m_Call_laid : ∃ f fd, Fun K "laid" "Call.laid" s_Call_laid f fd ∧ Meth K a.C_Call "laid" f ∧ Binds K fd ["self", "by"] []
  m_Call_told : ∃ f fd, Fun K "told" "Call.told" s_Call_told f fd ∧ Meth K a.C_Call "told" f ∧ Binds K fd ["self"] []
  cl_Set : Cls K a.C_Set
  n_Set_box : NoAttr K a.C_Set "box"
  n_Set_number : NoAttr K a.C_Set "number"
  i_Set : ∃ f fd, Fun K "__init__" "Set.__init__" s_Set_init f fd ∧ Mk K a.C_Set f ∧ Binds K fd ["self", "box", "number"] []
  m_Set_laid : ∃ f fd, Fun K "laid" "Row.laid" s_Row_laid f fd ∧ Meth K a.C_Set "laid" f ∧ Binds K fd ["self", "by"] []
  m_Set_told : ∃ f fd, Fun K "told" "Set.told" s_Set_told f fd ∧ Meth K a.C_Set "told" f ∧ Binds K fd ["self"] []
  cl_Copy : Cls K a.C_Copy
  n_Copy_box : NoAttr K a.C_Copy "box"
  n_Copy_one : NoAttr K a.C_Copy "one"
  i_Copy : ∃ f fd, Fun K "__init__" "Copy.__init__" s_Copy_init f fd ∧ Mk K a.C_Copy f ∧ Binds K fd ["self", "box", "one"] []
  m_Copy_laid : ∃ f fd, Fun K "laid" "Row.laid" s_Row_laid f fd ∧ Meth K a.C_Copy "laid" f ∧ Binds K fd ["self", "by"] []
  m_Copy_told : ∃ f fd, Fun K "told" "Copy.told" s_Copy_told f fd ∧ Meth K a.C_Copy "told" f ∧ Binds K fd ["self"] []
  cl_Add : Cls K a.C_Add
  n_Add_box : NoAttr K a.C_Add "box"
  n_Add_one : NoAttr K a.C_Add "one"
  n_Add_other : NoAttr K a.C_Add "other"
  i_Add : ∃ f fd, Fun K "__init__" "Reckoning.__init__" s_Reckoning_init f fd ∧ Mk K a.C_Add f ∧ Binds K fd ["self", "box", "one", "other"] []
  m_Add_laid : ∃ f fd, Fun K "laid" "Row.laid" s_Row_laid f fd ∧ Meth K a.C_Add "laid" f ∧ Binds K fd ["self", "by"] []
  m_Add_told : ∃ f fd, Fun K "told" "Add.told" s_Add_told f fd ∧ Meth K a.C_Add "told" f ∧ Binds K fd ["self"] []
  cl_Grow : Cls K a.C_Grow
  n_Grow_many : NoAttr K a.C_Grow "many"
  i_Grow : ∃ f fd, Fun K "__init__" "Grow.__init__" s_Grow_init f fd ∧ Mk K a.C_Grow f ∧ Binds K fd ["self", "many"] []
  m_Grow_laid : ∃ f fd, Fun K "laid" "Row.laid" s_Row_laid f fd ∧ Meth K a.C_Grow "laid" f ∧ Binds K fd ["self", "by"] []
  m_Grow_told : ∃ f fd, Fun K "told" "Grow.told" s_Grow_told f fd ∧ Meth K a.C_Grow "told" f ∧ Binds K fd ["self"] []
  cl_Shrink : Cls K a.C_Shrink
  n_Shrink_many : NoAttr K a.C_Shrink "many"
  i_Shrink : ∃ f fd, Fun K "__init__" "Shrink.__init__" s_Shrink_init f fd ∧ Mk K a.C_Shrink f ∧ Binds K fd ["self", "many"] []
  m_Shrink_laid : ∃ f fd, Fun K "laid" "Row.laid" s_Row_laid f fd ∧ Meth K a.C_Shrink "laid" f ∧ Binds K fd ["self", "by"] []
  m_Shrink_told : ∃ f fd, Fun K "told" "Shrink.told" s_Shrink_told f fd ∧ Meth K a.C_Shrink "told" f ∧ Binds K fd ["self"] []
  cl_Put : Cls K a.C_Put
  n_Put_box : NoAttr K a.C_Put "box"
  n_Put_cell : NoAttr K a.C_Put "cell"
  i_Put : ∃ f fd, Fun K "__init__" "Reaching.__init__" s_Reaching_init f fd ∧ Mk K a.C_Put f ∧ Binds K fd ["self", "box", "cell"] []
  m_Put_laid : ∃ f fd, Fun K "laid" "Row.laid" s_Row_laid f fd ∧ Meth K a.C_Put "laid" f ∧ Binds K fd ["self", "by"] []
  m_Put_told : ∃ f fd, Fun K "told" "Put.told" s_Put_told f fd ∧ Meth K a.C_Put "told" f ∧ Binds K fd ["self"] []
  cl_Get : Cls K a.C_Get
  n_Get_box : NoAttr K a.C_Get "box"
  n_Get_cell : NoAttr K a.C_Get "cell"
  i_Get : ∃ f fd, Fun K "__init__" "Reaching.__init__" s_Reaching_init f fd ∧ Mk K a.C_Get f ∧ Binds K fd ["self", "box", "cell"] []
  m_Get_laid : ∃ f fd, Fun K "laid" "Row.laid" s_Row_laid f fd ∧ Meth K a.C_Get "laid" f ∧ Binds K fd ["self", "by"] []
  m_Get_told : ∃ f fd, Fun K "told" "Get.told" s_Get_told f fd ∧ Meth K a.C_Get "told" f ∧ Binds K fd ["self"] []
  cl_Back : Cls K a.C_Back
  n_Back_box : NoAttr K a.C_Back "box"
  i_Back : ∃ f fd, Fun K "__init__" "Back.__init__" s_Back_init f fd ∧ Mk K a.C_Back f ∧ Binds K fd ["self", "box"] []
  m_Back_laid : ∃ f fd, Fun K "laid" "Row.laid" s_Row_laid f fd ∧ Meth K a.C_Back "laid" f ∧ Binds K fd ["self", "by"] []
  m_Back_told : ∃ f fd, Fun K "told" "Back.told" s_Back_told f fd ∧ Meth K a.C_Back "told" f ∧ Binds K fd ["self"] []
  cl_Drop : Cls K a.C_Drop
  n_Drop_box : NoAttr K a.C_Drop "box"
  i_Drop : ∃ f fd, Fun K "__init__" "Drop.__init__" s_Drop_init f fd ∧ Mk K a.C_Drop f ∧ Binds K fd ["self", "box"] []
  m_Drop_laid : ∃ f fd, Fun K "laid" "Row.laid" s_Row_laid f fd ∧ Meth K a.C_Drop "laid" f ∧ Binds K fd ["self", "by"] []
  m_Drop_told : ∃ f fd, Fun K "told" "Drop.told" s_Drop_told f fd ∧ Meth K a.C_Drop "told" f ∧ Binds K fd ["self"] []
  ty_Table : PySem.W.findIn K (.ref a.C_Table) "__class__" = some (some (.builtin "object.__class__")) ∧ PySem.W.mroIn K a.C_Table (.type "object") = some true
  is_Table_Table : PySem.W.kitOne K (.ref a.C_Table) (.ref a.C_Table) = some true
  ob1 : PySem.W.specialIn K (.builtin "object.__class__") "__get__" = some (some (.builtin "getset_descriptor.__get__"))
  ob2 : PySem.W.takesIn K (.builtin "object.__class__") = some true
  x_FrameError : ExcC K mg "FrameError" a.C_FrameError
  xk_FrameError : ExcK K a.C_FrameError
  x_NoTable : ExcC K mg "NoTable" a.C_NoTable
  xk_NoTable : ExcK K a.C_NoTable
  up_NoTable_FrameError : PySem.W.mroIn K a.C_NoTable (.ref a.C_FrameError) = some true
  is_NoTable_NoTable : PySem.W.kitOne K (.ref a.C_NoTable) (.ref a.C_NoTable) = some true
  is_NoTable_NoRow : PySem.W.kitOne K (.ref a.C_NoTable) (.ref a.C_NoRow) = some false
  k_list_list : PySem.W.kitOne K (.type "list") (.type "list") = some true
  k_tuple_tuple : PySem.W.kitOne K (.type "tuple") (.type "tuple") = some true
  fn_bounded : ∃ f fd, Fun K "bounded" "bounded" s_bounded f fd ∧ mg "bounded" = some (.ref f) ∧ Binds K fd ["number", "top"] []
  fn_laid : ∃ f fd, Fun K "laid" "laid" s_laid f fd ∧ mg "laid" = some (.ref f) ∧ Binds K fd ["code", "by"] []
  fn_joined : ∃ f fd, Fun K "joined" "joined" s_joined f fd ∧ mg "joined" = some (.ref f) ∧ Binds K fd ["parts"] []
  fn_law_cell_at : ∃ f fd, Fun K "_law_cell_at" "_law_cell_at" s_law_cell_at f fd ∧ mg "_law_cell_at" = some (.ref f) ∧ Binds K fd ["_law_script", "_law_k"] []
  fn_law_mixed : ∃ f fd, Fun K "_law_mixed" "_law_mixed" s_law_mixed f fd ∧ mg "_law_mixed" = some (.ref f) ∧ Binds K fd ["_law_cell", "_law_k"] []
  fn_law_row : ∃ f fd, Fun K "_law_row" "_law_row" s_law_row f fd ∧ mg "_law_row" = some (.ref f) ∧ Binds K fd ["_law_number", "_law_many"] []
  fn_law_entry : ∃ f fd, Fun K "_law_entry" "_law_entry" s_law_entry f fd ∧ mg "_law_entry" = some (.ref f) ∧ Binds K fd ["_law_number"] []
  fn_law_part : ∃ f fd, Fun K "_law_part" "_law_part" s_law_part f fd ∧ mg "_law_part" = some (.ref f) ∧ Binds K fd ["_law_cell"] []
  fn_law_parts : ∃ f fd, Fun K "_law_parts" "_law_parts" s_law_parts f fd ∧ mg "_law_parts" = some (.ref f) ∧ Binds K fd ["_law_script"] []
  fn_law_moved : ∃ f fd, Fun K "_law_moved" "_law_moved" s_law_moved f fd ∧ mg "_law_moved" = some (.ref f) ∧ Binds K fd ["_law_told", "_law_by"] []
  fn_law_refused : ∃ f fd, Fun K "_law_refused" "_law_refused" s_law_refused f fd ∧ mg "_law_refused" = some (.ref f) ∧ Binds K fd ["_law_parts_here"] []
  fn_law_stay : ∃ f fd, Fun K "_law_stay" "_law_stay" s_law_stay f fd ∧ mg "_law_stay" = some (.ref f) ∧ Binds K fd ["_law_handed", "_law_parts_here"] []
  fn_law_laid_right : ∃ f fd, Fun K "_law_laid_right" "_law_laid_right" s_law_laid_right f fd ∧ mg "_law_laid_right" = some (.ref f) ∧ Binds K fd ["_law_code", "_law_by"] []
  fn_law : ∃ f fd, Fun K "law" "law" s_law f fd ∧ mg "law" = some (.ref f) ∧ Binds K fd ["_law_script"] []


structure Ent where
  h : Int
  b : Int
  v4 : Int
  v5 : Int
  v6 : Int
def EntAt (K : PySem.W.Frag) (H : Hp) (p : Addr) (e : Ent) : Prop := ∃ q, SqT K H p [.int e.h, .int e.b, .ref q] ∧ SqT K H q [.int e.v4, .int e.v5, .int e.v6]
theorem EntAt.same {K : PySem.W.Frag} {H H' : Hp} {p : Addr} {e : Ent} (h : EntAt K H p e) (s : Same H H') : EntAt K H' p e := let ⟨q, h1, h2⟩ := h; ⟨q, SqT_same s h1, SqT_same s h2⟩

def EntV (K : PySem.W.Frag) (H : Hp) (v : V) : Option Ent → Prop
  | none => v = .non
  | some e => ∃ p, v = .ref p ∧ EntAt K H p e
theorem EntV.same {K : PySem.W.Frag} {H H' : Hp} {v : V} {oe : Option Ent} (h : EntV K H v oe) (s : Same H H') : EntV K H' v oe := by
  cases oe with
  | none => exact h
  | some e => obtain ⟨p, e1, e2⟩ := h; exact ⟨p, e1, e2.same s⟩
def EntVs (K : PySem.W.Frag) (H : Hp) (vs : List V) (es : List (Option Ent)) : Prop := vs.length = es.length ∧ ∀ (i : Nat) (oe : Option Ent), es[i]? = some oe → ∃ v, vs[i]? = some v ∧ EntV K H v oe
theorem EntVs.same {K : PySem.W.Frag} {H H' : Hp} {vs : List V} {es : List (Option Ent)} (h : EntVs K H vs es) (s : Same H H') : EntVs K H' vs es :=
  ⟨h.1, fun i oe e => let ⟨v, e1, e2⟩ := h.2 i oe e; ⟨v, e1, e2.same s⟩⟩
theorem EntVs.snoc {K : PySem.W.Frag} {H : Hp} {vs : List V} {es : List (Option Ent)} {v : V} {oe : Option Ent} (h : EntVs K H vs es) (hv : EntV K H v oe) : EntVs K H (vs ++ [v]) (es ++ [oe]) := by
  refine ⟨by rw [List.length_append, List.length_append, h.1]; rfl, fun i o e => ?_⟩
  by_cases hi : i < es.length
  · rw [List.getElem?_append_left hi] at e
    obtain ⟨u, e1, e2⟩ := h.2 i o e
    exact ⟨u, by rw [List.getElem?_append_left (by rw [h.1]; exact hi)]; exact e1, e2⟩
  · rw [List.getElem?_append_right (by omega)] at e
    have hi' : i - es.length = 0 := by
      rcases Nat.eq_zero_or_pos (i - es.length) with z | z
      · exact z
      · rw [List.getElem?_eq_none (by simp; omega)] at e; cases e
    rw [hi'] at e
    cases e
    exact ⟨v, by rw [List.getElem?_append_right (by rw [h.1]; omega), h.1, hi']; rfl, hv⟩
theorem EntVs.nil {K : PySem.W.Frag} {H : Hp} : EntVs K H [] [] := ⟨rfl, fun i oe e => by simp at e⟩
def entD : Option Ent → PyData
  | none => .none
  | some e => .tuple [.int e.h, .int e.b, .tuple [.int e.v4, .int e.v5, .int e.v6]]
theorem EntV.dp {K : PySem.W.Frag} {H : Hp} {v : V} {oe : Option Ent} (h : EntV K H v oe) : Dp K H (entD oe) v := by
  cases oe with
  | none => cases h; exact dp_none
  | some e =>
    obtain ⟨p, rfl, q, h1, h2⟩ := h
    exact dp_tup h1 (dpAll_cons (dp_int _) (dpAll_cons (dp_int _) (dpAll_cons (dp_tup h2 (dpAll_cons (dp_int _) (dpAll_cons (dp_int _) (dpAll_cons (dp_int _) dpAll_nil)))) dpAll_nil)))
theorem EntVs.dp {K : PySem.W.Frag} {H : Hp} : ∀ {vs : List V} {es : List (Option Ent)}, EntVs K H vs es → DpAll K H (es.map entD) vs
  | [], [], _ => dpAll_nil
  | [], _ :: _, h => by have := h.1; simp at this
  | _ :: _, [], h => by have := h.1; simp at this
  | v :: vs, e :: es, h => by
    obtain ⟨u, e1, e2⟩ := h.2 0 e rfl
    cases e1
    refine dpAll_cons e2.dp (EntVs.dp (vs := vs) (es := es) ⟨by simpa using h.1, fun i oe e => ?_⟩)
    obtain ⟨u, e1, e2⟩ := h.2 (i + 1) oe (by simpa using e)
    exact ⟨u, by simpa using e1, e2⟩
theorem ents_lay : ∀ es : List (Option Ent), PyData.canLayAll0 (es.map entD) = true
  | [] => rfl
  | e :: es => by
    rw [List.map_cons, PyData.canLayAll0, ents_lay es]
    cases e <;> rfl
theorem ent_depth (e : Option Ent) : (entD e).depth ≤ 2 := by
  cases e with
  | none => decide
  | some e => simp [entD, PyData.depth, PyData.depthAll]
theorem ents_depth : ∀ es : List (Option Ent), PyData.depthAll (es.map entD) ≤ 2
  | [] => by decide
  | e :: es => by
    have h1 := ent_depth e
    have h2 := ents_depth es
    rw [List.map_cons, PyData.depthAll]
    omega
theorem shaped_ents (es : List (Option Ent)) : shaped (.list (es.map entD)) = true := by
  have := ents_depth es
  unfold shaped
  rw [PyData.canLay0, ents_lay, PyData.depth]
  simp; omega
structure Cal where
  r : Int
  a : Int
  b : Int
  c : Int
  n : Int
def CalV (H : Hp) (v : V) (c : Cal) : Prop := ∃ t q, v = .ref t ∧ H t = some (.tup [.int c.r, .ref q, .int c.n]) ∧ H q = some (.tup [.int c.a, .int c.b, .int c.c])
theorem r_gTup {K : PySem.W.Frag} {p : Addr} {xs : List V} {n : Nat} {t : TGs} {σ : L2.St} {H : Hp} {Q : L2.St → Hp → Prop} (h : SqT K H p xs) (hl : xs.length = n) (q : t xs σ H Q) : gTup K n t (.ref p) σ H Q := ⟨p, xs, rfl, h, hl, q⟩
theorem r_gCons {t : TG} {u : TGs} {v : V} {r : List V} {σ : L2.St} {H : Hp} {Q : L2.St → Hp → Prop} (q : t v σ H fun σ' H' => u r σ' H' Q) : gCons t u (v :: r) σ H Q := ⟨v, r, rfl, q⟩
theorem r_gNil {σ : L2.St} {H : Hp} {Q : L2.St → Hp → Prop} (q : Q σ H) : gNil [] σ H Q := ⟨rfl, q⟩
theorem b_dict : bootBuiltins "dict" = some (.type "dict") := by decide +kernel
def tabF (l d : Addr) : List (Str × V) := putF "landings" (.ref d) (putF "entries" (.ref l) [])

def spTab (K : PySem.W.Frag) (C : Addr) : Sp := fun vs H Q _ => ∃ (x dx pe : Addr) (lv : V) (xs : List V) (kvs : List (Key × V)), vs = [.ref x, .ref pe, lv] ∧ H x = some (.ins C dx []) ∧ SqL K H pe xs ∧
  ((lv = .non ∧ kvs = []) ∨ ∃ pd, lv = .ref pd ∧ H pd = some (.dK kvs)) ∧
  ∀ l d H', H l = none → H d = none → l ≠ d → (∀ b o, H b = some o → b ≠ x → H' b = some o) → H' x = some (.ins C dx (tabF l d)) → H' l = some (.lst xs) → H' d = some (.dK kvs) → Q .non H'
def spAnyE (K : PySem.W.Frag) : Sp := fun vs H Q _ => ∃ c : Int, vs = [.int c] ∧ ∀ v oe H', Same H H' → EntV K H' v oe → Q v H'
def spMixed : Sp := fun vs H Q _ => ∃ c k : Int, vs = [.int c, .int k] ∧ 0 ≤ k ∧ ∀ r : Int, Q (.int r) H
theorem r_mixed {c k : Int} {H : Hp} {Q : VK} {E : XK} (h : 0 ≤ k) (q : ∀ r : Int, Q (.int r) H) : spMixed [.int c, .int k] H Q E := ⟨c, k, rfl, h, q⟩
def Rw.here : Rw → Prop
  | .set .. => True
  | .copy .. => True
  | .add .. => True
  | .sub .. => False
  | .mul .. => False
  | .less .. => False
  | .grow .. => True
  | .shrink .. => True
  | .put .. => True
  | .get .. => True
  | .jump .. => True
  | .branch .. => True
  | .call .. => True
  | .back .. => True
  | .drop .. => True
def Rw.laid : Rw → Int → Rw
  | .jump t, d => .jump (t + d)
  | .branch b t, d => .branch b (t + d)
  | .call t, d => .call (t + d)
  | r, _ => r


def Rw.aims (n : Int) : Rw → Prop
  | .jump t => t ≤ n | .branch _ t => t ≤ n | .call t => t ≤ n | _ => True
def spLaid0 (a : Adr) (r : Rw) : Sp := fun vs H Q _ => ∃ (x : Addr) (d : Int), vs = [.ref x, .int d] ∧ RowAt a H x r ∧ (r.laid d).ok ∧ ∀ p H', Same H H' → RowAt a H' p (r.laid d) → Q (.ref p) H'
def spRow45 (a : Adr) : Sp := fun vs H Q _ => ∃ n m : Int, vs = [.int n, .int m] ∧ 0 ≤ m ∧ m ≤ 9 ∧ ∀ p r H', Same H H' → RowAt a H' p r → r.ok → r.aims m → r.here → Q (.ref p) H'

def RowsAt (a : Adr) (H : Hp) (prs : List Addr) (rs : List Rw) : Prop := prs.length = rs.length ∧ ∀ (i : Nat) (p : Addr) (r : Rw), prs[i]? = some p → rs[i]? = some r → RowAt a H p r
theorem RowsAt.to {a : Adr} {H H' : Hp} {prs : List Addr} {rs : List Rw} (h : RowsAt a H prs rs) (k : ∀ p ∈ prs, ∀ o, H p = some o → H' p = some o) : RowsAt a H' prs rs :=
  ⟨h.1, fun i p r e1 e2 => let ⟨dx, e⟩ := h.2 i p r e1 e2; ⟨dx, k p (List.mem_of_getElem? e1) _ e⟩⟩
theorem RowsAt.same {a : Adr} {H H' : Hp} {prs : List Addr} {rs : List Rw} (h : RowsAt a H prs rs) (s : Same H H') : RowsAt a H' prs rs := h.to fun _ _ _ e => s _ _ e
theorem RowsAt.nil {a : Adr} {H : Hp} : RowsAt a H [] [] := ⟨rfl, fun i p r e => by simp at e⟩
theorem RowsAt.snoc {a : Adr} {H : Hp} {prs : List Addr} {rs : List Rw} {p : Addr} {r : Rw} (h : RowsAt a H prs rs) (q : RowAt a H p r) : RowsAt a H (prs ++ [p]) (rs ++ [r]) := by
  refine ⟨by rw [List.length_append, List.length_append, h.1]; rfl, fun i p' r' e1 e2 => ?_⟩
  by_cases hi : i < rs.length
  · rw [List.getElem?_append_left (by rw [h.1]; exact hi)] at e1
    rw [List.getElem?_append_left hi] at e2
    exact h.2 i p' r' e1 e2
  · have hi' : i = rs.length := by
      have := (List.getElem?_eq_some_iff.mp e2).1
      rw [List.length_append] at this
      simp at this; omega
    subst hi'
    rw [List.getElem?_append_right (by omega)] at e2
    rw [List.getElem?_append_right (by rw [h.1]; omega), h.1] at e1
    simp at e1 e2
    subst e1 e2
    exact q
def spLaidAll (a : Adr) : Sp := fun vs H Q _ => ∃ (l : Addr) (d : Int) (prs : List Addr) (rs : List Rw), vs = [.ref l, .int d] ∧ H l = some (.lst (prs.map V.ref)) ∧ RowsAt a H prs rs ∧ (∀ r ∈ rs, (r.laid d).ok ∧ r.here) ∧ rs.length ≤ 2000 ∧ ∀ p ps H', Same H H' → H p = none → H' p = some (.lst (ps.map V.ref)) → RowsAt a H' ps (rs.map fun r => r.laid d) → Q (.ref p) H'
def movedT (r : Rw) (d : Int) : List V := .str (r.laid d).told.1 :: (r.laid d).told.2.map V.int
def spMoved : Sp := fun vs H Q _ => ∃ (t : Addr) (d : Int) (r : Rw), vs = [.ref t, .int d] ∧ H t = some (.tup (.str r.told.1 :: r.told.2.map V.int)) ∧ ∀ p H', Same H H' → H' p = some (.tup (movedT r d)) → Q (.ref p) H'
theorem cut_last (x : V) (r : List V) (y : V) : cutV (x :: (r ++ [y])) none (some (-1)) = x :: r := by
  unfold cutV
  have e1 : HT.sIx (x :: (r ++ [y])).length 0 none = 0 := rfl
  have e2 : HT.sIx (x :: (r ++ [y])).length (x :: (r ++ [y])).length (some (-1)) = r.length + 1 := by
    show (if (-1 : Int) < 0 then ((-1 : Int) + ((x :: (r ++ [y])).length : Int)).toNat else min (-1 : Int).toNat (x :: (r ++ [y])).length) = _
    rw [if_pos (by decide), List.length_cons, List.length_append, List.length_singleton]; omega
  rw [e1, e2, List.drop_zero, Nat.sub_zero, List.take_succ_cons, List.take_left]
theorem cut_last_ne (x : V) (r : List V) (y : V) : ¬ (HT.sIx (x :: (r ++ [y])).length 0 none = 0 ∧ HT.sIx (x :: (r ++ [y])).length (x :: (r ++ [y])).length (some (-1)) = (x :: (r ++ [y])).length) := by
  intro z
  have e2 : HT.sIx (x :: (r ++ [y])).length (x :: (r ++ [y])).length (some (-1)) = r.length + 1 := by
    show (if (-1 : Int) < 0 then ((-1 : Int) + ((x :: (r ++ [y])).length : Int)).toNat else min (-1 : Int).toNat (x :: (r ++ [y])).length) = _
    rw [if_pos (by decide), List.length_cons, List.length_append, List.length_singleton]; omega
  have := z.2
  rw [e2, List.length_cons, List.length_append, List.length_singleton] at this
  omega
def landKV (l : List (Int × Int)) : List (Key × V) := l.map fun p => ((Sum.inl p.1 : Key), V.int p.2)
theorem land_put {l : List (Int × Int)} {c r : Int} (h : valV (landKV l) (.inl c) = none) : putK (landKV l) (.inl c) (.int r) = landKV (l ++ [(c, r)]) := by
  rw [putK_new _ h]
  unfold landKV
  rw [List.map_append]; rfl

def lv (ls : List (Int × Int)) (k : Int) : Int := ((ls.find? fun p => decide (p.1 = k)).map (·.2)).getD 0
theorem land_val : ∀ {ls : List (Int × Int)}, (ls.map (·.1)).Nodup → ∀ p ∈ ls, valV (landKV ls) (.inl p.1) = some (.int p.2) ∧ lv ls p.1 = p.2
  | [], _, _, h => nomatch h
  | (c, r) :: ls, hn, p, hp => by
    rw [List.map_cons, List.nodup_cons] at hn
    rcases List.mem_cons.mp hp with rfl | hp
    · refine ⟨?_, ?_⟩
      · show valV ((Sum.inl c, V.int r) :: landKV ls) (.inl c) = _
        rw [valV_pos rfl]
      · unfold lv; rw [List.find?_cons, decide_eq_true rfl]; rfl
    · have ne : ¬ c = p.1 := fun z => hn.1 (List.mem_map.mpr ⟨p, hp, z.symm⟩)
      obtain ⟨i1, i2⟩ := land_val hn.2 p hp
      refine ⟨?_, ?_⟩
      · show valV ((Sum.inl c, V.int r) :: landKV ls) (.inl p.1) = _
        rw [valV_neg (fun z => ne (Sum.inl.inj z))]; exact i1
      · unfold lv at i2 ⊢; rw [List.find?_cons, decide_eq_false ne]; exact i2
theorem land_none : ∀ {ls : List (Int × Int)} {c : Int}, c ∉ ls.map (·.1) → valV (landKV ls) (.inl c) = none
  | [], _, _ => rfl
  | (d, r) :: ls, c, h => by
    rw [List.map_cons, List.mem_cons, not_or] at h
    show valV ((Sum.inl d, V.int r) :: landKV ls) (.inl c) = _
    rw [valV_neg (fun z => h.1 (Sum.inl.inj z).symm)]
    exact land_none h.2
theorem land_dIn {ls ls' : List (Int × Int)} (hn : (ls.map (·.1)).Nodup) (h : ls'.Perm ls) : dIn (landKV ls') (landKV ls) := by
  intro p hp
  obtain ⟨q, hq, rfl⟩ := List.mem_map.mp hp
  exact ⟨q.2, rfl, (land_val hn q (h.mem_iff.mp hq)).1⟩
theorem land_dSame {ls : List (Int × Int)} (hn : (ls.map (·.1)).Nodup) : dSame (landKV ls) := land_dIn hn (List.Perm.refl _)
def LsOk (ls : List (Int × Int)) : Prop := (ls.map (·.1)).Nodup ∧ ∀ p ∈ ls, 0 ≤ p.1 ∧ 0 ≤ p.2
theorem ls_put {ls : List (Int × Int)} {c r : Int} (h : LsOk ls) (hc : 0 ≤ c) (hr : 0 ≤ r) : ∃ ls', putK (landKV ls) (.inl c) (.int r) = landKV ls' ∧ LsOk ls' ∧ ls'.length ≤ ls.length + 1 := by
  by_cases hm : c ∈ ls.map (·.1)
  · refine ⟨ls.map fun p => if p.1 = c then (p.1, r) else p, ?_, ⟨?_, ?_⟩, by rw [List.length_map]; omega⟩
    · unfold putK
      rw [valV_any]
      obtain ⟨p, hp, rfl⟩ := List.mem_map.mp hm
      rw [(land_val h.1 p hp).1, if_pos (show (some (V.int p.2)).isSome = true from rfl)]
      unfold landKV
      rw [List.map_map, List.map_map]
      refine List.map_congr_left fun q _ => ?_
      show (if (Sum.inl q.1 : Key) = Sum.inl p.1 then ((Sum.inl q.1 : Key), V.int r) else (Sum.inl q.1, V.int q.2)) = (Sum.inl (if q.1 = p.1 then (q.1, r) else q).1, V.int (if q.1 = p.1 then (q.1, r) else q).2)
      by_cases e : q.1 = p.1
      · rw [if_pos (by rw [e]), if_pos e]
      · rw [if_neg (fun z => e (Sum.inl.inj z)), if_neg e]
    · rw [List.map_map, show ((fun x : Int × Int => x.1) ∘ fun p : Int × Int => if p.1 = c then (p.1, r) else p) = fun p => p.1 from funext fun p => by
        show (if p.1 = c then (p.1, r) else p).1 = p.1
        split <;> rfl]
      exact h.1
    · intro p hp
      obtain ⟨q, hq, rfl⟩ := List.mem_map.mp hp
      have := h.2 q hq
      split
      · exact ⟨this.1, hr⟩
      · exact this
  · refine ⟨ls ++ [(c, r)], land_put (land_none hm), ⟨?_, ?_⟩, by rw [List.length_append, List.length_singleton]; omega⟩
    · rw [List.map_append, List.nodup_append]
      refine ⟨h.1, by simp, fun x hx y hy z => ?_⟩
      have : y = c := by simpa using hy
      rw [z, this] at hx
      exact hm hx
    · intro p hp
      rcases List.mem_append.mp hp with z | z
      · exact h.2 p z
      · have : p = (c, r) := by simpa using z
        rw [this]; exact ⟨hc, hr⟩
theorem r_tab {K : PySem.W.Frag} {C pe x dx : Addr} {lv : V} {xs : List V} {kvs : List (Key × V)} {H : Hp} {R : VK} {E : XK} (hx : H x = none) (hdx : H dx = none) (h1 : SqL K H pe xs) (h2 : (lv = .non ∧ kvs = []) ∨ ∃ pd, lv = .ref pd ∧ H pd = some (.dK kvs))
    (q : ∀ l d H', Same H H' → H l = none → H d = none → l ≠ d → x ≠ l → x ≠ d → H' x = some (.ins C dx (putF "landings" (.ref d) (putF "entries" (.ref l) []))) → H' l = some (.lst xs) → H' d = some (.dK kvs) → R .non H') :
    spTab K C [.ref x, .ref pe, lv] (upd (upd H dx (.own x)) x (.ins C dx [])) R E := by
  have s1 : Same H (upd (upd H dx (.own x)) x (.ins C dx [])) := fun b o e => by rw [upd_ne (ne_of_none e hx), upd_ne (ne_of_none e hdx)]; exact e
  refine ⟨x, dx, pe, lv, xs, kvs, rfl, upd_same, Same.seq s1 h1, ?_, fun l d H' nl nd nld kp hx' hl' hd' => ?_⟩
  · rcases h2 with h2 | ⟨pd, e, h2⟩
    · exact .inl h2
    · exact .inr ⟨pd, e, s1 _ _ h2⟩
  · have nl1 := none_upd nl
    have nd1 := none_upd nd
    exact q l d H' (fun b o e => kp b o (s1 b o e) (ne_of_none e hx)) (none_upd nl1.1).1 (none_upd nd1.1).1 nld nl1.2.symm nd1.2.symm hx' hl' hd'


structure Pt where
  rs : List Rw
  es : List (Option Ent)
  ls : List (Int × Int)
theorem aims_mono {m n : Int} (h : m ≤ n) {r : Rw} (q : r.aims m) : r.aims n := by
  cases r <;> first | exact True.intro | exact Int.le_trans q h
structure Pt.ok (p : Pt) : Prop where
  row : ∀ r ∈ p.rs, r.ok ∧ r.here ∧ r.aims 9 ∧ r.aims p.rs.length
  ls : LsOk p.ls
  nls : p.ls.length ≤ 3
  nrs : p.rs.length ≤ 1999
  nes : p.es.length ≤ 1999
def Bdy (K : PySem.W.Frag) (a : Adr) (H : Hp) (c e d : Addr) (p : Pt) : Prop := ∃ (prs : List Addr) (ev : List V), H c = some (.lst (prs.map V.ref)) ∧ RowsAt a H prs p.rs ∧ H e = some (.lst ev) ∧ EntVs K H ev p.es ∧ H d = some (.dK (landKV p.ls))
theorem Bdy.same {K : PySem.W.Frag} {a : Adr} {H H' : Hp} {c e d : Addr} {p : Pt} (h : Bdy K a H c e d p) (s : Same H H') : Bdy K a H' c e d p := by
  obtain ⟨prs, ev, h1, h2, h3, h4, h5⟩ := h
  exact ⟨prs, ev, s _ _ h1, h2.same s, s _ _ h3, h4.same s, s _ _ h5⟩
def LawV (K : PySem.W.Frag) (a : Adr) (H : Hp) (v : V) (p : Pt) : Prop := ∃ t c e d, v = .ref t ∧ H t = some (.tup [.ref c, .ref e, .ref d]) ∧ Bdy K a H c e d p
def HandV (K : PySem.W.Frag) (a : Adr) (H : Hp) (v : V) (p : Pt) : Prop := ∃ t x dx c e d, v = .ref t ∧ H t = some (.tup [.ref c, .ref x]) ∧ H x = some (.ins a.C_Table dx (tabF e d)) ∧ Bdy K a H c e d p
theorem LawV.same {K : PySem.W.Frag} {a : Adr} {H H' : Hp} {v : V} {p : Pt} (h : LawV K a H v p) (s : Same H H') : LawV K a H' v p := by
  obtain ⟨t, c, e, d, h1, h2, h3⟩ := h
  exact ⟨t, c, e, d, h1, s _ _ h2, h3.same s⟩
theorem HandV.same {K : PySem.W.Frag} {a : Adr} {H H' : Hp} {v : V} {p : Pt} (h : HandV K a H v p) (s : Same H H') : HandV K a H' v p := by
  obtain ⟨t, x, dx, c, e, d, h1, h2, h3, h4⟩ := h
  exact ⟨t, x, dx, c, e, d, h1, s _ _ h2, s _ _ h3, h4.same s⟩
def AllV (R : V → Pt → Prop) (vs : List V) (ps : List Pt) : Prop := vs.length = ps.length ∧ ∀ (i : Nat) (v : V) (p : Pt), vs[i]? = some v → ps[i]? = some p → R v p
theorem AllV.nil {R : V → Pt → Prop} : AllV R [] [] := ⟨rfl, fun i v p e => by simp at e⟩
theorem AllV.imp {R R' : V → Pt → Prop} {vs : List V} {ps : List Pt} (h : AllV R vs ps) (k : ∀ v p, R v p → R' v p) : AllV R' vs ps := ⟨h.1, fun i v p e1 e2 => k v p (h.2 i v p e1 e2)⟩
theorem AllV.snoc {R : V → Pt → Prop} {vs : List V} {ps : List Pt} {v : V} {p : Pt} (h : AllV R vs ps) (q : R v p) : AllV R (vs ++ [v]) (ps ++ [p]) := by
  refine ⟨by rw [List.length_append, List.length_append, h.1]; rfl, fun i v' p' e1 e2 => ?_⟩
  by_cases hi : i < ps.length
  · rw [List.getElem?_append_left (by rw [h.1]; exact hi)] at e1
    rw [List.getElem?_append_left hi] at e2
    exact h.2 i v' p' e1 e2
  · have hi' : i = ps.length := by
      have := (List.getElem?_eq_some_iff.mp e2).1
      rw [List.length_append] at this
      simp at this; omega
    subst hi'
    rw [List.getElem?_append_right (by omega)] at e2
    rw [List.getElem?_append_right (by rw [h.1]; omega), h.1] at e1
    simp at e1 e2
    subst e1 e2
    exact q
theorem AllV.cons {R : V → Pt → Prop} {vs : List V} {ps : List Pt} {v : V} {p : Pt} (h : AllV R vs ps) (q : R v p) : AllV R (v :: vs) (p :: ps) := by
  refine ⟨by rw [List.length_cons, List.length_cons, h.1], fun i v' p' e1 e2 => ?_⟩
  cases i with
  | zero => simp at e1 e2; subst e1 e2; exact q
  | succ i => simp at e1 e2; exact h.2 i v' p' e1 e2
theorem AllV.at {R : V → Pt → Prop} {vs : List V} {ps : List Pt} {i : Nat} {v : V} (h : AllV R vs ps) (e : vs[i]? = some v) : ∃ p, ps[i]? = some p ∧ p ∈ ps ∧ R v p := by
  have hi : i < ps.length := by rw [← h.1]; exact (List.getElem?_eq_some_iff.mp e).1
  exact ⟨ps[i], List.getElem?_eq_getElem hi, List.getElem_mem hi, h.2 i v _ e (List.getElem?_eq_getElem hi)⟩
def spPart (K : PySem.W.Frag) (a : Adr) : Sp := fun vs H Q _ => ∃ c : Int, vs = [.int c] ∧ ∀ v p H', Same H H' → LawV K a H' v p → p.ok → Q v H'
def spParts (K : PySem.W.Frag) (a : Adr) : Sp := fun vs H Q _ => ∃ (s : Addr) (ns : List Int), vs = [.ref s] ∧ SqL K H s (ns.map V.int) ∧ ns.length ≤ 63 ∧ ∀ l us ps H', Same H H' → H' l = some (.lst us) → AllV (LawV K a H') us ps → (∀ p ∈ ps, p.ok) → ps.length ≤ 64 → Q (.ref l) H'
theorem rep_one {α : Type} (x : α) : ∀ n : Nat, (List.replicate n [x]).flatten = List.replicate n x
  | 0 => rfl
  | n + 1 => by rw [List.replicate_succ, List.flatten_cons, rep_one x n, List.replicate_succ]; rfl
theorem r_times1 {l : Addr} {v : V} {k : Int} {H : Hp} {Q : VK} (h : H l = some (.lst [v])) (h0 : 0 ≤ k) (h1 : k ≤ 4001) (q : ∀ p, H p = none → Q (.ref p) (upd H p (.lst (List.replicate k.toNat v)))) : rTimes (.ref l) (.int k) H Q := by
  refine .inr ⟨l, k, [v], rfl, rfl, h, by omega, by omega, by rw [sizeLine_eq, List.length_singleton]; omega, fun p hp => ?_⟩
  rw [rep_one]; exact q p hp
theorem rep_get {α : Type} {x y : α} {n i : Nat} (h : (List.replicate n x)[i]? = some y) : y = x := by
  rw [List.getElem?_replicate] at h
  split at h
  · exact (Option.some.inj h).symm
  · cases h
theorem rows_rep {a : Adr} {H : Hp} {p : Addr} {r : Rw} (h : RowAt a H p r) (n : Nat) : RowsAt a H (List.replicate n p) (List.replicate n r) := ⟨by rw [List.length_replicate, List.length_replicate], fun i p' r' e1 e2 => by rw [rep_get e1, rep_get e2]; exact h⟩
theorem ents_rep {K : PySem.W.Frag} {H : Hp} (n : Nat) : EntVs K H (List.replicate n V.non) (List.replicate n none) := ⟨by rw [List.length_replicate, List.length_replicate], fun i oe e => by
  have hi := (List.getElem?_eq_some_iff.mp e).1
  rw [List.length_replicate] at hi
  rw [rep_get e]
  exact ⟨.non, by rw [List.getElem?_replicate, if_pos hi], rfl⟩⟩


structure Jn where
  rs : List Rw
  es : List (Option Ent)
  kv : List (Key × V)
def putL (n : Int) (kv : List (Key × V)) (q : Int × Int) : List (Key × V) := putK kv (.inl (q.1 + n)) (.int (q.2 + n))
def Jn.add (j : Jn) (p : Pt) : Jn := ⟨j.rs ++ p.rs.map (fun r => r.laid (j.rs.length : Int)), j.es ++ p.es, p.ls.foldl (putL (j.rs.length : Int)) j.kv⟩
def jn (ps : List Pt) : Jn := ps.foldl Jn.add ⟨[], [], []⟩
def tot (ps : List Pt) : Nat := (ps.map fun p => p.rs.length).sum
theorem jn_snoc (ps : List Pt) (p : Pt) : jn (ps ++ [p]) = (jn ps).add p := by unfold jn; rw [List.foldl_append]; rfl
theorem tot_app (ps qs : List Pt) : tot (ps ++ qs) = tot ps + tot qs := by unfold tot; rw [List.map_append, List.sum_append]
theorem tot_one (p : Pt) : tot [p] = p.rs.length := by simp [tot]
theorem tot_sum : ∀ ps : List Pt, (ps.map fun p => ((p.rs.length : Nat) : Int)).sum = (tot ps : Int)
  | [] => rfl
  | p :: ps => by
    rw [List.map_cons, List.sum_cons, tot_sum ps, show tot (p :: ps) = p.rs.length + tot ps from by simp [tot]]
    omega
theorem tot_take (ps : List Pt) (i : Nat) : tot (ps.take i) ≤ tot ps := by
  have h := tot_app (ps.take i) (ps.drop i)
  rw [List.take_append_drop] at h
  omega
theorem take_snoc {ps : List Pt} {i : Nat} {p : Pt} (h : ps[i]? = some p) : ps.take (i + 1) = ps.take i ++ [p] := by rw [List.take_add_one, h]; rfl
theorem jn_take {ps : List Pt} {i : Nat} {p : Pt} (h : ps[i]? = some p) : jn (ps.take (i + 1)) = (jn (ps.take i)).add p := by rw [take_snoc h, jn_snoc]
theorem fold_put {n : Int} (h0 : 0 ≤ n) : ∀ {qs : List (Int × Int)} {ls : List (Int × Int)}, (∀ q ∈ qs, 0 ≤ q.1 ∧ 0 ≤ q.2) → LsOk ls → ∃ ls', qs.foldl (putL n) (landKV ls) = landKV ls' ∧ LsOk ls' ∧ ls'.length ≤ ls.length + qs.length
  | [], ls, _, h => ⟨ls, rfl, h, Nat.le_refl _⟩
  | q :: qs, ls, hq, h => by
    have := hq q List.mem_cons_self
    obtain ⟨ls1, e1, o1, n1⟩ := ls_put (c := q.1 + n) (r := q.2 + n) h (by omega) (by omega)
    obtain ⟨ls2, e2, o2, n2⟩ := fold_put h0 (qs := qs) (ls := ls1) (fun x hx => hq x (List.mem_cons_of_mem _ hx)) o1
    refine ⟨ls2, ?_, o2, by rw [List.length_cons]; omega⟩
    rw [List.foldl_cons, show putL n (landKV ls) q = landKV ls1 from e1]
    exact e2
structure JOk (j : Jn) (n m : Nat) : Prop where
  len : j.rs.length = n
  kv : ∃ ls, j.kv = landKV ls ∧ LsOk ls ∧ ls.length ≤ 3 * m
  es : j.es.length ≤ 1999 * m
theorem JOk.add {j : Jn} {n m : Nat} {p : Pt} (h : JOk j n m) (hp : p.ok) : JOk (j.add p) (n + p.rs.length) (m + 1) := by
  refine ⟨by show (j.rs ++ p.rs.map _).length = _; rw [List.length_append, List.length_map, h.len], ?_, by show (j.es ++ p.es).length ≤ _; rw [List.length_append]; have := h.es; have := hp.nes; omega⟩
  obtain ⟨ls, e, o, l⟩ := h.kv
  obtain ⟨ls', e', o', l'⟩ := fold_put (n := (j.rs.length : Int)) (by omega) hp.ls.2 o
  refine ⟨ls', ?_, o', by have := hp.nls; omega⟩
  show p.ls.foldl _ j.kv = _
  rw [e]; exact e'
theorem jn_ok {ps : List Pt} (h : ∀ p ∈ ps, p.ok) : ∀ i, i ≤ ps.length → JOk (jn (ps.take i)) (tot (ps.take i)) i
  | 0, _ => ⟨by rw [List.take_zero]; rfl, ⟨[], by rw [List.take_zero]; rfl, ⟨List.nodup_nil, fun _ z => by cases z⟩, Nat.le_refl _⟩, by rw [List.take_zero]; exact Nat.le_refl _⟩
  | i + 1, hi => by
    have e : ps[i]? = some ps[i] := List.getElem?_eq_getElem hi
    rw [jn_take e, take_snoc e, tot_app, tot_one]
    exact (jn_ok h i (by omega)).add (h _ (List.getElem_mem hi))
theorem laid_ok {r : Rw} {m n : Int} (h : r.ok) (ha : r.aims m) (h0 : 0 ≤ n) (hn : m + n ≤ 2000) : (r.laid n).ok := by
  cases r with
  | jump t => exact ⟨by have := h.1; omega, by have : t ≤ m := ha; omega⟩
  | branch b t => exact ⟨h.1, by have := h.2.1; omega, by have : t ≤ m := ha; omega⟩
  | call t => exact ⟨by have := h.1; omega, by have : t ≤ m := ha; omega⟩
  | _ => exact h
theorem RowsAt.app {a : Adr} {H : Hp} {prs qrs : List Addr} {rs qs : List Rw} (h : RowsAt a H prs rs) (k : RowsAt a H qrs qs) : RowsAt a H (prs ++ qrs) (rs ++ qs) := by
  refine ⟨by rw [List.length_append, List.length_append, h.1, k.1], fun i p r e1 e2 => ?_⟩
  by_cases hi : i < rs.length
  · rw [List.getElem?_append_left (by rw [h.1]; exact hi)] at e1
    rw [List.getElem?_append_left hi] at e2
    exact h.2 i p r e1 e2
  · rw [List.getElem?_append_right (by rw [h.1]; omega), h.1] at e1
    rw [List.getElem?_append_right (by omega)] at e2
    exact k.2 _ p r e1 e2
theorem EntVs.app {K : PySem.W.Frag} {H : Hp} {vs us : List V} {es fs : List (Option Ent)} (h : EntVs K H vs es) (k : EntVs K H us fs) : EntVs K H (vs ++ us) (es ++ fs) := by
  refine ⟨by rw [List.length_append, List.length_append, h.1, k.1], fun i o e => ?_⟩
  by_cases hi : i < es.length
  · rw [List.getElem?_append_left hi] at e
    obtain ⟨u, e1, e2⟩ := h.2 i o e
    exact ⟨u, by rw [List.getElem?_append_left (by rw [h.1]; exact hi)]; exact e1, e2⟩
  · rw [List.getElem?_append_right (by omega)] at e
    obtain ⟨u, e1, e2⟩ := k.2 _ o e
    exact ⟨u, by rw [List.getElem?_append_right (by rw [h.1]; omega), h.1]; exact e1, e2⟩
def JnAt (K : PySem.W.Frag) (a : Adr) (H : Hp) (t : Addr) (j : Jn) : Prop := ∃ x dx c e d prs ev, H t = some (.tup [.ref c, .ref x]) ∧ H x = some (.ins a.C_Table dx (tabF e d)) ∧ H c = some (.lst (prs.map V.ref)) ∧ RowsAt a H prs j.rs ∧ H e = some (.lst ev) ∧ EntVs K H ev j.es ∧ H d = some (.dK j.kv)
def spJoined (K : PySem.W.Frag) (a : Adr) : Sp := fun vs H Q E => ∃ (l : Addr) (hv : List V) (ps : List Pt), vs = [.ref l] ∧ H l = some (.lst hv) ∧ AllV (HandV K a H) hv ps ∧ (∀ p ∈ ps, p.ok) ∧ ps.length ≤ 64 ∧
  (2000 < tot ps → ∀ H', Same H H' → E (.ref a.C_NoTable) none H') ∧ (tot ps ≤ 2000 → ∀ t H', Same H H' → JnAt K a H' t (jn ps) → Q (.ref t) H')

def But (b : Addr) (H H' : Hp) : Prop := ∀ x o, H x = some o → x ≠ b → H' x = some o
theorem but_upd {H : Hp} {b : Addr} {o : HO} : But b H (upd H b o) := fun x o' e n => by rw [upd_ne n]; exact e
theorem RowAt.but {a : Adr} {H H' : Hp} {b p : Addr} {r : Rw} (k : But b H H') (hb : ∀ C d fs, H b ≠ some (.ins C d fs)) (h : RowAt a H p r) : RowAt a H' p r := by
  obtain ⟨dx, e⟩ := h
  exact ⟨dx, k _ _ e (fun z => by subst z; exact hb _ _ _ e)⟩
theorem RowsAt.but {a : Adr} {H H' : Hp} {b : Addr} {prs : List Addr} {rs : List Rw} (k : But b H H') (hb : ∀ C d fs, H b ≠ some (.ins C d fs)) (h : RowsAt a H prs rs) : RowsAt a H' prs rs := ⟨h.1, fun i p r e1 e2 => (h.2 i p r e1 e2).but k hb⟩
theorem SqT.but {K : PySem.W.Frag} {H H' : Hp} {b p : Addr} {ys : List V} (k : But b H H') (hb : ∀ xs, H b ≠ some (.tup xs)) (hf : ∀ u v, H b ≠ some (.frz u v)) (q : SqT K H p ys) : SqT K H' p ys := by
  rcases q with (q | ⟨o, q⟩) | q
  · exact .inl (.inl (k _ _ q (fun z => by subst z; exact hb _ q)))
  · exact .inl (.inr ⟨o, k _ _ q (fun z => by subst z; exact hf _ _ q)⟩)
  · exact .inr q
theorem EntVs.but {K : PySem.W.Frag} {H H' : Hp} {b : Addr} {vs : List V} {es : List (Option Ent)} (k : But b H H') (hb : ∀ xs, H b ≠ some (.tup xs)) (hf : ∀ u v, H b ≠ some (.frz u v)) (q : EntVs K H vs es) : EntVs K H' vs es := by
  refine ⟨q.1, fun i oe e => ?_⟩
  obtain ⟨v, e1, e2⟩ := q.2 i oe e
  refine ⟨v, e1, ?_⟩
  cases oe with
  | none => exact e2
  | some en =>
    obtain ⟨p, rfl, qq, h1, h2⟩ := e2
    exact ⟨p, rfl, qq, SqT.but k hb hf h1, SqT.but k hb hf h2⟩

local macro_rules | `(tactic| walk_at "mine") => `(tactic| first | (with_reducible refine r_keys ?_) | (with_reducible refine r_items ?_) | (with_reducible refine r_zipL ?_) | ((with_reducible refine' r_mixed ?h (fun _ => ?_)); (case h => omega)) | (with_reducible refine r_dnew ?_) | (with_reducible refine r_dPut ?_) | (with_reducible refine r_makeD _ _ _ ?_) | (with_reducible refine r_bitlen ?_) | (with_reducible refine r_tyI ?_) | (with_reducible refine r_low ?_) | (with_reducible refine r_gCons ?_) | (with_reducible refine r_gNil ?_) | ((with_reducible refine' r_gTup ?x ?y ?_); (case x => walk_at "sqt"); (case y => with_unfolding_all rfl)) | ((with_reducible refine' r_dict ?x ?_); (case x => walk_at "hlk")) | ((with_reducible refine' r_dputI ?x ?y ?_); (case x => walk_at "hlk"); (case y => walk_at "small")) | ((with_reducible refine' r_plusL ?x ?y ?z ?_); (case x => walk_at "hlk"); (case y => walk_at "hlk"); (case z => walk_at "small")))

section
variable {P : Program} {w : World} {K : PySem.W.Frag} {mg : Str → Option Value} {base : Heap} {a : Adr}

def toldT (r : Rw) : List V := .str r.told.1 :: r.told.2.map V.int
def toldD (r : Rw) : PyData := .tuple (.str r.told.1 :: r.told.2.map PyData.int)
def TellsAt (H : Hp) (us : List V) (rs : List Rw) : Prop := us.length = rs.length ∧ ∀ (i : Nat) (u : V) (r : Rw), us[i]? = some u → rs[i]? = some r → ∃ q, u = .ref q ∧ H q = some (.tup (toldT r))
theorem TellsAt.nil {H : Hp} : TellsAt H [] [] := ⟨rfl, fun i u r e => by simp at e⟩
theorem TellsAt.same {H H' : Hp} {us : List V} {rs : List Rw} (h : TellsAt H us rs) (s : Same H H') : TellsAt H' us rs := ⟨h.1, fun i u r e1 e2 => let ⟨q, e, k⟩ := h.2 i u r e1 e2; ⟨q, e, s _ _ k⟩⟩
theorem TellsAt.app {H : Hp} {us ws : List V} {rs qs : List Rw} (h : TellsAt H us rs) (k : TellsAt H ws qs) : TellsAt H (us ++ ws) (rs ++ qs) := by
  refine ⟨by rw [List.length_append, List.length_append, h.1, k.1], fun i p r e1 e2 => ?_⟩
  by_cases hi : i < rs.length
  · rw [List.getElem?_append_left (by rw [h.1]; exact hi)] at e1
    rw [List.getElem?_append_left hi] at e2
    exact h.2 i p r e1 e2
  · rw [List.getElem?_append_right (by rw [h.1]; omega), h.1] at e1
    rw [List.getElem?_append_right (by omega)] at e2
    exact k.2 _ p r e1 e2
theorem TellsAt.one {H : Hp} {q : Addr} {r : Rw} (h : H q = some (.tup (toldT r))) : TellsAt H [.ref q] [r] := ⟨rfl, fun i u r' e1 e2 => by
  cases i with
  | zero => simp at e1 e2; subst e1 e2; exact ⟨q, rfl, h⟩
  | succ i => simp at e1⟩
theorem TellsAt.dp {K : PySem.W.Frag} {H : Hp} : ∀ {us : List V} {rs : List Rw}, TellsAt H us rs → DpAll K H (rs.map toldD) us
  | [], [], _ => dpAll_nil
  | [], _ :: _, h => by have := h.1; simp at this
  | _ :: _, [], h => by have := h.1; simp at this
  | u :: us, r :: rs, h => by
    obtain ⟨q, e, k⟩ := h.2 0 u r rfl rfl
    subst e
    exact dpAll_cons (dp_tup (SqT.of k) (dpAll_cons (dp_str _) (dpAll_ints _))) (TellsAt.dp (us := us) (rs := rs) ⟨by simpa using h.1, fun i u r e1 e2 => h.2 (i + 1) u r (by simpa using e1) (by simpa using e2)⟩)
theorem told_lay1 (r : Rw) : (toldD r).canLay0 = true := by
  have hw : (PyData.str r.told.1).canLay0 = true := by cases r <;> simp [PyData.canLay0, Rw.told] <;> decide +kernel
  unfold toldD
  rw [PyData.canLay0, PyData.canLayAll0, canLay_ints, hw]; rfl
theorem tolds_lay : ∀ rs : List Rw, PyData.canLayAll0 (rs.map toldD) = true
  | [] => rfl
  | e :: es => by rw [List.map_cons, PyData.canLayAll0, tolds_lay es, told_lay1]; rfl
theorem told_depth1 (r : Rw) : (toldD r).depth ≤ 2 := by
  unfold toldD
  simp [PyData.depth, PyData.depthAll, depth_ints]
theorem tolds_depth : ∀ rs : List Rw, PyData.depthAll (rs.map toldD) ≤ 2
  | [] => by decide
  | e :: es => by
    have h1 := told_depth1 e
    have h2 := tolds_depth es
    rw [List.map_cons, PyData.depthAll]
    omega
theorem shaped_tolds (rs : List Rw) : shaped (.list (rs.map toldD)) = true := by
  have := tolds_depth rs
  unfold shaped
  rw [PyData.canLay0, tolds_lay, PyData.depth]
  simp; omega
theorem comp_tell {K : PySem.W.Frag} {a : Adr} {H : Hp} {l : Addr} {prs : List Addr} {rs : List Rw} {g : TG} {tc : TT} {te : TE} {fin : List V → Hp → Prop} {σ0 : L2.St} (f : Rw → Rw) (Sg : L2.St → Prop) (hl : H l = some (.lst (prs.map V.ref))) (hrs : RowsAt a H prs rs) (hn : rs.length ≤ 2000) (h0 : Sg σ0)
    (hs : ∀ (p : Addr) (r : Rw) (σ : L2.St) (H1 : Hp) (C : V → L2.St → Hp → Prop) (C' : L2.St → Hp → Prop), r ∈ rs → Sg σ → Same H H1 → RowAt a H1 p r → (∀ q σ' H2, Same H1 H2 → H2 q = some (.tup (toldT (f r))) → Sg σ' → C (.ref q) σ' H2) →
      g (.ref p) σ H1 fun σ3 H3 => tc σ3 H3 fun b H4 => if b = true then te σ3 H4 fun y H5 => C y σ3 H5 else C' σ3 H4)
    (hd : ∀ us H1, Same H H1 → TellsAt H1 us (rs.map f) → fin us H1) : CompW (Itl K l) g tc te fin σ0 H := by
  have hpl := hrs.1
  refine comp_list (K := K) (a := l) (xs := prs.map V.ref) (fun i ys σ H1 => Sg σ ∧ Same H H1 ∧ ys.length = i ∧ TellsAt H1 ys ((rs.take i).map f)) ⟨h0, Same.refl _, rfl, TellsAt.nil⟩ (fun i ys σ H1 hi ⟨_, s1, e, _⟩ => ⟨SqL.of (s1 _ _ hl), by rw [e, sizeLine_eq]; rw [List.length_map] at hi; omega⟩) ?_ ?_
  · rintro i x ys σ H1 hx ⟨sg, s1, hy, ht⟩
    obtain ⟨p, hp, rfl⟩ : ∃ p, prs[i]? = some p ∧ x = .ref p := by
      rw [List.getElem?_map] at hx
      obtain ⟨p, hp, e⟩ := Option.map_eq_some_iff.mp hx
      exact ⟨p, hp, e.symm⟩
    have hi : i < rs.length := by rw [← hpl]; exact (List.getElem?_eq_some_iff.mp hp).1
    have hri : rs[i]? = some rs[i] := List.getElem?_eq_getElem hi
    refine hs p rs[i] σ H1 (fun y σ3 H5 => Sg σ3 ∧ Same H H5 ∧ (ys ++ [y]).length = i + 1 ∧ TellsAt H5 (ys ++ [y]) ((rs.take (i + 1)).map f)) (fun σ3 H4 => Sg σ3 ∧ Same H H4 ∧ ys.length = i + 1 ∧ TellsAt H4 ys ((rs.take (i + 1)).map f)) (List.getElem_mem hi) sg s1 ((hrs.2 i p _ hp hri).same s1) (fun q σ' H2 s2 hq sg' => ⟨sg', s1.trans s2, by rw [List.length_append, hy]; rfl, ?_⟩)
    rw [List.take_add_one, hri, Option.toList_some, List.map_append]
    exact (ht.same s2).app (TellsAt.one hq)
  · rintro ys σ H1 ⟨_, s1, hy, ht⟩
    rw [List.length_map, hpl, List.take_length] at ht
    exact hd ys H1 s1 ht
theorem for_zipL {K : PySem.W.Frag} {a b : Addr} {xs ys : List V} {g : TG} {tb : TS} {D : Ends} {σ : L2.St} {H : Hp} (hy : ys.length = xs.length) (Pv : Nat → L2.St → Hp → Prop) (h0 : Pv 0 σ H) (hl : ∀ i σ H, i ≤ xs.length → Pv i σ H → SqL K H a xs ∧ SqL K H b ys)
    (hs : ∀ i x y T σ H, xs[i]? = some x → ys[i]? = some y → Pv i σ H → H T = none → g (.ref T) σ (upd H T (.tup [x, y])) fun σ2 H2 => tb { D with nx := Pv (i + 1), ct := Pv (i + 1), bk := D.nx } σ2 H2) (hd : ∀ σ H, Pv xs.length σ H → D.nx σ H) : ForW (ItzL K a b) g tb D σ H := by
  refine ⟨fun i m σ H => m = xs.length - i ∧ i ≤ xs.length ∧ Pv i σ H, ⟨xs.length, by simp, Nat.zero_le _, h0⟩, ?_⟩
  rintro i m σ H ⟨rfl, hi, p⟩
  obtain ⟨q1, q2⟩ := hl i σ H hi p
  by_cases hlt : i < xs.length
  · refine .inr ⟨⟨xs, ys, xs[i], ys[i]'(by omega), q1, q2, by simp [hlt], by simp [show i < ys.length by omega]⟩, Pv (i + 1), fun σ' H' p' => ⟨xs.length - (i + 1), by omega, rfl, hlt, p'⟩, fun x H' y => ?_⟩
    obtain ⟨T, x', y', rfl, hT, rfl, hxy⟩ := y
    obtain ⟨z1, z2⟩ := hxy _ _ q1 q2
    exact hs i x' y' T σ H z1 z2 p hT
  · have e : i = xs.length := by omega
    subst e
    exact .inl ⟨⟨xs, ys, q1, q2, .inl (Nat.le_refl _)⟩, hd σ H p⟩
def spRefused (K : PySem.W.Frag) (a : Adr) : Sp := fun vs H Q _ => ∃ (l : Addr) (hv : List V) (ps : List Pt), vs = [.ref l] ∧ H l = some (.lst hv) ∧ AllV (HandV K a H) hv ps ∧ (∀ p ∈ ps, p.ok) ∧ ps.length ≤ 64 ∧ 2000 < tot ps ∧ ∀ H', Same H H' → Q (.bl true) H'
def spStay (K : PySem.W.Frag) (a : Adr) : Sp := fun vs H Q _ => ∃ (l l2 : Addr) (hv lv : List V) (ps : List Pt), vs = [.ref l, .ref l2] ∧ H l = some (.lst hv) ∧ AllV (HandV K a H) hv ps ∧ H l2 = some (.lst lv) ∧ AllV (LawV K a H) lv ps ∧ (∀ p ∈ ps, p.ok) ∧ ∀ H', Same H H' → Q (.bl true) H'
def spLaidR (a : Adr) : Sp := fun vs H Q _ => ∃ (l : Addr) (d : Int) (prs : List Addr) (rs : List Rw), vs = [.ref l, .int d] ∧ H l = some (.lst (prs.map V.ref)) ∧ RowsAt a H prs rs ∧ (∀ r ∈ rs, r.ok ∧ r.here ∧ r.aims 9) ∧ rs.length ≤ 2000 ∧ 0 ≤ d ∧ d ≤ 1900 ∧ ∀ H', Same H H' → Q (.bl true) H'
end
section
variable {P : Program} {w : World} {K : PySem.W.Frag} {mg : Str → Option Value} {base : Heap} {a : Adr}
set_option maxHeartbeats 4000000 in
theorem ok_bounded (T : Txt K mg a) : FnE P w K mg base CX0 1 "bounded" spBounded := by
  refine fnE_of (sp := spBounded) 0 T.fn_bounded sc_bounded (fun vs H Q E h => ?_) (fun f cdv A outer s H vs Q E hr h => ?_)
  · obtain ⟨n, top, rfl, _⟩ := h
    rfl
  · obtain ⟨n, top, rfl, h0, h1, q⟩ := h
    refine ⟨_, (pss_cons (ps_if (PW.pt (pw_or (pt_cmpR op_lt (pv 0) pe_int (nomark _)) (pw_or1 (pt_cmpR op_gt (pv 0) (pv 1) (nomark _))))) (pss_one ps_never) pss_nil)
      (pss_one (ps_ret (pv 0)))), ?_⟩
    refine r_st (σ' := [some _, some _]) rfl ?_
    walk_at "rd"
    exact q
end
section
variable {P : Program} {w : World} {K : PySem.W.Frag} {mg : Str → Option Value} {base : Heap} {a : Adr}
set_option maxHeartbeats 4000000 in
theorem mkb_Table (T : Txt K mg a) : MkE P w K mg base CX0 1 "Table" a.C_Table (spTab K a.C_Table) ∧ MkD P w K mg base CX0 1 "Table" a.C_Table (spTab K a.C_Table) := by
  refine mkE_ofD (sp := (spTab K a.C_Table)) 0 T.c_Table T.i_Table sc_Table_init (fun vs H Q E h => ?_) (fun f cdv A outer s H vs Q E hr h => ?_)
  · obtain ⟨x, dx, pe, lv, xs, kvs, rfl, _⟩ := h
    rfl
  · obtain ⟨x, dx, pe, lv, xs, kvs, rfl, hx, hS, hd, q⟩ := h
    refine ⟨_, (pss_cons (ps_fldK (K := K) rfl (pv 0) (pe_callTy (call_listK (K := K) rfl) rfl T.z_list b_list (pa_cons (pv 1) pa_nil)))
      (pss_one (ps_fldK (K := K) rfl (pv 0) (pe_ifExp (pt_cmpR op_isNA (pv 2) pe_non (nomark _)) pe_dnewK (pe_callTy call_dict1 rfl T.z_dict b_dict (pa_cons (pv 2) pa_nil)))))), ?_⟩
    refine r_st (σ' := [some _, some _, some _]) rfl ?_
    rcases hd with ⟨rfl, rfl⟩ | ⟨pd, rfl, hd⟩
    · walk_at "rd"
      rename_i l hl d hd
      have nx := none_upd hd
      have nl := none_upd nx.1
      refine q l d _ hl nl.1 nl.2.symm (fun b o e ne => ?_) upd_same ?_ ?_
      · rw [upd_ne ne, upd_ne (ne_of_none (show upd (upd H l (.lst xs)) x _ b = some o from by rw [upd_ne ne, upd_ne (ne_of_none e hl)]; exact e) hd), upd_ne ne, upd_ne (ne_of_none e hl)]; exact e
      · rw [upd_ne (ne_of_none hx hl).symm, upd_ne nl.2.symm, upd_ne (ne_of_none hx hl).symm, upd_same]
      · rw [upd_ne nx.2, upd_same]
    · have npx : pd ≠ x := ne_of hd hx (by intro z; cases z)
      walk_at "rd"
      rename_i l hl d hd'
      have nx := none_upd hd'
      have nl := none_upd nx.1
      refine q l d _ hl nl.1 nl.2.symm (fun b o e ne => ?_) upd_same ?_ ?_
      · rw [upd_ne ne, upd_ne (ne_of_none (show upd (upd H l (.lst xs)) x _ b = some o from by rw [upd_ne ne, upd_ne (ne_of_none e hl)]; exact e) hd'), upd_ne ne, upd_ne (ne_of_none e hl)]; exact e
      · rw [upd_ne (ne_of_none hx hl).symm, upd_ne nl.2.symm, upd_ne (ne_of_none hx hl).symm, upd_same]
      · rw [upd_ne nx.2, upd_same]
theorem mk_Table (T : Txt K mg a) : MkE P w K mg base CX0 1 "Table" a.C_Table (spTab K a.C_Table) := (mkb_Table T).1
end
section
variable {P : Program} {w : World} {K : PySem.W.Frag} {mg : Str → Option Value} {base : Heap} {a : Adr}
set_option maxHeartbeats 4000000 in
theorem me_Set_laid (T : Txt K mg a) (b n : Int) : MethE P w K mg base CX0 1 a.C_Set "laid" (spLaid0 a (.set b n)) := by
  refine methE_of (sp := (spLaid0 a (.set b n))) 0 T.cl_Set T.m_Set_laid sc_Row_laid (fun vs H Q E h => ?_) (fun f cdv A outer s H vs Q E hr h => ?_)
  · obtain ⟨x, d, rfl, _⟩ := h
    rfl
  · obtain ⟨x, d, rfl, hx, hk, q⟩ := h
    refine ⟨_, (pss_one (ps_ret (pv 0))), ?_⟩
    refine r_st (σ' := [some _, some _]) rfl ?_
    walk_at "rd"
    exact q x H (Same.refl _) hx
end
section
variable {P : Program} {w : World} {K : PySem.W.Frag} {mg : Str → Option Value} {base : Heap} {a : Adr}
set_option maxHeartbeats 4000000 in
theorem me_Copy_laid (T : Txt K mg a) (b o : Int) : MethE P w K mg base CX0 1 a.C_Copy "laid" (spLaid0 a (.copy b o)) := by
  refine methE_of (sp := (spLaid0 a (.copy b o))) 0 T.cl_Copy T.m_Copy_laid sc_Row_laid (fun vs H Q E h => ?_) (fun f cdv A outer s H vs Q E hr h => ?_)
  · obtain ⟨x, d, rfl, _⟩ := h
    rfl
  · obtain ⟨x, d, rfl, hx, hk, q⟩ := h
    refine ⟨_, (pss_one (ps_ret (pv 0))), ?_⟩
    refine r_st (σ' := [some _, some _]) rfl ?_
    walk_at "rd"
    exact q x H (Same.refl _) hx
end
section
variable {P : Program} {w : World} {K : PySem.W.Frag} {mg : Str → Option Value} {base : Heap} {a : Adr}
set_option maxHeartbeats 4000000 in
theorem me_Add_laid (T : Txt K mg a) (b o t : Int) : MethE P w K mg base CX0 1 a.C_Add "laid" (spLaid0 a (.add b o t)) := by
  refine methE_of (sp := (spLaid0 a (.add b o t))) 0 T.cl_Add T.m_Add_laid sc_Row_laid (fun vs H Q E h => ?_) (fun f cdv A outer s H vs Q E hr h => ?_)
  · obtain ⟨x, d, rfl, _⟩ := h
    rfl
  · obtain ⟨x, d, rfl, hx, hk, q⟩ := h
    refine ⟨_, (pss_one (ps_ret (pv 0))), ?_⟩
    refine r_st (σ' := [some _, some _]) rfl ?_
    walk_at "rd"
    exact q x H (Same.refl _) hx
end
section
variable {P : Program} {w : World} {K : PySem.W.Frag} {mg : Str → Option Value} {base : Heap} {a : Adr}
set_option maxHeartbeats 4000000 in
theorem me_Grow_laid (T : Txt K mg a) (m : Int) : MethE P w K mg base CX0 1 a.C_Grow "laid" (spLaid0 a (.grow m)) := by
  refine methE_of (sp := (spLaid0 a (.grow m))) 0 T.cl_Grow T.m_Grow_laid sc_Row_laid (fun vs H Q E h => ?_) (fun f cdv A outer s H vs Q E hr h => ?_)
  · obtain ⟨x, d, rfl, _⟩ := h
    rfl
  · obtain ⟨x, d, rfl, hx, hk, q⟩ := h
    refine ⟨_, (pss_one (ps_ret (pv 0))), ?_⟩
    refine r_st (σ' := [some _, some _]) rfl ?_
    walk_at "rd"
    exact q x H (Same.refl _) hx
end
section
variable {P : Program} {w : World} {K : PySem.W.Frag} {mg : Str → Option Value} {base : Heap} {a : Adr}
set_option maxHeartbeats 4000000 in
theorem me_Shrink_laid (T : Txt K mg a) (m : Int) : MethE P w K mg base CX0 1 a.C_Shrink "laid" (spLaid0 a (.shrink m)) := by
  refine methE_of (sp := (spLaid0 a (.shrink m))) 0 T.cl_Shrink T.m_Shrink_laid sc_Row_laid (fun vs H Q E h => ?_) (fun f cdv A outer s H vs Q E hr h => ?_)
  · obtain ⟨x, d, rfl, _⟩ := h
    rfl
  · obtain ⟨x, d, rfl, hx, hk, q⟩ := h
    refine ⟨_, (pss_one (ps_ret (pv 0))), ?_⟩
    refine r_st (σ' := [some _, some _]) rfl ?_
    walk_at "rd"
    exact q x H (Same.refl _) hx
end
section
variable {P : Program} {w : World} {K : PySem.W.Frag} {mg : Str → Option Value} {base : Heap} {a : Adr}
set_option maxHeartbeats 4000000 in
theorem me_Put_laid (T : Txt K mg a) (b c : Int) : MethE P w K mg base CX0 1 a.C_Put "laid" (spLaid0 a (.put b c)) := by
  refine methE_of (sp := (spLaid0 a (.put b c))) 0 T.cl_Put T.m_Put_laid sc_Row_laid (fun vs H Q E h => ?_) (fun f cdv A outer s H vs Q E hr h => ?_)
  · obtain ⟨x, d, rfl, _⟩ := h
    rfl
  · obtain ⟨x, d, rfl, hx, hk, q⟩ := h
    refine ⟨_, (pss_one (ps_ret (pv 0))), ?_⟩
    refine r_st (σ' := [some _, some _]) rfl ?_
    walk_at "rd"
    exact q x H (Same.refl _) hx
end
section
variable {P : Program} {w : World} {K : PySem.W.Frag} {mg : Str → Option Value} {base : Heap} {a : Adr}
set_option maxHeartbeats 4000000 in
theorem me_Get_laid (T : Txt K mg a) (b c : Int) : MethE P w K mg base CX0 1 a.C_Get "laid" (spLaid0 a (.get b c)) := by
  refine methE_of (sp := (spLaid0 a (.get b c))) 0 T.cl_Get T.m_Get_laid sc_Row_laid (fun vs H Q E h => ?_) (fun f cdv A outer s H vs Q E hr h => ?_)
  · obtain ⟨x, d, rfl, _⟩ := h
    rfl
  · obtain ⟨x, d, rfl, hx, hk, q⟩ := h
    refine ⟨_, (pss_one (ps_ret (pv 0))), ?_⟩
    refine r_st (σ' := [some _, some _]) rfl ?_
    walk_at "rd"
    exact q x H (Same.refl _) hx
end
section
variable {P : Program} {w : World} {K : PySem.W.Frag} {mg : Str → Option Value} {base : Heap} {a : Adr}
set_option maxHeartbeats 4000000 in
theorem me_Back_laid (T : Txt K mg a) (b : Int) : MethE P w K mg base CX0 1 a.C_Back "laid" (spLaid0 a (.back b)) := by
  refine methE_of (sp := (spLaid0 a (.back b))) 0 T.cl_Back T.m_Back_laid sc_Row_laid (fun vs H Q E h => ?_) (fun f cdv A outer s H vs Q E hr h => ?_)
  · obtain ⟨x, d, rfl, _⟩ := h
    rfl
  · obtain ⟨x, d, rfl, hx, hk, q⟩ := h
    refine ⟨_, (pss_one (ps_ret (pv 0))), ?_⟩
    refine r_st (σ' := [some _, some _]) rfl ?_
    walk_at "rd"
    exact q x H (Same.refl _) hx
end
section
variable {P : Program} {w : World} {K : PySem.W.Frag} {mg : Str → Option Value} {base : Heap} {a : Adr}
set_option maxHeartbeats 4000000 in
theorem me_Drop_laid (T : Txt K mg a) (b : Int) : MethE P w K mg base CX0 1 a.C_Drop "laid" (spLaid0 a (.drop b)) := by
  refine methE_of (sp := (spLaid0 a (.drop b))) 0 T.cl_Drop T.m_Drop_laid sc_Row_laid (fun vs H Q E h => ?_) (fun f cdv A outer s H vs Q E hr h => ?_)
  · obtain ⟨x, d, rfl, _⟩ := h
    rfl
  · obtain ⟨x, d, rfl, hx, hk, q⟩ := h
    refine ⟨_, (pss_one (ps_ret (pv 0))), ?_⟩
    refine r_st (σ' := [some _, some _]) rfl ?_
    walk_at "rd"
    exact q x H (Same.refl _) hx
end
section
variable {P : Program} {w : World} {K : PySem.W.Frag} {mg : Str → Option Value} {base : Heap} {a : Adr}
set_option maxHeartbeats 4000000 in
theorem me_Set_told (T : Txt K mg a) (b n : Int) : MethE P w K mg base CX0 1 a.C_Set "told" (spTold a (.set b n)) := by
  refine methE_of (sp := (spTold a (.set b n))) 0 T.cl_Set T.m_Set_told sc_Set_told (fun vs H Q E h => ?_) (fun f cdv A outer s H vs Q E hr h => ?_)
  · obtain ⟨x, rfl, _⟩ := h
    rfl
  · obtain ⟨x, rfl, ⟨dx, hx⟩, q⟩ := h
    change H x = some (.ins a.C_Set dx (putF "number" (.int n) (putF "box" (.int b) []))) at hx
    refine ⟨_, (pss_one (ps_ret (pe_tup (pa_cons pe_str (pa_cons (pe_fldK (K := K) rfl (pv 0)) (pa_cons (pe_fldK (K := K) rfl (pv 0)) pa_nil)))))), ?_⟩
    refine r_st (σ' := [some _]) rfl ?_
    walk_at "rd"
    exact q _ (by assumption)
end
section
variable {P : Program} {w : World} {K : PySem.W.Frag} {mg : Str → Option Value} {base : Heap} {a : Adr}
set_option maxHeartbeats 4000000 in
theorem me_Copy_told (T : Txt K mg a) (b o : Int) : MethE P w K mg base CX0 1 a.C_Copy "told" (spTold a (.copy b o)) := by
  refine methE_of (sp := (spTold a (.copy b o))) 0 T.cl_Copy T.m_Copy_told sc_Copy_told (fun vs H Q E h => ?_) (fun f cdv A outer s H vs Q E hr h => ?_)
  · obtain ⟨x, rfl, _⟩ := h
    rfl
  · obtain ⟨x, rfl, ⟨dx, hx⟩, q⟩ := h
    change H x = some (.ins a.C_Copy dx (putF "one" (.int o) (putF "box" (.int b) []))) at hx
    refine ⟨_, (pss_one (ps_ret (pe_tup (pa_cons pe_str (pa_cons (pe_fldK (K := K) rfl (pv 0)) (pa_cons (pe_fldK (K := K) rfl (pv 0)) pa_nil)))))), ?_⟩
    refine r_st (σ' := [some _]) rfl ?_
    walk_at "rd"
    exact q _ (by assumption)
end
section
variable {P : Program} {w : World} {K : PySem.W.Frag} {mg : Str → Option Value} {base : Heap} {a : Adr}
set_option maxHeartbeats 4000000 in
theorem me_Add_told (T : Txt K mg a) (b o t : Int) : MethE P w K mg base CX0 1 a.C_Add "told" (spTold a (.add b o t)) := by
  refine methE_of (sp := (spTold a (.add b o t))) 0 T.cl_Add T.m_Add_told sc_Add_told (fun vs H Q E h => ?_) (fun f cdv A outer s H vs Q E hr h => ?_)
  · obtain ⟨x, rfl, _⟩ := h
    rfl
  · obtain ⟨x, rfl, ⟨dx, hx⟩, q⟩ := h
    change H x = some (.ins a.C_Add dx (putF "other" (.int t) (putF "one" (.int o) (putF "box" (.int b) [])))) at hx
    refine ⟨_, (pss_one (ps_ret (pe_tup (pa_cons pe_str (pa_cons (pe_fldK (K := K) rfl (pv 0)) (pa_cons (pe_fldK (K := K) rfl (pv 0)) (pa_cons (pe_fldK (K := K) rfl (pv 0)) pa_nil))))))), ?_⟩
    refine r_st (σ' := [some _]) rfl ?_
    walk_at "rd"
    exact q _ (by assumption)
end
section
variable {P : Program} {w : World} {K : PySem.W.Frag} {mg : Str → Option Value} {base : Heap} {a : Adr}
set_option maxHeartbeats 4000000 in
theorem me_Grow_told (T : Txt K mg a) (m : Int) : MethE P w K mg base CX0 1 a.C_Grow "told" (spTold a (.grow m)) := by
  refine methE_of (sp := (spTold a (.grow m))) 0 T.cl_Grow T.m_Grow_told sc_Grow_told (fun vs H Q E h => ?_) (fun f cdv A outer s H vs Q E hr h => ?_)
  · obtain ⟨x, rfl, _⟩ := h
    rfl
  · obtain ⟨x, rfl, ⟨dx, hx⟩, q⟩ := h
    change H x = some (.ins a.C_Grow dx (putF "many" (.int m) [])) at hx
    refine ⟨_, (pss_one (ps_ret (pe_tup (pa_cons pe_str (pa_cons (pe_fldK (K := K) rfl (pv 0)) pa_nil))))), ?_⟩
    refine r_st (σ' := [some _]) rfl ?_
    walk_at "rd"
    exact q _ (by assumption)
end
section
variable {P : Program} {w : World} {K : PySem.W.Frag} {mg : Str → Option Value} {base : Heap} {a : Adr}
set_option maxHeartbeats 4000000 in
theorem me_Shrink_told (T : Txt K mg a) (m : Int) : MethE P w K mg base CX0 1 a.C_Shrink "told" (spTold a (.shrink m)) := by
  refine methE_of (sp := (spTold a (.shrink m))) 0 T.cl_Shrink T.m_Shrink_told sc_Shrink_told (fun vs H Q E h => ?_) (fun f cdv A outer s H vs Q E hr h => ?_)
  · obtain ⟨x, rfl, _⟩ := h
    rfl
  · obtain ⟨x, rfl, ⟨dx, hx⟩, q⟩ := h
    change H x = some (.ins a.C_Shrink dx (putF "many" (.int m) [])) at hx
    refine ⟨_, (pss_one (ps_ret (pe_tup (pa_cons pe_str (pa_cons (pe_fldK (K := K) rfl (pv 0)) pa_nil))))), ?_⟩
    refine r_st (σ' := [some _]) rfl ?_
    walk_at "rd"
    exact q _ (by assumption)
end
section
variable {P : Program} {w : World} {K : PySem.W.Frag} {mg : Str → Option Value} {base : Heap} {a : Adr}
set_option maxHeartbeats 4000000 in
theorem me_Put_told (T : Txt K mg a) (b c : Int) : MethE P w K mg base CX0 1 a.C_Put "told" (spTold a (.put b c)) := by
  refine methE_of (sp := (spTold a (.put b c))) 0 T.cl_Put T.m_Put_told sc_Put_told (fun vs H Q E h => ?_) (fun f cdv A outer s H vs Q E hr h => ?_)
  · obtain ⟨x, rfl, _⟩ := h
    rfl
  · obtain ⟨x, rfl, ⟨dx, hx⟩, q⟩ := h
    change H x = some (.ins a.C_Put dx (putF "cell" (.int c) (putF "box" (.int b) []))) at hx
    refine ⟨_, (pss_one (ps_ret (pe_tup (pa_cons pe_str (pa_cons (pe_fldK (K := K) rfl (pv 0)) (pa_cons (pe_fldK (K := K) rfl (pv 0)) pa_nil)))))), ?_⟩
    refine r_st (σ' := [some _]) rfl ?_
    walk_at "rd"
    exact q _ (by assumption)
end
section
variable {P : Program} {w : World} {K : PySem.W.Frag} {mg : Str → Option Value} {base : Heap} {a : Adr}
set_option maxHeartbeats 4000000 in
theorem me_Get_told (T : Txt K mg a) (b c : Int) : MethE P w K mg base CX0 1 a.C_Get "told" (spTold a (.get b c)) := by
  refine methE_of (sp := (spTold a (.get b c))) 0 T.cl_Get T.m_Get_told sc_Get_told (fun vs H Q E h => ?_) (fun f cdv A outer s H vs Q E hr h => ?_)
  · obtain ⟨x, rfl, _⟩ := h
    rfl
  · obtain ⟨x, rfl, ⟨dx, hx⟩, q⟩ := h
    change H x = some (.ins a.C_Get dx (putF "cell" (.int c) (putF "box" (.int b) []))) at hx
    refine ⟨_, (pss_one (ps_ret (pe_tup (pa_cons pe_str (pa_cons (pe_fldK (K := K) rfl (pv 0)) (pa_cons (pe_fldK (K := K) rfl (pv 0)) pa_nil)))))), ?_⟩
    refine r_st (σ' := [some _]) rfl ?_
    walk_at "rd"
    exact q _ (by assumption)
end
section
variable {P : Program} {w : World} {K : PySem.W.Frag} {mg : Str → Option Value} {base : Heap} {a : Adr}
set_option maxHeartbeats 4000000 in
theorem me_Jump_told (T : Txt K mg a) (t : Int) : MethE P w K mg base CX0 1 a.C_Jump "told" (spTold a (.jump t)) := by
  refine methE_of (sp := (spTold a (.jump t))) 0 T.cl_Jump T.m_Jump_told sc_Jump_told (fun vs H Q E h => ?_) (fun f cdv A outer s H vs Q E hr h => ?_)
  · obtain ⟨x, rfl, _⟩ := h
    rfl
  · obtain ⟨x, rfl, ⟨dx, hx⟩, q⟩ := h
    change H x = some (.ins a.C_Jump dx (putF "target" (.int t) [])) at hx
    refine ⟨_, (pss_one (ps_ret (pe_tup (pa_cons pe_str (pa_cons (pe_fldK (K := K) rfl (pv 0)) pa_nil))))), ?_⟩
    refine r_st (σ' := [some _]) rfl ?_
    walk_at "rd"
    exact q _ (by assumption)
end
section
variable {P : Program} {w : World} {K : PySem.W.Frag} {mg : Str → Option Value} {base : Heap} {a : Adr}
set_option maxHeartbeats 4000000 in
theorem me_Branch_told (T : Txt K mg a) (b t : Int) : MethE P w K mg base CX0 1 a.C_Branch "told" (spTold a (.branch b t)) := by
  refine methE_of (sp := (spTold a (.branch b t))) 0 T.cl_Branch T.m_Branch_told sc_Branch_told (fun vs H Q E h => ?_) (fun f cdv A outer s H vs Q E hr h => ?_)
  · obtain ⟨x, rfl, _⟩ := h
    rfl
  · obtain ⟨x, rfl, ⟨dx, hx⟩, q⟩ := h
    change H x = some (.ins a.C_Branch dx (putF "target" (.int t) (putF "box" (.int b) []))) at hx
    refine ⟨_, (pss_one (ps_ret (pe_tup (pa_cons pe_str (pa_cons (pe_fldK (K := K) rfl (pv 0)) (pa_cons (pe_fldK (K := K) rfl (pv 0)) pa_nil)))))), ?_⟩
    refine r_st (σ' := [some _]) rfl ?_
    walk_at "rd"
    exact q _ (by assumption)
end
section
variable {P : Program} {w : World} {K : PySem.W.Frag} {mg : Str → Option Value} {base : Heap} {a : Adr}
set_option maxHeartbeats 4000000 in
theorem me_Call_told (T : Txt K mg a) (t : Int) : MethE P w K mg base CX0 1 a.C_Call "told" (spTold a (.call t)) := by
  refine methE_of (sp := (spTold a (.call t))) 0 T.cl_Call T.m_Call_told sc_Call_told (fun vs H Q E h => ?_) (fun f cdv A outer s H vs Q E hr h => ?_)
  · obtain ⟨x, rfl, _⟩ := h
    rfl
  · obtain ⟨x, rfl, ⟨dx, hx⟩, q⟩ := h
    change H x = some (.ins a.C_Call dx (putF "target" (.int t) [])) at hx
    refine ⟨_, (pss_one (ps_ret (pe_tup (pa_cons pe_str (pa_cons (pe_fldK (K := K) rfl (pv 0)) pa_nil))))), ?_⟩
    refine r_st (σ' := [some _]) rfl ?_
    walk_at "rd"
    exact q _ (by assumption)
end
section
variable {P : Program} {w : World} {K : PySem.W.Frag} {mg : Str → Option Value} {base : Heap} {a : Adr}
set_option maxHeartbeats 4000000 in
theorem me_Back_told (T : Txt K mg a) (b : Int) : MethE P w K mg base CX0 1 a.C_Back "told" (spTold a (.back b)) := by
  refine methE_of (sp := (spTold a (.back b))) 0 T.cl_Back T.m_Back_told sc_Back_told (fun vs H Q E h => ?_) (fun f cdv A outer s H vs Q E hr h => ?_)
  · obtain ⟨x, rfl, _⟩ := h
    rfl
  · obtain ⟨x, rfl, ⟨dx, hx⟩, q⟩ := h
    change H x = some (.ins a.C_Back dx (putF "box" (.int b) [])) at hx
    refine ⟨_, (pss_one (ps_ret (pe_tup (pa_cons pe_str (pa_cons (pe_fldK (K := K) rfl (pv 0)) pa_nil))))), ?_⟩
    refine r_st (σ' := [some _]) rfl ?_
    walk_at "rd"
    exact q _ (by assumption)
end
section
variable {P : Program} {w : World} {K : PySem.W.Frag} {mg : Str → Option Value} {base : Heap} {a : Adr}
set_option maxHeartbeats 4000000 in
theorem me_Drop_told (T : Txt K mg a) (b : Int) : MethE P w K mg base CX0 1 a.C_Drop "told" (spTold a (.drop b)) := by
  refine methE_of (sp := (spTold a (.drop b))) 0 T.cl_Drop T.m_Drop_told sc_Drop_told (fun vs H Q E h => ?_) (fun f cdv A outer s H vs Q E hr h => ?_)
  · obtain ⟨x, rfl, _⟩ := h
    rfl
  · obtain ⟨x, rfl, ⟨dx, hx⟩, q⟩ := h
    change H x = some (.ins a.C_Drop dx (putF "box" (.int b) [])) at hx
    refine ⟨_, (pss_one (ps_ret (pe_tup (pa_cons pe_str (pa_cons (pe_fldK (K := K) rfl (pv 0)) pa_nil))))), ?_⟩
    refine r_st (σ' := [some _]) rfl ?_
    walk_at "rd"
    exact q _ (by assumption)
end
section
variable {P : Program} {w : World} {K : PySem.W.Frag} {mg : Str → Option Value} {base : Heap} {a : Adr}
set_option maxHeartbeats 4000000 in
theorem ok_law_cell_at (T : Txt K mg a) : FnE P w K mg base CX0 1 "_law_cell_at" (spCellAt K) := by
  refine fnE_of (sp := (spCellAt K)) 0 T.fn_law_cell_at sc_law_cell_at (fun vs H Q E h => ?_) (fun f cdv A outer s H vs Q E hr h => ?_)
  · obtain ⟨p, ns, k, rfl, _⟩ := h
    rfl
  · obtain ⟨p, ns, k, rfl, hS, h0, q⟩ := h
    refine ⟨_, (pss_cons (ps_if (pt_cmpR op_lt (pv 1) (pe_callB (call_lenK (K := K) rfl) rfl T.z_len b_len (pa_cons (pv 0) pa_nil)) (nomark _)) (pss_one (ps_ret (pe_ix (ix_K (K := K) rfl) (pv 0) (pv 1) (fun _ _ => rfl)))) pss_nil)
      (pss_one (ps_ret pe_int))), ?_⟩
    refine r_st (σ' := [some _, some _]) rfl ?_
    walk_at "rd"
    refine ifDec (fun hh => ?_) (fun hh => ?_)
    · walk_at "rd"
      exact q
    · walk_at "rd"
      have e := cellAt_out h0 hh
      rw [e] at q
      exact q
end
section
variable {P : Program} {w : World} {K : PySem.W.Frag} {mg : Str → Option Value} {base : Heap} {a : Adr}
set_option maxHeartbeats 4000000 in
theorem ok_law_mixed (T : Txt K mg a) : FnE P w K mg base CX0 1 "_law_mixed" spMixed := by
  refine fnE_of (sp := spMixed) 0 T.fn_law_mixed sc_law_mixed (fun vs H Q E h => ?_) (fun f cdv A outer s H vs Q E hr h => ?_)
  · obtain ⟨c, k, rfl, _⟩ := h
    rfl
  · obtain ⟨c, k, rfl, h0, q⟩ := h
    refine ⟨_, (pss_cons (ps_if (pt_cmpR (op_eqK (K := K) rfl hr.units) (pe_op op_mod (pv 0) pe_int) pe_int (nomark _)) (pss_one (ps_ret (pe_op op_and (pe_op op_shr (pe_op op_fdiv (pv 0) pe_int) (pe_op op_times pe_int (pv 1))) pe_int))) pss_nil)
      (pss_cons (ps_set (i := 2) sc_law_mixed.nd rfl (Or.inl rfl) (pe_op op_mod (pe_op op_times (pe_op (op_plusK (K := K) rfl) (pe_op (op_plusK (K := K) rfl) (pe_op op_mod (pv 0) pe_int) (pe_op op_times pe_int (pv 1))) pe_int) pe_int) pe_int))
      (pss_cons (ps_set (i := 2) sc_law_mixed.nd rfl (Or.inl rfl) (pe_op op_mod (pe_op op_times (pv 2) (pe_op (op_plusK (K := K) rfl) (pe_op op_fdiv (pv 2) pe_int) pe_int)) pe_int))
      (pss_one (ps_ret (pe_op op_mod (pe_op op_times (pv 2) (pe_op (op_plusK (K := K) rfl) (pe_op (op_plusK (K := K) rfl) (pe_op op_fdiv (pv 2) pe_int) pe_int) (pv 1))) pe_int)))))), ?_⟩
    refine r_st (σ' := [some _, some _, none]) rfl ?_
    walk_at "rds"
    all_goals exact q _
end
section
variable {P : Program} {w : World} {K : PySem.W.Frag} {mg : Str → Option Value} {base : Heap} {a : Adr}
set_option maxHeartbeats 4000000 in
theorem ok_law_entry (T : Txt K mg a) : FnE P w K mg base CX0 1 "_law_entry" (spAnyE K) := by
  refine fnE_of (sp := (spAnyE K)) 0 T.fn_law_entry sc_law_entry (fun vs H Q E h => ?_) (fun f cdv A outer s H vs Q E hr h => ?_)
  · obtain ⟨c, rfl, _⟩ := h
    rfl
  · obtain ⟨c, rfl, q⟩ := h
    refine ⟨_, (pss_cons (ps_if (pt_cmpR (op_eqK (K := K) rfl hr.units) (pe_op op_mod (pv 0) pe_int) pe_int (nomark _)) (pss_one (ps_ret pe_non)) pss_nil)
      (pss_cons (ps_set (i := 1) sc_law_entry.nd rfl (Or.inl rfl) (pe_tup (pa_cons (pe_op (op_plusK (K := K) rfl) pe_int (pe_op op_mod (pe_op op_fdiv (pv 0) pe_int) pe_int)) (pa_cons (pe_op (op_plusK (K := K) rfl) pe_int (pe_op op_mod (pe_op op_fdiv (pv 0) pe_int) pe_int)) (pa_cons (pe_op (op_plusK (K := K) rfl) pe_int (pe_op op_mod (pe_op op_fdiv (pv 0) pe_int) pe_int)) pa_nil)))))
      (pss_one (ps_ret (pe_tup (pa_cons (pe_op op_mod (pe_op op_fdiv (pv 0) pe_int) pe_int) (pa_cons (pe_op (op_plusK (K := K) rfl) pe_int (pe_op op_mod (pe_op op_fdiv (pv 0) pe_int) pe_int)) (pa_cons (pv 1) pa_nil)))))))), ?_⟩
    refine r_st (σ' := [some _, none]) rfl ?_
    walk_at "rd"
    refine ifInt (fun hh => ?_) (fun hh => ?_)
    · walk_at "rd"
      exact q .non none H (Same.refl _) rfl
    · walk_at "rd"
      rename_i p np t nt
      exact q _ (some ⟨_, _, _, _, _⟩) _ (by walk_at "same") ⟨t, rfl, p, SqT.of upd_same, SqT.of (look_new upd_same nt)⟩
end
section
variable {P : Program} {w : World} {K : PySem.W.Frag} {mg : Str → Option Value} {base : Heap} {a : Adr}
set_option maxHeartbeats 4000000 in
theorem ok_law_moved (T : Txt K mg a) : FnE P w K mg base CX0 1 "_law_moved" spMoved := by
  refine fnE_of (sp := spMoved) 0 T.fn_law_moved sc_law_moved (fun vs H Q E h => ?_) (fun f cdv A outer s H vs Q E hr h => ?_)
  · obtain ⟨t, d, r, rfl, _⟩ := h
    rfl
  · obtain ⟨t, d, r, rfl, ht, q⟩ := h
    refine ⟨_, (pss_cons (ps_if (pt_cmpR (op_inK (K := K) rfl) (pe_ix (ix_K (K := K) rfl) (pv 0) pe_int (fun _ _ => rfl)) (pe_lst (pa_cons pe_str (pa_cons pe_str (pa_cons pe_str pa_nil)))) rfl) (pss_one (ps_ret (pe_op (op_plusK (K := K) rfl) (pe_slice (sl_K (K := K) rfl) (pv 0) po_none (po_some (pe_un un_neg pe_int))) (pe_tup (pa_cons (pe_op (op_plusK (K := K) rfl) (pe_ix (ix_K (K := K) rfl) (pv 0) (pe_un un_neg pe_int) (fun _ _ => rfl)) (pv 1)) pa_nil))))) pss_nil)
      (pss_one (ps_ret (pv 0)))), ?_⟩
    refine r_st (σ' := [some _, some _]) rfl ?_
    cases r with
    | set b' n' =>
      change H t = some (.tup [.str "set", .int b', .int n']) at ht
      walk_at "rd"
      refine r_inP (SqL.of upd_same) rfl rfl ?_
      rw [show inV (V.str "set") [V.str "jump", V.str "branch", V.str "call"] = false from by decide +kernel]
      walk_at "rd"
      exact q t _ (by walk_at "same") (by show _ = some (HO.tup [.str "set", .int b', .int n']); walk_at "hlk")
    | copy b' o' =>
      change H t = some (.tup [.str "copy", .int b', .int o']) at ht
      walk_at "rd"
      refine r_inP (SqL.of upd_same) rfl rfl ?_
      rw [show inV (V.str "copy") [V.str "jump", V.str "branch", V.str "call"] = false from by decide +kernel]
      walk_at "rd"
      exact q t _ (by walk_at "same") (by show _ = some (HO.tup [.str "copy", .int b', .int o']); walk_at "hlk")
    | add b' o' t' =>
      change H t = some (.tup [.str "add", .int b', .int o', .int t']) at ht
      walk_at "rd"
      refine r_inP (SqL.of upd_same) rfl rfl ?_
      rw [show inV (V.str "add") [V.str "jump", V.str "branch", V.str "call"] = false from by decide +kernel]
      walk_at "rd"
      exact q t _ (by walk_at "same") (by show _ = some (HO.tup [.str "add", .int b', .int o', .int t']); walk_at "hlk")
    | sub b' o' t' =>
      change H t = some (.tup [.str "sub", .int b', .int o', .int t']) at ht
      walk_at "rd"
      refine r_inP (SqL.of upd_same) rfl rfl ?_
      rw [show inV (V.str "sub") [V.str "jump", V.str "branch", V.str "call"] = false from by decide +kernel]
      walk_at "rd"
      exact q t _ (by walk_at "same") (by show _ = some (HO.tup [.str "sub", .int b', .int o', .int t']); walk_at "hlk")
    | mul b' o' t' =>
      change H t = some (.tup [.str "mul", .int b', .int o', .int t']) at ht
      walk_at "rd"
      refine r_inP (SqL.of upd_same) rfl rfl ?_
      rw [show inV (V.str "mul") [V.str "jump", V.str "branch", V.str "call"] = false from by decide +kernel]
      walk_at "rd"
      exact q t _ (by walk_at "same") (by show _ = some (HO.tup [.str "mul", .int b', .int o', .int t']); walk_at "hlk")
    | less b' o' t' =>
      change H t = some (.tup [.str "less", .int b', .int o', .int t']) at ht
      walk_at "rd"
      refine r_inP (SqL.of upd_same) rfl rfl ?_
      rw [show inV (V.str "less") [V.str "jump", V.str "branch", V.str "call"] = false from by decide +kernel]
      walk_at "rd"
      exact q t _ (by walk_at "same") (by show _ = some (HO.tup [.str "less", .int b', .int o', .int t']); walk_at "hlk")
    | grow m' =>
      change H t = some (.tup [.str "grow", .int m']) at ht
      walk_at "rd"
      refine r_inP (SqL.of upd_same) rfl rfl ?_
      rw [show inV (V.str "grow") [V.str "jump", V.str "branch", V.str "call"] = false from by decide +kernel]
      walk_at "rd"
      exact q t _ (by walk_at "same") (by show _ = some (HO.tup [.str "grow", .int m']); walk_at "hlk")
    | shrink m' =>
      change H t = some (.tup [.str "shrink", .int m']) at ht
      walk_at "rd"
      refine r_inP (SqL.of upd_same) rfl rfl ?_
      rw [show inV (V.str "shrink") [V.str "jump", V.str "branch", V.str "call"] = false from by decide +kernel]
      walk_at "rd"
      exact q t _ (by walk_at "same") (by show _ = some (HO.tup [.str "shrink", .int m']); walk_at "hlk")
    | put b' c' =>
      change H t = some (.tup [.str "put", .int b', .int c']) at ht
      walk_at "rd"
      refine r_inP (SqL.of upd_same) rfl rfl ?_
      rw [show inV (V.str "put") [V.str "jump", V.str "branch", V.str "call"] = false from by decide +kernel]
      walk_at "rd"
      exact q t _ (by walk_at "same") (by show _ = some (HO.tup [.str "put", .int b', .int c']); walk_at "hlk")
    | get b' c' =>
      change H t = some (.tup [.str "get", .int b', .int c']) at ht
      walk_at "rd"
      refine r_inP (SqL.of upd_same) rfl rfl ?_
      rw [show inV (V.str "get") [V.str "jump", V.str "branch", V.str "call"] = false from by decide +kernel]
      walk_at "rd"
      exact q t _ (by walk_at "same") (by show _ = some (HO.tup [.str "get", .int b', .int c']); walk_at "hlk")
    | jump t' =>
      change H t = some (.tup [.str "jump", .int t']) at ht
      walk_at "rd"
      refine r_inP (SqL.of upd_same) rfl rfl ?_
      rw [show inV (V.str "jump") [V.str "jump", V.str "branch", V.str "call"] = true from by decide +kernel]
      walk_at "rd"
      refine r_slT (SqT.of (xs := .str "jump" :: ([] ++ [.int t'])) (show _ = some (HO.tup [.str "jump", .int t']) from by walk_at "hlk")) (cut_last_ne _ _ _) (fun lq hlq => ?_)
      rw [cut_last]
      walk_at "rd"
      refine r_plusT (SqT.of (by walk_at "hlk")) (SqT.of upd_same) (fun z => by cases z) (fun z => by cases z) (by walk_at "small") fun lu hlu => ?_
      exact q lu _ (by walk_at "same") upd_same
    | branch b' t' =>
      change H t = some (.tup [.str "branch", .int b', .int t']) at ht
      walk_at "rd"
      refine r_inP (SqL.of upd_same) rfl rfl ?_
      rw [show inV (V.str "branch") [V.str "jump", V.str "branch", V.str "call"] = true from by decide +kernel]
      walk_at "rd"
      refine r_slT (SqT.of (xs := .str "branch" :: ([.int b'] ++ [.int t'])) (show _ = some (HO.tup [.str "branch", .int b', .int t']) from by walk_at "hlk")) (cut_last_ne _ _ _) (fun lq hlq => ?_)
      rw [cut_last]
      walk_at "rd"
      refine r_plusT (SqT.of (by walk_at "hlk")) (SqT.of upd_same) (fun z => by cases z) (fun z => by cases z) (by walk_at "small") fun lu hlu => ?_
      exact q lu _ (by walk_at "same") upd_same
    | call t' =>
      change H t = some (.tup [.str "call", .int t']) at ht
      walk_at "rd"
      refine r_inP (SqL.of upd_same) rfl rfl ?_
      rw [show inV (V.str "call") [V.str "jump", V.str "branch", V.str "call"] = true from by decide +kernel]
      walk_at "rd"
      refine r_slT (SqT.of (xs := .str "call" :: ([] ++ [.int t'])) (show _ = some (HO.tup [.str "call", .int t']) from by walk_at "hlk")) (cut_last_ne _ _ _) (fun lq hlq => ?_)
      rw [cut_last]
      walk_at "rd"
      refine r_plusT (SqT.of (by walk_at "hlk")) (SqT.of upd_same) (fun z => by cases z) (fun z => by cases z) (by walk_at "small") fun lu hlu => ?_
      exact q lu _ (by walk_at "same") upd_same
    | back b' =>
      change H t = some (.tup [.str "back", .int b']) at ht
      walk_at "rd"
      refine r_inP (SqL.of upd_same) rfl rfl ?_
      rw [show inV (V.str "back") [V.str "jump", V.str "branch", V.str "call"] = false from by decide +kernel]
      walk_at "rd"
      exact q t _ (by walk_at "same") (by show _ = some (HO.tup [.str "back", .int b']); walk_at "hlk")
    | drop b' =>
      change H t = some (.tup [.str "drop", .int b']) at ht
      walk_at "rd"
      refine r_inP (SqL.of upd_same) rfl rfl ?_
      rw [show inV (V.str "drop") [V.str "jump", V.str "branch", V.str "call"] = false from by decide +kernel]
      walk_at "rd"
      exact q t _ (by walk_at "same") (by show _ = some (HO.tup [.str "drop", .int b']); walk_at "hlk")
end
section
variable {P : Program} {w : World} {K : PySem.W.Frag} {mg : Str → Option Value} {base : Heap} {a : Adr}
theorem flds_told (r : Rw) : r.flds.lookup ("told" : Str) = none := by
  cases r <;> (show List.lookup _ (putF _ _ _) = none; walk_at "nolk")
theorem me_all_told (T : Txt K mg a) {r : Rw} (hr : r.here) : MethE P w K mg base CX0 1 (r.cls a) "told" (spTold a r) := by
  cases r
  · exact (me_Set_told T _ _).mono (by decide)
  · exact (me_Copy_told T _ _).mono (by decide)
  · exact (me_Add_told T _ _ _).mono (by decide)
  · exact hr.elim
  · exact hr.elim
  · exact hr.elim
  · exact (me_Grow_told T _).mono (by decide)
  · exact (me_Shrink_told T _).mono (by decide)
  · exact (me_Put_told T _ _).mono (by decide)
  · exact (me_Get_told T _ _).mono (by decide)
  · exact (me_Jump_told T _).mono (by decide)
  · exact (me_Branch_told T _ _).mono (by decide)
  · exact (me_Call_told T _).mono (by decide)
  · exact (me_Back_told T _).mono (by decide)
  · exact (me_Drop_told T _).mono (by decide)
end
section
variable {P : Program} {w : World} {K : PySem.W.Frag} {mg : Str → Option Value} {base : Heap} {a : Adr}
set_option maxHeartbeats 4000000 in
theorem mk_Set (T : Txt K mg a) : MkE P w K mg base CX0 2 "Set" a.C_Set (spIni2 a.C_Set Rw.set) := by
  refine mkE_of (sp := (spIni2 a.C_Set Rw.set)) 1 T.c_Set T.i_Set sc_Set_init (fun vs H Q E h => ?_) (fun f cdv A outer s H vs Q E hr h => ?_)
  · obtain ⟨x, dx, i, j, rfl, _⟩ := h
    rfl
  · obtain ⟨x, dx, i, j, rfl, ⟨⟨h1, h2⟩, ⟨h3, h4⟩⟩, hx, q⟩ := h
    refine ⟨_, (pss_cons (ps_fldK (K := K) rfl (pv 0) (pe_callE (ok_bounded (K := K) T) (hr.mono (by decide)) pass0 rfl (pa_cons (pv 1) (pa_cons (pe_glob (v := .int 7) rfl T.g_TOP_BOX.choose_spec ⟨_, rfl⟩) pa_nil))))
      (pss_one (ps_fldK (K := K) rfl (pv 0) (pe_callE (ok_bounded (K := K) T) (hr.mono (by decide)) pass0 rfl (pa_cons (pv 2) (pa_cons (pe_glob (v := .int 4294967295) rfl T.g_TOP_VALUE.choose_spec ⟨_, rfl⟩) pa_nil)))))), ?_⟩
    refine r_st (σ' := [some _, some _, some _]) rfl ?_
    walk_at "rd"
    exact q _ kp_two upd_same
end
section
variable {P : Program} {w : World} {K : PySem.W.Frag} {mg : Str → Option Value} {base : Heap} {a : Adr}
set_option maxHeartbeats 4000000 in
theorem mk_Copy (T : Txt K mg a) : MkE P w K mg base CX0 2 "Copy" a.C_Copy (spIni2 a.C_Copy Rw.copy) := by
  refine mkE_of (sp := (spIni2 a.C_Copy Rw.copy)) 1 T.c_Copy T.i_Copy sc_Copy_init (fun vs H Q E h => ?_) (fun f cdv A outer s H vs Q E hr h => ?_)
  · obtain ⟨x, dx, i, j, rfl, _⟩ := h
    rfl
  · obtain ⟨x, dx, i, j, rfl, ⟨⟨h1, h2⟩, ⟨h3, h4⟩⟩, hx, q⟩ := h
    refine ⟨_, (pss_cons (ps_fldK (K := K) rfl (pv 0) (pe_callE (ok_bounded (K := K) T) (hr.mono (by decide)) pass0 rfl (pa_cons (pv 1) (pa_cons (pe_glob (v := .int 7) rfl T.g_TOP_BOX.choose_spec ⟨_, rfl⟩) pa_nil))))
      (pss_one (ps_fldK (K := K) rfl (pv 0) (pe_callE (ok_bounded (K := K) T) (hr.mono (by decide)) pass0 rfl (pa_cons (pv 2) (pa_cons (pe_glob (v := .int 7) rfl T.g_TOP_BOX.choose_spec ⟨_, rfl⟩) pa_nil)))))), ?_⟩
    refine r_st (σ' := [some _, some _, some _]) rfl ?_
    walk_at "rd"
    exact q _ kp_two upd_same
end
section
variable {P : Program} {w : World} {K : PySem.W.Frag} {mg : Str → Option Value} {base : Heap} {a : Adr}
set_option maxHeartbeats 4000000 in
theorem mk_Add (T : Txt K mg a) : MkE P w K mg base CX0 2 "Add" a.C_Add (spIni3 a.C_Add Rw.add) := by
  refine mkE_of (sp := (spIni3 a.C_Add Rw.add)) 1 T.c_Add T.i_Add sc_Reckoning_init (fun vs H Q E h => ?_) (fun f cdv A outer s H vs Q E hr h => ?_)
  · obtain ⟨x, dx, i, j, k, rfl, _⟩ := h
    rfl
  · obtain ⟨x, dx, i, j, k, rfl, ⟨⟨h1, h2⟩, ⟨h3, h4⟩, ⟨h5, h6⟩⟩, hx, q⟩ := h
    refine ⟨_, (pss_cons (ps_fldK (K := K) rfl (pv 0) (pe_callE (ok_bounded (K := K) T) (hr.mono (by decide)) pass0 rfl (pa_cons (pv 1) (pa_cons (pe_glob (v := .int 7) rfl T.g_TOP_BOX.choose_spec ⟨_, rfl⟩) pa_nil))))
      (pss_cons (ps_fldK (K := K) rfl (pv 0) (pe_callE (ok_bounded (K := K) T) (hr.mono (by decide)) pass0 rfl (pa_cons (pv 2) (pa_cons (pe_glob (v := .int 7) rfl T.g_TOP_BOX.choose_spec ⟨_, rfl⟩) pa_nil))))
      (pss_one (ps_fldK (K := K) rfl (pv 0) (pe_callE (ok_bounded (K := K) T) (hr.mono (by decide)) pass0 rfl (pa_cons (pv 3) (pa_cons (pe_glob (v := .int 7) rfl T.g_TOP_BOX.choose_spec ⟨_, rfl⟩) pa_nil))))))), ?_⟩
    refine r_st (σ' := [some _, some _, some _, some _]) rfl ?_
    walk_at "rd"
    exact q _ kp_three upd_same
end
section
variable {P : Program} {w : World} {K : PySem.W.Frag} {mg : Str → Option Value} {base : Heap} {a : Adr}
set_option maxHeartbeats 4000000 in
theorem mk_Grow (T : Txt K mg a) : MkE P w K mg base CX0 2 "Grow" a.C_Grow (spIni1 a.C_Grow Rw.grow) := by
  refine mkE_of (sp := (spIni1 a.C_Grow Rw.grow)) 1 T.c_Grow T.i_Grow sc_Grow_init (fun vs H Q E h => ?_) (fun f cdv A outer s H vs Q E hr h => ?_)
  · obtain ⟨x, dx, i, rfl, _⟩ := h
    rfl
  · obtain ⟨x, dx, i, rfl, ⟨h1, h2⟩, hx, q⟩ := h
    refine ⟨_, (pss_one (ps_fldK (K := K) rfl (pv 0) (pe_callE (ok_bounded (K := K) T) (hr.mono (by decide)) pass0 rfl (pa_cons (pv 1) (pa_cons (pe_glob (v := .int 4000) rfl T.g_TOP_CELLS.choose_spec ⟨_, rfl⟩) pa_nil))))), ?_⟩
    refine r_st (σ' := [some _, some _]) rfl ?_
    walk_at "rd"
    exact q _ kp_one upd_same
end
section
variable {P : Program} {w : World} {K : PySem.W.Frag} {mg : Str → Option Value} {base : Heap} {a : Adr}
set_option maxHeartbeats 4000000 in
theorem mk_Shrink (T : Txt K mg a) : MkE P w K mg base CX0 2 "Shrink" a.C_Shrink (spIni1 a.C_Shrink Rw.shrink) := by
  refine mkE_of (sp := (spIni1 a.C_Shrink Rw.shrink)) 1 T.c_Shrink T.i_Shrink sc_Shrink_init (fun vs H Q E h => ?_) (fun f cdv A outer s H vs Q E hr h => ?_)
  · obtain ⟨x, dx, i, rfl, _⟩ := h
    rfl
  · obtain ⟨x, dx, i, rfl, ⟨h1, h2⟩, hx, q⟩ := h
    refine ⟨_, (pss_one (ps_fldK (K := K) rfl (pv 0) (pe_callE (ok_bounded (K := K) T) (hr.mono (by decide)) pass0 rfl (pa_cons (pv 1) (pa_cons (pe_glob (v := .int 4000) rfl T.g_TOP_CELLS.choose_spec ⟨_, rfl⟩) pa_nil))))), ?_⟩
    refine r_st (σ' := [some _, some _]) rfl ?_
    walk_at "rd"
    exact q _ kp_one upd_same
end
section
variable {P : Program} {w : World} {K : PySem.W.Frag} {mg : Str → Option Value} {base : Heap} {a : Adr}
set_option maxHeartbeats 4000000 in
theorem mk_Put (T : Txt K mg a) : MkE P w K mg base CX0 2 "Put" a.C_Put (spIni2 a.C_Put Rw.put) := by
  refine mkE_of (sp := (spIni2 a.C_Put Rw.put)) 1 T.c_Put T.i_Put sc_Reaching_init (fun vs H Q E h => ?_) (fun f cdv A outer s H vs Q E hr h => ?_)
  · obtain ⟨x, dx, i, j, rfl, _⟩ := h
    rfl
  · obtain ⟨x, dx, i, j, rfl, ⟨⟨h1, h2⟩, ⟨h3, h4⟩⟩, hx, q⟩ := h
    refine ⟨_, (pss_cons (ps_fldK (K := K) rfl (pv 0) (pe_callE (ok_bounded (K := K) T) (hr.mono (by decide)) pass0 rfl (pa_cons (pv 1) (pa_cons (pe_glob (v := .int 7) rfl T.g_TOP_BOX.choose_spec ⟨_, rfl⟩) pa_nil))))
      (pss_one (ps_fldK (K := K) rfl (pv 0) (pe_callE (ok_bounded (K := K) T) (hr.mono (by decide)) pass0 rfl (pa_cons (pv 2) (pa_cons (pe_glob (v := .int 4000) rfl T.g_TOP_CELLS.choose_spec ⟨_, rfl⟩) pa_nil)))))), ?_⟩
    refine r_st (σ' := [some _, some _, some _]) rfl ?_
    walk_at "rd"
    exact q _ kp_two upd_same
end
section
variable {P : Program} {w : World} {K : PySem.W.Frag} {mg : Str → Option Value} {base : Heap} {a : Adr}
set_option maxHeartbeats 4000000 in
theorem mk_Get (T : Txt K mg a) : MkE P w K mg base CX0 2 "Get" a.C_Get (spIni2 a.C_Get Rw.get) := by
  refine mkE_of (sp := (spIni2 a.C_Get Rw.get)) 1 T.c_Get T.i_Get sc_Reaching_init (fun vs H Q E h => ?_) (fun f cdv A outer s H vs Q E hr h => ?_)
  · obtain ⟨x, dx, i, j, rfl, _⟩ := h
    rfl
  · obtain ⟨x, dx, i, j, rfl, ⟨⟨h1, h2⟩, ⟨h3, h4⟩⟩, hx, q⟩ := h
    refine ⟨_, (pss_cons (ps_fldK (K := K) rfl (pv 0) (pe_callE (ok_bounded (K := K) T) (hr.mono (by decide)) pass0 rfl (pa_cons (pv 1) (pa_cons (pe_glob (v := .int 7) rfl T.g_TOP_BOX.choose_spec ⟨_, rfl⟩) pa_nil))))
      (pss_one (ps_fldK (K := K) rfl (pv 0) (pe_callE (ok_bounded (K := K) T) (hr.mono (by decide)) pass0 rfl (pa_cons (pv 2) (pa_cons (pe_glob (v := .int 4000) rfl T.g_TOP_CELLS.choose_spec ⟨_, rfl⟩) pa_nil)))))), ?_⟩
    refine r_st (σ' := [some _, some _, some _]) rfl ?_
    walk_at "rd"
    exact q _ kp_two upd_same
end
section
variable {P : Program} {w : World} {K : PySem.W.Frag} {mg : Str → Option Value} {base : Heap} {a : Adr}
set_option maxHeartbeats 4000000 in
theorem mk_Jump (T : Txt K mg a) : MkE P w K mg base CX0 2 "Jump" a.C_Jump (spIni1 a.C_Jump Rw.jump) := by
  refine mkE_of (sp := (spIni1 a.C_Jump Rw.jump)) 1 T.c_Jump T.i_Jump sc_Jump_init (fun vs H Q E h => ?_) (fun f cdv A outer s H vs Q E hr h => ?_)
  · obtain ⟨x, dx, i, rfl, _⟩ := h
    rfl
  · obtain ⟨x, dx, i, rfl, ⟨h1, h2⟩, hx, q⟩ := h
    refine ⟨_, (pss_one (ps_fldK (K := K) rfl (pv 0) (pe_callE (ok_bounded (K := K) T) (hr.mono (by decide)) pass0 rfl (pa_cons (pv 1) (pa_cons (pe_glob (v := .int 2000) rfl T.g_TOP_TARGET.choose_spec ⟨_, rfl⟩) pa_nil))))), ?_⟩
    refine r_st (σ' := [some _, some _]) rfl ?_
    walk_at "rd"
    exact q _ kp_one upd_same
end
section
variable {P : Program} {w : World} {K : PySem.W.Frag} {mg : Str → Option Value} {base : Heap} {a : Adr}
set_option maxHeartbeats 4000000 in
theorem mk_Branch (T : Txt K mg a) : MkE P w K mg base CX0 2 "Branch" a.C_Branch (spIni2 a.C_Branch Rw.branch) := by
  refine mkE_of (sp := (spIni2 a.C_Branch Rw.branch)) 1 T.c_Branch T.i_Branch sc_Branch_init (fun vs H Q E h => ?_) (fun f cdv A outer s H vs Q E hr h => ?_)
  · obtain ⟨x, dx, i, j, rfl, _⟩ := h
    rfl
  · obtain ⟨x, dx, i, j, rfl, ⟨⟨h1, h2⟩, ⟨h3, h4⟩⟩, hx, q⟩ := h
    refine ⟨_, (pss_cons (ps_fldK (K := K) rfl (pv 0) (pe_callE (ok_bounded (K := K) T) (hr.mono (by decide)) pass0 rfl (pa_cons (pv 1) (pa_cons (pe_glob (v := .int 7) rfl T.g_TOP_BOX.choose_spec ⟨_, rfl⟩) pa_nil))))
      (pss_one (ps_fldK (K := K) rfl (pv 0) (pe_callE (ok_bounded (K := K) T) (hr.mono (by decide)) pass0 rfl (pa_cons (pv 2) (pa_cons (pe_glob (v := .int 2000) rfl T.g_TOP_TARGET.choose_spec ⟨_, rfl⟩) pa_nil)))))), ?_⟩
    refine r_st (σ' := [some _, some _, some _]) rfl ?_
    walk_at "rd"
    exact q _ kp_two upd_same
end
section
variable {P : Program} {w : World} {K : PySem.W.Frag} {mg : Str → Option Value} {base : Heap} {a : Adr}
set_option maxHeartbeats 4000000 in
theorem mk_Call (T : Txt K mg a) : MkE P w K mg base CX0 2 "Call" a.C_Call (spIni1 a.C_Call Rw.call) := by
  refine mkE_of (sp := (spIni1 a.C_Call Rw.call)) 1 T.c_Call T.i_Call sc_Call_init (fun vs H Q E h => ?_) (fun f cdv A outer s H vs Q E hr h => ?_)
  · obtain ⟨x, dx, i, rfl, _⟩ := h
    rfl
  · obtain ⟨x, dx, i, rfl, ⟨h1, h2⟩, hx, q⟩ := h
    refine ⟨_, (pss_one (ps_fldK (K := K) rfl (pv 0) (pe_callE (ok_bounded (K := K) T) (hr.mono (by decide)) pass0 rfl (pa_cons (pv 1) (pa_cons (pe_glob (v := .int 2000) rfl T.g_TOP_TARGET.choose_spec ⟨_, rfl⟩) pa_nil))))), ?_⟩
    refine r_st (σ' := [some _, some _]) rfl ?_
    walk_at "rd"
    exact q _ kp_one upd_same
end
section
variable {P : Program} {w : World} {K : PySem.W.Frag} {mg : Str → Option Value} {base : Heap} {a : Adr}
set_option maxHeartbeats 4000000 in
theorem mk_Back (T : Txt K mg a) : MkE P w K mg base CX0 2 "Back" a.C_Back (spIni1 a.C_Back Rw.back) := by
  refine mkE_of (sp := (spIni1 a.C_Back Rw.back)) 1 T.c_Back T.i_Back sc_Back_init (fun vs H Q E h => ?_) (fun f cdv A outer s H vs Q E hr h => ?_)
  · obtain ⟨x, dx, i, rfl, _⟩ := h
    rfl
  · obtain ⟨x, dx, i, rfl, ⟨h1, h2⟩, hx, q⟩ := h
    refine ⟨_, (pss_one (ps_fldK (K := K) rfl (pv 0) (pe_callE (ok_bounded (K := K) T) (hr.mono (by decide)) pass0 rfl (pa_cons (pv 1) (pa_cons (pe_glob (v := .int 7) rfl T.g_TOP_BOX.choose_spec ⟨_, rfl⟩) pa_nil))))), ?_⟩
    refine r_st (σ' := [some _, some _]) rfl ?_
    walk_at "rd"
    exact q _ kp_one upd_same
end
section
variable {P : Program} {w : World} {K : PySem.W.Frag} {mg : Str → Option Value} {base : Heap} {a : Adr}
set_option maxHeartbeats 4000000 in
theorem mk_Drop (T : Txt K mg a) : MkE P w K mg base CX0 2 "Drop" a.C_Drop (spIni1 a.C_Drop Rw.drop) := by
  refine mkE_of (sp := (spIni1 a.C_Drop Rw.drop)) 1 T.c_Drop T.i_Drop sc_Drop_init (fun vs H Q E h => ?_) (fun f cdv A outer s H vs Q E hr h => ?_)
  · obtain ⟨x, dx, i, rfl, _⟩ := h
    rfl
  · obtain ⟨x, dx, i, rfl, ⟨h1, h2⟩, hx, q⟩ := h
    refine ⟨_, (pss_one (ps_fldK (K := K) rfl (pv 0) (pe_callE (ok_bounded (K := K) T) (hr.mono (by decide)) pass0 rfl (pa_cons (pv 1) (pa_cons (pe_glob (v := .int 7) rfl T.g_TOP_BOX.choose_spec ⟨_, rfl⟩) pa_nil))))), ?_⟩
    refine r_st (σ' := [some _, some _]) rfl ?_
    walk_at "rd"
    exact q _ kp_one upd_same
end
section
variable {P : Program} {w : World} {K : PySem.W.Frag} {mg : Str → Option Value} {base : Heap} {a : Adr}
set_option maxHeartbeats 4000000 in
theorem ok_law_stay (T : Txt K mg a) : FnE P w K mg base CX0 2 "_law_stay" (spStay K a) := by
  refine fnE_of (sp := (spStay K a)) 1 T.fn_law_stay sc_law_stay (fun vs H Q E h => ?_) (fun f cdv A outer s H vs Q E hr h => ?_)
  · obtain ⟨l, l2, hv, lv, ps, rfl, _⟩ := h
    rfl
  · obtain ⟨l, l2, hv, lv, ps, rfl, hl, hps, hl2, hqs, hok, q⟩ := h
    have e1 := hps.1
    have e2 := hqs.1
    refine ⟨_, (pss_cons (ps_for PassesOwn.never rfl (pi_zipL2 (K := K) rfl rfl T.z_zip (pa_cons (pv 0) (pa_cons (pv 1) pa_nil))) (pg_tupK (K := K) rfl rfl (pgs_cons (pg_name (i := 2) sc_law_stay.nd rfl (Or.inl rfl)) (pgs_cons (pg_name (i := 3) sc_law_stay.nd rfl (Or.inl rfl)) pgs_nil))) (pss_cons (ps_if (pt_cmpR (op_neK (K := K) rfl hr.units) (pe_comp (own := ["_law_row_here"]) (fr := []) rfl ⟨rfl, (by walk_at "clok"), (by walk_at "frok"), rfl, (by decide +kernel), (by decide +kernel), rfl⟩ (pi_seqK (K := K) rfl (pe_ix (ix_K (K := K) rfl) (pv 2) pe_int (fun _ _ => rfl))) (fun _ _ _ _ => (pg_name (i := 0) (show List.Nodup [("_law_row_here" : Str)] from by decide +kernel) rfl (Or.inl rfl))) (fun _ _ _ _ => pts_nil) (fun _ _ _ _ => (pe_methK0 (P := P) (w := w) (K := K) (mg := mg) (base := base) (k := 1) ⟨rfl, rfl, rfl, rfl, rfl⟩ (pv 0) (hr.mono (by decide)) pass0))) (pe_comp (own := ["_law_row_here"]) (fr := []) rfl ⟨rfl, (by walk_at "clok"), (by walk_at "frok"), rfl, (by decide +kernel), (by decide +kernel), rfl⟩ (pi_seqK (K := K) rfl (pe_ix (ix_K (K := K) rfl) (pv 3) pe_int (fun _ _ => rfl))) (fun _ _ _ _ => (pg_name (i := 0) (show List.Nodup [("_law_row_here" : Str)] from by decide +kernel) rfl (Or.inl rfl))) (fun _ _ _ _ => pts_nil) (fun _ _ _ _ => (pe_methK0 (P := P) (w := w) (K := K) (mg := mg) (base := base) (k := 1) ⟨rfl, rfl, rfl, rfl, rfl⟩ (pv 0) (hr.mono (by decide)) pass0))) (nomark _)) (pss_one (ps_ret pe_bl)) pss_nil)
      (pss_one (ps_if (PW.pt (pw_or (pt_cmpR (op_neK (K := K) rfl hr.units) (pe_fldK (K := K) rfl (pe_ix (ix_K (K := K) rfl) (pv 2) pe_int (fun _ _ => rfl))) (pe_ix (ix_K (K := K) rfl) (pv 3) pe_int (fun _ _ => rfl)) (nomark _)) (pw_or1 (pt_cmpR (op_neDic hr.units) (pe_fldK (K := K) rfl (pe_ix (ix_K (K := K) rfl) (pv 2) pe_int (fun _ _ => rfl))) (pe_ix (ix_K (K := K) rfl) (pv 3) pe_int (fun _ _ => rfl)) (nomark _))))) (pss_one (ps_ret pe_bl)) pss_nil))))
      (pss_one (ps_ret (pe_cmpR (op_eqK (K := K) rfl hr.units) (pe_callB (call_lenK (K := K) rfl) rfl T.z_len b_len (pa_cons (pv 0) pa_nil)) (pe_callB (call_lenK (K := K) rfl) rfl T.z_len b_len (pa_cons (pv 1) pa_nil)) (nomark _))))), ?_⟩
    refine r_st (σ' := [some _, some _, none, none]) rfl ?_
    walk_at "rd"
    refine ⟨l, l2, hv, lv, rfl, SqL.of hl, SqL.of hl2, ?_⟩
    refine for_zipL (xs := hv) (ys := lv) (by omega) (fun i σ H1 => (∃ u1 u2, σ = [some (.ref l), some (.ref l2), u1, u2]) ∧ Same H H1) ⟨⟨_, _, rfl⟩, Same.refl _⟩ (fun i σ H1 _ ⟨_, s1⟩ => ⟨SqL.of (s1 _ _ hl), SqL.of (s1 _ _ hl2)⟩) ?_ ?_
    · rintro i v1 v2 T' σ H1 hv1 hv2 ⟨⟨u1, u2, rfl⟩, s1⟩ nT
      obtain ⟨p, hpi, hpm, t, x, dx, c, e, d, rfl, ht, hx, prs, ev, hc, hrs, he, hev, hd⟩ := hps.at hv1
      obtain ⟨t2, c2, e2, d2, rfl, ht2, prs2, ev2, hc2, hrs2, he2, hev2, hd2⟩ := hqs.2 i _ p hv2 hpi
      have pok := hok p hpm
      have HERE : ∀ r ∈ p.rs, r.here := fun r hr' => (pok.row r hr').2.1
      have s1' : Same H (upd H1 T' (.tup [.ref t, .ref t2])) := s1.trans (same_new nT)
      unfold tabF at hx
      walk_at "rd"
      refine comp_tell (a := a) id (fun σ => ∃ v, σ = [v]) (s1' _ _ hc) (hrs.same s1') (Nat.le_trans pok.nrs (by decide)) ⟨_, rfl⟩ ?_ (fun us1 H2 s2 tl1 => ?_)
      · clear s1 s1' nT
        rintro p1 r1 σ1 H1 C C' hm ⟨v1, rfl⟩ s1 ⟨dx1, hrow1⟩ k1
        walk_at "rd"
        refine r_methV hrow1 (flds_told _) ((me_all_told T (HERE r1 hm)).mono (by decide)) ?_
        walk_at "rd"
        refine ⟨p1, rfl, ⟨dx1, hrow1⟩, fun q1 nq1 => ?_⟩
        exact k1 q1 _ _ (same_new nq1) upd_same ⟨_, rfl⟩
      rw [List.map_id] at tl1
      have s02 := s1'.trans s2
      have ht2' := s02 _ _ ht2
      clear s1' s1 s2 nT
      walk_at "rd"
      rename_i lt1 nlt1
      have s03 := s02.trans (same_new (o := .lst us1) nlt1)
      refine comp_tell (a := a) id (fun σ => ∃ v, σ = [v]) (s03 _ _ hc2) (hrs2.same s03) (Nat.le_trans pok.nrs (by decide)) ⟨_, rfl⟩ ?_ (fun us2 H3 s3 tl2 => ?_)
      · clear s03 s02
        rintro p1 r1 σ1 H1 C C' hm ⟨v1, rfl⟩ s1 ⟨dx1, hrow1⟩ k1
        walk_at "rd"
        refine r_methV hrow1 (flds_told _) ((me_all_told T (HERE r1 hm)).mono (by decide)) ?_
        walk_at "rd"
        refine ⟨p1, rfl, ⟨dx1, hrow1⟩, fun q1 nq1 => ?_⟩
        exact k1 q1 _ _ (same_new nq1) upd_same ⟨_, rfl⟩
      rw [List.map_id] at tl2
      have h3lt := s3 _ _ (upd_same (H := H2) (a := lt1) (o := .lst us1))
      have tl1' := (tl1.same (same_new (o := .lst us1) nlt1)).same s3
      have s04 := s03.trans s3
      clear s03 s02 s3 tl1 nlt1
      walk_at "rd"
      rename_i lt2 nlt2
      have sn := same_new (o := .lst us2) nlt2
      refine r_neT (.list (p.rs.map toldD)) (dp_lst (SqL.of (sn _ _ h3lt)) (tl1'.same sn).dp) (dp_lst (SqL.of upd_same) (tl2.same sn).dp) (shaped_tolds _) ?_
      have s05 := s04.trans sn
      clear sn s04 nlt2 h3lt tl1' tl2
      generalize upd H3 lt2 (.lst us2) = H5 at s05 ⊢
      have a1 := s05 _ _ ht
      have a2 := s05 _ _ ht2
      have a3 := s05 _ _ hx
      have a4 := s05 _ _ he
      have a5 := s05 _ _ he2
      have a6 := s05 _ _ hd
      have a7 := s05 _ _ hd2
      have b1 := hev.same s05
      have b2 := hev2.same s05
      clear hx ht ht2 he he2 hd hd2 hev hev2
      walk_at "rd"
      refine r_neT (.list (p.es.map entD)) (dp_lst (SqL.of a4) b1.dp) (dp_lst (SqL.of a5) b2.dp) (shaped_ents _) ?_
      walk_at "rd"
      refine r_neDic (kvs := landKV p.ls) a6 a7 (land_dSame pok.ls.1) ?_
      walk_at "rd"
      exact ⟨⟨_, _, rfl⟩, s05⟩
    · rintro σ H1 ⟨⟨u1, u2, rfl⟩, s1⟩
      walk_at "rd"
      rw [show decide (V.int (hv.length : Int) = V.int (lv.length : Int)) = true from by rw [e1, e2]; exact decide_eq_true rfl]
      exact q _ s1
end
section
variable {P : Program} {w : World} {K : PySem.W.Frag} {mg : Str → Option Value} {base : Heap} {a : Adr}
set_option maxHeartbeats 4000000 in
theorem me_Jump_laid (T : Txt K mg a) (t : Int) : MethE P w K mg base CX0 4 a.C_Jump "laid" (spLaid0 a (.jump t)) := by
  refine methE_of (sp := (spLaid0 a (.jump t))) 3 T.cl_Jump T.m_Jump_laid sc_Jump_laid (fun vs H Q E h => ?_) (fun f cdv A outer s H vs Q E hr h => ?_)
  · obtain ⟨x, d, rfl, _⟩ := h
    rfl
  · obtain ⟨x, d, rfl, ⟨dx, hx⟩, hk, q⟩ := h
    change H x = some (.ins a.C_Jump dx (putF "target" (.int t) [])) at hx
    refine ⟨_, (pss_one (ps_ret (pe_makeE (mk_Jump (K := K) T) (hr.mono (by decide)) pass0 rfl (pa_cons (pe_op (op_plusK (K := K) rfl) (pe_fldK (K := K) rfl (pv 0)) (pv 1)) pa_nil)))), ?_⟩
    refine r_st (σ' := [some _, some _]) rfl ?_
    walk_at "rd"
    exact r_row1 (a := a) hk rfl (fun p H' s n z => q p H' s z)
end
section
variable {P : Program} {w : World} {K : PySem.W.Frag} {mg : Str → Option Value} {base : Heap} {a : Adr}
set_option maxHeartbeats 4000000 in
theorem me_Branch_laid (T : Txt K mg a) (b t : Int) : MethE P w K mg base CX0 4 a.C_Branch "laid" (spLaid0 a (.branch b t)) := by
  refine methE_of (sp := (spLaid0 a (.branch b t))) 3 T.cl_Branch T.m_Branch_laid sc_Branch_laid (fun vs H Q E h => ?_) (fun f cdv A outer s H vs Q E hr h => ?_)
  · obtain ⟨x, d, rfl, _⟩ := h
    rfl
  · obtain ⟨x, d, rfl, ⟨dx, hx⟩, hk, q⟩ := h
    change H x = some (.ins a.C_Branch dx (putF "target" (.int t) (putF "box" (.int b) []))) at hx
    refine ⟨_, (pss_one (ps_ret (pe_makeE (mk_Branch (K := K) T) (hr.mono (by decide)) pass0 rfl (pa_cons (pe_fldK (K := K) rfl (pv 0)) (pa_cons (pe_op (op_plusK (K := K) rfl) (pe_fldK (K := K) rfl (pv 0)) (pv 1)) pa_nil))))), ?_⟩
    refine r_st (σ' := [some _, some _]) rfl ?_
    walk_at "rd"
    exact r_row2 (a := a) hk rfl (fun p H' s n z => q p H' s z)
end
section
variable {P : Program} {w : World} {K : PySem.W.Frag} {mg : Str → Option Value} {base : Heap} {a : Adr}
set_option maxHeartbeats 4000000 in
theorem me_Call_laid (T : Txt K mg a) (t : Int) : MethE P w K mg base CX0 4 a.C_Call "laid" (spLaid0 a (.call t)) := by
  refine methE_of (sp := (spLaid0 a (.call t))) 3 T.cl_Call T.m_Call_laid sc_Call_laid (fun vs H Q E h => ?_) (fun f cdv A outer s H vs Q E hr h => ?_)
  · obtain ⟨x, d, rfl, _⟩ := h
    rfl
  · obtain ⟨x, d, rfl, ⟨dx, hx⟩, hk, q⟩ := h
    change H x = some (.ins a.C_Call dx (putF "target" (.int t) [])) at hx
    refine ⟨_, (pss_one (ps_ret (pe_makeE (mk_Call (K := K) T) (hr.mono (by decide)) pass0 rfl (pa_cons (pe_op (op_plusK (K := K) rfl) (pe_fldK (K := K) rfl (pv 0)) (pv 1)) pa_nil)))), ?_⟩
    refine r_st (σ' := [some _, some _]) rfl ?_
    walk_at "rd"
    exact r_row1 (a := a) hk rfl (fun p H' s n z => q p H' s z)
end
section
variable {P : Program} {w : World} {K : PySem.W.Frag} {mg : Str → Option Value} {base : Heap} {a : Adr}
set_option maxHeartbeats 4000000 in
theorem ok_law_row (T : Txt K mg a) : FnE P w K mg base CX0 4 "_law_row" (spRow45 a) := by
  refine fnE_of (sp := (spRow45 a)) 3 T.fn_law_row sc_law_row (fun vs H Q E h => ?_) (fun f cdv A outer s H vs Q E hr h => ?_)
  · obtain ⟨n, m, rfl, _⟩ := h
    rfl
  · obtain ⟨n, m, rfl, m0, m9, q⟩ := h
    have tg : ∀ x : Int, 0 ≤ x % (m + 1) ∧ x % (m + 1) ≤ m := fun x => ⟨Int.emod_nonneg _ (by omega), by have := Int.emod_lt_of_pos x (show 0 < m + 1 by omega); omega⟩
    have ht := tg (n / 768)
    refine ⟨_, (pss_cons (ps_set (i := 2) sc_law_row.nd rfl (Or.inl rfl) (pe_op op_mod (pv 0) pe_int))
      (pss_cons (ps_set (i := 3) sc_law_row.nd rfl (Or.inl rfl) (pe_op op_mod (pe_op op_fdiv (pv 0) pe_int) pe_int))
      (pss_cons (ps_set (i := 4) sc_law_row.nd rfl (Or.inl rfl) (pe_op op_mod (pe_op op_fdiv (pv 0) pe_int) pe_int))
      (pss_cons (ps_set (i := 5) sc_law_row.nd rfl (Or.inl rfl) (pe_op op_mod (pe_op op_fdiv (pv 0) pe_int) pe_int))
      (pss_cons (ps_set (i := 6) sc_law_row.nd rfl (Or.inl rfl) (pe_op op_mod (pe_op op_fdiv (pv 0) pe_int) (pe_op (op_plusK (K := K) rfl) (pv 1) pe_int)))
      (pss_cons (ps_if (pt_cmpR (op_eqK (K := K) rfl hr.units) (pv 2) pe_int (nomark _)) (pss_one (ps_ret (pe_makeE (mk_Set (K := K) T) (hr.mono (by decide)) pass0 rfl (pa_cons (pv 3) (pa_cons (pe_op op_mod (pv 0) pe_int) pa_nil))))) pss_nil)
      (pss_cons (ps_if (pt_cmpR (op_eqK (K := K) rfl hr.units) (pv 2) pe_int (nomark _)) (pss_one (ps_ret (pe_makeE (mk_Copy (K := K) T) (hr.mono (by decide)) pass0 rfl (pa_cons (pv 3) (pa_cons (pv 4) pa_nil))))) pss_nil)
      (pss_cons (ps_if (pt_cmpR (op_eqK (K := K) rfl hr.units) (pv 2) pe_int (nomark _)) (pss_one (ps_ret (pe_makeE (mk_Add (K := K) T) (hr.mono (by decide)) pass0 rfl (pa_cons (pv 3) (pa_cons (pv 4) (pa_cons (pv 5) pa_nil)))))) pss_nil)
      (pss_cons (ps_if (pt_cmpR (op_eqK (K := K) rfl hr.units) (pv 2) pe_int (nomark _)) (pss_one (ps_ret (pe_makeE (mk_Grow (K := K) T) (hr.mono (by decide)) pass0 rfl (pa_cons (pv 5) pa_nil)))) pss_nil)
      (pss_cons (ps_if (pt_cmpR (op_eqK (K := K) rfl hr.units) (pv 2) pe_int (nomark _)) (pss_one (ps_ret (pe_makeE (mk_Shrink (K := K) T) (hr.mono (by decide)) pass0 rfl (pa_cons (pv 5) pa_nil)))) pss_nil)
      (pss_cons (ps_if (pt_cmpR (op_eqK (K := K) rfl hr.units) (pv 2) pe_int (nomark _)) (pss_one (ps_ret (pe_makeE (mk_Put (K := K) T) (hr.mono (by decide)) pass0 rfl (pa_cons (pv 3) (pa_cons (pv 5) pa_nil))))) pss_nil)
      (pss_cons (ps_if (pt_cmpR (op_eqK (K := K) rfl hr.units) (pv 2) pe_int (nomark _)) (pss_one (ps_ret (pe_makeE (mk_Get (K := K) T) (hr.mono (by decide)) pass0 rfl (pa_cons (pv 3) (pa_cons (pv 5) pa_nil))))) pss_nil)
      (pss_cons (ps_if (pt_cmpR (op_eqK (K := K) rfl hr.units) (pv 2) pe_int (nomark _)) (pss_one (ps_ret (pe_makeE (mk_Jump (K := K) T) (hr.mono (by decide)) pass0 rfl (pa_cons (pv 6) pa_nil)))) pss_nil)
      (pss_cons (ps_if (pt_cmpR (op_eqK (K := K) rfl hr.units) (pv 2) pe_int (nomark _)) (pss_one (ps_ret (pe_makeE (mk_Branch (K := K) T) (hr.mono (by decide)) pass0 rfl (pa_cons (pv 3) (pa_cons (pv 6) pa_nil))))) pss_nil)
      (pss_cons (ps_if (pt_cmpR (op_eqK (K := K) rfl hr.units) (pv 2) pe_int (nomark _)) (pss_one (ps_ret (pe_makeE (mk_Call (K := K) T) (hr.mono (by decide)) pass0 rfl (pa_cons (pv 6) pa_nil)))) pss_nil)
      (pss_one (ps_ret (pe_ix (ix_K (K := K) rfl) (pe_lst (pa_cons (pe_makeE (mk_Back (K := K) T) (hr.mono (by decide)) pass0 rfl (pa_cons (pv 3) pa_nil)) (pa_cons (pe_makeE (mk_Drop (K := K) T) (hr.mono (by decide)) pass0 rfl (pa_cons (pv 3) pa_nil)) pa_nil))) (pe_op op_sub (pv 2) pe_int) (fun _ _ => rfl))))))))))))))))))), ?_⟩
    refine r_st (σ' := [some _, some _, none, none, none, none, none]) rfl ?_
    walk_at "rd"
    generalize n / 768 % (m + 1) = t at ht ⊢
    obtain ⟨t0, t1⟩ := ht
    walk_at "rds"
    · exact r_row2 (a := a) ⟨by walk_at "rok", by walk_at "rok"⟩ rfl (fun p H' s np z => q p _ H' s z ⟨by walk_at "rok", by walk_at "rok"⟩ True.intro True.intro)
    · exact r_row2 (a := a) ⟨by walk_at "rok", by walk_at "rok"⟩ rfl (fun p H' s np z => q p _ H' s z ⟨by walk_at "rok", by walk_at "rok"⟩ True.intro True.intro)
    · exact r_row3 (a := a) ⟨by walk_at "rok", by walk_at "rok", by walk_at "rok"⟩ rfl (fun p H' s np z => q p _ H' s z ⟨by walk_at "rok", by walk_at "rok", by walk_at "rok"⟩ True.intro True.intro)
    · exact r_row1 (a := a) (by walk_at "rok") rfl (fun p H' s np z => q p _ H' s z (by walk_at "rok") True.intro True.intro)
    · exact r_row1 (a := a) (by walk_at "rok") rfl (fun p H' s np z => q p _ H' s z (by walk_at "rok") True.intro True.intro)
    · exact r_row2 (a := a) ⟨by walk_at "rok", by walk_at "rok"⟩ rfl (fun p H' s np z => q p _ H' s z ⟨by walk_at "rok", by walk_at "rok"⟩ True.intro True.intro)
    · exact r_row2 (a := a) ⟨by walk_at "rok", by walk_at "rok"⟩ rfl (fun p H' s np z => q p _ H' s z ⟨by walk_at "rok", by walk_at "rok"⟩ True.intro True.intro)
    · exact r_row1 (a := a) (by walk_at "rok") rfl (fun p H' s np z => q p _ H' s z (by walk_at "rok") t1 True.intro)
    · exact r_row2 (a := a) ⟨by walk_at "rok", by walk_at "rok"⟩ rfl (fun p H' s np z => q p _ H' s z ⟨by walk_at "rok", by walk_at "rok"⟩ t1 True.intro)
    · exact r_row1 (a := a) (by walk_at "rok") rfl (fun p H' s np z => q p _ H' s z (by walk_at "rok") t1 True.intro)
    · intro r1 dr1 m1 g1 _
      refine ⟨r1, dr1, _, rfl, ⟨by omega, by omega⟩, upd_same, fun H1 kp1 hH1 => ⟨rfl, ?_⟩⟩
      have s1 : Same H H1 := fun b o e => kp1 b o (by rw [upd_ne (ne_of_none e m1), upd_ne (ne_of_none e g1)]; exact e) (ne_of_none e m1)
      have w1 : RowAt a H1 r1 (.back _) := ⟨dr1, hH1⟩
      clear kp1 hH1
      walk_at "rd"
      intro r2 dr2 m2 g2 _
      refine ⟨r2, dr2, _, rfl, ⟨by omega, by omega⟩, upd_same, fun H2 kp2 hH2 => ⟨rfl, ?_⟩⟩
      have s2 : Same H1 H2 := fun b o e => kp2 b o (by rw [upd_ne (ne_of_none e m2), upd_ne (ne_of_none e g2)]; exact e) (ne_of_none e m2)
      have w2 : RowAt a H2 r2 (.drop _) := ⟨dr2, hH2⟩
      clear kp2 hH2
      walk_at "rd"
      rename_i l nl
      have hk : n % 12 - 10 = 0 ∨ n % 12 - 10 = 1 := by omega
      rcases hk with hk | hk
      · rw [hk]
        refine r_ixL (SqL.of upd_same) (v := .ref r1) rfl ?_
        exact q r1 _ _ (s1.trans (s2.trans (same_new nl))) (w1.same (s2.trans (same_new nl))) ⟨by omega, by omega⟩ True.intro True.intro
      · rw [hk]
        refine r_ixL (SqL.of upd_same) (v := .ref r2) rfl ?_
        exact q r2 _ _ (s1.trans (s2.trans (same_new nl))) (w2.same (same_new nl)) ⟨by omega, by omega⟩ True.intro True.intro
end
section
variable {P : Program} {w : World} {K : PySem.W.Frag} {mg : Str → Option Value} {base : Heap} {a : Adr}
theorem flds_laid (r : Rw) : r.flds.lookup ("laid" : Str) = none := by
  cases r <;> (show List.lookup _ (putF _ _ _) = none; walk_at "nolk")
theorem me_all_laid (T : Txt K mg a) {r : Rw} (hr : r.here) : MethE P w K mg base CX0 4 (r.cls a) "laid" (spLaid0 a r) := by
  cases r
  · exact (me_Set_laid T _ _).mono (by decide)
  · exact (me_Copy_laid T _ _).mono (by decide)
  · exact (me_Add_laid T _ _ _).mono (by decide)
  · exact hr.elim
  · exact hr.elim
  · exact hr.elim
  · exact (me_Grow_laid T _).mono (by decide)
  · exact (me_Shrink_laid T _).mono (by decide)
  · exact (me_Put_laid T _ _).mono (by decide)
  · exact (me_Get_laid T _ _).mono (by decide)
  · exact (me_Jump_laid T _).mono (by decide)
  · exact (me_Branch_laid T _ _).mono (by decide)
  · exact (me_Call_laid T _).mono (by decide)
  · exact (me_Back_laid T _).mono (by decide)
  · exact (me_Drop_laid T _).mono (by decide)
end
section
variable {P : Program} {w : World} {K : PySem.W.Frag} {mg : Str → Option Value} {base : Heap} {a : Adr}
set_option maxHeartbeats 4000000 in
theorem ok_laid (T : Txt K mg a) : FnE P w K mg base CX0 5 "laid" (spLaidAll a) := by
  refine fnE_of (sp := (spLaidAll a)) 4 T.fn_laid sc_laid (fun vs H Q E h => ?_) (fun f cdv A outer s H vs Q E hr h => ?_)
  · obtain ⟨l, d, prs, rs, rfl, _⟩ := h
    rfl
  · obtain ⟨l, d, prs, rs, rfl, hl, hrs, hok, hlen, q⟩ := h
    have hpl := hrs.1
    refine ⟨_, (pss_one (ps_ret (pe_comp (own := ["row"]) (fr := [("by", 1)]) rfl ⟨rfl, (by walk_at "clok"), (by walk_at "frok"), rfl, (by decide +kernel), (by decide +kernel), rfl⟩ (pi_seqK (K := K) rfl (pv 0)) (fun _ _ _ _ => (pg_name (i := 0) (show List.Nodup [("row" : Str), ("by" : Str)] from by decide +kernel) rfl (Or.inl rfl))) (fun _ _ _ _ => pts_nil) (fun _ _ _ _ => (pe_methK (P := P) (w := w) (K := K) (mg := mg) (base := base) (k := 4) ⟨rfl, rfl, rfl, rfl, rfl⟩ (pv 0) (hr.mono (by decide)) pass0 (pa_cons (pv 1) pa_nil)))))), ?_⟩
    refine r_st (σ' := [some _, some _]) rfl ?_
    walk_at "rd"
    refine comp_list (K := K) (a := l) (xs := prs.map V.ref) (fun i ys σ H1 => (∃ v, σ = [v, some (.int d)]) ∧ Same H H1 ∧ ∃ ps : List Addr, ys = ps.map V.ref ∧ ps.length = i ∧ RowsAt a H1 ps ((rs.take i).map fun r => r.laid d)) ⟨⟨_, rfl⟩, Same.refl _, [], rfl, rfl, RowsAt.nil⟩ (fun i ys σ H1 hi ⟨_, s1, ps, e, e2, _⟩ => ⟨SqL.of (s1 _ _ hl), by rw [e, List.length_map, e2, sizeLine_eq]; rw [List.length_map] at hi; omega⟩) ?_ ?_
    · rintro i x ys σ H1 hx ⟨⟨v, rfl⟩, s1, ps, rfl, hps, hr⟩
      obtain ⟨p, hp, rfl⟩ : ∃ p, prs[i]? = some p ∧ x = .ref p := by
        rw [List.getElem?_map] at hx
        obtain ⟨p, hp, e⟩ := Option.map_eq_some_iff.mp hx
        exact ⟨p, hp, e.symm⟩
      have hi : i < rs.length := by rw [← hpl]; exact (List.getElem?_eq_some_iff.mp hp).1
      have hri : rs[i]? = some rs[i] := List.getElem?_eq_getElem hi
      obtain ⟨dx, hrow⟩ := hrs.2 i p _ hp hri
      obtain ⟨ok1, hh1⟩ := hok _ (List.getElem_mem hi)
      have hrow1 := s1 _ _ hrow
      walk_at "rd"
      refine r_methV hrow1 (flds_laid _) ((me_all_laid T hh1).mono (by decide)) ?_
      walk_at "rd"
      refine ⟨p, d, rfl, ⟨dx, hrow1⟩, ok1, fun p2 H2 s2 hr2 => ?_⟩
      refine ⟨⟨_, rfl⟩, s1.trans s2, ps ++ [p2], by rw [List.map_append]; rfl, by rw [List.length_append, hps]; rfl, ?_⟩
      rw [List.take_add_one, hri, Option.toList_some, List.map_append]
      exact (hr.same s2).snoc hr2
    · rintro ys σ H1 ⟨_, s1, ps, rfl, hps, hr⟩
      rw [List.length_map, hpl, List.take_length] at hr
      walk_at "rd"
      rename_i p np
      exact q p ps _ (s1.trans (same_new np)) (none_same s1 np) upd_same (hr.same (same_new np))
end
section
variable {P : Program} {w : World} {K : PySem.W.Frag} {mg : Str → Option Value} {base : Heap} {a : Adr}
set_option maxHeartbeats 4000000 in
theorem ok_law_part (T : Txt K mg a) : FnE P w K mg base CX0 5 "_law_part" (spPart K a) := by
  refine fnE_of (sp := (spPart K a)) 4 T.fn_law_part sc_law_part (fun vs H Q E h => ?_) (fun f cdv A outer s H vs Q E hr h => ?_)
  · obtain ⟨c, rfl, _⟩ := h
    rfl
  · obtain ⟨c, rfl, q⟩ := h
    have hm : 0 ≤ c % 10 ∧ c % 10 ≤ 9 := by omega
    refine ⟨_, (pss_cons (ps_set (i := 1) sc_law_part.nd rfl (Or.inr rfl) (pe_op op_mod (pv 0) pe_int))
      (pss_cons (ps_setC (i := 2) sc_law_part.nd rfl rfl (own := ["_law_k"]) (fr := [("_law_cell", 0), ("_law_many", 1)]) rfl ⟨rfl, (by walk_at "clok"), (by walk_at "frok"), rfl, (by decide +kernel), (by decide +kernel), rfl⟩ (pi_range1 rfl T.z_range (pa_cons (pv 1) pa_nil)) (fun _ _ _ _ => (pg_name (i := 0) (show List.Nodup [("_law_k" : Str), ("_law_cell" : Str), ("_law_many" : Str)] from by decide +kernel) rfl (Or.inl rfl))) (fun _ _ _ _ => pts_nil) (fun _ _ _ _ => (pe_callE (ok_law_row (K := K) T) (hr.mono (by decide)) pass0 rfl (pa_cons (pe_callE (ok_law_mixed (K := K) T) (hr.mono (by decide)) pass0 rfl (pa_cons (pe_op op_fdiv (pv 1) pe_int) (pa_cons (pv 0) pa_nil))) (pa_cons (pv 2) pa_nil)))))
      (pss_cons (ps_setC (i := 3) sc_law_part.nd rfl rfl (own := ["_law_k"]) (fr := [("_law_cell", 0)]) rfl ⟨rfl, (by walk_at "clok"), (by walk_at "frok"), rfl, (by decide +kernel), (by decide +kernel), rfl⟩ (pi_range1 rfl T.z_range (pa_cons (pv 1) pa_nil)) (fun _ _ _ _ => (pg_name (i := 0) (show List.Nodup [("_law_k" : Str), ("_law_cell" : Str)] from by decide +kernel) rfl (Or.inl rfl))) (fun _ _ _ _ => pts_nil) (fun _ _ _ _ => (pe_callE (ok_law_entry (K := K) T) (hr.mono (by decide)) pass0 rfl (pa_cons (pe_callE (ok_law_mixed (K := K) T) (hr.mono (by decide)) pass0 rfl (pa_cons (pe_op op_fdiv (pv 1) pe_int) (pa_cons (pe_op (op_plusK (K := K) rfl) pe_int (pv 0)) pa_nil))) pa_nil))))
      (pss_cons (ps_set (i := 4) sc_law_part.nd rfl (Or.inl rfl) pe_dnewK)
      (pss_cons (ps_for PassesOwn.never rfl (pi_range1 rfl T.z_range (pa_cons (pe_op op_times (pe_op op_mod (pe_op op_fdiv (pv 0) pe_int) pe_int) (pe_callTy call_int1 rfl T.z_int b_int (pa_cons (pe_cmpR op_gt (pv 1) pe_int (nomark _)) pa_nil))) pa_nil)) (pg_name (i := 5) sc_law_part.nd rfl (Or.inl rfl)) (pss_one (ps_dput (hu_of hr) (pv 4) (pe_op op_mod (pe_callE (ok_law_mixed (K := K) T) (hr.mono (by decide)) pass0 rfl (pa_cons (pe_op op_fdiv (pv 0) pe_int) (pa_cons (pe_op (op_plusK (K := K) rfl) pe_int (pv 5)) pa_nil))) (pv 1)) (pe_op op_mod (pe_callE (ok_law_mixed (K := K) T) (hr.mono (by decide)) pass0 rfl (pa_cons (pe_op op_fdiv (pv 0) pe_int) (pa_cons (pe_op (op_plusK (K := K) rfl) pe_int (pv 5)) pa_nil))) (pe_op (op_plusK (K := K) rfl) (pv 1) pe_int)) rfl)))
      (pss_one (ps_ret (pe_tup (pa_cons (pv 2) (pa_cons (pv 3) (pa_cons (pv 4) pa_nil))))))))))), ?_⟩
    refine r_st (σ' := [some _, none, none, none, none, none]) rfl ?_
    walk_at "rd"
    generalize c % 10 = m at hm ⊢
    obtain ⟨m0, m9⟩ := hm
    refine comp_range (fun i ys σ H1 => (∃ v, σ = [v, some (.int c), some (.int m)]) ∧ Same H H1 ∧ ∃ (prs : List Addr) (rs : List Rw), ys = prs.map V.ref ∧ prs.length = i ∧ RowsAt a H1 prs rs ∧ ∀ r ∈ rs, r.ok ∧ r.here ∧ r.aims m) ⟨⟨_, rfl⟩, Same.refl _, [], [], rfl, rfl, RowsAt.nil, (fun _ z => by cases z)⟩ ?_ ?_ ?_
    · rintro i ys σ H1 hi ⟨_, _, prs, rs, rfl, e, _⟩
      rw [List.length_map, e]
      walk_at "small"
    · rintro i ys σ H1 hi ⟨⟨v, rfl⟩, s1, prs, rs, rfl, hl, hr1, hok⟩
      walk_at "rd"
      refine ⟨_, _, rfl, m0, m9, fun p r H2 s2 hp ok ai he => ?_⟩
      refine ⟨⟨_, rfl⟩, s1.trans s2, prs ++ [p], rs ++ [r], by rw [List.map_append]; rfl, by rw [List.length_append, hl]; rfl, (hr1.same s2).snoc hp, fun x hx => ?_⟩
      rcases List.mem_append.mp hx with z | z
      · exact hok x z
      · have e : x = r := by simpa using z
        rw [e]; exact ⟨ok, he, ai⟩
    rintro ys σ H1 ⟨_, s1, prs, rs, rfl, hl, hr1, hok⟩
    walk_at "rd"
    rename_i lc nlc
    refine comp_range (fun i ys σ H2 => (∃ v, σ = [v, some (.int c)]) ∧ Same (upd H1 lc (.lst (prs.map V.ref))) H2 ∧ ys.length = i ∧ ∃ es, EntVs K H2 ys es) ⟨⟨_, rfl⟩, Same.refl _, rfl, [], EntVs.nil⟩ ?_ ?_ ?_
    · rintro i ys σ H2 hi ⟨_, _, e, _⟩
      rw [e]
      walk_at "small"
    · rintro i ys σ H2 hi ⟨⟨v, rfl⟩, s2, hl2, es, hes⟩
      walk_at "rd"
      refine ⟨_, rfl, fun v oe H3 s3 hv => ?_⟩
      exact ⟨⟨_, rfl⟩, s2.trans s3, by rw [List.length_append, hl2]; rfl, es ++ [oe], (hes.same s3).snoc hv⟩
    rintro ys σ H2 ⟨_, s2, hl2, es, hes⟩
    have hc2 := s2 _ _ upd_same
    have hr2 := hr1.same ((same_new nlc).trans s2)
    have s02 : Same H H2 := s1.trans ((same_new nlc).trans s2)
    clear s1 s2 nlc hr1
    walk_at "rd"
    rename_i le nle ld nld
    refine .inr ⟨_, rfl, ?_⟩
    show rTimes (V.int (c / 7 % 4)) (V.int (if decide (0 < m) = true then 1 else 0)) _ _
    have hf : (if decide (0 < m) = true then (1 : Int) else 0) = 0 ∨ ((if decide (0 < m) = true then (1 : Int) else 0) = 1 ∧ 0 < m) := by
      by_cases h : 0 < m
      · exact .inr ⟨by rw [decide_eq_true h]; rfl, h⟩
      · exact .inl (by rw [decide_eq_false h]; rfl)
    generalize (if decide (0 < m) = true then (1 : Int) else 0) = f at hf ⊢
    refine r_timesI (Or.inl ⟨by omega, by omega⟩) ?_
    have hk : 0 ≤ c / 7 % 4 * f ∧ c / 7 % 4 * f ≤ 3 ∧ (0 < c / 7 % 4 * f → 0 < m) := by
      rcases hf with e | ⟨e, h⟩
      · rw [e, Int.mul_zero]; exact ⟨by omega, by omega, fun z => absurd z (by omega)⟩
      · rw [e, Int.mul_one]; exact ⟨by omega, by omega, fun _ => h⟩
    generalize c / 7 % 4 * f = j at hk ⊢
    obtain ⟨j0, j3, jm⟩ := hk
    walk_at "rd"
    refine for_range (fun i σ H4 => (∃ u, σ = [some (.int c), some (.int m), some (.ref lc), some (.ref le), some (.ref ld), u]) ∧ ∃ ls, H4 = upd (upd H2 le (.lst ys)) ld (.dK (landKV ls)) ∧ LsOk ls ∧ ls.length ≤ i) ⟨⟨_, rfl⟩, [], rfl, ⟨List.nodup_nil, (fun _ z => by cases z)⟩, Nat.le_refl _⟩ ?_ ?_
    · rintro i σ H4 hi ⟨⟨u, rfl⟩, ls, rfl, hls, hll⟩
      have hmp : 0 < m := jm (by omega)
      have hlk : (landKV ls).length = ls.length := by unfold landKV; rw [List.length_map]
      walk_at "rd"
      rename_i y x
      have x0 := Int.emod_nonneg x (show m ≠ 0 by omega)
      have y0 := Int.emod_nonneg y (show m + 1 ≠ 0 by omega)
      obtain ⟨ls', g1, g2, g3⟩ := ls_put (c := x % m) (r := y % (m + 1)) hls x0 y0
      rw [g1, upd_again]
      exact ⟨⟨_, rfl⟩, ls', rfl, g2, by omega⟩
    rintro σ H4 ⟨⟨u, rfl⟩, ls, rfl, hls, hll⟩
    walk_at "rd"
    rename_i t nt
    have sF : Same H2 (upd (upd (upd H2 le (.lst ys)) ld (.dK (landKV ls))) t (.tup [.ref lc, .ref le, .ref ld])) := by walk_at "same"
    refine q (.ref t) ⟨rs, es, ls⟩ _ (s02.trans sF) ⟨t, lc, le, ld, rfl, upd_same, prs, ys, sF _ _ hc2, hr2.same sF, by walk_at "hlk", hes.same sF, by walk_at "hlk"⟩ ⟨fun r hr' => ?_, hls, by show ls.length ≤ 3; omega, ?_, ?_⟩
    · obtain ⟨o1, o2, o3⟩ := hok r hr'
      refine ⟨o1, o2, aims_mono m9 o3, aims_mono ?_ o3⟩
      show m ≤ (rs.length : Int)
      rw [← hr2.1, hl]; omega
    · show rs.length ≤ 1999
      rw [← hr2.1, hl]; omega
    · show es.length ≤ 1999
      rw [← hes.1, hl2]; omega
end
section
variable {P : Program} {w : World} {K : PySem.W.Frag} {mg : Str → Option Value} {base : Heap} {a : Adr}
theorem r_fstr {x y : Str} {tv : TE} {σ : L2.St} {H : Hp} {Q : VK} (h : tv σ H fun u H1 => ∃ i, u = .int i ∧ i.natAbs.log2 < 1920 ∧ (Str.empty ++ x ++ Str.ofString (toString i)).length ≤ sizeLine ∧ (Str.empty ++ x ++ Str.ofString (toString i) ++ y).length ≤ sizeLine ∧ Q (.str (Str.empty ++ x ++ Str.ofString (toString i) ++ y)) H1) : tFstr x y tv σ H Q := h
local macro_rules | `(tactic| walk_at "mine") => `(tactic| first | (with_reducible refine r_raise ?_) | (with_reducible refine r_thaw ?_))
set_option maxHeartbeats 4000000 in
theorem ok_joined (T : Txt K mg a) : FnE P w K mg base (CXR P w) 6 "joined" (spJoined K a) := by
  refine fnX_of (sp := (spJoined K a)) 5 T.fn_joined sc_joined (fun vs H Q E h => ?_) (fun f cdv A outer s H vs Q E hr h => ?_)
  · obtain ⟨l, hv, ps, rfl, _⟩ := h
    rfl
  · obtain ⟨l, hv, ps, rfl, hl, hps, hok, h64, qe, q⟩ := h
    have hvl := hps.1
    refine ⟨_, (pss_cons (ps_if (PT.nox (pt_cmpR op_gt (pe_callB (call_sumK (K := K) rfl rfl) rfl T.z_sum b_sum (pa_cons (pe_comp (own := ["part"]) (fr := []) rfl ⟨rfl, (by walk_at "clok"), (by walk_at "frok"), rfl, (by decide +kernel), (by decide +kernel), rfl⟩ (pi_seqK (K := K) rfl (pv 0)) (fun _ _ _ _ => (pg_name (i := 0) (show List.Nodup [("part" : Str)] from by decide +kernel) rfl (Or.inl rfl))) (fun _ _ _ _ => pts_nil) (fun _ _ _ _ => (pe_callB (call_lenK (K := K) rfl) rfl T.z_len b_len (pa_cons (pe_ix (ix_K (K := K) rfl) (pv 0) pe_int (fun _ _ => rfl)) pa_nil)))) pa_nil)) (pe_glob (v := .int 2000) rfl T.g_TOP_ROWS.choose_spec ⟨_, rfl⟩) (nomark _))) (pss_one (ps_raise T.x_NoTable rfl (pa_cons (pe_fstr (pe_glob (v := .int 2000) rfl T.g_TOP_ROWS.choose_spec ⟨_, rfl⟩)) pa_nil))) pss_nil)
      (pss_cons (PS.nox (ps_set (i := 1) sc_joined.nd rfl (Or.inl rfl) (pe_lst pa_nil)))
      (pss_cons (PS.nox (ps_set (i := 2) sc_joined.nd rfl (Or.inl rfl) (pe_lst pa_nil)))
      (pss_cons (PS.nox (ps_set (i := 3) sc_joined.nd rfl (Or.inl rfl) pe_dnewK))
      (pss_cons (PS.nox (ps_for PassesOwn.never rfl (pi_seqK (K := K) rfl (pv 0)) (pg_tupK (K := K) rfl rfl (pgs_cons (pg_name (i := 4) sc_joined.nd rfl (Or.inl rfl)) (pgs_cons (pg_name (i := 5) sc_joined.nd rfl (Or.inl rfl)) pgs_nil))) (pss_cons (ps_set (i := 6) sc_joined.nd rfl (Or.inl rfl) (pe_callB (call_lenK (K := K) rfl) rfl T.z_len b_len (pa_cons (pv 1) pa_nil)))
      (pss_cons (ps_expr (pe_bmK (K := K) rfl PySem.F.plainAttrs_list PySem.F.slot_list_extend PySem.F.type_list_extend mt_extend (pv 1) (pa_cons (pe_callE (ok_laid (K := K) T) (hr.mono (by decide)) pass0 rfl (pa_cons (pv 4) (pa_cons (pv 6) pa_nil))) pa_nil)))
      (pss_cons (ps_expr (pe_bmK (K := K) rfl PySem.F.plainAttrs_list PySem.F.slot_list_extend PySem.F.type_list_extend mt_extend (pv 2) (pa_cons (pe_fldK (K := K) rfl (pv 5)) pa_nil)))
      (pss_one (ps_thaw (ps_for PassesOwn.never rfl (pi_items (pe_fldK (K := K) rfl (pv 5))) (pg_tupK (K := K) rfl rfl (pgs_cons (pg_name (i := 7) sc_joined.nd rfl (Or.inl rfl)) (pgs_cons (pg_name (i := 8) sc_joined.nd rfl (Or.inl rfl)) pgs_nil))) (pss_one (ps_dput (hu_of hr) (pv 3) (pe_op (op_plusK (K := K) rfl) (pv 7) (pv 6)) (pe_op (op_plusK (K := K) rfl) (pv 8) (pv 6)) rfl))))))))))
      (pss_one (PS.nox (ps_ret (pe_tup (pa_cons (pv 1) (pa_cons (pe_makeE (mk_Table (K := K) T) (hr.mono (by decide)) pass0 rfl (pa_cons (pv 2) (pa_cons (pv 3) pa_nil))) pa_nil))))))))))), ?_⟩
    refine r_st (σ' := [some _, none, none, none, none, none, none, none, none]) rfl ?_
    walk_at "rd"
    refine comp_list (K := K) (a := l) (xs := hv) (fun i ys σ H1 => (∃ v, σ = [v]) ∧ H1 = H ∧ ys = ((ps.take i).map fun p => ((p.rs.length : Nat) : Int)).map V.int) ⟨⟨_, rfl⟩, rfl, rfl⟩ (fun i ys σ H1 hi ⟨_, e1, e⟩ => ⟨by rw [e1]; exact SqL.of hl, by rw [e, List.length_map, List.length_map, List.length_take, sizeLine_eq]; omega⟩) ?_ ?_
    · rintro i x ys σ H1 hx ⟨⟨v, rfl⟩, e1, rfl⟩
      obtain rfl : H = H1 := e1.symm
      obtain ⟨p, hpi, hpm, t, x, dx, c, e, d, rfl, ht, hx, prs, ev, hc, hrs, he, hev, hd⟩ := hps.at hx
      walk_at "rd"
      refine ⟨⟨_, rfl⟩, rfl, ?_⟩
      rw [take_snoc hpi, List.map_append, List.map_append, List.length_map, hrs.1]; rfl
    rintro ys σ H1 ⟨_, e1, rfl⟩
    obtain rfl : H = H1 := e1.symm
    rw [hvl, List.take_length]
    walk_at "rd"
    rename_i lt nlt
    rw [tot_sum]
    refine ifDec (fun hh => ?_) (fun hh => ?_)
    · walk_at "rd"
      refine r_fstr ?_
      walk_at "rd"
      refine ⟨by decide +kernel, by decide +kernel, by decide +kernel, ?_⟩
      walk_at "rd"
      exact ⟨by decide, qe (by omega) _ (same_new nlt)⟩
    have ht2 : tot ps ≤ 2000 := by omega
    clear hh qe
    walk_at "rd"
    rename_i lc nlc le nle ld nld
    have ncl : lc ≠ le := by walk_at "ne"
    have h0 : Same H (upd (upd (upd (upd H lt (.lst (((ps.map fun p => ((p.rs.length : Nat) : Int))).map V.int))) lc (.lst [])) le (.lst [])) ld (.dK [])) := by walk_at "same"
    have nc : H lc = none := by walk_at "none"
    have ne' : H le = none := by walk_at "none"
    have nd : H ld = none := by walk_at "none"
    refine for_list (K := K) (a := l) (xs := hv) (fun i σ H2 => (∃ u1 u2 u3 u4 u5, σ = [some (.ref l), some (.ref lc), some (.ref le), some (.ref ld), u1, u2, u3, u4, u5]) ∧ Same H H2 ∧ ∃ (prs : List Addr) (ev : List V), H2 lc = some (.lst (prs.map V.ref)) ∧ RowsAt a H2 prs (jn (ps.take i)).rs ∧ H2 le = some (.lst ev) ∧ EntVs K H2 ev (jn (ps.take i)).es ∧ H2 ld = some (.dK (jn (ps.take i)).kv)) ⟨⟨_, _, _, _, _, rfl⟩, h0, [], [], by walk_at "hlk", RowsAt.nil, by walk_at "hlk", EntVs.nil, by walk_at "hlk"⟩ (fun i σ H2 _ ⟨_, s2, _⟩ => SqL.of (s2 _ _ hl)) ?_ ?_
    · clear h0 nlt nlc nle nld
      rintro i v σ H2 hvi ⟨⟨u1, u2, u3, u4, u5, rfl⟩, s2, prs, ev, hlc, hrs, hle, hev, hld⟩
      obtain ⟨p, hpi, hpm, t, x, dx, c, e, d, rfl, ht, hx, prs1, ev1, hc, hrs1, he, hev1, hd⟩ := hps.at hvi
      have hi : i < ps.length := (List.getElem?_eq_some_iff.mp hpi).1
      have jk := jn_ok hok i (Nat.le_of_lt hi)
      have tt1 : tot (ps.take i) + p.rs.length ≤ 2000 := by
        have := tot_take ps (i + 1)
        rw [take_snoc hpi, tot_app, tot_one] at this
        omega
      have pok := hok p hpm
      rw [jn_take hpi]
      generalize jn (ps.take i) = j at *
      unfold tabF at hx
      walk_at "rd"
      rw [show (List.map V.ref prs).length = j.rs.length from by rw [List.length_map, hrs.1]]
      have jl := jk.len
      refine ⟨c, (j.rs.length : Int), prs1, p.rs, rfl, s2 _ _ hc, hrs1.same s2, fun r hr' => ?_, by have := pok.nrs; omega, fun p3 ps3 H3 s3 n3 hp3 hr3 => ?_⟩
      · obtain ⟨o1, o2, _, o4⟩ := pok.row r hr'
        exact ⟨laid_ok o1 o4 (by omega) (by omega), o2⟩
      have s23 := s2.trans s3
      have hlc3 := s3 _ _ hlc
      have hle3 := s3 _ _ hle
      have hld3 := s3 _ _ hld
      have hrs3 := hrs.same s3
      have hev3 := hev.same s3
      clear s2 s3 hlc hle hld hrs hev n3
      walk_at "rd"
      refine r_extend hlc3 hp3 (by rw [List.length_map, List.length_map, hrs3.1, hr3.1, List.length_map, sizeLine_eq]; omega) ?_
      rw [← List.map_append]
      have kb : But lc H3 (upd H3 lc (.lst ((prs ++ ps3).map V.ref))) := but_upd
      have hlc4 : (upd H3 lc (.lst ((prs ++ ps3).map V.ref))) lc = some (.lst ((prs ++ ps3).map V.ref)) := upd_same
      generalize upd H3 lc (.lst ((prs ++ ps3).map V.ref)) = H4 at kb hlc4 ⊢
      have s4 : Same H H4 := fun b o eb => kb b o (s23 b o eb) (ne_of_none eb nc)
      have hb3 : ∀ C d fs, H3 lc ≠ some (.ins C d fs) := fun _ _ _ z => by rw [hlc3] at z; cases z
      have hrs4 : RowsAt a H4 (prs ++ ps3) (j.rs ++ p.rs.map fun r => r.laid (j.rs.length : Int)) := (hrs3.but kb hb3).app (hr3.but kb hb3)
      have hev4 : EntVs K H4 ev j.es := hev3.but kb (fun _ z => by rw [hlc3] at z; cases z) (fun _ _ z => by rw [hlc3] at z; cases z)
      have hle4 : H4 le = _ := kb _ _ hle3 ncl.symm
      have hld4 : H4 ld = _ := kb _ _ hld3 (fun z => by rw [z, hlc3] at hld3; cases hld3)
      have hx4 := s4 _ _ hx
      have he4 := s4 _ _ he
      have hev14 := hev1.same s4
      clear kb hb3 hlc3 hle3 hld3 hrs3 hev3 hp3 hr3 s23
      walk_at "rd"
      refine r_extend hle4 he4 (by rw [hev4.1, hev14.1, sizeLine_eq]; have := jk.es; have := pok.nes; omega) ?_
      have kb : But le H4 (upd H4 le (.lst (ev ++ ev1))) := but_upd
      have hle5 : (upd H4 le (.lst (ev ++ ev1))) le = some (.lst (ev ++ ev1)) := upd_same
      generalize upd H4 le (.lst (ev ++ ev1)) = H5 at kb hle5 ⊢
      have s5 : Same H H5 := fun b o eb => kb b o (s4 b o eb) (ne_of_none eb ne')
      have hrs5 := hrs4.but kb (fun _ _ _ z => by rw [hle4] at z; cases z)
      have hev5 : EntVs K H5 (ev ++ ev1) (j.es ++ p.es) := (hev4.app hev14).but kb (fun _ z => by rw [hle4] at z; cases z) (fun _ _ z => by rw [hle4] at z; cases z)
      have hlc5 : H5 lc = _ := kb _ _ hlc4 ncl
      have hld5 : H5 ld = _ := kb _ _ hld4 (fun z => by rw [z, hle4] at hld4; cases hld4)
      have hx5 := s5 _ _ hx
      have hd5 := s5 _ _ hd
      clear kb hx4 he4 hev14 hle4 hld4 hrs4 hev4 hlc4 s4
      walk_at "rd"
      refine ⟨d, landKV p.ls, rfl, hd5, fun ob => ?_⟩
      have ndd : ld ≠ d := fun z => by rw [z, hd] at nd; cases nd
      refine for_items (ob := ob) (fun i2 σ H6 => (∃ u4 u5, σ = [some (.ref l), some (.ref lc), some (.ref le), some (.ref ld), some (.ref c), some (.ref x), some (.int (j.rs.length : Int)), u4, u5]) ∧ (∀ b o, H5 b = some o → b ≠ d → b ≠ ld → H6 b = some o) ∧ H6 d = some (.frz ob (.dK (landKV p.ls))) ∧ H6 ld = some (.dK ((p.ls.take i2).foldl (putL (j.rs.length : Int)) j.kv))) ⟨⟨_, _, rfl⟩, fun b o e n1 _ => by rw [upd_ne n1]; exact e, upd_same, by rw [upd_ne ndd]; exact hld5⟩ (fun i2 σ H6 _ h => h.2.2.1) ?_ ?_
      · rintro i2 k v T' σ H6 hkv ⟨⟨u4, u5, rfl⟩, kp6, hf6, hl6⟩ nT
        obtain ⟨q2, hq2, e2⟩ : ∃ q2, p.ls[i2]? = some q2 ∧ ((Sum.inl q2.1 : Key), V.int q2.2) = (k, v) := by
          unfold landKV at hkv
          rw [List.getElem?_map] at hkv
          exact Option.map_eq_some_iff.mp hkv
        cases e2
        have hlen : ((p.ls.take i2).foldl (putL (j.rs.length : Int)) j.kv).length ≤ 600 := by
          obtain ⟨ls, e, o, n⟩ := jk.kv
          obtain ⟨ls', e', o', n'⟩ := fold_put (n := (j.rs.length : Int)) (by omega) (qs := p.ls.take i2) (fun q hq => pok.ls.2 q (List.mem_of_mem_take hq)) o
          rw [e, e', show (landKV ls').length = ls'.length from by unfold landKV; rw [List.length_map]]
          have := pok.nls
          rw [List.length_take] at n'
          omega
        have enext : (p.ls.take (i2 + 1)).foldl (putL (j.rs.length : Int)) j.kv = putK ((p.ls.take i2).foldl (putL (j.rs.length : Int)) j.kv) (.inl (q2.1 + (j.rs.length : Int))) (.int (q2.2 + (j.rs.length : Int))) := by
          rw [List.take_add_one, hq2, Option.toList_some, List.foldl_append]; rfl
        rw [enext]
        generalize (p.ls.take i2).foldl (putL (j.rs.length : Int)) j.kv = kv6 at hl6 hlen ⊢
        show gTup _ _ _ _ _ (upd H6 T' (.tup [V.int q2.1, V.int q2.2])) _
        walk_at "rd"
        refine ⟨⟨_, _, rfl⟩, fun b o e n1 n2 => ?_, ?_, upd_same⟩
        · rw [upd_ne n2, upd_ne (ne_of_none (kp6 b o e n1 n2) nT)]; exact kp6 b o e n1 n2
        · rw [upd_ne ndd.symm, upd_ne (ne_of_none hf6 nT)]; exact hf6
      · rintro σ H6 ⟨⟨u4, u5, rfl⟩, kp6, hf6, hl6⟩
        rw [show (landKV p.ls).length = p.ls.length from by unfold landKV; rw [List.length_map], List.take_length] at hl6
        refine .inr ⟨d, ob, landKV p.ls, hf6, fun u v z => ?_, ?_⟩
        · have z : H d = some (.frz u v) := z
          rw [hd] at z; cases z
        have kb : But ld H5 (upd H6 d (.dK (landKV p.ls))) := fun b o e n => by
          by_cases hb : b = d
          · subst hb
            rw [hd5] at e
            rw [upd_same]; exact e
          · rw [upd_ne hb]; exact kp6 b o e hb n
        have hl7 : (upd H6 d (.dK (landKV p.ls))) ld = _ := (upd_ne ndd).trans hl6
        exact ⟨⟨_, _, _, _, _, rfl⟩, fun b o e => kb b o (s5 b o e) (ne_of_none e nd), prs ++ ps3, ev ++ ev1, kb _ _ hlc5 (fun z => by rw [z, hld5] at hlc5; cases hlc5), hrs5.but kb (fun _ _ _ z => by rw [hld5] at z; cases z), kb _ _ hle5 (fun z => by rw [z, hld5] at hle5; cases hle5), hev5.but kb (fun _ z => by rw [hld5] at z; cases z) (fun _ _ z => by rw [hld5] at z; cases z), hl7⟩
    · clear h0 nlt nlc nle nld
      rintro σ H2 ⟨⟨u1, u2, u3, u4, u5, rfl⟩, s2, prs, ev, hlc, hrs, hle, hev, hld⟩
      rw [hvl, List.take_length] at hrs hev hld
      walk_at "rd"
      intro x dx nx ndx nxdx
      refine' r_tab (kvs := (jn ps).kv) (xs := ev) nx ndx ?h1 ?h2 ?q
      (case h1 => exact SqL.of hle)
      (case h2 => exact .inr ⟨ld, rfl, hld⟩)
      (case q =>
        intro l2 d2 H3 s3 nl nd' nld nxl nxd hx hl2 hd2
        refine ⟨rfl, ?_⟩
        have s03 := s2.trans s3
        have hlc3 := s3 _ _ hlc
        have hrs3 := hrs.same s3
        have hev3 := hev.same s3
        clear s2 s3 nl nd' nld nxl nxd nx ndx nxdx hlc hle hld hrs hev
        walk_at "rd"
        rename_i t nt
        exact q ht2 t _ (s03.trans (same_new nt)) ⟨x, dx, lc, l2, d2, prs, ev, upd_same, look_new hx nt, look_new hlc3 nt, hrs3.same (same_new nt), look_new hl2 nt, hev3.same (same_new nt), look_new hd2 nt⟩)
end
section
variable {P : Program} {w : World} {K : PySem.W.Frag} {mg : Str → Option Value} {base : Heap} {a : Adr}
set_option maxHeartbeats 4000000 in
theorem ok_law_parts (T : Txt K mg a) : FnE P w K mg base CX0 6 "_law_parts" (spParts K a) := by
  refine fnE_of (sp := (spParts K a)) 5 T.fn_law_parts sc_law_parts (fun vs H Q E h => ?_) (fun f cdv A outer s H vs Q E hr h => ?_)
  · obtain ⟨s, ns, rfl, _⟩ := h
    rfl
  · obtain ⟨s', ns, rfl, hS, h63, q⟩ := h
    refine ⟨_, (pss_cons (ps_setC (i := 1) sc_law_parts.nd rfl rfl (own := ["_law_cell"]) (fr := []) rfl ⟨rfl, (by walk_at "clok"), (by walk_at "frok"), rfl, (by decide +kernel), (by decide +kernel), rfl⟩ (pi_seqK (K := K) rfl (pe_slice (sl_K (K := K) rfl) (pv 0) (po_some pe_int) (po_some (pe_op (op_plusK (K := K) rfl) pe_int (pe_op op_mod (pe_callE (ok_law_cell_at (K := K) T) (hr.mono (by decide)) pass0 rfl (pa_cons (pv 0) (pa_cons pe_int pa_nil))) pe_int))))) (fun _ _ _ _ => (pg_name (i := 0) (show List.Nodup [("_law_cell" : Str)] from by decide +kernel) rfl (Or.inl rfl))) (fun _ _ _ _ => pts_nil) (fun _ _ _ _ => (pe_callE (ok_law_part (K := K) T) (hr.mono (by decide)) pass0 rfl (pa_cons (pv 0) pa_nil))))
      (pss_cons (ps_set (i := 2) sc_law_parts.nd rfl (Or.inl rfl) (pe_op op_fdiv (pe_callE (ok_law_cell_at (K := K) T) (hr.mono (by decide)) pass0 rfl (pa_cons (pv 0) (pa_cons pe_int pa_nil))) pe_int))
      (pss_cons (ps_if (pt_cmpR (op_eqK (K := K) rfl hr.units) (pe_op op_mod (pv 2) pe_int) pe_int (nomark _)) (pss_cons (ps_set (i := 3) sc_law_parts.nd rfl (Or.inl rfl) (pe_ix (ix_K (K := K) rfl) (pe_lst (pa_cons (pe_op op_sub pe_int (pe_op op_mod (pe_op op_fdiv (pv 2) pe_int) pe_int)) (pa_cons (pe_op op_mod (pe_op op_fdiv (pv 2) pe_int) pe_int) pa_nil))) (pe_op op_mod (pe_op op_fdiv (pv 2) pe_int) pe_int) (fun _ _ => rfl)))
      (pss_one (ps_set (i := 1) sc_law_parts.nd rfl (Or.inl rfl) (pe_op (op_plusK (K := K) rfl) (pe_lst (pa_cons (pe_tup (pa_cons (pe_op op_times (pe_lst (pa_cons (pe_makeE (mk_Drop (K := K) T) (hr.mono (by decide)) pass0 rfl (pa_cons pe_int pa_nil)) pa_nil)) (pv 3)) (pa_cons (pe_op op_times (pe_lst (pa_cons pe_non pa_nil)) (pv 3)) (pa_cons pe_dnewK pa_nil)))) pa_nil)) (pv 1))))) pss_nil)
      (pss_one (ps_ret (pv 1)))))), ?_⟩
    refine r_st (σ' := [some _, none, none, none]) rfl ?_
    walk_at "rd"
    have hml := cutI_len ns (some 1) (some (1 + cellAt ns 0 % 5))
    generalize cutI ns (some 1) (some (1 + cellAt ns 0 % 5)) = ms at hml ⊢
    rename_i lm nlm
    refine comp_list (K := K) (a := lm) (xs := ms.map V.int) (fun i ys σ H1 => (∃ v, σ = [v]) ∧ Same (upd H lm (.lst (ms.map V.int))) H1 ∧ ys.length = i ∧ ∃ ps, AllV (LawV K a H1) ys ps ∧ ∀ p ∈ ps, p.ok) ⟨⟨_, rfl⟩, Same.refl _, rfl, [], AllV.nil, (fun _ z => by cases z)⟩ (fun i ys σ H1 hi ⟨_, s1, e, _⟩ => ⟨SqL.of (s1 _ _ upd_same), by rw [e, sizeLine_eq]; rw [List.length_map] at hi; omega⟩) ?_ ?_
    · rintro i x ys σ H1 hx ⟨⟨v, rfl⟩, s1, hl, ps, hps, hok⟩
      obtain ⟨cc, rfl⟩ : ∃ c : Int, x = .int c := by
        rw [List.getElem?_map] at hx
        obtain ⟨p, hp, e⟩ := Option.map_eq_some_iff.mp hx
        exact ⟨p, e.symm⟩
      walk_at "rd"
      refine ⟨_, rfl, fun v p H2 s2 hv ok => ?_⟩
      refine ⟨⟨_, rfl⟩, s1.trans s2, by rw [List.length_append, hl]; rfl, ps ++ [p], (hps.imp fun v p z => z.same s2).snoc hv, fun x hx => ?_⟩
      rcases List.mem_append.mp hx with z | z
      · exact hok x z
      · have e : x = p := by simpa using z
        rw [e]; exact ok
    rintro ys σ H1 ⟨_, s1, hl, ps, hps, hok⟩
    rw [List.length_map] at hl
    have s01 : Same H H1 := (same_new nlm).trans s1
    have hS1 := Same.seq s01 hS
    clear s1 nlm
    have hpl := hps.1
    walk_at "rd"
    rename_i lp nlp
    generalize cellAt ns 0 / 5 = c
    refine ifInt (fun hh => ?_) (fun hh => ?_)
    · walk_at "rd"
      rename_i l2 nl2
      obtain ⟨m, hm0, hm1, hat⟩ : ∃ m : Int, 0 ≤ m ∧ m ≤ 1999 ∧ atI [V.int (1999 - c / 8 % 40), V.int (c / 8 % 1999)] (c / 16 % 2) = some (.int m) := by
        rcases (show c / 16 % 2 = 0 ∨ c / 16 % 2 = 1 by omega) with h | h
        · rw [h]; exact ⟨_, by omega, by omega, rfl⟩
        · rw [h]; exact ⟨_, by omega, by omega, rfl⟩
      refine r_ixL (SqL.of upd_same) hat ?_
      walk_at "rd"
      intro r1 dr1 m1 g1 _
      refine ⟨r1, dr1, _, rfl, ⟨by decide, by decide⟩, upd_same, fun H2 kp2 hH2 => ⟨rfl, ?_⟩⟩
      have s2 : Same (upd (upd H1 lp (.lst ys)) l2 (.lst [V.int (1999 - c / 8 % 40), V.int (c / 8 % 1999)])) H2 := fun b o e => kp2 b o (by rw [upd_ne (ne_of_none e m1), upd_ne (ne_of_none e g1)]; exact e) (ne_of_none e m1)
      have w2 : RowAt a H2 r1 (.drop 1) := ⟨dr1, hH2⟩
      have hlp2 : H2 lp = some (.lst ys) := s2 _ _ (look_new upd_same nl2)
      have s12 : Same H1 H2 := (same_new nlp).trans ((same_new nl2).trans s2)
      have hps2 := hps.imp fun v p z => LawV.same z s12
      have s02 := s01.trans s12
      clear kp2 hH2 s2 s12 m1 g1 nl2 nlp hps hS1 s01
      walk_at "rd"
      refine r_times1 upd_same hm0 (by omega) (fun lr nlr => ?_)
      walk_at "rd"
      refine r_times1 upd_same hm0 (by omega) (fun ln nln => ?_)
      walk_at "rd"
      rename_i la na lb nb ld nd lt nt lo no lf nf
      have key : ∀ HF, Same H2 HF → HF lf = some (.lst ([V.ref lt] ++ ys)) → HF lt = some (.tup [.ref lr, .ref ln, .ref ld]) → HF lr = some (.lst (List.replicate m.toNat (V.ref r1))) → HF ln = some (.lst (List.replicate m.toNat V.non)) → HF ld = some (.dK []) → Q (.ref lf) HF := by
        intro HF sF e1 e2 e3 e4 e5
        refine q lf _ (⟨List.replicate m.toNat (.drop 1), List.replicate m.toNat none, []⟩ :: ps) HF (s02.trans sF) e1 ((hps2.imp fun v p z => LawV.same z sF).cons ⟨lt, lr, ln, ld, rfl, e2, List.replicate m.toNat r1, _, by rw [List.map_replicate]; exact e3, rows_rep (w2.same sF) _, e4, ents_rep _, e5⟩) ?_ (by rw [List.length_cons]; omega)
        intro p hp
        rcases List.mem_cons.mp hp with rfl | hp
        · refine ⟨fun r hr' => ?_, ⟨List.nodup_nil, (fun _ z => by cases z)⟩, Nat.zero_le _, by show (List.replicate _ _).length ≤ 1999; rw [List.length_replicate]; omega, by show (List.replicate _ _).length ≤ 1999; rw [List.length_replicate]; omega⟩
          rw [List.eq_of_mem_replicate hr']
          exact ⟨⟨by decide, by decide⟩, True.intro, True.intro, True.intro⟩
        · exact hok p hp
      exact key _ (by walk_at "same") upd_same (by walk_at "hlk") (by walk_at "hlk") (by walk_at "hlk") (by walk_at "hlk")
    · walk_at "rd"
      exact q lp ys ps _ (s01.trans (same_new nlp)) upd_same (hps.imp fun v p z => z.same (same_new nlp)) hok (by omega)
end
section
variable {P : Program} {w : World} {K : PySem.W.Frag} {mg : Str → Option Value} {base : Heap} {a : Adr}
set_option maxHeartbeats 4000000 in
theorem ok_law_laid_right (T : Txt K mg a) : FnE P w K mg base CX0 6 "_law_laid_right" (spLaidR a) := by
  refine fnE_of (sp := (spLaidR a)) 5 T.fn_law_laid_right sc_law_laid_right (fun vs H Q E h => ?_) (fun f cdv A outer s H vs Q E hr h => ?_)
  · obtain ⟨l, d, prs, rs, rfl, _⟩ := h
    rfl
  · obtain ⟨l, d, prs, rs, rfl, hl, hrs, hok, hn, d0, d1, q⟩ := h
    have HERE : ∀ r ∈ rs, r.here := fun r hr' => (hok r hr').2.1
    have HERE2 : ∀ r ∈ rs.map (fun r => r.laid d), r.here := fun r hr' => by
      obtain ⟨r1, h1, rfl⟩ := List.mem_map.mp hr'
      have := HERE r1 h1
      cases r1 <;> exact this
    refine ⟨_, (pss_cons (ps_set (i := 2) sc_law_laid_right.nd rfl (Or.inl rfl) (pe_callE (ok_laid (K := K) T) (hr.mono (by decide)) pass0 rfl (pa_cons (pv 0) (pa_cons (pv 1) pa_nil))))
      (pss_cons (ps_if (pt_not (pt_truK (K := K) rfl (pe_callB (call_isiK (K := K) rfl) rfl T.z_isinstance b_isinstance (pa_cons (pv 2) (pa_cons (pe_bltn (v := .ty "list") rfl T.z_list b_list rfl) pa_nil))))) (pss_one (ps_ret pe_bl)) pss_nil)
      (pss_one (ps_ret (pe_cmpR (op_eqK (K := K) rfl hr.units) (pe_comp (own := ["_law_row_here"]) (fr := []) rfl ⟨rfl, (by walk_at "clok"), (by walk_at "frok"), rfl, (by decide +kernel), (by decide +kernel), rfl⟩ (pi_seqK (K := K) rfl (pv 2)) (fun _ _ _ _ => (pg_name (i := 0) (show List.Nodup [("_law_row_here" : Str)] from by decide +kernel) rfl (Or.inl rfl))) (fun _ _ _ _ => pts_nil) (fun _ _ _ _ => (pe_methK0 (P := P) (w := w) (K := K) (mg := mg) (base := base) (k := 1) ⟨rfl, rfl, rfl, rfl, rfl⟩ (pv 0) (hr.mono (by decide)) pass0))) (pe_comp (own := ["_law_row_here"]) (fr := [("_law_by", 1)]) rfl ⟨rfl, (by walk_at "clok"), (by walk_at "frok"), rfl, (by decide +kernel), (by decide +kernel), rfl⟩ (pi_seqK (K := K) rfl (pv 0)) (fun _ _ _ _ => (pg_name (i := 0) (show List.Nodup [("_law_row_here" : Str), ("_law_by" : Str)] from by decide +kernel) rfl (Or.inl rfl))) (fun _ _ _ _ => pts_nil) (fun _ _ _ _ => (pe_callE (ok_law_moved (K := K) T) (hr.mono (by decide)) pass0 rfl (pa_cons (pe_methK0 (P := P) (w := w) (K := K) (mg := mg) (base := base) (k := 1) ⟨rfl, rfl, rfl, rfl, rfl⟩ (pv 0) (hr.mono (by decide)) pass0) (pa_cons (pv 1) pa_nil))))) (nomark _)))))), ?_⟩
    refine r_st (σ' := [some _, some _, none]) rfl ?_
    walk_at "rd"
    refine ⟨l, d, prs, rs, rfl, hl, hrs, fun r hr' => ⟨laid_ok (hok r hr').1 (hok r hr').2.2 d0 (by omega), HERE r hr'⟩, hn, fun p ps H1 s1 np hp hps => ?_⟩
    have hl1 := s1 _ _ hl
    have hrs1 := hrs.same s1
    clear np
    walk_at "rd"
    refine comp_tell (a := a) id (fun σ => ∃ v, σ = [v]) hp hps (by rw [List.length_map]; exact hn) ⟨_, rfl⟩ ?_ (fun us1 H2 s2 tl1 => ?_)
    · clear s1
      rintro p1 r1 σ1 H1 C C' hm ⟨v1, rfl⟩ s1 ⟨dx1, hrow1⟩ k1
      walk_at "rd"
      refine r_methV hrow1 (flds_told _) ((me_all_told T (HERE2 r1 hm)).mono (by decide)) ?_
      walk_at "rd"
      refine ⟨p1, rfl, ⟨dx1, hrow1⟩, fun q1 nq1 => ?_⟩
      exact k1 q1 _ _ (same_new nq1) upd_same ⟨_, rfl⟩
    rw [List.map_id] at tl1
    have s02 := s1.trans s2
    have hl2 := s2 _ _ hl1
    have hrs2 := hrs1.same s2
    clear s1 s2
    walk_at "rd"
    rename_i lt1 nlt1
    have sn := same_new (o := .lst us1) nlt1
    refine comp_tell (a := a) (fun r => r.laid d) (fun σ => ∃ v, σ = [v, some (.int d)]) (sn _ _ hl2) (hrs2.same sn) hn ⟨_, rfl⟩ ?_ (fun us2 H3 s3 tl2 => ?_)
    · clear s02 sn nlt1
      rintro p1 r1 σ1 H1 C C' hm ⟨v1, rfl⟩ s1 ⟨dx1, hrow1⟩ k1
      walk_at "rd"
      refine r_methV hrow1 (flds_told _) ((me_all_told T (HERE r1 hm)).mono (by decide)) ?_
      walk_at "rd"
      refine ⟨p1, rfl, ⟨dx1, hrow1⟩, fun q1 nq1 => ?_⟩
      walk_at "rd"
      refine ⟨q1, d, r1, rfl, upd_same, fun q2 H4 s4 hq2 => ?_⟩
      exact k1 q2 _ _ ((same_new nq1).trans s4) hq2 ⟨_, rfl⟩
    walk_at "rd"
    rename_i lt2 nlt2
    have sn2 := same_new (o := .lst us2) nlt2
    refine r_eqT (.list ((rs.map fun r => r.laid d).map toldD)) (dp_lst (SqL.of (sn2 _ _ (s3 _ _ upd_same))) (((tl1.same sn).same s3).same sn2).dp) (dp_lst (SqL.of upd_same) (tl2.same sn2).dp) (shaped_tolds _) ?_
    exact q _ (((s02.trans sn).trans s3).trans sn2)
end
section
variable {P : Program} {w : World} {K : PySem.W.Frag} {mg : Str → Option Value} {base : Heap} {a : Adr}
theorem r_tryExpr {sp : Sp} {i : Nat} {t : TA} {C : Addr} {th : Addr → TS} {D : Ends} {σ : L2.St} {H : Hp}
    (h : t σ H fun vs H1 => sp vs H1 (fun _ H2 => D.nx σ H2) fun c _ H2 => c = .ref C ∧ ∀ ea, H2 ea = none → th ea { nx := fun σ' H' => D.nx (σ'.set i none) H', rt := fun _ _ => False } (σ.set i (some (.ref ea))) H2) :
    tTry (bExpr sp t) C i th D σ H := h
set_option maxHeartbeats 4000000 in
theorem ok_law_refused (T : Txt K mg a) : FnE P w K mg base CX0 7 "_law_refused" (spRefused K a) := by
  refine fnE_of (sp := (spRefused K a)) 6 T.fn_law_refused sc_law_refused (fun vs H Q E h => ?_) (fun f cdv A outer s H vs Q E hr h => ?_)
  · obtain ⟨l, hv, ps, rfl, _⟩ := h
    rfl
  · obtain ⟨l, hv, ps, rfl, hl, hps, hok, h64, ht, q⟩ := h
    refine ⟨_, (pss_cons (ps_set (i := 1) sc_law_refused.nd rfl (Or.inl rfl) pe_bl)
      (pss_cons (ps_tryU (C := a.C_NoTable) (i := 2) rfl rfl rfl (pb_expr (ok_joined (K := K) T) (hr.mono (by decide)) rfl (pa_cons (pv 0) pa_nil)) T.x_FrameError T.up_NoTable_FrameError rfl sc_law_refused.nd rfl rfl (fun ea oe hxc _ => (pss_one (ps_set (i := 1) sc_law_refused.nd rfl (Or.inl rfl) (pe_and (pe_callB (call_isiXK (K := K) rfl (List.mem_append_right _ (List.mem_singleton.mpr rfl)) hxc T.xk_NoTable) rfl T.z_isinstance b_isinstance (pa_cons (pv 2) (pa_cons (pe_glob (v := .ref a.C_NoTable) rfl T.c_NoTable rfl) pa_nil))) (pe_one (pe_not (pe_callB (call_isiXK (K := K) rfl (List.mem_append_right _ (List.mem_singleton.mpr rfl)) hxc T.xk_NoTable) rfl T.z_isinstance b_isinstance (pa_cons (pv 2) (pa_cons (pe_glob (v := .ref a.C_NoRow) rfl T.c_NoRow rfl) pa_nil))))))))))
      (pss_one (ps_ret (pv 1))))), ?_⟩
    refine r_st (σ' := [some _, none, none]) rfl ?_
    walk_at "rd"
    refine r_tryExpr ?_
    walk_at "rd"
    refine ⟨l, hv, ps, rfl, hl, hps, hok, h64, fun _ H1 s1 => ⟨rfl, fun ea hea => ?_⟩, fun z => absurd z (by omega)⟩
    walk_at "rd"
    refine r_isiX (fun z => nomatch z) T.is_NoTable_NoTable ?_
    walk_at "rd"
    refine r_isiX (fun z => nomatch z) T.is_NoTable_NoRow ?_
    walk_at "rd"
    exact q _ (by walk_at "same")
end
section
variable {P : Program} {w : World} {K : PySem.W.Frag} {mg : Str → Option Value} {base : Heap} {a : Adr}

theorem jn_here {ps : List Pt} (h : ∀ p ∈ ps, p.ok) : ∀ i, i ≤ ps.length → ∀ r ∈ (jn (ps.take i)).rs, r.here
  | 0, _, r, hr => by rw [List.take_zero] at hr; cases hr
  | i + 1, hi, r, hr => by
    have e : ps[i]? = some ps[i] := List.getElem?_eq_getElem hi
    rw [jn_take e] at hr
    rcases List.mem_append.mp hr with z | z
    · exact jn_here h i (by omega) r z
    · obtain ⟨r1, h1, rfl⟩ := List.mem_map.mp z
      have := ((h _ (List.getElem_mem hi)).row r1 h1).2.1
      cases r1 <;> exact this
theorem cut_rows {a : Adr} {H : Hp} {prs : List Addr} {rs : List Rw} (h : RowsAt a H prs rs) (lo hi : Option Int) : ∃ (prs' : List Addr) (rs' : List Rw), cutV (prs.map V.ref) lo hi = prs'.map V.ref ∧ RowsAt a H prs' rs' ∧ (∀ r ∈ rs', r ∈ rs) ∧ rs'.length ≤ rs.length := by
  refine ⟨(prs.drop (HT.sIx prs.length 0 lo)).take (HT.sIx prs.length prs.length hi - HT.sIx prs.length 0 lo), (rs.drop (HT.sIx prs.length 0 lo)).take (HT.sIx prs.length prs.length hi - HT.sIx prs.length 0 lo), ?_, ⟨?_, fun i p r e1 e2 => ?_⟩, fun r hr => List.mem_of_mem_drop (List.mem_of_mem_take hr), ?_⟩
  · unfold cutV
    rw [List.length_map, List.map_take, List.map_drop]
  · rw [List.length_take, List.length_drop, List.length_take, List.length_drop, h.1]
  · rw [List.getElem?_take] at e1 e2
    split at e1
    · rename_i hlt
      rw [if_pos hlt, List.getElem?_drop] at e2
      rw [List.getElem?_drop] at e1
      exact h.2 _ p r e1 e2
    · cases e1
  · rw [List.length_take, List.length_drop]; omega
set_option maxHeartbeats 4000000 in
theorem law_fn {fa : Addr} {fd : FuncData} (T : Txt K mg a) (F : Fun K "law" "law" s_law fa fd) : FnOk P w K mg base CX0 8 fa fd ["_law_script"] (spLaw K) := by
  refine F.ok (k := 7) sc_law (fun vs H Q E h => ?_) (fun cdv A outer s H vs Q E hr h => ?_)
  · obtain ⟨a0, ns, rfl, _⟩ := h
    rfl
  · obtain ⟨a0, ns, rfl, hS, h63, q⟩ := h
    refine ⟨_, (pss_cons (ps_set (i := 1) sc_law.nd rfl (Or.inl rfl) (pe_callE (ok_law_parts (K := K) T) (hr.mono (by decide)) pass0 rfl (pa_cons (pv 0) pa_nil)))
      (pss_cons (ps_setC (i := 2) sc_law.nd rfl rfl (own := ["_law_code", "_law_entries", "_law_landings"]) (fr := []) rfl ⟨rfl, (by walk_at "clok"), (by walk_at "frok"), rfl, (by decide +kernel), (by decide +kernel), rfl⟩ (pi_seqK (K := K) rfl (pv 1)) (fun _ _ _ _ => (pg_tupK (K := K) (n := 3) rfl rfl (pgs_cons (pg_name (i := 0) (show List.Nodup [("_law_code" : Str), ("_law_entries" : Str), ("_law_landings" : Str)] from by decide +kernel) rfl (Or.inl rfl)) (pgs_cons (pg_name (i := 1) (show List.Nodup [("_law_code" : Str), ("_law_entries" : Str), ("_law_landings" : Str)] from by decide +kernel) rfl (Or.inl rfl)) (pgs_cons (pg_name (i := 2) (show List.Nodup [("_law_code" : Str), ("_law_entries" : Str), ("_law_landings" : Str)] from by decide +kernel) rfl (Or.inl rfl)) pgs_nil))))) (fun _ _ _ _ => pts_nil) (fun _ _ _ _ => (pe_tup (pa_cons (pe_callTy (call_listK (K := K) rfl) rfl T.z_list b_list (pa_cons (pv 0) pa_nil)) (pa_cons (pe_makeE (mk_Table (K := K) T) (hr.mono (by decide)) pass0 rfl (pa_cons (pe_callTy (call_listK (K := K) rfl) rfl T.z_list b_list (pa_cons (pv 1) pa_nil)) (pa_cons (pe_callTy call_dict1 rfl T.z_dict b_dict (pa_cons (pv 2) pa_nil)) pa_nil))) pa_nil)))))
      (pss_cons (ps_if (pt_cmpR op_gt (pe_callB (call_sumK (K := K) rfl rfl) rfl T.z_sum b_sum (pa_cons (pe_comp (own := ["_law_code", "_law_entries", "_law_landings"]) (fr := []) rfl ⟨rfl, (by walk_at "clok"), (by walk_at "frok"), rfl, (by decide +kernel), (by decide +kernel), rfl⟩ (pi_seqK (K := K) rfl (pv 1)) (fun _ _ _ _ => (pg_tupK (K := K) (n := 3) rfl rfl (pgs_cons (pg_name (i := 0) (show List.Nodup [("_law_code" : Str), ("_law_entries" : Str), ("_law_landings" : Str)] from by decide +kernel) rfl (Or.inl rfl)) (pgs_cons (pg_name (i := 1) (show List.Nodup [("_law_code" : Str), ("_law_entries" : Str), ("_law_landings" : Str)] from by decide +kernel) rfl (Or.inl rfl)) (pgs_cons (pg_name (i := 2) (show List.Nodup [("_law_code" : Str), ("_law_entries" : Str), ("_law_landings" : Str)] from by decide +kernel) rfl (Or.inl rfl)) pgs_nil))))) (fun _ _ _ _ => pts_nil) (fun _ _ _ _ => (pe_callB (call_lenK (K := K) rfl) rfl T.z_len b_len (pa_cons (pv 0) pa_nil)))) pa_nil)) pe_int (nomark _)) (pss_one (ps_ret (pe_and (pe_callE (ok_law_refused (K := K) T) (hr.mono (by decide)) pass0 rfl (pa_cons (pv 2) pa_nil)) (pe_one (pe_callE (ok_law_stay (K := K) T) (hr.mono (by decide)) pass0 rfl (pa_cons (pv 2) (pa_cons (pv 1) pa_nil))))))) pss_nil)
      (pss_cons (ps_set (i := 3) sc_law.nd rfl (Or.inl rfl) (pe_lst pa_nil))
      (pss_cons (ps_set (i := 4) sc_law.nd rfl (Or.inl rfl) (pe_lst pa_nil))
      (pss_cons (ps_set (i := 5) sc_law.nd rfl (Or.inl rfl) pe_dnewK)
      (pss_cons (ps_for PassesOwn.never rfl (pi_seqK (K := K) rfl (pv 1)) (pg_tupK (K := K) rfl rfl (pgs_cons (pg_name (i := 6) sc_law.nd rfl (Or.inl rfl)) (pgs_cons (pg_name (i := 7) sc_law.nd rfl (Or.inl rfl)) (pgs_cons (pg_name (i := 8) sc_law.nd rfl (Or.inl rfl)) pgs_nil)))) (pss_cons (ps_set (i := 9) sc_law.nd rfl (Or.inr rfl) (pe_callB (call_lenK (K := K) rfl) rfl T.z_len b_len (pa_cons (pv 3) pa_nil)))
      (pss_cons (ps_set (i := 3) sc_law.nd rfl (Or.inl rfl) (pe_op (op_plusK (K := K) rfl) (pv 3) (pe_comp (own := ["_law_row_here"]) (fr := [("_law_by", 9)]) rfl ⟨rfl, (by walk_at "clok"), (by walk_at "frok"), rfl, (by decide +kernel), (by decide +kernel), rfl⟩ (pi_seqK (K := K) rfl (pv 6)) (fun _ _ _ _ => (pg_name (i := 0) (show List.Nodup [("_law_row_here" : Str), ("_law_by" : Str)] from by decide +kernel) rfl (Or.inl rfl))) (fun _ _ _ _ => pts_nil) (fun _ _ _ _ => (pe_callE (ok_law_moved (K := K) T) (hr.mono (by decide)) pass0 rfl (pa_cons (pe_methK0 (P := P) (w := w) (K := K) (mg := mg) (base := base) (k := 1) ⟨rfl, rfl, rfl, rfl, rfl⟩ (pv 0) (hr.mono (by decide)) pass0) (pa_cons (pv 1) pa_nil)))))))
      (pss_cons (ps_set (i := 4) sc_law.nd rfl (Or.inl rfl) (pe_op (op_plusK (K := K) rfl) (pv 4) (pv 7)))
      (pss_cons (ps_thaw (ps_for PassesOwn.never rfl (pi_keys (pv 8)) (pg_name (i := 10) sc_law.nd rfl (Or.inl rfl)) (pss_one (ps_dput (hu_of hr) (pv 5) (pe_op (op_plusK (K := K) rfl) (pv 10) (pv 9)) (pe_op (op_plusK (K := K) rfl) (pe_dget (hu_of hr) (pv 8) (pv 10) (fun _ _ => rfl)) (pv 9)) rfl))))
      (pss_one (ps_if (pt_not (pt_truK (K := K) rfl (pe_callE (ok_law_laid_right (K := K) T) (hr.mono (by decide)) pass0 rfl (pa_cons (pe_slice (sl_K (K := K) rfl) (pv 6) (po_some (pe_un un_neg pe_int)) po_none) (pa_cons (pe_op op_mod (pe_callE (ok_law_cell_at (K := K) T) (hr.mono (by decide)) pass0 rfl (pa_cons (pv 0) (pa_cons pe_int pa_nil))) pe_int) pa_nil))))) (pss_one (ps_ret pe_bl)) pss_nil)))))))
      (pss_cons (ps_set (i := 11) sc_law.nd rfl (Or.inl rfl) (pe_callE (ok_joined (K := K) T) (hr.mono (by decide)) pass_no rfl (pa_cons (pv 2) pa_nil)))
      (pss_cons (ps_if (PW.pt (pw_or (pt_not (pt_truK (K := K) rfl (pe_callB (call_isiK (K := K) rfl) rfl T.z_isinstance b_isinstance (pa_cons (pv 11) (pa_cons (pe_bltn (v := .ty "tuple") rfl T.z_tuple b_tuple rfl) pa_nil))))) (pw_or (pt_cmpR (op_neK (K := K) rfl hr.units) (pe_callB (call_lenK (K := K) rfl) rfl T.z_len b_len (pa_cons (pv 11) pa_nil)) pe_int (nomark _)) (pw_or1 (pt_not (pt_truK (K := K) rfl (pe_callB (call_isiK (K := K) rfl) rfl T.z_isinstance b_isinstance (pa_cons (pe_ix (ix_K (K := K) rfl) (pv 11) pe_int (fun _ _ => rfl)) (pa_cons (pe_bltn (v := .ty "list") rfl T.z_list b_list rfl) pa_nil))))))))) (pss_one (ps_ret pe_bl)) pss_nil)
      (pss_cons (ps_if (PW.pt (pw_or (pt_not (pt_truK (K := K) rfl (pe_callB (call_isiK (K := K) rfl) rfl T.z_isinstance b_isinstance (pa_cons (pe_ix (ix_K (K := K) rfl) (pv 11) pe_int (fun _ _ => rfl)) (pa_cons (pe_glob (v := .ref a.C_Table) rfl T.c_Table rfl) pa_nil))))) (pw_or1 (pt_cmpR (op_neK (K := K) rfl hr.units) (pe_comp (own := ["_law_row_here"]) (fr := []) rfl ⟨rfl, (by walk_at "clok"), (by walk_at "frok"), rfl, (by decide +kernel), (by decide +kernel), rfl⟩ (pi_seqK (K := K) rfl (pe_ix (ix_K (K := K) rfl) (pv 11) pe_int (fun _ _ => rfl))) (fun _ _ _ _ => (pg_name (i := 0) (show List.Nodup [("_law_row_here" : Str)] from by decide +kernel) rfl (Or.inl rfl))) (fun _ _ _ _ => pts_nil) (fun _ _ _ _ => (pe_methK0 (P := P) (w := w) (K := K) (mg := mg) (base := base) (k := 1) ⟨rfl, rfl, rfl, rfl, rfl⟩ (pv 0) (hr.mono (by decide)) pass0))) (pv 3) (nomark _))))) (pss_one (ps_ret pe_bl)) pss_nil)
      (pss_cons (ps_if (PW.pt (pw_or (pt_cmpR (op_neK (K := K) rfl hr.units) (pe_fldK (K := K) rfl (pe_ix (ix_K (K := K) rfl) (pv 11) pe_int (fun _ _ => rfl))) (pv 4) (nomark _)) (pw_or1 (pt_cmpR (op_neDic hr.units) (pe_fldK (K := K) rfl (pe_ix (ix_K (K := K) rfl) (pv 11) pe_int (fun _ _ => rfl))) (pv 5) (nomark _))))) (pss_one (ps_ret pe_bl)) pss_nil)
      (pss_one (ps_ret (pe_callE (ok_law_stay (K := K) T) (hr.mono (by decide)) pass0 rfl (pa_cons (pv 2) (pa_cons (pv 1) pa_nil)))))))))))))))), ?_⟩
    refine r_st (σ' := [some _, none, none, none, none, none, none, none, none, none, none, none]) rfl ?_
    walk_at "rd"
    refine ⟨a0, ns, rfl, hS, h63, fun l lv ps H1 s1 hl hps hok h64 => ?_⟩
    have hS1 := Same.seq s1 hS
    have f1 : ∀ b u v, H b = some (.frz u v) → H1 b = some (.frz u v) := fun b u v e => s1 b _ e
    clear s1 hS
    have hll := hps.1
    walk_at "rd"
    refine comp_list (K := K) (a := l) (xs := lv) (fun i ys σ H2 => (∃ u1 u2 u3, σ = [u1, u2, u3]) ∧ Same H1 H2 ∧ ys.length = i ∧ AllV (HandV K a H2) ys (ps.take i)) ⟨⟨_, _, _, rfl⟩, Same.refl _, rfl, AllV.nil⟩ (fun i ys σ H2 hi ⟨_, s2, e, _⟩ => ⟨SqL.of (s2 _ _ hl), by rw [e, sizeLine_eq]; omega⟩) ?_ ?_
    · rintro i v ys σ H2 hvi ⟨⟨u1, u2, u3, rfl⟩, s2, hy, hys⟩
      obtain ⟨p, hpi, hpm, t, c, e, d, rfl, ht, prs, ev, hc, hrs, he, hev, hd⟩ := hps.at hvi
      have a1 := s2 _ _ ht
      have a2 := s2 _ _ hc
      have a3 := s2 _ _ he
      have a4 := s2 _ _ hd
      have a5 := hrs.same s2
      have a6 := hev.same s2
      clear ht hc he hd hrs hev
      walk_at "rd"
      rename_i lc nlc le nle ld nld
      intro x dx nx ndx nxdx
      refine' r_tab (kvs := landKV p.ls) (xs := ev) nx ndx ?h1 ?h2 ?q
      (case h1 => exact SqL.of (by walk_at "hlk"))
      (case h2 => exact .inr ⟨ld, rfl, upd_same⟩)
      (case q =>
        intro l2 d2 H3 s3 nl nd' nld' nxl nxd hx hl2 hd2
        refine ⟨rfl, ?_⟩
        have sX : Same H2 (upd (upd (upd H2 lc (.lst (prs.map V.ref))) le (.lst ev)) ld (.dK (landKV p.ls))) := by walk_at "same"
        have b1 : H3 lc = some (.lst (prs.map V.ref)) := s3 _ _ (by walk_at "hlk")
        have s23 := sX.trans s3
        have b2 := a5.same s23
        have b3 := a6.same s23
        clear a1 a2 a3 a4 a5 a6 sX s3 nl nd' nld' nxl nxd nx ndx nxdx nlc nle nld
        walk_at "rd"
        rename_i t2 nt2
        have sn := same_new (o := .tup [.ref lc, .ref x]) nt2
        refine ⟨⟨_, _, _, rfl⟩, (s2.trans s23).trans sn, by rw [List.length_append, hy]; rfl, ?_⟩
        rw [take_snoc hpi]
        exact (hys.imp fun v p z => (HandV.same z s23).same sn).snoc ⟨t2, x, dx, lc, l2, d2, rfl, upd_same, sn _ _ hx, prs, ev, sn _ _ b1, b2.same sn, sn _ _ hl2, b3.same sn, sn _ _ hd2⟩)
    rintro hv σ H2 ⟨_, s2, hyl, hys⟩
    rw [hll, List.take_length] at hys
    have b1 := s2 _ _ hl
    have b2 : AllV (LawV K a H2) lv ps := hps.imp fun v p z => z.same s2
    have b3 := Same.seq s2 hS1
    have f2 : ∀ b u v, H b = some (.frz u v) → H2 b = some (.frz u v) := fun b u v e => s2 b _ (f1 b u v e)
    clear s2 hl hps hS1 f1
    walk_at "rd"
    rename_i lh nlh
    have sn := same_new (o := .lst hv) nlh
    have f3 : ∀ b u v, H b = some (.frz u v) → (upd H2 lh (.lst hv)) b = some (.frz u v) := fun b u v e => sn b _ (f2 b u v e)
    clear f2
    have hlh : (upd H2 lh (.lst hv)) lh = some (.lst hv) := upd_same
    have hl3 := sn _ _ b1
    have hps3 : AllV (LawV K a (upd H2 lh (.lst hv))) lv ps := b2.imp fun v p z => z.same sn
    have hhs3 : AllV (HandV K a (upd H2 lh (.lst hv))) hv ps := hys.imp fun v p z => z.same sn
    have hS3 := Same.seq sn b3
    clear sn b1 b2 b3 hys nlh
    generalize upd H2 lh (.lst hv) = H3 at hlh hl3 hps3 hhs3 hS3 f3 ⊢
    refine comp_list (K := K) (a := l) (xs := lv) (fun i ys σ H4 => (∃ u1 u2 u3, σ = [u1, u2, u3]) ∧ H4 = H3 ∧ ys = ((ps.take i).map fun p => ((p.rs.length : Nat) : Int)).map V.int) ⟨⟨_, _, _, rfl⟩, rfl, rfl⟩ (fun i ys σ H1 hi ⟨_, e1, e⟩ => ⟨by rw [e1]; exact SqL.of hl3, by rw [e, List.length_map, List.length_map, List.length_take, sizeLine_eq]; omega⟩) ?_ ?_
    · rintro i x ys σ H4 hx ⟨⟨u1, u2, u3, rfl⟩, e1, rfl⟩
      obtain rfl : H3 = H4 := e1.symm
      obtain ⟨p, hpi, hpm, t, c, e, d, rfl, ht, prs, ev, hc, hrs, he, hev, hd⟩ := hps3.at hx
      walk_at "rd"
      refine ⟨⟨_, _, _, rfl⟩, rfl, ?_⟩
      rw [take_snoc hpi, List.map_append, List.map_append, List.length_map, hrs.1]; rfl
    rintro ys σ H4 ⟨_, e1, rfl⟩
    obtain rfl : H3 = H4 := e1.symm
    rw [hll, List.take_length]
    walk_at "rd"
    rename_i ll nll
    rw [tot_sum]
    have sn := same_new (o := .lst ((ps.map fun p => ((p.rs.length : Nat) : Int)).map V.int)) nll
    have c1 := sn _ _ hlh
    have c2 := sn _ _ hl3
    have c3 : AllV (LawV K a (upd H3 ll (.lst ((ps.map fun p => ((p.rs.length : Nat) : Int)).map V.int)))) lv ps := hps3.imp fun v p z => z.same sn
    have c4 : AllV (HandV K a (upd H3 ll (.lst ((ps.map fun p => ((p.rs.length : Nat) : Int)).map V.int)))) hv ps := hhs3.imp fun v p z => z.same sn
    have c5 := Same.seq sn hS3
    have f5 : ∀ b u v, H b = some (.frz u v) → (upd H3 ll (.lst ((ps.map fun p => ((p.rs.length : Nat) : Int)).map V.int))) b = some (.frz u v) := fun b u v e => sn b _ (f3 b u v e)
    clear f3
    clear sn hlh hl3 hps3 hhs3 hS3 nll
    generalize upd H3 ll (.lst ((ps.map fun p => ((p.rs.length : Nat) : Int)).map V.int)) = H5 at c1 c2 c3 c4 c5 f5 ⊢
    refine ifDec (fun hh => ?_) (fun hh => ?_)
    · walk_at "rd"
      refine ⟨lh, hv, ps, rfl, c1, c4, hok, h64, by omega, fun H6 s6 => ?_⟩
      walk_at "rd"
      refine ⟨lh, l, hv, lv, ps, rfl, s6 _ _ c1, c4.imp fun v p z => z.same s6, s6 _ _ c2, c3.imp fun v p z => z.same s6, hok, fun H7 s7 => ?_⟩
      exact q _
    have ht2 : tot ps ≤ 2000 := by omega
    clear hh
    walk_at "rd"
    rename_i lt nlt le nle ld nld
    have nd : H5 ld = none := by walk_at "none"
    have d1 : (upd (upd (upd H5 lt (.lst [])) le (.lst [])) ld (.dK [])) lt = some (.lst []) := by walk_at "hlk"
    have d2 : (upd (upd (upd H5 lt (.lst [])) le (.lst [])) ld (.dK [])) le = some (.lst []) := by walk_at "hlk"
    have d3 : (upd (upd (upd H5 lt (.lst [])) le (.lst [])) ld (.dK [])) ld = some (.dK []) := upd_same
    have d4 : Same H5 (upd (upd (upd H5 lt (.lst [])) le (.lst [])) ld (.dK [])) := by walk_at "same"
    clear nlt nle nld
    generalize (upd (upd (upd H5 lt (.lst [])) le (.lst [])) ld (.dK [])) = H6 at d1 d2 d3 d4 ⊢
    refine for_list (K := K) (a := l) (xs := lv) (fun i σ HH => (∃ lt le u1 u2 u3 u4 u5, σ = [some (.ref a0), some (.ref l), some (.ref lh), some (.ref lt), some (.ref le), some (.ref ld), u1, u2, u3, u4, u5, none] ∧ ∃ (us ev : List V), HH lt = some (.lst us) ∧ TellsAt HH us (jn (ps.take i)).rs ∧ HH le = some (.lst ev) ∧ EntVs K HH ev (jn (ps.take i)).es) ∧ Same H5 HH ∧ HH ld = some (.dK (jn (ps.take i)).kv)) ⟨⟨lt, le, _, _, _, _, _, rfl, [], [], d1, TellsAt.nil, d2, EntVs.nil⟩, d4, d3⟩ (fun i σ HH _ ⟨_, s2, _⟩ => SqL.of (s2 _ _ c2)) ?_ ?_
    · clear d1 d2 d3 d4 c1 c4
      rintro i v σ H7 hvi ⟨⟨lt, le, u1, u2, u3, u4, u5, rfl, us, ev, hlt, htl, hle, hev⟩, s7, hld⟩
      obtain ⟨p, hpi, hpm, t, c, e, d, rfl, ht, prs1, ev1, hc, hrs1, he, hev1, hd⟩ := c3.at hvi
      have hi : i < ps.length := (List.getElem?_eq_some_iff.mp hpi).1
      have jk := jn_ok hok i (Nat.le_of_lt hi)
      have tt1 : tot (ps.take i) + p.rs.length ≤ 2000 := by
        have := tot_take ps (i + 1)
        rw [take_snoc hpi, tot_app, tot_one] at this
        omega
      have pok := hok p hpm
      have HERE : ∀ r ∈ p.rs, r.here := fun r hr' => (pok.row r hr').2.1
      rw [jn_take hpi]
      generalize jn (ps.take i) = j at *
      have jl := jk.len
      clear c2 c3
      have a1 := s7 _ _ ht
      walk_at "rd"
      rw [show us.length = j.rs.length from htl.1]
      refine comp_tell (a := a) (fun r => r.laid (j.rs.length : Int)) (fun σ => ∃ v, σ = [v, some (.int (j.rs.length : Int))]) (s7 _ _ hc) (hrs1.same s7) (Nat.le_trans pok.nrs (by decide)) ⟨_, rfl⟩ ?_ (fun us1 H8 s8 tl1 => ?_)
      · clear s7 a1 hlt htl hle hev hld ht hc hrs1 he hev1 hd c5
        rintro p1 r1 σ1 H1 C C' hm ⟨v1, rfl⟩ s1 ⟨dx1, hrow1⟩ k1
        walk_at "rd"
        refine r_methV hrow1 (flds_told _) ((me_all_told T (HERE r1 hm)).mono (by decide)) ?_
        walk_at "rd"
        refine ⟨p1, rfl, ⟨dx1, hrow1⟩, fun q1 nq1 => ?_⟩
        walk_at "rd"
        refine ⟨q1, (j.rs.length : Int), r1, rfl, upd_same, fun q2 H4 s4 hq2 => ?_⟩
        exact k1 q2 _ _ ((same_new nq1).trans s4) hq2 ⟨_, rfl⟩
      have s58 := s7.trans s8
      have b1 := s8 _ _ hlt
      have b2 := htl.same s8
      have b3 := s8 _ _ hle
      have b4 := hev.same s8
      have b5 := s8 _ _ hld
      have b6 := s58 _ _ he
      have b7 := hev1.same s58
      have g1 : us.length ≤ 2000 := by rw [b2.1]; omega
      have g2 : us1.length ≤ 2000 := by rw [tl1.1, List.length_map]; omega
      have g3 : ev.length ≤ 127936 := by rw [b4.1]; have := jk.es; omega
      have g4 : ev1.length ≤ 1999 := by rw [b7.1]; exact pok.nes
      clear s7 s8 hlt htl hle hev hld a1
      walk_at "rd"
      rename_i l1 nl1 lt2 nlt2 le2 nle2
      have sX : Same H8 (upd (upd (upd H8 l1 (.lst us1)) lt2 (.lst (us ++ us1))) le2 (.lst (ev ++ ev1))) := by walk_at "same"
      have e1 : (upd (upd (upd H8 l1 (.lst us1)) lt2 (.lst (us ++ us1))) le2 (.lst (ev ++ ev1))) lt2 = some (.lst (us ++ us1)) := by walk_at "hlk"
      have e2 : (upd (upd (upd H8 l1 (.lst us1)) lt2 (.lst (us ++ us1))) le2 (.lst (ev ++ ev1))) le2 = some (.lst (ev ++ ev1)) := upd_same
      have s9 := s58.trans sX
      have e3 := (b2.app tl1).same sX
      have e4 := (b4.app b7).same sX
      have e5 := sX _ _ b5
      clear sX s58 b1 b2 b3 b4 b5 b6 b7 tl1 nl1 nlt2 nle2
      generalize (upd (upd (upd H8 l1 (.lst us1)) lt2 (.lst (us ++ us1))) le2 (.lst (ev ++ ev1))) = H9 at e1 e2 e3 e4 e5 s9 ⊢
      have hd9 := s9 _ _ hd
      have ndd : ld ≠ d := fun z => by rw [z, hd] at nd; cases nd
      refine r_thaw ?_
      walk_at "rd"
      refine ⟨d, landKV p.ls, rfl, hd9, fun ob => ?_⟩
      refine for_keys (ob := ob) (fun i2 σ HH => (∃ u, σ = [some (.ref a0), some (.ref l), some (.ref lh), some (.ref lt2), some (.ref le2), some (.ref ld), some (.ref c), some (.ref e), some (.ref d), some (.int (j.rs.length : Int)), u, none]) ∧ (∀ b o, H9 b = some o → b ≠ d → b ≠ ld → HH b = some o) ∧ HH d = some (.frz ob (.dK (landKV p.ls))) ∧ HH ld = some (.dK ((p.ls.take i2).foldl (putL (j.rs.length : Int)) j.kv))) ⟨⟨_, rfl⟩, fun b o e n1 _ => by rw [upd_ne n1]; exact e, upd_same, by rw [upd_ne ndd]; exact e5⟩ (fun i2 σ HH _ h => h.2.2.1) ?_ ?_
      · rintro i2 k v σ HH hkv ⟨⟨u, rfl⟩, kp6, hf6, hl6⟩
        obtain ⟨q2, hq2, eq2⟩ : ∃ q2, p.ls[i2]? = some q2 ∧ ((Sum.inl q2.1 : Key), V.int q2.2) = (k, v) := by
          unfold landKV at hkv
          rw [List.getElem?_map] at hkv
          exact Option.map_eq_some_iff.mp hkv
        cases eq2
        have hlen : ((p.ls.take i2).foldl (putL (j.rs.length : Int)) j.kv).length ≤ 600 := by
          obtain ⟨ls, e, o, n⟩ := jk.kv
          obtain ⟨ls', e', o', n'⟩ := fold_put (n := (j.rs.length : Int)) (by omega) (qs := p.ls.take i2) (fun q hq => pok.ls.2 q (List.mem_of_mem_take hq)) o
          rw [e, e', show (landKV ls').length = ls'.length from by unfold landKV; rw [List.length_map]]
          have := pok.nls
          rw [List.length_take] at n'
          omega
        have enext : (p.ls.take (i2 + 1)).foldl (putL (j.rs.length : Int)) j.kv = putK ((p.ls.take i2).foldl (putL (j.rs.length : Int)) j.kv) (.inl (q2.1 + (j.rs.length : Int))) (.int (q2.2 + (j.rs.length : Int))) := by
          rw [List.take_add_one, hq2, Option.toList_some, List.foldl_append]; rfl
        rw [enext]
        generalize (p.ls.take i2).foldl (putL (j.rs.length : Int)) j.kv = kv6 at hl6 hlen ⊢
        show gName 10 (V.int q2.1) _ _ _
        walk_at "rd"
        refine r_dGet ?_
        walk_at "rd"
        refine ⟨d, .int q2.2, rfl, .inl ⟨landKV p.ls, .inl q2.1, .inr ⟨ob, hf6⟩, rfl, (land_val pok.ls.1 q2 (List.mem_of_getElem? hq2)).1.symm⟩, ?_⟩
        walk_at "rd"
        refine ⟨⟨_, rfl⟩, fun b o e n1 n2 => ?_, ?_, upd_same⟩
        · rw [upd_ne n2]; exact kp6 b o e n1 n2
        · rw [upd_ne ndd.symm]; exact hf6
      rintro σ HH ⟨⟨u, rfl⟩, kp6, hf6, hl6⟩
      rw [show (landKV p.ls).length = p.ls.length from by unfold landKV; rw [List.length_map], List.take_length] at hl6
      refine .inr ⟨d, ob, landKV p.ls, hf6, fun u v z => ?_, ?_⟩
      · have z := f5 d u v z
        rw [hd] at z; cases z
      have kb : But ld H9 (upd HH d (.dK (landKV p.ls))) := fun b o e n => by
        by_cases hb : b = d
        · subst hb
          rw [hd9] at e
          rw [upd_same]; exact e
        · rw [upd_ne hb]; exact kp6 b o e hb n
      have hl7 : (upd HH d (.dK (landKV p.ls))) ld = _ := (upd_ne ndd).trans hl6
      generalize (upd HH d (.dK (landKV p.ls))) = H10 at kb hl7 ⊢
      have s10 : Same H5 H10 := fun b o e => kb b o (s9 b o e) (ne_of_none e nd)
      have g1 : H10 lt2 = _ := kb _ _ e1 (fun z => by rw [z, e5] at e1; cases e1)
      have g2 : H10 le2 = _ := kb _ _ e2 (fun z => by rw [z, e5] at e2; cases e2)
      have g3 : TellsAt H10 (us ++ us1) (j.rs ++ p.rs.map fun r => r.laid (j.rs.length : Int)) := ⟨e3.1, fun i u r h1 h2 => by
        obtain ⟨qq, z1, z2⟩ := e3.2 i u r h1 h2
        exact ⟨qq, z1, kb _ _ z2 (fun z => by rw [z, e5] at z2; cases z2)⟩⟩
      have g4 : EntVs K H10 (ev ++ ev1) (j.es ++ p.es) := e4.but kb (fun _ z => by rw [e5] at z; cases z) (fun _ _ z => by rw [e5] at z; cases z)
      have hc10 := s10 _ _ hc
      have hr10 := hrs1.same s10
      have hS10 := Same.seq s10 c5
      clear e1 e2 e3 e4 e5 s9 kb hf6 hl6 kp6 hd9 hd ht he hev1 hrs1 hc c5
      walk_at "rd"
      rename_i lq nlq
      obtain ⟨prs', rs', ec, hr', hm', hl'⟩ := cut_rows hr10 (some (-9)) none
      rw [ec]
      have sn := same_new (o := .lst (prs'.map V.ref)) nlq
      refine ⟨lq, _, prs', rs', rfl, upd_same, hr'.same sn, fun r hr1 => ⟨(pok.row r (hm' r hr1)).1, (pok.row r (hm' r hr1)).2.1, (pok.row r (hm' r hr1)).2.2.1⟩, by have := pok.nrs; omega, by omega, by omega, fun H11 s11 => ?_⟩
      have sF := sn.trans s11
      walk_at "rd"
      exact ⟨⟨lt2, le2, _, _, _, _, _, rfl, us ++ us1, ev ++ ev1, sF _ _ g1, g3.same sF, sF _ _ g2, g4.same sF⟩, s10.trans sF, sF _ _ hl7⟩
    · clear d1 d2 d3 d4
      rintro σ H7 ⟨⟨lt, le, u1, u2, u3, u4, u5, rfl, us, ev, hlt, htl, hle, hev⟩, s7, hld⟩
      rw [hll, List.take_length] at htl hev hld
      have x1 := s7 _ _ c1
      have x2 := s7 _ _ c2
      have x3 : AllV (HandV K a H7) hv ps := c4.imp fun v p z => z.same s7
      have x4 : AllV (LawV K a H7) lv ps := c3.imp fun v p z => z.same s7
      have jk := jn_ok hok ps.length (Nat.le_refl _)
      rw [List.take_length] at jk
      have jh := jn_here hok ps.length (Nat.le_refl _)
      rw [List.take_length] at jh
      obtain ⟨ls, ek, hls, _⟩ := jk.kv
      have jl := jk.len
      clear s7 c1 c2 c3 c4 c5
      walk_at "rd"
      refine ⟨lh, hv, ps, rfl, x1, x3, hok, h64, fun z => absurd z (by omega), fun _ t H8 s8 hJ => ?_⟩
      obtain ⟨x, dx, c, e, d, prs, ev2, j1, j2, j3, j4, j5, j6, j7⟩ := hJ
      have y1 := s8 _ _ hlt
      have y2 := s8 _ _ hle
      have y3 := s8 _ _ hld
      have y4 := htl.same s8
      have y5 := hev.same s8
      have z1 := s8 _ _ x1
      have z2 := s8 _ _ x2
      have z3 : AllV (HandV K a H8) hv ps := x3.imp fun v p z => z.same s8
      have z4 : AllV (LawV K a H8) lv ps := x4.imp fun v p z => z.same s8
      clear s8 hlt hle hld htl hev x1 x2 x3 x4
      walk_at "rd"
      refine r_isi (fun z => nomatch z) (.ins j2 T.cl_Table T.ty_Table.1 T.ob1 T.ob2 T.ty_Table.2) T.is_Table_Table ?_
      walk_at "rd"
      refine comp_tell (a := a) id (fun σ => ∃ v, σ = [v]) j3 j4 (by omega) ⟨_, rfl⟩ ?_ (fun us1 H9 s9 tl1 => ?_)
      · clear y1 y2 y3 y4 y5 z1 z2 z3 z4 j1 j2 j5 j6 j7
        rintro p1 r1 σ1 H1 C C' hm ⟨v1, rfl⟩ s1 ⟨dx1, hrow1⟩ k1
        walk_at "rd"
        refine r_methV hrow1 (flds_told _) ((me_all_told T (jh r1 hm)).mono (by decide)) ?_
        walk_at "rd"
        refine ⟨p1, rfl, ⟨dx1, hrow1⟩, fun q1 nq1 => ?_⟩
        exact k1 q1 _ _ (same_new nq1) upd_same ⟨_, rfl⟩
      rw [List.map_id] at tl1
      walk_at "rd"
      rename_i lw nlw
      have sn := s9.trans (same_new (o := .lst us1) nlw)
      refine r_neT (.list ((jn ps).rs.map toldD)) (dp_lst (SqL.of upd_same) (tl1.same (same_new nlw)).dp) (dp_lst (SqL.of (sn _ _ y1)) (y4.same sn).dp) (shaped_tolds _) ?_
      have m1 := sn _ _ j1
      have m2 : _ = some (HO.ins a.C_Table dx (putF "landings" (.ref d) (putF "entries" (.ref e) []))) := sn _ _ j2
      have m3 := sn _ _ j5
      have m4 := j6.same sn
      have m5 := sn _ _ j7
      have w1 := sn _ _ y2
      have w2 := y5.same sn
      have w3 := sn _ _ y3
      have w4 := sn _ _ z1
      have w5 := sn _ _ z2
      have w6 : AllV (HandV K a _) hv ps := z3.imp fun v p z => z.same sn
      have w7 : AllV (LawV K a _) lv ps := z4.imp fun v p z => z.same sn
      clear sn s9 nlw tl1 j1 j2 j3 j4 j5 j6 j7 y1 y2 y3 y4 y5 z1 z2 z3 z4
      generalize upd H9 lw (.lst us1) = HF at m1 m2 m3 m4 m5 w1 w2 w3 w4 w5 w6 w7 ⊢
      walk_at "rd"
      refine r_neT (.list ((jn ps).es.map entD)) (dp_lst (SqL.of m3) m4.dp) (dp_lst (SqL.of w1) w2.dp) (shaped_ents _) ?_
      walk_at "rd"
      refine r_neDic (kvs := (jn ps).kv) m5 w3 (by rw [ek]; exact land_dSame hls.1) ?_
      walk_at "rd"
      exact ⟨lh, l, hv, lv, ps, rfl, w4, w6, w5, w7, hok, fun H7 s7 => q _⟩
end
theorem funD_mk2 {K : PySem.W.Frag} {x qual : Str} {st : Stmt} {f da : Addr} {n : Nat} {oc dc : Value} {od an dd : Option Addr} {osl dl : Array (Option Value)} {kV doc pm cdv ct : Value} (l : K.lookup f = some ⟨oc, od, .func (PySem.W.fnOf x qual (defArgs st) (defBody st) (defScope st) (.ref da) kV doc pm an cdv ct), osl⟩)
    (d : K.lookup da = some ⟨dc, dd, .seq #[.none] n, dl⟩) (c : PySem.W.codeIn K cdv qual = true) (k : PySem.W.keepIn K (.ref f) = true) : FunD K x qual st f (PySem.W.fnOf x qual (defArgs st) (defBody st) (defScope st) (.ref da) kV doc pm an cdv ct) := funD_mk l ⟨d, n, rfl⟩ c k
theorem bindsF {K : PySem.W.Frag} {x qual : Str} {st : Stmt} {f : Addr} {fd : FuncData} {ps : List Str} (F : FunD K x qual st f fd)
    (h : ∀ (da : Addr) (kV doc pm : Value) (an : Option Addr) (cdv ct : Value) (us : List Value), us.length = ps.length → ∃ k : Option (Array Value) → Sem (List (Str × Value)), bindArgs (PySem.W.fnOf x qual (defArgs st) (defBody st) (defScope st) (.ref da) kV doc pm an cdv ct) ⟨us, []⟩ = seqItems? (.ref da) >>= k ∧ k (some #[.none]) = pure (ps.zip us)) : Binds K fd ps [] := by
  obtain ⟨oc, od, da, kV, doc, pm, an, cdv, ct, osl, o, n, rfl, lk, hcd, ld, ed⟩ := F.ex
  intro s us KX hl
  rw [List.append_nil] at hl ⊢
  obtain ⟨k, h1, h2⟩ := h da kV doc pm an cdv ct us hl
  exact .of_defaults rfl (KX _ _ ld) ed h1 h2
set_option maxHeartbeats 8000000 in
theorem txt_mk {K : PySem.W.Frag} {h : Heap} {mg : Str → Option Value} {fa : Addr} (X : K.In h) (G : h.Ns mainGlobals mg) (hfa : mg "law" = some (.ref fa))
    {t_TOP_BOX : Tok}
    {t_TOP_CELLS : Tok}
    {t_TOP_ROWS : Tok}
    {t_TOP_TARGET : Tok}
    {t_TOP_VALUE : Tok}
    {C_Add : Addr}
    {C_Back : Addr}
    {C_Branch : Addr}
    {C_Call : Addr}
    {C_Copy : Addr}
    {C_Drop : Addr}
    {C_FrameError : Addr}
    {C_Get : Addr}
    {C_Grow : Addr}
    {C_Jump : Addr}
    {C_NoRow : Addr}
    {C_NoTable : Addr}
    {C_Put : Addr}
    {C_Set : Addr}
    {C_Shrink : Addr}
    {C_Table : Addr}
    {f1 : Addr} {od1 an1 : Option Addr} {sl1 : Array (Option Value)} {oc1 kV1 dc1 pm1 cd1 ct1 : Value}
    {da1 : Addr} {dc1' : Value} {dd1 : Option Addr} {dn1 : Nat} {dl1 : Array (Option Value)}
    {f2 : Addr} {od2 an2 : Option Addr} {sl2 : Array (Option Value)} {oc2 kV2 dc2 pm2 cd2 ct2 : Value}
    {f3 : Addr} {od3 an3 : Option Addr} {sl3 : Array (Option Value)} {oc3 kV3 dc3 pm3 cd3 ct3 : Value}
    {f4 : Addr} {od4 an4 : Option Addr} {sl4 : Array (Option Value)} {oc4 kV4 dc4 pm4 cd4 ct4 : Value}
    {f5 : Addr} {od5 an5 : Option Addr} {sl5 : Array (Option Value)} {oc5 kV5 dc5 pm5 cd5 ct5 : Value}
    {f6 : Addr} {od6 an6 : Option Addr} {sl6 : Array (Option Value)} {oc6 kV6 dc6 pm6 cd6 ct6 : Value}
    {f7 : Addr} {od7 an7 : Option Addr} {sl7 : Array (Option Value)} {oc7 kV7 dc7 pm7 cd7 ct7 : Value}
    {f8 : Addr} {od8 an8 : Option Addr} {sl8 : Array (Option Value)} {oc8 kV8 dc8 pm8 cd8 ct8 : Value}
    {f9 : Addr} {od9 an9 : Option Addr} {sl9 : Array (Option Value)} {oc9 kV9 dc9 pm9 cd9 ct9 : Value}
    {f10 : Addr} {od10 an10 : Option Addr} {sl10 : Array (Option Value)} {oc10 kV10 dc10 pm10 cd10 ct10 : Value}
    {f11 : Addr} {od11 an11 : Option Addr} {sl11 : Array (Option Value)} {oc11 kV11 dc11 pm11 cd11 ct11 : Value}
    {f12 : Addr} {od12 an12 : Option Addr} {sl12 : Array (Option Value)} {oc12 kV12 dc12 pm12 cd12 ct12 : Value}
    {f13 : Addr} {od13 an13 : Option Addr} {sl13 : Array (Option Value)} {oc13 kV13 dc13 pm13 cd13 ct13 : Value}
    {f14 : Addr} {od14 an14 : Option Addr} {sl14 : Array (Option Value)} {oc14 kV14 dc14 pm14 cd14 ct14 : Value}
    {f15 : Addr} {od15 an15 : Option Addr} {sl15 : Array (Option Value)} {oc15 kV15 dc15 pm15 cd15 ct15 : Value}
    {f16 : Addr} {od16 an16 : Option Addr} {sl16 : Array (Option Value)} {oc16 kV16 dc16 pm16 cd16 ct16 : Value}
    {f17 : Addr} {od17 an17 : Option Addr} {sl17 : Array (Option Value)} {oc17 kV17 dc17 pm17 cd17 ct17 : Value}
    {f18 : Addr} {od18 an18 : Option Addr} {sl18 : Array (Option Value)} {oc18 kV18 dc18 pm18 cd18 ct18 : Value}
    {f19 : Addr} {od19 an19 : Option Addr} {sl19 : Array (Option Value)} {oc19 kV19 dc19 pm19 cd19 ct19 : Value}
    {f20 : Addr} {od20 an20 : Option Addr} {sl20 : Array (Option Value)} {oc20 kV20 dc20 pm20 cd20 ct20 : Value}
    {f21 : Addr} {od21 an21 : Option Addr} {sl21 : Array (Option Value)} {oc21 kV21 dc21 pm21 cd21 ct21 : Value}
    {f22 : Addr} {od22 an22 : Option Addr} {sl22 : Array (Option Value)} {oc22 kV22 dc22 pm22 cd22 ct22 : Value}
    {f23 : Addr} {od23 an23 : Option Addr} {sl23 : Array (Option Value)} {oc23 kV23 dc23 pm23 cd23 ct23 : Value}
    {f24 : Addr} {od24 an24 : Option Addr} {sl24 : Array (Option Value)} {oc24 kV24 dc24 pm24 cd24 ct24 : Value}
    {f25 : Addr} {od25 an25 : Option Addr} {sl25 : Array (Option Value)} {oc25 kV25 dc25 pm25 cd25 ct25 : Value}
    {f26 : Addr} {od26 an26 : Option Addr} {sl26 : Array (Option Value)} {oc26 kV26 dc26 pm26 cd26 ct26 : Value}
    {f27 : Addr} {od27 an27 : Option Addr} {sl27 : Array (Option Value)} {oc27 kV27 dc27 pm27 cd27 ct27 : Value}
    {f28 : Addr} {od28 an28 : Option Addr} {sl28 : Array (Option Value)} {oc28 kV28 dc28 pm28 cd28 ct28 : Value}
    {f29 : Addr} {od29 an29 : Option Addr} {sl29 : Array (Option Value)} {oc29 kV29 dc29 pm29 cd29 ct29 : Value}
    {f30 : Addr} {od30 an30 : Option Addr} {sl30 : Array (Option Value)} {oc30 kV30 dc30 pm30 cd30 ct30 : Value}
    {f31 : Addr} {od31 an31 : Option Addr} {sl31 : Array (Option Value)} {oc31 kV31 dc31 pm31 cd31 ct31 : Value}
    {f32 : Addr} {od32 an32 : Option Addr} {sl32 : Array (Option Value)} {oc32 kV32 dc32 pm32 cd32 ct32 : Value}
    {f33 : Addr} {od33 an33 : Option Addr} {sl33 : Array (Option Value)} {oc33 kV33 dc33 pm33 cd33 ct33 : Value}
    {f34 : Addr} {od34 an34 : Option Addr} {sl34 : Array (Option Value)} {oc34 kV34 dc34 pm34 cd34 ct34 : Value}
    {f35 : Addr} {od35 an35 : Option Addr} {sl35 : Array (Option Value)} {oc35 kV35 dc35 pm35 cd35 ct35 : Value}
    {f36 : Addr} {od36 an36 : Option Addr} {sl36 : Array (Option Value)} {oc36 kV36 dc36 pm36 cd36 ct36 : Value}
    {f37 : Addr} {od37 an37 : Option Addr} {sl37 : Array (Option Value)} {oc37 kV37 dc37 pm37 cd37 ct37 : Value}
    {f38 : Addr} {od38 an38 : Option Addr} {sl38 : Array (Option Value)} {oc38 kV38 dc38 pm38 cd38 ct38 : Value}
    {f39 : Addr} {od39 an39 : Option Addr} {sl39 : Array (Option Value)} {oc39 kV39 dc39 pm39 cd39 ct39 : Value}
    {f40 : Addr} {od40 an40 : Option Addr} {sl40 : Array (Option Value)} {oc40 kV40 dc40 pm40 cd40 ct40 : Value}
    {f41 : Addr} {od41 an41 : Option Addr} {sl41 : Array (Option Value)} {oc41 kV41 dc41 pm41 cd41 ct41 : Value}
    {f42 : Addr} {od42 an42 : Option Addr} {sl42 : Array (Option Value)} {oc42 kV42 dc42 pm42 cd42 ct42 : Value}
    {f43 : Addr} {od43 an43 : Option Addr} {sl43 : Array (Option Value)} {oc43 kV43 dc43 pm43 cd43 ct43 : Value}
    {f44 : Addr} {od44 an44 : Option Addr} {sl44 : Array (Option Value)} {oc44 kV44 dc44 pm44 cd44 ct44 : Value}
    {f45 : Addr} {od45 an45 : Option Addr} {sl45 : Array (Option Value)} {oc45 kV45 dc45 pm45 cd45 ct45 : Value}
    {f46 : Addr} {od46 an46 : Option Addr} {sl46 : Array (Option Value)} {oc46 kV46 dc46 pm46 cd46 ct46 : Value}
    {f47 : Addr} {od47 an47 : Option Addr} {sl47 : Array (Option Value)} {oc47 kV47 dc47 pm47 cd47 ct47 : Value}
    {f48 : Addr} {od48 an48 : Option Addr} {sl48 : Array (Option Value)} {oc48 kV48 dc48 pm48 cd48 ct48 : Value}
    {f49 : Addr} {od49 an49 : Option Addr} {sl49 : Array (Option Value)} {oc49 kV49 dc49 pm49 cd49 ct49 : Value}
    {f50 : Addr} {od50 an50 : Option Addr} {sl50 : Array (Option Value)} {oc50 kV50 dc50 pm50 cd50 ct50 : Value}
    {f51 : Addr} {od51 an51 : Option Addr} {sl51 : Array (Option Value)} {oc51 kV51 dc51 pm51 cd51 ct51 : Value}
    (z_dict : PySem.W.nsIn K mainGlobals "dict" = some none)
    (z_int : PySem.W.nsIn K mainGlobals "int" = some none)
    (z_isinstance : PySem.W.nsIn K mainGlobals "isinstance" = some none)
    (z_len : PySem.W.nsIn K mainGlobals "len" = some none)
    (z_list : PySem.W.nsIn K mainGlobals "list" = some none)
    (z_range : PySem.W.nsIn K mainGlobals "range" = some none)
    (z_sum : PySem.W.nsIn K mainGlobals "sum" = some none)
    (z_tuple : PySem.W.nsIn K mainGlobals "tuple" = some none)
    (z_zip : PySem.W.nsIn K mainGlobals "zip" = some none)
    (g_TOP_BOX : PySem.W.nsIn K mainGlobals "TOP_BOX" = some (some (Value.int 7 t_TOP_BOX)))
    (g_TOP_CELLS : PySem.W.nsIn K mainGlobals "TOP_CELLS" = some (some (Value.int 4000 t_TOP_CELLS)))
    (g_TOP_ROWS : PySem.W.nsIn K mainGlobals "TOP_ROWS" = some (some (Value.int 2000 t_TOP_ROWS)))
    (g_TOP_TARGET : PySem.W.nsIn K mainGlobals "TOP_TARGET" = some (some (Value.int 2000 t_TOP_TARGET)))
    (g_TOP_VALUE : PySem.W.nsIn K mainGlobals "TOP_VALUE" = some (some (Value.int 4294967295 t_TOP_VALUE)))
    (c_Add : PySem.W.nsIn K mainGlobals "Add" = some (some (.ref C_Add)))
    (c_Back : PySem.W.nsIn K mainGlobals "Back" = some (some (.ref C_Back)))
    (c_Branch : PySem.W.nsIn K mainGlobals "Branch" = some (some (.ref C_Branch)))
    (c_Call : PySem.W.nsIn K mainGlobals "Call" = some (some (.ref C_Call)))
    (c_Copy : PySem.W.nsIn K mainGlobals "Copy" = some (some (.ref C_Copy)))
    (c_Drop : PySem.W.nsIn K mainGlobals "Drop" = some (some (.ref C_Drop)))
    (c_FrameError : PySem.W.nsIn K mainGlobals "FrameError" = some (some (.ref C_FrameError)))
    (c_Get : PySem.W.nsIn K mainGlobals "Get" = some (some (.ref C_Get)))
    (c_Grow : PySem.W.nsIn K mainGlobals "Grow" = some (some (.ref C_Grow)))
    (c_Jump : PySem.W.nsIn K mainGlobals "Jump" = some (some (.ref C_Jump)))
    (c_NoRow : PySem.W.nsIn K mainGlobals "NoRow" = some (some (.ref C_NoRow)))
    (c_NoTable : PySem.W.nsIn K mainGlobals "NoTable" = some (some (.ref C_NoTable)))
    (c_Put : PySem.W.nsIn K mainGlobals "Put" = some (some (.ref C_Put)))
    (c_Set : PySem.W.nsIn K mainGlobals "Set" = some (some (.ref C_Set)))
    (c_Shrink : PySem.W.nsIn K mainGlobals "Shrink" = some (some (.ref C_Shrink)))
    (c_Table : PySem.W.nsIn K mainGlobals "Table" = some (some (.ref C_Table)))
    (pg_Table : PySem.W.plainGet K C_Table Str.empty = true)
    (hd_Table : PySem.W.hasDictIn K C_Table = true)
    (po_Table : PySem.W.plainOver K C_Table = true)
    (sa_Table : PySem.W.findIn K (.ref C_Table) "__setattr__" = some (some (.builtin "object.__setattr__")))
    (mk_Table : PySem.W.makesIn K C_Table = true)
    (kc_Table : PySem.W.keepIn K (.ref C_Table) = true)
    (n_Table_entries : PySem.W.findIn K (.ref C_Table) "entries" = some none)
    (n_Table_landings : PySem.W.findIn K (.ref C_Table) "landings" = some none)
    (a1 : PySem.W.findIn K (.ref C_Table) "__init__" = some (some (.ref f1)))
    (i1 : PySem.W.isFn K (.ref f1) = true)
    (l1 : K.lookup f1 = some ⟨oc1, od1, .func (PySem.W.fnOf "__init__" "Table.__init__" (defArgs s_Table_init) (defBody s_Table_init) (defScope s_Table_init) (.ref da1) kV1 dc1 pm1 an1 cd1 ct1), sl1⟩)
    (d1 : K.lookup da1 = some ⟨dc1', dd1, .seq #[.none] dn1, dl1⟩)
    (c1 : PySem.W.codeIn K cd1 "Table.__init__" = true) (k1 : PySem.W.keepIn K (.ref f1) = true)
    (pg_Jump : PySem.W.plainGet K C_Jump Str.empty = true)
    (hd_Jump : PySem.W.hasDictIn K C_Jump = true)
    (po_Jump : PySem.W.plainOver K C_Jump = true)
    (sa_Jump : PySem.W.findIn K (.ref C_Jump) "__setattr__" = some (some (.builtin "object.__setattr__")))
    (mk_Jump : PySem.W.makesIn K C_Jump = true)
    (kc_Jump : PySem.W.keepIn K (.ref C_Jump) = true)
    (n_Jump_target : PySem.W.findIn K (.ref C_Jump) "target" = some none)
    (a2 : PySem.W.findIn K (.ref C_Jump) "__init__" = some (some (.ref f2)))
    (i2 : PySem.W.isFn K (.ref f2) = true)
    (l2 : K.lookup f2 = some ⟨oc2, od2, .func (PySem.W.fnOf "__init__" "Jump.__init__" (defArgs s_Jump_init) (defBody s_Jump_init) (defScope s_Jump_init) .none kV2 dc2 pm2 an2 cd2 ct2), sl2⟩)
    (c2 : PySem.W.codeIn K cd2 "Jump.__init__" = true) (k2 : PySem.W.keepIn K (.ref f2) = true)
    (a3 : PySem.W.findIn K (.ref C_Jump) "laid" = some (some (.ref f3)))
    (i3 : PySem.W.isFn K (.ref f3) = true)
    (l3 : K.lookup f3 = some ⟨oc3, od3, .func (PySem.W.fnOf "laid" "Jump.laid" (defArgs s_Jump_laid) (defBody s_Jump_laid) (defScope s_Jump_laid) .none kV3 dc3 pm3 an3 cd3 ct3), sl3⟩)
    (c3 : PySem.W.codeIn K cd3 "Jump.laid" = true) (k3 : PySem.W.keepIn K (.ref f3) = true)
    (a4 : PySem.W.findIn K (.ref C_Jump) "told" = some (some (.ref f4)))
    (i4 : PySem.W.isFn K (.ref f4) = true)
    (l4 : K.lookup f4 = some ⟨oc4, od4, .func (PySem.W.fnOf "told" "Jump.told" (defArgs s_Jump_told) (defBody s_Jump_told) (defScope s_Jump_told) .none kV4 dc4 pm4 an4 cd4 ct4), sl4⟩)
    (c4 : PySem.W.codeIn K cd4 "Jump.told" = true) (k4 : PySem.W.keepIn K (.ref f4) = true)
    (pg_Branch : PySem.W.plainGet K C_Branch Str.empty = true)
    (hd_Branch : PySem.W.hasDictIn K C_Branch = true)
    (po_Branch : PySem.W.plainOver K C_Branch = true)
    (sa_Branch : PySem.W.findIn K (.ref C_Branch) "__setattr__" = some (some (.builtin "object.__setattr__")))
    (mk_Branch : PySem.W.makesIn K C_Branch = true)
    (kc_Branch : PySem.W.keepIn K (.ref C_Branch) = true)
    (n_Branch_box : PySem.W.findIn K (.ref C_Branch) "box" = some none)
    (n_Branch_target : PySem.W.findIn K (.ref C_Branch) "target" = some none)
    (a5 : PySem.W.findIn K (.ref C_Branch) "__init__" = some (some (.ref f5)))
    (i5 : PySem.W.isFn K (.ref f5) = true)
    (l5 : K.lookup f5 = some ⟨oc5, od5, .func (PySem.W.fnOf "__init__" "Branch.__init__" (defArgs s_Branch_init) (defBody s_Branch_init) (defScope s_Branch_init) .none kV5 dc5 pm5 an5 cd5 ct5), sl5⟩)
    (c5 : PySem.W.codeIn K cd5 "Branch.__init__" = true) (k5 : PySem.W.keepIn K (.ref f5) = true)
    (a6 : PySem.W.findIn K (.ref C_Branch) "laid" = some (some (.ref f6)))
    (i6 : PySem.W.isFn K (.ref f6) = true)
    (l6 : K.lookup f6 = some ⟨oc6, od6, .func (PySem.W.fnOf "laid" "Branch.laid" (defArgs s_Branch_laid) (defBody s_Branch_laid) (defScope s_Branch_laid) .none kV6 dc6 pm6 an6 cd6 ct6), sl6⟩)
    (c6 : PySem.W.codeIn K cd6 "Branch.laid" = true) (k6 : PySem.W.keepIn K (.ref f6) = true)
    (a7 : PySem.W.findIn K (.ref C_Branch) "told" = some (some (.ref f7)))
    (i7 : PySem.W.isFn K (.ref f7) = true)
    (l7 : K.lookup f7 = some ⟨oc7, od7, .func (PySem.W.fnOf "told" "Branch.told" (defArgs s_Branch_told) (defBody s_Branch_told) (defScope s_Branch_told) .none kV7 dc7 pm7 an7 cd7 ct7), sl7⟩)
    (c7 : PySem.W.codeIn K cd7 "Branch.told" = true) (k7 : PySem.W.keepIn K (.ref f7) = true)
    (pg_Call : PySem.W.plainGet K C_Call Str.empty = true)
    (hd_Call : PySem.W.hasDictIn K C_Call = true)
    (po_Call : PySem.W.plainOver K C_Call = true)
    (sa_Call : PySem.W.findIn K (.ref C_Call) "__setattr__" = some (some (.builtin "object.__setattr__")))
    (mk_Call : PySem.W.makesIn K C_Call = true)
    (kc_Call : PySem.W.keepIn K (.ref C_Call) = true)
    (n_Call_target : PySem.W.findIn K (.ref C_Call) "target" = some none)
    (a8 : PySem.W.findIn K (.ref C_Call) "__init__" = some (some (.ref f8)))
    (i8 : PySem.W.isFn K (.ref f8) = true)
    (l8 : K.lookup f8 = some ⟨oc8, od8, .func (PySem.W.fnOf "__init__" "Call.__init__" (defArgs s_Call_init) (defBody s_Call_init) (defScope s_Call_init) .none kV8 dc8 pm8 an8 cd8 ct8), sl8⟩)
    (c8 : PySem.W.codeIn K cd8 "Call.__init__" = true) (k8 : PySem.W.keepIn K (.ref f8) = true)
    (a9 : PySem.W.findIn K (.ref C_Call) "laid" = some (some (.ref f9)))
    (i9 : PySem.W.isFn K (.ref f9) = true)
    (l9 : K.lookup f9 = some ⟨oc9, od9, .func (PySem.W.fnOf "laid" "Call.laid" (defArgs s_Call_laid) (defBody s_Call_laid) (defScope s_Call_laid) .none kV9 dc9 pm9 an9 cd9 ct9), sl9⟩)
    (c9 : PySem.W.codeIn K cd9 "Call.laid" = true) (k9 : PySem.W.keepIn K (.ref f9) = true)
    (a10 : PySem.W.findIn K (.ref C_Call) "told" = some (some (.ref f10)))
    (i10 : PySem.W.isFn K (.ref f10) = true)
    (l10 : K.lookup f10 = some ⟨oc10, od10, .func (PySem.W.fnOf "told" "Call.told" (defArgs s_Call_told) (defBody s_Call_told) (defScope s_Call_told) .none kV10 dc10 pm10 an10 cd10 ct10), sl10⟩)
    (c10 : PySem.W.codeIn K cd10 "Call.told" = true) (k10 : PySem.W.keepIn K (.ref f10) = true)
    (pg_Set : PySem.W.plainGet K C_Set Str.empty = true)
    (hd_Set : PySem.W.hasDictIn K C_Set = true)
    (po_Set : PySem.W.plainOver K C_Set = true)
    (sa_Set : PySem.W.findIn K (.ref C_Set) "__setattr__" = some (some (.builtin "object.__setattr__")))
    (mk_Set : PySem.W.makesIn K C_Set = true)
    (kc_Set : PySem.W.keepIn K (.ref C_Set) = true)
    (n_Set_box : PySem.W.findIn K (.ref C_Set) "box" = some none)
    (n_Set_number : PySem.W.findIn K (.ref C_Set) "number" = some none)
    (a11 : PySem.W.findIn K (.ref C_Set) "__init__" = some (some (.ref f11)))
    (i11 : PySem.W.isFn K (.ref f11) = true)
    (l11 : K.lookup f11 = some ⟨oc11, od11, .func (PySem.W.fnOf "__init__" "Set.__init__" (defArgs s_Set_init) (defBody s_Set_init) (defScope s_Set_init) .none kV11 dc11 pm11 an11 cd11 ct11), sl11⟩)
    (c11 : PySem.W.codeIn K cd11 "Set.__init__" = true) (k11 : PySem.W.keepIn K (.ref f11) = true)
    (a12 : PySem.W.findIn K (.ref C_Set) "laid" = some (some (.ref f12)))
    (i12 : PySem.W.isFn K (.ref f12) = true)
    (l12 : K.lookup f12 = some ⟨oc12, od12, .func (PySem.W.fnOf "laid" "Row.laid" (defArgs s_Row_laid) (defBody s_Row_laid) (defScope s_Row_laid) .none kV12 dc12 pm12 an12 cd12 ct12), sl12⟩)
    (c12 : PySem.W.codeIn K cd12 "Row.laid" = true) (k12 : PySem.W.keepIn K (.ref f12) = true)
    (a13 : PySem.W.findIn K (.ref C_Set) "told" = some (some (.ref f13)))
    (i13 : PySem.W.isFn K (.ref f13) = true)
    (l13 : K.lookup f13 = some ⟨oc13, od13, .func (PySem.W.fnOf "told" "Set.told" (defArgs s_Set_told) (defBody s_Set_told) (defScope s_Set_told) .none kV13 dc13 pm13 an13 cd13 ct13), sl13⟩)
    (c13 : PySem.W.codeIn K cd13 "Set.told" = true) (k13 : PySem.W.keepIn K (.ref f13) = true)
    (pg_Copy : PySem.W.plainGet K C_Copy Str.empty = true)
    (hd_Copy : PySem.W.hasDictIn K C_Copy = true)
    (po_Copy : PySem.W.plainOver K C_Copy = true)
    (sa_Copy : PySem.W.findIn K (.ref C_Copy) "__setattr__" = some (some (.builtin "object.__setattr__")))
    (mk_Copy : PySem.W.makesIn K C_Copy = true)
    (kc_Copy : PySem.W.keepIn K (.ref C_Copy) = true)
    (n_Copy_box : PySem.W.findIn K (.ref C_Copy) "box" = some none)
    (n_Copy_one : PySem.W.findIn K (.ref C_Copy) "one" = some none)
    (a14 : PySem.W.findIn K (.ref C_Copy) "__init__" = some (some (.ref f14)))
    (i14 : PySem.W.isFn K (.ref f14) = true)
    (l14 : K.lookup f14 = some ⟨oc14, od14, .func (PySem.W.fnOf "__init__" "Copy.__init__" (defArgs s_Copy_init) (defBody s_Copy_init) (defScope s_Copy_init) .none kV14 dc14 pm14 an14 cd14 ct14), sl14⟩)
    (c14 : PySem.W.codeIn K cd14 "Copy.__init__" = true) (k14 : PySem.W.keepIn K (.ref f14) = true)
    (a15 : PySem.W.findIn K (.ref C_Copy) "laid" = some (some (.ref f15)))
    (i15 : PySem.W.isFn K (.ref f15) = true)
    (l15 : K.lookup f15 = some ⟨oc15, od15, .func (PySem.W.fnOf "laid" "Row.laid" (defArgs s_Row_laid) (defBody s_Row_laid) (defScope s_Row_laid) .none kV15 dc15 pm15 an15 cd15 ct15), sl15⟩)
    (c15 : PySem.W.codeIn K cd15 "Row.laid" = true) (k15 : PySem.W.keepIn K (.ref f15) = true)
    (a16 : PySem.W.findIn K (.ref C_Copy) "told" = some (some (.ref f16)))
    (i16 : PySem.W.isFn K (.ref f16) = true)
    (l16 : K.lookup f16 = some ⟨oc16, od16, .func (PySem.W.fnOf "told" "Copy.told" (defArgs s_Copy_told) (defBody s_Copy_told) (defScope s_Copy_told) .none kV16 dc16 pm16 an16 cd16 ct16), sl16⟩)
    (c16 : PySem.W.codeIn K cd16 "Copy.told" = true) (k16 : PySem.W.keepIn K (.ref f16) = true)
    (pg_Add : PySem.W.plainGet K C_Add Str.empty = true)
    (hd_Add : PySem.W.hasDictIn K C_Add = true)
    (po_Add : PySem.W.plainOver K C_Add = true)
    (sa_Add : PySem.W.findIn K (.ref C_Add) "__setattr__" = some (some (.builtin "object.__setattr__")))
    (mk_Add : PySem.W.makesIn K C_Add = true)
    (kc_Add : PySem.W.keepIn K (.ref C_Add) = true)
    (n_Add_box : PySem.W.findIn K (.ref C_Add) "box" = some none)
    (n_Add_one : PySem.W.findIn K (.ref C_Add) "one" = some none)
    (n_Add_other : PySem.W.findIn K (.ref C_Add) "other" = some none)
    (a17 : PySem.W.findIn K (.ref C_Add) "__init__" = some (some (.ref f17)))
    (i17 : PySem.W.isFn K (.ref f17) = true)
    (l17 : K.lookup f17 = some ⟨oc17, od17, .func (PySem.W.fnOf "__init__" "Reckoning.__init__" (defArgs s_Reckoning_init) (defBody s_Reckoning_init) (defScope s_Reckoning_init) .none kV17 dc17 pm17 an17 cd17 ct17), sl17⟩)
    (c17 : PySem.W.codeIn K cd17 "Reckoning.__init__" = true) (k17 : PySem.W.keepIn K (.ref f17) = true)
    (a18 : PySem.W.findIn K (.ref C_Add) "laid" = some (some (.ref f18)))
    (i18 : PySem.W.isFn K (.ref f18) = true)
    (l18 : K.lookup f18 = some ⟨oc18, od18, .func (PySem.W.fnOf "laid" "Row.laid" (defArgs s_Row_laid) (defBody s_Row_laid) (defScope s_Row_laid) .none kV18 dc18 pm18 an18 cd18 ct18), sl18⟩)
    (c18 : PySem.W.codeIn K cd18 "Row.laid" = true) (k18 : PySem.W.keepIn K (.ref f18) = true)
    (a19 : PySem.W.findIn K (.ref C_Add) "told" = some (some (.ref f19)))
    (i19 : PySem.W.isFn K (.ref f19) = true)
    (l19 : K.lookup f19 = some ⟨oc19, od19, .func (PySem.W.fnOf "told" "Add.told" (defArgs s_Add_told) (defBody s_Add_told) (defScope s_Add_told) .none kV19 dc19 pm19 an19 cd19 ct19), sl19⟩)
    (c19 : PySem.W.codeIn K cd19 "Add.told" = true) (k19 : PySem.W.keepIn K (.ref f19) = true)
    (pg_Grow : PySem.W.plainGet K C_Grow Str.empty = true)
    (hd_Grow : PySem.W.hasDictIn K C_Grow = true)
    (po_Grow : PySem.W.plainOver K C_Grow = true)
    (sa_Grow : PySem.W.findIn K (.ref C_Grow) "__setattr__" = some (some (.builtin "object.__setattr__")))
    (mk_Grow : PySem.W.makesIn K C_Grow = true)
    (kc_Grow : PySem.W.keepIn K (.ref C_Grow) = true)
    (n_Grow_many : PySem.W.findIn K (.ref C_Grow) "many" = some none)
    (a20 : PySem.W.findIn K (.ref C_Grow) "__init__" = some (some (.ref f20)))
    (i20 : PySem.W.isFn K (.ref f20) = true)
    (l20 : K.lookup f20 = some ⟨oc20, od20, .func (PySem.W.fnOf "__init__" "Grow.__init__" (defArgs s_Grow_init) (defBody s_Grow_init) (defScope s_Grow_init) .none kV20 dc20 pm20 an20 cd20 ct20), sl20⟩)
    (c20 : PySem.W.codeIn K cd20 "Grow.__init__" = true) (k20 : PySem.W.keepIn K (.ref f20) = true)
    (a21 : PySem.W.findIn K (.ref C_Grow) "laid" = some (some (.ref f21)))
    (i21 : PySem.W.isFn K (.ref f21) = true)
    (l21 : K.lookup f21 = some ⟨oc21, od21, .func (PySem.W.fnOf "laid" "Row.laid" (defArgs s_Row_laid) (defBody s_Row_laid) (defScope s_Row_laid) .none kV21 dc21 pm21 an21 cd21 ct21), sl21⟩)
    (c21 : PySem.W.codeIn K cd21 "Row.laid" = true) (k21 : PySem.W.keepIn K (.ref f21) = true)
    (a22 : PySem.W.findIn K (.ref C_Grow) "told" = some (some (.ref f22)))
    (i22 : PySem.W.isFn K (.ref f22) = true)
    (l22 : K.lookup f22 = some ⟨oc22, od22, .func (PySem.W.fnOf "told" "Grow.told" (defArgs s_Grow_told) (defBody s_Grow_told) (defScope s_Grow_told) .none kV22 dc22 pm22 an22 cd22 ct22), sl22⟩)
    (c22 : PySem.W.codeIn K cd22 "Grow.told" = true) (k22 : PySem.W.keepIn K (.ref f22) = true)
    (pg_Shrink : PySem.W.plainGet K C_Shrink Str.empty = true)
    (hd_Shrink : PySem.W.hasDictIn K C_Shrink = true)
    (po_Shrink : PySem.W.plainOver K C_Shrink = true)
    (sa_Shrink : PySem.W.findIn K (.ref C_Shrink) "__setattr__" = some (some (.builtin "object.__setattr__")))
    (mk_Shrink : PySem.W.makesIn K C_Shrink = true)
    (kc_Shrink : PySem.W.keepIn K (.ref C_Shrink) = true)
    (n_Shrink_many : PySem.W.findIn K (.ref C_Shrink) "many" = some none)
    (a23 : PySem.W.findIn K (.ref C_Shrink) "__init__" = some (some (.ref f23)))
    (i23 : PySem.W.isFn K (.ref f23) = true)
    (l23 : K.lookup f23 = some ⟨oc23, od23, .func (PySem.W.fnOf "__init__" "Shrink.__init__" (defArgs s_Shrink_init) (defBody s_Shrink_init) (defScope s_Shrink_init) .none kV23 dc23 pm23 an23 cd23 ct23), sl23⟩)
    (c23 : PySem.W.codeIn K cd23 "Shrink.__init__" = true) (k23 : PySem.W.keepIn K (.ref f23) = true)
    (a24 : PySem.W.findIn K (.ref C_Shrink) "laid" = some (some (.ref f24)))
    (i24 : PySem.W.isFn K (.ref f24) = true)
    (l24 : K.lookup f24 = some ⟨oc24, od24, .func (PySem.W.fnOf "laid" "Row.laid" (defArgs s_Row_laid) (defBody s_Row_laid) (defScope s_Row_laid) .none kV24 dc24 pm24 an24 cd24 ct24), sl24⟩)
    (c24 : PySem.W.codeIn K cd24 "Row.laid" = true) (k24 : PySem.W.keepIn K (.ref f24) = true)
    (a25 : PySem.W.findIn K (.ref C_Shrink) "told" = some (some (.ref f25)))
    (i25 : PySem.W.isFn K (.ref f25) = true)
    (l25 : K.lookup f25 = some ⟨oc25, od25, .func (PySem.W.fnOf "told" "Shrink.told" (defArgs s_Shrink_told) (defBody s_Shrink_told) (defScope s_Shrink_told) .none kV25 dc25 pm25 an25 cd25 ct25), sl25⟩)
    (c25 : PySem.W.codeIn K cd25 "Shrink.told" = true) (k25 : PySem.W.keepIn K (.ref f25) = true)
    (pg_Put : PySem.W.plainGet K C_Put Str.empty = true)
    (hd_Put : PySem.W.hasDictIn K C_Put = true)
    (po_Put : PySem.W.plainOver K C_Put = true)
    (sa_Put : PySem.W.findIn K (.ref C_Put) "__setattr__" = some (some (.builtin "object.__setattr__")))
    (mk_Put : PySem.W.makesIn K C_Put = true)
    (kc_Put : PySem.W.keepIn K (.ref C_Put) = true)
    (n_Put_box : PySem.W.findIn K (.ref C_Put) "box" = some none)
    (n_Put_cell : PySem.W.findIn K (.ref C_Put) "cell" = some none)
    (a26 : PySem.W.findIn K (.ref C_Put) "__init__" = some (some (.ref f26)))
    (i26 : PySem.W.isFn K (.ref f26) = true)
    (l26 : K.lookup f26 = some ⟨oc26, od26, .func (PySem.W.fnOf "__init__" "Reaching.__init__" (defArgs s_Reaching_init) (defBody s_Reaching_init) (defScope s_Reaching_init) .none kV26 dc26 pm26 an26 cd26 ct26), sl26⟩)
    (c26 : PySem.W.codeIn K cd26 "Reaching.__init__" = true) (k26 : PySem.W.keepIn K (.ref f26) = true)
    (a27 : PySem.W.findIn K (.ref C_Put) "laid" = some (some (.ref f27)))
    (i27 : PySem.W.isFn K (.ref f27) = true)
    (l27 : K.lookup f27 = some ⟨oc27, od27, .func (PySem.W.fnOf "laid" "Row.laid" (defArgs s_Row_laid) (defBody s_Row_laid) (defScope s_Row_laid) .none kV27 dc27 pm27 an27 cd27 ct27), sl27⟩)
    (c27 : PySem.W.codeIn K cd27 "Row.laid" = true) (k27 : PySem.W.keepIn K (.ref f27) = true)
    (a28 : PySem.W.findIn K (.ref C_Put) "told" = some (some (.ref f28)))
    (i28 : PySem.W.isFn K (.ref f28) = true)
    (l28 : K.lookup f28 = some ⟨oc28, od28, .func (PySem.W.fnOf "told" "Put.told" (defArgs s_Put_told) (defBody s_Put_told) (defScope s_Put_told) .none kV28 dc28 pm28 an28 cd28 ct28), sl28⟩)
    (c28 : PySem.W.codeIn K cd28 "Put.told" = true) (k28 : PySem.W.keepIn K (.ref f28) = true)
    (pg_Get : PySem.W.plainGet K C_Get Str.empty = true)
    (hd_Get : PySem.W.hasDictIn K C_Get = true)
    (po_Get : PySem.W.plainOver K C_Get = true)
    (sa_Get : PySem.W.findIn K (.ref C_Get) "__setattr__" = some (some (.builtin "object.__setattr__")))
    (mk_Get : PySem.W.makesIn K C_Get = true)
    (kc_Get : PySem.W.keepIn K (.ref C_Get) = true)
    (n_Get_box : PySem.W.findIn K (.ref C_Get) "box" = some none)
    (n_Get_cell : PySem.W.findIn K (.ref C_Get) "cell" = some none)
    (a29 : PySem.W.findIn K (.ref C_Get) "__init__" = some (some (.ref f29)))
    (i29 : PySem.W.isFn K (.ref f29) = true)
    (l29 : K.lookup f29 = some ⟨oc29, od29, .func (PySem.W.fnOf "__init__" "Reaching.__init__" (defArgs s_Reaching_init) (defBody s_Reaching_init) (defScope s_Reaching_init) .none kV29 dc29 pm29 an29 cd29 ct29), sl29⟩)
    (c29 : PySem.W.codeIn K cd29 "Reaching.__init__" = true) (k29 : PySem.W.keepIn K (.ref f29) = true)
    (a30 : PySem.W.findIn K (.ref C_Get) "laid" = some (some (.ref f30)))
    (i30 : PySem.W.isFn K (.ref f30) = true)
    (l30 : K.lookup f30 = some ⟨oc30, od30, .func (PySem.W.fnOf "laid" "Row.laid" (defArgs s_Row_laid) (defBody s_Row_laid) (defScope s_Row_laid) .none kV30 dc30 pm30 an30 cd30 ct30), sl30⟩)
    (c30 : PySem.W.codeIn K cd30 "Row.laid" = true) (k30 : PySem.W.keepIn K (.ref f30) = true)
    (a31 : PySem.W.findIn K (.ref C_Get) "told" = some (some (.ref f31)))
    (i31 : PySem.W.isFn K (.ref f31) = true)
    (l31 : K.lookup f31 = some ⟨oc31, od31, .func (PySem.W.fnOf "told" "Get.told" (defArgs s_Get_told) (defBody s_Get_told) (defScope s_Get_told) .none kV31 dc31 pm31 an31 cd31 ct31), sl31⟩)
    (c31 : PySem.W.codeIn K cd31 "Get.told" = true) (k31 : PySem.W.keepIn K (.ref f31) = true)
    (pg_Back : PySem.W.plainGet K C_Back Str.empty = true)
    (hd_Back : PySem.W.hasDictIn K C_Back = true)
    (po_Back : PySem.W.plainOver K C_Back = true)
    (sa_Back : PySem.W.findIn K (.ref C_Back) "__setattr__" = some (some (.builtin "object.__setattr__")))
    (mk_Back : PySem.W.makesIn K C_Back = true)
    (kc_Back : PySem.W.keepIn K (.ref C_Back) = true)
    (n_Back_box : PySem.W.findIn K (.ref C_Back) "box" = some none)
    (a32 : PySem.W.findIn K (.ref C_Back) "__init__" = some (some (.ref f32)))
    (i32 : PySem.W.isFn K (.ref f32) = true)
    (l32 : K.lookup f32 = some ⟨oc32, od32, .func (PySem.W.fnOf "__init__" "Back.__init__" (defArgs s_Back_init) (defBody s_Back_init) (defScope s_Back_init) .none kV32 dc32 pm32 an32 cd32 ct32), sl32⟩)
    (c32 : PySem.W.codeIn K cd32 "Back.__init__" = true) (k32 : PySem.W.keepIn K (.ref f32) = true)
    (a33 : PySem.W.findIn K (.ref C_Back) "laid" = some (some (.ref f33)))
    (i33 : PySem.W.isFn K (.ref f33) = true)
    (l33 : K.lookup f33 = some ⟨oc33, od33, .func (PySem.W.fnOf "laid" "Row.laid" (defArgs s_Row_laid) (defBody s_Row_laid) (defScope s_Row_laid) .none kV33 dc33 pm33 an33 cd33 ct33), sl33⟩)
    (c33 : PySem.W.codeIn K cd33 "Row.laid" = true) (k33 : PySem.W.keepIn K (.ref f33) = true)
    (a34 : PySem.W.findIn K (.ref C_Back) "told" = some (some (.ref f34)))
    (i34 : PySem.W.isFn K (.ref f34) = true)
    (l34 : K.lookup f34 = some ⟨oc34, od34, .func (PySem.W.fnOf "told" "Back.told" (defArgs s_Back_told) (defBody s_Back_told) (defScope s_Back_told) .none kV34 dc34 pm34 an34 cd34 ct34), sl34⟩)
    (c34 : PySem.W.codeIn K cd34 "Back.told" = true) (k34 : PySem.W.keepIn K (.ref f34) = true)
    (pg_Drop : PySem.W.plainGet K C_Drop Str.empty = true)
    (hd_Drop : PySem.W.hasDictIn K C_Drop = true)
    (po_Drop : PySem.W.plainOver K C_Drop = true)
    (sa_Drop : PySem.W.findIn K (.ref C_Drop) "__setattr__" = some (some (.builtin "object.__setattr__")))
    (mk_Drop : PySem.W.makesIn K C_Drop = true)
    (kc_Drop : PySem.W.keepIn K (.ref C_Drop) = true)
    (n_Drop_box : PySem.W.findIn K (.ref C_Drop) "box" = some none)
    (a35 : PySem.W.findIn K (.ref C_Drop) "__init__" = some (some (.ref f35)))
    (i35 : PySem.W.isFn K (.ref f35) = true)
    (l35 : K.lookup f35 = some ⟨oc35, od35, .func (PySem.W.fnOf "__init__" "Drop.__init__" (defArgs s_Drop_init) (defBody s_Drop_init) (defScope s_Drop_init) .none kV35 dc35 pm35 an35 cd35 ct35), sl35⟩)
    (c35 : PySem.W.codeIn K cd35 "Drop.__init__" = true) (k35 : PySem.W.keepIn K (.ref f35) = true)
    (a36 : PySem.W.findIn K (.ref C_Drop) "laid" = some (some (.ref f36)))
    (i36 : PySem.W.isFn K (.ref f36) = true)
    (l36 : K.lookup f36 = some ⟨oc36, od36, .func (PySem.W.fnOf "laid" "Row.laid" (defArgs s_Row_laid) (defBody s_Row_laid) (defScope s_Row_laid) .none kV36 dc36 pm36 an36 cd36 ct36), sl36⟩)
    (c36 : PySem.W.codeIn K cd36 "Row.laid" = true) (k36 : PySem.W.keepIn K (.ref f36) = true)
    (a37 : PySem.W.findIn K (.ref C_Drop) "told" = some (some (.ref f37)))
    (i37 : PySem.W.isFn K (.ref f37) = true)
    (l37 : K.lookup f37 = some ⟨oc37, od37, .func (PySem.W.fnOf "told" "Drop.told" (defArgs s_Drop_told) (defBody s_Drop_told) (defScope s_Drop_told) .none kV37 dc37 pm37 an37 cd37 ct37), sl37⟩)
    (c37 : PySem.W.codeIn K cd37 "Drop.told" = true) (k37 : PySem.W.keepIn K (.ref f37) = true)
    (ha_Table : PySem.W.findIn K (.ref C_Table) "__class__" = some (some (.builtin "object.__class__"))) (hm_Table : PySem.W.mroIn K C_Table (.type "object") = some true)
    (is_Table_Table : PySem.W.kitOne K (.ref C_Table) (.ref C_Table) = some true)
    (ob1 : PySem.W.specialIn K (.builtin "object.__class__") "__get__" = some (some (.builtin "getset_descriptor.__get__"))) (ob2 : PySem.W.takesIn K (.builtin "object.__class__") = some true)
    (xe_FrameError : PySem.W.excIn K C_FrameError [.type "ValueError", .type "Exception", .type "BaseException", .type "object"] "ValueError.__new__" = true)
    (xa_FrameError : (PySem.W.clsIn K C_FrameError).isSome = true)
    (xb_FrameError : PySem.W.findIn K (.ref C_FrameError) "__getattribute__" = some (some (.builtin "BaseException.__getattribute__")))
    (xc_FrameError : PySem.W.findIn K (.ref C_FrameError) "__getattr__" = some none)
    (xd_FrameError : PySem.W.findIn K (.ref C_FrameError) "__class__" = some (some (.builtin "object.__class__")))
    (xf_FrameError : PySem.W.specialIn K (.builtin "object.__class__") "__get__" = some (some (.builtin "getset_descriptor.__get__")))
    (xg_FrameError : PySem.W.takesIn K (.builtin "object.__class__") = some true)
    (xh_FrameError : PySem.W.mroIn K C_FrameError (.type "object") = some true)
    (xi_FrameError : PySem.W.mroIn K C_FrameError (.type "BaseException") = some true)
    (xe_NoTable : PySem.W.excIn K C_NoTable [.type "ValueError", .type "Exception", .type "BaseException", .type "object"] "ValueError.__new__" = true)
    (xa_NoTable : (PySem.W.clsIn K C_NoTable).isSome = true)
    (xb_NoTable : PySem.W.findIn K (.ref C_NoTable) "__getattribute__" = some (some (.builtin "BaseException.__getattribute__")))
    (xc_NoTable : PySem.W.findIn K (.ref C_NoTable) "__getattr__" = some none)
    (xd_NoTable : PySem.W.findIn K (.ref C_NoTable) "__class__" = some (some (.builtin "object.__class__")))
    (xf_NoTable : PySem.W.specialIn K (.builtin "object.__class__") "__get__" = some (some (.builtin "getset_descriptor.__get__")))
    (xg_NoTable : PySem.W.takesIn K (.builtin "object.__class__") = some true)
    (xh_NoTable : PySem.W.mroIn K C_NoTable (.type "object") = some true)
    (xi_NoTable : PySem.W.mroIn K C_NoTable (.type "BaseException") = some true)
    (up_NoTable_FrameError : PySem.W.mroIn K C_NoTable (.ref C_FrameError) = some true)
    (is_NoTable_NoTable : PySem.W.kitOne K (.ref C_NoTable) (.ref C_NoTable) = some true)
    (is_NoTable_NoRow : PySem.W.kitOne K (.ref C_NoTable) (.ref C_NoRow) = some false)
    (k_list_list : PySem.W.kitOne K (.type "list") (.type "list") = some true)
    (k_tuple_tuple : PySem.W.kitOne K (.type "tuple") (.type "tuple") = some true)
    (a38 : PySem.W.nsIn K mainGlobals "bounded" = some (some (.ref f38)))
    (l38 : K.lookup f38 = some ⟨oc38, od38, .func (PySem.W.fnOf "bounded" "bounded" (defArgs s_bounded) (defBody s_bounded) (defScope s_bounded) .none kV38 dc38 pm38 an38 cd38 ct38), sl38⟩)
    (c38 : PySem.W.codeIn K cd38 "bounded" = true) (k38 : PySem.W.keepIn K (.ref f38) = true)
    (a39 : PySem.W.nsIn K mainGlobals "laid" = some (some (.ref f39)))
    (l39 : K.lookup f39 = some ⟨oc39, od39, .func (PySem.W.fnOf "laid" "laid" (defArgs s_laid) (defBody s_laid) (defScope s_laid) .none kV39 dc39 pm39 an39 cd39 ct39), sl39⟩)
    (c39 : PySem.W.codeIn K cd39 "laid" = true) (k39 : PySem.W.keepIn K (.ref f39) = true)
    (a40 : PySem.W.nsIn K mainGlobals "joined" = some (some (.ref f40)))
    (l40 : K.lookup f40 = some ⟨oc40, od40, .func (PySem.W.fnOf "joined" "joined" (defArgs s_joined) (defBody s_joined) (defScope s_joined) .none kV40 dc40 pm40 an40 cd40 ct40), sl40⟩)
    (c40 : PySem.W.codeIn K cd40 "joined" = true) (k40 : PySem.W.keepIn K (.ref f40) = true)
    (a41 : PySem.W.nsIn K mainGlobals "_law_cell_at" = some (some (.ref f41)))
    (l41 : K.lookup f41 = some ⟨oc41, od41, .func (PySem.W.fnOf "_law_cell_at" "_law_cell_at" (defArgs s_law_cell_at) (defBody s_law_cell_at) (defScope s_law_cell_at) .none kV41 dc41 pm41 an41 cd41 ct41), sl41⟩)
    (c41 : PySem.W.codeIn K cd41 "_law_cell_at" = true) (k41 : PySem.W.keepIn K (.ref f41) = true)
    (a42 : PySem.W.nsIn K mainGlobals "_law_mixed" = some (some (.ref f42)))
    (l42 : K.lookup f42 = some ⟨oc42, od42, .func (PySem.W.fnOf "_law_mixed" "_law_mixed" (defArgs s_law_mixed) (defBody s_law_mixed) (defScope s_law_mixed) .none kV42 dc42 pm42 an42 cd42 ct42), sl42⟩)
    (c42 : PySem.W.codeIn K cd42 "_law_mixed" = true) (k42 : PySem.W.keepIn K (.ref f42) = true)
    (a43 : PySem.W.nsIn K mainGlobals "_law_row" = some (some (.ref f43)))
    (l43 : K.lookup f43 = some ⟨oc43, od43, .func (PySem.W.fnOf "_law_row" "_law_row" (defArgs s_law_row) (defBody s_law_row) (defScope s_law_row) .none kV43 dc43 pm43 an43 cd43 ct43), sl43⟩)
    (c43 : PySem.W.codeIn K cd43 "_law_row" = true) (k43 : PySem.W.keepIn K (.ref f43) = true)
    (a44 : PySem.W.nsIn K mainGlobals "_law_entry" = some (some (.ref f44)))
    (l44 : K.lookup f44 = some ⟨oc44, od44, .func (PySem.W.fnOf "_law_entry" "_law_entry" (defArgs s_law_entry) (defBody s_law_entry) (defScope s_law_entry) .none kV44 dc44 pm44 an44 cd44 ct44), sl44⟩)
    (c44 : PySem.W.codeIn K cd44 "_law_entry" = true) (k44 : PySem.W.keepIn K (.ref f44) = true)
    (a45 : PySem.W.nsIn K mainGlobals "_law_part" = some (some (.ref f45)))
    (l45 : K.lookup f45 = some ⟨oc45, od45, .func (PySem.W.fnOf "_law_part" "_law_part" (defArgs s_law_part) (defBody s_law_part) (defScope s_law_part) .none kV45 dc45 pm45 an45 cd45 ct45), sl45⟩)
    (c45 : PySem.W.codeIn K cd45 "_law_part" = true) (k45 : PySem.W.keepIn K (.ref f45) = true)
    (a46 : PySem.W.nsIn K mainGlobals "_law_parts" = some (some (.ref f46)))
    (l46 : K.lookup f46 = some ⟨oc46, od46, .func (PySem.W.fnOf "_law_parts" "_law_parts" (defArgs s_law_parts) (defBody s_law_parts) (defScope s_law_parts) .none kV46 dc46 pm46 an46 cd46 ct46), sl46⟩)
    (c46 : PySem.W.codeIn K cd46 "_law_parts" = true) (k46 : PySem.W.keepIn K (.ref f46) = true)
    (a47 : PySem.W.nsIn K mainGlobals "_law_moved" = some (some (.ref f47)))
    (l47 : K.lookup f47 = some ⟨oc47, od47, .func (PySem.W.fnOf "_law_moved" "_law_moved" (defArgs s_law_moved) (defBody s_law_moved) (defScope s_law_moved) .none kV47 dc47 pm47 an47 cd47 ct47), sl47⟩)
    (c47 : PySem.W.codeIn K cd47 "_law_moved" = true) (k47 : PySem.W.keepIn K (.ref f47) = true)
    (a48 : PySem.W.nsIn K mainGlobals "_law_refused" = some (some (.ref f48)))
    (l48 : K.lookup f48 = some ⟨oc48, od48, .func (PySem.W.fnOf "_law_refused" "_law_refused" (defArgs s_law_refused) (defBody s_law_refused) (defScope s_law_refused) .none kV48 dc48 pm48 an48 cd48 ct48), sl48⟩)
    (c48 : PySem.W.codeIn K cd48 "_law_refused" = true) (k48 : PySem.W.keepIn K (.ref f48) = true)
    (a49 : PySem.W.nsIn K mainGlobals "_law_stay" = some (some (.ref f49)))
    (l49 : K.lookup f49 = some ⟨oc49, od49, .func (PySem.W.fnOf "_law_stay" "_law_stay" (defArgs s_law_stay) (defBody s_law_stay) (defScope s_law_stay) .none kV49 dc49 pm49 an49 cd49 ct49), sl49⟩)
    (c49 : PySem.W.codeIn K cd49 "_law_stay" = true) (k49 : PySem.W.keepIn K (.ref f49) = true)
    (a50 : PySem.W.nsIn K mainGlobals "_law_laid_right" = some (some (.ref f50)))
    (l50 : K.lookup f50 = some ⟨oc50, od50, .func (PySem.W.fnOf "_law_laid_right" "_law_laid_right" (defArgs s_law_laid_right) (defBody s_law_laid_right) (defScope s_law_laid_right) .none kV50 dc50 pm50 an50 cd50 ct50), sl50⟩)
    (c50 : PySem.W.codeIn K cd50 "_law_laid_right" = true) (k50 : PySem.W.keepIn K (.ref f50) = true)
    (a51 : PySem.W.nsIn K mainGlobals "law" = some (some (.ref f51)))
    (l51 : K.lookup f51 = some ⟨oc51, od51, .func (PySem.W.fnOf "law" "law" (defArgs s_law) (defBody s_law) (defScope s_law) .none kV51 dc51 pm51 an51 cd51 ct51), sl51⟩)
    (c51 : PySem.W.codeIn K cd51 "law" = true) (k51 : PySem.W.keepIn K (.ref f51) = true) :
    ∃ (a : Adr) (fd : FuncData), Txt K mg a ∧ Fun K "law" "law" s_law fa fd ∧ ∀ (s : Shared) (v : Value), BindsTo s fd ⟨[v], []⟩ [("_law_script", v)] := by
  have e := hfa.symm.trans (PySem.W.mg_of X G a51)
  cases e
  refine ⟨⟨0, C_Set, C_Copy, C_Add, 0, 0, 0, C_Grow, C_Shrink, C_Put, C_Get, C_Jump, C_Branch, C_Call, C_Back, C_Drop, 0, 0, C_FrameError, C_NoRow, C_NoTable, 0, C_Table, 0, 0, 0, 0, 0, 0, 0, 0, 0, 0, 0, 0, 0⟩, _, ?_, fun_mk (st := s_law) l51 c51 k51, fun s v => .of_eq rfl⟩
  exact {
    z_dict := PySem.W.mg_none_of X G z_dict
    z_int := PySem.W.mg_none_of X G z_int
    z_isinstance := PySem.W.mg_none_of X G z_isinstance
    z_len := PySem.W.mg_none_of X G z_len
    z_list := PySem.W.mg_none_of X G z_list
    z_range := PySem.W.mg_none_of X G z_range
    z_sum := PySem.W.mg_none_of X G z_sum
    z_tuple := PySem.W.mg_none_of X G z_tuple
    z_zip := PySem.W.mg_none_of X G z_zip
    g_TOP_BOX := ⟨_, PySem.W.mg_of X G g_TOP_BOX⟩
    g_TOP_CELLS := ⟨_, PySem.W.mg_of X G g_TOP_CELLS⟩
    g_TOP_ROWS := ⟨_, PySem.W.mg_of X G g_TOP_ROWS⟩
    g_TOP_TARGET := ⟨_, PySem.W.mg_of X G g_TOP_TARGET⟩
    g_TOP_VALUE := ⟨_, PySem.W.mg_of X G g_TOP_VALUE⟩
    c_Add := PySem.W.mg_of X G c_Add
    c_Back := PySem.W.mg_of X G c_Back
    c_Branch := PySem.W.mg_of X G c_Branch
    c_Call := PySem.W.mg_of X G c_Call
    c_Copy := PySem.W.mg_of X G c_Copy
    c_Drop := PySem.W.mg_of X G c_Drop
    c_FrameError := PySem.W.mg_of X G c_FrameError
    c_Get := PySem.W.mg_of X G c_Get
    c_Grow := PySem.W.mg_of X G c_Grow
    c_Jump := PySem.W.mg_of X G c_Jump
    c_NoRow := PySem.W.mg_of X G c_NoRow
    c_NoTable := PySem.W.mg_of X G c_NoTable
    c_Put := PySem.W.mg_of X G c_Put
    c_Set := PySem.W.mg_of X G c_Set
    c_Shrink := PySem.W.mg_of X G c_Shrink
    c_Table := PySem.W.mg_of X G c_Table
    cl_Table := ⟨pg_Table, hd_Table, po_Table, sa_Table⟩
    n_Table_entries := n_Table_entries
    n_Table_landings := n_Table_landings
    i_Table := ⟨_, _, funD_mk2 (st := s_Table_init) l1 d1 c1 k1, ⟨mk_Table, a1, i1, kc_Table⟩, bindsF (funD_mk2 (st := s_Table_init) l1 d1 c1 k1) (ps := ["self", "entries", "landings"]) fun _ _ _ _ _ _ _ us hl => match us, hl with | [_, _, _], _ => ⟨_, rfl, rfl⟩, (funD_mk2 (st := s_Table_init) l1 d1 c1 k1).bindsD (ps := ["self", "entries", "landings"]) fun _ _ _ _ _ _ _ us hl => match us, hl with | [_, _], _ => ⟨_, rfl, rfl⟩⟩
    cl_Jump := ⟨pg_Jump, hd_Jump, po_Jump, sa_Jump⟩
    n_Jump_target := n_Jump_target
    i_Jump := ⟨_, _, fun_mk (st := s_Jump_init) l2 c2 k2, ⟨mk_Jump, a2, i2, kc_Jump⟩, (fun_mk (st := s_Jump_init) l2 c2 k2).binds (ps := ["self", "target"]) fun _ _ _ _ _ _ us hl => match us, hl with | [_, _], _ => rfl⟩
    m_Jump_laid := ⟨_, _, fun_mk (st := s_Jump_laid) l3 c3 k3, ⟨a3, i3, k3⟩, (fun_mk (st := s_Jump_laid) l3 c3 k3).binds (ps := ["self", "by"]) fun _ _ _ _ _ _ us hl => match us, hl with | [_, _], _ => rfl⟩
    m_Jump_told := ⟨_, _, fun_mk (st := s_Jump_told) l4 c4 k4, ⟨a4, i4, k4⟩, (fun_mk (st := s_Jump_told) l4 c4 k4).binds (ps := ["self"]) fun _ _ _ _ _ _ us hl => match us, hl with | [_], _ => rfl⟩
    cl_Branch := ⟨pg_Branch, hd_Branch, po_Branch, sa_Branch⟩
    n_Branch_box := n_Branch_box
    n_Branch_target := n_Branch_target
    i_Branch := ⟨_, _, fun_mk (st := s_Branch_init) l5 c5 k5, ⟨mk_Branch, a5, i5, kc_Branch⟩, (fun_mk (st := s_Branch_init) l5 c5 k5).binds (ps := ["self", "box", "target"]) fun _ _ _ _ _ _ us hl => match us, hl with | [_, _, _], _ => rfl⟩
    m_Branch_laid := ⟨_, _, fun_mk (st := s_Branch_laid) l6 c6 k6, ⟨a6, i6, k6⟩, (fun_mk (st := s_Branch_laid) l6 c6 k6).binds (ps := ["self", "by"]) fun _ _ _ _ _ _ us hl => match us, hl with | [_, _], _ => rfl⟩
    m_Branch_told := ⟨_, _, fun_mk (st := s_Branch_told) l7 c7 k7, ⟨a7, i7, k7⟩, (fun_mk (st := s_Branch_told) l7 c7 k7).binds (ps := ["self"]) fun _ _ _ _ _ _ us hl => match us, hl with | [_], _ => rfl⟩
    cl_Call := ⟨pg_Call, hd_Call, po_Call, sa_Call⟩
    n_Call_target := n_Call_target
    i_Call := ⟨_, _, fun_mk (st := s_Call_init) l8 c8 k8, ⟨mk_Call, a8, i8, kc_Call⟩, (fun_mk (st := s_Call_init) l8 c8 k8).binds (ps := ["self", "target"]) fun _ _ _ _ _ _ us hl => match us, hl with | [_, _], _ => rfl⟩
    m_Call_laid := ⟨_, _, fun_mk (st := s_Call_laid) l9 c9 k9, ⟨a9, i9, k9⟩, (fun_mk (st := s_Call_laid) l9 c9 k9).binds (ps := ["self", "by"]) fun _ _ _ _ _ _ us hl => match us, hl with | [_, _], _ => rfl⟩
    m_Call_told := ⟨_, _, fun_mk (st := s_Call_told) l10 c10 k10, ⟨a10, i10, k10⟩, (fun_mk (st := s_Call_told) l10 c10 k10).binds (ps := ["self"]) fun _ _ _ _ _ _ us hl => match us, hl with | [_], _ => rfl⟩
    cl_Set := ⟨pg_Set, hd_Set, po_Set, sa_Set⟩
    n_Set_box := n_Set_box
    n_Set_number := n_Set_number
    i_Set := ⟨_, _, fun_mk (st := s_Set_init) l11 c11 k11, ⟨mk_Set, a11, i11, kc_Set⟩, (fun_mk (st := s_Set_init) l11 c11 k11).binds (ps := ["self", "box", "number"]) fun _ _ _ _ _ _ us hl => match us, hl with | [_, _, _], _ => rfl⟩
    m_Set_laid := ⟨_, _, fun_mk (st := s_Row_laid) l12 c12 k12, ⟨a12, i12, k12⟩, (fun_mk (st := s_Row_laid) l12 c12 k12).binds (ps := ["self", "by"]) fun _ _ _ _ _ _ us hl => match us, hl with | [_, _], _ => rfl⟩
    m_Set_told := ⟨_, _, fun_mk (st := s_Set_told) l13 c13 k13, ⟨a13, i13, k13⟩, (fun_mk (st := s_Set_told) l13 c13 k13).binds (ps := ["self"]) fun _ _ _ _ _ _ us hl => match us, hl with | [_], _ => rfl⟩
    cl_Copy := ⟨pg_Copy, hd_Copy, po_Copy, sa_Copy⟩
    n_Copy_box := n_Copy_box
    n_Copy_one := n_Copy_one
    i_Copy := ⟨_, _, fun_mk (st := s_Copy_init) l14 c14 k14, ⟨mk_Copy, a14, i14, kc_Copy⟩, (fun_mk (st := s_Copy_init) l14 c14 k14).binds (ps := ["self", "box", "one"]) fun _ _ _ _ _ _ us hl => match us, hl with | [_, _, _], _ => rfl⟩
    m_Copy_laid := ⟨_, _, fun_mk (st := s_Row_laid) l15 c15 k15, ⟨a15, i15, k15⟩, (fun_mk (st := s_Row_laid) l15 c15 k15).binds (ps := ["self", "by"]) fun _ _ _ _ _ _ us hl => match us, hl with | [_, _], _ => rfl⟩
    m_Copy_told := ⟨_, _, fun_mk (st := s_Copy_told) l16 c16 k16, ⟨a16, i16, k16⟩, (fun_mk (st := s_Copy_told) l16 c16 k16).binds (ps := ["self"]) fun _ _ _ _ _ _ us hl => match us, hl with | [_], _ => rfl⟩
    cl_Add := ⟨pg_Add, hd_Add, po_Add, sa_Add⟩
    n_Add_box := n_Add_box
    n_Add_one := n_Add_one
    n_Add_other := n_Add_other
    i_Add := ⟨_, _, fun_mk (st := s_Reckoning_init) l17 c17 k17, ⟨mk_Add, a17, i17, kc_Add⟩, (fun_mk (st := s_Reckoning_init) l17 c17 k17).binds (ps := ["self", "box", "one", "other"]) fun _ _ _ _ _ _ us hl => match us, hl with | [_, _, _, _], _ => rfl⟩
    m_Add_laid := ⟨_, _, fun_mk (st := s_Row_laid) l18 c18 k18, ⟨a18, i18, k18⟩, (fun_mk (st := s_Row_laid) l18 c18 k18).binds (ps := ["self", "by"]) fun _ _ _ _ _ _ us hl => match us, hl with | [_, _], _ => rfl⟩
    m_Add_told := ⟨_, _, fun_mk (st := s_Add_told) l19 c19 k19, ⟨a19, i19, k19⟩, (fun_mk (st := s_Add_told) l19 c19 k19).binds (ps := ["self"]) fun _ _ _ _ _ _ us hl => match us, hl with | [_], _ => rfl⟩
    cl_Grow := ⟨pg_Grow, hd_Grow, po_Grow, sa_Grow⟩
    n_Grow_many := n_Grow_many
    i_Grow := ⟨_, _, fun_mk (st := s_Grow_init) l20 c20 k20, ⟨mk_Grow, a20, i20, kc_Grow⟩, (fun_mk (st := s_Grow_init) l20 c20 k20).binds (ps := ["self", "many"]) fun _ _ _ _ _ _ us hl => match us, hl with | [_, _], _ => rfl⟩
    m_Grow_laid := ⟨_, _, fun_mk (st := s_Row_laid) l21 c21 k21, ⟨a21, i21, k21⟩, (fun_mk (st := s_Row_laid) l21 c21 k21).binds (ps := ["self", "by"]) fun _ _ _ _ _ _ us hl => match us, hl with | [_, _], _ => rfl⟩
    m_Grow_told := ⟨_, _, fun_mk (st := s_Grow_told) l22 c22 k22, ⟨a22, i22, k22⟩, (fun_mk (st := s_Grow_told) l22 c22 k22).binds (ps := ["self"]) fun _ _ _ _ _ _ us hl => match us, hl with | [_], _ => rfl⟩
    cl_Shrink := ⟨pg_Shrink, hd_Shrink, po_Shrink, sa_Shrink⟩
    n_Shrink_many := n_Shrink_many
    i_Shrink := ⟨_, _, fun_mk (st := s_Shrink_init) l23 c23 k23, ⟨mk_Shrink, a23, i23, kc_Shrink⟩, (fun_mk (st := s_Shrink_init) l23 c23 k23).binds (ps := ["self", "many"]) fun _ _ _ _ _ _ us hl => match us, hl with | [_, _], _ => rfl⟩
    m_Shrink_laid := ⟨_, _, fun_mk (st := s_Row_laid) l24 c24 k24, ⟨a24, i24, k24⟩, (fun_mk (st := s_Row_laid) l24 c24 k24).binds (ps := ["self", "by"]) fun _ _ _ _ _ _ us hl => match us, hl with | [_, _], _ => rfl⟩
    m_Shrink_told := ⟨_, _, fun_mk (st := s_Shrink_told) l25 c25 k25, ⟨a25, i25, k25⟩, (fun_mk (st := s_Shrink_told) l25 c25 k25).binds (ps := ["self"]) fun _ _ _ _ _ _ us hl => match us, hl with | [_], _ => rfl⟩
    cl_Put := ⟨pg_Put, hd_Put, po_Put, sa_Put⟩
    n_Put_box := n_Put_box
    n_Put_cell := n_Put_cell
    i_Put := ⟨_, _, fun_mk (st := s_Reaching_init) l26 c26 k26, ⟨mk_Put, a26, i26, kc_Put⟩, (fun_mk (st := s_Reaching_init) l26 c26 k26).binds (ps := ["self", "box", "cell"]) fun _ _ _ _ _ _ us hl => match us, hl with | [_, _, _], _ => rfl⟩
    m_Put_laid := ⟨_, _, fun_mk (st := s_Row_laid) l27 c27 k27, ⟨a27, i27, k27⟩, (fun_mk (st := s_Row_laid) l27 c27 k27).binds (ps := ["self", "by"]) fun _ _ _ _ _ _ us hl => match us, hl with | [_, _], _ => rfl⟩
    m_Put_told := ⟨_, _, fun_mk (st := s_Put_told) l28 c28 k28, ⟨a28, i28, k28⟩, (fun_mk (st := s_Put_told) l28 c28 k28).binds (ps := ["self"]) fun _ _ _ _ _ _ us hl => match us, hl with | [_], _ => rfl⟩
    cl_Get := ⟨pg_Get, hd_Get, po_Get, sa_Get⟩
    n_Get_box := n_Get_box
    n_Get_cell := n_Get_cell
    i_Get := ⟨_, _, fun_mk (st := s_Reaching_init) l29 c29 k29, ⟨mk_Get, a29, i29, kc_Get⟩, (fun_mk (st := s_Reaching_init) l29 c29 k29).binds (ps := ["self", "box", "cell"]) fun _ _ _ _ _ _ us hl => match us, hl with | [_, _, _], _ => rfl⟩
    m_Get_laid := ⟨_, _, fun_mk (st := s_Row_laid) l30 c30 k30, ⟨a30, i30, k30⟩, (fun_mk (st := s_Row_laid) l30 c30 k30).binds (ps := ["self", "by"]) fun _ _ _ _ _ _ us hl => match us, hl with | [_, _], _ => rfl⟩
    m_Get_told := ⟨_, _, fun_mk (st := s_Get_told) l31 c31 k31, ⟨a31, i31, k31⟩, (fun_mk (st := s_Get_told) l31 c31 k31).binds (ps := ["self"]) fun _ _ _ _ _ _ us hl => match us, hl with | [_], _ => rfl⟩
    cl_Back := ⟨pg_Back, hd_Back, po_Back, sa_Back⟩
    n_Back_box := n_Back_box
    i_Back := ⟨_, _, fun_mk (st := s_Back_init) l32 c32 k32, ⟨mk_Back, a32, i32, kc_Back⟩, (fun_mk (st := s_Back_init) l32 c32 k32).binds (ps := ["self", "box"]) fun _ _ _ _ _ _ us hl => match us, hl with | [_, _], _ => rfl⟩
    m_Back_laid := ⟨_, _, fun_mk (st := s_Row_laid) l33 c33 k33, ⟨a33, i33, k33⟩, (fun_mk (st := s_Row_laid) l33 c33 k33).binds (ps := ["self", "by"]) fun _ _ _ _ _ _ us hl => match us, hl with | [_, _], _ => rfl⟩
    m_Back_told := ⟨_, _, fun_mk (st := s_Back_told) l34 c34 k34, ⟨a34, i34, k34⟩, (fun_mk (st := s_Back_told) l34 c34 k34).binds (ps := ["self"]) fun _ _ _ _ _ _ us hl => match us, hl with | [_], _ => rfl⟩
    cl_Drop := ⟨pg_Drop, hd_Drop, po_Drop, sa_Drop⟩
    n_Drop_box := n_Drop_box
    i_Drop := ⟨_, _, fun_mk (st := s_Drop_init) l35 c35 k35, ⟨mk_Drop, a35, i35, kc_Drop⟩, (fun_mk (st := s_Drop_init) l35 c35 k35).binds (ps := ["self", "box"]) fun _ _ _ _ _ _ us hl => match us, hl with | [_, _], _ => rfl⟩
    m_Drop_laid := ⟨_, _, fun_mk (st := s_Row_laid) l36 c36 k36, ⟨a36, i36, k36⟩, (fun_mk (st := s_Row_laid) l36 c36 k36).binds (ps := ["self", "by"]) fun _ _ _ _ _ _ us hl => match us, hl with | [_, _], _ => rfl⟩
    m_Drop_told := ⟨_, _, fun_mk (st := s_Drop_told) l37 c37 k37, ⟨a37, i37, k37⟩, (fun_mk (st := s_Drop_told) l37 c37 k37).binds (ps := ["self"]) fun _ _ _ _ _ _ us hl => match us, hl with | [_], _ => rfl⟩
    ty_Table := ⟨ha_Table, hm_Table⟩
    is_Table_Table := is_Table_Table
    ob1 := ob1
    ob2 := ob2
    x_FrameError := ⟨PySem.W.mg_of X G c_FrameError, xe_FrameError⟩
    xk_FrameError := ⟨xa_FrameError, xb_FrameError, xc_FrameError, xd_FrameError, xf_FrameError, xg_FrameError, xh_FrameError, xi_FrameError⟩
    x_NoTable := ⟨PySem.W.mg_of X G c_NoTable, xe_NoTable⟩
    xk_NoTable := ⟨xa_NoTable, xb_NoTable, xc_NoTable, xd_NoTable, xf_NoTable, xg_NoTable, xh_NoTable, xi_NoTable⟩
    up_NoTable_FrameError := up_NoTable_FrameError
    is_NoTable_NoTable := is_NoTable_NoTable
    is_NoTable_NoRow := is_NoTable_NoRow
    k_list_list := k_list_list
    k_tuple_tuple := k_tuple_tuple
    fn_bounded := ⟨_, _, fun_mk (st := s_bounded) l38 c38 k38, PySem.W.mg_of X G a38, (fun_mk (st := s_bounded) l38 c38 k38).binds (ps := ["number", "top"]) fun _ _ _ _ _ _ us hl => match us, hl with | [_, _], _ => rfl⟩
    fn_laid := ⟨_, _, fun_mk (st := s_laid) l39 c39 k39, PySem.W.mg_of X G a39, (fun_mk (st := s_laid) l39 c39 k39).binds (ps := ["code", "by"]) fun _ _ _ _ _ _ us hl => match us, hl with | [_, _], _ => rfl⟩
    fn_joined := ⟨_, _, fun_mk (st := s_joined) l40 c40 k40, PySem.W.mg_of X G a40, (fun_mk (st := s_joined) l40 c40 k40).binds (ps := ["parts"]) fun _ _ _ _ _ _ us hl => match us, hl with | [_], _ => rfl⟩
    fn_law_cell_at := ⟨_, _, fun_mk (st := s_law_cell_at) l41 c41 k41, PySem.W.mg_of X G a41, (fun_mk (st := s_law_cell_at) l41 c41 k41).binds (ps := ["_law_script", "_law_k"]) fun _ _ _ _ _ _ us hl => match us, hl with | [_, _], _ => rfl⟩
    fn_law_mixed := ⟨_, _, fun_mk (st := s_law_mixed) l42 c42 k42, PySem.W.mg_of X G a42, (fun_mk (st := s_law_mixed) l42 c42 k42).binds (ps := ["_law_cell", "_law_k"]) fun _ _ _ _ _ _ us hl => match us, hl with | [_, _], _ => rfl⟩
    fn_law_row := ⟨_, _, fun_mk (st := s_law_row) l43 c43 k43, PySem.W.mg_of X G a43, (fun_mk (st := s_law_row) l43 c43 k43).binds (ps := ["_law_number", "_law_many"]) fun _ _ _ _ _ _ us hl => match us, hl with | [_, _], _ => rfl⟩
    fn_law_entry := ⟨_, _, fun_mk (st := s_law_entry) l44 c44 k44, PySem.W.mg_of X G a44, (fun_mk (st := s_law_entry) l44 c44 k44).binds (ps := ["_law_number"]) fun _ _ _ _ _ _ us hl => match us, hl with | [_], _ => rfl⟩
    fn_law_part := ⟨_, _, fun_mk (st := s_law_part) l45 c45 k45, PySem.W.mg_of X G a45, (fun_mk (st := s_law_part) l45 c45 k45).binds (ps := ["_law_cell"]) fun _ _ _ _ _ _ us hl => match us, hl with | [_], _ => rfl⟩
    fn_law_parts := ⟨_, _, fun_mk (st := s_law_parts) l46 c46 k46, PySem.W.mg_of X G a46, (fun_mk (st := s_law_parts) l46 c46 k46).binds (ps := ["_law_script"]) fun _ _ _ _ _ _ us hl => match us, hl with | [_], _ => rfl⟩
    fn_law_moved := ⟨_, _, fun_mk (st := s_law_moved) l47 c47 k47, PySem.W.mg_of X G a47, (fun_mk (st := s_law_moved) l47 c47 k47).binds (ps := ["_law_told", "_law_by"]) fun _ _ _ _ _ _ us hl => match us, hl with | [_, _], _ => rfl⟩
    fn_law_refused := ⟨_, _, fun_mk (st := s_law_refused) l48 c48 k48, PySem.W.mg_of X G a48, (fun_mk (st := s_law_refused) l48 c48 k48).binds (ps := ["_law_parts_here"]) fun _ _ _ _ _ _ us hl => match us, hl with | [_], _ => rfl⟩
    fn_law_stay := ⟨_, _, fun_mk (st := s_law_stay) l49 c49 k49, PySem.W.mg_of X G a49, (fun_mk (st := s_law_stay) l49 c49 k49).binds (ps := ["_law_handed", "_law_parts_here"]) fun _ _ _ _ _ _ us hl => match us, hl with | [_, _], _ => rfl⟩
    fn_law_laid_right := ⟨_, _, fun_mk (st := s_law_laid_right) l50 c50 k50, PySem.W.mg_of X G a50, (fun_mk (st := s_law_laid_right) l50 c50 k50).binds (ps := ["_law_code", "_law_by"]) fun _ _ _ _ _ _ us hl => match us, hl with | [_, _], _ => rfl⟩
    fn_law := ⟨_, _, fun_mk (st := s_law) l51 c51 k51, PySem.W.mg_of X G a51, (fun_mk (st := s_law) l51 c51 k51).binds (ps := ["_law_script"]) fun _ _ _ _ _ _ us hl => match us, hl with | [_], _ => rfl⟩ }
theorem walk {l : PySem.W.OpenLaw} {q : Program} {loose : List Str} {XP : (Str → Option Value) → Heap → Prop} {YP : World → Heap → Prop} {d : DefRec} {K : Params → PySem.W.Frag} (hn : l.most = some 63) (hdf : d.params.defaults = [])
    (hY : ∀ (w : World) (h : Heap), YP w h → (K w.params).In h)
    (F : ∀ (w : World) (mg : Str → Option Value) (fa : Addr) (h : Heap), (K w.params).In h → h.Ns mainGlobals mg → mg d.name = some (.ref fa) →
      ∃ fd : FuncData, (∀ (s : Shared) (u : Value), BindsTo s fd ⟨[u], []⟩ [("_law_script", u)]) ∧ ∀ base : Heap, (K w.params).In base → base.Ns mainGlobals mg → FnOk l.prog w (K w.params) mg base CX0 8 fa fd ["_law_script"] (spLaw (K w.params))) :
    PySem.W.WalkO q loose XP YP l.row.toRowW d [] (fun f vs => PySem.call f vs) :=
  L2.walk_of (n := 63) (k := 8) (x := "_law_script") (CX := fun _ => CX0) (sp := fun w => spLaw (K w.params)) hn (by decide) hdf ⟨rfl, by decide, by decide⟩ hY F (fun _ _ a ns hl _ hS => ⟨a, ns, rfl, hS, hl, fun _ => rfl⟩) fun _ _ _ _ _ z => z
end FB
def PySem.W.Fast.tw4710249345687208731 : Nat := 0
def PySem.W.Fast.tw5279628424063948931 : Nat := 0
def PySem.W.Fast.tw17999464112638536653 : Nat := 0
def PySem.W.Fast.tw11698055589473395154 : Nat := 0
def PySem.W.Fast.tw14950680593898656181 : Nat := 0
def PySem.W.Fast.tw8150329348068283135 : Nat := 0
def PySem.W.Fast.tw2165685197402171056 : Nat := 0
def PySem.W.Fast.tw162901021170699001 : Nat := 0
def PySem.W.Fast.tw10695286223150962648 : Nat := 0
def PySem.W.Fast.tw2386371716402743531 : Nat := 0
def PySem.W.Fast.tw8034171663682479695 : Nat := 0
def PySem.W.Fast.tw3150094969150842470 : Nat := 0
def PySem.W.Fast.tw12048696101691241476 : Nat := 0
def PySem.W.Fast.tw5911897006662628655 : Nat := 0
def PySem.W.Fast.tw12037501514342170237 : Nat := 0
def PySem.W.Fast.tw6555565168994463904 : Nat := 0
def PySem.W.Fast.tw12083181250276051655 : Nat := 0
def PySem.W.Fast.tw9282260429553484151 : Nat := 0
def PySem.W.Fast.tw16447139404977875787 : Nat := 0
def PySem.W.Fast.tw14086240939660962212 : Nat := 0
def PySem.W.Fast.tw10589455745504353685 : Nat := 0
def PySem.W.Fast.tw778893660668712499 : Nat := 0
def PySem.W.Fast.tw1603007135105231166 : Nat := 0
def PySem.W.Fast.tw18121033945504099423 : Nat := 0
def PySem.W.Fast.tw14275630555762036966 : Nat := 0
def PySem.W.Fast.tw14349738629779972814 : Nat := 0
def PySem.W.Fast.tw16935350418778140968 : Nat := 0
def PySem.W.Fast.tw16551063332638625582 : Nat := 0
def PySem.W.Fast.tw10980384842194353571 : Nat := 0
def PySem.W.Fast.tw4013858928203376664 : Nat := 0
def PySem.W.Fast.tw7286523092235306654 : Nat := 0
def PySem.W.Fast.tw11213635172925588073 : Nat := 0
def PySem.W.Fast.tw9824553896224162269 : Nat := 0
def PySem.W.Fast.tw14373974992595032870 : Nat := 0
def PySem.W.Fast.tw18191205554773016276 : Nat := 0
def PySem.W.Fast.tw9021612797647427947 : Nat := 0
def PySem.W.Fast.tw15773056536133051893 : Nat := 0
def PySem.W.Fast.tw16203933272615173470 : Nat := 0
def PySem.W.Fast.tw12044019055068005579 : Nat := 0
def PySem.W.Fast.tw11485842868889812646 : Nat := 0
def PySem.W.Fast.tw2988543682539771997 : Nat := 0
def PySem.W.Fast.tw17305328256773151865 : Nat := 0
def PySem.W.Fast.tw10656790004485524329 : Nat := 0
def PySem.W.Fast.tw10989104855910296702 : Nat := 0
def PySem.W.Fast.tw2744775648718418092 : Nat := 0
def PySem.W.Fast.tw5183547281233546099 : Nat := 0
def PySem.W.Fast.tw9552906328214828364 : Nat := 0
def PySem.W.Fast.tw15655916296303316260 : Nat := 0
def PySem.W.Fast.tw14152136698421541707 : Nat := 0
def PySem.W.Fast.tw13837102020983629779 : Nat := 0
def PySem.W.Fast.tw1679776004231998627 : Nat := 0
def PySem.W.Fast.tw17620280413714232175 : Nat := 0
def PySem.W.Fast.tw14387296887793277699 : Nat := 0
def PySem.W.Fast.tw3546371429617485734 : Nat := 0
def PySem.W.Fast.tw2790555016629257526 : Nat := 0
def PySem.W.Fast.tw9565399080864997635 : Nat := 0
def PySem.W.Fast.tw2678233901317719582 : Nat := 0
def PySem.W.Fast.tw9357816035176017673 : Nat := 0
def PySem.W.Fast.tw118605491223720477 : Nat := 0
def PySem.W.Fast.tw8903060225613687694 : Nat := 0
def PySem.W.Fast.tw1174901840260479370 : Nat := 0
def PySem.W.Fast.tw17222119799159319917 : Nat := 0
def PySem.W.Fast.tw16140593965029761742 : Nat := 0
def PySem.W.Fast.tw14344136100186709843 : Nat := 0
def PySem.W.Fast.tw7705496613046595423 : Nat := 0
def PySem.W.Fast.tw6725526115377301096 : Nat := 0
def PySem.W.Fast.tw12596175687609032749 : Nat := 0
def PySem.W.Fast.tw18366067867446166730 : Nat := 0
def PySem.W.Fast.tw14615834381532337313 : Nat := 0
def PySem.W.Fast.tw13075086679285831798 : Nat := 0
def PySem.W.Fast.tw15445018898939904800 : Nat := 0
def PySem.W.Fast.tw10606597905199330266 : Nat := 0
def PySem.W.Fast.tw2485327766743318148 : Nat := 0
def PySem.W.Fast.tw3404039323251709945 : Nat := 0
def PySem.W.Fast.tw12314056370890725768 : Nat := 0
def PySem.W.Fast.tw8183002946197162997 : Nat := 0
def PySem.W.Fast.tw2137343642660352176 : Nat := 0
def PySem.W.Fast.tw2119241862619422444 : Nat := 0
def PySem.W.Fast.tw16972575577389802488 : Nat := 0
def PySem.W.Fast.tw13349102755819648066 : Nat := 0
def PySem.W.Fast.tw16635778238450786635 : Nat := 0
def PySem.W.Fast.tw6736002909356096912 : Nat := 0
def PySem.W.Fast.tw3575548959772336018 : Nat := 0
def PySem.W.Fast.tw7926345665006835769 : Nat := 0
def PySem.W.Fast.tw6491077892486736565 : Nat := 0
def PySem.W.Fast.tw13868034981200096601 : Nat := 0
def PySem.W.Fast.tw13153368332435482594 : Nat := 0
def PySem.W.Fast.tw1204059047624047282 : Nat := 0
def PySem.W.Fast.tw11663222450904029391 : Nat := 0
def PySem.W.Fast.tw3135798805152303921 : Nat := 0
def PySem.W.Fast.tw1960164200097151730 : Nat := 0
def PySem.W.Fast.tw8757508380556651391 : Nat := 0
def PySem.W.Fast.tw13106224862487434984 : Nat := 0
def PySem.W.Fast.tw16928113606276451932 : Nat := 0
def PySem.W.Fast.tw4759958225064149853 : Nat := 0
def PySem.W.Fast.tw12208464529324464093 : Nat := 0
def PySem.W.Fast.tw18282955310822548512 : Nat := 0
def PySem.W.Fast.tw18164560524029328763 : Nat := 0
def PySem.W.Fast.tw16683655969378561420 : Nat := 0
def PySem.W.Fast.tw3278360708613294952 : Nat := 0
def PySem.W.Fast.tw13669908634141810755 : Nat := 0
def PySem.W.Fast.tw7430459986884092080 : Nat := 0
def PySem.W.Fast.tw14987026984062392211 : Nat := 0
def PySem.W.Fast.tw9753114425311642578 : Nat := 0
def PySem.W.Fast.tw13859110983264041518 : Nat := 0
def PySem.W.Fast.tw1503888325572515538 : Nat := 0
def PySem.W.Fast.tw7843063286590270844 : Nat := 0
def PySem.W.Fast.tw958647819131945396 : Nat := 0
def PySem.W.Fast.tw10566688867176489661 : Nat := 0
def PySem.W.Fast.tw17904143057598508597 : Nat := 0
def PySem.W.Fast.tw17781939304131491709 : Nat := 0
def PySem.W.Fast.tw7631652928976553472 : Nat := 0
def PySem.W.Fast.tw8230775535193122199 : Nat := 0
def PySem.W.Fast.tw6272156696519481598 : Nat := 0
def PySem.W.Fast.tw7450372505123146875 : Nat := 0
def PySem.W.Fast.tw781174716120578394 : Nat := 0
def PySem.W.Fast.tw974720621583167508 : Nat := 0
def PySem.W.Fast.tw7419892457391943208 : Nat := 0
def PySem.W.Fast.tw11381744373458738969 : Nat := 0
def PySem.W.Fast.tw1722962871797952049 : Nat := 0
def PySem.W.Fast.tw1444240086763095392 : Nat := 0
def PySem.W.Fast.tw6680770234790063990 : Nat := 0
def PySem.W.Fast.tw14183574197391991432 : Nat := 0
def PySem.W.Fast.tw4185587575545431236 : Nat := 0
def PySem.W.Fast.tw15874458600364297505 : Nat := 0
def PySem.W.Fast.tw17232403389454040958 : Nat := 0
def PySem.W.Fast.tw9524336595845566273 : Nat := 0
def PySem.W.Fast.tw6409255290983009383 : Nat := 0
def PySem.W.Fast.tw9957786628162647761 : Nat := 0
def PySem.W.Fast.tw12218555924887160562 : Nat := 0
def PySem.W.Fast.tw3931702196880919788 : Nat := 0
def PySem.W.Fast.tw16123487350227383492 : Nat := 0
def PySem.W.Fast.tw4528197318967379243 : Nat := 0
def PySem.W.Fast.tw17025611194651617099 : Nat := 0
def PySem.W.Fast.tw14285051904949437 : Nat := 0
def PySem.W.Fast.tw6329695242278385815 : Nat := 0
def PySem.W.Fast.tw18013178338692361964 : Nat := 0
def PySem.W.Fast.tw9431955999155684885 : Nat := 0
def PySem.W.Fast.tw10110393944760021580 : Nat := 0
def PySem.W.Fast.tw8011388728208124829 : Nat := 0
def PySem.W.Fast.tw15869577746057253506 : Nat := 0
def PySem.W.Fast.tw12097731219901694726 : Nat := 0
def PySem.W.Fast.tw1777473474989164966 : Nat := 0
def PySem.W.Fast.tw12073282402587974905 : Nat := 0
def PySem.W.Fast.tw4828037077130716239 : Nat := 0
def PySem.W.Fast.tw4260111008858218308 : Nat := 0
def PySem.W.Fast.tw9652809052848175668 : Nat := 0
def PySem.W.Fast.tw612688776817465255 : Nat := 0
def PySem.W.Fast.tw1265142326898426159 : Nat := 0
def PySem.W.Fast.tw6535734203434314943 : Nat := 0
def PySem.W.Fast.tw5305996040334115385 : Nat := 0
def PySem.W.Fast.tw18113142170237532294 : Nat := 0
def PySem.W.Fast.tw4921155956276770529 : Nat := 0
def PySem.W.Fast.tw17044748068705699493 : Nat := 0
def PySem.W.Fast.tw3653590965810118735 : Nat := 0
def PySem.W.Fast.tw1942218215563992645 : Nat := 0
def PySem.W.Fast.tw15280104789880397789 : Nat := 0
def PySem.W.Fast.tw14132175248561298899 : Nat := 0
def PySem.W.Fast.tw7381074999097438438 : Nat := 0
def PySem.W.Fast.tw16644949987597403384 : Nat := 0
def PySem.W.Fast.tw16093128210676041106 : Nat := 0
def PySem.W.Fast.tw2761728953827072902 : Nat := 0
def PySem.W.Fast.tw11352402478069647337 : Nat := 0
def PySem.W.Fast.tw16255715497181396573 : Nat := 0
def PySem.W.Fast.tw1897439211383116902 : Nat := 0
def PySem.W.Fast.tw5423794248196040549 : Nat := 0
def PySem.W.Fast.tw3189896162419586513 : Nat := 0
def PySem.W.Fast.tw8414970997515475457 : Nat := 0
def PySem.W.Fast.tw4996280760480126726 : Nat := 0
def PySem.W.Fast.tw15249934645189860021 : Nat := 0
def PySem.W.Fast.tw13651901634576800548 : Nat := 0
def PySem.W.Fast.tw14350765264210553025 : Nat := 0
def PySem.W.Fast.tw9299052859514496175 : Nat := 0
def PySem.W.Fast.tw17468194748220440999 : Nat := 0
def PySem.W.Fast.tw6488075514052378107 : Nat := 0
def PySem.W.Fast.tw6302458443738774961 : Nat := 0
def PySem.W.Fast.tw6838421020032896447 : Nat := 0
def PySem.W.Fast.tw5036221280175762500 : Nat := 0
def PySem.W.Fast.tw4786871038187932159 : Nat := 0
def PySem.W.Fast.tw5610094802224445652 : Nat := 0
def PySem.W.Fast.tw4130704864406082534 : Nat := 0
def PySem.W.Fast.tw1274388182509566332 : Nat := 0
def PySem.W.Fast.tw12955801715312687736 : Nat := 0
def PySem.W.Fast.tw10448339876376331935 : Nat := 0
def PySem.W.Fast.tw15309618512978976235 : Nat := 0
def PySem.W.Fast.tw9898588687856065650 : Nat := 0
def PySem.W.Fast.tw3515830207396970072 : Nat := 0
def PySem.W.Fast.tw10740989137443639255 : Nat := 0
def PySem.W.Fast.tw5895123757154851704 : Nat := 0
def PySem.W.Fast.tw2263637927350294708 : Nat := 0
def PySem.W.Fast.tw11803353801017387570 : Nat := 0
def PySem.W.Fast.tw3075250317252319431 : Nat := 0
def PySem.W.Fast.tw16041252459036226747 : Nat := 0
def PySem.W.Fast.tw16130035440466992845 : Nat := 0
def PySem.W.Fast.tw14961269438230055962 : Nat := 0
def PySem.W.Fast.tw12422423442915037744 : Nat := 0
def PySem.W.Fast.tw10740554994875948575 : Nat := 0
def PySem.W.Fast.tw17843749675672448934 : Nat := 0
def PySem.W.Fast.tw10494240352036155100 : Nat := 0
def PySem.W.Fast.tw8854997591701027472 : Nat := 0
def PySem.W.Fast.tw5008798090081729593 : Nat := 0
def PySem.W.Fast.tw3542546491883464881 : Nat := 0
def PySem.W.Fast.tw11006968480445956855 : Nat := 0
def PySem.W.Fast.tw15021433902018149857 : Nat := 0
def PySem.W.Fast.tw11671484167754853324 : Nat := 0
def PySem.W.Fast.tw7388947543005634827 : Nat := 0
def PySem.W.Fast.tw11962758311732653554 : Nat := 0
def PySem.W.Fast.tw1424049673843811285 : Nat := 0
def PySem.W.Fast.tw6601184752547935789 : Nat := 0
def PySem.W.Fast.tw15185955122945307971 : Nat := 0
def PySem.W.Fast.tw3686985394827206223 : Nat := 0
def PySem.W.Fast.tw8840060617232549022 : Nat := 0
def PySem.W.Fast.tw14467884657759345286 : Nat := 0
def PySem.W.Fast.tw7436622670208722822 : Nat := 0
def PySem.W.Fast.tw12742341515631731564 : Nat := 0
def PySem.W.Fast.tw1959029269120631152 : Nat := 0
def PySem.W.Fast.tw2594835865711969328 : Nat := 0
def PySem.W.Fast.tw9450945827548283814 : Nat := 0
def PySem.W.Fast.tw4525766656856990682 : Nat := 0
def PySem.W.Fast.tw11242850968869620352 : Nat := 0
def PySem.W.Fast.tw4840267407824393051 : Nat := 0
def PySem.W.Fast.tw1630447650890963965 : Nat := 0
def PySem.W.Fast.tw15513323702455875023 : Nat := 0
def PySem.W.Fast.tw993660065654522023 : Nat := 0
def PySem.W.Fast.tw6312916915258964551 : Nat := 0
def PySem.W.Fast.tw16737216845775259160 : Nat := 0
def PySem.W.Fast.tw1788584357703035127 : Nat := 0
def PySem.W.Fast.tw17792751536803674328 : Nat := 0
def PySem.W.Fast.tw14305763958324167228 : Nat := 0
def PySem.W.Fast.tw7642684668018411319 : Nat := 0
def PySem.W.Fast.tw16659140838026741497 : Nat := 0
def PySem.W.Fast.tw7778705049583540622 : Nat := 0
def PySem.W.Fast.tw15352984104242310853 : Nat := 0
def PySem.W.Fast.tw10446513205654422059 : Nat := 0
def PySem.W.Fast.tw9597818908571328242 : Nat := 0
def PySem.W.Fast.tw16092246868265811124 : Nat := 0
def PySem.W.Fast.tw10904152189689396071 : Nat := 0
def PySem.W.Fast.tw17081239189540648349 : Nat := 0
def PySem.W.Fast.tw3978351672530675954 : Nat := 0
def PySem.W.Fast.tw10432778078925556052 : Nat := 0
def PySem.W.Fast.tw14329280603498580026 : Nat := 0
def PySem.W.Fast.tw12439398718188915419 : Nat := 0
def PySem.W.Fast.tw965313472008316059 : Nat := 0
def PySem.W.Fast.tw6338233257091711958 : Nat := 0
def PySem.W.Fast.tw3195074097323947983 : Nat := 0
def PySem.W.Fast.tw3880873557676312484 : Nat := 0
def PySem.W.Fast.tw4254228826820635309 : Nat := 0
def PySem.W.Fast.tw13136247643098414168 : Nat := 0
def PySem.W.Fast.tw9279805256766686495 : Nat := 0
def PySem.W.Fast.tw12955115559335294167 : Nat := 0
def PySem.W.Fast.tw13625980569809487986 : Nat := 0
def PySem.W.Fast.tw3350716123969687492 : Nat := 0
def PySem.W.Fast.tw14915626873139007063 : Nat := 0
def PySem.W.Fast.tw16957865981842387351 : Nat := 0
def PySem.W.Fast.tw10545892149506064280 : Nat := 0
def PySem.W.Fast.tw11840113686813298645 : Nat := 0
def PySem.W.Fast.tw6740925146063706764 : Nat := 0
def PySem.W.Fast.tw5033621365524809908 : Nat := 0
def PySem.W.Fast.tw7910105441370763230 : Nat := 0
def PySem.W.Fast.tw2554336867745283894 : Nat := 0
def PySem.W.Fast.tw11140454919967803871 : Nat := 0
def PySem.W.Fast.tw13056546668138355302 : Nat := 0
def PySem.W.Fast.tw1823931105849300485 : Nat := 0
def PySem.W.Fast.tw10890440264134723351 : Nat := 0
def PySem.W.Fast.tw7828039461500155394 : Nat := 0
def PySem.W.Fast.tw7921662782293184368 : Nat := 0
def PySem.W.Fast.tw7941632256837952871 : Nat := 0
def PySem.W.Fast.tw14532189769895548691 : Nat := 0
def PySem.W.Fast.tw12399306671989912805 : Nat := 0
def PySem.W.Fast.tw1319329380457667592 : Nat := 0
def PySem.W.Fast.tw5777273916739599638 : Nat := 0
def PySem.W.Fast.tw7705915386492160573 : Nat := 0
def PySem.W.Fast.tw17368111833876769998 : Nat := 0
def PySem.W.Fast.tw12413324581208316816 : Nat := 0
def PySem.W.Fast.tw12077600218653516815 : Nat := 0
def PySem.W.Fast.tw8147820058126849359 : Nat := 0
def PySem.W.Fast.tw10322800679884055550 : Nat := 0
def PySem.W.Fast.tw4600704904220044871 : Nat := 0
def PySem.W.Fast.tw13922602367074000193 : Nat := 0
def PySem.W.Fast.tw5616353022904035730 : Nat := 0
def PySem.W.Fast.tw10739206374970393508 : Nat := 0
def PySem.W.Fast.tw11048082991197469985 : Nat := 0
def PySem.W.Fast.tw10987504804335105263 : Nat := 0
def PySem.W.Fast.tw3969470817731685818 : Nat := 0
def PySem.W.Fast.tw8414491670964987164 : Nat := 0
def PySem.W.Fast.tw2547569882380104560 : Nat := 0
def PySem.W.Fast.tw1073721817660652979 : Nat := 0
def PySem.W.Fast.tw3422453894877719523 : Nat := 0
def PySem.W.Fast.tw16271855333720235574 : Nat := 0
def PySem.W.Fast.tw3568276892854789666 : Nat := 0
def PySem.W.Fast.tw10952812452636608442 : Nat := 0
def PySem.W.Fast.tw15818625077627777800 : Nat := 0
def PySem.W.Fast.tw6612394053827071517 : Nat := 0
def PySem.W.Fast.tw17477632657965028760 : Nat := 0
def PySem.W.Fast.tw4631482749772608931 : Nat := 0
def PySem.W.Fast.tw12086672968812328810 : Nat := 0
def PySem.W.Fast.tw4424045378396098273 : Nat := 0
def PySem.W.Fast.tw18364931347038796391 : Nat := 0
def PySem.W.Fast.tw15014492597620299890 : Nat := 0
def PySem.W.Fast.tw13737538828188638016 : Nat := 0
def PySem.W.Fast.tw2016914191835613272 : Nat := 0
def PySem.W.Fast.tw3428536656811656074 : Nat := 0
def PySem.W.Fast.tw5696653320199296439 : Nat := 0
def PySem.W.Fast.tw2562701076823693275 : Nat := 0
def PySem.W.Fast.tw10427732673280055257 : Nat := 0
def PySem.W.Fast.tw2604616589728623657 : Nat := 0
def PySem.W.Fast.tw16993156769952126052 : Nat := 0
def PySem.W.Fast.tw17063133330118151086 : Nat := 0
def PySem.W.Fast.tw885957495233468872 : Nat := 0
def PySem.W.Fast.tw17782986309610141522 : Nat := 0
def PySem.W.Fast.tw1475937375600338747 : Nat := 0
def PySem.W.Fast.tw5908982727031632622 : Nat := 0
def PySem.W.Fast.tw2622985189444595910 : Nat := 0
def PySem.W.Fast.tw5902546402531089857 : Nat := 0
def PySem.W.Fast.tw13201783894451643165 : Nat := 0
def PySem.W.Fast.tw10055163115851783948 : Nat := 0
def PySem.W.Fast.tw3935555141827350889 : Nat := 0
def PySem.W.Fast.tw15809384207654557486 : Nat := 0
def PySem.W.Fast.tw1919151435510190800 : Nat := 0
def PySem.W.Fast.tw16781284252719768774 : Nat := 0
def PySem.W.Fast.tw9809703713382570158 : Nat := 0
def PySem.W.Fast.tw2036660718766654267 : Nat := 0
def PySem.W.Fast.tw18067945799198674943 : Nat := 0
def PySem.W.Fast.tw3366106007621275827 : Nat := 0
def PySem.W.Fast.tw8027617659485020422 : Nat := 0
def PySem.W.Fast.tw13343946202677954606 : Nat := 0
def PySem.W.Fast.tw3317974490204188222 : Nat := 0
def PySem.W.Fast.tw13599266608687193878 : Nat := 0
def PySem.W.Fast.tw9399853531845750393 : Nat := 0
def PySem.W.Fast.tw8293440677348963813 : Nat := 0
def PySem.W.Fast.tw637812565958771910 : Nat := 0
def PySem.W.Fast.tw6652143343772316243 : Nat := 0
def PySem.W.Fast.tw16927355604897216116 : Nat := 0
def PySem.W.Fast.tw11624483892554294544 : Nat := 0
def PySem.W.Fast.tw10832118376033992091 : Nat := 0
def PySem.W.Fast.tw8445991362151042051 : Nat := 0
def PySem.W.Fast.tw10382094793272605673 : Nat := 0
def PySem.W.Fast.tw18067837136549635337 : Nat := 0
def PySem.W.Fast.tw16078499320858200073 : Nat := 0
def PySem.W.Fast.tw10934820438464300376 : Nat := 0
def PySem.W.Fast.tw17890319156491546502 : Nat := 0
def PySem.W.Fast.tw14983980813319740546 : Nat := 0
def PySem.W.Fast.tw461479388859242058 : Nat := 0
def PySem.W.Fast.tw4242911980845127430 : Nat := 0
def PySem.W.Fast.tw12009111305538726431 : Nat := 0
def PySem.W.Fast.tw11280173385516597162 : Nat := 0
def PySem.W.Fast.tw8151867933977739620 : Nat := 0
def PySem.W.Fast.tw2600838849573175739 : Nat := 0
def PySem.W.Fast.tw18256224791794872741 : Nat := 0
def PySem.W.Fast.tw8899008046154588197 : Nat := 0
def PySem.W.Fast.tw17006683057746272857 : Nat := 0
def PySem.W.Fast.tw8222145684063608247 : Nat := 0
def PySem.W.Fast.tw12584446766842591255 : Nat := 0
def PySem.W.Fast.tw4995194319176459881 : Nat := 0
def PySem.W.Fast.tw8746405787754614344 : Nat := 0
def PySem.W.Fast.tw3003409118491843044 : Nat := 0
def PySem.W.Fast.tw15311432099266508822 : Nat := 0
def PySem.W.Fast.tw12277853191148986217 : Nat := 0
def PySem.W.Fast.tw6746270787939834253 : Nat := 0
def PySem.W.Fast.tw9033527222743375393 : Nat := 0
def PySem.W.Fast.tw2745738474468299581 : Nat := 0
def PySem.W.Fast.tw6090557950211541234 : Nat := 0
def PySem.W.Fast.tw4964174464488010363 : Nat := 0
def PySem.W.Fast.tw1716444697282371049 : Nat := 0
def PySem.W.Fast.tw8725545665958839830 : Nat := 0
def PySem.W.Fast.tw11386127662643435135 : Nat := 0
def PySem.W.Fast.tw7552154835444158747 : Nat := 0
def PySem.W.Fast.tw9217730235248654698 : Nat := 0
def PySem.W.Fast.tw12301628350422071792 : Nat := 0
def PySem.W.Fast.tw13924409038983351107 : Nat := 0
def PySem.W.Fast.tw11232970141202919190 : Nat := 0
def PySem.W.Fast.tw4646954406670420797 : Nat := 0
def PySem.W.Fast.tw5666343300534896040 : Nat := 0
def PySem.W.Fast.tw5480822489262027605 : Nat := 0
def PySem.W.Fast.tw17450240174679570496 : Nat := 0
def PySem.W.Fast.tw4241820662775072924 : Nat := 0
def PySem.W.Fast.tw7501785462221786347 : Nat := 0
def PySem.W.Fast.tw4890044810695141995 : Nat := 0
def PySem.W.Fast.tw4988339344962191947 : Nat := 0
def PySem.W.Fast.tw8505214313214173699 : Nat := 0
def PySem.W.Fast.tw8681679694304433891 : Nat := 0
def PySem.W.Fast.tw2239136155833265718 : Nat := 0
def PySem.W.Fast.tw18294764947777695695 : Nat := 0
def PySem.W.Fast.tw12755792785384011100 : Nat := 0
def PySem.W.Fast.tw1387015765699025926 : Nat := 0
def PySem.W.Fast.tw7891382518447239358 : Nat := 0
def PySem.W.Fast.tw13575930171242671309 : Nat := 0
def PySem.W.Fast.tw9883495493140836650 : Nat := 0
def PySem.W.Fast.tw9757128960628601152 : Nat := 0
def PySem.W.Fast.tw11931955358516675393 : Nat := 0
def PySem.W.Fast.tw9140920629774908363 : Nat := 0
def PySem.W.Fast.tw6367814413902261857 : Nat := 0
def PySem.W.Fast.tw16698346728823303142 : Nat := 0
def PySem.W.Fast.tw7277923798861371136 : Nat := 0
def PySem.W.Fast.tw194135970362948525 : Nat := 0
def PySem.W.Fast.tw1156790455102934959 : Nat := 0
def PySem.W.Fast.tw13011052486759483998 : Nat := 0
def PySem.W.Fast.tw10120674818428768919 : Nat := 0
def PySem.W.Fast.tw13339716359658440500 : Nat := 0
def PySem.W.Fast.tw855999677777876923 : Nat := 0
def PySem.W.Fast.tw14744504039483038647 : Nat := 0
def PySem.W.Fast.tw3480028405483635003 : Nat := 0
def PySem.W.Fast.tw29327334032955627 : Nat := 0
def PySem.W.Fast.tw12178099220740849529 : Nat := 0
def PySem.W.Fast.tw9160399734728347045 : Nat := 0
def PySem.W.Fast.tw2864891059179631327 : Nat := 0
def PySem.W.Fast.tw15195865778194597881 : Nat := 0
def PySem.W.Fast.tw5271976558393919787 : Nat := 0
def PySem.W.Fast.tw12527739963966099757 : Nat := 0
def PySem.W.Fast.tw5759283436783269502 : Nat := 0
def PySem.W.Fast.tw17830854179147764027 : Nat := 0
def PySem.W.Fast.tw6894271904558249791 : Nat := 0
def PySem.W.Fast.tw9227334426967694972 : Nat := 0
def PySem.W.Fast.tw4607019895385267917 : Nat := 0
def PySem.W.Fast.tw4487585319060997430 : Nat := 0
def PySem.W.Fast.tw5710998362497246491 : Nat := 0
def PySem.W.Fast.tw16179979137133267886 : Nat := 0
def PySem.W.Fast.tw13998345856625026615 : Nat := 0
def PySem.W.Fast.tw8522586199821359719 : Nat := 0
def PySem.W.Fast.tw12156116199736982995 : Nat := 0
def PySem.W.Fast.tw2722725552124682245 : Nat := 0
def PySem.W.Fast.tw8561908292911382701 : Nat := 0
def PySem.W.Fast.tw553795082357872986 : Nat := 0
def PySem.W.Fast.tw15636680243112911003 : Nat := 0
def PySem.W.Fast.tw12051922023859463271 : Nat := 0
def PySem.W.Fast.tw11955493876029192224 : Nat := 0
def PySem.W.Fast.tw12921866701300375176 : Nat := 0
def PySem.W.Fast.tw1533188831838589266 : Nat := 0
def PySem.W.Fast.tw2700203171393425390 : Nat := 0
def PySem.W.Fast.tw2251541701345116115 : Nat := 0
def PySem.W.Fast.tw4982608287670945878 : Nat := 0
def PySem.W.Fast.tw16592334268805839902 : Nat := 0
def PySem.W.Fast.tw16336478311631125165 : Nat := 0
def PySem.W.Fast.tw14782410724558953681 : Nat := 0
def PySem.W.Fast.tw11713659150284664121 : Nat := 0
def PySem.W.Fast.tw2187011734983669840 : Nat := 0
def PySem.W.Fast.tw2464976293667382871 : Nat := 0
def PySem.W.Fast.tw5703110564227253761 : Nat := 0
def PySem.W.Fast.tw296315161946748922 : Nat := 0
def PySem.W.Fast.tw11002613495280146656 : Nat := 0
def PySem.W.Fast.tw14879736774918736121 : Nat := 0
def PySem.W.Fast.tw16562942735690259271 : Nat := 0
def PySem.W.Fast.tw437138461414397064 : Nat := 0
def PySem.W.Fast.tw16491474199684569226 : Nat := 0
def PySem.W.Fast.tw9811061129785442552 : Nat := 0
def PySem.W.Fast.tw1579678568625377278 : Nat := 0
def PySem.W.Fast.tw6219398307205921827 : Nat := 0
def PySem.W.Fast.tw2592440011970642098 : Nat := 0
def PySem.W.Fast.tw13521513871321729742 : Nat := 0
def PySem.W.Fast.tw766257657343504708 : Nat := 0
def PySem.W.Fast.tw2415508698038331719 : Nat := 0
def PySem.W.Fast.tw15940867112746444712 : Nat := 0
def PySem.W.Fast.tw12660914379956783768 : Nat := 0
def PySem.W.Fast.tw18251187757766612393 : Nat := 0
def PySem.W.Fast.tw16264777548992698760 : Nat := 0
def PySem.W.Fast.tw2455242610706408252 : Nat := 0
def PySem.W.Fast.tw1654897464090132786 : Nat := 0
def PySem.W.Fast.tw2124187319879919621 : Nat := 0
def PySem.W.Fast.tw15673546892203573505 : Nat := 0
def PySem.W.Fast.tw6494677524578769636 : Nat := 0
def PySem.W.Fast.tw9513592992855347330 : Nat := 0
def PySem.W.Fast.tw11788383557564790270 : Nat := 0
def PySem.W.Fast.tw74925488024891070 : Nat := 0
def PySem.W.Fast.tw9433564236132070451 : Nat := 0
def PySem.W.Fast.tw7502089774698379149 : Nat := 0
def PySem.W.Fast.tw7277946672639828903 : Nat := 0
def PySem.W.Fast.tw14243969303544804755 : Nat := 0
def PySem.W.Fast.tw6010222753053557317 : Nat := 0
def PySem.W.Fast.tw4150596608751739675 : Nat := 0
def PySem.W.Fast.tw11390222267533429957 : Nat := 0
def PySem.W.Fast.tw14338713430942061265 : Nat := 0
def PySem.W.Fast.tw5963113057911251790 : Nat := 0
def PySem.W.Fast.tw3356739126308887023 : Nat := 0
def PySem.W.Fast.tw2089674433625896130 : Nat := 0
def PySem.W.Fast.tw8265570216896599524 : Nat := 0
def PySem.W.Fast.tw6562300874503073815 : Nat := 0
def PySem.W.Fast.tw3334278641038014913 : Nat := 0
def PySem.W.Fast.tw9265610441716351140 : Nat := 0
def PySem.W.Fast.tw14701809635643011936 : Nat := 0
def PySem.W.Fast.tw13146563051111488109 : Nat := 0
def PySem.W.Fast.tw15117827073250311247 : Nat := 0
def PySem.W.Fast.tw1738198684579705706 : Nat := 0
def PySem.W.Fast.tw13772750052322139324 : Nat := 0
def PySem.W.Fast.tw11016295196145449390 : Nat := 0
def PySem.W.Fast.tw16560553406467799194 : Nat := 0
def PySem.W.Fast.tw13141663467468840558 : Nat := 0
def PySem.W.Fast.tw7951426661096218889 : Nat := 0
def PySem.W.Fast.tw16803259417837906003 : Nat := 0
def PySem.W.Fast.tw7210308130142353189 : Nat := 0
def PySem.W.Fast.tw7311662132282441353 : Nat := 0
def PySem.W.Fast.tw8305084902759064754 : Nat := 0
def PySem.W.Fast.tw9197631659442370816 : Nat := 0
def PySem.W.Fast.tw12223055723049876613 : Nat := 0
def PySem.W.Fast.tw12827612502518099484 : Nat := 0
def PySem.W.Fast.tw1202783926675368971 : Nat := 0
def PySem.W.Fast.tw6884915480850554916 : Nat := 0
def PySem.W.Fast.tw14165330494644518811 : Nat := 0
def PySem.W.Fast.tw15839681856281479752 : Nat := 0
def PySem.W.Fast.tw11718532942816747765 : Nat := 0
def PySem.W.Fast.tw10193256824763551289 : Nat := 0
def PySem.W.Fast.tw5173601603791179985 : Nat := 0
def PySem.W.Fast.tw9712873386657617107 : Nat := 0
def PySem.W.Fast.tw2084933160114780650 : Nat := 0
def PySem.W.Fast.tw4923812531767989844 : Nat := 0
def PySem.W.Fast.tw10357040212758461142 : Nat := 0
def PySem.W.Fast.tw6309492026143220484 : Nat := 0
def PySem.W.Fast.tw10522116517832471949 : Nat := 0
def PySem.W.Fast.tw6983320513787352606 : Nat := 0
def PySem.W.Fast.tw6491322872087518547 : Nat := 0
def PySem.W.Fast.tw125027240033054203 : Nat := 0
def PySem.W.Fast.tw13366790043113954439 : Nat := 0
def PySem.W.Fast.tw16389646790733601921 : Nat := 0
def PySem.W.Fast.tw4513719594736685897 : Nat := 0
def PySem.W.Fast.tw7352453865769400721 : Nat := 0
def PySem.W.Fast.tw12992529258987138976 : Nat := 0
def PySem.W.Fast.tw15664994171909607868 : Nat := 0
def PySem.W.Fast.tw18375192040947954673 : Nat := 0
def PySem.W.Fast.tw3481316536808319184 : Nat := 0
def PySem.W.Fast.tw2367761712231201736 : Nat := 0
def PySem.W.Fast.tw9397182986315275846 : Nat := 0
def PySem.W.Fast.tw8615138868581784624 : Nat := 0
def PySem.W.Fast.tw16276520319938687202 : Nat := 0
def PySem.W.Fast.tw13174663011701856330 : Nat := 0
def PySem.W.Fast.tw15930673812425351742 : Nat := 0
def PySem.W.Fast.tw5182228453641174893 : Nat := 0
def PySem.W.Fast.tw17950129338914045517 : Nat := 0
def PySem.W.Fast.tw13973102489619988634 : Nat := 0
def PySem.W.Fast.tw10171524094666201866 : Nat := 0
def PySem.W.Fast.tw424697018194761012 : Nat := 0
def PySem.W.Fast.tw16797775906681436763 : Nat := 0
def PySem.W.Fast.tw13553471171762346252 : Nat := 0
def PySem.W.Fast.tw3273915300103510305 : Nat := 0
def PySem.W.Fast.tw14599694767338937607 : Nat := 0
def PySem.W.Fast.tw3316926149703202456 : Nat := 0
def PySem.W.Fast.tw15611063328398836183 : Nat := 0
def PySem.W.Fast.tw5709797651390499260 : Nat := 0
def PySem.W.Fast.tw16170171094399335912 : Nat := 0
def PySem.W.Fast.tw9599149879225609149 : Nat := 0
def PySem.W.Fast.tw117133376051995625 : Nat := 0
def PySem.W.Fast.tw4295401903379982565 : Nat := 0
def PySem.W.Fast.tw8943445249680722793 : Nat := 0
def PySem.W.Fast.tw5678922412553945243 : Nat := 0
def PySem.W.Fast.tw10123947945883697556 : Nat := 0
def PySem.W.Fast.tw11614001020598560651 : Nat := 0
def PySem.W.Fast.tw1898784596446850430 : Nat := 0
def PySem.W.Fast.tw6805133544508495970 : Nat := 0
def PySem.W.Fast.tw17079839616971443801 : Nat := 0
def PySem.W.Fast.tw7158290914075480513 : Nat := 0
def PySem.W.Fast.tw2785142887774002683 : Nat := 0
def PySem.W.Fast.tw1756345250873706051 : Nat := 0
def PySem.W.Fast.tw7690422053747381262 : Nat := 0
def PySem.W.Fast.tw923338989218250625 : Nat := 0
def PySem.W.Fast.tw8084938708666558947 : Nat := 0
def PySem.W.Fast.tw3242946536122029291 : Nat := 0
def PySem.W.Fast.tw6868007564513351818 : Nat := 0
def PySem.W.Fast.tw14821597745203778989 : Nat := 0
def PySem.W.Fast.tw17963881738700244457 : Nat := 0
def PySem.W.Fast.tw14667846082721020519 : Nat := 0
def PySem.W.Fast.tw15697747214295117755 : Nat := 0
def PySem.W.Fast.tw11013157664057727112 : Nat := 0
def PySem.W.Fast.tw2989212041509916018 : Nat := 0
def PySem.W.Fast.tw5950045444807707117 : Nat := 0
def PySem.W.Fast.tw11162051286963330200 : Nat := 0
def PySem.W.Fast.tw4216081179155875750 : Nat := 0
def PySem.W.Fast.tw9312376737829960787 : Nat := 0
def PySem.W.Fast.tw13315957393266328068 : Nat := 0
def PySem.W.Fast.tw17994644510523395736 : Nat := 0
def PySem.W.Fast.tw4509368391419605445 : Nat := 0
def PySem.W.Fast.tw10065789076549048880 : Nat := 0
def PySem.W.Fast.tw11179541111963558952 : Nat := 0
def PySem.W.Fast.tw15537281674428750074 : Nat := 0
def PySem.W.Fast.tw950650264318451323 : Nat := 0
def PySem.W.Fast.tw8823243017247903449 : Nat := 0
def PySem.W.Fast.tw2147553288591909914 : Nat := 0
def PySem.W.Fast.tw16543864462054994784 : Nat := 0
def PySem.W.Fast.tw6736473806336689708 : Nat := 0
def PySem.W.Fast.tw11135873314218040538 : Nat := 0
def PySem.W.Fast.tw882377033354025887 : Nat := 0
def PySem.W.Fast.tw3052790156260891814 : Nat := 0
def PySem.W.Fast.tw15564993304082208331 : Nat := 0
def PySem.W.Fast.tw3513120799988916043 : Nat := 0
def PySem.W.Fast.tw16980781435683761154 : Nat := 0
def PySem.W.Fast.tw11297633107219499809 : Nat := 0
def PySem.W.Fast.tw2393943136374076149 : Nat := 0
def PySem.W.Fast.tw9238035641990005462 : Nat := 0
def PySem.W.Fast.tw4501497478115329601 : Nat := 0
def PySem.W.Fast.tw920066770234871029 : Nat := 0
def PySem.W.Fast.tw12803747893404963593 : Nat := 0
def PySem.W.Fast.tw12619565633517187689 : Nat := 0
def PySem.W.Fast.tw2709151470717897316 : Nat := 0
def PySem.W.Fast.tw5199224326806450860 : Nat := 0
def PySem.W.Fast.tw6133851981560485934 : Nat := 0
def PySem.W.Fast.tw17077947789867159877 : Nat := 0
def PySem.W.Fast.tw4665324483348597745 : Nat := 0
def PySem.W.Fast.tw18255227024023482055 : Nat := 0
def PySem.W.Fast.tw2190775664276673895 : Nat := 0
def PySem.W.Fast.tw12875667964011558604 : Nat := 0
def PySem.W.Fast.tw14915665415477424937 : Nat := 0
def PySem.W.Fast.tw15468997151466987949 : Nat := 0
def PySem.W.Fast.tw242032194149246730 : Nat := 0
def PySem.W.Fast.tw1403935496449591948 : Nat := 0
def PySem.W.Fast.tw8598088096297814906 : Nat := 0
def PySem.W.Fast.tw1144685507455207663 : Nat := 0
def PySem.W.Fast.tw7092763673203554818 : Nat := 0
def PySem.W.Fast.tw8372739011185017794 : Nat := 0
def PySem.W.Fast.tw4198101763445243002 : Nat := 0
def PySem.W.Fast.tw3556506519487415925 : Nat := 0
def PySem.W.Fast.tw2392452545224911304 : Nat := 0
def PySem.W.Fast.tw1763993106294418189 : Nat := 0
def PySem.W.Fast.tw8378372232422394697 : Nat := 0
def PySem.W.Fast.tw14931902030982456018 : Nat := 0
def PySem.W.Fast.tw14082764629397079864 : Nat := 0
def PySem.W.Fast.tw12455967529944566667 : Nat := 0
def PySem.W.Fast.tw11618851503429268890 : Nat := 0
def PySem.W.Fast.tw16109105174156126230 : Nat := 0
def PySem.W.Fast.tw6622748342644314987 : Nat := 0
def PySem.W.Fast.tw9170187174873875952 : Nat := 0
def PySem.W.Fast.tw18440179049360914437 : Nat := 0
def PySem.W.Fast.tw12807308832834832547 : Nat := 0
def PySem.W.Fast.tw3954545346799555078 : Nat := 0
def PySem.W.Fast.tw8427195305654032185 : Nat := 0
def PySem.W.Fast.tw16530240592936911134 : Nat := 0
def PySem.W.Fast.tw12526436488609221725 : Nat := 0
def PySem.W.Fast.tw8927890094321065328 : Nat := 0
def PySem.W.Fast.tw8115738973159485530 : Nat := 0
def PySem.W.Fast.tw4566287810467370917 : Nat := 0
def PySem.W.Fast.tw17605854255639138650 : Nat := 0
def PySem.W.Fast.tw3229576742439552010 : Nat := 0
def PySem.W.Fast.tw18126450206600374767 : Nat := 0
def PySem.W.Fast.tw5170914902336678102 : Nat := 0
def PySem.W.Fast.tw6865908305223637375 : Nat := 0
def PySem.W.Fast.tw2521223248729451723 : Nat := 0
def PySem.W.Fast.tw15696420896946818551 : Nat := 0
def PySem.W.Fast.tw8978626136934761613 : Nat := 0
def PySem.W.Fast.tw8667167289329055335 : Nat := 0
def PySem.W.Fast.tw881043117560073910 : Nat := 0
def PySem.W.Fast.tw11000595860992774559 : Nat := 0
def PySem.W.Fast.tw11125863741287485372 : Nat := 0
def PySem.W.Fast.tw9918162174293712387 : Nat := 0
def PySem.W.Fast.tw2196395279919886470 : Nat := 0
def PySem.W.Fast.tw15169165129149248761 : Nat := 0
def PySem.W.Fast.tw11877920206879937209 : Nat := 0
def PySem.W.Fast.tw7238783937731648427 : Nat := 0
def PySem.W.Fast.tw10088923577410805939 : Nat := 0
def PySem.W.Fast.tw10258348900142232325 : Nat := 0
def PySem.W.Fast.tw15500016814250540633 : Nat := 0
def PySem.W.Fast.tw10042483243339664596 : Nat := 0
def PySem.W.Fast.tw17146000431379071015 : Nat := 0
def PySem.W.Fast.tw4977899540429656046 : Nat := 0
def PySem.W.Fast.tw17811340772100806830 : Nat := 0
def PySem.W.Fast.tw12071813830415310164 : Nat := 0
def PySem.W.Fast.tw3200856888746085119 : Nat := 0
def PySem.W.Fast.tw8075676659506012936 : Nat := 0
def PySem.W.Fast.tw8028048093472181135 : Nat := 0
def PySem.W.Fast.tw10091336690564713777 : Nat := 0
def PySem.W.Fast.tw9824155849632706900 : Nat := 0
def PySem.W.Fast.tw6319217274877456380 : Nat := 0
def PySem.W.Fast.tw13629889626676941825 : Nat := 0
def PySem.W.Fast.tw18051409443448831520 : Nat := 0
def PySem.W.Fast.tw8718336999820823324 : Nat := 0
def PySem.W.Fast.tw11424088382880373709 : Nat := 0
def PySem.W.Fast.tw9024078906402513161 : Nat := 0
def PySem.W.Fast.tw16347875271484774598 : Nat := 0
def PySem.W.Fast.tw8841784488822397622 : Nat := 0
def PySem.W.Fast.tw4248962274320111110 : Nat := 0
def PySem.W.Fast.tw7269877194642864681 : Nat := 0
def PySem.W.Fast.tw6057635758873962066 : Nat := 0
def PySem.W.Fast.tw14274548057765474515 : Nat := 0
def PySem.W.Fast.tw8261741258873921879 : Nat := 0
def PySem.W.Fast.tw15377058183476121540 : Nat := 0
def PySem.W.Fast.tw6191637643505336654 : Nat := 0
def PySem.W.Fast.tw1602505524122098524 : Nat := 0
def PySem.W.Fast.tw4910163334455636302 : Nat := 0
def PySem.W.Fast.tw12549428641618115677 : Nat := 0
def PySem.W.Fast.tw11635870804035034527 : Nat := 0
def PySem.W.Fast.tw16678814849455130857 : Nat := 0
def PySem.W.Fast.tw7405848241844698234 : Nat := 0
def PySem.W.Fast.tw5741217663211581244 : Nat := 0
def PySem.W.Fast.tw15670388211080046027 : Nat := 0
def PySem.W.Fast.tw5196124418125309062 : Nat := 0
def PySem.W.Fast.tw15403264600094710660 : Nat := 0
def PySem.W.Fast.tw17850821473902528374 : Nat := 0
def PySem.W.Fast.tw8379209502023058804 : Nat := 0
def PySem.W.Fast.tw8982068954252442392 : Nat := 0
def PySem.W.Fast.tw4456256746544952641 : Nat := 0
def PySem.W.Fast.tw5543853172525980155 : Nat := 0
def PySem.W.Fast.tw1562178517166405809 : Nat := 0
def PySem.W.Fast.tw17876015626519179996 : Nat := 0
def PySem.W.Fast.tw18092781365714545596 : Nat := 0
def PySem.W.Fast.tw677554512549491516 : Nat := 0
def PySem.W.Fast.tw11224052884638973849 : Nat := 0
def PySem.W.Fast.tw4557463430106524446 : Nat := 0
def PySem.W.Fast.tw4616920844704552237 : Nat := 0
def PySem.W.Fast.tw14501684094228905573 : Nat := 0
def PySem.W.Fast.tw18425361137027726722 : Nat := 0
def PySem.W.Fast.tw15985214941987996999 : Nat := 0
def PySem.W.Fast.tw10746619502554913533 : Nat := 0
def PySem.W.Fast.tw13296631266171577931 : Nat := 0
def PySem.W.Fast.tw10335716703773881400 : Nat := 0
def PySem.W.Fast.tw6847608496815279452 : Nat := 0
def PySem.W.Fast.tw4174665544450203376 : Nat := 0
def PySem.W.Fast.tw994370516545427733 : Nat := 0
def PySem.W.Fast.tw17319633530464020574 : Nat := 0
def PySem.W.Fast.tw6943438959174362952 : Nat := 0
def PySem.W.Fast.tw5297151430546944089 : Nat := 0
def PySem.W.Fast.tw9954414613524511373 : Nat := 0
def PySem.W.Fast.tw1829448581334518056 : Nat := 0
def PySem.W.Fast.tw16858276934708739335 : Nat := 0
def PySem.W.Fast.tw4599289385636819169 : Nat := 0
def PySem.W.Fast.tw14243891013962605076 : Nat := 0
def PySem.W.Fast.tw18086043581360256951 : Nat := 0
def PySem.W.Fast.tw12993240655104205807 : Nat := 0
def PySem.W.Fast.tw16878408722405434661 : Nat := 0
def PySem.W.Fast.tw15714644357120312480 : Nat := 0
def PySem.W.Fast.tw3380830639967845924 : Nat := 0
def PySem.W.Fast.tw18418504490778522976 : Nat := 0
def PySem.W.Fast.tw16089015186605437595 : Nat := 0
def PySem.W.Fast.tw14093422790261686832 : Nat := 0
def PySem.W.Fast.tw15829500467832984901 : Nat := 0
def PySem.W.Fast.tw5105660633012970246 : Nat := 0
def PySem.W.Fast.tw14261296094829356836 : Nat := 0
def PySem.W.Fast.tw12225043797542182904 : Nat := 0
def PySem.W.Fast.tw14040336892924477391 : Nat := 0
def PySem.W.Fast.tw10503746004111947959 : Nat := 0
def PySem.W.Fast.tw4893191828562985096 : Nat := 0
def PySem.W.Fast.tw16488334252243097274 : Nat := 0
def PySem.W.Fast.tw10899733641144927887 : Nat := 0
def PySem.W.Fast.tw2665405138683221528 : Nat := 0
def PySem.W.Fast.tw16583722907597488969 : Nat := 0
def PySem.W.Fast.tw4499663169958491794 : Nat := 0
def PySem.W.Fast.tw17719586771733680283 : Nat := 0
def PySem.W.Fast.tw10425473961823403843 : Nat := 0
def PySem.W.Fast.tw15510032054250657686 : Nat := 0
def PySem.W.Fast.tw9025451468793531355 : Nat := 0
def PySem.W.Fast.tw6690141680130086944 : Nat := 0
def PySem.W.Fast.tw10294252537180355209 : Nat := 0
def PySem.W.Fast.tw4645096962678728581 : Nat := 0
def PySem.W.Fast.tw3219231170710212298 : Nat := 0
def PySem.W.Fast.tw3963729841731597663 : Nat := 0
def PySem.W.Fast.tw1055134097292385716 : Nat := 0
def PySem.W.Fast.tw1330020358301185002 : Nat := 0
def PySem.W.Fast.tw4386567932066469688 : Nat := 0
def PySem.W.Fast.tw7458485416537982209 : Nat := 0
def PySem.W.Fast.tw2142979553178882362 : Nat := 0
def PySem.W.Fast.tw907906863086683393 : Nat := 0
def PySem.W.Fast.tw13226601795745232518 : Nat := 0
def PySem.W.Fast.tw4535298101004079792 : Nat := 0
def PySem.W.Fast.tw5537689515231631245 : Nat := 0
def PySem.W.Fast.tw12598342279647932236 : Nat := 0
def PySem.W.Fast.tw8569460765181177754 : Nat := 0
def PySem.W.Fast.tw6693068187820302103 : Nat := 0
def PySem.W.Fast.tw17423389558201520138 : Nat := 0
def PySem.W.Fast.tw3738797260403485508 : Nat := 0
def PySem.W.Fast.tw1938477360200123681 : Nat := 0
def PySem.W.Fast.tw18368429361015174943 : Nat := 0
def PySem.W.Fast.tw17511045699076254092 : Nat := 0
def PySem.W.Fast.tw2458611329706740614 : Nat := 0
def PySem.W.Fast.tw13982519612333385307 : Nat := 0
def PySem.W.Fast.tw2716015494219746888 : Nat := 0
def PySem.W.Fast.tw12194441847317976229 : Nat := 0
def PySem.W.Fast.tw4804303724139809384 : Nat := 0
def PySem.W.Fast.tw14721119140053242796 : Nat := 0
def PySem.W.Fast.tw8443851809949281384 : Nat := 0
def PySem.W.Fast.tw6502533307074878608 : Nat := 0
def PySem.W.Fast.tw2826141838756072777 : Nat := 0
def PySem.W.Fast.tw16542023148218991385 : Nat := 0
def PySem.W.Fast.tw4316632825687454116 : Nat := 0
def PySem.W.Fast.tw18337451914360468764 : Nat := 0
def PySem.W.Fast.tw11015255537372770170 : Nat := 0
def PySem.W.Fast.tw4812636718974082972 : Nat := 0
def PySem.W.Fast.tw7592887106354292109 : Nat := 0
def PySem.W.Fast.tw432427796774988211 : Nat := 0
def PySem.W.Fast.tw15237606638951463554 : Nat := 0
def PySem.W.Fast.tw18242573498490804999 : Nat := 0
def PySem.W.Fast.tw7533587367526741518 : Nat := 0
def PySem.W.Fast.tw14782469055540402502 : Nat := 0
def PySem.W.Fast.tw3175689133692529368 : Nat := 0
def PySem.W.Fast.tw17630644396679445407 : Nat := 0
def PySem.W.Fast.tw13126301834724287071 : Nat := 0
def PySem.W.Fast.tw11936948334278876221 : Nat := 0
def PySem.W.Fast.tw10935929458810865383 : Nat := 0
def PySem.W.Fast.tw18128135520351760734 : Nat := 0
def PySem.W.Fast.tw9082427495266486616 : Nat := 0
def PySem.W.Fast.tw5551924818508627978 : Nat := 0
def PySem.W.Fast.tw8626974543543196398 : Nat := 0
def PySem.W.Fast.tw18366924514519733735 : Nat := 0
def PySem.W.Fast.tw4534800707931383691 : Nat := 0
def PySem.W.Fast.tw906813970239783518 : Nat := 0
def PySem.W.Fast.tw14133637928196145499 : Nat := 0
def PySem.W.Fast.tw11819917541309461639 : Nat := 0
def PySem.W.Fast.tw9334458766628890926 : Nat := 0
def PySem.W.Fast.tw14574838519220039447 : Nat := 0
def PySem.W.Fast.tw17131171558854748344 : Nat := 0
def PySem.W.Fast.tw723695973477165842 : Nat := 0
def PySem.W.Fast.tw14624762738484057629 : Nat := 0
def PySem.W.Fast.tw13313210819197385586 : Nat := 0
def PySem.W.Fast.tw10871528896736992752 : Nat := 0
def PySem.W.Fast.tw12818956406425741986 : Nat := 0
def PySem.W.Fast.tw6606268394242892338 : Nat := 0
def PySem.W.Fast.tw6826681414463935179 : Nat := 0
def PySem.W.Fast.tw13912004683717153568 : Nat := 0
def PySem.W.Fast.tw13271913207663753458 : Nat := 0
def PySem.W.Fast.tw16855021877098990486 : Nat := 0
def PySem.W.Fast.tw12706241145369477082 : Nat := 0
def PySem.W.Fast.tw14687041700922155367 : Nat := 0
def PySem.W.Fast.tw4074212360154854399 : Nat := 0
def PySem.W.Fast.tw1563977093787383479 : Nat := 0
def PySem.W.Fast.tw17390595602622901988 : Nat := 0
def PySem.W.Fast.tw5751519670946916127 : Nat := 0
def PySem.W.Fast.tw17558555220230958831 : Nat := 0
def PySem.W.Fast.tw12283272953497817737 : Nat := 0
def PySem.W.Fast.tw1425781286609591421 : Nat := 0
def PySem.W.Fast.tw11532163460320408879 : Nat := 0
def PySem.W.Fast.tw14559397884245942682 : Nat := 0
def PySem.W.Fast.tw15723219489569686539 : Nat := 0
def PySem.W.Fast.tw9685895771589169535 : Nat := 0
def PySem.W.Fast.tw8311917812322636338 : Nat := 0
def PySem.W.Fast.tw12575731259194157457 : Nat := 0
def PySem.W.Fast.tw5268273532013482482 : Nat := 0
def PySem.W.Fast.tw8786349680629912306 : Nat := 0
def PySem.W.Fast.tw13800068302266966716 : Nat := 0
def PySem.W.Fast.tw5901531988734153457 : Nat := 0
def PySem.W.Fast.tw12638993805734015555 : Nat := 0
def PySem.W.Fast.tw7315910086863169831 : Nat := 0
def PySem.W.Fast.tw13940781935612265790 : Nat := 0
def PySem.W.Fast.tw1784298741683862557 : Nat := 0
def PySem.W.Fast.tw15181574872249515219 : Nat := 0
def PySem.W.Fast.tw2869537475298326258 : Nat := 0
def PySem.W.Fast.tw17257618494982676790 : Nat := 0
open PySem PySem.W PyProof.Rows
set_option maxRecDepth 100000 in
set_option maxHeartbeats 0 in
theorem PySem.Challenge.cw_frameback_k45_code_laid_and_joined_holds : PySem.Challenge.rw_frameback_k45_code_laid_and_joined.Holds := by
  w_on; o_law; k_head; (case hw => w_witness2)
  k_fill
  refine FB.walk (l := PySem.Challenge.rw_frameback_k45_code_laid_and_joined) rfl rfl (fun w h Y => PySem.W.kIn_of Y) ?F
  case F =>
    intro w mg fa h KX G hmg
    have T : ∃ (a : FB.Adr) (fd : FuncData), FB.Txt (L2.KOf KX) mg a ∧ L2.Fun (L2.KOf KX) "law" "law" FB.s_law fa fd ∧ ∀ (s : Shared) (v : Value), BindsTo s fd ⟨[v], []⟩ [("_law_script", v)] := by
      dsimp only [L2.KOf]
      refine' FB.txt_mk KX G hmg ?z_dict ?z_int ?z_isinstance ?z_len ?z_list ?z_range ?z_sum ?z_tuple ?z_zip ?g_TOP_BOX ?g_TOP_CELLS ?g_TOP_ROWS ?g_TOP_TARGET ?g_TOP_VALUE ?c_Add ?c_Back ?c_Branch ?c_Call ?c_Copy ?c_Drop ?c_FrameError ?c_Get ?c_Grow ?c_Jump ?c_NoRow ?c_NoTable ?c_Put ?c_Set ?c_Shrink ?c_Table ?pg_Table ?hd_Table ?po_Table ?sa_Table ?mk_Table ?kc_Table ?n_Table_entries ?n_Table_landings ?a1 ?i1 ?l1 ?d1 ?c1 ?k1 ?pg_Jump ?hd_Jump ?po_Jump ?sa_Jump ?mk_Jump ?kc_Jump ?n_Jump_target ?a2 ?i2 ?l2 ?c2 ?k2 ?a3 ?i3 ?l3 ?c3 ?k3 ?a4 ?i4 ?l4 ?c4 ?k4 ?pg_Branch ?hd_Branch ?po_Branch ?sa_Branch ?mk_Branch ?kc_Branch ?n_Branch_box ?n_Branch_target ?a5 ?i5 ?l5 ?c5 ?k5 ?a6 ?i6 ?l6 ?c6 ?k6 ?a7 ?i7 ?l7 ?c7 ?k7 ?pg_Call ?hd_Call ?po_Call ?sa_Call ?mk_Call ?kc_Call ?n_Call_target ?a8 ?i8 ?l8 ?c8 ?k8 ?a9 ?i9 ?l9 ?c9 ?k9 ?a10 ?i10 ?l10 ?c10 ?k10 ?pg_Set ?hd_Set ?po_Set ?sa_Set ?mk_Set ?kc_Set ?n_Set_box ?n_Set_number ?a11 ?i11 ?l11 ?c11 ?k11 ?a12 ?i12 ?l12 ?c12 ?k12 ?a13 ?i13 ?l13 ?c13 ?k13 ?pg_Copy ?hd_Copy ?po_Copy ?sa_Copy ?mk_Copy ?kc_Copy ?n_Copy_box ?n_Copy_one ?a14 ?i14 ?l14 ?c14 ?k14 ?a15 ?i15 ?l15 ?c15 ?k15 ?a16 ?i16 ?l16 ?c16 ?k16 ?pg_Add ?hd_Add ?po_Add ?sa_Add ?mk_Add ?kc_Add ?n_Add_box ?n_Add_one ?n_Add_other ?a17 ?i17 ?l17 ?c17 ?k17 ?a18 ?i18 ?l18 ?c18 ?k18 ?a19 ?i19 ?l19 ?c19 ?k19 ?pg_Grow ?hd_Grow ?po_Grow ?sa_Grow ?mk_Grow ?kc_Grow ?n_Grow_many ?a20 ?i20 ?l20 ?c20 ?k20 ?a21 ?i21 ?l21 ?c21 ?k21 ?a22 ?i22 ?l22 ?c22 ?k22 ?pg_Shrink ?hd_Shrink ?po_Shrink ?sa_Shrink ?mk_Shrink ?kc_Shrink ?n_Shrink_many ?a23 ?i23 ?l23 ?c23 ?k23 ?a24 ?i24 ?l24 ?c24 ?k24 ?a25 ?i25 ?l25 ?c25 ?k25 ?pg_Put ?hd_Put ?po_Put ?sa_Put ?mk_Put ?kc_Put ?n_Put_box ?n_Put_cell ?a26 ?i26 ?l26 ?c26 ?k26 ?a27 ?i27 ?l27 ?c27 ?k27 ?a28 ?i28 ?l28 ?c28 ?k28 ?pg_Get ?hd_Get ?po_Get ?sa_Get ?mk_Get ?kc_Get ?n_Get_box ?n_Get_cell ?a29 ?i29 ?l29 ?c29 ?k29 ?a30 ?i30 ?l30 ?c30 ?k30 ?a31 ?i31 ?l31 ?c31 ?k31 ?pg_Back ?hd_Back ?po_Back ?sa_Back ?mk_Back ?kc_Back ?n_Back_box ?a32 ?i32 ?l32 ?c32 ?k32 ?a33 ?i33 ?l33 ?c33 ?k33 ?a34 ?i34 ?l34 ?c34 ?k34 ?pg_Drop ?hd_Drop ?po_Drop ?sa_Drop ?mk_Drop ?kc_Drop ?n_Drop_box ?a35 ?i35 ?l35 ?c35 ?k35 ?a36 ?i36 ?l36 ?c36 ?k36 ?a37 ?i37 ?l37 ?c37 ?k37 ?ha_Table ?hm_Table ?is_Table_Table ?ob1 ?ob2 ?xe_FrameError ?xa_FrameError ?xb_FrameError ?xc_FrameError ?xd_FrameError ?xf_FrameError ?xg_FrameError ?xh_FrameError ?xi_FrameError ?xe_NoTable ?xa_NoTable ?xb_NoTable ?xc_NoTable ?xd_NoTable ?xf_NoTable ?xg_NoTable ?xh_NoTable ?xi_NoTable ?up_NoTable_FrameError ?is_NoTable_NoTable ?is_NoTable_NoRow ?k_list_list ?k_tuple_tuple ?a38 ?l38 ?c38 ?k38 ?a39 ?l39 ?c39 ?k39 ?a40 ?l40 ?c40 ?k40 ?a41 ?l41 ?c41 ?k41 ?a42 ?l42 ?c42 ?k42 ?a43 ?l43 ?c43 ?k43 ?a44 ?l44 ?c44 ?k44 ?a45 ?l45 ?c45 ?k45 ?a46 ?l46 ?c46 ?k46 ?a47 ?l47 ?c47 ?k47 ?a48 ?l48 ?c48 ?k48 ?a49 ?l49 ?c49 ?k49 ?a50 ?l50 ?c50 ?k50 ?a51 ?l51 ?c51 ?k51
      (case z_dict => first | k_is | kit_is | rfl | kernel_rfl)
      (case z_int => first | k_is | kit_is | rfl | kernel_rfl)
      (case z_isinstance => first | k_is | kit_is | rfl | kernel_rfl)
      (case z_len => first | k_is | kit_is | rfl | kernel_rfl)
      (case z_list => first | k_is | kit_is | rfl | kernel_rfl)
      (case z_range => first | k_is | kit_is | rfl | kernel_rfl)
      (case z_sum => first | k_is | kit_is | rfl | kernel_rfl)
      (case z_tuple => first | k_is | kit_is | rfl | kernel_rfl)
      (case z_zip => first | k_is | kit_is | rfl | kernel_rfl)
      (case g_TOP_BOX => first | k_is | kit_is | rfl | kernel_rfl)
      (case g_TOP_CELLS => first | k_is | kit_is | rfl | kernel_rfl)
      (case g_TOP_ROWS => first | k_is | kit_is | rfl | kernel_rfl)
      (case g_TOP_TARGET => first | k_is | kit_is | rfl | kernel_rfl)
      (case g_TOP_VALUE => first | k_is | kit_is | rfl | kernel_rfl)
      (case c_Add => first | k_is | kit_is | rfl | kernel_rfl)
      (case c_Back => first | k_is | kit_is | rfl | kernel_rfl)
      (case c_Branch => first | k_is | kit_is | rfl | kernel_rfl)
      (case c_Call => first | k_is | kit_is | rfl | kernel_rfl)
      (case c_Copy => first | k_is | kit_is | rfl | kernel_rfl)
      (case c_Drop => first | k_is | kit_is | rfl | kernel_rfl)
      (case c_FrameError => first | k_is | kit_is | rfl | kernel_rfl)
      (case c_Get => first | k_is | kit_is | rfl | kernel_rfl)
      (case c_Grow => first | k_is | kit_is | rfl | kernel_rfl)
      (case c_Jump => first | k_is | kit_is | rfl | kernel_rfl)
      (case c_NoRow => first | k_is | kit_is | rfl | kernel_rfl)
      (case c_NoTable => first | k_is | kit_is | rfl | kernel_rfl)
      (case c_Put => first | k_is | kit_is | rfl | kernel_rfl)
      (case c_Set => first | k_is | kit_is | rfl | kernel_rfl)
      (case c_Shrink => first | k_is | kit_is | rfl | kernel_rfl)
      (case c_Table => first | k_is | kit_is | rfl | kernel_rfl)
      (case pg_Table => first | k_is | kit_is | rfl | kernel_rfl)
      (case hd_Table => first | k_is | kit_is | rfl | kernel_rfl)
      (case po_Table => first | k_is | kit_is | rfl | kernel_rfl)
      (case sa_Table => first | k_is | kit_is | rfl | kernel_rfl)
      (case mk_Table => first | k_is | kit_is | rfl | kernel_rfl)
      (case kc_Table => first | k_is | kit_is | rfl | kernel_rfl)
      (case n_Table_entries => first | k_is | kit_is | rfl | kernel_rfl)
      (case n_Table_landings => first | k_is | kit_is | rfl | kernel_rfl)
      (case a1 => first | k_is | kit_is | rfl | kernel_rfl)
      (case i1 => first | k_is | kit_is | rfl | kernel_rfl)
      (case l1 => first | k_is | kit_is | rfl | kernel_rfl)
      (case d1 => first | k_is | kit_is | rfl | kernel_rfl)
      (case c1 => first | k_is | kit_is | rfl | kernel_rfl)
      (case k1 => first | k_is | kit_is | rfl | kernel_rfl)
      (case pg_Jump => first | k_is | kit_is | rfl | kernel_rfl)
      (case hd_Jump => first | k_is | kit_is | rfl | kernel_rfl)
      (case po_Jump => first | k_is | kit_is | rfl | kernel_rfl)
      (case sa_Jump => first | k_is | kit_is | rfl | kernel_rfl)
      (case mk_Jump => first | k_is | kit_is | rfl | kernel_rfl)
      (case kc_Jump => first | k_is | kit_is | rfl | kernel_rfl)
      (case n_Jump_target => first | k_is | kit_is | rfl | kernel_rfl)
      (case a2 => first | k_is | kit_is | rfl | kernel_rfl)
      (case i2 => first | k_is | kit_is | rfl | kernel_rfl)
      (case l2 => first | k_is | kit_is | rfl | kernel_rfl)
      (case c2 => first | k_is | kit_is | rfl | kernel_rfl)
      (case k2 => first | k_is | kit_is | rfl | kernel_rfl)
      (case a3 => first | k_is | kit_is | rfl | kernel_rfl)
      (case i3 => first | k_is | kit_is | rfl | kernel_rfl)
      (case l3 => first | k_is | kit_is | rfl | kernel_rfl)
      (case c3 => first | k_is | kit_is | rfl | kernel_rfl)
      (case k3 => first | k_is | kit_is | rfl | kernel_rfl)
      (case a4 => first | k_is | kit_is | rfl | kernel_rfl)
      (case i4 => first | k_is | kit_is | rfl | kernel_rfl)
      (case l4 => first | k_is | kit_is | rfl | kernel_rfl)
      (case c4 => first | k_is | kit_is | rfl | kernel_rfl)
      (case k4 => first | k_is | kit_is | rfl | kernel_rfl)
      (case pg_Branch => first | k_is | kit_is | rfl | kernel_rfl)
      (case hd_Branch => first | k_is | kit_is | rfl | kernel_rfl)
      (case po_Branch => first | k_is | kit_is | rfl | kernel_rfl)
      (case sa_Branch => first | k_is | kit_is | rfl | kernel_rfl)
      (case mk_Branch => first | k_is | kit_is | rfl | kernel_rfl)
      (case kc_Branch => first | k_is | kit_is | rfl | kernel_rfl)
      (case n_Branch_box => first | k_is | kit_is | rfl | kernel_rfl)
      (case n_Branch_target => first | k_is | kit_is | rfl | kernel_rfl)
      (case a5 => first | k_is | kit_is | rfl | kernel_rfl)
      (case i5 => first | k_is | kit_is | rfl | kernel_rfl)
      (case l5 => first | k_is | kit_is | rfl | kernel_rfl)
      (case c5 => first | k_is | kit_is | rfl | kernel_rfl)
      (case k5 => first | k_is | kit_is | rfl | kernel_rfl)
      (case a6 => first | k_is | kit_is | rfl | kernel_rfl)
      (case i6 => first | k_is | kit_is | rfl | kernel_rfl)
      (case l6 => first | k_is | kit_is | rfl | kernel_rfl)
      (case c6 => first | k_is | kit_is | rfl | kernel_rfl)
      (case k6 => first | k_is | kit_is | rfl | kernel_rfl)
      (case a7 => first | k_is | kit_is | rfl | kernel_rfl)
      (case i7 => first | k_is | kit_is | rfl | kernel_rfl)
      (case l7 => first | k_is | kit_is | rfl | kernel_rfl)
      (case c7 => first | k_is | kit_is | rfl | kernel_rfl)
      (case k7 => first | k_is | kit_is | rfl | kernel_rfl)
      (case pg_Call => first | k_is | kit_is | rfl | kernel_rfl)
      (case hd_Call => first | k_is | kit_is | rfl | kernel_rfl)
      (case po_Call => first | k_is | kit_is | rfl | kernel_rfl)
      (case sa_Call => first | k_is | kit_is | rfl | kernel_rfl)
      (case mk_Call => first | k_is | kit_is | rfl | kernel_rfl)
      (case kc_Call => first | k_is | kit_is | rfl | kernel_rfl)
      (case n_Call_target => first | k_is | kit_is | rfl | kernel_rfl)
      (case a8 => first | k_is | kit_is | rfl | kernel_rfl)
      (case i8 => first | k_is | kit_is | rfl | kernel_rfl)
      (case l8 => first | k_is | kit_is | rfl | kernel_rfl)
      (case c8 => first | k_is | kit_is | rfl | kernel_rfl)
      (case k8 => first | k_is | kit_is | rfl | kernel_rfl)
      (case a9 => first | k_is | kit_is | rfl | kernel_rfl)
      (case i9 => first | k_is | kit_is | rfl | kernel_rfl)
      (case l9 => first | k_is | kit_is | rfl | kernel_rfl)
      (case c9 => first | k_is | kit_is | rfl | kernel_rfl)
      (case k9 => first | k_is | kit_is | rfl | kernel_rfl)
      (case a10 => first | k_is | kit_is | rfl | kernel_rfl)
      (case i10 => first | k_is | kit_is | rfl | kernel_rfl)
      (case l10 => first | k_is | kit_is | rfl | kernel_rfl)
      (case c10 => first | k_is | kit_is | rfl | kernel_rfl)
      (case k10 => first | k_is | kit_is | rfl | kernel_rfl)
      (case pg_Set => first | k_is | kit_is | rfl | kernel_rfl)
      (case hd_Set => first | k_is | kit_is | rfl | kernel_rfl)
      (case po_Set => first | k_is | kit_is | rfl | kernel_rfl)
      (case sa_Set => first | k_is | kit_is | rfl | kernel_rfl)
      (case mk_Set => first | k_is | kit_is | rfl | kernel_rfl)
      (case kc_Set => first | k_is | kit_is | rfl | kernel_rfl)
      (case n_Set_box => first | k_is | kit_is | rfl | kernel_rfl)
      (case n_Set_number => first | k_is | kit_is | rfl | kernel_rfl)
      (case a11 => first | k_is | kit_is | rfl | kernel_rfl)
      (case i11 => first | k_is | kit_is | rfl | kernel_rfl)
      (case l11 => first | k_is | kit_is | rfl | kernel_rfl)
      (case c11 => first | k_is | kit_is | rfl | kernel_rfl)
      (case k11 => first | k_is | kit_is | rfl | kernel_rfl)
      (case a12 => first | k_is | kit_is | rfl | kernel_rfl)
      (case i12 => first | k_is | kit_is | rfl | kernel_rfl)
      (case l12 => first | k_is | kit_is | rfl | kernel_rfl)
      (case c12 => first | k_is | kit_is | rfl | kernel_rfl)
      (case k12 => first | k_is | kit_is | rfl | kernel_rfl)
      (case a13 => first | k_is | kit_is | rfl | kernel_rfl)
      (case i13 => first | k_is | kit_is | rfl | kernel_rfl)
      (case l13 => first | k_is | kit_is | rfl | kernel_rfl)
      (case c13 => first | k_is | kit_is | rfl | kernel_rfl)
      (case k13 => first | k_is | kit_is | rfl | kernel_rfl)
      (case pg_Copy => first | k_is | kit_is | rfl | kernel_rfl)
      (case hd_Copy => first | k_is | kit_is | rfl | kernel_rfl)
      (case po_Copy => first | k_is | kit_is | rfl | kernel_rfl)
      (case sa_Copy => first | k_is | kit_is | rfl | kernel_rfl)
      (case mk_Copy => first | k_is | kit_is | rfl | kernel_rfl)
      (case kc_Copy => first | k_is | kit_is | rfl | kernel_rfl)
      (case n_Copy_box => first | k_is | kit_is | rfl | kernel_rfl)
      (case n_Copy_one => first | k_is | kit_is | rfl | kernel_rfl)
      (case a14 => first | k_is | kit_is | rfl | kernel_rfl)
      (case i14 => first | k_is | kit_is | rfl | kernel_rfl)
      (case l14 => first | k_is | kit_is | rfl | kernel_rfl)
      (case c14 => first | k_is | kit_is | rfl | kernel_rfl)
      (case k14 => first | k_is | kit_is | rfl | kernel_rfl)
      (case a15 => first | k_is | kit_is | rfl | kernel_rfl)
      (case i15 => first | k_is | kit_is | rfl | kernel_rfl)
      (case l15 => first | k_is | kit_is | rfl | kernel_rfl)
      (case c15 => first | k_is | kit_is | rfl | kernel_rfl)
      (case k15 => first | k_is | kit_is | rfl | kernel_rfl)
      (case a16 => first | k_is | kit_is | rfl | kernel_rfl)
      (case i16 => first | k_is | kit_is | rfl | kernel_rfl)
      (case l16 => first | k_is | kit_is | rfl | kernel_rfl)
      (case c16 => first | k_is | kit_is | rfl | kernel_rfl)
      (case k16 => first | k_is | kit_is | rfl | kernel_rfl)
      (case pg_Add => first | k_is | kit_is | rfl | kernel_rfl)
      (case hd_Add => first | k_is | kit_is | rfl | kernel_rfl)
      (case po_Add => first | k_is | kit_is | rfl | kernel_rfl)
      (case sa_Add => first | k_is | kit_is | rfl | kernel_rfl)
      (case mk_Add => first | k_is | kit_is | rfl | kernel_rfl)
      (case kc_Add => first | k_is | kit_is | rfl | kernel_rfl)
      (case n_Add_box => first | k_is | kit_is | rfl | kernel_rfl)
      (case n_Add_one => first | k_is | kit_is | rfl | kernel_rfl)
      (case n_Add_other => first | k_is | kit_is | rfl | kernel_rfl)
      (case a17 => first | k_is | kit_is | rfl | kernel_rfl)
      (case i17 => first | k_is | kit_is | rfl | kernel_rfl)
      (case l17 => first | k_is | kit_is | rfl | kernel_rfl)
      (case c17 => first | k_is | kit_is | rfl | kernel_rfl)
      (case k17 => first | k_is | kit_is | rfl | kernel_rfl)
      (case a18 => first | k_is | kit_is | rfl | kernel_rfl)
      (case i18 => first | k_is | kit_is | rfl | kernel_rfl)
      (case l18 => first | k_is | kit_is | rfl | kernel_rfl)
      (case c18 => first | k_is | kit_is | rfl | kernel_rfl)
      (case k18 => first | k_is | kit_is | rfl | kernel_rfl)
      (case a19 => first | k_is | kit_is | rfl | kernel_rfl)
      (case i19 => first | k_is | kit_is | rfl | kernel_rfl)
      (case l19 => first | k_is | kit_is | rfl | kernel_rfl)
      (case c19 => first | k_is | kit_is | rfl | kernel_rfl)
      (case k19 => first | k_is | kit_is | rfl | kernel_rfl)
      (case pg_Grow => first | k_is | kit_is | rfl | kernel_rfl)
      (case hd_Grow => first | k_is | kit_is | rfl | kernel_rfl)
      (case po_Grow => first | k_is | kit_is | rfl | kernel_rfl)
      (case sa_Grow => first | k_is | kit_is | rfl | kernel_rfl)
      (case mk_Grow => first | k_is | kit_is | rfl | kernel_rfl)
      (case kc_Grow => first | k_is | kit_is | rfl | kernel_rfl)
      (case n_Grow_many => first | k_is | kit_is | rfl | kernel_rfl)
      (case a20 => first | k_is | kit_is | rfl | kernel_rfl)
      (case i20 => first | k_is | kit_is | rfl | kernel_rfl)
      (case l20 => first | k_is | kit_is | rfl | kernel_rfl)
      (case c20 => first | k_is | kit_is | rfl | kernel_rfl)
      (case k20 => first | k_is | kit_is | rfl | kernel_rfl)
      (case a21 => first | k_is | kit_is | rfl | kernel_rfl)
      (case i21 => first | k_is | kit_is | rfl | kernel_rfl)
      (case l21 => first | k_is | kit_is | rfl | kernel_rfl)
      (case c21 => first | k_is | kit_is | rfl | kernel_rfl)
      (case k21 => first | k_is | kit_is | rfl | kernel_rfl)
      (case a22 => first | k_is | kit_is | rfl | kernel_rfl)
      (case i22 => first | k_is | kit_is | rfl | kernel_rfl)
      (case l22 => first | k_is | kit_is | rfl | kernel_rfl)
      (case c22 => first | k_is | kit_is | rfl | kernel_rfl)
      (case k22 => first | k_is | kit_is | rfl | kernel_rfl)
      (case pg_Shrink => first | k_is | kit_is | rfl | kernel_rfl)
      (case hd_Shrink => first | k_is | kit_is | rfl | kernel_rfl)
      (case po_Shrink => first | k_is | kit_is | rfl | kernel_rfl)
      (case sa_Shrink => first | k_is | kit_is | rfl | kernel_rfl)
      (case mk_Shrink => first | k_is | kit_is | rfl | kernel_rfl)
      (case kc_Shrink => first | k_is | kit_is | rfl | kernel_rfl)
      (case n_Shrink_many => first | k_is | kit_is | rfl | kernel_rfl)
      (case a23 => first | k_is | kit_is | rfl | kernel_rfl)
      (case i23 => first | k_is | kit_is | rfl | kernel_rfl)
      (case l23 => first | k_is | kit_is | rfl | kernel_rfl)
      (case c23 => first | k_is | kit_is | rfl | kernel_rfl)
      (case k23 => first | k_is | kit_is | rfl | kernel_rfl)
      (case a24 => first | k_is | kit_is | rfl | kernel_rfl)
      (case i24 => first | k_is | kit_is | rfl | kernel_rfl)
      (case l24 => first | k_is | kit_is | rfl | kernel_rfl)
      (case c24 => first | k_is | kit_is | rfl | kernel_rfl)
      (case k24 => first | k_is | kit_is | rfl | kernel_rfl)
      (case a25 => first | k_is | kit_is | rfl | kernel_rfl)
      (case i25 => first | k_is | kit_is | rfl | kernel_rfl)
      (case l25 => first | k_is | kit_is | rfl | kernel_rfl)
      (case c25 => first | k_is | kit_is | rfl | kernel_rfl)
      (case k25 => first | k_is | kit_is | rfl | kernel_rfl)
      (case pg_Put => first | k_is | kit_is | rfl | kernel_rfl)
      (case hd_Put => first | k_is | kit_is | rfl | kernel_rfl)
      (case po_Put => first | k_is | kit_is | rfl | kernel_rfl)
      (case sa_Put => first | k_is | kit_is | rfl | kernel_rfl)
      (case mk_Put => first | k_is | kit_is | rfl | kernel_rfl)
      (case kc_Put => first | k_is | kit_is | rfl | kernel_rfl)
      (case n_Put_box => first | k_is | kit_is | rfl | kernel_rfl)
      (case n_Put_cell => first | k_is | kit_is | rfl | kernel_rfl)
      (case a26 => first | k_is | kit_is | rfl | kernel_rfl)
      (case i26 => first | k_is | kit_is | rfl | kernel_rfl)
      (case l26 => first | k_is | kit_is | rfl | kernel_rfl)
      (case c26 => first | k_is | kit_is | rfl | kernel_rfl)
      (case k26 => first | k_is | kit_is | rfl | kernel_rfl)
      (case a27 => first | k_is | kit_is | rfl | kernel_rfl)
      (case i27 => first | k_is | kit_is | rfl | kernel_rfl)
      (case l27 => first | k_is | kit_is | rfl | kernel_rfl)
      (case c27 => first | k_is | kit_is | rfl | kernel_rfl)
      (case k27 => first | k_is | kit_is | rfl | kernel_rfl)
      (case a28 => first | k_is | kit_is | rfl | kernel_rfl)
      (case i28 => first | k_is | kit_is | rfl | kernel_rfl)
      (case l28 => first | k_is | kit_is | rfl | kernel_rfl)
      (case c28 => first | k_is | kit_is | rfl | kernel_rfl)
      (case k28 => first | k_is | kit_is | rfl | kernel_rfl)
      (case pg_Get => first | k_is | kit_is | rfl | kernel_rfl)
      (case hd_Get => first | k_is | kit_is | rfl | kernel_rfl)
      (case po_Get => first | k_is | kit_is | rfl | kernel_rfl)
      (case sa_Get => first | k_is | kit_is | rfl | kernel_rfl)
      (case mk_Get => first | k_is | kit_is | rfl | kernel_rfl)
      (case kc_Get => first | k_is | kit_is | rfl | kernel_rfl)
      (case n_Get_box => first | k_is | kit_is | rfl | kernel_rfl)
      (case n_Get_cell => first | k_is | kit_is | rfl | kernel_rfl)
      (case a29 => first | k_is | kit_is | rfl | kernel_rfl)
      (case i29 => first | k_is | kit_is | rfl | kernel_rfl)
      (case l29 => first | k_is | kit_is | rfl | kernel_rfl)
      (case c29 => first | k_is | kit_is | rfl | kernel_rfl)
      (case k29 => first | k_is | kit_is | rfl | kernel_rfl)
      (case a30 => first | k_is | kit_is | rfl | kernel_rfl)
      (case i30 => first | k_is | kit_is | rfl | kernel_rfl)
      (case l30 => first | k_is | kit_is | rfl | kernel_rfl)
      (case c30 => first | k_is | kit_is | rfl | kernel_rfl)
      (case k30 => first | k_is | kit_is | rfl | kernel_rfl)
      (case a31 => first | k_is | kit_is | rfl | kernel_rfl)
      (case i31 => first | k_is | kit_is | rfl | kernel_rfl)
      (case l31 => first | k_is | kit_is | rfl | kernel_rfl)
      (case c31 => first | k_is | kit_is | rfl | kernel_rfl)
      (case k31 => first | k_is | kit_is | rfl | kernel_rfl)
      (case pg_Back => first | k_is | kit_is | rfl | kernel_rfl)
      (case hd_Back => first | k_is | kit_is | rfl | kernel_rfl)
      (case po_Back => first | k_is | kit_is | rfl | kernel_rfl)
      (case sa_Back => first | k_is | kit_is | rfl | kernel_rfl)
      (case mk_Back => first | k_is | kit_is | rfl | kernel_rfl)
      (case kc_Back => first | k_is | kit_is | rfl | kernel_rfl)
      (case n_Back_box => first | k_is | kit_is | rfl | kernel_rfl)
      (case a32 => first | k_is | kit_is | rfl | kernel_rfl)
      (case i32 => first | k_is | kit_is | rfl | kernel_rfl)
      (case l32 => first | k_is | kit_is | rfl | kernel_rfl)
      (case c32 => first | k_is | kit_is | rfl | kernel_rfl)
      (case k32 => first | k_is | kit_is | rfl | kernel_rfl)
      (case a33 => first | k_is | kit_is | rfl | kernel_rfl)
      (case i33 => first | k_is | kit_is | rfl | kernel_rfl)
      (case l33 => first | k_is | kit_is | rfl | kernel_rfl)
      (case c33 => first | k_is | kit_is | rfl | kernel_rfl)
      (case k33 => first | k_is | kit_is | rfl | kernel_rfl)
      (case a34 => first | k_is | kit_is | rfl | kernel_rfl)
      (case i34 => first | k_is | kit_is | rfl | kernel_rfl)
      (case l34 => first | k_is | kit_is | rfl | kernel_rfl)
      (case c34 => first | k_is | kit_is | rfl | kernel_rfl)
      (case k34 => first | k_is | kit_is | rfl | kernel_rfl)
      (case pg_Drop => first | k_is | kit_is | rfl | kernel_rfl)
      (case hd_Drop => first | k_is | kit_is | rfl | kernel_rfl)
      (case po_Drop => first | k_is | kit_is | rfl | kernel_rfl)
      (case sa_Drop => first | k_is | kit_is | rfl | kernel_rfl)
      (case mk_Drop => first | k_is | kit_is | rfl | kernel_rfl)
      (case kc_Drop => first | k_is | kit_is | rfl | kernel_rfl)
      (case n_Drop_box => first | k_is | kit_is | rfl | kernel_rfl)
      (case a35 => first | k_is | kit_is | rfl | kernel_rfl)
      (case i35 => first | k_is | kit_is | rfl | kernel_rfl)
      (case l35 => first | k_is | kit_is | rfl | kernel_rfl)
      (case c35 => first | k_is | kit_is | rfl | kernel_rfl)
      (case k35 => first | k_is | kit_is | rfl | kernel_rfl)
      (case a36 => first | k_is | kit_is | rfl | kernel_rfl)
      (case i36 => first | k_is | kit_is | rfl | kernel_rfl)
      (case l36 => first | k_is | kit_is | rfl | kernel_rfl)
      (case c36 => first | k_is | kit_is | rfl | kernel_rfl)
      (case k36 => first | k_is | kit_is | rfl | kernel_rfl)
      (case a37 => first | k_is | kit_is | rfl | kernel_rfl)
      (case i37 => first | k_is | kit_is | rfl | kernel_rfl)
      (case l37 => first | k_is | kit_is | rfl | kernel_rfl)
      (case c37 => first | k_is | kit_is | rfl | kernel_rfl)
      (case k37 => first | k_is | kit_is | rfl | kernel_rfl)
      (case ha_Table => first | k_is | kit_is | rfl | kernel_rfl)
      (case hm_Table => first | k_is | kit_is | rfl | kernel_rfl)
      (case is_Table_Table => first | k_is | kit_is | rfl | kernel_rfl)
      (case ob1 => first | k_is | kit_is | rfl | kernel_rfl)
      (case ob2 => first | k_is | kit_is | rfl | kernel_rfl)
      (case xe_FrameError => first | k_is | kit_is | rfl | kernel_rfl)
      (case xa_FrameError => first | k_is | kit_is | rfl | kernel_rfl)
      (case xb_FrameError => first | k_is | kit_is | rfl | kernel_rfl)
      (case xc_FrameError => first | k_is | kit_is | rfl | kernel_rfl)
      (case xd_FrameError => first | k_is | kit_is | rfl | kernel_rfl)
      (case xf_FrameError => first | k_is | kit_is | rfl | kernel_rfl)
      (case xg_FrameError => first | k_is | kit_is | rfl | kernel_rfl)
      (case xh_FrameError => first | k_is | kit_is | rfl | kernel_rfl)
      (case xi_FrameError => first | k_is | kit_is | rfl | kernel_rfl)
      (case xe_NoTable => first | k_is | kit_is | rfl | kernel_rfl)
      (case xa_NoTable => first | k_is | kit_is | rfl | kernel_rfl)
      (case xb_NoTable => first | k_is | kit_is | rfl | kernel_rfl)
      (case xc_NoTable => first | k_is | kit_is | rfl | kernel_rfl)
      (case xd_NoTable => first | k_is | kit_is | rfl | kernel_rfl)
      (case xf_NoTable => first | k_is | kit_is | rfl | kernel_rfl)
      (case xg_NoTable => first | k_is | kit_is | rfl | kernel_rfl)
      (case xh_NoTable => first | k_is | kit_is | rfl | kernel_rfl)
      (case xi_NoTable => first | k_is | kit_is | rfl | kernel_rfl)
      (case up_NoTable_FrameError => first | k_is | kit_is | rfl | kernel_rfl)
      (case is_NoTable_NoTable => first | k_is | kit_is | rfl | kernel_rfl)
      (case is_NoTable_NoRow => first | k_is | kit_is | rfl | kernel_rfl)
      (case k_list_list => first | k_is | kit_is | rfl | kernel_rfl)
      (case k_tuple_tuple => first | k_is | kit_is | rfl | kernel_rfl)
      (case a38 => first | k_is | kit_is | rfl | kernel_rfl)
      (case l38 => first | k_is | kit_is | rfl | kernel_rfl)
      (case c38 => first | k_is | kit_is | rfl | kernel_rfl)
      (case k38 => first | k_is | kit_is | rfl | kernel_rfl)
      (case a39 => first | k_is | kit_is | rfl | kernel_rfl)
      (case l39 => first | k_is | kit_is | rfl | kernel_rfl)
      (case c39 => first | k_is | kit_is | rfl | kernel_rfl)
      (case k39 => first | k_is | kit_is | rfl | kernel_rfl)
      (case a40 => first | k_is | kit_is | rfl | kernel_rfl)
      (case l40 => first | k_is | kit_is | rfl | kernel_rfl)
      (case c40 => first | k_is | kit_is | rfl | kernel_rfl)
      (case k40 => first | k_is | kit_is | rfl | kernel_rfl)
      (case a41 => first | k_is | kit_is | rfl | kernel_rfl)
      (case l41 => first | k_is | kit_is | rfl | kernel_rfl)
      (case c41 => first | k_is | kit_is | rfl | kernel_rfl)
      (case k41 => first | k_is | kit_is | rfl | kernel_rfl)
      (case a42 => first | k_is | kit_is | rfl | kernel_rfl)
      (case l42 => first | k_is | kit_is | rfl | kernel_rfl)
      (case c42 => first | k_is | kit_is | rfl | kernel_rfl)
      (case k42 => first | k_is | kit_is | rfl | kernel_rfl)
      (case a43 => first | k_is | kit_is | rfl | kernel_rfl)
      (case l43 => first | k_is | kit_is | rfl | kernel_rfl)
      (case c43 => first | k_is | kit_is | rfl | kernel_rfl)
      (case k43 => first | k_is | kit_is | rfl | kernel_rfl)
      (case a44 => first | k_is | kit_is | rfl | kernel_rfl)
      (case l44 => first | k_is | kit_is | rfl | kernel_rfl)
      (case c44 => first | k_is | kit_is | rfl | kernel_rfl)
      (case k44 => first | k_is | kit_is | rfl | kernel_rfl)
      (case a45 => first | k_is | kit_is | rfl | kernel_rfl)
      (case l45 => first | k_is | kit_is | rfl | kernel_rfl)
      (case c45 => first | k_is | kit_is | rfl | kernel_rfl)
      (case k45 => first | k_is | kit_is | rfl | kernel_rfl)
      (case a46 => first | k_is | kit_is | rfl | kernel_rfl)
      (case l46 => first | k_is | kit_is | rfl | kernel_rfl)
      (case c46 => first | k_is | kit_is | rfl | kernel_rfl)
      (case k46 => first | k_is | kit_is | rfl | kernel_rfl)
      (case a47 => first | k_is | kit_is | rfl | kernel_rfl)
      (case l47 => first | k_is | kit_is | rfl | kernel_rfl)
      (case c47 => first | k_is | kit_is | rfl | kernel_rfl)
      (case k47 => first | k_is | kit_is | rfl | kernel_rfl)
      (case a48 => first | k_is | kit_is | rfl | kernel_rfl)
      (case l48 => first | k_is | kit_is | rfl | kernel_rfl)
      (case c48 => first | k_is | kit_is | rfl | kernel_rfl)
      (case k48 => first | k_is | kit_is | rfl | kernel_rfl)
      (case a49 => first | k_is | kit_is | rfl | kernel_rfl)
      (case l49 => first | k_is | kit_is | rfl | kernel_rfl)
      (case c49 => first | k_is | kit_is | rfl | kernel_rfl)
      (case k49 => first | k_is | kit_is | rfl | kernel_rfl)
      (case a50 => first | k_is | kit_is | rfl | kernel_rfl)
      (case l50 => first | k_is | kit_is | rfl | kernel_rfl)
      (case c50 => first | k_is | kit_is | rfl | kernel_rfl)
      (case k50 => first | k_is | kit_is | rfl | kernel_rfl)
      (case a51 => first | k_is | kit_is | rfl | kernel_rfl)
      (case l51 => first | k_is | kit_is | rfl | kernel_rfl)
      (case c51 => first | k_is | kit_is | rfl | kernel_rfl)
      (case k51 => first | k_is | kit_is | rfl | kernel_rfl)
    obtain ⟨a, fd, T, FF, B⟩ := T
    exact ⟨fd, B, fun base _ _ => FB.law_fn T FF⟩
