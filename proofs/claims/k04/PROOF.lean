import PyProof.Rows.All
import Wide.All
import OpenK.AllK
import Wide.FinOn
import Lean
import PyProof.EqAt
import PyProof.EqKinds
import PyProof.TupleCall
import PySem.Challenge.RW_frameback_k04_heights
set_option Elab.async false
set_option linter.all false
set_option maxRecDepth 100000

namespace L2
open PySem PySem.Spec PyProof.Rows


abbrev Key := Sum Int Str
def keyIs : Key → Value → Bool
  | .inl k, v => Value.isInt k v
  | .inr x, v => Value.isStrOf x v
def keyH (w : World) : Key → Int
  | .inl k => hashInt k
  | .inr x => hashStr w x
theorem keyIs_shape : ∀ {k : Key} {v : Value}, keyIs k v = true → (∃ i t, k = Sum.inl i ∧ v = Value.int i t) ∨ (∃ x t, k = Sum.inr x ∧ v = Value.str x t)
  | .inl i, v, h => by
    obtain ⟨t, e⟩ := Value.isInt_shape (k := i) (v := v) h
    exact .inl ⟨i, t, rfl, e⟩
  | .inr x, v, h => by
    obtain ⟨t, e⟩ := Value.isStrOf_shape (x := x) (v := v) h
    exact .inr ⟨x, t, rfl, e⟩
theorem key_ll (a b : Int) : decide ((Sum.inl a : Key) = Sum.inl b) = (a == b) := by
  by_cases e : a = b
  · subst e; simp
  · have h : ¬ (Sum.inl a : Key) = Sum.inl b := fun q => e (Sum.inl.inj q)
    rw [decide_eq_false h]
    exact (beq_eq_false_iff_ne.mpr e).symm
theorem key_rr (a b : Str) : decide ((Sum.inr a : Key) = Sum.inr b) = decide (a = b) := by
  by_cases e : a = b
  · subst e; simp
  · have h : ¬ (Sum.inr a : Key) = Sum.inr b := fun q => e (Sum.inr.inj q)
    rw [decide_eq_false h, decide_eq_false e]
theorem key_lr (a : Int) (b : Str) : decide ((Sum.inl a : Key) = Sum.inr b) = false := decide_eq_false (fun q => nomatch q)
theorem key_rl (a : Str) (b : Int) : decide ((Sum.inr a : Key) = Sum.inl b) = false := decide_eq_false (fun q => nomatch q)

def mixKind (prog : Program) (w : World) : PySem.KeyKind prog w Key where
  is := keyIs
  hash := keyH w
  inj := fun v a b ha hb => by
    rcases keyIs_shape ha with ⟨i, t, rfl, rfl⟩ | ⟨x, t, rfl, rfl⟩
    · rcases keyIs_shape hb with ⟨j, u, rfl, e⟩ | ⟨y, u, rfl, e⟩
      · injection e with e1 _; rw [e1]
      · exact nomatch e
    · rcases keyIs_shape hb with ⟨j, u, rfl, e⟩ | ⟨y, u, rfl, e⟩
      · exact nomatch e
      · injection e with e1 _; rw [e1]
  byValue := fun k v h => by
    rcases keyIs_shape h with ⟨i, t, rfl, rfl⟩ | ⟨x, t, rfl, rfl⟩ <;> rfl
  pyHash := fun hv h => by
    rcases keyIs_shape hv with ⟨i, t, rfl, rfl⟩ | ⟨x, t, rfl, rfl⟩
    · exact wpAny_pyHash_int h
    · exact wpAny_pyHash_str h
  eqBool := fun hu hv h => by
    rcases keyIs_shape hu with ⟨i, t, rfl, rfl⟩ | ⟨x, t, rfl, rfl⟩
    · rcases keyIs_shape hv with ⟨j, u, rfl, rfl⟩ | ⟨y, u, rfl, rfl⟩
      · rw [key_ll] at h; exact wpAny_eqBool_int h
      · rw [key_lr] at h; exact SeqAt.EqAt.int_str i t y u _ _ _ _ h
    · rcases keyIs_shape hv with ⟨j, u, rfl, rfl⟩ | ⟨y, u, rfl, rfl⟩
      · rw [key_rl] at h; exact SeqAt.EqAt.str_int x t j u _ _ _ _ h
      · rw [key_rr] at h; exact wpAny_eqBool_str h
  «strs» := fun k x t v h => by
    rcases keyIs_shape h with ⟨i, u, rfl, e⟩ | ⟨y, u, rfl, e⟩
    · exact nomatch e
    · injection e with e1 _
      subst e1
      cases v <;> rfl

end L2

namespace L2
open PySem PySem.Spec PyProof.Rows


inductive V where
  | non | bl (b : Bool) | int (i : Int) | str (x : Str) | byt (b : Array UInt8) | flt (b : UInt64) | ref (a : Addr) | ty (n : String)
  deriving DecidableEq

def RelV : V → Value → Prop
  | .non, u => u = Value.none
  | .bl b, u => u = Value.bool b
  | .int i, u => ∃ t, u = Value.int i t
  | .str x, u => ∃ t, u = Value.str x t
  | .byt b, u => ∃ t, u = Value.bytes b t
  | .flt b, u => ∃ t, u = Value.float b t
  | .ref a, u => u = Value.ref a
  | .ty n, u => u = Value.type n

abbrev Vals : List V → List Value → Prop := Paired RelV
theorem Vals.length {xs : List V} {us : List Value} (r : Vals xs us) : xs.length = us.length := Paired.length r
theorem Vals.get : ∀ {xs : List V} {us : List Value} {i : Nat} {x : V}, Vals xs us → xs[i]? = some x → ∃ u, us[i]? = some u ∧ RelV x u
  | _, _, _, _, .nil, e => by simp at e
  | _, _, 0, _, .cons r _, e => by simp at e; subst e; exact ⟨_, rfl, r⟩
  | _, _, i + 1, x, .cons _ t, e => by
    obtain ⟨u, h1, h2⟩ := Vals.get (i := i) (x := x) t (by simpa using e)
    exact ⟨u, by simpa using h1, h2⟩
theorem Vals.set {x : V} {u : Value} (r : RelV x u) : ∀ {xs : List V} {us : List Value} (i : Nat), Vals xs us → Vals (xs.set i x) (us.set i u)
  | _, _, _, .nil => .nil
  | _, _, 0, .cons _ t => .cons r t
  | _, _, i + 1, .cons q t => .cons q (Vals.set r i t)
theorem Vals.append : ∀ {xs ys : List V} {us ws : List Value}, Vals xs us → Vals ys ws → Vals (xs ++ ys) (us ++ ws)
  | _, _, _, _, .nil, s => s
  | _, _, _, _, .cons r t, s => .cons r (Vals.append t s)
theorem Vals.take : ∀ {xs : List V} {us : List Value} (n : Nat), Vals xs us → Vals (xs.take n) (us.take n)
  | _, _, 0, _ => .nil
  | _, _, _ + 1, .nil => .nil
  | _, _, n + 1, .cons r t => .cons r (Vals.take n t)
theorem Vals.drop : ∀ {xs : List V} {us : List Value} (n : Nat), Vals xs us → Vals (xs.drop n) (us.drop n)
  | _, _, 0, r => r
  | _, _, _ + 1, .nil => .nil
  | _, _, n + 1, .cons _ t => Vals.drop n t
def RelO : Option V → Option Value → Prop
  | some v, some u => RelV v u
  | none, none => True
  | _, _ => False
def KV {κ : Type} : List (κ × V) → List (κ × Value) → Prop := Paired fun (p : κ × V) (q : κ × Value) => p.1 = q.1 ∧ RelV p.2 q.2


def kV : Key → V
  | .inl i => .int i
  | .inr x => .str x


inductive HO where
  
  | lst (xs : List V)
  
  | tup (xs : List V)
  
  | dK (kvs : List (Key × V)) | dT (kvs : List (List Key × V))
  
  | set (S : Int → Bool) (n : Nat)
  
  | ins (C dx : Addr) (fs : List (Str × V))
  
  | own (x : Addr)
  
  | xd (fs : List (Str × V))
  
  | met (f x : Addr)
  
  | rng (lo hi : Int)
  
  | frz (o : Obj) (u : HO)
  
  | tbl (ps : Array Value)
  
  | ext (φ : Heap → Prop)

abbrev Hp := Addr → Option HO
def upd (H : Hp) (a : Addr) (o : HO) : Hp := fun b => if b = a then some o else H b
theorem upd_same {H : Hp} {a : Addr} {o : HO} : upd H a o a = some o := by unfold upd; rw [if_pos rfl]
theorem upd_ne {H : Hp} {a b : Addr} {o : HO} (h : b ≠ a) : upd H a o b = H b := by unfold upd; rw [if_neg h]
theorem upd_upd {H : Hp} {a : Addr} {o u : HO} : upd (upd H a o) a u = upd H a u := by
  funext b; unfold upd; split <;> rfl

theorem ne_of_none {H : Hp} {a b : Addr} {o : HO} (h : H a = some o) (h' : H b = none) : a ≠ b := by
  intro e; subst e; rw [h] at h'; cases h'

section
variable (P : Program) (w : World)
def ObjOk (H : Hp) (h : Heap) (a : Addr) : HO → Prop
  | .lst xs => xs.length ≤ sizeLine ∧ ∃ (its : List Value) (n : Nat), Vals xs its ∧ h.get? a = some { cls := .type "list", data := .seq its.toArray n }
  | .tup xs => xs.length ≤ sizeLine ∧ ∃ its : List Value, Vals xs its ∧ IsTup h a its.toArray
  | .dK kvs => kvs.length ≤ sizeLine ∧ (a == sysModules) = false ∧ ∃ vs, KV kvs vs ∧ h.DictOf (mixKind P w) a vs
  | .dT kvs => kvs.length ≤ sizeLine ∧ (a == sysModules) = false ∧ ∃ xs : List (List Key × Addr × Value),
      Paired (fun (p : List Key × V) (q : List Key × Addr × Value) => p.1 = q.1 ∧ H q.2.1 = some (.tup (p.1.map kV)) ∧ RelV p.2 q.2.2) kvs xs ∧
      ∃ o es ep, h.get? a = some o ∧ o.ExactDict ∧ o.data = .dict es ep ∧ es.toList = xs.map (entryOfKey (tupleKind (mixKind P w))) ∧ (xs.map (·.1)).Nodup
  | .set S n => h.SetOf (intKind P w) a S n
  | .ins C dx fs => H dx = some (.own a) ∧ fs.length ≤ 1000 ∧ dx ≠ a ∧ h.get? a = some (PySem.W.instObj C dx) ∧
      ∃ mA, h.Ns1 dx mA ∧ (∀ f, RelO (fs.lookup f) (mA f)) ∧ PySem.Within mA (fs.map (·.1))
  | .own _ => ∃ o, h.get? a = some o
  | .xd fs => ∃ mA, h.Ns1 a mA ∧ ∀ f, RelO (fs.lookup f) (mA f)
  | .rng lo hi => ∃ t u v, h.get? a = some { cls := .type "range", data := .fields #[.int lo t, .int hi u, .int 1 v] }
  | .frz o u => h.get? a = some o ∧ ObjOk H h a u
  | .tbl ps => h.get? a = some { cls := .none, data := .fields ps }
  | .met f x => h.get? a = some (PySem.W.methodObj (.ref f) (.ref x))
  | .ext φ => φ h ∧ (∃ o, h.get? a = some o) ∧ ∀ h1 h2 : Heap, φ h1 → (∀ o, h1.get? a = some o → h2.get? a = some o) → φ h2

def HOk (H : Hp) (h : Heap) : Prop := ∀ a o, H a = some o → ObjOk P w H h a o
end

section
variable {P : Program} {w : World} {H H' : Hp} {h h' : Heap} {a : Addr} {o : HO}
theorem ObjOk.lt (x : ObjOk P w H h a o) : a < h.objs.size := by
  cases o with
  | lst xs => obtain ⟨_, _, _, _, e⟩ := x; exact Heap.lt_size e
  | tup xs => obtain ⟨_, _, _, p⟩ := x; exact p.lt
  | dK kvs => obtain ⟨_, _, _, _, o, _, _, e, _⟩ := x; exact Heap.lt_size e
  | dT kvs => obtain ⟨_, _, _, _, o, _, _, e, _⟩ := x; exact Heap.lt_size e
  | set S n => obtain ⟨o, _, _, _, e, _⟩ := x; exact Heap.lt_size e
  | ins C dx fs => obtain ⟨_, _, _, e, _⟩ := x; exact Heap.lt_size e
  | own y => obtain ⟨_, e⟩ := x; exact Heap.lt_size e
  | xd fs => obtain ⟨_, ⟨_, _, _, e, _⟩, _⟩ := x; exact Heap.lt_size e
  | rng lo hi => obtain ⟨_, _, _, e⟩ := x; exact Heap.lt_size e
  | frz ob u => obtain ⟨e, _⟩ := x; exact Heap.lt_size e
  | tbl ps => exact Heap.lt_size (show h.get? a = some _ from x)
  | met f y => exact Heap.lt_size (show h.get? a = some _ from x)
  | ext φ => obtain ⟨_, ⟨_, e⟩, _⟩ := x; exact Heap.lt_size e
theorem Paired.mapP {α β : Type} {F G : α → β → Prop} : ∀ {l₁ : List α} {l₂ : List β}, Paired F l₁ l₂ → (∀ a b, F a b → G a b) → Paired G l₁ l₂
  | _, _, .nil, _ => .nil
  | _, _, .cons r t, f => .cons (f _ _ r) (Paired.mapP t f)
theorem ObjOk.stay (x : ObjOk P w H h a o) (k : ∀ b u, (b = a ∨ H b = some (.own a)) → h.get? b = some u → h'.get? b = some u)
    (ho : ∀ b, H b = some (.own a) → H' b = some (.own a)) (ht : ∀ b xs, H b = some (.tup xs) → H' b = some (.tup xs)) : ObjOk P w H' h' a o := by
  induction o with
  | lst xs => obtain ⟨z, its, n, r, e⟩ := x; exact ⟨z, its, n, r, k _ _ (.inl rfl) e⟩
  | tup xs => obtain ⟨z, its, r, ob, e, c⟩ := x; exact ⟨z, its, r, ob, k _ _ (.inl rfl) e, c⟩
  | dK kvs => obtain ⟨z, y, vs, r, ob, es, ep, e, c⟩ := x; exact ⟨z, y, vs, r, ob, es, ep, k _ _ (.inl rfl) e, c⟩
  | dT kvs =>
    obtain ⟨z, y, xs, r, ob, es, ep, e, c⟩ := x
    exact ⟨z, y, xs, Paired.mapP r fun p q z => ⟨z.1, ht _ _ z.2.1, z.2.2⟩, ob, es, ep, k _ _ (.inl rfl) e, c⟩
  | set S n => obtain ⟨ob, es, ep, t, e, c⟩ := x; exact ⟨ob, es, ep, t, k _ _ (.inl rfl) e, c⟩
  | ins C dx fs =>
    obtain ⟨d, z, ne, e, mA, ⟨od, es, ep, e2, c⟩, r⟩ := x
    exact ⟨ho _ d, z, ne, k _ _ (.inl rfl) e, mA, ⟨od, es, ep, k _ _ (.inr d) e2, c⟩, r⟩
  | own y => obtain ⟨ob, e⟩ := x; exact ⟨ob, k _ _ (.inl rfl) e⟩
  | xd fs => obtain ⟨mA, ⟨od, es, ep, e, c⟩, r⟩ := x; exact ⟨mA, ⟨od, es, ep, k _ _ (.inl rfl) e, c⟩, r⟩
  | rng lo hi => obtain ⟨t, u, v, e⟩ := x; exact ⟨t, u, v, k _ _ (.inl rfl) e⟩
  | frz ob u ih => obtain ⟨e, q⟩ := x; exact ⟨k _ _ (.inl rfl) e, ih q⟩
  | tbl ps =>
    have e : h.get? a = some { cls := .none, data := .fields ps } := x
    show h'.get? a = some { cls := .none, data := .fields ps }
    exact k a _ (.inl rfl) e
  | met f y =>
    have e : h.get? a = some (PySem.W.methodObj (.ref f) (.ref y)) := x
    show h'.get? a = some (PySem.W.methodObj (.ref f) (.ref y))
    exact k a _ (.inl rfl) e
  | ext φ => obtain ⟨p, ⟨o, e⟩, st⟩ := x; exact ⟨st _ _ p fun o q => k _ _ (.inl rfl) q, ⟨o, k _ _ (.inl rfl) e⟩, st⟩
theorem HOk.lt (x : HOk P w H h) (e : H a = some o) : a < h.objs.size := (x a o e).lt
theorem HOk.fresh (x : HOk P w H h) (e : h.objs.size ≤ a) : H a = none := by
  cases q : H a with
  | none => rfl
  | some u => exact absurd (Nat.lt_of_lt_of_le (x.lt q) e) (Nat.lt_irrefl _)

theorem HOk.kept (x : HOk P w H h) (k : ∀ b u, h.get? b = some u → h'.get? b = some u) : HOk P w H h' := fun a o e =>
  (x a o e).stay (fun b u _ q => k b u q) (fun _ q => q) fun _ _ q => q

theorem HOk.laid (x : HOk P w H h) (k : ∀ b u, h.get? b = some u → h'.get? b = some u) (hp : h.objs.size ≤ a) (new : ObjOk P w (upd H a o) h' a o) : HOk P w (upd H a o) h' := fun b u e => by
  have hn := x.fresh hp
  by_cases hb : b = a
  · subst hb; rw [upd_same] at e; cases e; exact new
  · rw [upd_ne hb] at e
    exact (x b u e).stay (fun c v _ q => k c v q) (fun c q => by rw [upd_ne (ne_of_none q hn)]; exact q) fun c xs q => by rw [upd_ne (ne_of_none q hn)]; exact q
end


def Rd (H : Hp) (a : Addr) (u : HO) : Prop := H a = some u ∨ ∃ o, H a = some (.frz o u)
theorem Rd.ok {P : Program} {w : World} {H : Hp} {h : Heap} {a : Addr} {u : HO} (r : Rd H a u) (x : HOk P w H h) : ObjOk P w H h a u := by
  rcases r with r | ⟨o, r⟩
  · exact x a u r
  · obtain ⟨_, q⟩ := x a _ r
    exact q

def Mut : Option HO → Prop
  | some (.lst _) => True
  | some (.dK _) => True
  | some (.dT _) => True
  | some (.set _ _) => True
  | some (.ins _ _ _) => True
  | some (.ext _) => True
  | _ => False
section
variable {P : Program} {w : World} {H : Hp} {h h' : Heap} {x e : Addr} {o' : HO}

theorem HOk.write (ok : HOk P w H h) (mu : Mut (H x)) (he : e = x ∨ H e = some (.own x)) (k : ∀ b u, b ≠ e → h.get? b = some u → h'.get? b = some u) (heo : ∃ u, h'.get? e = some u)
    (new : ObjOk P w (upd H x o') h' x o') : HOk P w (upd H x o') h' := fun b u q => by
  have nown : ∀ c y, H c = some (.own y) → c ≠ x := fun c y r z => by subst z; rw [r] at mu; exact mu
  have ntup : ∀ c xs, H c = some (.tup xs) → c ≠ x := fun c xs r z => by subst z; rw [r] at mu; exact mu
  by_cases hb : b = x
  · subst hb; rw [upd_same] at q; cases q; exact new
  · rw [upd_ne hb] at q
    by_cases hbe : b = e
    · have q' : H b = some (.own x) := by
        rcases he with z | z
        · exact absurd (hbe.trans z) hb
        · rw [hbe]; exact z
      rw [q] at q'; cases q'
      obtain ⟨v, hv⟩ := heo
      exact ⟨v, by rw [hbe]; exact hv⟩
    · refine (ok b u q).stay (fun c v hc r => k c v ?_ r) (fun c r => by rw [upd_ne (nown c b r)]; exact r) fun c xs r => by rw [upd_ne (ntup c xs r)]; exact r
      rcases hc with rfl | hc
      · exact hbe
      · rintro rfl
        rcases he with z | z
        · exact nown c b hc z
        · rw [hc] at z; cases z; exact hb rfl
end


structure Un (fs ex : List Addr) (H H' : Hp) (h h' : Heap) : Prop where
  keep : ∀ b o, h.get? b = some o → H b = none → b ∉ fs → b ∉ ex → h'.get? b = some o
  slot : ∀ b o, h.get? b = some o → H b = none → b ∈ fs → b ∉ ex → ∃ sl, h'.get? b = some { o with slots := sl }
  free : ∀ b o, h.get? b = some o → H b = none → b ∉ ex → H' b = none
  there : ∀ b o, h.get? b = some o → b ∉ ex → ∃ o', h'.get? b = some o'
  tups : ∀ b xs, H b = some (.tup xs) → H' b = some (.tup xs)
  frzs : ∀ b o u, H b = some (.frz o u) → H' b = some (.frz o u)
  tbls : ∀ b ps, H b = some (.tbl ps) → ∃ more, H' b = some (.tbl (ps ++ more))
section
variable {fs fs' ex ex' : List Addr} {H H1 H2 : Hp} {h h1 h2 h' : Heap} {a x e : Addr} {o : HO}
theorem Un.any (u : Un fs ex H H1 h h1) {b : Addr} {ob : Obj} (q : h.get? b = some ob) (n : H b = none) (hx : b ∉ ex) : ∃ sl, h1.get? b = some { ob with slots := sl } := by
  by_cases hb : b ∈ fs
  · exact u.slot b ob q n hb hx
  · exact ⟨ob.slots, u.keep b ob q n hb hx⟩
theorem Un.kept (k : ∀ b u, h.get? b = some u → h'.get? b = some u) : Un fs ex H H h h' :=
  ⟨fun b ob q _ _ _ => k b ob q, fun b ob q _ _ _ => ⟨ob.slots, k b ob q⟩, fun _ _ _ n _ => n, fun b ob q _ => ⟨ob, k b ob q⟩, fun _ _ q => q, fun _ _ _ q => q, fun _ ps q => ⟨#[], by rw [q]; simp⟩⟩
theorem Un.refl : Un fs ex H H h h := Un.kept fun _ _ q => q
theorem Un.laid (k : ∀ b u, h.get? b = some u → h'.get? b = some u) (hp : h.objs.size ≤ a) (hn : H a = none) : Un fs ex H (upd H a o) h h' where
  keep := fun b u q _ _ _ => k b u q
  slot := fun b u q _ _ _ => ⟨u.slots, k b u q⟩
  free := fun b u q n _ => by rw [upd_ne (Nat.ne_of_lt (Nat.lt_of_lt_of_le (Heap.lt_size q) hp))]; exact n
  there := fun b u q _ => ⟨u, k b u q⟩
  tups := fun b xs q => by rw [upd_ne (ne_of_none q hn)]; exact q
  frzs := fun b u xs q => by rw [upd_ne (ne_of_none q hn)]; exact q
  tbls := fun b ps q => ⟨#[], by rw [upd_ne (ne_of_none q hn), q]; simp⟩
theorem Un.write (mu : Mut (H x)) (he : e = x ∨ H e = some (.own x)) (k : ∀ b u, b ≠ e → h.get? b = some u → h'.get? b = some u) (heo : ∃ u, h'.get? e = some u) : Un fs ex H (upd H x o) h h' := by
  have hx : ∀ b, H b = none → b ≠ x := fun b n z => by subst z; rw [n] at mu; exact mu
  have hb : ∀ b, H b = none → b ≠ e := fun b n z => by
    subst z
    rcases he with r | r
    · exact hx b n r
    · rw [n] at r; cases r
  have hm : ∀ b u, H b = some u → ¬ Mut (some u) → b ≠ x := fun b u q nm z => by subst z; rw [q] at mu; exact nm mu
  refine ⟨fun b u q n _ _ => k b u (hb b n) q, fun b u q n _ _ => ⟨u.slots, k b u (hb b n) q⟩, fun b u q n _ => by rw [upd_ne (hx b n)]; exact n, fun b u q _ => ?_,
    fun b xs q => by rw [upd_ne (hm b _ q fun z => z)]; exact q, fun b u xs q => by rw [upd_ne (hm b _ q fun z => z)]; exact q, fun b ps q => ⟨#[], by rw [upd_ne (hm b _ q fun z => z), q]; simp⟩⟩
  by_cases hbe : b = e
  · subst hbe; exact heo
  · exact ⟨u, k b u hbe q⟩
end


def trk (h : Heap) (H : Hp) : List Addr := (List.range h.objs.size).filter fun a => (H a).isSome
def hidT (h : Heap) (H : Hp) : Heap := PySem.W.hideAll h (trk h H)
theorem hidT_size (h : Heap) (H : Hp) : (hidT h H).objs.size = h.objs.size := PySem.W.hideAll_size _ _
theorem hidT_get {h : Heap} {H : Hp} {b : Addr} {o : Obj} (e : h.get? b = some o) (n : H b = none) : (hidT h H).get? b = some o :=
  PySem.W.hideAll_get _ e fun hm => by
    have q : (H b).isSome = true := (List.mem_filter.mp hm).2
    rw [n] at q; simp at q
theorem of_hidT {h : Heap} {H : Hp} {b : Addr} {o : Obj} (e : (hidT h H).get? b = some o) : h.get? b = some o ∧ H b = none := by
  have e' : h.get? b = some o := PySem.W.of_hideAll (trk h H) e
  refine ⟨e', ?_⟩
  cases q : H b with
  | none => rfl
  | some x =>
    have hm : b ∈ trk h H := List.mem_filter.mpr ⟨List.mem_range.mpr (Heap.lt_size e'), by simp [q]⟩
    have z : (hidT h H).get? b = none := PySem.W.hideAll_none (trk h H) hm
    rw [z] at e; cases e


end L2

namespace L2
open PySem PySem.Spec PyProof.Rows


structure Mod (K : PySem.W.Frag) (mg : Str → Option Value) (base : Heap) : Prop where
  kin : K.In base
  glob : base.Ns mainGlobals mg
  blt : ∃ mb, base.Ns builtinsNs mb ∧ ∀ x : Str, x ≠ "__name__" → mb x = bootBuiltins x
  nolimit : base.NoLimit


structure Cx where
  prog : Program
  w : World
  K : PySem.W.Frag
  mg : Str → Option Value
  base : Heap
  A : Around
  N : List Str
  s₀ : Shared
  H₀ : Hp
  env : Env
  outer : List Env
  stack : List Env
  ex : List Addr
  fn : Str → Bool
  calm : Bool
  pn : List (Addr × Obj)
  xe : Value → Shared → Prop

def frs (l : List Env) : List Addr := l.filterMap (·.frame)
abbrev Cx.fs (X : Cx) : List Addr := frs X.outer

def Vis (sc : Scope) (x : Str) : Prop := sc.names.lookup x = some .local ∨ sc.names.lookup x = some .cell ∨ sc.names.lookup x = some .free
def Loc (sc : Scope) (x : Str) : Prop := sc.names.lookup x = some .local ∨ sc.names.lookup x = some .cell
def Look (env : Env) (h : Heap) (m : Str → Option Value) (x : Str) (u : Value) : Prop :=
  (env.kindOf x = some .local ∧ m x = some u) ∨ ((env.kindOf x = some .cell ∨ env.kindOf x = some .free) ∧ ∃ c, env.cells.lookup x = some c ∧ h.IsCell c (some u))

structure Cx.Ok (X : Cx) : Prop where
  mod : Mod X.K X.mg X.base
  kind : X.env.scope.kind = .function
  glob : X.env.globals = mainGlobals
  blt : X.env.builtins = builtinsNs
  above : X.s₀.heap.objs.size ≤ X.env.locals
  inj : ∀ x y c, X.env.cells.lookup x = some c → X.env.cells.lookup y = some c → x = y
  has : ∀ x, (X.env.kindOf x = some .cell ∨ X.env.kindOf x = some .free) → ∃ c, X.env.cells.lookup x = some c
  cab : ∀ x c, X.fn x = true → X.env.cells.lookup x = some c → X.s₀.heap.objs.size ≤ c
  hd : X.calm = true → X.A.handled = none
  frames : X.A.frames = some X.stack
  stk : X.stack = X.outer ∨ (X.stack = X.env :: X.outer ∧ X.env.frame = some X.env.locals)
  exf : ∀ b ∈ X.ex, b ≠ X.env.locals ∧ ∀ x c, X.env.cells.lookup x = some c → c ≠ b
  bs : ∀ b o, X.base.get? b = some o → X.s₀.heap.get? b = some o ∧ X.H₀ b = none
  bsz : X.base.objs.size ≤ X.s₀.heap.objs.size
  noex : ∀ b o, X.base.get? b = some o → b ∉ X.ex
  exfs : ∀ b ∈ X.ex, b ∉ X.fs
  funs : X.s₀.heap.FunFrames X.base X.outer
  frf : ∀ b ∈ X.fs, X.H₀ b = none

structure Inv (X : Cx) (pins : List (Addr × Obj)) (σ : List (Option V)) (H : Hp) (s : Shared) : Prop where
  ok : X.Ok
  os : s.os = X.s₀.os
  bare : AllBare s.gens
  base : Un X.fs X.ex X.H₀ H X.s₀.heap s.heap
  loc : ∃ m, s.heap.Ns X.env.locals m ∧ ∀ (i : Nat) (x : Str) (v : V), X.N[i]? = some x → σ[i]? = some (some v) → Vis X.env.scope x → ∃ u, RelV v u ∧ Look X.env s.heap m x u
  cell : ∀ x c, X.env.cells.lookup x = some c → ∃ v, s.heap.IsCell c v
  free : H X.env.locals = none
  freeC : ∀ x c, X.env.cells.lookup x = some c → H c = none
  pin : ∀ p ∈ X.pn ++ pins, s.heap.get? p.1 = some p.2 ∧ H p.1 = none ∧ p.1 ≠ X.env.locals ∧ p.1 ∉ X.fs ∧ ∀ v, p.2.data ≠ .cell v
  hok : HOk X.prog X.w H s.heap
  len : σ.length = X.N.length

section
variable {X : Cx} {pins : List (Addr × Obj)} {σ : List (Option V)} {H H' : Hp} {s : Shared} {h' : Heap}

theorem Cx.Ok.nofr (ok : X.Ok) {b : Addr} {o : Obj} (e : X.base.get? b = some o) : b ∉ X.fs := fun hb => by
  have := (ok.funs.mem hb).1
  rw [e] at this; cases this
theorem Inv.bs (I : Inv X pins σ H s) : ∀ b o, X.base.get? b = some o → s.heap.get? b = some o ∧ H b = none := fun b o e =>
  ⟨I.base.keep b o (I.ok.bs b o e).1 (I.ok.bs b o e).2 (I.ok.nofr e) (I.ok.noex b o e), I.base.free b o (I.ok.bs b o e).1 (I.ok.bs b o e).2 (I.ok.noex b o e)⟩
theorem Inv.bk (I : Inv X pins σ H s) : ∀ b o, X.base.get? b = some o → s.heap.get? b = some o := fun b o e => (I.bs b o e).1
theorem Inv.mod (I : Inv X pins σ H s) : Mod X.K X.mg X.base := I.ok.mod
theorem Inv.kIn (I : Inv X pins σ H s) : X.K.In s.heap := I.ok.mod.kin.keeps I.bk
theorem Inv.lt (I : Inv X pins σ H s) : X.env.locals < s.heap.objs.size := let ⟨_, hn, _⟩ := I.loc; hn.lt
theorem Inv.sz (I : Inv X pins σ H s) : X.s₀.heap.objs.size ≤ s.heap.objs.size := Nat.le_trans I.ok.above (Nat.le_of_lt I.lt)
theorem Inv.cne (I : Inv X pins σ H s) : ∀ x c, X.env.cells.lookup x = some c → c ≠ X.env.locals := fun x c e z => by
  obtain ⟨v, o, ho, hd⟩ := I.cell x c e
  obtain ⟨m, ⟨o', es, ep, ho', hd', _⟩, _⟩ := I.loc
  rw [z, ho'] at ho; cases ho; rw [hd'] at hd; cases hd
theorem Inv.funs (I : Inv X pins σ H s) : s.heap.FunFrames X.base X.outer := by
  have all : ∀ (l : List Env), (∀ b ∈ frs l, b ∈ X.fs) → X.s₀.heap.FunFrames X.base l → s.heap.FunFrames X.base l := by
    intro l
    induction l with
    | nil => intro _ _; trivial
    | cons env r ih =>
      intro hs hl
      obtain ⟨hk, ⟨L, o, hf, hn, ho, hd⟩, hr⟩ := hl
      have hL : L ∈ X.fs := hs L (by unfold frs; rw [List.filterMap_cons, hf]; exact List.mem_cons_self)
      obtain ⟨sl, e⟩ := I.base.slot L o ho (I.ok.frf L hL) hL fun z => I.ok.exfs L z hL
      exact ⟨hk, ⟨L, _, hf, hn, e, hd⟩, ih (fun b hb => hs b (by unfold frs; rw [List.filterMap_cons, hf]; exact List.mem_cons_of_mem _ hb)) hr⟩
  exact all X.outer (fun _ hb => hb) I.ok.funs


theorem Inv.stack (I : Inv X pins σ H s) : s.heap.FunFrames X.base X.stack := by
  rcases I.ok.stk with e | ⟨e, hf⟩
  · rw [e]; exact I.funs
  · rw [e]
    obtain ⟨m, hn, _⟩ := I.loc
    refine .cons (by rw [I.ok.kind]; decide) hf hn ?_ I.funs
    exact Heap.get?_none_of_le (Nat.le_trans I.ok.bsz I.ok.above)
theorem Inv.stkSub (I : Inv X pins σ H s) : ∀ b ∈ frs X.stack, b ∈ X.env.locals :: X.fs := fun b hb => by
  rcases I.ok.stk with e | ⟨e, hf⟩
  · rw [e] at hb; exact List.mem_cons_of_mem _ hb
  · rw [e] at hb
    unfold frs at hb
    rw [List.filterMap_cons, hf] at hb
    exact hb
theorem Inv.stkFree (I : Inv X pins σ H s) : ∀ b ∈ frs X.stack, H b = none := fun b hb => by
  rcases List.mem_cons.mp (I.stkSub b hb) with e | hb
  · rw [e]; exact I.free
  · obtain ⟨_, o, ho, _⟩ := I.ok.funs.mem hb
    exact I.base.free b o ho (I.ok.frf b hb) fun z => I.ok.exfs b z hb


theorem Inv.step {g' : Array GenState} {t' : Nat} {d' : Drawn} {ch : List Addr} (I : Inv X pins σ H s)
    (hch : ∀ b ∈ ch, (b ∈ X.ex ∨ X.s₀.heap.objs.size ≤ b) ∧ b ≠ X.env.locals ∧ (∀ x c, X.env.cells.lookup x = some c → c ≠ b) ∧ ∀ p ∈ X.pn ++ pins, p.1 ≠ b)
    (keep : ∀ b o, b ≠ X.env.locals → b ∉ X.fs → b ∉ ch → s.heap.get? b = some o → H b = none → h'.get? b = some o)
    (slot : ∀ b o, b ≠ X.env.locals → b ∈ X.fs → b ∉ ch → s.heap.get? b = some o → H b = none → ∃ sl, h'.get? b = some { o with slots := sl }) (free : ∀ b o, b ∉ ch → s.heap.get? b = some o → H b = none → H' b = none)
    (there : ∀ b o, b ∉ ch → s.heap.get? b = some o → ∃ o', h'.get? b = some o')
    (tups : ∀ b xs, H b = some (.tup xs) → H' b = some (.tup xs)) (frzs : ∀ b o u, H b = some (.frz o u) → H' b = some (.frz o u)) (tbls : ∀ b ps, H b = some (.tbl ps) → ∃ more, H' b = some (.tbl (ps ++ more)))
    (ns : ∀ m, s.heap.Ns X.env.locals m → h'.Ns X.env.locals m) (hok : HOk X.prog X.w H' h') (hg : AllBare g') :
    Inv X pins σ H' { s with heap := h', gens := g', drawn := d', toks := t' } := by
  have neL : ∀ b o, X.s₀.heap.get? b = some o → b ≠ X.env.locals := fun b o e => Nat.ne_of_lt (Nat.lt_of_lt_of_le (Heap.lt_size e) I.ok.above)
  have neC : ∀ b o, X.s₀.heap.get? b = some o → b ∉ X.ex → b ∉ ch := fun b o e hx hb => by
    rcases (hch b hb).1 with z | z
    · exact hx z
    · exact absurd (Nat.lt_of_lt_of_le (Heap.lt_size e) z) (Nat.lt_irrefl _)
  have cellK : ∀ x c, X.env.cells.lookup x = some c → ∀ v, s.heap.IsCell c v → h'.IsCell c v := fun x c e v ⟨o, ho, hd⟩ => by
    have nch : c ∉ ch := fun z => (hch c z).2.2.1 x c e rfl
    by_cases hc : c ∈ X.fs
    · obtain ⟨sl, q⟩ := slot c o (I.cne x c e) hc nch ho (I.freeC x c e)
      exact ⟨_, q, hd⟩
    · exact ⟨o, keep c o (I.cne x c e) hc nch ho (I.freeC x c e), hd⟩
  refine ⟨I.ok, I.os, hg, ⟨fun b o e n hb hx => ?_, fun b o e n hb hx => ?_, fun b o e n hx => ?_, fun b o e hx => ?_, fun b xs e => tups b xs (I.base.tups b xs e), fun b o xs e => frzs b o xs (I.base.frzs b o xs e), fun b ps e => ?_⟩, ?_, fun x c e => ?_, ?_, fun x c e => ?_, fun p hp => ?_, hok, I.len⟩
  · exact keep b o (neL b o e) hb (neC b o e hx) (I.base.keep b o e n hb hx) (I.base.free b o e n hx)
  · obtain ⟨sl, e1⟩ := I.base.slot b o e n hb hx
    obtain ⟨sl', e2⟩ := slot b _ (neL b o e) hb (neC b o e hx) e1 (I.base.free b o e n hx)
    exact ⟨sl', e2⟩
  · obtain ⟨o', e1⟩ := I.base.there b o e hx
    exact free b o' (neC b o e hx) e1 (I.base.free b o e n hx)
  · obtain ⟨o', e1⟩ := I.base.there b o e hx
    exact there b o' (neC b o e hx) e1
  · obtain ⟨m1, e1⟩ := I.base.tbls b ps e
    obtain ⟨m2, e2⟩ := tbls b _ e1
    exact ⟨m1 ++ m2, by rw [e2, Array.append_assoc]⟩
  · obtain ⟨m, hn, hl⟩ := I.loc
    refine ⟨m, ns m hn, fun i x v e1 e2 e3 => ?_⟩
    obtain ⟨u, r, l⟩ := hl i x v e1 e2 e3
    refine ⟨u, r, ?_⟩
    rcases l with l | ⟨k, c, e, z⟩
    · exact .inl l
    · exact .inr ⟨k, c, e, cellK x c e _ z⟩
  · obtain ⟨v, z⟩ := I.cell x c e
    exact ⟨v, cellK x c e v z⟩
  · obtain ⟨m, ⟨o, _, _, ho, _⟩, _⟩ := I.loc
    exact free _ o (fun z => (hch _ z).2.1 rfl) ho I.free
  · obtain ⟨v, o, ho, hd⟩ := I.cell x c e
    exact free c o (fun z => (hch c z).2.2.1 x c e rfl) ho (I.freeC x c e)
  · obtain ⟨e, n, ne, nf, d⟩ := I.pin p hp
    have nch : p.1 ∉ ch := fun z => (hch p.1 z).2.2.2 p hp rfl
    exact ⟨keep p.1 p.2 ne nf nch e n, free p.1 p.2 nch e n, ne, nf, d⟩

theorem Inv.un {t' : Nat} (I : Inv X pins σ H s) (u : Un X.fs [] H H' s.heap h') (hok : HOk X.prog X.w H' h') : Inv X pins σ H' { s with heap := h', toks := t' } := by
  obtain ⟨m, ⟨o, es, ep, ho, r⟩, _⟩ := id I.loc
  obtain ⟨sl, hL⟩ := u.any ho I.free (by simp)
  exact I.step (g' := s.gens) (d' := s.drawn) (ch := []) (fun _ z => nomatch z) (fun b o _ hb _ e n => u.keep b o e n hb (by simp)) (fun b o _ hb _ e n => u.slot b o e n hb (by simp)) (fun b o _ e n => u.free b o e n (by simp)) (fun b o _ e => u.there b o e (by simp)) u.tups u.frzs u.tbls (fun m' hm => by
    obtain ⟨o', es', ep', ho', r'⟩ := hm
    rw [ho] at ho'; cases ho'
    exact ⟨_, es', ep', hL, r'⟩) hok I.bare

theorem Inv.call {g' : Array GenState} {t' : Nat} {d' : Drawn} {ch : List Addr} (I : Inv X pins σ H s) (u : Un (frs X.stack) ch H H' s.heap h') (hok : HOk X.prog X.w H' h') (hg : AllBare g')
    (hch : ∀ b ∈ ch, (b ∈ X.ex ∨ X.s₀.heap.objs.size ≤ b) ∧ b ≠ X.env.locals ∧ (∀ x c, X.env.cells.lookup x = some c → c ≠ b) ∧ ∀ p ∈ X.pn ++ pins, p.1 ≠ b) :
    Inv X pins σ H' { s with heap := h', gens := g', drawn := d', toks := t' } := by
  obtain ⟨m, ⟨o, es, ep, ho, r⟩, _⟩ := id I.loc
  obtain ⟨sl, hL⟩ := u.any ho I.free fun z => (hch _ z).2.1 rfl
  exact I.step (ch := ch) hch (fun b o hL hb hc e n => u.keep b o e n (fun z => (List.mem_cons.mp (I.stkSub b z)).elim hL hb) hc) (fun b o _ _ hc e n => u.any e n hc) (fun b o hc e n => u.free b o e n hc) (fun b o hc e => u.there b o e hc) u.tups u.frzs u.tbls (fun m' hm => by
    obtain ⟨o', es', ep', ho', r'⟩ := hm
    rw [ho] at ho'; cases ho'
    exact ⟨_, es', ep', hL, r'⟩) hok hg

theorem Inv.tok (I : Inv X pins σ H s) (t : Nat) : Inv X pins σ H { s with toks := t } := I.un (h' := s.heap) (t' := t) Un.refl I.hok

theorem Inv.kept {t' : Nat} (I : Inv X pins σ H s) (k : ∀ b u, s.heap.get? b = some u → h'.get? b = some u) : Inv X pins σ H { s with heap := h', toks := t' } := I.un (Un.kept k) (I.hok.kept k)

theorem Inv.laid {a : Addr} {o : HO} {t' : Nat} (I : Inv X pins σ H s) (k : ∀ b u, s.heap.get? b = some u → h'.get? b = some u) (hp : s.heap.objs.size ≤ a) (new : ObjOk X.prog X.w (upd H a o) h' a o) :
    Inv X pins σ (upd H a o) { s with heap := h', toks := t' } := I.un (Un.laid k hp (I.hok.fresh hp)) (I.hok.laid k hp new)

theorem Inv.write {x e : Addr} {o : HO} {t' : Nat} (I : Inv X pins σ H s) (mu : Mut (H x)) (he : e = x ∨ H e = some (.own x)) (k : ∀ b u, b ≠ e → s.heap.get? b = some u → h'.get? b = some u) (heo : ∃ u, h'.get? e = some u)
    (new : ObjOk X.prog X.w (upd H x o) h' x o) : Inv X pins σ (upd H x o) { s with heap := h', toks := t' } := I.un (Un.write mu he k heo) (I.hok.write mu he k heo new)

theorem nodup_ix {N : List Str} (hN : N.Nodup) {i j : Nat} {x : Str} (a : N[i]? = some x) (b : N[j]? = some x) : i = j := by
  obtain ⟨h1, e1⟩ := List.getElem?_eq_some_iff.mp a
  obtain ⟨h2, e2⟩ := List.getElem?_eq_some_iff.mp b
  exact (List.getElem_inj hN).mp (e1.trans e2.symm)


theorem store_ok2 {M : Model} {A : Around} {E : Value → Shared → Prop} {i : Nat} {x : Str} {v : V} {u : Value} {Q : Unit → Shared → Prop} (I : Inv X pins σ H s) (hN : X.N.Nodup) (hi : X.N[i]? = some x) (hx : Loc X.env.scope x) (r : RelV v u)
    (h : ∀ s', Inv X pins (σ.set i (some v)) H s' → (∃ a, Heap.SameBut a s.heap s'.heap ∧ (a = X.env.locals ∨ X.env.cells.lookup x = some a)) → Q () s') (hf : X.fn x = true ∨ X.env.scope.names.lookup x = some .local := by first | exact .inl rfl | exact .inr rfl | assumption) : wpAny M A (storeName X.env x u) Q E s := by
  obtain ⟨m, hn, hl⟩ := id I.loc
  have hcls : (X.env.scope.kind == .class || (X.env.scope.kind == .module && X.env.locals != X.env.globals)) = false := by rw [I.ok.kind]; rfl
  have hiσ : i < σ.length := by rw [I.len]; exact (List.getElem?_eq_some_iff.mp hi).1
  have cne := I.cne
  have tracked : ∀ {a : Addr} {h' : Heap}, (∃ o, s.heap.get? a = some o ∧ H a = none) → Heap.SameBut a s.heap h' → HOk X.prog X.w H h' := fun {a h'} ha hs b ob e => by
    obtain ⟨_, _, hfree⟩ := ha
    refine (I.hok b ob e).stay (fun c w' hc q => (hs.2 c ?_).trans q) (fun _ q => q) fun _ _ q => q
    rintro rfl
    rcases hc with rfl | hc
    · rw [hfree] at e; cases e
    · rw [hfree] at hc; cases hc
  rcases hx with hk | hk
  · refine wpAny_storeName_local hk hn (fun h' hn' hs => ?_) hcls
    obtain ⟨oL, _, _, hoL, _⟩ := id hn
    refine h _ ⟨I.ok, I.os, I.bare, ⟨fun b o e n hb hx => ?_, fun b o e n hb hx => ?_, I.base.free, fun b o e hx => ?_, I.base.tups, I.base.frzs, I.base.tbls⟩, ⟨_, hn', fun j y v' e1 e2 e3 => ?_⟩, fun y c e => ?_, I.free, I.freeC, fun p hp => ?_, tracked ⟨oL, hoL, I.free⟩ hs, by simpa using I.len⟩ ⟨_, hs, .inl rfl⟩
    · exact (hs.2 b (Nat.ne_of_lt (Nat.lt_of_lt_of_le (Heap.lt_size e) I.ok.above))).trans (I.base.keep b o e n hb hx)
    · obtain ⟨sl, e1⟩ := I.base.slot b o e n hb hx
      exact ⟨sl, (hs.2 b (Nat.ne_of_lt (Nat.lt_of_lt_of_le (Heap.lt_size e) I.ok.above))).trans e1⟩
    · obtain ⟨o', e1⟩ := I.base.there b o e hx
      exact ⟨o', (hs.2 b (Nat.ne_of_lt (Nat.lt_of_lt_of_le (Heap.lt_size e) I.ok.above))).trans e1⟩
    · by_cases hj : j = i
      · subst hj
        rw [hi] at e1; cases e1
        rw [List.getElem?_set_self hiσ] at e2
        cases e2
        exact ⟨u, r, .inl ⟨hk, by simp⟩⟩
      · rw [List.getElem?_set_ne (Ne.symm hj)] at e2
        obtain ⟨u', r', q⟩ := hl j y v' e1 e2 e3
        refine ⟨u', r', ?_⟩
        rcases q with ⟨k, e⟩ | ⟨k, c, e, z⟩
        · refine .inl ⟨k, ?_⟩
          have : y ≠ x := fun e => hj (nodup_ix hN e1 (e ▸ hi))
          simp [this, e]
        · exact .inr ⟨k, c, e, z.sameBut hs (cne y c e)⟩
    · obtain ⟨w', z⟩ := I.cell y c e
      exact ⟨w', z.sameBut hs (cne y c e)⟩
    · obtain ⟨e, n, ne, nf, d⟩ := I.pin p hp
      exact ⟨(hs.2 p.1 ne).trans e, n, ne, nf, d⟩
  · have hfn : X.fn x = true := by
      rcases hf with z | z
      · exact z
      · rw [z] at hk; cases hk
    obtain ⟨c, hc⟩ := I.ok.has x (.inl hk)
    obtain ⟨w', z⟩ := I.cell x c hc
    refine wpAny_storeName_cell I.ok.kind hk hc z (fun h' hc' hs => ?_)
    obtain ⟨oc, hoc, hocd⟩ := id z
    refine h { s with heap := h' } ⟨I.ok, I.os, I.bare, ⟨fun b o e n hb hx => ?_, fun b o e n hb hx => ?_, I.base.free, fun b o e hx => ?_, I.base.tups, I.base.frzs, I.base.tbls⟩, ⟨m, hn.sameBut hs (Ne.symm (cne x c hc)), fun j y v' e1 e2 e3 => ?_⟩, fun y c' e => ?_, I.free, I.freeC, fun p hp => ?_, tracked ⟨oc, hoc, I.freeC x c hc⟩ hs, by simpa using I.len⟩ ⟨c, hs, .inr hc⟩
    · exact (hs.2 b (Nat.ne_of_lt (Nat.lt_of_lt_of_le (Heap.lt_size e) (I.ok.cab x c hfn hc)))).trans (I.base.keep b o e n hb hx)
    · obtain ⟨sl, e1⟩ := I.base.slot b o e n hb hx
      exact ⟨sl, (hs.2 b (Nat.ne_of_lt (Nat.lt_of_lt_of_le (Heap.lt_size e) (I.ok.cab x c hfn hc)))).trans e1⟩
    · obtain ⟨o', e1⟩ := I.base.there b o e hx
      exact ⟨o', (hs.2 b (Nat.ne_of_lt (Nat.lt_of_lt_of_le (Heap.lt_size e) (I.ok.cab x c hfn hc)))).trans e1⟩
    · by_cases hj : j = i
      · subst hj
        rw [hi] at e1; cases e1
        rw [List.getElem?_set_self hiσ] at e2
        cases e2
        exact ⟨u, r, .inr ⟨.inl hk, c, hc, hc'⟩⟩
      · rw [List.getElem?_set_ne (Ne.symm hj)] at e2
        obtain ⟨u', r', q⟩ := hl j y v' e1 e2 e3
        refine ⟨u', r', ?_⟩
        rcases q with q | ⟨k, c', e, z'⟩
        · exact .inl q
        · refine .inr ⟨k, c', e, z'.sameBut hs ?_⟩
          rintro rfl
          exact hj (nodup_ix hN e1 (I.ok.inj _ _ _ e hc ▸ hi))
    · by_cases hcc : c' = c
      · subst hcc; exact ⟨_, hc'⟩
      · obtain ⟨w2, z2⟩ := I.cell y c' e
        exact ⟨w2, z2.sameBut hs hcc⟩
    · obtain ⟨e, n, ne, nf, d⟩ := I.pin p hp
      refine ⟨(hs.2 p.1 ?_).trans e, n, ne, nf, d⟩
      intro q
      rw [q, hoc] at e
      have q' : oc = p.2 := Option.some.inj e
      exact d w' (by rw [← q']; exact hocd)
theorem store_ok {M : Model} {A : Around} {E : Value → Shared → Prop} {i : Nat} {x : Str} {v : V} {u : Value} {Q : Unit → Shared → Prop} (I : Inv X pins σ H s) (hN : X.N.Nodup) (hi : X.N[i]? = some x) (hx : Loc X.env.scope x) (r : RelV v u)
    (h : ∀ s', Inv X pins (σ.set i (some v)) H s' → Q () s') (hf : X.fn x = true ∨ X.env.scope.names.lookup x = some .local := by first | exact .inl rfl | exact .inr rfl | assumption) : wpAny M A (storeName X.env x u) Q E s :=
  store_ok2 I hN hi hx r (fun s' I' _ => h s' I') hf

end



abbrev XK := Value → Option Addr → Hp → Prop
abbrev St := List (Option V)
abbrev VK := V → Hp → Prop

abbrev TE := St → Hp → VK → Prop
abbrev TT := St → Hp → (Bool → Hp → Prop) → Prop
abbrev TA := St → Hp → (List V → Hp → Prop) → Prop

structure Ends where
  nx : St → Hp → Prop
  rt : VK
  bk : St → Hp → Prop := fun _ _ => False
  ct : St → Hp → Prop := fun _ _ => False
abbrev TS := Ends → St → Hp → Prop

def EP (X : Cx) (pins : List (Addr × Obj)) (σ : St) (Q : VK) (u : Value) (s' : Shared) : Prop := ∃ v H', Inv X pins σ H' s' ∧ RelV v u ∧ Q v H'
def TP (X : Cx) (pins : List (Addr × Obj)) (σ : St) (Q : Bool → Hp → Prop) (b : Bool) (s' : Shared) : Prop := ∃ H', Inv X pins σ H' s' ∧ Q b H'
def AP (X : Cx) (pins : List (Addr × Obj)) (σ : St) (Q : List V → Hp → Prop) (us : List Value) (s' : Shared) : Prop := ∃ vs H', Inv X pins σ H' s' ∧ Vals vs us ∧ Q vs H'
def SP (X : Cx) (pins : List (Addr × Obj)) (D : Ends) (f : Flow) (s' : Shared) : Prop :=
  match f with
  | .next => ∃ σ' H', Inv X pins σ' H' s' ∧ D.nx σ' H'
  | .brk => ∃ σ' H', Inv X pins σ' H' s' ∧ D.bk σ' H'
  | .cont => ∃ σ' H', Inv X pins σ' H' s' ∧ D.ct σ' H'
  | .ret u => ∃ v σ' H', Inv X pins σ' H' s' ∧ RelV v u ∧ D.rt v H'

def PE (X : Cx) (e : Expr) (t : TE) : Prop :=
  ∀ (pins : List (Addr × Obj)) (s : Shared) (σ : St) (H : Hp) (Q : VK), Inv X pins σ H s → t σ H Q → wpAny (model X.prog X.w) X.A (eval e X.env) (EP X pins σ Q) X.xe s
def PT (X : Cx) (e : Expr) (t : TT) : Prop :=
  ∀ (pins : List (Addr × Obj)) (s : Shared) (σ : St) (H : Hp) (Q : Bool → Hp → Prop), Inv X pins σ H s → t σ H Q → wpAny (model X.prog X.w) X.A (isTrue e X.env (eval e X.env)) (TP X pins σ Q) X.xe s

def PW (X : Cx) (e : Expr) (t : TT) : Prop :=
  ∀ (whole : Sem Value) (pins : List (Addr × Obj)) (s : Shared) (σ : St) (H : Hp) (Q : Bool → Hp → Prop), Inv X pins σ H s → t σ H Q → wpAny (model X.prog X.w) X.A (isTrue e X.env whole) (TP X pins σ Q) X.xe s
theorem PW.pt {X : Cx} {e : Expr} {t : TT} (h : PW X e t) : PT X e t := h _

def PA (X : Cx) (es : List Expr) (t : TA) : Prop :=
  ∀ (pos : Pos) (pins : List (Addr × Obj)) (s : Shared) (σ : St) (H : Hp) (Q : List V → Hp → Prop), Inv X pins σ H s → t σ H Q → wpAny (model X.prog X.w) X.A (spliced (backTo pos (starEach es X.env))) (AP X pins σ Q) X.xe s
def PS (X : Cx) (st : Stmt) (t : TS) : Prop :=
  ∀ (pins : List (Addr × Obj)) (s : Shared) (σ : St) (H : Hp) (D : Ends), Inv X pins σ H s → t D σ H → wpAny (model X.prog X.w) X.A (exec st X.env) (SP X pins D) X.xe s
def PSs (X : Cx) (st : List Stmt) (t : TS) : Prop :=
  ∀ (pins : List (Addr × Obj)) (s : Shared) (σ : St) (H : Hp) (D : Ends), Inv X pins σ H s → t D σ H → wpAny (model X.prog X.w) X.A (execs st X.env) (SP X pins D) X.xe s

theorem thn {α : Type} {t : Sem α} {Q Q' : α → Shared → Prop} {M : Model} {A : Around} {E : Value → Shared → Prop} {s : Shared} (h : wpAny M A t Q E s) (hQ : ∀ a s, Q a s → Q' a s) : wpAny M A t Q' E s := wpAny_mono h hQ fun _ _ x => x
end L2

namespace L2
open PySem PySem.Spec PyProof.Rows
section
variable {X : Cx}


def tVar (i : Nat) : TE := fun σ H Q => ∃ v, σ[i]? = some (some v) ∧ Q v H
def tC (v : V) : TE := fun _ H Q => Q v H
theorem pe_var {i : Nat} {x : Str} {pos : Pos} (hN : X.N[i]? = some x) (hv : Vis X.env.scope x) (hd : (x == ("__debug__" : Str)) = false := by decide) (hcd : (x == ("__classdict__" : Str)) = false := by decide) : PE X (.Name x pos) (tVar i) := by
  intro pins s σ H Q I h
  obtain ⟨v, e, h⟩ := h
  obtain ⟨m, hn, hl⟩ := I.loc
  obtain ⟨u, r, l⟩ := hl i x v hN e hv
  have fin : EP X pins σ Q u s := ⟨v, H, I, r, h⟩
  rcases l with ⟨hk, hm⟩ | ⟨hk, c, hc, hcell⟩
  · exact wpAny_Name (wpAny_loadName_local I.ok.kind hk hn hm fin) hd
  · rcases hk with hk | hk
    · exact wpAny_Name (wpAny_loadName_cell I.ok.kind hk hc hcell fin) hd
    · exact wpAny_Name (wpAny_loadName_free I.ok.kind hk hc hcell fin hcd) hd
theorem pe_int {i j pos} : PE X (.Constant (.int i) j pos) (tC (.int i)) := fun _ _ _ H _ I h => wpAny_Constant_int ⟨.int i, H, I.tok _, ⟨_, rfl⟩, h⟩
theorem pe_bl {b j pos} : PE X (.Constant (.bool b) j pos) (tC (.bl b)) := fun _ _ _ H _ I h => Constant_bool ⟨.bl b, H, I, rfl, h⟩
theorem pe_non {j pos} : PE X (.Constant .none j pos) (tC .non) := fun _ _ _ H _ I h => Constant_none ⟨.non, H, I, rfl, h⟩
def Gl (X : Cx) (x : Str) : Prop := X.env.kindOf x = some .globalImplicit
theorem ld_glob {E : Value → Shared → Prop} {pins : List (Addr × Obj)} {s : Shared} {σ : St} {H : Hp} {x : Str} {u : Value} {pos : Pos} {Q : Value → Shared → Prop} (I : Inv X pins σ H s) (hg : Gl X x) (hm : X.mg x = some u) (h : Q u s)
    (hd : (x == ("__debug__" : Str)) = false := by decide) : wpAny (model X.prog X.w) X.A (eval (.Name x pos) X.env) Q E s :=
  Calls.Name_function_global I.ok.kind hg (Calls.loadGlobal_global (by rw [I.ok.glob]; exact I.mod.glob.keeps I.bk) hm h) hd
theorem ld_blt {E : Value → Shared → Prop} {pins : List (Addr × Obj)} {s : Shared} {σ : St} {H : Hp} {x : Str} {u : Value} {pos : Pos} {Q : Value → Shared → Prop} (I : Inv X pins σ H s) (hg : Gl X x) (hm : X.mg x = none) (hv : bootBuiltins x = some u) (h : Q u s)
    (hn : x ≠ "__name__" := by decide) (hd : (x == ("__debug__" : Str)) = false := by decide) : wpAny (model X.prog X.w) X.A (eval (.Name x pos) X.env) Q E s := by
  obtain ⟨mb, h1, h2⟩ := I.mod.blt
  exact Calls.Name_function_global I.ok.kind hg (Calls.loadGlobal_builtin (by rw [I.ok.glob]; exact I.mod.glob.keeps I.bk) hm (by rw [I.ok.blt]; exact h1.keeps I.bk) ((h2 x hn).trans hv) h) hd

theorem pe_glob {x : Str} {v : V} {u : Value} {pos : Pos} (hg : Gl X x) (hm : X.mg x = some u) (r : RelV v u) (hd : (x == ("__debug__" : Str)) = false := by decide) : PE X (.Name x pos) (tC v) :=
  fun _ _ _ H _ I h => ld_glob I hg hm ⟨v, H, I, r, h⟩ hd
theorem pe_bltn {x : Str} {v : V} {u : Value} {pos : Pos} (hg : Gl X x) (hm : X.mg x = none) (hv : bootBuiltins x = some u) (r : RelV v u) (hn : x ≠ "__name__" := by decide) (hd : (x == ("__debug__" : Str)) = false := by decide) : PE X (.Name x pos) (tC v) :=
  fun _ _ _ H _ I h => ld_blt I hg hm hv ⟨v, H, I, r, h⟩ hn hd



variable {a b : Expr} {ta tb : TE} {pos : Pos}
variable {tA tB' : TT} {rest : List Expr}
def tAnd (t u : TT) : TT := fun σ H Q => t σ H fun c H1 => if c = true then u σ H1 Q else Q false H1
def tOr (t u : TT) : TT := fun σ H Q => t σ H fun c H1 => if c = true then Q true H1 else u σ H1 Q
def tNot (t : TT) : TT := fun σ H Q => t σ H fun c H1 => Q (!c) H1
theorem pw_and1 (ha : PT X a tA) : PW X (.BoolOp .And [a] pos) tA := by
  intro wh pins s σ H Q I h
  refine isTrue_and (thn (ha pins s σ H Q I h) fun c s1 e => ?_)
  cases c with
  | true => exact isTrue_and_nil e
  | false => exact e
theorem pw_or1 (ha : PT X a tA) : PW X (.BoolOp .Or [a] pos) tA := by
  intro wh pins s σ H Q I h
  refine isTrue_or (thn (ha pins s σ H Q I h) fun c s1 e => ?_)
  cases c with
  | false => exact isTrue_or_nil e
  | true => exact e
theorem pw_and (ha : PT X a tA) (hb : PW X (.BoolOp .And (b :: rest) pos) tB') : PW X (.BoolOp .And (a :: b :: rest) pos) (tAnd tA tB') := by
  intro wh pins s σ H Q I h
  refine isTrue_and (thn (ha pins s σ H _ I h) fun c s1 ⟨H1, I1, q1⟩ => ?_)
  cases c with
  | true => exact hb wh pins s1 σ H1 Q I1 q1
  | false => exact ⟨H1, I1, q1⟩
theorem pw_or (ha : PT X a tA) (hb : PW X (.BoolOp .Or (b :: rest) pos) tB') : PW X (.BoolOp .Or (a :: b :: rest) pos) (tOr tA tB') := by
  intro wh pins s σ H Q I h
  refine isTrue_or (thn (ha pins s σ H _ I h) fun c s1 ⟨H1, I1, q1⟩ => ?_)
  cases c with
  | true => exact ⟨H1, I1, q1⟩
  | false => exact hb wh pins s1 σ H1 Q I1 q1
theorem pt_not (ha : PT X a tA) : PT X (.UnaryOp .Not a pos) (tNot tA) := by
  intro pins s σ H Q I h
  exact isTrue_not (ha pins s σ H (fun c H1 => Q (!c) H1) I h)

def tAndV (ta tb : TE) : TE := fun σ H Q => ta σ H fun x H1 => ∃ c, x = .bl c ∧ if c = true then tb σ H1 Q else Q (.bl false) H1
def tOrV (ta tb : TE) : TE := fun σ H Q => ta σ H fun x H1 => ∃ c, x = .bl c ∧ if c = true then Q (.bl true) H1 else tb σ H1 Q
def tNotV (ta : TE) : TE := fun σ H Q => ta σ H fun x H1 => ∃ c, x = .bl c ∧ Q (.bl (!c)) H1
theorem pe_one {op} {t : TE} (h : PE X a t) : PE X (.BoolOp op [a] pos) t := fun pins s σ H Q I hw => BoolOp_one (h pins s σ H Q I hw)
theorem pe_and (ha : PE X a ta) (hb : PE X (.BoolOp .And (b :: rest) pos) tb) : PE X (.BoolOp .And (a :: b :: rest) pos) (tAndV ta tb) := by
  intro pins s σ H Q I h
  refine BoolOp_and (thn (ha pins s σ H _ I h) fun v s1 ⟨x, H1, I1, r1, q1⟩ => ?_)
  obtain ⟨c, rfl, q1⟩ := q1
  cases r1
  refine wpAny_truthy_bool ?_
  cases c with
  | true => exact hb pins s1 σ H1 Q I1 q1
  | false => exact ⟨.bl false, H1, I1, rfl, q1⟩
theorem pe_or (ha : PE X a ta) (hb : PE X (.BoolOp .Or (b :: rest) pos) tb) : PE X (.BoolOp .Or (a :: b :: rest) pos) (tOrV ta tb) := by
  intro pins s σ H Q I h
  refine BoolOp_or (thn (ha pins s σ H _ I h) fun v s1 ⟨x, H1, I1, r1, q1⟩ => ?_)
  obtain ⟨c, rfl, q1⟩ := q1
  cases r1
  refine wpAny_truthy_bool ?_
  cases c with
  | false => exact hb pins s1 σ H1 Q I1 q1
  | true => exact ⟨.bl true, H1, I1, rfl, q1⟩
theorem pe_not (ha : PE X a ta) : PE X (.UnaryOp .Not a pos) (tNotV ta) := by
  intro pins s σ H Q I h
  refine UnaryOp_ (thn (ha pins s σ H _ I h) fun v s1 ⟨x, H1, I1, r1, q1⟩ => ?_)
  obtain ⟨c, rfl, q1⟩ := q1
  cases r1
  exact not_of (wpAny_truthy_bool ⟨.bl (!c), H1, I1, rfl, q1⟩)

def tIf (t : TT) (ta tb : TE) : TE := fun σ H Q => t σ H fun c H1 => if c = true then ta σ H1 Q else tb σ H1 Q
theorem pe_ifExp {c : Expr} (hc : PT X c tA) (ha : PE X a ta) (hb : PE X b tb) : PE X (.IfExp c a b pos) (tIf tA ta tb) := by
  intro pins s σ H Q I h
  refine wpAny_IfExp (thn (hc pins s σ H _ I h) fun d s1 ⟨H1, I1, q1⟩ => ?_)
  cases d with
  | true => exact ha pins s1 σ H1 Q I1 q1
  | false => exact hb pins s1 σ H1 Q I1 q1
end
end L2

namespace L2
open PySem PySem.Spec PyProof.Rows


def SqL (K : PySem.W.Frag) (H : Hp) (a : Addr) (xs : List V) : Prop :=
  Rd H a (.lst xs) ∨
    ∃ (o : Obj) (its : Array Value) (n : Nat), K.lookup a = some o ∧ o.cls = .type "list" ∧ o.dict = none ∧ o.data = .seq its n ∧ its.size ≤ sizeLine ∧ Vals xs its.toList
def SqT (K : PySem.W.Frag) (H : Hp) (a : Addr) (xs : List V) : Prop :=
  Rd H a (.tup xs) ∨
    ∃ (o : Obj) (its : Array Value) (n : Nat), K.lookup a = some o ∧ o.cls = .type "tuple" ∧ o.data = .seq its n ∧ its.size ≤ sizeLine ∧ Vals xs its.toList
section
variable {X : Cx} {pins : List (Addr × Obj)} {σ : St} {H : Hp} {s : Shared} {a : Addr} {xs ys : List V}
theorem SqL.of {K : PySem.W.Frag} (h : H a = some (.lst xs)) : SqL K H a xs := .inl (.inl h)
theorem SqT.of {K : PySem.W.Frag} (h : H a = some (.tup xs)) : SqT K H a xs := .inl (.inl h)
theorem Inv.list (I : Inv X pins σ H s) (h : SqL X.K H a xs) : ∃ its : List Value, Vals xs its ∧ PlainL s.heap a its.toArray ∧ xs.length ≤ sizeLine := by
  rcases h with h | ⟨o, its, n, hk, hc, hd, hs, hz, r⟩
  · obtain ⟨z, its, n, r, e⟩ := h.ok I.hok
    exact ⟨its, r, ⟨_, n, e, rfl, rfl, rfl⟩, z⟩
  · refine ⟨its.toList, r, ⟨o, n, I.kIn a o hk, hc, hd, by simpa using hs⟩, ?_⟩
    have e := r.length
    simp only [Array.length_toList] at e
    omega
theorem Inv.tuple (I : Inv X pins σ H s) (h : SqT X.K H a xs) : ∃ its : List Value, Vals xs its ∧ IsTup s.heap a its.toArray ∧ xs.length ≤ sizeLine := by
  rcases h with h | ⟨o, its, n, hk, hc, hs, hz, r⟩
  · obtain ⟨z, its, r, p⟩ := h.ok I.hok
    exact ⟨its, r, p, z⟩
  · refine ⟨its.toList, r, ⟨o, I.kIn a o hk, hc, n, by simpa using hs⟩, ?_⟩
    have e := r.length
    simp only [Array.length_toList] at e
    omega
end


abbrev Cx.wish (X : Cx) (E : Value → Shared → Prop) : Cx := { X with xe := E }

abbrev Cx.nox (X : Cx) : Cx := X.wish fun _ _ => False
theorem Cx.Ok.wish {X : Cx} (ok : X.Ok) (E : Value → Shared → Prop) : (X.wish E).Ok :=
  ⟨ok.mod, ok.kind, ok.glob, ok.blt, ok.above, ok.inj, ok.has, ok.cab, ok.hd, ok.frames, ok.stk, ok.exf, ok.bs, ok.bsz, ok.noex, ok.exfs, ok.funs, ok.frf⟩
theorem Cx.Ok.unwish {X : Cx} {E : Value → Shared → Prop} (ok : (X.wish E).Ok) : X.Ok :=
  ⟨ok.mod, ok.kind, ok.glob, ok.blt, ok.above, ok.inj, ok.has, ok.cab, ok.hd, ok.frames, ok.stk, ok.exf, ok.bs, ok.bsz, ok.noex, ok.exfs, ok.funs, ok.frf⟩
section
variable {X : Cx} {pins : List (Addr × Obj)} {σ : St} {H : Hp} {s : Shared} {E : Value → Shared → Prop}
theorem Inv.wish (I : Inv X pins σ H s) (E : Value → Shared → Prop) : Inv (X.wish E) pins σ H s := ⟨I.ok.wish E, I.os, I.bare, I.base, I.loc, I.cell, I.free, I.freeC, I.pin, I.hok, I.len⟩
theorem Inv.unwish (I : Inv (X.wish E) pins σ H s) : Inv X pins σ H s := ⟨I.ok.unwish, I.os, I.bare, I.base, I.loc, I.cell, I.free, I.freeC, I.pin, I.hok, I.len⟩
theorem SP.unwish {D : Ends} {f : Flow} {s' : Shared} (h : SP (X.wish E) pins D f s') : SP X pins D f s' := by
  cases f with
  | next => obtain ⟨σ', H', I, q⟩ := h; exact ⟨σ', H', I.unwish, q⟩
  | brk => obtain ⟨σ', H', I, q⟩ := h; exact ⟨σ', H', I.unwish, q⟩
  | cont => obtain ⟨σ', H', I, q⟩ := h; exact ⟨σ', H', I.unwish, q⟩
  | ret u => obtain ⟨v, σ', H', I, r, q⟩ := h; exact ⟨v, σ', H', I.unwish, r, q⟩
theorem PSs.nox {st : List Stmt} {t : TS} (h : PSs X.nox st t) : PSs X st t := fun pins s σ H D I hw =>
  wpAny_mono (h pins s σ H D (I.wish _) hw) (fun _ _ q => q.unwish) fun _ _ z => False.elim z
end


section
variable {X : Cx} {st : Stmt} {rest : List Stmt} {t u : TS} {e : Expr} {te : TE} {pos : Pos}
def tNext : TS := fun D σ H => D.nx σ H
def tSeq (t u : TS) : TS := fun D σ H => t { D with nx := u D } σ H
theorem pss_nil : PSs X [] tNext := fun _ _ σ H _ I h => wpAny_execs_nil ⟨σ, H, I, h⟩
theorem pss_cons (h1 : PS X st t) (h2 : PSs X rest u) : PSs X (st :: rest) (tSeq t u) := by
  intro pins s σ H D I h
  refine wpAny_execs_cons (thn (h1 pins s σ H { D with nx := u D } I h) fun f s1 q => ?_)
  cases f with
  | next =>
    obtain ⟨σ', H', I', q⟩ := q
    exact h2 pins s1 σ' H' D I' q
  | ret v => exact q
  | brk => exact q
  | cont => exact q
theorem pss_one (h1 : PS X st t) : PSs X [st] t := by
  intro pins s σ H D I h
  refine wpAny_execs_cons (thn (h1 pins s σ H D I h) fun f s1 q => ?_)
  cases f with
  | next => exact wpAny_execs_nil q
  | ret v => exact q
  | brk => exact q
  | cont => exact q
def tRet (te : TE) : TS := fun D σ H => te σ H D.rt
theorem ps_ret (he : PE X e te) : PS X (.Return (some e) pos) (tRet te) := by
  intro pins s σ H D I h
  exact wpAny_Return_some (thn (he pins s σ H _ I h) fun v s1 ⟨x, H1, I1, r1, q1⟩ => ⟨x, σ, H1, I1, r1, q1⟩)
def tIfS (c : TT) (t u : TS) : TS := fun D σ H => c σ H fun b H1 => if b = true then t D σ H1 else u D σ H1
theorem ps_if {c : Expr} {a b : List Stmt} {tc : TT} (hc : PT X c tc) (ha : PSs X a t) (hb : PSs X b u) : PS X (.If c a b pos) (tIfS tc t u) := by
  intro pins s σ H D I h
  refine wpAny_If (thn (hc pins s σ H _ I h) fun d s1 ⟨H1, I1, q1⟩ => ?_)
  cases d with
  | true => exact ha pins s1 σ H1 D I1 q1
  | false => exact hb pins s1 σ H1 D I1 q1

def tNever : TS := fun _ _ _ => False
theorem ps_never : PS X st tNever := fun _ _ _ _ _ _ h => h.elim
end


abbrev TG := V → St → Hp → (St → Hp → Prop) → Prop
def PG (X : Cx) (target : Expr) (t : TG) : Prop :=
  ∀ (pins : List (Addr × Obj)) (s : Shared) (σ : St) (H : Hp) (v : V) (u : Value) (Q : St → Hp → Prop), Inv X pins σ H s → RelV v u → t v σ H Q →
    wpAny (model X.prog X.w) X.A (assign target X.env u) (fun _ s' => ∃ σ' H', Inv X pins σ' H' s' ∧ Q σ' H') X.xe s

abbrev TSet := V → V → V → Hp → (Hp → Prop) → Prop
def PSet (X : Cx) (t : TSet) : Prop :=
  ∀ (pins : List (Addr × Obj)) (s : Shared) (σ : St) (H : Hp) (o i v : V) (ov iv u : Value) (Q : Hp → Prop), Inv X pins σ H s → RelV o ov → RelV i iv → RelV v u → t o i v H Q →
    wpAny (model X.prog X.w) X.A (setItem ov iv u) (fun _ s' => ∃ H', Inv X pins σ H' s' ∧ Q H') X.xe s

section
variable {X : Cx} {pos : Pos}
def gName (i : Nat) : TG := fun v σ H Q => Q (σ.set i (some v)) H
def gSub (to ti : TE) (t : TSet) : TG := fun v σ H Q => to σ H fun o H1 => ti σ H1 fun i H2 => t o i v H2 fun H3 => Q σ H3
theorem pg_sub {o i : Expr} {to ti : TE} {t : TSet} (ho : PE X o to) (hi : PE X i ti) (hs : PSet X t)
    (ha : ∀ v, assign (.Subscript o i pos) X.env v = (do
      let ov ← holding [v] (eval o X.env)
      let iv ← holding [v, ov] (eval i X.env)
      standAt pos
      holding [v, ov, iv] (setItem ov iv v)
      release [v, ov, iv] []) := by intro _; rfl) : PG X (.Subscript o i pos) (gSub to ti t) := by
  intro pins s σ H v u Q I r h
  rw [ha]
  refine wpAny_bind (wpAny_holding (thn (ho pins s σ H _ I h) fun ov s1 ⟨x, H1, I1, r1, q1⟩ => ?_))
  refine wpAny_bind (wpAny_holding (thn (hi pins s1 σ H1 _ I1 q1) fun iv s2 ⟨y, H2, I2, r2, q2⟩ => ?_))
  refine wpAny_bind (wpAny_standAt (wpAny_bind (wpAny_holding (thn (hs pins s2 σ H2 x y v ov iv u _ I2 r1 r2 r q2) fun _ s3 ⟨H3, I3, q3⟩ => ?_))))
  exact wpAny_release ⟨σ, H3, I3, q3⟩

def tAsg (te : TE) (g : TG) : TS := fun D σ H => te σ H fun x H1 => g x σ H1 D.nx
theorem ps_asg {tg e : Expr} {te : TE} {g : TG} (he : PE X e te) (hg : PG X tg g) (hs : swapsWithSole [tg] e pos.line X.env = pure false := by rfl) (hw : swappedStores [tg] e X.env = pure none := by rfl)
    (h1 : (assignEach [tg] X.env).map (·.2) = [assign tg X.env] := by rfl) : PS X (.Assign [tg] e pos) (tAsg te g) := by
  intro pins s σ H D I h
  refine wpAny_Assign_stores (thn (he pins s σ H _ I h) fun v s1 ⟨x, H1, I1, r1, q1⟩ => ?_) hs hw
  rw [h1]
  exact thn (hg pins s1 σ H1 x v _ I1 r1 q1) fun _ s2 q => q

theorem ps_set {i : Nat} {x : Str} {e : Expr} {te : TE} {pos' : Pos} (hN : X.N.Nodup) (hi : X.N[i]? = some x) (hx : Loc X.env.scope x) (he : PE X e te) (hs : swapsWith e (some (.Name x pos')) pos.line X.env = pure false := by rfl) (hf : X.fn x = true ∨ X.env.scope.names.lookup x = some .local := by first | exact .inl rfl | exact .inr rfl | assumption) :
    PS X (.Assign [.Name x pos'] e pos) (tAsg te (gName i)) := by
  intro pins s σ H D I h
  refine wpAny_Assign_Name (thn (he pins s σ H _ I h) fun v s1 ⟨y, H1, I1, r1, q1⟩ => ?_) hs
  exact store_ok I1 hN hi hx r1 (fun s2 I2 => ⟨_, H1, I2, q1⟩) hf

end


section
variable {X : Cx} {pos : Pos}

end



end L2

namespace L2
open PySem PySem.Spec PyProof.Rows
section
variable {X : Cx} {tg : Expr}
end



end L2

namespace L2
open PySem PySem.Spec PyProof.Rows

abbrev R2 := V → V → Hp → VK → Prop

def OpR (X : Cx) (f : Value → Value → Sem Value) (r : R2) : Prop :=
  ∀ (pins : List (Addr × Obj)) (s : Shared) (σ : St) (H : Hp) (x y : V) (v u : Value) (Q : VK), Inv X pins σ H s → RelV x v → RelV y u → r x y H Q →
    wpAny (model X.prog X.w) X.A (f v u) (EP X pins σ Q) X.xe s

def CallR (X : Cx) (f : Value) (r : List V → Hp → VK → Prop) : Prop :=
  ∀ (pins : List (Addr × Obj)) (s : Shared) (σ : St) (H : Hp) (xs : List V) (us : List Value) (Q : VK), Inv X pins σ H s → Vals xs us → r xs H Q →
    wpAny (model X.prog X.w) X.A (call f us) (EP X pins σ Q) X.xe s

def TruR (X : Cx) (r : V → Hp → (Bool → Hp → Prop) → Prop) : Prop :=
  ∀ (pins : List (Addr × Obj)) (s : Shared) (σ : St) (H : Hp) (x : V) (v : Value) (Q : Bool → Hp → Prop), Inv X pins σ H s → RelV x v → r x H Q →
    wpAny (model X.prog X.w) X.A (truthy v) (TP X pins σ Q) X.xe s

def tOp (r : R2) (ta tb : TE) : TE := fun σ H Q => ta σ H fun x H1 => tb σ H1 fun y H2 => r x y H2 Q
def rI (C : Int → Int → Prop) (g : Int → Int → V) : R2 := fun x y H Q => ∃ i j, x = .int i ∧ y = .int j ∧ C i j ∧ Q (g i j) H
def rI0 (g : Int → Int → V) : R2 := fun x y H Q => ∃ i j, x = .int i ∧ y = .int j ∧ Q (g i j) H
section
variable {X : Cx} {a b c : Expr} {ta tb tc : TE} {pos : Pos}

theorem binT (ha : PE X a ta) (hb : PE X b tb) {pins : List (Addr × Obj)} {s : Shared} {σ : St} {H : Hp} {R : V → V → Hp → Prop} (I : Inv X pins σ H s)
    (h : ta σ H fun x H1 => tb σ H1 fun y H2 => R x y H2) {Q : Value → Shared → Prop} {f : Value → Value → Sem Value}
    (hf : ∀ v u s2 x y H2, Inv X pins σ H2 s2 → RelV x v → RelV y u → R x y H2 → wpAny (model X.prog X.w) X.A (f v u) Q X.xe s2) :
    wpAny (model X.prog X.w) X.A (eval a X.env) (fun v s₁ => wpAny (model X.prog X.w) X.A (eval b X.env) (fun u s₂ => wpAny (model X.prog X.w) X.A (f v u) Q X.xe s₂) X.xe s₁) X.xe s := by
  refine thn (ha pins s σ H _ I h) fun v s1 ⟨x, H1, I1, r1, q1⟩ => ?_
  refine thn (hb pins s1 σ H1 _ I1 q1) fun u s2 ⟨y, H2, I2, r2, q2⟩ => ?_
  exact hf v u s2 x y H2 I2 r1 r2 q2

theorem pe_op {op : Operator} {r : R2} (ho : OpR X (binaryOp op) r) (ha : PE X a ta) (hb : PE X b tb) : PE X (.BinOp a op b pos) (tOp r ta tb) := by
  intro pins s σ H Q I h
  exact wpAny_BinOp (binT ha hb I h fun v u s2 x y H2 I2 rx ry q => ho pins s2 σ H2 x y v u Q I2 rx ry q)
theorem opI {f : Value → Value → Sem Value} {C : Int → Int → Prop} {g : Int → Int → Int}
    (rule : ∀ (i j : Int) (t u : Tok) (s : Shared) (Q : Value → Shared → Prop) (E : Value → Shared → Prop), C i j → Q (.int (g i j) s.toks) { s with toks := s.toks + 1 } → wpAny (model X.prog X.w) X.A (f (.int i t) (.int j u)) Q E s) :
    OpR X f (rI C fun i j => .int (g i j)) := by
  intro pins s σ H x y v u Q I rx ry h
  obtain ⟨i, j, rfl, rfl, hc, q⟩ := h
  obtain ⟨t, rfl⟩ := rx
  obtain ⟨t', rfl⟩ := ry
  exact rule i j t t' s _ _ hc ⟨.int (g i j), H, I.tok _, ⟨_, rfl⟩, q⟩
theorem opI0 {f : Value → Value → Sem Value} {g : Int → Int → Int}
    (rule : ∀ (i j : Int) (t u : Tok) (s : Shared) (Q : Value → Shared → Prop) (E : Value → Shared → Prop), Q (.int (g i j) s.toks) { s with toks := s.toks + 1 } → wpAny (model X.prog X.w) X.A (f (.int i t) (.int j u)) Q E s) :
    OpR X f (rI0 fun i j => .int (g i j)) := by
  intro pins s σ H x y v u Q I rx ry h
  obtain ⟨i, j, rfl, rfl, q⟩ := h
  obtain ⟨t, rfl⟩ := rx
  obtain ⟨t', rfl⟩ := ry
  exact rule i j t t' s _ _ ⟨.int (g i j), H, I.tok _, ⟨_, rfl⟩, q⟩
theorem opB0 {f : Value → Value → Sem Value} {g : Int → Int → Bool}
    (rule : ∀ (i j : Int) (t u : Tok) (s : Shared) (Q : Value → Shared → Prop) (E : Value → Shared → Prop), Q (.bool (g i j)) s → wpAny (model X.prog X.w) X.A (f (.int i t) (.int j u)) Q E s) :
    OpR X f (rI0 fun i j => .bl (g i j)) := by
  intro pins s σ H x y v u Q I rx ry h
  obtain ⟨i, j, rfl, rfl, q⟩ := h
  obtain ⟨t, rfl⟩ := rx
  obtain ⟨t', rfl⟩ := ry
  exact rule i j t t' s _ _ ⟨.bl (g i j), H, I, rfl, q⟩

def CDiv (i j : Int) : Prop := 0 < j ∧ j < 1073741824
def CMul (i j : Int) : Prop := (-(2 ^ 64) < i ∧ i < 2 ^ 64) ∨ (-(2 ^ 64) < j ∧ j < 2 ^ 64)
theorem CMul.ok {i j : Int} (h : CMul i j) : IntMulOk i j := by
  rcases h with ⟨h1, h2⟩ | ⟨h1, h2⟩
  · exact .of_left (intBits_le_64 h1 h2)
  · exact .of_right (intBits_le_64 h1 h2)
theorem op_add : OpR X (binaryOp .Add) (rI0 fun i j => .int (i + j)) := opI0 fun _ _ _ _ _ _ _ q => add_int q
theorem op_sub : OpR X (binaryOp .Sub) (rI0 fun i j => .int (i - j)) := opI0 fun _ _ _ _ _ _ _ q => sub_int q
theorem op_mul : OpR X (binaryOp .Mult) (rI CMul fun i j => .int (i * j)) := opI fun _ _ _ _ _ _ _ hc q => mul_int q hc.ok

theorem op_fdiv : OpR X (binaryOp .FloorDiv) (rI CDiv fun i j => .int (i / j)) := opI fun i j _ _ _ _ _ hc q => by
  have h1 : (0 : Int) < j := hc.1
  have h2 : j < 1073741824 := hc.2
  exact floordiv_int (by omega) (by rw [Int.fdiv_eq_ediv_of_nonneg i (by omega)]; exact q) (.inl (PyProof.noPylong_small (by omega)))
theorem op_mod : OpR X (binaryOp .Mod) (rI (fun _ j => 0 < j) fun i j => .int (i % j)) := opI fun i j _ _ _ _ _ hc q => by
  have h1 : (0 : Int) < j := hc
  exact mod_int' (by omega) (by rw [Int.fmod_eq_emod_of_nonneg i (by omega)]; exact q)
end



def scal : V → V → Bool
  | .non, .non => true | .non, .int _ => true | .int _, .non => true | .non, .bl _ => true | .bl _, .non => true | .non, .str _ => true | .str _, .non => true
  | .int _, .int _ => true | .bl _, .bl _ => true | .str _, .str _ => true | .byt _, .byt _ => true
  | .int _, .str _ => true | .str _, .int _ => true | .bl _, .str _ => true | .str _, .bl _ => true
  | _, _ => false
def rEq : R2 := fun x y H Q => scal x y = true ∧ Q (.bl (decide (x = y))) H
def rNe : R2 := fun x y H Q => scal x y = true ∧ Q (.bl (!decide (x = y))) H

theorem dec_int {i j : Int} : decide (V.int i = V.int j) = (i == j) := by
  rw [Bool.eq_iff_iff]
  simp
theorem dec_bl {i j : Bool} : decide (V.bl i = V.bl j) = (i == j) := by
  rw [Bool.eq_iff_iff]
  simp
theorem dec_str {i j : Str} : decide (V.str i = V.str j) = (i == j) := by
  rw [Bool.eq_iff_iff]
  simp
theorem dec_byt {i j : Array UInt8} : decide (V.byt i = V.byt j) = (i.toList == j.toList) := by
  rw [Bool.eq_iff_iff]
  cases i
  cases j
  simp

section
variable {X : Cx} {a b c : Expr} {ta tb tc : TE} {pos : Pos}
theorem fin_bl {pins : List (Addr × Obj)} {σ : St} {H : Hp} {s : Shared} {Q : VK} {k k' : Bool} (I : Inv X pins σ H s) (q : Q (.bl k) H) (e : k = k') : EP X pins σ Q (.bool k') s := by
  subst e
  exact ⟨.bl k, H, I, rfl, q⟩
theorem op_eq : OpR X (compareOp .Eq) rEq := by
  intro pins s σ H x y v u Q I rx ry h
  obtain ⟨hs, q⟩ := h
  cases x with
  | non =>
    cases rx
    cases y with
    | non => cases ry; exact PySem.EqNone.eq_none_none (fin_bl I q (by simp))
    | bl j => cases ry; exact PySem.EqNone.eq_none_bool (fin_bl I q (by simp))
    | int j => obtain ⟨t', rfl⟩ := ry; exact PySem.EqNone.eq_none_int (fin_bl I q (by simp))
    | str j => obtain ⟨t', rfl⟩ := ry; exact PySem.EqNone.eq_none_str (fin_bl I q (by simp))
    | _ => exact absurd (show false = true from hs) Bool.false_ne_true
  | bl i =>
    cases rx
    cases y with
    | non => cases ry; exact PySem.EqNone.eq_bool_none (fin_bl I q (by simp))
    | bl j => cases ry; exact eq_bool (fin_bl I q dec_bl)
    | str j => obtain ⟨t', rfl⟩ := ry; exact PySem.EqMixed.eq_bool_str (fin_bl I q (by simp))
    | _ => exact absurd (show false = true from hs) Bool.false_ne_true
  | int i =>
    obtain ⟨t, rfl⟩ := rx
    cases y with
    | non => cases ry; exact PySem.EqNone.eq_int_none (fin_bl I q (by simp))
    | int j => obtain ⟨t', rfl⟩ := ry; exact eq_int (fin_bl I q dec_int)
    | str j => obtain ⟨t', rfl⟩ := ry; exact PySem.EqMixed.eq_int_str (fin_bl I q (by simp))
    | _ => exact absurd (show false = true from hs) Bool.false_ne_true
  | str i =>
    obtain ⟨t, rfl⟩ := rx
    cases y with
    | non => cases ry; exact PySem.EqNone.eq_str_none (fin_bl I q (by simp))
    | bl j => cases ry; exact PySem.EqMixed.eq_str_bool (fin_bl I q (by simp))
    | int j => obtain ⟨t', rfl⟩ := ry; exact PySem.EqMixed.eq_str_int (fin_bl I q (by simp))
    | str j => obtain ⟨t', rfl⟩ := ry; exact eq_str (fin_bl I q dec_str)
    | _ => exact absurd (show false = true from hs) Bool.false_ne_true
  | byt i =>
    obtain ⟨t, rfl⟩ := rx
    cases y with
    | byt j => obtain ⟨t', rfl⟩ := ry; exact PySem.W.eq_bytes (fin_bl I q dec_byt)
    | _ => exact absurd (show false = true from hs) Bool.false_ne_true
  | _ => cases y <;> exact absurd (show false = true from hs) Bool.false_ne_true
theorem op_ne : OpR X (compareOp .NotEq) rNe := by
  intro pins s σ H x y v u Q I rx ry h
  obtain ⟨hs, q⟩ := h
  cases x with
  | non =>
    cases rx
    cases y with
    | non => cases ry; exact PySem.EqNone.ne_none_none (fin_bl I q (by simp))
    | bl j => cases ry; exact PySem.EqNone.ne_none_bool (fin_bl I q (by simp))
    | int j => obtain ⟨t', rfl⟩ := ry; exact PySem.EqNone.ne_none_int (fin_bl I q (by simp))
    | str j => obtain ⟨t', rfl⟩ := ry; exact PySem.EqNone.ne_none_str (fin_bl I q (by simp))
    | _ => exact absurd (show false = true from hs) Bool.false_ne_true
  | bl i =>
    cases rx
    cases y with
    | non => cases ry; exact PySem.EqNone.ne_bool_none (fin_bl I q (by simp))
    | bl j => cases ry; exact ne_bool (fin_bl I q (congrArg not dec_bl))
    | str j => obtain ⟨t', rfl⟩ := ry; exact PySem.EqMixed.ne_bool_str (fin_bl I q (by simp))
    | _ => exact absurd (show false = true from hs) Bool.false_ne_true
  | int i =>
    obtain ⟨t, rfl⟩ := rx
    cases y with
    | non => cases ry; exact PySem.EqNone.ne_int_none (fin_bl I q (by simp))
    | int j => obtain ⟨t', rfl⟩ := ry; exact ne_int (fin_bl I q (congrArg not dec_int))
    | str j => obtain ⟨t', rfl⟩ := ry; exact PySem.EqMixed.ne_int_str (fin_bl I q (by simp))
    | _ => exact absurd (show false = true from hs) Bool.false_ne_true
  | str i =>
    obtain ⟨t, rfl⟩ := rx
    cases y with
    | non => cases ry; exact PySem.EqNone.ne_str_none (fin_bl I q (by simp))
    | bl j => cases ry; exact PySem.EqMixed.ne_str_bool (fin_bl I q (by simp))
    | int j => obtain ⟨t', rfl⟩ := ry; exact PySem.EqMixed.ne_str_int (fin_bl I q (by simp))
    | str j => obtain ⟨t', rfl⟩ := ry; exact ne_str (fin_bl I q (congrArg not dec_str))
    | _ => exact absurd (show false = true from hs) Bool.false_ne_true
  | byt i =>
    obtain ⟨t, rfl⟩ := rx
    cases y with
    | byt j => obtain ⟨t', rfl⟩ := ry; exact PySem.W.ne_bytes (fin_bl I q (congrArg not dec_byt))
    | _ => exact absurd (show false = true from hs) Bool.false_ne_true
  | _ => cases y <;> exact absurd (show false = true from hs) Bool.false_ne_true

theorem op_lt : OpR X (compareOp .Lt) (rI0 fun i j => .bl (decide (i < j))) := opB0 fun _ _ _ _ _ _ _ q => lt_int q
theorem op_le : OpR X (compareOp .LtE) (rI0 fun i j => .bl (decide (i ≤ j))) := opB0 fun _ _ _ _ _ _ _ q => le_int q
theorem op_gt : OpR X (compareOp .Gt) (rI0 fun i j => .bl (decide (j < i))) := opB0 fun _ _ _ _ _ _ _ q => gt_int q
theorem op_ge : OpR X (compareOp .GtE) (rI0 fun i j => .bl (decide (j ≤ i))) := opB0 fun _ _ _ _ _ _ _ q => ge_int q
theorem op_isN : OpR X (compareOp .Is) (fun x y H Q => y = .non ∧ Q (.bl (decide (x = .non))) H) := by
  intro pins s σ H x y v u Q I rx ry h
  obtain ⟨rfl, q⟩ := h
  cases ry
  refine is_none_gen (fin_bl I q ?_)
  cases x <;> first
    | (cases rx; rfl)
    | (obtain ⟨t, rfl⟩ := rx; rfl)
theorem op_notN : OpR X (compareOp .IsNot) (fun x y H Q => y = .non ∧ Q (.bl (!decide (x = .non))) H) := by
  intro pins s σ H x y v u Q I rx ry h
  obtain ⟨rfl, q⟩ := h
  cases ry
  refine isnot_none_gen (fin_bl I q ?_)
  cases x <;> first
    | (cases rx; rfl)
    | (obtain ⟨t, rfl⟩ := rx; rfl)

theorem OpR.or {f : Value → Value → Sem Value} {r r' : R2} (h : OpR X f r) (h' : OpR X f r') : OpR X f (fun x y H Q => r x y H Q ∨ r' x y H Q) := by
  intro pins s σ H x y v u Q I rx ry q
  rcases q with q | q
  · exact h pins s σ H x y v u Q I rx ry q
  · exact h' pins s σ H x y v u Q I rx ry q

theorem nomark (b : Expr) {op : CmpOp} (h : op ≠ .In := by decide) (h2 : op ≠ .NotIn := by decide) : behindInMarks op b = false := by
  have e1 : (op == CmpOp.In) = false := by cases op <;> first | rfl | exact absurd rfl h
  have e2 : (op == CmpOp.NotIn) = false := by cases op <;> first | rfl | exact absurd rfl h2
  cases b <;> simp [behindInMarks, e1, e2]

theorem pe_cmpR {op : CmpOp} {r : R2} (ho : OpR X (compareOp op) r) (ha : PE X a ta) (hb : PE X b tb) (hm : behindInMarks op b = false) : PE X (.Compare a [op] [b] pos) (tOp r ta tb) := by
  intro pins s σ H Q I h
  exact wpAny_Compare1 (binT ha hb I h fun v u s2 x y H2 I2 rx ry q => ho pins s2 σ H2 x y v u Q I2 rx ry q) hm

def tTest (t : TE) : TT := fun σ H Q => t σ H fun x H' => ∃ k, x = .bl k ∧ Q k H'
theorem pt_cmpR {op : CmpOp} {r : R2} (ho : OpR X (compareOp op) r) (ha : PE X a ta) (hb : PE X b tb) (hm : behindInMarks op b = false) : PT X (.Compare a [op] [b] pos) (tTest (tOp r ta tb)) := by
  intro pins s σ H Q I h
  refine wpAny_isTrue_Compare1 (thn (ha pins s σ H _ I h) fun v s1 ⟨x, H1, I1, r1, q1⟩ => thn (hb pins s1 σ H1 _ I1 q1) fun u s2 ⟨y, H2, I2, r2, q2⟩ =>
    thn (ho pins s2 σ H2 x y v u _ I2 r1 r2 q2) fun c s3 ⟨z, H3, I3, r3, k, e, q3⟩ => ?_) hm
  subst e
  cases r3
  exact wpAny_truthy_bool ⟨H3, I3, q3⟩

def TruV (K : PySem.W.Frag) (x : V) (H : Hp) (k : Bool) : Prop :=
  match x with
  | .non => k = false
  | .bl b => k = b
  | .int i => k = (i != 0)
  | .str y => y.length ≤ sizeLine ∧ k = ((y.length : Int) != 0)
  | .byt y => y.size ≤ sizeLine ∧ k = ((y.size : Int) != 0)
  | .ref p => (∃ xs, SqL K H p xs ∧ k = !xs.isEmpty) ∨ (∃ xs, SqT K H p xs ∧ k = !xs.isEmpty) ∨ ∃ kvs, H p = some (.dK kvs) ∧ k = !kvs.isEmpty
  | _ => False
theorem isEmpty_kv {κ : Type} {kvs : List (κ × V)} {vs : List (κ × Value)} (r : KV kvs vs) : (!vs.isEmpty) = !kvs.isEmpty := by
  cases r <;> rfl
theorem isEmpty_of {xs : List V} {its : List Value} (r : Vals xs its) : (!its.toArray.isEmpty) = !xs.isEmpty := by
  cases r <;> simp
theorem line63 : (sizeLine : Nat) < 2 ^ 63 := by rw [sizeLine_eq]; decide
theorem tru_ok : TruR X (fun x H Q => ∃ k, TruV X.K x H k ∧ Q k H) := by
  intro pins s σ H x v Q I rx h
  obtain ⟨k, e, q⟩ := h
  have hl := line63
  have hs : sizeLine = 16777216 := sizeLine_eq
  cases x with
  | non =>
    cases rx
    have e' : k = false := e
    subst e'
    exact truthy_none ⟨H, I, q⟩
  | bl b =>
    cases rx
    have e' : k = b := e
    subst e'
    exact wpAny_truthy_bool ⟨H, I, q⟩
  | int i =>
    obtain ⟨t, rfl⟩ := rx
    have e' : k = (i != 0) := e
    subst e'
    exact PySem.P.truthy_int ⟨H, I, q⟩
  | str y =>
    obtain ⟨t, rfl⟩ := rx
    obtain ⟨hy, e'⟩ : y.length ≤ sizeLine ∧ k = ((y.length : Int) != 0) := e
    subst e'
    exact PySem.P.truthy_str (by omega) ⟨H, I.tok _, q⟩
  | byt y =>
    obtain ⟨t, rfl⟩ := rx
    obtain ⟨hy, e'⟩ : y.size ≤ sizeLine ∧ k = ((y.size : Int) != 0) := e
    subst e'
    exact PySem.W.truthy_bytes (by omega) ⟨H, I.tok _, q⟩
  | ref p =>
    cases rx
    have e' : (∃ xs, SqL X.K H p xs ∧ k = !xs.isEmpty) ∨ (∃ xs, SqT X.K H p xs ∧ k = !xs.isEmpty) ∨ ∃ kvs, H p = some (.dK kvs) ∧ k = !kvs.isEmpty := e
    rcases e' with ⟨xs, hx, e'⟩ | ⟨xs, hx, e'⟩ | ⟨kvs, hx, e'⟩
    · subst e'
      obtain ⟨its, r, pl, hz⟩ := I.list hx
      have hlen := r.length
      exact wpAny_truthy_list pl.isList (by simp only [List.size_toArray]; omega) ⟨H, I.tok _, by rw [isEmpty_of r]; exact q⟩
    · subst e'
      obtain ⟨its, r, pl, hz⟩ := I.tuple hx
      have hlen := r.length
      exact truthy_tuple pl (by simp only [List.size_toArray]; omega) ⟨H, I.tok _, by rw [isEmpty_of r]; exact q⟩
    · subst e'
      obtain ⟨hz, hS, vs, r, m⟩ : kvs.length ≤ sizeLine ∧ (p == sysModules) = false ∧ ∃ vs, KV kvs vs ∧ s.heap.DictOf (mixKind X.prog X.w) p vs := I.hok p _ hx
      have hlen : kvs.length = vs.length := Paired.length r
      exact wpAny_truthy_dict hS m (by omega) ⟨H, I.tok _, by rw [isEmpty_kv r]; exact q⟩
  | _ => exact (show False from e).elim

theorem pt_truth (ha : PE X a ta) (he : ∀ whole, isTrue a X.env whole = (do let v ← whole; standAt a.pos; holding [v] (truthy v))) :
    PT X a (fun σ H Q => ta σ H fun x H' => ∃ k, TruV X.K x H' k ∧ Q k H') := by
  intro pins s σ H Q I h
  exact isTrue_plain (thn (ha pins s σ H _ I h) fun v s1 ⟨x, H1, I1, r1, q1⟩ => tru_ok pins s1 σ H1 x v Q I1 r1 q1) (he _)


theorem op_add_str : OpR X (binaryOp .Add) (fun x y H Q => ∃ i j, x = .str i ∧ y = .str j ∧ i.length + j.length ≤ sizeLine ∧ Q (.str (i ++ j)) H) := by
  intro pins s σ H x y v u Q I rx ry h
  obtain ⟨i, j, rfl, rfl, hz, q⟩ := h
  obtain ⟨t, rfl⟩ := rx
  obtain ⟨t', rfl⟩ := ry
  exact add_str (fun t' tk => ⟨.str (i ++ j), H, I.tok _, ⟨_, rfl⟩, q⟩) hz
theorem vals1 {x : V} {us : List Value} (r : Vals [x] us) : ∃ u, us = [u] ∧ RelV x u := by
  cases r with
  | cons r1 r2 => cases r2; exact ⟨_, rfl, r1⟩
theorem vals2 {x y : V} {us : List Value} (r : Vals [x, y] us) : ∃ u w', us = [u, w'] ∧ RelV x u ∧ RelV y w' := by
  cases r with
  | cons r1 r2 =>
    cases r2 with
    | cons r3 r4 => cases r4; exact ⟨_, _, rfl, r1, r3⟩
theorem call_max2 (hc : X.calm = true) : CallR X (.builtin "max") (fun xs H Q => ∃ i j, xs = [.int i, .int j] ∧ Q (.int (if j > i then j else i)) H) := by
  intro pins s σ H xs us Q I r h
  obtain ⟨i, j, rfl, q⟩ := h
  obtain ⟨u, w', rfl, ⟨t, rfl⟩, ⟨t', rfl⟩⟩ := vals2 r
  refine max_two_ints (I.ok.hd hc) fun h' tk k => ⟨_, H, I.kept k, ?_, q⟩
  by_cases hj : j > i
  · rw [if_pos hj, if_pos hj]; exact ⟨_, rfl⟩
  · rw [if_neg hj, if_neg hj]; exact ⟨_, rfl⟩
theorem call_min2 (hc : X.calm = true) : CallR X (.builtin "min") (fun xs H Q => ∃ i j, xs = [.int i, .int j] ∧ Q (.int (if j < i then j else i)) H) := by
  intro pins s σ H xs us Q I r h
  obtain ⟨i, j, rfl, q⟩ := h
  obtain ⟨u, w', rfl, ⟨t, rfl⟩, ⟨t', rfl⟩⟩ := vals2 r
  refine min_two_ints (I.ok.hd hc) fun h' tk k => ⟨_, H, I.kept k, ?_, q⟩
  by_cases hj : j < i
  · rw [if_pos hj, if_pos hj]; exact ⟨_, rfl⟩
  · rw [if_neg hj, if_neg hj]; exact ⟨_, rfl⟩
def LenV (K : PySem.W.Frag) (x : V) (H : Hp) (n : Nat) : Prop :=
  match x with
  | .str y => y.length ≤ sizeLine ∧ n = y.length
  | .byt y => y.size ≤ sizeLine ∧ n = y.size
  | .ref p => (∃ xs, SqL K H p xs ∧ n = xs.length) ∨ ∃ xs, SqT K H p xs ∧ n = xs.length
  | _ => False
theorem call_len : CallR X (.builtin "len") (fun xs H Q => ∃ x n, xs = [x] ∧ LenV X.K x H n ∧ Q (.int n) H) := by
  intro pins s σ H xs us Q I r h
  obtain ⟨x, n, rfl, e, q⟩ := h
  obtain ⟨u, rfl, rx⟩ := vals1 r
  have hl := line63
  have hs : sizeLine = 16777216 := sizeLine_eq
  cases x with
  | str y =>
    obtain ⟨t, rfl⟩ := rx
    obtain ⟨hy, e'⟩ : y.length ≤ sizeLine ∧ n = y.length := e
    subst e'
    exact len_str (by omega) ⟨.int _, H, I.tok _, ⟨_, rfl⟩, q⟩
  | byt y =>
    obtain ⟨t, rfl⟩ := rx
    obtain ⟨hy, e'⟩ : y.size ≤ sizeLine ∧ n = y.size := e
    subst e'
    exact PySem.W.len_bytes (by omega) ⟨.int _, H, I.tok _, ⟨_, rfl⟩, q⟩
  | ref p =>
    cases rx
    have e' : (∃ xs, SqL X.K H p xs ∧ n = xs.length) ∨ ∃ xs, SqT X.K H p xs ∧ n = xs.length := e
    rcases e' with ⟨xs, hx, e'⟩ | ⟨xs, hx, e'⟩
    · subst e'
      obtain ⟨its, r', pl, hz⟩ := I.list hx
      have hlen := r'.length
      exact Calls.call_len_list pl.isList (by simp only [List.size_toArray]; omega) ⟨.int xs.length, H, I.tok _, ⟨_, by simp only [List.size_toArray]; rw [hlen]⟩, q⟩
    · subst e'
      obtain ⟨its, r', pl, hz⟩ := I.tuple hx
      have hlen := r'.length
      exact len_tuple pl (by simp only [List.size_toArray]; omega) ⟨.int xs.length, H, I.tok _, ⟨_, by simp only [List.size_toArray]; rw [hlen]⟩, q⟩
  | _ => exact (show False from e).elim

end
end L2

namespace L2
open PySem PySem.Spec PyProof.Rows


structure ObjM (h : Heap) (x dx C : Addr) (mA : Str → Option Value) : Prop where
  obj : h.get? x = some (PySem.W.instObj C dx)
  ns : h.Ns1 dx mA
  ne : dx ≠ x

theorem lookIn_ns {h : Heap} {dx : Addr} {mA : Str → Option Value} (n : h.Ns1 dx mA) : ∃ od, h.get? dx = some od ∧ ∀ name, PySem.W.lookIn name od = some (mA name) := by
  obtain ⟨o, es, ep, ho, hd, hk, _, hm⟩ := n
  refine ⟨o, ho, fun name => ?_⟩
  have e := hm name
  unfold nsFind findBy at e
  rw [← Array.find?_toList] at e
  unfold PySem.W.lookIn
  rw [hd]
  dsimp only
  split
  · rename_i y q
    rw [q] at e
    exact congrArg some e
  · rename_i q
    rw [q] at e
    have a : es.toList.any (·.refKey) = false := by
      rw [List.any_eq_false]
      intro y hy
      obtain ⟨z, t, hkey⟩ := hk y (Array.mem_toList_iff.mp hy)
      simp [DictEntry.refKey, hkey]
    have a' : ¬ es.toList.any (·.refKey) = true := by rw [a]; exact Bool.false_ne_true
    rw [if_neg a']
    exact congrArg some e

theorem ObjM.look {h : Heap} {x dx C : Addr} {mA : Str → Option Value} (I : ObjM h x dx C mA) : ∃ od, PySem.W.InstAt h x (PySem.W.instObj C dx) C (some od) ∧ ∀ name, PySem.W.lookIn name od = some (mA name) :=
  let ⟨od, ho, hl⟩ := lookIn_ns I.ns
  ⟨od, ⟨I.obj, rfl, rfl, ho⟩, hl⟩

section
variable {prog : Program} {w : World} {A : Around} {E : Value → Shared → Prop} {s : Shared} {K : PySem.W.Frag} {x dx C f : Addr} {mA : Str → Option Value} {name : Str} {v : Value}

theorem get_map {expr : Bool} {Q : Value → Shared → Prop} (X : K.In s.heap) (I : ObjM s.heap x dx C mA) (hg : PySem.W.plainGet K C name = true) (hh : PySem.W.hasDictIn K C = true)
    (ha : PySem.W.findIn K (.ref C) name = some none) (hv : mA name = some v) (hv' : PySem.W.handedIn v = true) (h : Q v { s with toks := s.toks + 1 }) :
    wpAny (model prog w) A (getAttr (.ref x) name expr) Q E s := by
  obtain ⟨od, J, hl⟩ := I.look
  exact PySem.W.get_value X J (PySem.W.plainGet_of hg).1 (PySem.W.findObj_own hh ha rfl (by rw [hl, hv])) hv' h

theorem get_meth {pl : Sem Bool} {Q : Value × List Value → Shared → Prop} (X : K.In s.heap) (I : ObjM s.heap x dx C mA) (hg : PySem.W.plainGet K C name = true)
    (hf : PySem.W.findIn K (.ref C) name = some (some (.ref f))) (ht : PySem.W.isFn K (.ref f) = true) (hv : mA name = none) (h : Q (.ref f, [.ref x]) s) :
    wpAny (model prog w) A (getMethod (.ref x) name pl) Q E s := by
  obtain ⟨od, J, hl⟩ := I.look
  exact PySem.W.method_fn X J (PySem.W.plainGet_of hg).1 (PySem.W.plainGet_of hg).2 hf (beq_iff_eq.mp ht) (by show (PySem.W.lookIn name od).map (·.isSome) = some false; rw [hl, hv]; rfl) h

theorem set_map {ns : List Str} {Q : Unit → Shared → Prop} (X : K.In s.heap) (I : ObjM s.heap x dx C mA)
    (hs : PySem.W.findIn K (.ref C) "__setattr__" = some (some (.builtin "object.__setattr__"))) (hp : PySem.W.plainOver K C = true) (ht : PySem.W.takerIn K C name = some none) (hh : PySem.W.hasDictIn K C = true)
    (hw : PySem.Within mA ns) (hsz : ns.length ≤ sizeLine)
    (h : ∀ h', ObjM h' x dx C (fun y => if y = name then some v else mA y) → Heap.SameBut dx s.heap h' → Q () { s with heap := h', toks := s.toks + 2 }) :
    wpAny (model prog w) A (setAttr (.ref x) name v) Q E s := by
  obtain ⟨od, J, hl⟩ := I.look
  refine PySem.W.set_plain X J hs (PySem.W.osa_open (s := { s with toks := s.toks + 1 }) (r := none) X J hp ht fun b => ?_)
  obtain ⟨cd, hc, hd'⟩ := PySem.W.any_some hh
  have hx : s.heap.get? x = some ⟨.ref C, some dx, .plain, #[]⟩ := I.obj
  refine wpAny_bind (wpAny_pure (wpAny_bind (wpAny_bind (wpAny_loadPart hx (wpAny_bind (PySem.W.Looks.here (s := { s with toks := s.toks + 1 }) (PySem.W.looks_clsIn X hc) ?_))))))
  rw [hd']
  refine wpAny_pure (a := some dx) (wpAny_bind (wpAny_pure (wpAny_bind ?_)))
  refine wpAny_nsSet1 (s := { s with toks := s.toks + 1 }) I.ns fun h' hn2 hs2 => ?_
  obtain ⟨oD, esD, epD, hoD, hdD, hcD⟩ := hn2.count (PySem.Within.cons name v hw)
  refine wpAny_bind (wpAny_lookBehind hoD (by rw [hdD]; exact pastItsLine_dict (Nat.le_trans hcD (by rw [List.length_cons]; omega))) ?_)
  exact wpAny_pure (h _ ⟨(hs2.2 _ (Ne.symm I.ne)).trans I.obj, hn2, I.ne⟩ hs2)


theorem make_map {R : Result → Shared → Prop} {vs : List Value} {kw : List (Str × Value)} (X : K.In s.heap) (hm : PySem.W.makesIn K C = true)
    (hi : PySem.W.findIn K (.ref C) "__init__" = some (some (.ref f))) (hf : PySem.W.typeIn K (.ref f) = some (.type "function"))
    (h : codeAny (model prog w) (A.under (.builtin "type.__call__" ⟨.ref C :: vs, kw⟩)) (.call (.ref f) ⟨.ref (s.heap.objs.size + 1) :: vs, kw⟩) (PySem.W.InitBack (s.heap.objs.size + 1) R)
      { s with heap := (s.heap.push PySem.W.emptyDict).push (PySem.W.instObj C s.heap.objs.size) }) :
    codeAny (model prog w) A (.call (.ref C) ⟨vs, kw⟩) R s := by
  obtain ⟨hh, g, d, t, os⟩ := s
  exact PySem.W.make_core (PySem.W.makes_of X hm) (PySem.W.looks_findIn X hi) (fun self => PySem.W.bind_fn X self hf) (.inl rfl) h

end


def putF (f : Str) (v : V) : List (Str × V) → List (Str × V)
  | [] => [(f, v)]
  | (g, x) :: r => if g = f then (g, v) :: r else (g, x) :: putF f v r
theorem lookup_putF (f g : Str) (v : V) : ∀ fs : List (Str × V), (putF f v fs).lookup g = if g = f then some v else fs.lookup g
  | [] => by
    show List.lookup g [(f, v)] = _
    by_cases h : g = f
    · have hb : (g == f) = true := beq_iff_eq.mpr h
      simp only [List.lookup, hb, if_pos h]
    · have hb : (g == f) = false := beq_eq_false_iff_ne.mpr h
      simp only [List.lookup, hb, if_neg h]
  | (k, x) :: r => by
    have ih := lookup_putF f g v r
    rw [show putF f v ((k, x) :: r) = (if k = f then (k, v) :: r else (k, x) :: putF f v r) from rfl]
    by_cases hk : k = f
    · rw [if_pos hk]
      by_cases h : g = k
      · have hb : (g == k) = true := beq_iff_eq.mpr h
        simp only [List.lookup, hb, if_pos (h.trans hk)]
      · have hb : (g == k) = false := beq_eq_false_iff_ne.mpr h
        simp only [List.lookup, hb, if_neg (fun e : g = f => h (e.trans hk.symm))]
    · rw [if_neg hk]
      by_cases h : g = k
      · have hb : (g == k) = true := beq_iff_eq.mpr h
        simp only [List.lookup, hb, if_neg (fun e : g = f => hk (h.symm.trans e))]
      · have hb : (g == k) = false := beq_eq_false_iff_ne.mpr h
        simp only [List.lookup, hb]
        exact ih
theorem keys_putF (f : Str) (v : V) : ∀ fs : List (Str × V), f ∈ (putF f v fs).map (·.1) ∧ ∀ g, g ∈ fs.map (·.1) → g ∈ (putF f v fs).map (·.1)
  | [] => ⟨by simp [putF], fun g h => by simp at h⟩
  | (k, x) :: r => by
    obtain ⟨i1, i2⟩ := keys_putF f v r
    rw [show putF f v ((k, x) :: r) = (if k = f then (k, v) :: r else (k, x) :: putF f v r) from rfl]
    by_cases hk : k = f
    · rw [if_pos hk]
      subst hk
      exact ⟨by simp, fun g h => by simpa using h⟩
    · rw [if_neg hk]
      refine ⟨?_, fun g h => ?_⟩
      · rw [List.map_cons]
        exact List.mem_cons_of_mem _ i1
      · rw [List.map_cons] at h ⊢
        rcases List.mem_cons.mp h with e | e
        · exact List.mem_cons.mpr (.inl e)
        · exact List.mem_cons_of_mem _ (i2 g e)
theorem length_putF (f : Str) (v : V) : ∀ fs : List (Str × V), (putF f v fs).length ≤ fs.length + 1
  | [] => by simp [putF]
  | (k, x) :: r => by
    have ih := length_putF f v r
    rw [show putF f v ((k, x) :: r) = (if k = f then (k, v) :: r else (k, x) :: putF f v r) from rfl]
    by_cases hk : k = f
    · rw [if_pos hk, List.length_cons, List.length_cons]; omega
    · rw [if_neg hk, List.length_cons, List.length_cons]; omega

theorem RelO.some_of {v : V} {o : Option Value} (r : RelO (some v) o) : ∃ u, o = some u ∧ RelV v u := by
  cases o with
  | none => exact (show False from r).elim
  | some u => exact ⟨u, rfl, r⟩
theorem RelO.none_of {o : Option Value} (r : RelO none o) : o = none := by
  cases o with
  | none => rfl
  | some u => exact (show False from r).elim
theorem handed_of {v : V} {u : Value} (r : RelV v u) : PySem.W.handedIn u = true := by
  cases v with
  | non => cases (show u = Value.none from r); rfl
  | bl b => cases (show u = Value.bool b from r); rfl
  | int i => obtain ⟨t, e⟩ := (show ∃ t, u = Value.int i t from r); cases e; rfl
  | str x => obtain ⟨t, e⟩ := (show ∃ t, u = Value.str x t from r); cases e; rfl
  | byt b => obtain ⟨t, e⟩ := (show ∃ t, u = Value.bytes b t from r); cases e; rfl
  | flt b => obtain ⟨t, e⟩ := (show ∃ t, u = Value.float b t from r); cases e; rfl
  | ref a => cases (show u = Value.ref a from r); rfl
  | ty n => cases (show u = Value.type n from r); rfl

section
variable {P : Program} {w : World} {H H' : Hp} {h h' : Heap} {a C dx : Addr} {fs fs' : List (Str × V)}
theorem ins_get (hok : HOk P w H h) (e : H a = some (.ins C dx fs)) : ∃ mA, ObjM h a dx C mA ∧ (∀ f, RelO (fs.lookup f) (mA f)) ∧ PySem.Within mA (fs.map (·.1)) ∧ fs.length ≤ 1000 ∧ H dx = some (.own a) := by
  obtain ⟨d, z, ne, ob, mA, n, r, q⟩ := (show ObjOk P w H h a (.ins C dx fs) from hok a _ e)
  exact ⟨mA, ⟨ob, n, ne⟩, r, q, z, d⟩
end


structure Cls (K : PySem.W.Frag) (C : Addr) : Prop where
  pg : PySem.W.plainGet K C Str.empty = true
  hd : PySem.W.hasDictIn K C = true
  po : PySem.W.plainOver K C = true
  sa : PySem.W.findIn K (.ref C) "__setattr__" = some (some (.builtin "object.__setattr__"))
theorem Cls.get {K : PySem.W.Frag} {C : Addr} (c : Cls K C) (f : Str) : PySem.W.plainGet K C f = true := c.pg

def NoAttr (K : PySem.W.Frag) (C : Addr) (f : Str) : Prop := PySem.W.findIn K (.ref C) f = some none
theorem NoAttr.taker {K : PySem.W.Frag} {C : Addr} {f : Str} (n : NoAttr K C f) : PySem.W.takerIn K C f = some none := by
  unfold PySem.W.takerIn
  rw [show PySem.W.findIn K (.ref C) f = some none from n]
  rfl

structure Meth (K : PySem.W.Frag) (C : Addr) (m : Str) (f : Addr) : Prop where
  at_ : PySem.W.findIn K (.ref C) m = some (some (.ref f))
  fn : PySem.W.isFn K (.ref f) = true
  kp : PySem.W.keepIn K (.ref f) = true

section
variable {X : Cx} {pins : List (Addr × Obj)} {σ : St} {H : Hp} {s : Shared} {a C dx : Addr} {fs : List (Str × V)} {f : Str} {v : V} {A : Around} {E : Value → Shared → Prop}

theorem getattr_ok {b : Bool} {Q : Value → Shared → Prop} (I : Inv X pins σ H s) (e : H a = some (.ins C dx fs)) (c : Cls X.K C) (n : NoAttr X.K C f) (l : fs.lookup f = some v)
    (h : ∀ u s', Inv X pins σ H s' → RelV v u → Q u s') : wpAny (model X.prog X.w) A (getAttr (.ref a) f b) Q E s := by
  obtain ⟨mA, O, r, _, _, _⟩ := ins_get I.hok e
  obtain ⟨u, hu, ru⟩ := RelO.some_of (v := v) (o := mA f) (by rw [← l]; exact r f)
  exact get_map I.kIn O (c.get f) c.hd n hu (handed_of ru) (h u _ (I.tok _) ru)

theorem getmeth_ok {m : Str} {g : Addr} {pl : Sem Bool} {Q : Value × List Value → Shared → Prop} (I : Inv X pins σ H s) (e : H a = some (.ins C dx fs)) (c : Cls X.K C) (k : Meth X.K C m g) (l : fs.lookup m = none)
    (h : Q (.ref g, [.ref a]) s) : wpAny (model X.prog X.w) A (getMethod (.ref a) m pl) Q E s := by
  obtain ⟨mA, O, r, _, _, _⟩ := ins_get I.hok e
  have hn : mA m = none := RelO.none_of (by rw [← l]; exact r m)
  exact get_meth I.kIn O (c.get m) k.at_ k.fn hn h

theorem setattr_ok {y : V} {u : Value} {Q : Unit → Shared → Prop} (I : Inv X pins σ H s) (e : H a = some (.ins C dx fs)) (c : Cls X.K C) (n : NoAttr X.K C f) (hl : fs.length < 1000) (ry : RelV y u)
    (h : ∀ s', Inv X pins σ (upd H a (.ins C dx (putF f y fs))) s' → Q () s') : wpAny (model X.prog X.w) A (setAttr (.ref a) f u) Q E s := by
  obtain ⟨mA, O, r, wi, _, ho⟩ := ins_get I.hok e
  have hz : (fs.map (·.1)).length ≤ sizeLine := by rw [List.length_map, sizeLine_eq]; omega
  refine set_map I.kIn O c.sa c.po n.taker c.hd wi hz fun h' O' sb => h _ ?_
  have hd : ∃ o, h'.get? dx = some o := let ⟨o, _, _, e', _⟩ := O'.ns; ⟨o, e'⟩
  refine I.write (x := a) (e := dx) (by rw [e]; exact True.intro) (.inr ho) (fun b q hb z => (sb.2 b hb).trans z) hd ?_
  refine ⟨by rw [upd_ne O.ne]; exact ho, ?_, O.ne, O'.obj, _, O'.ns, fun g => ?_, fun g hg => ?_⟩
  · have := length_putF f y fs; omega
  · show RelO ((putF f y fs).lookup g) (if g = f then some u else mA g)
    rw [lookup_putF]
    by_cases q : g = f
    · rw [if_pos q, if_pos q]; exact ry
    · rw [if_neg q, if_neg q]; exact r g
  · by_cases q : g = f
    · rw [q]; exact (keys_putF f y fs).1
    · refine (keys_putF f y fs).2 g (wi g fun z => hg ?_)
      show (if g = f then some u else mA g) = none
      rw [if_neg q]; exact z


theorem Inv.made (I : Inv X pins σ H s) : Inv X pins σ (upd (upd H s.heap.objs.size (.own (s.heap.objs.size + 1))) (s.heap.objs.size + 1) (.ins C s.heap.objs.size []))
    { s with heap := (s.heap.push PySem.W.emptyDict).push (PySem.W.instObj C s.heap.objs.size) } := by
  have e1 : (s.heap.push PySem.W.emptyDict).get? s.heap.objs.size = some PySem.W.emptyDict := Heap.get?_push_size s.heap rfl
  have e2 : ((s.heap.push PySem.W.emptyDict).push (PySem.W.instObj C s.heap.objs.size)).get? (s.heap.objs.size + 1) = some (PySem.W.instObj C s.heap.objs.size) := by
    have := Heap.get?_push_size (s.heap.push PySem.W.emptyDict) (o := PySem.W.instObj C s.heap.objs.size) rfl
    rwa [Heap.size_push] at this
  have e3 : (s.heap.push PySem.W.emptyDict).Ns s.heap.objs.size (fun _ => none) := ⟨PySem.W.emptyDict, #[], _, e1, rfl, (fun e he => absurd he (by simp)), fun _ => rfl⟩
  have I1 := I.laid (a := s.heap.objs.size) (o := .own (s.heap.objs.size + 1)) (h' := s.heap.push PySem.W.emptyDict) (t' := s.toks) (fun b u q => Heap.get?_push_of_some _ q) (Nat.le_refl _) ⟨_, e1⟩
  refine I1.laid (a := s.heap.objs.size + 1) (o := .ins C s.heap.objs.size []) (t' := s.toks) (fun b u q => Heap.get?_push_of_some _ q) (Nat.le_of_eq (Heap.size_push _ _)) ?_
  have ne : s.heap.objs.size ≠ s.heap.objs.size + 1 := Nat.ne_of_lt (Nat.lt_succ_self _)
  refine ⟨by rw [upd_ne ne, upd_same], Nat.zero_le _, ne, e2, fun _ => none, (Heap.Ns1.of_empty e3).at fun o q => Heap.get?_push_of_some _ q, fun _ => True.intro, fun y hy => absurd rfl hy⟩


theorem attr_of {prog : Program} {w : World} {env : Env} {e : Expr} {f : Str} {pos : Pos} {s : Shared} {Q : Value → Shared → Prop} (hb : attributeBase e f env (eval e env) = eval e env)
    (h : wpAny (model prog w) A (eval e env) (fun o s₁ => wpAny (model prog w) A (getAttr o f true) Q E s₁) E s) : wpAny (model prog w) A (eval (.Attribute e f pos) env) Q E s :=
  Attribute_any_ h (by rw [arm_eval_Attribute, hb])
end



def tFld (K : PySem.W.Frag) (ta : TE) (f : Str) : TE := fun σ H Q => ta σ H fun x H1 => ∃ a C dx fs v, x = .ref a ∧ H1 a = some (.ins C dx fs) ∧ Cls K C ∧ NoAttr K C f ∧ fs.lookup f = some v ∧ Q v H1

def sFld (K : PySem.W.Frag) (ta tv : TE) (f : Str) : TS := fun D σ H => tv σ H fun y H1 => ta σ H1 fun x H2 => ∃ a C dx fs, x = .ref a ∧ H2 a = some (.ins C dx fs) ∧ Cls K C ∧ NoAttr K C f ∧ fs.length < 1000 ∧
  D.nx σ (upd H2 a (.ins C dx (putF f y fs)))

section
variable {X : Cx} {o e value : Expr} {f : Str} {pos pos' tpos : Pos} {ta tv : TE}
theorem pe_fld (he : PE X e ta) (hb : attributeBase e f X.env (eval e X.env) = eval e X.env) : PE X (.Attribute e f pos) (tFld X.K ta f) := by
  intro pins s σ H Q I h
  refine attr_of hb (thn (he pins s σ H _ I h) fun u s1 ⟨x, H1, I1, rx, a, C, dx, fs, v, ex, ea, c, n, l, q⟩ => ?_)
  subst ex
  obtain rfl : u = Value.ref a := rx
  exact getattr_ok I1 ea c n l fun u' s2 I2 ru => ⟨v, H1, I2, ru, q⟩
theorem ps_fld (ha : PE X o ta) (hv : PE X value tv) (hs : swapsWith value (some (.Attribute o f pos')) pos.line X.env = pure false) : PS X (.Assign [.Attribute o f pos'] value pos) (sFld X.K ta tv f) := by
  intro pins s σ H D I h
  refine plainObj_wpAny_Assign_Attribute (thn (hv pins s σ H _ I h) fun u s1 ⟨y, H1, I1, ry, q⟩ => thn (ha pins s1 σ H1 _ I1 q) fun ov s2 ⟨x, H2, I2, rx, a, C, dx, fs, ex, ea, c, n, l, q2⟩ => ?_) hs
  subst ex
  obtain rfl : ov = Value.ref a := rx
  exact setattr_ok I2 ea c n l ry fun s3 I3 => ⟨σ, _, I3, q2⟩
end


section
variable {X : Cx} {pins : List (Addr × Obj)} {σ : St} {H : Hp} {s : Shared} {A : Around} {E : Value → Shared → Prop} {Q : Value → Shared → Prop} {c : Value} {b : Bool}

inductive TyOf (K : PySem.W.Frag) (H : Hp) : V → Value → Prop where
  | non : TyOf K H .non (.type "NoneType")
  | bl (x : Bool) : TyOf K H (.bl x) (.type "bool")
  | int (i : Int) : TyOf K H (.int i) (.type "int")
  | str (x : Str) : TyOf K H (.str x) (.type "str")
  | flt (x : UInt64) : TyOf K H (.flt x) (.type "float")
  | lst {a : Addr} {xs : List V} (e : H a = some (.lst xs)) : TyOf K H (.ref a) (.type "list")
  | frz {a : Addr} {o : Obj} {xs : List V} (e : H a = some (.frz o (.lst xs))) : TyOf K H (.ref a) (.type "list")
  | tup {a : Addr} {xs : List V} (e : H a = some (.tup xs)) : TyOf K H (.ref a) (.type "tuple")
  | dK {a : Addr} {kvs : List (Key × V)} (e : H a = some (.dK kvs)) : TyOf K H (.ref a) (.type "dict")
  | dT {a : Addr} {kvs : List (List Key × V)} (e : H a = some (.dT kvs)) : TyOf K H (.ref a) (.type "dict")
  | ins {a C dx : Addr} {fs : List (Str × V)} (e : H a = some (.ins C dx fs)) (cl : Cls K C) (ha : PySem.W.findIn K (.ref C) "__class__" = some (some (.builtin "object.__class__")))
      (hn : PySem.W.specialIn K (.builtin "object.__class__") "__get__" = some (some (.builtin "getset_descriptor.__get__"))) (htk : PySem.W.takesIn K (.builtin "object.__class__") = some true)
      (hm : PySem.W.mroIn K C (.type "object") = some true) : TyOf K H (.ref a) (.ref C)

theorem isinst_ok {x : V} {u t : Value} (I : Inv X pins σ H s) (rx : RelV x u) (ty : TyOf X.K H x t) (e : PySem.W.kitOne X.K t c = some b) (h : ∀ tk, Q (.bool b) { s with toks := tk }) :
    wpAny (model X.prog X.w) A (call (.builtin "isinstance") [u, c]) Q E s := by
  cases ty with
  | non => cases (show u = Value.none from rx); exact PySem.W.kia_one PySem.W.kitx_none I.kIn True.intro e (fun z => nomatch z) h
  | bl y => cases (show u = Value.bool y from rx); exact PySem.W.kia_one PySem.W.kitx_bool I.kIn True.intro e (fun z => nomatch z) h
  | int i => obtain ⟨t, q⟩ := (show ∃ t, u = Value.int i t from rx); cases q; exact PySem.W.kia_one PySem.W.kitx_int I.kIn True.intro e (fun z => nomatch z) h
  | str y => obtain ⟨t, q⟩ := (show ∃ t, u = Value.str y t from rx); cases q; exact PySem.W.kia_one PySem.W.kitx_str I.kIn True.intro e (fun z => nomatch z) h
  | flt y => obtain ⟨t, q⟩ := (show ∃ t, u = Value.float y t from rx); cases q; exact PySem.W.kia_one PySem.W.kitx_float I.kIn True.intro e (fun z => nomatch z) h
  | @lst a xs ea =>
    cases (show u = Value.ref a from rx)
    obtain ⟨_, _, n, _, h1⟩ := (show ObjOk X.prog X.w H s.heap a (.lst xs) from I.hok a _ ea)
    exact PySem.W.kia_one PySem.W.kitx_list I.kIn ⟨_, h1, rfl⟩ e (fun z => nomatch z) h
  | @frz a ob xs ea =>
    cases (show u = Value.ref a from rx)
    obtain ⟨_, _, _, n, _, h1⟩ := (show ObjOk X.prog X.w H s.heap a (.frz ob (.lst xs)) from I.hok a _ ea)
    exact PySem.W.kia_one PySem.W.kitx_list I.kIn ⟨_, h1, rfl⟩ e (fun z => nomatch z) h
  | @tup a xs ea =>
    cases (show u = Value.ref a from rx)
    obtain ⟨_, _, _, p⟩ := (show ObjOk X.prog X.w H s.heap a (.tup xs) from I.hok a _ ea)
    obtain ⟨o, h1, h2, _⟩ := p
    exact PySem.W.kia_one PySem.W.kitx_tuple I.kIn ⟨o, h1, h2⟩ e (fun z => nomatch z) h
  | @dK a kvs ea =>
    cases (show u = Value.ref a from rx)
    obtain ⟨_, _, vs, _, p⟩ := (show ObjOk X.prog X.w H s.heap a (.dK kvs) from I.hok a _ ea)
    obtain ⟨o, es, ep, h1, h2, _⟩ := p
    exact PySem.W.kia_one PySem.W.kitx_dict I.kIn ⟨o, h1, h2.1⟩ e (fun z => nomatch z) h
  | @dT a kvs ea =>
    cases (show u = Value.ref a from rx)
    obtain ⟨_, _, xs, _, o, es, ep, h1, h2, _⟩ := (show ObjOk X.prog X.w H s.heap a (.dT kvs) from I.hok a _ ea)
    exact PySem.W.kia_one PySem.W.kitx_dict I.kIn ⟨o, h1, h2.1⟩ e (fun z => nomatch z) h
  | @ins a C dx fs ea cl ha hn htk hm =>
    cases (show u = Value.ref a from rx)
    obtain ⟨mA, O, _⟩ := ins_get I.hok ea
    obtain ⟨od, J, _⟩ := O.look
    exact PySem.W.kia_one (PySem.W.kitx_own (cl.get _) cl.hd ha hn htk hm) I.kIn J e (fun z => nomatch z) h
end
end L2

namespace L2
open PySem PySem.Spec PyProof.Rows


structure Room (k : Nat) (A : Around) : Prop where
  hd : A.handled = none
  dp : A.depth + 3 * k + 5 < recursionLimit
  un : A.units + 16 * k + 200 < cLine
theorem Room.mono {j k : Nat} {A : Around} (r : Room k A) (h : j ≤ k) : Room j A := ⟨r.hd, by have := r.dp; omega, by have := r.un; omega⟩
theorem Room.deeper {k : Nat} {A : Around} (r : Room (k + 1) A) (env : Env) : Room k (A.deeper env) :=
  ⟨r.hd, by have := r.dp; show A.depth + 1 + 3 * k + 5 < _; omega, by have := r.un; show A.units + 3 + 16 * k + 200 < _; omega⟩
theorem make_depth {A : Around} {C : Addr} {us : List Value} {kw : List (Str × Value)} : (A.under (.builtin "type.__call__" ⟨.ref C :: us, kw⟩)).depth = A.depth + 1 := by
  first | rfl | simp [Around.under, Code.weight, Code.isCreation, Code.isGuard, Code.isCaller, Code.frames, Code.isFrame, guardIds]
theorem make_units {A : Around} {C : Addr} {us : List Value} {kw : List (Str × Value)} : (A.under (.builtin "type.__call__" ⟨.ref C :: us, kw⟩)).units = A.units + 1 := by
  first | rfl | simp [Around.under, Code.cUnits, Code.frames, Code.isFrame]
theorem Room.make {k : Nat} {A : Around} (r : Room (k + 1) A) (C : Addr) (us : List Value) (kw : List (Str × Value)) : Room k (A.under (.builtin "type.__call__" ⟨.ref C :: us, kw⟩)) :=
  ⟨r.hd, by have := r.dp; rw [make_depth]; omega, by have := r.un; rw [make_units]; omega⟩
theorem Room.depth {k : Nat} {A : Around} (r : Room k A) : A.depth < recursionLimit := by have := r.dp; omega
theorem Room.units {k : Nat} {A : Around} (r : Room k A) : A.units + 64 < cLine := by have := r.un; omega
def tNil : TA := fun _ H Q => Q [] H
def tCons (ta : TE) (tr : TA) : TA := fun σ H Q => ta σ H fun x H1 => tr σ H1 fun xs H2 => Q (x :: xs) H2
section
variable {X : Cx} {e : Expr} {es : List Expr} {te : TE} {t : TA} {pos : Pos}
theorem pa_nil : PA X [] tNil := fun _ _ _ _ H Q I h => Calls.spliced_nil ⟨[], H, I, .nil, h⟩
theorem pa_cons (ha : PE X e te) (hr : PA X es t) (hs : starEach (e :: es) X.env = (false, eval e X.env) :: starEach es X.env := by rfl) : PA X (e :: es) (tCons te t) := by
  intro pos pins s σ H Q I h
  rw [hs]
  show wpAny _ _ (spliced ((false, eval e X.env) :: backTo pos (starEach es X.env))) _ _ s
  refine Calls.spliced_cons (thn (ha pins s σ H _ I h) fun u s1 ⟨x, H1, I1, r1, q1⟩ => ?_)
  exact thn (hr pos pins s1 σ H1 _ I1 q1) fun us s2 ⟨xs, H2, I2, r2, q2⟩ => ⟨x :: xs, H2, I2, .cons r1 r2, q2⟩


def tTup (t : TA) : TE := fun σ H Q => t σ H fun xs H1 => xs.length ≤ sizeLine ∧ ∀ p, H1 p = none → Q (.ref p) (upd H1 p (.tup xs))
def tLst (t : TA) : TE := fun σ H Q => t σ H fun xs H1 => xs.length ≤ sizeLine ∧ ∀ p, H1 p = none → Q (.ref p) (upd H1 p (.lst xs))
theorem pe_tup {x1} (h : PA X es t) : PE X (.Tuple es x1 pos) (tTup t) := by
  intro pins s σ H Q I hq
  refine wpAny_Tuple_spliced (thn (h pos pins s σ H _ I hq) fun us s1 ⟨xs, H1, I1, r, z, q⟩ => ⟨by rw [← r.length]; exact z, ?_⟩)
  have hf : H1 s1.heap.objs.size = none := I1.hok.fresh (Nat.le_refl _)
  refine ⟨.ref s1.heap.objs.size, upd H1 s1.heap.objs.size (.tup xs), I1.laid (t' := s1.toks) (fun b u e => Heap.get?_push_of_some _ e) (Nat.le_refl _) ?_, rfl, q _ hf⟩
  exact ⟨z, us, r, ⟨_, Heap.get?_push_size _ rfl, rfl, _, rfl⟩⟩
theorem pe_lst (h : PA X es t) : PE X (.List es pos) (tLst t) := by
  intro pins s σ H Q I hq
  refine wpAny_List_spliced (thn (h pos pins s σ H _ I hq) fun us s1 ⟨xs, H1, I1, r, z, q⟩ => ⟨by rw [← r.length]; exact z, ?_⟩)
  have hf : H1 s1.heap.objs.size = none := I1.hok.fresh (Nat.le_refl _)
  refine ⟨.ref s1.heap.objs.size, upd H1 s1.heap.objs.size (.lst xs), I1.laid (t' := s1.toks) (fun b u e => Heap.get?_push_of_some _ e) (Nat.le_refl _) ?_, rfl, q _ hf⟩
  exact ⟨z, us, 0, r, Heap.get?_push_size _ rfl⟩
end



abbrev Sp := List V → Hp → VK → XK → Prop

abbrev CXT := List Env → Hp → Shared → XK → Value → Shared → Prop


structure Env0 (P : Program) (w : World) (K : PySem.W.Frag) (mg : Str → Option Value) (base : Heap) (A : Around) (outer : List Env) (s : Shared) (H : Hp) : Prop where
  frames : A.frames = some outer
  mod : Mod K mg base
  bs : ∀ b o, base.get? b = some o → s.heap.get? b = some o ∧ H b = none
  bsz : base.objs.size ≤ s.heap.objs.size
  funs : s.heap.FunFrames base outer
  frf : ∀ b ∈ frs outer, H b = none
  hok : HOk P w H s.heap
  bare : AllBare s.gens

def CE (outer : List Env) (P : Program) (w : World) (H : Hp) (s : Shared) (Q : VK) (u : Value) (s' : Shared) : Prop :=
  ∃ v H', s'.os = s.os ∧ AllBare s'.gens ∧ Un (frs outer) [] H H' s.heap s'.heap ∧ HOk P w H' s'.heap ∧ RelV v u ∧ Q v H'
def CR (CX : CXT) (outer : List Env) (P : Program) (w : World) (H : Hp) (s : Shared) (Q : VK) (E : XK) (r : Result) (s' : Shared) : Prop :=
  match r with
  | .ok (.ret u) => CE outer P w H s Q u s'
  | .ok _ => False
  | .error e => CX outer H s E e s'
structure FnOk (P : Program) (w : World) (K : PySem.W.Frag) (mg : Str → Option Value) (base : Heap) (CX : CXT) (k : Nat) (f : Addr) (fd : FuncData) (ps : List Str) (sp : Sp) : Prop where
  len : ∀ vs H Q E, sp vs H Q E → vs.length = ps.length
  run : ∀ (A : Around) (outer : List Env) (s : Shared) (H : Hp) (args : Args) (us : List Value) (vs : List V) (Q : VK) (E : XK), Room k A → Env0 P w K mg base A outer s H → BindsTo s fd args (ps.zip us) → Vals vs us → sp vs H Q E →
    codeAny (model P w) A (.call (.ref f) args) (CR CX outer P w H s Q E) s
theorem FnOk.mono {P : Program} {w : World} {K : PySem.W.Frag} {mg : Str → Option Value} {base : Heap} {CX : CXT} {j k : Nat} {f : Addr} {fd : FuncData} {ps : List Str} {sp : Sp} (F : FnOk P w K mg base CX j f fd ps sp) (h : j ≤ k) :
    FnOk P w K mg base CX k f fd ps sp := ⟨F.len, fun A outer s H args us vs Q E hr => F.run A outer s H args us vs Q E (hr.mono h)⟩

theorem Env0.make {P : Program} {w : World} {K : PySem.W.Frag} {mg : Str → Option Value} {base : Heap} {A : Around} {outer : List Env} {s : Shared} {H : Hp} (e : Env0 P w K mg base A outer s H) (C : Addr) (us : List Value) (kw : List (Str × Value)) :
    Env0 P w K mg base (A.under (.builtin "type.__call__" ⟨.ref C :: us, kw⟩)) outer s H := ⟨by first | exact e.frames | (simpa [Around.under, Code.envs, Code.isFrame, pushEnvs] using e.frames), e.mod, e.bs, e.bsz, e.funs, e.frf, e.hok, e.bare⟩
section
variable {X : Cx} {pins : List (Addr × Obj)} {σ : St} {H : Hp} {s s' : Shared}

theorem Inv.env0 (I : Inv X pins σ H s) : Env0 X.prog X.w X.K X.mg X.base X.A X.stack s H :=
  ⟨I.ok.frames, I.ok.mod, I.bs, Nat.le_trans I.ok.bsz I.sz, I.stack, I.stkFree, I.hok, I.bare⟩

theorem Inv.after {Q : VK} {u : Value} (I : Inv X pins σ H s) (h : CE X.stack X.prog X.w H s Q u s') : EP X pins σ Q u s' := by
  obtain ⟨v, H', os, bare, un, hok, r, q⟩ := h
  obtain ⟨hh, g, d, t, os'⟩ := s'
  obtain rfl : os' = s.os := os
  exact ⟨v, H', I.call (h' := hh) (g' := g) (d' := d) (t' := t) (ch := []) un hok bare (fun b z => absurd z (by simp)), r, q⟩
end



def tCall (sp : Sp) (dvs : List V) (E : XK) (t : TA) : TE := fun σ H Q => t σ H fun vs H1 => sp (vs ++ dvs) H1 Q E

def tMake (C : Addr) (sp : Sp) (dvs : List V) (E : XK) (t : TA) : TE := fun σ H Q => t σ H fun vs H1 => ∀ x dx, H1 x = none → H1 dx = none → dx ≠ x →
  sp (.ref x :: (vs ++ dvs)) (upd (upd H1 dx (.own x)) x (.ins C dx [])) (fun v H2 => v = .non ∧ Q (.ref x) H2) E


def Binds (K : PySem.W.Frag) (fd : FuncData) (ps : List Str) (ds : List Value) : Prop :=
  ∀ (s : Shared) (us : List Value), K.In s.heap → (us ++ ds).length = ps.length → BindsTo s fd ⟨us, []⟩ (ps.zip (us ++ ds))

theorem Binds.all {K : PySem.W.Frag} {fd : FuncData} {ps : List Str} (h : ∀ us : List Value, us.length = ps.length → bindArgs fd ⟨us, []⟩ = pure (ps.zip us)) : Binds K fd ps [] := fun s us _ hl => by
  rw [List.append_nil] at hl ⊢
  exact .of_eq (h us hl)


def Passes (CX : CXT) (X : Cx) (E : XK) : Prop := ∀ (pins : List (Addr × Obj)) (σ : St) (H : Hp) (s : Shared) (e : Value) (s' : Shared), Inv X pins σ H s → CX X.stack H s E e s' → X.xe e s'

section
variable {X : Cx} {CX : CXT} {k : Nat} {f C : Addr} {fd : FuncData} {ps : List Str} {sp : Sp} {dvs : List V} {ds : List Value} {E : XK} {x m : Str} {p pos apos : Pos} {e o : Expr} {es : List Expr} {ta : TE} {t : TA}


theorem run_fn {pins : List (Addr × Obj)} {σ : St} {H : Hp} {s : Shared} {Q : VK} {us : List Value} {vs : List V} (F : FnOk X.prog X.w X.K X.mg X.base CX k f fd ps sp) (hr : Room k X.A) (hb : Binds X.K fd ps ds) (hd : Vals dvs ds) (hx : Passes CX X E)
    (I : Inv X pins σ H s) (r : Vals vs us) (h : sp (vs ++ dvs) H Q E) : wpAny (model X.prog X.w) X.A (call (.ref f) us) (EP X pins σ Q) X.xe s := by
  have r2 : Vals (vs ++ dvs) (us ++ ds) := r.append hd
  have hl : (us ++ ds).length = ps.length := by rw [← r2.length]; exact F.len _ _ _ _ h
  refine wpAny_call (codeAny_mono (F.run X.A X.stack s H ⟨us, []⟩ (us ++ ds) (vs ++ dvs) Q E hr I.env0 (hb s us I.kIn hl) r2 h) fun r s' hq => ?_)
  cases r with
  | error e => exact hx pins σ H s e s' I hq
  | ok fl =>
    cases fl with
    | ret u => exact I.after hq
    | next => exact False.elim hq
    | brk => exact False.elim hq
    | cont => exact False.elim hq

theorem pe_call (F : FnOk X.prog X.w X.K X.mg X.base CX k f fd ps sp) (hr : Room k X.A) (hg : Gl X x) (hm : X.mg x = some (.ref f)) (hk : PySem.W.keepIn X.K (.ref f) = true) (hb : Binds X.K fd ps ds) (hd : Vals dvs ds) (hx : Passes CX X E)
    (ha : PA X (e :: es) t) (hdb : (x == ("__debug__" : Str)) = false := by decide) (he : starEach (e :: es) X.env = (false, eval e X.env) :: starEach es X.env := by rfl) (hpl : (backTo pos (starEach es X.env)).any (·.1) = false := by rfl) :
    PE X (.Call (.Name x p) (e :: es) [] pos) (tCall sp dvs E t) := by
  intro pins s σ H Q I h
  refine wpAny_Call_Name_kw (ld_glob I hg hm ?_ hdb)
  refine PySem.W.callWith_K (h₀ := X.base) I.ok.mod.kin hk (thn (ha pos pins s σ H _ I h) fun us s1 ⟨vs, H1, I1, r, q⟩ => ⟨I1.kIn, ?_⟩) he hpl
  exact run_fn F hr hb hd hx I1 r q
structure Mk (K : PySem.W.Frag) (C f : Addr) : Prop where
  makes : PySem.W.makesIn K C = true
  init : PySem.W.findIn K (.ref C) "__init__" = some (some (.ref f))
  fn : PySem.W.isFn K (.ref f) = true
  kp : PySem.W.keepIn K (.ref C) = true

theorem run_make {pins : List (Addr × Obj)} {σ : St} {H : Hp} {s : Shared} {Q : VK} {us : List Value} {vs : List V} (M : Mk X.K C f) (F : FnOk X.prog X.w X.K X.mg X.base CX k f fd ps sp) (hr : Room (k + 1) X.A) (hb : Binds X.K fd ps ds) (hd : Vals dvs ds)
    (hx : Passes CX X E) (I : Inv X pins σ H s) (r : Vals vs us)
    (h : ∀ x dx, H x = none → H dx = none → dx ≠ x → sp (.ref x :: (vs ++ dvs)) (upd (upd H dx (.own x)) x (.ins C dx [])) (fun v H2 => v = .non ∧ Q (.ref x) H2) E) :
    wpAny (model X.prog X.w) X.A (call (.ref C) us) (EP X pins σ Q) X.xe s := by
  have hq := h (s.heap.objs.size + 1) s.heap.objs.size (I.hok.fresh (Nat.le_succ _)) (I.hok.fresh (Nat.le_refl _)) (Nat.ne_of_lt (Nat.lt_succ_self _))
  have I2 := Inv.made (C := C) I
  have r2 : Vals (V.ref (s.heap.objs.size + 1) :: (vs ++ dvs)) (Value.ref (s.heap.objs.size + 1) :: (us ++ ds)) := .cons rfl (r.append hd)
  have hl : (Value.ref (s.heap.objs.size + 1) :: us ++ ds).length = ps.length := by
    have e := r2.length
    rw [F.len _ _ _ _ hq] at e
    exact e.symm
  refine wpAny_call (make_map (f := f) I.kIn M.makes M.init (beq_iff_eq.mp M.fn) (codeAny_mono (F.run _ X.stack _ _ ⟨Value.ref (s.heap.objs.size + 1) :: us, []⟩ (Value.ref (s.heap.objs.size + 1) :: (us ++ ds)) _ _ E (hr.make C us [])
    (I2.env0.make C us []) (hb _ (Value.ref (s.heap.objs.size + 1) :: us) I2.kIn hl) r2 hq) fun r s' hq' => ?_))
  cases r with
  | error e => exact hx pins σ _ _ e s' I2 hq'
  | ok fl =>
    cases fl with
    | ret u =>
      obtain ⟨v, H', I3, rv, ev, q3⟩ := I2.after hq'
      subst ev
      exact ⟨rv, ⟨V.ref (s.heap.objs.size + 1), H', I3, rfl, q3⟩⟩
    | next => exact False.elim hq'
    | brk => exact False.elim hq'
    | cont => exact False.elim hq'
theorem pe_make (M : Mk X.K C f) (F : FnOk X.prog X.w X.K X.mg X.base CX k f fd ps sp) (hr : Room (k + 1) X.A) (hg : Gl X x) (hm : X.mg x = some (.ref C)) (hb : Binds X.K fd ps ds) (hd : Vals dvs ds) (hx : Passes CX X E)
    (ha : PA X (e :: es) t) (hdb : (x == ("__debug__" : Str)) = false := by decide) (he : starEach (e :: es) X.env = (false, eval e X.env) :: starEach es X.env := by rfl) (hpl : (backTo pos (starEach es X.env)).any (·.1) = false := by rfl) :
    PE X (.Call (.Name x p) (e :: es) [] pos) (tMake C sp dvs E t) := by
  intro pins s σ H Q I h
  refine wpAny_Call_Name_kw (ld_glob I hg hm ?_ hdb)
  refine PySem.W.callWith_K (h₀ := X.base) I.ok.mod.kin M.kp (thn (ha pos pins s σ H _ I h) fun us s1 ⟨vs, H1, I1, r, q⟩ => ⟨I1.kIn, ?_⟩) he hpl
  exact run_make M F hr hb hd hx I1 r q
end



section
variable {X : Cx} {CX : CXT} {k : Nat} {f C : Addr} {fd : FuncData} {ps ks : List Str} {sp : Sp} {E : XK} {x m : Str} {p pos apos kpos : Pos} {e o : Expr} {es : List Expr} {kws : List Keyword} {te ta : TE} {t tk : TA} {nm : Option Str}
variable {g : List Value → List Value → List Value} {gV : List V → List V → List V}
end



structure FnScope (N P : List Str) (sc : Scope) : Prop where
  kind : sc.kind = .function
  co : sc.isCoroutine = false
  gen : sc.isGenerator = false
  nd : N.Nodup
  pre : N.take P.length = P
  par : ∀ x ∈ P, sc.names.lookup x = some .local ∨ sc.names.lookup x = some .cell
  nofree : ∀ y ∈ sc.names, y.2 ≠ .free

theorem bindL_out {kindOf : Str → Option NameKind} {x : Str} : ∀ {binds : List (Str × Value)} {m : Str → Option Value}, (∀ v, (x, v) ∉ binds) → bindL kindOf binds m x = m x
  | [], _, _ => rfl
  | (n, v) :: r, m, h => by
    unfold bindL
    rw [bindL_out fun w hw => h w (List.mem_cons_of_mem _ hw)]
    split
    · have : x ≠ n := by rintro rfl; exact h v List.mem_cons_self
      simp [this]
    · rfl
theorem bindC_out {kindOf : Str → Option NameKind} {x : Str} : ∀ {binds : List (Str × Value)} {m : Str → Option Value}, (∀ v, (x, v) ∉ binds) → bindC kindOf binds m x = m x
  | [], _, _ => rfl
  | (n, v) :: r, m, h => by
    unfold bindC
    rw [bindC_out fun w hw => h w (List.mem_cons_of_mem _ hw)]
    split
    · rfl
    · have : x ≠ n := by rintro rfl; exact h v List.mem_cons_self
      simp [this]
theorem bindL_get {kindOf : Str → Option NameKind} {x : Str} {v : Value} : ∀ {P : List Str} {vs : List Value} {i : Nat} {m : Str → Option Value}, P.Nodup → P[i]? = some x → vs[i]? = some v → kindOf x = some .local →
    bindL kindOf (P.zip vs) m x = some v
  | [], _, _, _, _, h, _, _ => by simp at h
  | _ :: _, [], _, _, _, _, h, _ => by simp at h
  | p :: P, w :: vs, 0, m, nd, h1, h2, hk => by
    simp at h1 h2; subst h1; subst h2
    show bindL kindOf ((p, w) :: P.zip vs) m p = _
    unfold bindL
    rw [bindL_out fun v hv => (List.nodup_cons.mp nd).1 (List.of_mem_zip hv).1, if_pos hk]
    simp
  | p :: P, w :: vs, i + 1, m, nd, h1, h2, hk => by
    show bindL kindOf ((p, w) :: P.zip vs) m x = _
    unfold bindL
    exact bindL_get (i := i) (List.nodup_cons.mp nd).2 (by simpa using h1) (by simpa using h2) hk
theorem bindC_get {kindOf : Str → Option NameKind} {x : Str} {v : Value} : ∀ {P : List Str} {vs : List Value} {i : Nat} {m : Str → Option Value}, P.Nodup → P[i]? = some x → vs[i]? = some v → kindOf x ≠ some .local →
    bindC kindOf (P.zip vs) m x = some v
  | [], _, _, _, _, h, _, _ => by simp at h
  | _ :: _, [], _, _, _, _, h, _ => by simp at h
  | p :: P, w :: vs, 0, m, nd, h1, h2, hk => by
    simp at h1 h2; subst h1; subst h2
    show bindC kindOf ((p, w) :: P.zip vs) m p = _
    unfold bindC
    rw [bindC_out fun v hv => (List.nodup_cons.mp nd).1 (List.of_mem_zip hv).1, if_neg hk]
    simp
  | p :: P, w :: vs, i + 1, m, nd, h1, h2, hk => by
    show bindC kindOf ((p, w) :: P.zip vs) m x = _
    unfold bindC
    exact bindC_get (i := i) (List.nodup_cons.mp nd).2 (by simpa using h1) (by simpa using h2) hk


def start (N : List Str) (vs : List V) : St := vs.map some ++ List.replicate (N.length - vs.length) none


def cxOf (CX : CXT) (P : Program) (w : World) (K : PySem.W.Frag) (mg : Str → Option Value) (base : Heap) (N : List Str) (qual : Str) (scope : Scope) (f : Addr) (cd : Value) (A : Around) (outer : List Env) (s : Shared) (H : Hp) (E : XK) : Cx where
  prog := P
  w := w
  K := K
  mg := mg
  base := base
  A := A.deeper (envOfC qual scope s.heap.objs.size f cd)
  N := N
  s₀ := s
  H₀ := H
  env := envOfC qual scope s.heap.objs.size f cd
  outer := outer
  stack := envOfC qual scope s.heap.objs.size f cd :: outer
  ex := []
  calm := true
  fn := fun _ => true
  pn := []
  xe := fun e s' => wpAny (model P w) (A.deeper (envOfC qual scope s.heap.objs.size f cd)) (leaving (envOfC qual scope s.heap.objs.size f cd) e) (fun _ s'' => CX outer H s E e s'') (fun e' s'' => CX outer H s E e' s'') s'

theorem cell_has {sc : Scope} {n : Nat} {x : Str} (h : sc.names.lookup x = some .cell) : ∃ c, (cellsFrom n sc.names []).lookup x = some c := by
  have q := PySem.W.cellsFrom_some sc.names n [] (.inl h)
  exact Option.isSome_iff_exists.mp q

theorem inv_start {CX : CXT} {P : Program} {w : World} {K : PySem.W.Frag} {mg : Str → Option Value} {base : Heap} {N ps : List Str} {qual : Str} {scope : Scope} {f : Addr} {cd : Value} {A : Around} {outer : List Env} {s s1 : Shared} {H : Hp} {E : XK} {us : List Value} {vs : List V}
    (S : FnScope N ps scope) (hd : A.handled = none) (e0 : Env0 P w K mg base A outer s H) (hl : vs.length = ps.length) (r : Vals vs us)
    (x : InCallC s s.heap.objs.size (bindL (envOfC qual scope s.heap.objs.size f cd).kindOf (ps.zip us) fun _ => none) (cellsFrom (s.heap.objs.size + 1) scope.names []) (bindC (envOfC qual scope s.heap.objs.size f cd).kindOf (ps.zip us) fun _ => none) s1) :
    Inv (cxOf CX P w K mg base N qual scope f cd A outer s H E) [] (start N vs) H s1 := by
  have hpl : ps.length ≤ N.length := by have := congrArg List.length S.pre; rw [List.length_take] at this; omega
  obtain ⟨h1, tk, rfl, hk⟩ := x.done
  have noA : ∀ b : Addr, b ∉ (cxOf CX P w K mg base N qual scope f cd A outer s H E).ex := fun b z => absurd (show b ∈ ([] : List Addr) from z) (by simp)
  refine ⟨⟨e0.mod, S.kind, rfl, rfl, Nat.le_refl _, fun y z c h1 h2 => ?_, fun y hy => ?_, fun y c _ h => ?_, fun _ => hd, Around.frames_deeper e0.frames, .inr ⟨rfl, rfl⟩, fun b z => absurd z (noA b), e0.bs, e0.bsz, fun b _ _ => noA b, fun b z => absurd z (noA b), e0.funs, e0.frf⟩,
    rfl, e0.bare, Un.kept hk, ⟨_, x.toInCall.ns, fun i y v h1 h2 h3 => ?_⟩, fun y c h => ⟨_, x.cell y c h⟩, e0.hok.fresh (Nat.le_refl _), fun y c h => ?_, fun p hp => absurd (show p ∈ ([] : List (Addr × Obj)) from hp) (by simp), e0.hok.kept hk, ?_⟩
  · exact name_of_addr x.apart (PySem.mem_of_lookup h1) (PySem.mem_of_lookup h2)
  · have hy : scope.names.lookup y = some .cell ∨ scope.names.lookup y = some .free := hy
    rcases hy with hy | hy
    · exact cell_has hy
    · exact absurd rfl (S.nofree _ (PySem.mem_of_lookup hy))
  · exact Nat.le_of_lt (x.above y c (PySem.mem_of_lookup h))
  · have hi : i < vs.length := by
      unfold start at h2
      by_cases hi : i < vs.length
      · exact hi
      · rw [List.getElem?_append_right (by simpa using hi)] at h2
        rw [List.getElem?_replicate] at h2
        split at h2 <;> cases h2
    have ha : vs[i]? = some v := by
      unfold start at h2
      rw [List.getElem?_append_left (by simpa using hi), List.getElem?_map] at h2
      cases e : vs[i]? with
      | none => rw [e] at h2; cases h2
      | some a => rw [e] at h2; cases h2; rfl
    obtain ⟨u, hu, rv⟩ := r.get ha
    have hp : ps[i]? = some y := by
      rw [← S.pre, List.getElem?_take_of_lt (by omega)]; exact h1
    have ndP : ps.Nodup := by rw [← S.pre]; exact S.nd.sublist (List.take_sublist _ _)
    refine ⟨u, rv, ?_⟩
    rcases S.par y (List.mem_of_getElem? hp) with k | k
    · exact .inl ⟨k, bindL_get ndP hp hu k⟩
    · obtain ⟨c, e⟩ := cell_has (n := s.heap.objs.size + 1) k
      refine .inr ⟨.inl k, c, e, ?_⟩
      have q := x.cell y c e
      rw [bindC_get ndP hp hu (by show scope.names.lookup y ≠ _; rw [k]; decide)] at q
      exact q
  · exact e0.hok.fresh (Nat.le_of_lt (x.above y c (PySem.mem_of_lookup h)))
  · unfold start
    show _ = N.length
    rw [List.length_append, List.length_map, List.length_replicate]
    omega


theorem fn_of {CX : CXT} {P : Program} {w : World} {K : PySem.W.Frag} {mg : Str → Option Value} {base : Heap} {k : Nat} {f : Addr} {name qual : Str} {params : Arguments} {body : List Stmt} {scope : Scope} {dV kV doc pm cdv ct oc : Value} {an od : Option Addr}
    {osl : Array (Option Value)} {N ps : List Str} {sp : Sp} (lk : K.lookup f = some ⟨oc, od, .func (PySem.W.fnOf name qual params body scope dV kV doc pm an cdv ct), osl⟩) (hcd : PySem.W.codeIn K cdv qual = true) (S : FnScope N ps scope)
    (len : ∀ vs H Q E, sp vs H Q E → vs.length = ps.length)
    (hbody : ∀ (A : Around) (outer : List Env) (s : Shared) (H : Hp) (vs : List V) (Q : VK) (E : XK), Room k (A.deeper (envOfC qual scope s.heap.objs.size f cdv)) → sp vs H Q E →
      ∃ t, PSs (cxOf CX P w K mg base N qual scope f cdv A outer s H E) body t ∧ t { nx := fun _ H' => Q .non H', rt := Q } (start N vs) H) :
    FnOk P w K mg base CX (k + 1) f (PySem.W.fnOf name qual params body scope dV kV doc pm an cdv ct) ps sp := by
  refine ⟨len, fun A outer s H args us vs Q E hr e0 hb r hsp => ?_⟩
  have hl := len _ _ _ _ hsp
  have KX : K.In s.heap := e0.mod.kin.keeps fun b o e => (e0.bs b o e).1
  have lim : s.heap.NoLimit := e0.mod.nolimit.keeps fun b o e => (e0.bs b o e).1
  have hkind : ∀ y ∈ ps.zip us, scope.names.lookup y.1 = some .local ∨ (scope.names.lookup y.1 = some .cell ∧ ((cellsFrom (s.heap.objs.size + 1) scope.names []).lookup y.1).isSome = true) := fun ⟨n, v⟩ hy => by
    rcases S.par n (List.of_mem_zip hy).1 with q | q
    · exact .inl q
    · exact .inr ⟨q, PySem.W.cellsFrom_some _ _ _ (.inl q)⟩
  refine codeAny_call_function hr.depth (KX _ _ lk) rfl S.co S.gen rfl (PySem.W.codeRec_of KX hcd) (hb _ _ _ _ ?_)
  refine wpAny_newFunctionEnv_cells S.kind hkind fun env he s1 x => ?_
  subst he
  refine ⟨lim.keeps x.toInCall.keep, codeAny_func ?_⟩
  obtain ⟨t, ht, hq⟩ := hbody A outer s H vs Q E (hr.deeper _) hsp
  have I : Inv (cxOf CX P w K mg base N qual scope f cdv A outer s H E) [] (start N vs) H s1 := inv_start S hr.hd e0 hl r x
  refine wpAny_mono (ht [] s1 (start N vs) H _ I hq) (fun fl s' hs => ?_) fun e s' hs => hs
  have fin : ∀ {σ' : St} {H' : Hp} {v : V} {u : Value}, Inv (cxOf CX P w K mg base N qual scope f cdv A outer s H E) [] σ' H' s' → RelV v u → Q v H' → CE outer P w H s Q u s' :=
    fun {σ' H' v u} J rv q => ⟨v, H', J.os, J.bare, J.base, J.hok, rv, q⟩
  cases fl with
  | ret u =>
    obtain ⟨v, σ', H', J, rv, q⟩ := hs
    exact fin J rv q
  | next =>
    obtain ⟨σ', H', J, q⟩ := hs
    exact fin (v := V.non) (u := Value.none) J rfl q
  | brk =>
    obtain ⟨_, _, _, q⟩ := hs
    exact False.elim q
  | cont =>
    obtain ⟨_, _, _, q⟩ := hs
    exact False.elim q
end L2

namespace L2
open PySem PySem.Spec PyProof.Rows
section
variable {X : Cx} {x : Str} {p pos : Pos} {e : Expr} {es : List Expr} {t : TA} {id T : String} {r : List V → Hp → VK → Prop}

def tCB (r : List V → Hp → VK → Prop) (t : TA) : TE := fun σ H Q => t σ H fun vs H1 => r vs H1 Q

theorem pe_callB (hc : CallR X (.builtin id) r) (hg : Gl X x) (hm : X.mg x = none) (hv : bootBuiltins x = some (.builtin id)) (ha : PA X (e :: es) t) (hn : x ≠ "__name__" := by decide) (hdb : (x == ("__debug__" : Str)) = false := by decide)
    (he : starEach (e :: es) X.env = (false, eval e X.env) :: starEach es X.env := by rfl) (hpl : (backTo pos (starEach es X.env)).any (·.1) = false := by rfl) : PE X (.Call (.Name x p) (e :: es) [] pos) (tCB r t) := by
  intro pins s σ H Q I h
  refine wpAny_Call_Name_kw (ld_blt I hg hm hv ?_ hn hdb)
  exact PyProof.Rows.callWith_builtin1 (thn (ha pos pins s σ H _ I h) fun us s1 ⟨vs, H1, I1, r1, q1⟩ => hc pins s1 σ H1 vs us Q I1 r1 q1) he hpl

theorem pe_callTy (hc : CallR X (.type T) r) (hg : Gl X x) (hm : X.mg x = none) (hv : bootBuiltins x = some (.type T)) (ha : PA X (e :: es) t) (hn : x ≠ "__name__" := by decide) (hdb : (x == ("__debug__" : Str)) = false := by decide)
    (he : starEach (e :: es) X.env = (false, eval e X.env) :: starEach es X.env := by rfl) (hpl : (backTo pos (starEach es X.env)).any (·.1) = false := by rfl) : PE X (.Call (.Name x p) (e :: es) [] pos) (tCB r t) := by
  intro pins s σ H Q I h
  refine wpAny_Call_Name_kw (ld_blt I hg hm hv ?_ hn hdb)
  exact PyProof.Rows.callWith_type1 (thn (ha pos pins s σ H _ I h) fun us s1 ⟨vs, H1, I1, r1, q1⟩ => hc pins s1 σ H1 vs us Q I1 r1 q1) he hpl

end
end L2

namespace HT
open PySem PyProof.Rows


section
open PySem.SeqAt
open PySem.AutoSeq1 (wpAny_loadPart')
open PySem.MeetsSeq PySem.MeetsSeq2 PySem.MeetsSeq3

end

section
variable {prog : Program} {w : World} {A : Around} {E : Value → Shared → Prop} {s : Shared}

theorem cat_tup {t b : Addr} {vs ws : List Value} {Q : Value → Shared → Prop} (ht : IsTup s.heap t vs.toArray) (hb : IsTup s.heap b ws.toArray) (hv : vs ≠ [])
    (h1 : ws = [] → Q (.ref t) s) (h2 : ws ≠ [] → Q (.ref s.heap.objs.size) { s with heap := s.heap.push { cls := .type "tuple", data := .seq (vs ++ ws).toArray } })
    (hsz : vs.length + ws.length ≤ sizeLine) : wpAny (model prog w) A (binaryOp .Add (.ref t) (.ref b)) Q E s := by
  obtain ⟨⟨cls, dd, data, sl⟩, ho, hc, n, hd⟩ := id ht
  obtain ⟨⟨cls2, dd2, data2, sl2⟩, ho2, hc2, n2, hd2⟩ := id hb
  simp only at hc hd hc2 hd2
  subst hc hd hc2 hd2
  have e : vs.toArray ++ ws.toArray = (vs ++ ws).toArray := by simp
  by_cases hw : ws = []
  · exact concat_meets ⟨_, ho, rfl⟩ ⟨_, ho2, rfl⟩ noFill_tuple_add seq_tuple_add PySem.F.slot_tuple_add PySem.F.entry_tuple_add (PySem.F.args_tuple_add_2 _ _)
      (tuple_addW1 t b vs.toArray ws.toArray n n2 dd dd2 sl sl2 (by simpa using hv) (by simp [hw])) ⟨ho, ho2, h1 hw⟩
  · refine concat_meets ⟨_, ho, rfl⟩ ⟨_, ho2, rfl⟩ noFill_tuple_add seq_tuple_add PySem.F.slot_tuple_add PySem.F.entry_tuple_add (PySem.F.args_tuple_add_2 _ _)
      (tuple_addW2 t b vs.toArray ws.toArray n n2 dd dd2 sl sl2 (by simpa using hv) (by simpa using hw) (by rw [List.size_toArray, List.size_toArray]; exact hsz)) ⟨ho, ho2, ?_⟩
    rw [e]
    exact h2 hw



def sIx (n d : Nat) : Option Int → Nat
  | none => d
  | some v => if v < 0 then (v + (n : Int)).toNat else min v.toNat n
theorem sIx_le (n d : Nat) (hd : d ≤ n) (o : Option Int) : sIx n d o ≤ n := by
  cases o with
  | none => exact hd
  | some v =>
    show (if v < 0 then (v + (n : Int)).toNat else min v.toNat n) ≤ n
    by_cases hv : v < 0
    · rw [if_pos hv]; omega
    · rw [if_neg hv]; exact Nat.min_le_right _ _
theorem clip_eq (v : Int) (n d : Nat) : (if v < 0 then max (v + (n : Int)) 0 else min v (n : Int)) = ((sIx n d (some v) : Nat) : Int) := by
  show (if v < 0 then max (v + (n : Int)) 0 else min v (n : Int)) = (((if v < 0 then (v + (n : Int)).toNat else min v.toNat n) : Nat) : Int)
  by_cases hv : v < 0
  · simp only [if_pos hv]; omega
  · simp only [if_neg hv]; omega
theorem adjust_gen (lo hi : Option Int) (n : Nat) : Builtin.Slice.sliceAdjust lo hi 1 (n : Int) = (((sIx n 0 lo : Nat) : Int), ((sIx n n hi : Nat) : Int)) := by
  have h1 : ¬ ((1 : Int) < 0) := by omega
  unfold Builtin.Slice.sliceAdjust
  simp only [h1, if_false]
  refine Prod.ext ?_ ?_
  · cases lo with
    | none => rfl
    | some v => exact clip_eq v n 0
  · cases hi with
    | none => rfl
    | some v => exact clip_eq v n n
theorem places_gen (i j : Nat) : Builtin.Slice.slicePlaces (i : Int) (j : Int) 1 = j - i := by
  unfold Builtin.Slice.slicePlaces
  have h1 : (1 : Int) > 0 := by omega
  simp only [h1, if_true, Int.ediv_one]
  split <;> omega
theorem slicePart_ {v : Value} {o : Option Int} {Q : Option Int → Shared → Prop} (p : IsPart v o) (h : Q o s) : wpAny (model prog w) A (Builtin.Slice.slicePartIndex v) Q E s := by
  cases p with
  | none => exact slicePart_none h
  | int i t => exact slicePart_int h
theorem sliceApplied_gen {sl : Addr} {vl vu : Value} {lo hi : Option Int} {n : Nat} {Q : Int × Int × Nat → Shared → Prop} (hs : s.heap.IsSliceOf sl vl vu .none) (pl : IsPart vl lo) (pu : IsPart vu hi)
    (h : Q (((sIx n 0 lo : Nat) : Int), 1, sIx n n hi - sIx n 0 lo) s) : wpAny (model prog w) A (Builtin.Slice.sliceApplied (.ref sl) (pure (n : Int))) Q E s := by
  obtain ⟨os, hos, hcs, hds⟩ := id hs
  unfold Builtin.Slice.sliceApplied Builtin.Slice.sliceFields
  refine wpAny_bind (wpAny_bind (wpAny_field hos hds (x := vl) rfl (wpAny_bind (wpAny_field hos hds (x := vu) rfl (wpAny_bind (wpAny_field hos hds (x := .none) rfl (wpAny_pure ?_)))))))
  refine wpAny_bind (slicePart_none ?_)
  show wpAny _ _ (if ((1 : Int) == 0) = true then _ else _) _ _ s
  rw [if_neg (by decide)]
  refine wpAny_bind (slicePart_ pl (wpAny_bind (slicePart_ pu (wpAny_bind (wpAny_pure ?_)))))
  show wpAny _ _ (match Builtin.Slice.sliceAdjust lo hi 1 (n : Int) with | (lo, hi) => pure (lo, (1 : Int), Builtin.Slice.slicePlaces lo hi 1)) _ _ s
  rw [adjust_gen lo hi n]
  show wpAny _ _ (pure (((sIx n 0 lo : Nat) : Int), (1 : Int), Builtin.Slice.slicePlaces ((sIx n 0 lo : Nat) : Int) ((sIx n n hi : Nat) : Int) 1)) _ _ s
  rw [places_gen]
  exact wpAny_pure h
theorem pick_gen (xs : Array Value) (i k : Nat) : ((List.range k).filterMap fun (m : Nat) => xs[((i : Int) + (m : Int) * 1).toNat]?).toArray = ((xs.toList.drop i).take k).toArray := by
  have e : (fun (m : Nat) => xs[((i : Int) + (m : Int) * 1).toNat]?) = fun m => xs[i + m]? := by
    funext m
    have : ((i : Int) + (m : Int) * 1).toNat = i + m := by omega
    rw [this]
  rw [e]
  have := pick_run xs i k
  rw [List.filterMap_map] at this
  have e2 : ((fun x => xs[x]?) ∘ fun x => i + x) = fun m => xs[i + m]? := rfl
  rw [e2] at this
  rw [this]

theorem getItem_tuple_cut {t sl : Addr} {items : Array Value} {vl vu : Value} {lo hi : Option Int} {Q : Value → Shared → Prop} (ht : IsTup s.heap t items) (hs : s.heap.IsSliceOf sl vl vu .none) (pl : IsPart vl lo) (pu : IsPart vu hi)
    (hw : ¬ (sIx items.size 0 lo = 0 ∧ sIx items.size items.size hi = items.size))
    (h : Q (.ref s.heap.objs.size) { s with heap := s.heap.push { cls := .type "tuple", data := .seq ((items.toList.drop (sIx items.size 0 lo)).take (sIx items.size items.size hi - sIx items.size 0 lo)).toArray } })
    (hsz : items.size ≤ sizeLine) : wpAny (model prog w) A (getItem (.ref t) (.ref sl)) Q E s := by
  have htake : sizeOk (.seq ((items.toList.drop (sIx items.size 0 lo)).take (sIx items.size items.size hi - sIx items.size 0 lo)).toArray) := by
    show ((items.toList.drop (sIx items.size 0 lo)).take (sIx items.size items.size hi - sIx items.size 0 lo)).toArray.size ≤ sizeLine
    rw [List.size_toArray, List.length_take, List.length_drop, Array.length_toList]
    omega
  have hj : sIx items.size items.size hi ≤ items.size := sIx_le _ _ (Nat.le_refl _) hi
  obtain ⟨os, hos, hcs, hds⟩ := id hs
  have hTs : s.TypeIs (.ref sl) "slice" := ⟨os, hos, hcs⟩
  unfold getItem
  try with_reducible refine wpAny_holding ?_
  first | refine wpAny_bind (wpAny_pure ?_) | skip
  refine wpAny_bind (wpAny_sequenceKey ht.typeIs (by decide) ?_)
  refine wpAny_bind (wpAny_callSpecial?_slot (name := Str.ofString "__getitem__") ht.typeIs PyProof.Rows.slot_tuple_getitem
    (wpAny_call_entry PyProof.Rows.slot_tuple_getitem ht.typeIs entry_tuple_getitem ?_ (args_tuple_getitem _ _)))
  show wpAny _ _ (Builtin.Tuple.tupleItemsOf (.ref t) >>= _) _ _ s
  refine wpAny_bind (tupleItemsOf_ ht ?_)
  refine wpAny_bind (wpAny_typeOf hTs ?_)
  rw [if_pos (by decide)]
  refine wpAny_bind (sliceApplied_gen hs pl pu ?_)
  have hno : ¬ ((((sIx items.size 0 lo : Nat) : Int) == 0 && (1 : Int) == 1 && (sIx items.size items.size hi - sIx items.size 0 lo) == items.size) = true) := by
    intro q
    rw [Bool.and_eq_true, Bool.and_eq_true] at q
    have q1 : ((sIx items.size 0 lo : Nat) : Int) = 0 := eq_of_beq q.1.1
    have q2 : sIx items.size items.size hi - sIx items.size 0 lo = items.size := eq_of_beq q.2
    exact hw ⟨by omega, by omega⟩
  show wpAny _ _ (if (((sIx items.size 0 lo : Nat) : Int) == 0 && (1 : Int) == 1 && (sIx items.size items.size hi - sIx items.size 0 lo) == items.size) = true then _ else _) _ _ s
  rw [if_neg hno, pick_gen]
  first
    | exact wpAny_bind (m := Builtin.Tuple.tupleExact _) (wpAny_newObj_type (wpAny_pure ⟨_, rfl, wpAny_pure h⟩) htake)
    | exact wpAny_bind (m := Builtin.Tuple.tupleExact _) (wpAny_newObj_type (wpAny_bind (wpAny_pure (wpAny_pure ⟨_, rfl, wpAny_pure h⟩))) htake)
    | exact wpAny_bind (wpAny_bind (m := Builtin.Tuple.tupleExact _) (wpAny_newObj_type (wpAny_pure (wpAny_pure ⟨_, rfl, wpAny_pure h⟩)) htake))
    | exact wpAny_bind (wpAny_bind (m := Builtin.Tuple.tupleExact _) (wpAny_newObj_type (wpAny_pure ⟨_, rfl, wpAny_pure h⟩) htake))
end
end HT

namespace L2
open PySem PySem.Spec PyProof.Rows


abbrev TO := St → Hp → (Option Int → Hp → Prop) → Prop

def PO (X : Cx) (e : Option Expr) (t : TO) : Prop :=
  ∀ (pins : List (Addr × Obj)) (s : Shared) (σ : St) (H : Hp) (Q : Option Int → Hp → Prop), Inv X pins σ H s → t σ H Q →
    wpAny (model X.prog X.w) X.A (evalPart e X.env) (fun u s' => ∃ o H', Inv X pins σ H' s' ∧ IsPart u o ∧ Q o H') X.xe s
def tNoPart : TO := fun _ H Q => Q none H
def tPart (t : TE) : TO := fun σ H Q => t σ H fun x H1 => ∃ i, x = .int i ∧ Q (some i) H1

section
variable {X : Cx} {e : Expr} {te : TE} {lo hi : Option Expr} {tl th : TO} {pos p2 : Pos}

theorem po_none : PO X none tNoPart := by
  intro pins s σ H Q I h
  rw [evalPart_none]
  exact wpAny_pure ⟨none, H, I, .none, h⟩
theorem po_some (h : PE X e te) : PO X (some e) (tPart te) := by
  intro pins s σ H Q I hw
  rw [evalPart_some]
  refine thn (h pins s σ H _ I hw) fun u s1 ⟨x, H1, I1, r1, q1⟩ => ?_
  obtain ⟨i, rfl, q⟩ := q1
  obtain ⟨t, rfl⟩ := r1
  exact ⟨some i, H1, I1, .int i t, q⟩


def SlR (X : Cx) (r : V → Option Int → Option Int → Hp → VK → Prop) : Prop :=
  ∀ (pins : List (Addr × Obj)) (s : Shared) (σ : St) (H : Hp) (x : V) (v vl vu : Value) (lo hi : Option Int) (sl : Addr) (Q : VK), Inv X pins σ H s → RelV x v → s.heap.IsSliceOf sl vl vu .none → IsPart vl lo → IsPart vu hi → r x lo hi H Q →
    ∃ T id, typeLookup (.type T) "__getitem__" = pure (some (.builtin id)) ∧ s.TypeIs v T ∧ wpAny (model X.prog X.w) X.A (getItem v (.ref sl)) (EP X pins σ Q) X.xe s
theorem SlR.or {r r' : V → Option Int → Option Int → Hp → VK → Prop} (h : SlR X r) (h' : SlR X r') : SlR X (fun x lo hi H Q => r x lo hi H Q ∨ r' x lo hi H Q) := by
  intro pins s σ H x v vl vu lo hi sl Q I rx hs pl pu q
  rcases q with q | q
  · exact h pins s σ H x v vl vu lo hi sl Q I rx hs pl pu q
  · exact h' pins s σ H x v vl vu lo hi sl Q I rx hs pl pu q
def tSl (r : V → Option Int → Option Int → Hp → VK → Prop) (te : TE) (tl th : TO) : TE := fun σ H Q => te σ H fun x H1 => tl σ H1 fun l H2 => th σ H2 fun u H3 => r x l u H3 Q

theorem pe_slice {r : V → Option Int → Option Int → Hp → VK → Prop} (hr : SlR X r) (he : PE X e te) (hl : PO X lo tl) (hu : PO X hi th) : PE X (.Subscript e (.Slice lo hi none p2) pos) (tSl r te tl th) := by
  intro pins s σ H Q I h
  refine Subscript_ (thn (he pins s σ H _ I h) fun v s1 ⟨x, H1, I1, r1, q1⟩ => ?_)
  refine wpAny_Slice (thn (hl pins s1 σ H1 _ I1 q1) fun vl s2 ⟨l, H2, I2, pl, q2⟩ => thn (hu pins s2 σ H2 _ I2 q2) fun vu s3 ⟨u, H3, I3, pu, q3⟩ => ?_)
  rw [evalPart_none]
  refine wpAny_pure ?_
  have I4 : Inv X pins σ H3 { s3 with heap := s3.heap.push { cls := .type "slice", data := .fields #[vl, vu, .none] } } := I3.kept (t' := s3.toks) fun b ob q => Heap.get?_push_of_some _ q
  obtain ⟨T, id, hT, ht, hg⟩ := hr pins { s3 with heap := s3.heap.push { cls := .type "slice", data := .fields #[vl, vu, .none] } } σ H3 x v vl vu l u s3.heap.objs.size Q I4 r1 (Heap.IsSliceOf.new ..) pl pu q3
  show wpAny (model X.prog X.w) X.A (subscriptTail e (.Slice lo hi none p2) v (.ref s3.heap.objs.size)) (EP X pins σ Q) X.xe { s3 with heap := s3.heap.push { cls := .type "slice", data := .fields #[vl, vu, .none] } }
  exact tail_any (ops := [.ref s3.heap.objs.size, v]) ht hT hg (by with_unfolding_all rfl)


def cutV (xs : List V) (lo hi : Option Int) : List V := (xs.drop (HT.sIx xs.length 0 lo)).take (HT.sIx xs.length xs.length hi - HT.sIx xs.length 0 lo)
theorem cutV_length (xs : List V) (lo hi : Option Int) : (cutV xs lo hi).length ≤ xs.length := by
  unfold cutV
  rw [List.length_take, List.length_drop]
  omega

def rSlT (K : PySem.W.Frag) : V → Option Int → Option Int → Hp → VK → Prop := fun x lo hi H Q => ∃ a xs, x = .ref a ∧ SqT K H a xs ∧
  ¬ (HT.sIx xs.length 0 lo = 0 ∧ HT.sIx xs.length xs.length hi = xs.length) ∧ ∀ p, H p = none → Q (.ref p) (upd H p (.tup (cutV xs lo hi)))
theorem sl_tup : SlR X (rSlT X.K) := by
  intro pins s σ H x v vl vu lo hi sl Q I rx hs pl pu h
  obtain ⟨a, xs, rfl, hx, hw, q⟩ := h
  cases rx
  obtain ⟨its, r, ht, hz⟩ := I.tuple hx
  have hlen : its.toArray.size = xs.length := by rw [List.size_toArray]; exact r.length.symm
  refine ⟨"tuple", _, PyProof.Rows.slot_tuple_getitem.lookup, ht.typeIs, ?_⟩
  refine HT.getItem_tuple_cut ht hs pl pu (by rw [hlen]; exact hw) ?_ (by rw [hlen]; exact hz)
  rw [hlen]
  refine ⟨.ref s.heap.objs.size, _, I.laid (t' := s.toks) (o := .tup (cutV xs lo hi)) (fun b ob q => Heap.get?_push_of_some _ q) (Nat.le_refl _) ?_, rfl, q _ (I.hok.fresh (Nat.le_refl _))⟩
  exact ⟨Nat.le_trans (cutV_length xs lo hi) hz, _, (r.drop (HT.sIx xs.length 0 lo)).take (HT.sIx xs.length xs.length hi - HT.sIx xs.length 0 lo), IsTup.new _ _⟩


def rCatT (K : PySem.W.Frag) : R2 := fun x y H Q => ∃ a b xs ys, x = .ref a ∧ y = .ref b ∧ SqT K H a xs ∧ SqT K H b ys ∧ xs ≠ [] ∧ xs.length + ys.length ≤ sizeLine ∧
  (ys = [] → Q (.ref a) H) ∧ (ys ≠ [] → ∀ p, H p = none → Q (.ref p) (upd H p (.tup (xs ++ ys))))
theorem Vals.nil_iff {xs : List V} {us : List Value} (r : Vals xs us) : us = [] ↔ xs = [] := by
  cases r with
  | nil => simp
  | cons _ _ => simp
theorem op_catT : OpR X (binaryOp .Add) (rCatT X.K) := by
  intro pins s σ H x y v u Q I rx ry h
  obtain ⟨a, b, xs, ys, rfl, rfl, ha, hb, hx, hz, q1, q2⟩ := h
  cases rx
  cases ry
  obtain ⟨its, r1, p1, _⟩ := I.tuple ha
  obtain ⟨its2, r2, p2, _⟩ := I.tuple hb
  refine HT.cat_tup p1 p2 (fun z => hx (r1.nil_iff.mp z)) (fun z => ⟨.ref a, H, I, rfl, q1 (r2.nil_iff.mp z)⟩) (fun z => ?_) (by rw [← r1.length, ← r2.length]; exact hz)
  refine ⟨.ref s.heap.objs.size, _, I.laid (t' := s.toks) (o := .tup (xs ++ ys)) (fun b ob q => Heap.get?_push_of_some _ q) (Nat.le_refl _) ?_, rfl, q2 (fun w => z (r2.nil_iff.mpr w)) _ (I.hok.fresh (Nat.le_refl _))⟩
  exact ⟨by rw [List.length_append]; exact hz, _, r1.append r2, IsTup.new _ _⟩

end
end L2

namespace L2
open PySem PySem.Spec PyProof.Rows



def ixN (n : Nat) (i : Int) : Option Nat := if 0 ≤ i then (if i < n then some i.toNat else none) else if -(n : Int) ≤ i then some (i + n).toNat else none
def atI {α : Type} (xs : List α) (i : Int) : Option α := (ixN xs.length i).bind fun j => xs[j]?
theorem ixN_seq {n : Nat} {i : Int} {j : Nat} (h : ixN n i = some j) : seqIndex? i n = some j ∧ j < n ∧ -(n : Int) ≤ i ∧ i < n := by
  unfold ixN at h
  by_cases h0 : 0 ≤ i
  · rw [if_pos h0] at h
    by_cases h1 : i < n
    · rw [if_pos h1] at h
      have e : i.toNat = j := Option.some.inj h
      exact ⟨by rw [seqIndex_of h0 h1, e], by omega, by omega, h1⟩
    · rw [if_neg h1] at h; cases h
  · rw [if_neg h0] at h
    by_cases h1 : -(n : Int) ≤ i
    · rw [if_pos h1] at h
      have e : (i + n).toNat = j := Option.some.inj h
      exact ⟨by rw [seqIndex_neg (by omega) h1, e], by omega, h1, by omega⟩
    · rw [if_neg h1] at h; cases h
theorem atI_get {α : Type} {xs : List α} {i : Int} {v : α} (h : atI xs i = some v) : ∃ j, seqIndex? i xs.length = some j ∧ xs[j]? = some v ∧ j < xs.length ∧ -(xs.length : Int) ≤ i ∧ i < xs.length := by
  unfold atI at h
  cases e : ixN xs.length i with
  | none => rw [e] at h; cases h
  | some j =>
    rw [e] at h
    obtain ⟨h1, h2, h3, h4⟩ := ixN_seq e
    exact ⟨j, h1, h, h2, h3, h4⟩
theorem atI_nat {α : Type} {xs : List α} {j : Nat} {v : α} (h : xs[j]? = some v) : atI xs (j : Int) = some v := by
  have hj : j < xs.length := (List.getElem?_eq_some_iff.mp h).1
  have e : ixN xs.length (j : Int) = some j := by
    unfold ixN
    rw [if_pos (by omega), if_pos (by omega)]; simp
  unfold atI; rw [e]; exact h
def PlainIx (b : Expr) : Prop := ∀ o i, subscripted b false o i = operate [o, i] (getItem o i)

def IxR (X : Cx) (r : R2) : Prop :=
  ∀ (value slice : Expr) (pins : List (Addr × Obj)) (s : Shared) (σ : St) (H : Hp) (x y : V) (v u : Value) (Q : VK), Inv X pins σ H s → RelV x v → RelV y u → r x y H Q →
    subscripted slice false v u = operate [v, u] (getItem v u) → wpAny (model X.prog X.w) X.A (subscriptTail value slice v u) (EP X pins σ Q) X.xe s

section
variable {X : Cx} {a b : Expr} {ta tb : TE} {pos : Pos}
theorem IxR.or {r r' : R2} (h : IxR X r) (h' : IxR X r') : IxR X (fun x y H Q => r x y H Q ∨ r' x y H Q) := by
  intro value slice pins s σ H x y v u Q I rx ry q hs
  rcases q with q | q
  · exact h value slice pins s σ H x y v u Q I rx ry q hs
  · exact h' value slice pins s σ H x y v u Q I rx ry q hs
theorem pe_ix {r : R2} (hr : IxR X r) (ha : PE X a ta) (hb : PE X b tb) (hs : PlainIx b) : PE X (.Subscript a b pos) (tOp r ta tb) := by
  intro pins s σ H Q I h
  exact Subscript_ (binT ha hb I h fun v u s2 x y H2 I2 rx ry q => hr a b pins s2 σ H2 x y v u Q I2 rx ry q (hs _ _))

def rIxL (K : PySem.W.Frag) : R2 := fun x y H Q => ∃ p xs i v, x = .ref p ∧ y = .int i ∧ SqL K H p xs ∧ atI xs i = some v ∧ Q v H
def rIxT (K : PySem.W.Frag) : R2 := fun x y H Q => ∃ p xs i v, x = .ref p ∧ y = .int i ∧ SqT K H p xs ∧ atI xs i = some v ∧ Q v H
def rIxS : R2 := fun x y H Q => ∃ z i c, x = .str z ∧ y = .int i ∧ z.length ≤ sizeLine ∧ atI z.cps.toList i = some c ∧ Q (.str ⟨#[c]⟩) H
theorem ix_list : IxR X (rIxL X.K) := by
  intro value slice pins s σ H x y v u Q I rx ry h hs
  obtain ⟨p, xs, i, z, rfl, rfl, hq, he, q⟩ := h
  cases rx
  obtain ⟨t, rfl⟩ := ry
  obtain ⟨its, r, pl, hz⟩ := I.list hq
  obtain ⟨j, h1, h2, h3, h4, h5⟩ := atI_get he
  obtain ⟨w, ew, rw'⟩ := r.get h2
  have hl := r.length
  have hn := line63
  have fin : EP X pins σ Q w s := ⟨z, H, I, rw', q⟩
  by_cases h0 : 0 ≤ i
  · have hj : i.toNat = j := by
      rw [seqIndex_of h0 h5] at h1
      exact Option.some.inj h1
    exact item_listR pl.isList h0 (by omega) (by rw [hj]; simpa using ew) fin hs
  · have hj : (i + (its.toArray.size : Int)).toNat = j := by
      rw [seqIndex_neg (by omega) h4] at h1
      rw [List.size_toArray, ← hl]
      exact Option.some.inj h1
    exact subscriptTail_builtinR (x := w) pl.isList.typeIs slot_list_getitem.lookup
      (wpAny_getItem_list_neg (Q := fun r s' => r = w ∧ EP X pins σ Q r s') pl.isList (by omega) (by rw [List.size_toArray] <;> omega) (by omega) (by rw [hj]; simpa using ew) ⟨rfl, fin⟩) hs
theorem ix_tup : IxR X (rIxT X.K) := by
  intro value slice pins s σ H x y v u Q I rx ry h hs
  obtain ⟨p, xs, i, z, rfl, rfl, hq, he, q⟩ := h
  cases rx
  obtain ⟨t, rfl⟩ := ry
  obtain ⟨its, r, pl, hz⟩ := I.tuple hq
  obtain ⟨j, h1, h2, h3, h4, h5⟩ := atI_get he
  obtain ⟨w, ew, rw'⟩ := r.get h2
  have hl := r.length
  have hn := line63
  have fin : EP X pins σ Q w s := ⟨z, H, I, rw', q⟩
  exact subscriptTail_builtinR (x := w) pl.typeIs slot_tuple_getitem.lookup
    (getItem_tuple (j := j) (Q := fun r s' => r = w ∧ EP X pins σ Q r s') pl (by omega) (by omega) (by rw [List.size_toArray, ← hl]; exact h1) (by simpa using ew) ⟨rfl, fin⟩) hs
theorem ix_str : IxR X rIxS := by
  intro value slice pins s σ H x y v u Q I rx ry h hs
  obtain ⟨z, i, c, rfl, rfl, hz, he, q⟩ := h
  obtain ⟨t, rfl⟩ := rx
  obtain ⟨t', rfl⟩ := ry
  obtain ⟨j, h1, h2, h3, h4, h5⟩ := atI_get he
  have hl : z.cps.toList.length = z.length := by simp [Str.length]
  rw [hl] at h1 h4 h5
  have hn := line63
  exact tail_any (typeIs_str s z t) slot_str_getitem.lookup (getItem_str (c := c) (by
    have e1 : decide (i < -(2 ^ 63 : Int)) = false := decide_eq_false (by omega)
    have e2 : decide (i ≥ 2 ^ 63) = false := decide_eq_false (by omega)
    rw [e1, e2, Bool.or_false]) (by rw [h1]; simpa using h2) ⟨.str ⟨#[c]⟩, H, I.tok _, ⟨_, rfl⟩, q⟩) hs

def rIx (K : PySem.W.Frag) : R2 := fun x y H Q => rIxL K x y H Q ∨ rIxT K x y H Q ∨ rIxS x y H Q
theorem ix_seq : IxR X (rIx X.K) := ix_list.or (ix_tup.or ix_str)



theorem mapSeq_set (its : List Value) (n j : Nat) (u : Value) : Obj.mapSeq (·.setIfInBounds j u) { cls := .type "list", data := .seq its.toArray n } = { cls := .type "list", data := .seq (its.set j u).toArray n } := by
  simp [Obj.mapSeq]
theorem Inv.lst {pins : List (Addr × Obj)} {σ : St} {H : Hp} {s : Shared} {p : Addr} {xs : List V} (I : Inv X pins σ H s) (h : H p = some (.lst xs)) :
    ∃ (its : List Value) (n : Nat), Vals xs its ∧ s.heap.get? p = some { cls := .type "list", data := .seq its.toArray n } ∧ xs.length ≤ sizeLine := by
  obtain ⟨z, its, n, r, e⟩ := I.hok p _ h
  exact ⟨its, n, r, e, z⟩

theorem Inv.lstUpd {pins : List (Addr × Obj)} {σ : St} {H : Hp} {s : Shared} {p : Addr} {xs ys : List V} {its its' : List Value} {n n' : Nat} {f : Obj → Obj} (I : Inv X pins σ H s) (h : H p = some (.lst xs))
    (ho : s.heap.get? p = some { cls := .type "list", data := .seq its.toArray n }) (hf : f { cls := .type "list", data := .seq its.toArray n } = { cls := .type "list", data := .seq its'.toArray n' }) (r : Vals ys its') (hz : ys.length ≤ sizeLine) (t : Nat) :
    Inv X pins σ (upd H p (.lst ys)) { s with heap := s.heap.update p f, toks := t } := by
  have e : (s.heap.update p f).get? p = some { cls := .type "list", data := .seq its'.toArray n' } := by
    rw [Heap.get?_update_self f ho (by rw [hf] <;> rfl), hf]
  refine I.write (x := p) (e := p) (by rw [h]; trivial) (.inl rfl) (fun b u hb q => (Heap.get?_update_other _ _ (Ne.symm hb)).trans q) ⟨_, e⟩ ?_
  exact ⟨hz, its', n', r, e⟩
def rSetL : V → V → V → Hp → (Hp → Prop) → Prop := fun o i v H Q => ∃ p xs k j, o = .ref p ∧ i = .int k ∧ H p = some (.lst xs) ∧ ixN xs.length k = some j ∧ Q (upd H p (.lst (xs.set j v)))
theorem set_list : PSet X rSetL := by
  intro pins s σ H o i v ov iv u Q I ro ri rv h
  obtain ⟨p, xs, k, j, rfl, rfl, hp, hj, q⟩ := h
  cases ro
  obtain ⟨t, rfl⟩ := ri
  obtain ⟨its, n, r, ho, hz⟩ := I.lst hp
  obtain ⟨h1, h2, h3, h4⟩ := ixN_seq hj
  have hl := r.length
  have hn := line63
  have I' : Inv X pins σ (upd H p (.lst (xs.set j v))) { s with heap := s.heap.update p (Obj.mapSeq (·.setIfInBounds j u)) } :=
    I.lstUpd hp ho (mapSeq_set its n j u) (r.set rv j) (by rw [List.length_set]; exact hz) s.toks
  by_cases h0 : 0 ≤ k
  · have hk : k.toNat = j := by
      rw [seqIndex_of h0 h4] at h1
      exact Option.some.inj h1
    exact PySem.W.ki_setAt ho h0 (by omega) (by rw [List.size_toArray, ← hl]; exact h4) (by rw [hk]; exact ⟨_, I', q⟩)
  · have hk : (k + (its.toArray.size : Int)).toNat = j := by
      rw [seqIndex_neg (by omega) h3] at h1
      rw [List.size_toArray, ← hl]
      exact Option.some.inj h1
    exact PySem.W.ki_setBack ho (by omega) (by rw [List.size_toArray, ← hl]; exact h3) (by omega) (by rw [hk]; exact ⟨_, I', q⟩)


theorem slice_bounds (lo hi : Option Int) (n : Nat) : (sliceBounds lo hi none n).1 = ((HT.sIx n 0 lo : Nat) : Int) ∧ (sliceBounds lo hi none n).2.1 = ((HT.sIx n n hi : Nat) : Int) ∧ (sliceBounds lo hi none n).2.2 = 1 := by
  refine ⟨?_, ?_, rfl⟩
  · cases lo with
    | none => simp [sliceBounds, HT.sIx]
    | some i =>
      simp only [sliceBounds, HT.sIx, Option.getD_none, show (1 : Int) > 0 by decide, if_true]
      by_cases h : i < 0
      · simp only [h, if_true] <;> omega
      · simp only [h, if_false] <;> omega
  · cases hi with
    | none => simp [sliceBounds, HT.sIx]
    | some i =>
      simp only [sliceBounds, HT.sIx, Option.getD_none, show (1 : Int) > 0 by decide, if_true]
      by_cases h : i < 0
      · simp only [h, if_true] <;> omega
      · simp only [h, if_false] <;> omega
theorem slicePick_cut (its : List Value) (lo hi : Option Int) : slicePick its.toArray lo hi none = ((its.drop (HT.sIx its.length 0 lo)).take (HT.sIx its.length its.length hi - HT.sIx its.length 0 lo)).toArray := by
  obtain ⟨h1, h2, h3⟩ := slice_bounds lo hi its.toArray.size
  unfold slicePick
  rw [h1, h2, h3]
  simp only [sliceRange_one, pick_run, List.size_toArray] <;> rfl

def rSlL (K : PySem.W.Frag) : V → Option Int → Option Int → Hp → VK → Prop := fun x lo hi H Q => ∃ a xs, x = .ref a ∧ SqL K H a xs ∧ ∀ p, H p = none → Q (.ref p) (upd H p (.lst (cutV xs lo hi)))
theorem sl_list : SlR X (rSlL X.K) := by
  intro pins s σ H x v vl vu lo hi sl Q I rx hs pl pu h
  obtain ⟨a, xs, rfl, hx, q⟩ := h
  cases rx
  obtain ⟨its, r, ht, hz⟩ := I.list hx
  have hlen := r.length
  refine ⟨"list", _, slot_list_getitem.lookup, ht.isList.typeIs, ?_⟩
  refine wpAny_getItem_list_slice ht.isList hs pl pu .none (by simp) ?_ (by rw [List.size_toArray] <;> omega)
  rw [slicePick_cut, ← hlen]
  refine ⟨.ref s.heap.objs.size, _, I.laid (t' := s.toks) (o := .lst (cutV xs lo hi)) (fun b ob q => Heap.get?_push_of_some _ q) (Nat.le_refl _) ?_, rfl, q _ (I.hok.fresh (Nat.le_refl _))⟩
  exact ⟨Nat.le_trans (cutV_length xs lo hi) hz, _, 0, (r.drop (HT.sIx xs.length 0 lo)).take (HT.sIx xs.length xs.length hi - HT.sIx xs.length 0 lo), Heap.get?_push_size _ rfl⟩


theorem call_list_of : CallR X (.type "list") (fun xs H Q => ∃ p ys, xs = [.ref p] ∧ (SqL X.K H p ys ∨ SqT X.K H p ys) ∧ ∀ l, H l = none → Q (.ref l) (upd H l (.lst ys))) := by
  intro pins s σ H xs us Q I r h
  obtain ⟨p, ys, rfl, hq, q⟩ := h
  obtain ⟨u, rfl, rx⟩ := vals1 r
  cases rx
  have fin : ∀ (its : List Value), Vals ys its → ys.length ≤ sizeLine → ∀ (h' : Heap) (c' : Nat), (∀ b o', s.heap.get? b = some o' → h'.get? b = some o') →
      h'.get? s.heap.objs.size = some { cls := .type "list", dict := none, data := .seq its.toArray c', slots := #[] } → EP X pins σ Q (.ref s.heap.objs.size) { s with heap := h' } := fun its r' hz h' c' kp e =>
    ⟨.ref s.heap.objs.size, _, I.laid (t' := s.toks) kp (Nat.le_refl _) (show ObjOk X.prog X.w _ h' _ (.lst ys) from ⟨hz, its, c', r', e⟩), rfl, q _ (I.hok.fresh (Nat.le_refl _))⟩
  rcases hq with hq | hq
  · obtain ⟨its, r', pl, hz⟩ := I.list hq
    have hlen := r'.length
    obtain ⟨o, ho, hc, n, hd⟩ := pl.isList
    exact call_list_seq p (.inl rfl) ho hc hd (fun h' c' kp e => fin its r' hz h' c' kp e) (by simp only [List.size_toArray] <;> omega)
  · obtain ⟨its, r', pl, hz⟩ := I.tuple hq
    have hlen := r'.length
    obtain ⟨o, ho, hc, n, hd⟩ := pl
    exact call_list_seq p (.inr rfl) ho hc hd (fun h' c' kp e => fin its r' hz h' c' kp e) (by simp only [List.size_toArray] <;> omega)
variable {o e : Expr} {es : List Expr} {to : TE} {t : TA} {name : Str} {apos cpos : Pos} {T id : String} {r : V → List V → Hp → VK → Prop}
end
end L2

namespace L2
open PySem PySem.Spec PyProof.Rows

theorem Vals.rep {xs : List V} {us : List Value} (h : Vals xs us) : ∀ k : Nat, Vals (List.replicate k xs).flatten (List.replicate k us).flatten
  | 0 => .nil
  | k + 1 => by
    rw [List.replicate_succ, List.replicate_succ, List.flatten_cons, List.flatten_cons]
    exact Vals.append h (Vals.rep h k)
theorem foldl_rep (its : List Value) : ∀ (k : Nat) (acc : List Value),
    List.foldl (fun x1 x2 => x1 ++ x2) acc.toArray (List.replicate k its.toArray) = (acc ++ (List.replicate k its).flatten).toArray
  | 0, acc => by simp
  | k + 1, acc => by
    have e : acc.toArray ++ its.toArray = (acc ++ its).toArray := by simp
    have e2 : (acc ++ its) ++ (List.replicate k its).flatten = acc ++ (List.replicate (k + 1) its).flatten := by
      rw [List.replicate_succ, List.flatten_cons, List.append_assoc]
    rw [← e2, ← foldl_rep its k (acc ++ its), ← e, List.replicate_succ, List.foldl_cons]

section
variable {X : Cx} {pins : List (Addr × Obj)} {σ : St} {H : Hp} {s : Shared} {l b : Addr} {xs ys zs : List V}


theorem Inv.lnew {its : List Value} {t' : Nat} (I : Inv X pins σ H s) (hv : Vals ys its) (hz : ys.length ≤ sizeLine) :
    Inv X pins σ (upd H s.heap.objs.size (.lst ys)) { s with heap := s.heap.push { cls := .type "list", data := .seq its.toArray }, toks := t' } :=
  I.laid (fun _ _ q => Heap.get?_push_of_some _ q) (Nat.le_refl _) ⟨hz, its, 0, hv, Heap.get?_push_size _ rfl⟩
theorem Inv.fresh (I : Inv X pins σ H s) : H s.heap.objs.size = none := I.hok.fresh (Nat.le_refl _)
theorem Inv.lstM (I : Inv X pins σ H s) (hH : H l = some (.lst xs)) : xs.length ≤ sizeLine ∧ ∃ (its : List Value) (n : Nat), Vals xs its ∧ xs.length = its.length ∧ s.heap.get? l = some { cls := .type "list", data := .seq its.toArray n } := by
  obtain ⟨z, its, n, r, e⟩ := I.hok l _ hH
  exact ⟨z, its, n, r, r.length, e⟩

theorem notLongL {n : Nat} (h : n ≤ sizeLine) : Builtin.List.listTooLong n = false := by
  unfold Builtin.List.listTooLong
  exact decide_eq_false (by omega)
end

section
variable {X : Cx}


def rCat : R2 := fun x y H Q => ∃ l b xs zs, x = .ref l ∧ y = .ref b ∧ H l = some (.lst xs) ∧ H b = some (.lst zs) ∧ xs.length + zs.length ≤ sizeLine ∧ ∀ p, H p = none → Q (.ref p) (upd H p (.lst (xs ++ zs)))
theorem op_cat : OpR X (binaryOp .Add) rCat := by
  intro pins s σ H x y v u Q I rx ry h
  obtain ⟨l, b, xs, zs, rfl, rfl, hH, hB, hz, q⟩ := h
  cases rx
  cases ry
  obtain ⟨z, its, n, r, hl, e⟩ := I.lstM hH
  obtain ⟨z2, its2, n2, r2, hl2, e2⟩ := I.lstM hB
  refine PySem.P.add_list e e2 ?_ (by rw [List.size_toArray, List.size_toArray]; omega)
  have ea : its.toArray ++ its2.toArray = (its ++ its2).toArray := by simp
  rw [ea]
  exact ⟨.ref _, _, I.lnew (t' := s.toks) (r.append r2) (by rw [List.length_append]; omega), rfl, q _ I.fresh⟩

def rRep : R2 := fun x y H Q => ∃ l k xs, x = .ref l ∧ y = .int k ∧ H l = some (.lst xs) ∧ -(2 ^ 63) ≤ k ∧ k < 2 ^ 63 ∧ xs.length * k.toNat ≤ sizeLine ∧
  ∀ p, H p = none → Q (.ref p) (upd H p (.lst (List.replicate k.toNat xs).flatten))
theorem len_rep {α : Type} (xs : List α) (k : Nat) : (List.replicate k xs).flatten.length = k * xs.length := by
  induction k with
  | zero => simp
  | succ k ih => rw [List.replicate_succ, List.flatten_cons, List.length_append, ih, Nat.succ_mul, Nat.add_comm]
theorem op_rep : OpR X (binaryOp .Mult) rRep := by
  intro pins s σ H x y v u Q I rx ry h
  obtain ⟨l, k, xs, rfl, rfl, hH, h1, h2, hz, q⟩ := h
  cases rx
  obtain ⟨t, rfl⟩ := ry
  obtain ⟨z, its, n, r, hl, e⟩ := I.lstM hH
  have hlen : its.toArray.size * k.toNat ≤ sizeLine := by rw [List.size_toArray, ← hl]; exact hz
  have hcap : ¬ its.toArray.size * k.toNat > (2 ^ 63 - 1) / 8 := by
    have : (sizeLine : Nat) ≤ (2 ^ 63 - 1) / 8 := by decide
    omega
  have hfit : ¬ (!Builtin.List.listFitsIndex k) = true := by
    rw [fitsIndex_both h1 h2]
    exact Bool.false_ne_true
  have hlong : ¬ Builtin.List.listTooLong (its.toArray.size * k.toNat) = true := by
    rw [notLongL hlen]
    exact Bool.false_ne_true
  have hnew : List.foldl (fun x1 x2 => x1 ++ x2) #[] (List.replicate (if its.toArray.isEmpty = true then 0 else k.toNat) its.toArray) = (List.replicate k.toNat its).flatten.toArray := by
    have f0 : ∀ m : Nat, List.foldl (fun x1 x2 => x1 ++ x2) #[] (List.replicate m its.toArray) = (List.replicate m its).flatten.toArray := fun m => by
      have := foldl_rep its m []
      rw [List.nil_append] at this
      exact this
    rw [f0]
    cases its with
    | nil => simp
    | cons a r' => rw [if_neg (by simp)]
  refine wpAny_binaryOp_repeat_ref (T := "list") (U := "int") (by decide) ⟨_, e, rfl⟩ (fun s' => typeIs_int s' k t) noFill_list_mul F.fills_int_mul F.slot_int_rmul repeat_list F.slot_int_index.lookup
    (call_meets F.slot_int_rmul (typeIs_int s k t) F.entry_int_rmul (F.args_int_rmul_2 _ _) (int___rmul___int_list k t l its.toArray n)
      ⟨e, rfl, ⟨_, e, rfl⟩, call_meets F.slot_list_mul ⟨_, e, rfl⟩ F.entry_list_mul (F.args_list_mul_2 _ _) (AutoListH.list___mul___list_int_3 l its.toArray n k t hfit hcap hlong) ⟨e, ?_⟩⟩)
  rw [hnew]
  exact ⟨.ref _, _, I.lnew (t' := s.toks) (r.rep k.toNat) (by rw [len_rep, Nat.mul_comm]; exact hz), rfl, q _ I.fresh⟩


end


section
variable {prog : Program} {w : World} {A : Around} {E : Value → Shared → Prop} {s : Shared}
end

section
variable {X : Cx}

end
end L2

namespace L2
open PySem PySem.Spec PyProof.Rows


section
variable {κ : Type} [DecidableEq κ]
end



section
variable {P : Program} {w : World} {H : Hp} {h : Heap} {a : Addr}
end


section
variable {X : Cx} {pins : List (Addr × Obj)} {σ : St} {H : Hp} {s : Shared} {a : Addr} {y v : V} {u r : Value} {o : Option V} {A : Around} {E : Value → Shared → Prop}

end

section
variable {X : Cx} {pins : List (Addr × Obj)} {σ : St} {H : Hp} {s : Shared} {a : Addr} {kvs : List (Key × V)} {k : Key} {u : Value} {A : Around} {E : Value → Shared → Prop}

end




section
variable {X : Cx} {o i e value : Expr} {pos pos' tpos : Pos} {td ty tv : TE}
end



section
variable {X : Cx} {pos : Pos}
end


section
variable {X : Cx} {pins : List (Addr × Obj)} {σ : St} {H : Hp} {s : Shared} {a : Addr} {y d : V} {u r : Value} {o : Option V} {A : Around} {E : Value → Shared → Prop}

end

section
variable {X : Cx} {o e f : Expr} {apos cpos : Pos} {td ty tx : TE}
end


section
variable {X : Cx} {pins : List (Addr × Obj)} {σ : St} {H : Hp} {s : Shared} {a : Addr} {kvs : List (Key × V)} {A : Around} {E : Value → Shared → Prop}
end


section
variable {X : Cx} {pins : List (Addr × Obj)} {σ : St} {H : Hp} {s : Shared} {a : Addr} {y : V} {u : Value} {A : Around} {E : Value → Shared → Prop}

end
end L2

namespace Att
open PySem PySem.W PySem.Calls PyProof.Rows


theorem ints_of_wellAll {P : Params} {h : Heap} : ∀ (ns : List Int) (vs : List Value), WellAll P h vs (ns.map WData.int) → IntsAre vs ns := by
  intro ns
  induction ns with
  | nil =>
    intro vs w
    rw [List.map_nil] at w
    cases w
    exact .nil
  | cons n ns ih =>
    intro vs w
    rw [List.map_cons] at w
    cases w with
    | cons a b =>
      cases a
      exact .cons _ _ (ih _ b)

theorem script_of {l : OpenLaw} {n : Nat} (hn : l.most = some n) {P : Params} {h : Heap} {args : List WData} {vals : List Value}
    (hpre : l.row.toRowW.claim.pre args = true) (hwl : WellAll P h vals args) :
    ∃ a vs ns, vals = [Value.ref a] ∧ args = [WData.list (ns.map WData.int)] ∧ h.get? a = some { cls := .type "list", data := .seq vs.toArray } ∧ IntsAre vs ns ∧ ns.length ≤ n := by
  have hsh : WShape.hasAll [] args [.list .int] = true := (pre_splitW hpre).1
  have hc : l.pre.holds [] { args := args } = true := (pre_splitW hpre).2
  obtain ⟨d, r, rfl, h1, h2⟩ := hasAllW_cons hsh
  obtain rfl := hasAllW_nil h2
  obtain ⟨xs, rfl, h3⟩ := hasW_list h1
  obtain ⟨ns, rfl⟩ := items_int h3
  have hlen : ns.length ≤ n := by
    unfold OpenLaw.pre at hc
    have h4 : (WTm.not (.lt (.lit (.int (n : Int))) (.len (.arg 0)))).holds [] { args := [.list (ns.map .int)] } = true := by
      have h4 := (holds_andW hc).1
      rw [hn] at h4
      exact h4
    have h5 := condW_of h4 (w_not (w_lt w_lit (w_len_list (w_arg rfl))))
    rw [List.length_map] at h5
    refine Nat.le_of_not_lt fun q => ?_
    have q' : (n : Int) < ((ns.length : Nat) : Int) := by omega
    first
      | (rw [decide_eq_true q'] at h5; exact absurd h5 (by decide))
      | (simp at h5; omega)
  cases hwl with
  | cons w1 w2 =>
    cases w2
    cases w1 with
    | list ho hall => exact ⟨_, _, ns, rfl, rfl, ho, ints_of_wellAll ns _ hall, hlen⟩

theorem post_true (l : OpenLaw) (args : List WData) : l.row.toRowW.claim.post args (.bool true) args = true :=
  postW_of (r := l.row.toRowW) (X := (true == true))
    (show WShape.has [] (.bool true) .bool = true by first | rfl | decide | simp [WShape.has, WShape.arms, WShape.armsAll])
    (show (WTm.eq .res (.lit (.bool true))).value [] { args := args, res := some (.bool true), after := args } = some (.bool (true == true)) from w_eq_bool (w_res rfl) w_lit) rfl


theorem attach_call {l : OpenLaw} {n : Nat} {q : Program} {loose : List Str} {XP : (Str → Option Value) → Heap → Prop} {YP : World → Heap → Prop} {d : DefRec}
    (hn : l.most = some n) (hdf : d.params.defaults = [])
    (call : ∀ (w : World) (s₀ s₁ : Shared) (mg mb : Str → Option Value) (fa : Addr) (o : Obj) (pm cd doc : Value) (a : Addr) (vs : List Value) (ns : List Int),
      Ground q loose [] XP w s₀ mg mb s₁.heap → YP w s₁.heap →
      s₁.heap.get? fa = some o → o.data = .func (docDef d.name d.params d.body d.scope pm cd doc) → s₁.heap.CodeRec cd d.name → mg d.name = some (.ref fa) →
      s₁.heap.get? a = some { cls := .type "list", data := .seq vs.toArray } → IntsAre vs ns → ns.length ≤ n → s₁.gens = #[] →
      codeAny (model l.prog w) callerA (.call (.ref fa) ⟨[.ref a], []⟩) (fun r s' => r = .ok (.ret (.bool true)) ∧ OldK s₁.heap s'.heap ∧ s'.os = s₁.os ∧ AllBare s'.gens) s₁) :
    WalkO q loose XP YP l.row.toRowW d [] (fun f vs => PySem.call f vs) := by
  intro w s₀ s₁ mg mb G Y fa o pm cd doc dV kV ho hd hcd hD hmg hg args vals as hpre hlay hrd hwl hlo
  obtain rfl : dV = .none := Dflts.none hD hdf
  obtain rfl : kV = .none := Dflts.noKw hD
  obtain ⟨a, vs, ns, rfl, rfl, hobj, hints, hlen⟩ := script_of hn hpre hwl
  refine enter_call (codeAny_mono (call w s₀ s₁ mg mb fa o pm cd doc a vs ns G Y ho (fd_plain hd) hcd hmg hobj hints hlen hg) fun r s' hq => ?_)
  obtain ⟨rfl, h2, h3, h4⟩ := hq
  exact ⟨.inl ⟨.bool true, .bool true, [], rfl, fun _ => rfl, .bool true, post_true l _, fun _ => ⟨List.Pairwise.nil, fun _ hm => (nomatch hm)⟩⟩, h2, h3, h4⟩


section
variable {prog : Program} {w : World} {A : Around} {E : Value → Shared → Prop} {s : Shared} {K : Frag}


end
end Att

namespace L2
open PySem PySem.Spec PyProof.Rows

theorem vals_ints : ∀ {vs : List Value} {ns : List Int}, IntsAre vs ns → Vals (ns.map V.int) vs
  | _, _, .nil => .nil
  | _, _, .cons n t h => .cons ⟨t, rfl⟩ (vals_ints h)


def Only (H : Hp) : Prop := ∀ b, H b = none ∨ ∃ o xs, H b = some (.frz o (.lst xs))


theorem law_call {P : Program} {w : World} {K : PySem.W.Frag} {mg mb : Str → Option Value} {CX : CXT} {k : Nat} {fa a : Addr} {fd : FuncData} {x : Str} {sp : Sp} {s₁ : Shared} {vs : List Value} {ns : List Int}
    (KX : K.In s₁.heap) (hns : s₁.heap.Ns mainGlobals mg) (hb : s₁.heap.Ns builtinsNs mb) (hbb : ∀ x : Str, x ≠ "__name__" → mb x = bootBuiltins x) (hlim : s₁.heap.NoLimit) (hg : s₁.gens = #[])
    (ha : s₁.heap.get? a = some { cls := .type "list", data := .seq vs.toArray }) (hi : IntsAre vs ns) (hl : ns.length ≤ sizeLine) (hr : Room k callerA)
    (F : ∀ base : Heap, K.In base → base.Ns mainGlobals mg → FnOk P w K mg base CX k fa fd [x] sp) (hbind : ∀ (s : Shared) (u : Value), BindsTo s fd ⟨[u], []⟩ [(x, u)])
    (hsp : ∀ H : Hp, Only H → SqL K H a (ns.map V.int) → sp [.ref a] H (fun v _ => v = .bl true) fun _ _ _ => False)
    (hCX : ∀ H e s', CX [] H s₁ (fun _ _ _ => False) e s' → False) :
    codeAny (model P w) callerA (.call (.ref fa) ⟨[.ref a], []⟩) (fun r s' => r = .ok (.ret (.bool true)) ∧ OldK s₁.heap s'.heap ∧ s'.os = s₁.os ∧ AllBare s'.gens) s₁ := by
  have rv := vals_ints hi
  have lenV := hi.length
  -- from an abstract heap in which nothing but the script may be tracked
  have core : ∀ H : Hp, Only H → SqL K H a (ns.map V.int) → HOk P w H s₁.heap → (∀ b, H b ≠ none → b = a) → (H a ≠ none → K.lookup a = none) →
      codeAny (model P w) callerA (.call (.ref fa) ⟨[.ref a], []⟩) (fun r s' => r = .ok (.ret (.bool true)) ∧ OldK s₁.heap s'.heap ∧ s'.os = s₁.os ∧ AllBare s'.gens) s₁ := by
    intro H hO hS hok hA hK
    have base_of : ∀ {b : Addr} {o : Obj}, s₁.heap.get? b = some o → H b = none → (hidT s₁.heap H).get? b = some o := fun e n => hidT_get e n
    have noA : ∀ {b : Addr} {o : Obj} {es : Array DictEntry} {ep : Nat}, s₁.heap.get? b = some o → o.data = .dict es ep → H b = none := fun {b o es ep} e d => by
      cases q : H b with
      | none => rfl
      | some u =>
        have e' : b = a := hA b (by rw [q]; simp)
        subst e'
        rw [ha] at e; cases e
        have d' : Data.seq vs.toArray _ = Data.dict es ep := d
        cases d'
    have nsK : ∀ {b : Addr} {m : Str → Option Value}, s₁.heap.Ns b m → (hidT s₁.heap H).Ns b m := fun {b m} ⟨o, es, ep, e, d, r⟩ => ⟨o, es, ep, base_of e (noA e d), d, r⟩
    have hKb : K.In (hidT s₁.heap H) := fun b o e => base_of (KX b o e) (by
      cases q : H b with
      | none => rfl
      | some u =>
        have e' : b = a := hA b (by rw [q]; simp)
        subst e'
        rw [hK (by rw [q]; simp)] at e; cases e)
    have hM : Mod K mg (hidT s₁.heap H) := ⟨hKb, nsK hns, ⟨mb, nsK hb, hbb⟩, let ⟨mc, h1, h2⟩ := hlim; ⟨mc, nsK h1, h2⟩⟩
    have e0 : Env0 P w K mg (hidT s₁.heap H) callerA [] s₁ H := ⟨rfl, hM, fun b o e => of_hidT e, Nat.le_of_eq (hidT_size _ _), trivial, fun b hb => absurd (show b ∈ ([] : List Addr) from hb) (by simp), hok, .of_eq hg⟩
    refine codeAny_mono ((F _ hKb (nsK hns)).run callerA [] s₁ H ⟨[.ref a], []⟩ [.ref a] [.ref a] _ _ hr e0 (hbind s₁ (.ref a)) (.cons rfl .nil) (hsp H hO hS)) fun r s' h => ?_
    cases r with
    | error e => exact (hCX H e s' h).elim
    | ok fl =>
      cases fl with
      | next => exact False.elim h
      | brk => exact False.elim h
      | cont => exact False.elim h
      | ret u =>
        obtain ⟨v, H', os, bare, un, hok', r', q⟩ := h
        have q' : v = .bl true := q
        subst q'
        obtain rfl : u = Value.bool true := r'
        refine ⟨rfl, OldK.of_keep fun b o e => ?_, os, bare⟩
        cases q : H b with
        | none => exact un.keep b o e q (by intro z; exact absurd (show b ∈ ([] : List Addr) from z) (by simp)) (by simp)
        | some u =>
          rcases hO b with z | ⟨ob, xs, z⟩
          · rw [q] at z; cases z
          · have z2 := un.frzs b ob _ z
            obtain ⟨e1, _⟩ := hok b _ z
            obtain ⟨e2, _⟩ := hok' b _ z2
            rw [e] at e1; cases e1
            exact e2
  cases hk : K.lookup a with
  | some o =>
    -- the script is one of the module's own objects
    have e := KX a o hk
    rw [ha] at e
    cases e
    refine core (fun _ => none) (fun _ => .inl rfl) (.inr ⟨_, vs.toArray, _, hk, rfl, rfl, rfl, by rw [List.size_toArray, lenV]; exact hl, by simpa using rv⟩) (fun b u z => by have z' : (none : Option HO) = some u := z; cases z') (fun b z => absurd rfl z) fun z => absurd rfl z
  | none =>
    refine core (fun b => if b = a then some (.frz { cls := .type "list", data := .seq vs.toArray } (.lst (ns.map V.int))) else none) (fun b => ?_) (.inl (.inr ⟨{ cls := .type "list", data := .seq vs.toArray }, if_pos rfl⟩)) (fun b u z => ?_) (fun b z => ?_) fun _ => hk
    · by_cases hb : b = a
      · exact .inr ⟨_, _, if_pos hb⟩
      · exact .inl (if_neg hb)
    · by_cases hb : b = a
      · have z' := (if_pos hb).symm.trans z
        cases z'
        subst hb
        exact ⟨ha, by rw [List.length_map]; exact hl, vs, _, rv, ha⟩
      · have z' := (if_neg hb).symm.trans z
        cases z'
    · by_cases hb : b = a
      · exact hb
      · exact absurd (if_neg hb) z
end L2

namespace L2
open PySem PySem.Spec PyProof.Rows

abbrev KOf {K : PySem.W.Frag} {h : Heap} (_ : K.In h) : PySem.W.Frag := K


theorem walk_of {l : PySem.W.OpenLaw} {n k : Nat} {q : Program} {loose : List Str} {XP : (Str → Option Value) → Heap → Prop} {YP : World → Heap → Prop} {d : DefRec} {K : Params → PySem.W.Frag} {CX : World → CXT} {sp : World → Sp} {x : Str}
    (hn : l.most = some n) (hn2 : n ≤ sizeLine) (hdf : d.params.defaults = []) (hr : Room k callerA)
    (hY : ∀ (w : World) (h : Heap), YP w h → (K w.params).In h)
    (F : ∀ (w : World) (mg : Str → Option Value) (fa : Addr) (h : Heap), (K w.params).In h → h.Ns mainGlobals mg → mg d.name = some (.ref fa) →
      ∃ fd : FuncData, (∀ (s : Shared) (u : Value), BindsTo s fd ⟨[u], []⟩ [(x, u)]) ∧
        ∀ base : Heap, (K w.params).In base → base.Ns mainGlobals mg → FnOk l.prog w (K w.params) mg base (CX w) k fa fd [x] (sp w))
    (hsp : ∀ (w : World) (H : Hp) (a : Addr) (ns : List Int), ns.length ≤ n → Only H → SqL (K w.params) H a (ns.map V.int) → sp w [.ref a] H (fun v _ => v = .bl true) fun _ _ _ => False)
    (hCX : ∀ (w : World) (H : Hp) (s : Shared) (e : Value) (s' : Shared), CX w [] H s (fun _ _ _ => False) e s' → False) :
    PySem.W.WalkO q loose XP YP l.row.toRowW d [] (fun f vs => PySem.call f vs) := by
  refine Att.attach_call hn hdf fun w s₀ s₁ mg mb fa o pm cd doc a vs ns G Y ho hd hcd hmg hobj hints hlen hg => ?_
  have KX := hY w _ Y
  obtain ⟨fd, hb, hF⟩ := F w mg fa _ KX G.T.g hmg
  exact law_call KX G.T.g G.T.b G.T.builtins G.T.nolimit hg hobj hints (Nat.le_trans hlen hn2) hr hF hb (fun H hO hS => hsp w H a ns hlen hO hS) fun H e s' => hCX w H s₁ e s'

end L2




namespace L2
open PySem PySem.Spec PyProof.Rows



def inClass (s : Stmt) (j : Nat) : Stmt := match s with
  | .ClassDef _ _ _ body _ _ _ _ _ _ _ => body.getD j (.Pass ⟨0, 0, 0, 0⟩)
  | _ => .Pass ⟨0, 0, 0, 0⟩
def defArgs (s : Stmt) : Arguments := match s with
  | .FunctionDef _ a _ _ _ _ _ _ _ _ => a
  | _ => { posonlyargs := [], args := [], vararg := none, kwonlyargs := [], kw_defaults := [], kwarg := none, defaults := [] }
def defBody (s : Stmt) : List Stmt := match s with
  | .FunctionDef _ _ b _ _ _ _ _ _ _ => b
  | _ => []
def defScope (s : Stmt) : Scope := match s with
  | .FunctionDef _ _ _ _ _ _ sc _ _ _ => sc
  | _ => { kind := .function, names := [], isGenerator := false, isCoroutine := false }


abbrev CX0 : CXT := fun _ _ _ _ _ _ => False
abbrev E0 : XK := fun _ _ _ => False
theorem pass0 {X : Cx} : Passes CX0 X E0 := fun _ _ _ _ _ _ _ h => h.elim


structure Fun (K : PySem.W.Frag) (x qual : Str) (st : Stmt) (f : Addr) (fd : FuncData) : Prop where
  ex : ∃ (oc : Value) (od : Option Addr) (kV doc pm : Value) (an : Option Addr) (cdv ct : Value) (osl : Array (Option Value)),
    fd = PySem.W.fnOf x qual (defArgs st) (defBody st) (defScope st) .none kV doc pm an cdv ct ∧ K.lookup f = some ⟨oc, od, .func fd, osl⟩ ∧ PySem.W.codeIn K cdv qual = true
  kp : PySem.W.keepIn K (.ref f) = true
section
variable {P : Program} {w : World} {K : PySem.W.Frag} {mg : Str → Option Value} {base : Heap}

theorem Fun.ok {x qual : Str} {st : Stmt} {f : Addr} {fd : FuncData} {N ps : List Str} {k : Nat} {sp : Sp} (F : Fun K x qual st f fd) (S : FnScope N ps (defScope st)) (len : ∀ vs H Q E, sp vs H Q E → vs.length = ps.length)
    (hbody : ∀ (cdv : Value) (A : Around) (outer : List Env) (s : Shared) (H : Hp) (vs : List V) (Q : VK) (E : XK), Room k (A.deeper (envOfC qual (defScope st) s.heap.objs.size f cdv)) → sp vs H Q E →
      ∃ t, PSs (cxOf CX0 P w K mg base N qual (defScope st) f cdv A outer s H E).nox (defBody st) t ∧ t { nx := fun _ H' => Q .non H', rt := Q } (start N vs) H) : FnOk P w K mg base CX0 (k + 1) f fd ps sp := by
  obtain ⟨oc, od, kV, doc, pm, an, cdv, ct, osl, rfl, lk, hcd⟩ := F.ex
  refine fn_of lk hcd S len fun A outer s H vs Q E hr hsp => ?_
  obtain ⟨t, h, q⟩ := hbody cdv A outer s H vs Q E hr hsp
  exact ⟨t, h.nox, q⟩

theorem Fun.binds {x qual : Str} {st : Stmt} {f : Addr} {fd : FuncData} {ps : List Str} (F : Fun K x qual st f fd)
    (h : ∀ (kV doc pm : Value) (an : Option Addr) (cdv ct : Value) (us : List Value), us.length = ps.length → bindArgs (PySem.W.fnOf x qual (defArgs st) (defBody st) (defScope st) .none kV doc pm an cdv ct) ⟨us, []⟩ = pure (ps.zip us)) : Binds K fd ps [] := by
  obtain ⟨oc, od, kV, doc, pm, an, cdv, ct, osl, rfl, lk, hcd⟩ := F.ex
  exact .all (h kV doc pm an cdv ct)
theorem fun_mk {x qual : Str} {st : Stmt} {f : Addr} {oc : Value} {od an : Option Addr} {osl : Array (Option Value)} {kV doc pm cdv ct : Value} (l : K.lookup f = some ⟨oc, od, .func (PySem.W.fnOf x qual (defArgs st) (defBody st) (defScope st) .none kV doc pm an cdv ct), osl⟩)
    (c : PySem.W.codeIn K cdv qual = true) (k : PySem.W.keepIn K (.ref f) = true) : Fun K x qual st f (PySem.W.fnOf x qual (defArgs st) (defBody st) (defScope st) .none kV doc pm an cdv ct) := ⟨⟨oc, od, kV, doc, pm, an, cdv, ct, osl, rfl, l, c⟩, k⟩
end
section
variable {X : Cx}
theorem pv (i : Nat) {x : Str} {pos : Pos} (hN : X.N[i]? = some x := by rfl) (hv : Vis X.env.scope x := by first | exact Or.inl rfl | exact Or.inr (Or.inl rfl) | exact Or.inr (Or.inr rfl)) (hd : (x == ("__debug__" : Str)) = false := by decide)
    (hcd : (x == ("__classdict__" : Str)) = false := by decide) : PE X (.Name x pos) (tVar i) := pe_var hN hv hd hcd

end


theorem iteF {A B : Prop} (h : B) : if false = true then A else B := by
  rw [if_neg Bool.false_ne_true]
  exact h
theorem iteT {A B : Prop} (h : A) : if true = true then A else B := by
  rw [if_pos rfl]
  exact h
def Same (H H' : Hp) : Prop := ∀ b o, H b = some o → H' b = some o
theorem Same.refl (H : Hp) : Same H H := fun _ _ h => h
theorem Same.trans {H H1 H2 : Hp} (a : Same H H1) (b : Same H1 H2) : Same H H2 := fun c o h => b c o (a c o h)
theorem Same.seq {K : PySem.W.Frag} {H H' : Hp} {a : Addr} {xs : List V} (e : Same H H') (h : SqL K H a xs) : SqL K H' a xs := by
  rcases h with (h | ⟨o, h⟩) | h
  · exact .inl (.inl (e _ _ h))
  · exact .inl (.inr ⟨o, e _ _ h⟩)
  · exact .inr h


section
variable {κ : Type} [DecidableEq κ]
end
end L2

namespace Bt
end Bt
namespace L3
open PySem PySem.Spec PyProof.Rows L2
abbrev St := L2.St


section
variable {prog : Program} {w : World} {A : Around} {R : Result → Shared → Prop} {s : Shared}

end


section
variable {X : Cx} {tg elt iter : Expr} {ifs : List Expr} {scope : Scope} {cl : List (Str × Addr)} {own : List Str} {fr : List (Str × Nat)} {wi : TI} {g : TG} {tc : TT} {te : TE} {pos : Pos}

end
section
variable {K : PySem.W.Frag} {a : Addr} {xs : List V} {own : List Str} {fr : List (Str × Nat)} {g : TG} {tc : TT} {te : TE} {fin : List V → Hp → Prop} {σ : St} {H : Hp}

end
end L3
namespace L3
open PySem PySem.Spec PyProof.Rows L2 PySem.SeqAt


theorem look_new {H : Hp} {p q : Addr} {o u : HO} (hq : H q = some u) (hp : H p = none) : upd H p o q = some u := by
  rw [upd_ne (ne_of_none hq hp)]; exact hq
theorem look_ne {H : Hp} {p q : Addr} {o : HO} {u : Option HO} (hne : q ≠ p) (hq : H q = u) : upd H p o q = u := by
  rw [upd_ne hne]; exact hq
theorem none_upd {H : Hp} {p q : Addr} {o : HO} (h : upd H p o q = none) : H q = none ∧ q ≠ p := by
  by_cases e : q = p
  · subst e; rw [upd_same] at h; cases h
  · rw [upd_ne e] at h; exact ⟨h, e⟩
theorem same_new {H : Hp} {p : Addr} {o : HO} (h : H p = none) : Same H (upd H p o) := fun b u q => look_new q h
theorem same_upd {H H1 : Hp} {p : Addr} {o : HO} (s : Same H H1) (h : H p = none) : Same H (upd H1 p o) := fun b u q => by
  rw [upd_ne (ne_of_none q h)]; exact s b u q
mutual
def Dp (K : PySem.W.Frag) (H : Hp) : PyData → V → Prop
  | .none, v => v = .non
  | .bool b, v => v = .bl b
  | .int i, v => v = .int i
  | .str x, v => v = .str x
  | .list ds, v => ∃ a xs, v = .ref a ∧ SqL K H a xs ∧ DpAll K H ds xs
  | .tuple ds, v => ∃ a xs, v = .ref a ∧ SqT K H a xs ∧ DpAll K H ds xs
  | .dict _, _ => False
def DpAll (K : PySem.W.Frag) (H : Hp) : List PyData → List V → Prop
  | [], vs => vs = []
  | d :: ds, vs => ∃ v r, vs = v :: r ∧ Dp K H d v ∧ DpAll K H ds r
end
section
variable {X : Cx} {pins : List (Addr × Obj)} {σ : St} {H : Hp} {s : Shared}
mutual
theorem dp_reads (I : Inv X pins σ H s) : ∀ (d : PyData) (v : V) (u : Value), Dp X.K H d v → RelV v u → ∃ as, Reads s.heap u d as
  | .none, v, u, h, r => by
    rw [Dp] at h; subst h; cases (show u = Value.none from r); exact ⟨_, .none⟩
  | .bool b, v, u, h, r => by
    rw [Dp] at h; subst h; cases (show u = Value.bool b from r); exact ⟨_, .bool b⟩
  | .int i, v, u, h, r => by
    rw [Dp] at h; subst h; obtain ⟨t, e⟩ := (show ∃ t, u = Value.int i t from r); subst e; exact ⟨_, .int i t⟩
  | .str x, v, u, h, r => by
    rw [Dp] at h; subst h; obtain ⟨t, e⟩ := (show ∃ t, u = Value.str x t from r); subst e; exact ⟨_, .str x t⟩
  | .list ds, v, u, h, r => by
    rw [Dp] at h
    obtain ⟨a, xs, e, hq, ha⟩ := h
    subst e
    cases (show u = Value.ref a from r)
    obtain ⟨its, rv, pl, hz⟩ := I.list hq
    obtain ⟨o, ho, hc, n, hd⟩ := pl.isList
    obtain ⟨as, z⟩ := dpAll_reads I ds xs its ha rv
    exact ⟨_, .list ho hc hd (by simpa using z)⟩
  | .tuple ds, v, u, h, r => by
    rw [Dp] at h
    obtain ⟨a, xs, e, hq, ha⟩ := h
    subst e
    cases (show u = Value.ref a from r)
    obtain ⟨its, rv, pl, hz⟩ := I.tuple hq
    obtain ⟨o, ho, hc, n, hd⟩ := pl
    obtain ⟨as, z⟩ := dpAll_reads I ds xs its ha rv
    exact ⟨_, .tuple ho hc hd (by simpa using z)⟩
  | .dict _, v, u, h, r => by rw [Dp] at h; exact h.elim
theorem dpAll_reads (I : Inv X pins σ H s) : ∀ (ds : List PyData) (vs : List V) (us : List Value), DpAll X.K H ds vs → Vals vs us → ∃ as, ReadsAll s.heap us ds as
  | [], vs, us, h, r => by
    rw [DpAll] at h; subst h; cases r; exact ⟨_, .nil⟩
  | d :: ds, vs, us, h, r => by
    rw [DpAll] at h
    obtain ⟨v, rr, e, h1, h2⟩ := h
    subst e
    cases r with
    | cons r1 r2 =>
      obtain ⟨as, z1⟩ := dp_reads I d _ _ h1 r1
      obtain ⟨bs, z2⟩ := dpAll_reads I ds _ _ h2 r2
      exact ⟨_, .cons z1 z2⟩
end
end
def rEqD (K : PySem.W.Frag) : R2 := fun x y H Q => ∃ dx dy, Dp K H dx x ∧ Dp K H dy y ∧ shaped dx = true ∧ shaped dy = true ∧ Q (.bl (PyData.eqv dx dy)) H
def rNeD (K : PySem.W.Frag) : R2 := fun x y H Q => ∃ dx dy, Dp K H dx x ∧ Dp K H dy y ∧ shaped dx = true ∧ shaped dy = true ∧ Q (.bl (!PyData.eqv dx dy)) H

def rEqA (K : PySem.W.Frag) : R2 := fun x y H Q => rEq x y H Q ∨ rEqD K x y H Q
def rNeA (K : PySem.W.Frag) : R2 := fun x y H Q => rNe x y H Q ∨ rNeD K x y H Q
section
variable {X : Cx}
theorem op_eqD (hu : X.A.units + 64 < cLine) : OpR X (compareOp .Eq) (rEqD X.K) := by
  intro pins s σ H x y v u Q I rx ry h
  obtain ⟨dx, dy, hx, hy, sx, sy, q⟩ := h
  obtain ⟨as, ra⟩ := dp_reads I dx x v hx rx
  obtain ⟨bs, rb⟩ := dp_reads I dy y u hy ry
  exact eq_dataH ra rb sx sy hu ⟨.bl _, H, I, rfl, q⟩
theorem op_neD (hu : X.A.units + 64 < cLine) : OpR X (compareOp .NotEq) (rNeD X.K) := by
  intro pins s σ H x y v u Q I rx ry h
  obtain ⟨dx, dy, hx, hy, sx, sy, q⟩ := h
  obtain ⟨as, ra⟩ := dp_reads I dx x v hx rx
  obtain ⟨bs, rb⟩ := dp_reads I dy y u hy ry
  exact ne_dataH ra rb sx sy hu ⟨.bl _, H, I, rfl, q⟩
theorem op_eqA (hu : X.A.units + 64 < cLine) : OpR X (compareOp .Eq) (rEqA X.K) := op_eq.or (op_eqD hu)
theorem op_neA (hu : X.A.units + 64 < cLine) : OpR X (compareOp .NotEq) (rNeA X.K) := op_ne.or (op_neD hu)
end
theorem r_eqS {K : PySem.W.Frag} {x y : V} {H : Hp} {Q : VK} (h : scal x y = true) (q : Q (.bl (decide (x = y))) H) : rEqA K x y H Q := .inl ⟨h, q⟩
theorem r_neS {K : PySem.W.Frag} {x y : V} {H : Hp} {Q : VK} (h : scal x y = true) (q : Q (.bl (!decide (x = y))) H) : rNeA K x y H Q := .inl ⟨h, q⟩
def clsOf : V → Value
  | .ty n => .type n
  | .ref a => .ref a
  | _ => .none
theorem clsOf_eq {c : V} {u : Value} (r : RelV c u) (h : clsOf c ≠ .none) : u = clsOf c := by
  cases c <;> first | exact r | exact (h rfl).elim
def rIsi (K : PySem.W.Frag) : List V → Hp → VK → Prop := fun xs H Q => ∃ x c t b, xs = [x, c] ∧ clsOf c ≠ .none ∧ TyOf K H x t ∧ PySem.W.kitOne K t (clsOf c) = some b ∧ Q (.bl b) H
theorem call_isi {X : Cx} : CallR X (.builtin "isinstance") (rIsi X.K) := by
  intro pins s σ H xs us Q I r h
  obtain ⟨x, c, t, b, rfl, hc, ty, e, q⟩ := h
  obtain ⟨u, w', rfl, rx, rc⟩ := vals2 r
  cases clsOf_eq rc hc
  exact isinst_ok I rx ty e fun tk => ⟨.bl b, H, I.tok _, rfl, q⟩
theorem r_isi {K : PySem.W.Frag} {x c : V} {H : Hp} {Q : VK} {t : Value} {b : Bool} (hc : clsOf c ≠ .none) (ty : TyOf K H x t) (e : PySem.W.kitOne K t (clsOf c) = some b) (q : Q (.bl b) H) : rIsi K [x, c] H Q := ⟨x, c, t, b, rfl, hc, ty, e, q⟩


theorem bool_index : typeLookup (.type "bool") "__index__" = pure (some (.builtin "int.__index__")) := by rw [typeLookup_type, builtinLookup_eq_fast]; kernel_rfl
theorem listSubscript_bool {M : Model} {A : Around} {E : Value → Shared → Prop} {s : Shared} {b : Bool} {Q : Option Int → Shared → Prop} (h : Q (some (if b then 1 else 0)) s) :
    wpAny M A (Builtin.List.listSubscript? (.bool b)) Q E s := by
  unfold Builtin.List.listSubscript?
  refine wpAny_bind (wpAny_specialOf (T := "bool") (show s.TypeIs (.bool b) "bool" from rfl) bool_index ?_)
  show wpAny M A (asIndex (.bool b) >>= _) Q E s
  refine wpAny_bind (wpAny_of_eq (a := if b then 1 else 0) rfl ?_)
  show wpAny M A (if (!Builtin.List.listFitsIndex (if b then 1 else 0)) = true then _ else _) Q E s
  rw [if_neg (by cases b <;> decide)]
  exact wpAny_pure h
theorem getItem_list_bool {prog : Program} {w : World} {A : Around} {E : Value → Shared → Prop} {s : Shared} {l : Addr} {items : Array Value} {b : Bool} {x : Value} {Q : Value → Shared → Prop} (hl : s.heap.IsList l items)
    (hx : items[if b then 1 else 0]? = some x) (h : Q x s) : wpAny (model prog w) A (getItem (.ref l) (.bool b)) Q E s := by
  obtain ⟨o, ho, hc, ne, hd⟩ := id hl
  unfold getItem
  try with_reducible refine wpAny_holding ?_
  first | refine wpAny_bind (wpAny_pure ?_) | skip
  refine wpAny_bind (wpAny_sequenceKey hl.typeIs (by decide) ?_)
  refine wpAny_bind (wpAny_callSpecial?_slot (name := Str.ofString "__getitem__") hl.typeIs slot_list_getitem
    (wpAny_call_entry slot_list_getitem hl.typeIs entry_list_getitem ?_ (args_list_getitem _ _)))
  show wpAny _ _ (Builtin.List.listSubscript? (.bool b) >>= _) _ _ s
  refine wpAny_bind (listSubscript_bool ?_)
  cases b with
  | true =>
    have hx' : items[1]? = some x := hx
    show wpAny _ _ ((seqItemAt l 1 >>= fun r => pure (r.map (1, ·))) >>= _) _ _ s
    refine wpAny_bind (wpAny_bind (wpAny_seqItemAt ho hd (wpAny_pure ?_)))
    rw [hx']
    first
      | exact wpAny_bind (wpAny_pure (wpAny_pure ⟨x, rfl, wpAny_pure h⟩))
      | exact wpAny_pure ⟨x, rfl, wpAny_pure h⟩
  | false =>
    have hx' : items[0]? = some x := hx
    show wpAny _ _ ((seqItemAt l 0 >>= fun r => pure (r.map (0, ·))) >>= _) _ _ s
    refine wpAny_bind (wpAny_bind (wpAny_seqItemAt ho hd (wpAny_pure ?_)))
    rw [hx']
    first
      | exact wpAny_bind (wpAny_pure (wpAny_pure ⟨x, rfl, wpAny_pure h⟩))
      | exact wpAny_pure ⟨x, rfl, wpAny_pure h⟩
def rIxB (K : PySem.W.Frag) : R2 := fun x y H Q => ∃ p xs b v, x = .ref p ∧ y = .bl b ∧ SqL K H p xs ∧ xs[if b then 1 else 0]? = some v ∧ Q v H
theorem ix_bool {X : Cx} : IxR X (rIxB X.K) := by
  intro value slice pins s σ H x y v u Q I rx ry h hs
  obtain ⟨p, xs, b, z, rfl, rfl, hq, he, q⟩ := h
  cases rx
  cases ry
  obtain ⟨its, r, pl, hz⟩ := I.list hq
  obtain ⟨w, ew, rw'⟩ := r.get he
  exact subscriptTail_builtinR (x := w) pl.isList.typeIs slot_list_getitem.lookup
    (getItem_list_bool (Q := fun r s' => r = w ∧ EP X pins σ Q r s') pl.isList (by simpa using ew) ⟨rfl, z, H, I, rw', q⟩) hs

def rIxA (K : PySem.W.Frag) : R2 := fun x y H Q => rIx K x y H Q ∨ rIxB K x y H Q
theorem ix_any {X : Cx} : IxR X (rIxA X.K) := ix_seq.or ix_bool
theorem r_ixL {K : PySem.W.Frag} {p : Addr} {xs : List V} {i : Int} {v : V} {H : Hp} {Q : VK} (h : SqL K H p xs) (e : atI xs i = some v) (q : Q v H) : rIxA K (.ref p) (.int i) H Q := .inl (.inl ⟨p, xs, i, v, rfl, rfl, h, e, q⟩)
theorem r_ixT {K : PySem.W.Frag} {p : Addr} {xs : List V} {i : Int} {v : V} {H : Hp} {Q : VK} (h : SqT K H p xs) (e : atI xs i = some v) (q : Q v H) : rIxA K (.ref p) (.int i) H Q := .inl (.inr (.inl ⟨p, xs, i, v, rfl, rfl, h, e, q⟩))
theorem r_ixB {K : PySem.W.Frag} {p : Addr} {xs : List V} {b : Bool} {v : V} {H : Hp} {Q : VK} (h : SqL K H p xs) (e : xs[if b then 1 else 0]? = some v) (q : Q v H) : rIxA K (.ref p) (.bl b) H Q := .inr ⟨p, xs, b, v, rfl, rfl, h, e, q⟩


def rStr : R2 := fun x y H Q => ∃ i j, x = .str i ∧ y = .str j ∧ i.length + j.length ≤ sizeLine ∧ Q (.str (i ++ j)) H
def rPlus (K : PySem.W.Frag) : R2 := fun x y H Q => rI0 (fun i j => .int (i + j)) x y H Q ∨ rCat x y H Q ∨ rCatT K x y H Q ∨ rStr x y H Q
theorem op_plus {X : Cx} : OpR X (binaryOp .Add) (rPlus X.K) := op_add.or (op_cat.or (op_catT.or op_add_str))
theorem r_plusI {K : PySem.W.Frag} {i j : Int} {H : Hp} {Q : VK} (q : Q (.int (i + j)) H) : rPlus K (.int i) (.int j) H Q := .inl ⟨i, j, rfl, rfl, q⟩
theorem r_plusL {K : PySem.W.Frag} {a b : Addr} {xs ys : List V} {H : Hp} {Q : VK} (ha : H a = some (.lst xs)) (hb : H b = some (.lst ys)) (hz : xs.length + ys.length ≤ sizeLine) (q : ∀ p, H p = none → Q (.ref p) (upd H p (.lst (xs ++ ys)))) :
    rPlus K (.ref a) (.ref b) H Q := .inr (.inl ⟨a, b, xs, ys, rfl, rfl, ha, hb, hz, q⟩)
def rTimes : R2 := fun x y H Q => rI CMul (fun i j => .int (i * j)) x y H Q ∨ rRep x y H Q
theorem op_times {X : Cx} : OpR X (binaryOp .Mult) rTimes := op_mul.or op_rep
theorem r_timesI {i j : Int} {H : Hp} {Q : VK} (h : CMul i j) (q : Q (.int (i * j)) H) : rTimes (.int i) (.int j) H Q := .inl ⟨i, j, rfl, rfl, h, q⟩
def rSlA (K : PySem.W.Frag) : V → Option Int → Option Int → Hp → VK → Prop := fun x lo hi H Q => rSlL K x lo hi H Q ∨ rSlT K x lo hi H Q
theorem sl_any {X : Cx} : SlR X (rSlA X.K) := sl_list.or sl_tup


structure FnE (P : Program) (w : World) (K : PySem.W.Frag) (mg : Str → Option Value) (base : Heap) (CX : CXT) (k : Nat) (x : Str) (sp : Sp) : Prop where
  ex : ∃ (f : Addr) (fd : FuncData) (ps : List Str), FnOk P w K mg base CX k f fd ps sp ∧ mg x = some (.ref f) ∧ PySem.W.keepIn K (.ref f) = true ∧ Binds K fd ps []
structure MethE (P : Program) (w : World) (K : PySem.W.Frag) (mg : Str → Option Value) (base : Heap) (CX : CXT) (k : Nat) (C : Addr) (m : Str) (sp : Sp) : Prop where
  cl : Cls K C
  ex : ∃ (f : Addr) (fd : FuncData) (ps : List Str), Meth K C m f ∧ FnOk P w K mg base CX k f fd ps sp ∧ Binds K fd ps []
structure MkE (P : Program) (w : World) (K : PySem.W.Frag) (mg : Str → Option Value) (base : Heap) (CX : CXT) (k : Nat) (x : Str) (C : Addr) (sp : Sp) : Prop where
  ex : ∃ (f : Addr) (fd : FuncData) (ps : List Str), Mk K C f ∧ FnOk P w K mg base CX k f fd ps sp ∧ mg x = some (.ref C) ∧ Binds K fd ps []
theorem MethE.mono {P : Program} {w : World} {K : PySem.W.Frag} {mg : Str → Option Value} {base : Heap} {CX : CXT} {j k : Nat} {C : Addr} {m : Str} {sp : Sp} (M : MethE P w K mg base CX j C m sp) (h : j ≤ k) : MethE P w K mg base CX k C m sp := by
  obtain ⟨f, fd, ps, a, b, c⟩ := M.ex
  exact ⟨M.cl, f, fd, ps, a, b.mono h, c⟩
def tCallE (sp : Sp) (E : XK) (t : TA) : TE := fun σ H Q => t σ H fun vs H1 => sp vs H1 Q E
def tMakeE (C : Addr) (sp : Sp) (E : XK) (t : TA) : TE := fun σ H Q => t σ H fun vs H1 => ∀ x dx, H1 x = none → H1 dx = none → dx ≠ x →
  sp (.ref x :: vs) (upd (upd H1 dx (.own x)) x (.ins C dx [])) (fun v H2 => v = .non ∧ Q (.ref x) H2) E
def tMethE (P : Program) (w : World) (K : PySem.W.Frag) (mg : Str → Option Value) (base : Heap) (CX : CXT) (k : Nat) (m : Str) (E : XK) (ta : TE) (t : TA) : TE := fun σ H Q => ta σ H fun x H1 =>
  ∃ a C dx fs sp, x = .ref a ∧ H1 a = some (.ins C dx fs) ∧ fs.lookup m = none ∧ MethE P w K mg base CX k C m sp ∧ t σ H1 fun vs H2 => sp (.ref a :: vs) H2 Q E
section
variable {X : Cx} {CX : CXT} {k : Nat} {C : Addr} {sp : Sp} {E : XK} {x m : Str} {p pos apos : Pos} {e o : Expr} {es : List Expr} {ta : TE} {t : TA}
theorem pe_callE (G : FnE X.prog X.w X.K X.mg X.base CX k x sp) (hr : Room k X.A) (hx : Passes CX X E) (hg : Gl X x) (ha : PA X (e :: es) t) (hdb : (x == ("__debug__" : Str)) = false := by decide)
    (he : starEach (e :: es) X.env = (false, eval e X.env) :: starEach es X.env := by rfl) (hpl : (backTo pos (starEach es X.env)).any (·.1) = false := by rfl) : PE X (.Call (.Name x p) (e :: es) [] pos) (tCallE sp E t) := by
  obtain ⟨f, fd, ps, F, hm, hk, hb⟩ := G.ex
  have z := pe_call (p := p) (pos := pos) F hr hg hm hk hb .nil hx ha hdb he hpl
  intro pins s σ H Q I h
  refine z pins s σ H Q I ?_
  have e1 : tCall sp [] E t = tCallE sp E t := by
    funext σ H Q
    show t σ H (fun vs H1 => sp (vs ++ []) H1 Q E) = t σ H (fun vs H1 => sp vs H1 Q E)
    simp only [List.append_nil]
  rw [e1]; exact h
theorem pe_makeE (G : MkE X.prog X.w X.K X.mg X.base CX k x C sp) (hr : Room (k + 1) X.A) (hx : Passes CX X E) (hg : Gl X x) (ha : PA X (e :: es) t) (hdb : (x == ("__debug__" : Str)) = false := by decide)
    (he : starEach (e :: es) X.env = (false, eval e X.env) :: starEach es X.env := by rfl) (hpl : (backTo pos (starEach es X.env)).any (·.1) = false := by rfl) : PE X (.Call (.Name x p) (e :: es) [] pos) (tMakeE C sp E t) := by
  obtain ⟨f, fd, ps, M, F, hm, hb⟩ := G.ex
  have z := pe_make (p := p) (pos := pos) M F hr hg hm hb .nil hx ha hdb he hpl
  intro pins s σ H Q I h
  refine z pins s σ H Q I ?_
  have e1 : tMake C sp [] E t = tMakeE C sp E t := by
    funext σ H Q
    show t σ H (fun vs H1 => ∀ x dx, H1 x = none → H1 dx = none → dx ≠ x → sp (.ref x :: (vs ++ [])) _ _ E) = t σ H (fun vs H1 => ∀ x dx, H1 x = none → H1 dx = none → dx ≠ x → sp (.ref x :: vs) _ _ E)
    simp only [List.append_nil]
  rw [e1]; exact h
theorem pe_methE {pl : Sem Bool} (he : PE X o ta) (hr : Room k X.A) (hx : Passes CX X E) (ha : PA X (e :: es) t)
    (hst : starEach (e :: es) X.env = (false, eval e X.env) :: starEach es X.env := by rfl) (hpl : (backTo pos (starEach es X.env)).any (·.1) = false := by rfl)
    (ht : eval (.Call (.Attribute o m apos) (e :: es) [] pos) X.env = (do
      let ov ← eval o X.env
      standAt apos.atName
      let (f, first) ← holding [ov] (getMethod ov m pl)
      callWith pos f first (backTo pos (starEach (e :: es) X.env)) (backToKw pos (keywordEach [] X.env))) := by rfl) :
    PE X (.Call (.Attribute o m apos) (e :: es) [] pos) (tMethE X.prog X.w X.K X.mg X.base CX k m E ta t) := by
  intro pins s σ H Q I h
  refine PySem.W.methodCall_KW (pl := pl) (thn (he pins s σ H _ I h) fun u s1 ⟨x, H1, I1, rx, a, C, dx, fs, sp, ex, ea, l, M, q⟩ => ?_) ht
  subst ex
  obtain rfl : u = Value.ref a := rx
  obtain ⟨f, fd, ps, hm, F, hb⟩ := M.ex
  refine getmeth_ok I1 ea M.cl hm l ?_
  refine PySem.W.callWith_K (first := [.ref a]) (h₀ := X.base) I.ok.mod.kin hm.kp (thn (ha pos pins s1 σ H1 _ I1 q) fun us s2 ⟨vs, H2, I2, r, q2⟩ => ⟨I2.kIn, ?_⟩) hst hpl
  exact run_fn (us := .ref a :: us) (vs := .ref a :: vs) F hr hb .nil hx I2 (.cons rfl r) (by rw [List.append_nil]; exact q2)
end


theorem b_len : bootBuiltins "len" = some (.builtin "len") := by decide +kernel
theorem b_isinstance : bootBuiltins "isinstance" = some (.builtin "isinstance") := by decide +kernel
theorem b_max : bootBuiltins "max" = some (.builtin "max") := by decide +kernel
theorem b_min : bootBuiltins "min" = some (.builtin "min") := by decide +kernel
theorem b_int : bootBuiltins "int" = some (.type "int") := by decide +kernel
theorem b_bool : bootBuiltins "bool" = some (.type "bool") := by decide +kernel
theorem b_list : bootBuiltins "list" = some (.type "list") := by decide +kernel
def rFld (K : PySem.W.Frag) (f : Str) : V → Hp → VK → Prop := fun x H1 Q => ∃ a C dx fs v, x = .ref a ∧ H1 a = some (.ins C dx fs) ∧ Cls K C ∧ NoAttr K C f ∧ fs.lookup f = some v ∧ Q v H1
def rMeth (P : Program) (w : World) (K : PySem.W.Frag) (mg : Str → Option Value) (base : Heap) (CX : CXT) (k : Nat) (m : Str) (E : XK) (σ : St) (t : TA) : V → Hp → VK → Prop := fun x H1 Q =>
  ∃ a C dx fs sp, x = .ref a ∧ H1 a = some (.ins C dx fs) ∧ fs.lookup m = none ∧ MethE P w K mg base CX k C m sp ∧ t σ H1 fun vs H2 => sp (.ref a :: vs) H2 Q E
def sFldV (K : PySem.W.Frag) (f : Str) (y : V) (D : Ends) (σ : St) : V → Hp → Prop := fun x H2 => ∃ a C dx fs, x = .ref a ∧ H2 a = some (.ins C dx fs) ∧ Cls K C ∧ NoAttr K C f ∧ fs.length < 1000 ∧ D.nx σ (upd H2 a (.ins C dx (putF f y fs)))
def rLen (K : PySem.W.Frag) : List V → Hp → VK → Prop := fun xs H Q => ∃ x n, xs = [x] ∧ LenV K x H n ∧ Q (.int n) H
theorem call_lenA {X : Cx} : CallR X (.builtin "len") (rLen X.K) := call_len
theorem r_lenL {K : PySem.W.Frag} {p : Addr} {xs : List V} {H : Hp} {Q : VK} (h : SqL K H p xs) (q : Q (.int xs.length) H) : rLen K [.ref p] H Q := ⟨.ref p, xs.length, rfl, .inl ⟨xs, h, rfl⟩, q⟩
def rLst (K : PySem.W.Frag) : List V → Hp → VK → Prop := fun xs H Q => ∃ p ys, xs = [.ref p] ∧ (SqL K H p ys ∨ SqT K H p ys) ∧ ∀ l, H l = none → Q (.ref l) (upd H l (.lst ys))
theorem call_listA {X : Cx} : CallR X (.type "list") (rLst X.K) := call_list_of
theorem r_listL {K : PySem.W.Frag} {p : Addr} {xs : List V} {H : Hp} {Q : VK} (h : SqL K H p xs) (q : ∀ l, H l = none → Q (.ref l) (upd H l (.lst xs))) : rLst K [.ref p] H Q := ⟨p, xs, rfl, .inl h, q⟩
def rTwo (g : Int → Int → Int) : List V → Hp → VK → Prop := fun xs H Q => ∃ i j, xs = [.int i, .int j] ∧ Q (.int (g i j)) H
theorem call_maxA {X : Cx} (hc : X.calm = true) : CallR X (.builtin "max") (rTwo fun i j => if j > i then j else i) := call_max2 hc
theorem call_minA {X : Cx} (hc : X.calm = true) : CallR X (.builtin "min") (rTwo fun i j => if j < i then j else i) := call_min2 hc
theorem r_two {g : Int → Int → Int} {i j : Int} {H : Hp} {Q : VK} (q : Q (.int (g i j)) H) : rTwo g [.int i, .int j] H Q := ⟨i, j, rfl, q⟩
theorem r_slL {K : PySem.W.Frag} {p : Addr} {xs : List V} {lo hi : Option Int} {H : Hp} {Q : VK} (h : SqL K H p xs) (q : ∀ l, H l = none → Q (.ref l) (upd H l (.lst (cutV xs lo hi)))) : rSlA K (.ref p) lo hi H Q := .inl ⟨p, xs, rfl, h, q⟩
def rTru (K : PySem.W.Frag) (x : V) (H : Hp) (Q : Bool → Hp → Prop) : Prop := ∃ k, TruV K x H k ∧ Q k H
theorem r_truB {K : PySem.W.Frag} {b : Bool} {H : Hp} {Q : Bool → Hp → Prop} (q : Q b H) : rTru K (.bl b) H Q := ⟨b, rfl, q⟩
theorem iteNT {A B : Prop} (h : B) : if (!true) = true then A else B := h
theorem sql_new {K : PySem.W.Frag} {H : Hp} {a p : Addr} {xs : List V} {o : HO} (h : SqL K H a xs) (hp : H p = none) : SqL K (upd H p o) a xs := Same.seq (same_new hp) h
theorem same_at {H H' : Hp} {q : Addr} {u : HO} (s : Same H H') (h : H q = some u) : H' q = some u := s _ _ h
theorem r_gSub {to ti : TE} {t : TSet} {v : V} {σ : St} {H : Hp} {Q : St → Hp → Prop} (q : to σ H fun o H1 => ti σ H1 fun i H2 => t o i v H2 fun H3 => Q σ H3) : gSub to ti t v σ H Q := q
theorem r_setL {p : Addr} {xs : List V} {k : Int} {j : Nat} {v : V} {H : Hp} {Q : Hp → Prop} (h : H p = some (.lst xs)) (e : ixN xs.length k = some j) (q : Q (upd H p (.lst (xs.set j v)))) : rSetL (.ref p) (.int k) v H Q := ⟨p, xs, k, j, rfl, rfl, h, e, q⟩
section
variable {σ : St} {H : Hp} {Q : VK}
theorem r_var {i : Nat} {v : V} (h : σ[i]? = some (some v)) (q : Q v H) : tVar i σ H Q := ⟨v, h, q⟩
theorem r_c {v : V} (q : Q v H) : tC v σ H Q := q
theorem r_op {r : R2} {ta tb : TE} (q : ta σ H fun x H1 => tb σ H1 fun y H2 => r x y H2 Q) : tOp r ta tb σ H Q := q
theorem r_I0 {g : Int → Int → V} {i j : Int} (q : Q (g i j) H) : rI0 g (.int i) (.int j) H Q := ⟨i, j, rfl, rfl, q⟩
theorem r_I {C : Int → Int → Prop} {g : Int → Int → V} {i j : Int} (h : C i j) (q : Q (g i j) H) : rI C g (.int i) (.int j) H Q := ⟨i, j, rfl, rfl, h, q⟩
theorem r_cb {r : List V → Hp → VK → Prop} {t : TA} (q : t σ H fun vs H1 => r vs H1 Q) : tCB r t σ H Q := q
theorem r_callE {sp : Sp} {E : XK} {t : TA} (q : t σ H fun vs H1 => sp vs H1 Q E) : tCallE sp E t σ H Q := q
theorem r_makeE {C : Addr} {sp : Sp} {E : XK} {t : TA} (q : t σ H fun vs H1 => ∀ x dx, H1 x = none → H1 dx = none → dx ≠ x → sp (.ref x :: vs) (upd (upd H1 dx (.own x)) x (.ins C dx [])) (fun v H2 => v = .non ∧ Q (.ref x) H2) E) : tMakeE C sp E t σ H Q := q
theorem r_methE {P : Program} {w : World} {K : PySem.W.Frag} {mg : Str → Option Value} {base : Heap} {CX : CXT} {k : Nat} {m : Str} {E : XK} {ta : TE} {t : TA} (q : ta σ H fun x H1 => rMeth P w K mg base CX k m E σ t x H1 Q) : tMethE P w K mg base CX k m E ta t σ H Q := q
theorem r_methV {P : Program} {w : World} {K : PySem.W.Frag} {mg : Str → Option Value} {base : Heap} {CX : CXT} {k : Nat} {m : Str} {E : XK} {t : TA} {p C dx : Addr} {fs : List (Str × V)} {sp : Sp} (h : H p = some (.ins C dx fs)) (l : fs.lookup m = none) (M : MethE P w K mg base CX k C m sp)
    (q : t σ H fun vs H2 => sp (.ref p :: vs) H2 Q E) : rMeth P w K mg base CX k m E σ t (.ref p) H Q := ⟨p, C, dx, fs, sp, rfl, h, l, M, q⟩
theorem r_fld {K : PySem.W.Frag} {ta : TE} {f : Str} (q : ta σ H fun x H1 => rFld K f x H1 Q) : tFld K ta f σ H Q := q
theorem r_fldV {K : PySem.W.Frag} {f : Str} {p C dx : Addr} {fs : List (Str × V)} {v : V} (h : H p = some (.ins C dx fs)) (c : Cls K C) (n : NoAttr K C f) (l : fs.lookup f = some v) (q : Q v H) : rFld K f (.ref p) H Q := ⟨p, C, dx, fs, v, rfl, h, c, n, l, q⟩
theorem r_tup {t : TA} (q : t σ H fun xs H1 => xs.length ≤ sizeLine ∧ ∀ p, H1 p = none → Q (.ref p) (upd H1 p (.tup xs))) : tTup t σ H Q := q
theorem r_lst {t : TA} (q : t σ H fun xs H1 => xs.length ≤ sizeLine ∧ ∀ p, H1 p = none → Q (.ref p) (upd H1 p (.lst xs))) : tLst t σ H Q := q
theorem r_andV {ta tb : TE} (q : ta σ H fun x H1 => ∃ c, x = .bl c ∧ if c = true then tb σ H1 Q else Q (.bl false) H1) : tAndV ta tb σ H Q := q
theorem r_orV {ta tb : TE} (q : ta σ H fun x H1 => ∃ c, x = .bl c ∧ if c = true then Q (.bl true) H1 else tb σ H1 Q) : tOrV ta tb σ H Q := q
theorem r_notV {ta : TE} (q : ta σ H fun x H1 => ∃ c, x = .bl c ∧ Q (.bl (!c)) H1) : tNotV ta σ H Q := q
theorem r_if {t : TT} {ta tb : TE} (q : t σ H fun c H1 => if c = true then ta σ H1 Q else tb σ H1 Q) : tIf t ta tb σ H Q := q
theorem r_sl {r : V → Option Int → Option Int → Hp → VK → Prop} {te : TE} {tl th : TO} (q : te σ H fun x H1 => tl σ H1 fun l H2 => th σ H2 fun u H3 => r x l u H3 Q) : tSl r te tl th σ H Q := q
end
section
variable {σ : St} {H : Hp} {Q : List V → Hp → Prop}
theorem r_nil (q : Q [] H) : tNil σ H Q := q
theorem r_cons {ta : TE} {tr : TA} (q : ta σ H fun x H1 => tr σ H1 fun xs H2 => Q (x :: xs) H2) : tCons ta tr σ H Q := q
end
section
variable {σ : St} {H : Hp} {Q : Option Int → Hp → Prop}
theorem r_noPart (q : Q none H) : tNoPart σ H Q := q
theorem r_part {t : TE} (q : t σ H fun x H1 => ∃ i, x = .int i ∧ Q (some i) H1) : tPart t σ H Q := q
end
section
variable {σ : St} {H : Hp} {Q : Bool → Hp → Prop}
theorem r_test {t : TE} (q : t σ H fun x H' => ∃ k, x = .bl k ∧ Q k H') : tTest t σ H Q := q
theorem r_and {t u : TT} (q : t σ H fun c H1 => if c = true then u σ H1 Q else Q false H1) : tAnd t u σ H Q := q
theorem r_or {t u : TT} (q : t σ H fun c H1 => if c = true then Q true H1 else u σ H1 Q) : tOr t u σ H Q := q
theorem r_not {t : TT} (q : t σ H fun c H1 => Q (!c) H1) : tNot t σ H Q := q
def tTru (K : PySem.W.Frag) (ta : TE) : TT := fun σ H Q => ta σ H fun x H' => rTru K x H' Q
theorem pt_tru {X : Cx} {a : Expr} {ta : TE} (ha : PE X a ta) (he : ∀ whole, isTrue a X.env whole = (do let v ← whole; standAt a.pos; holding [v] (truthy v)) := by intro _; rfl) : PT X a (tTru X.K ta) := pt_truth ha he
theorem r_tru {K : PySem.W.Frag} {ta : TE} (q : ta σ H fun x H' => rTru K x H' Q) : tTru K ta σ H Q := q
end
section
variable {D : Ends} {σ : St} {H : Hp}
theorem r_next (q : D.nx σ H) : tNext D σ H := q
theorem r_seq {t u : TS} (q : t { D with nx := u D } σ H) : tSeq t u D σ H := q
theorem r_ret {te : TE} (q : te σ H D.rt) : tRet te D σ H := q
theorem r_ifS {c : TT} {t u : TS} (q : c σ H fun b H1 => if b = true then t D σ H1 else u D σ H1) : tIfS c t u D σ H := q
theorem r_asg {te : TE} {g : TG} (q : te σ H fun x H1 => g x σ H1 D.nx) : tAsg te g D σ H := q
theorem r_sFld {K : PySem.W.Frag} {ta tv : TE} {f : Str} (q : tv σ H fun y H1 => ta σ H1 fun x H2 => sFldV K f y D σ x H2) : sFld K ta tv f D σ H := q
theorem r_sFldV {K : PySem.W.Frag} {f : Str} {y : V} {p C dx : Addr} {fs : List (Str × V)} (h : H p = some (.ins C dx fs)) (c : Cls K C) (n : NoAttr K C f) (l : fs.length < 1000) (q : D.nx σ (upd H p (.ins C dx (putF f y fs)))) : sFldV K f y D σ (.ref p) H := ⟨p, C, dx, fs, rfl, h, c, n, l, q⟩
end
theorem ifDec {c A B : Prop} [Decidable c] (h1 : c → A) (h2 : ¬ c → B) : if decide c = true then A else B := by
  by_cases h : c
  · rw [if_pos (decide_eq_true h)]; exact h1 h
  · rw [if_neg (by rw [decide_eq_false h]; exact Bool.false_ne_true)]; exact h2 h
theorem ifDecN {c A B : Prop} [Decidable c] (h1 : ¬ c → A) (h2 : c → B) : if (!decide c) = true then A else B := by
  by_cases h : c
  · rw [if_neg (by rw [decide_eq_true h]; decide)]; exact h2 h
  · rw [if_pos (by rw [decide_eq_false h]; rfl)]; exact h1 h
theorem ifInt {a b : Int} {A B : Prop} (h1 : a = b → A) (h2 : a ≠ b → B) : if decide (V.int a = V.int b) = true then A else B :=
  ifDec (fun e => h1 (by cases e; rfl)) fun e => h2 fun z => e (by rw [z])
theorem ifIntN {a b : Int} {A B : Prop} (h1 : a ≠ b → A) (h2 : a = b → B) : if (!decide (V.int a = V.int b)) = true then A else B :=
  ifDecN (fun e => h1 fun z => e (by rw [z])) fun e => h2 (by cases e; rfl)
end L3
namespace L3
open PySem PySem.Spec PyProof.Rows L2
section
variable {P : Program} {w : World} {K : PySem.W.Frag} {mg : Str → Option Value} {base : Heap} {x qual : Str} {st : Stmt} {N ps : List Str} {sp : Sp} {C : Addr}

def BodyOk (P : Program) (w : World) (K : PySem.W.Frag) (mg : Str → Option Value) (base : Heap) (k : Nat) (qual : Str) (st : Stmt) (N : List Str) (sp : Sp) : Prop :=
  ∀ (f : Addr) (cdv : Value) (A : Around) (outer : List Env) (s : Shared) (H : Hp) (vs : List V) (Q : VK) (E : XK), Room k (A.deeper (envOfC qual (defScope st) s.heap.objs.size f cdv)) → sp vs H Q E →
    ∃ t, PSs (cxOf CX0 P w K mg base N qual (defScope st) f cdv A outer s H E).nox (defBody st) t ∧ t { nx := fun _ H' => Q .non H', rt := Q } (start N vs) H
theorem fnE_of (k : Nat) (h : ∃ f fd, Fun K x qual st f fd ∧ mg x = some (.ref f) ∧ Binds K fd ps []) (S : FnScope N ps (defScope st)) (len : ∀ vs H Q E, sp vs H Q E → vs.length = ps.length)
    (hbody : BodyOk P w K mg base k qual st N sp) : FnE P w K mg base CX0 (k + 1) x sp := by
  obtain ⟨f, fd, F, hm, hb⟩ := h
  exact ⟨f, fd, ps, F.ok S len (hbody f), hm, F.kp, hb⟩
theorem methE_of (k : Nat) (c : Cls K C) (h : ∃ f fd, Fun K x qual st f fd ∧ Meth K C x f ∧ Binds K fd ps []) (S : FnScope N ps (defScope st)) (len : ∀ vs H Q E, sp vs H Q E → vs.length = ps.length)
    (hbody : BodyOk P w K mg base k qual st N sp) : MethE P w K mg base CX0 (k + 1) C x sp := by
  obtain ⟨f, fd, F, hm, hb⟩ := h
  exact ⟨c, f, fd, ps, hm, F.ok S len (hbody f), hb⟩
theorem mkE_of {y : Str} (k : Nat) (hy : mg y = some (.ref C)) (h : ∃ f fd, Fun K "__init__" qual st f fd ∧ Mk K C f ∧ Binds K fd ps []) (S : FnScope N ps (defScope st)) (len : ∀ vs H Q E, sp vs H Q E → vs.length = ps.length)
    (hbody : BodyOk P w K mg base k qual st N sp) : MkE P w K mg base CX0 (k + 1) y C sp := by
  obtain ⟨f, fd, F, hm, hb⟩ := h
  exact ⟨f, fd, ps, hm, F.ok S len (hbody f), hy, hb⟩
end
end L3

namespace L3
open PySem PySem.Spec PyProof.Rows L2 PySem.SeqAt

section
variable {X : Cx} {K : PySem.W.Frag}
theorem op_plusK (h : X.K = K) : OpR X (binaryOp .Add) (rPlus K) := by subst h; exact op_plus
theorem op_eqK (h : X.K = K) (hu : X.A.units + 64 < cLine) : OpR X (compareOp .Eq) (rEqA K) := by subst h; exact op_eqA hu
theorem op_neK (h : X.K = K) (hu : X.A.units + 64 < cLine) : OpR X (compareOp .NotEq) (rNeA K) := by subst h; exact op_neA hu
theorem ix_K (h : X.K = K) : IxR X (rIxA K) := by subst h; exact ix_any
theorem sl_K (h : X.K = K) : SlR X (rSlA K) := by subst h; exact sl_any
theorem call_lenK (h : X.K = K) : CallR X (.builtin "len") (rLen K) := by subst h; exact call_lenA
theorem call_listK (h : X.K = K) : CallR X (.type "list") (rLst K) := by subst h; exact call_listA
theorem call_isiK (h : X.K = K) : CallR X (.builtin "isinstance") (rIsi K) := by subst h; exact call_isi
theorem pe_fldK {e : Expr} {f : Str} {pos : Pos} {ta : TE} (h : X.K = K) (he : PE X e ta) (hb : attributeBase e f X.env (eval e X.env) = eval e X.env := by rfl) : PE X (.Attribute e f pos) (tFld K ta f) := by subst h; exact pe_fld he hb
theorem ps_fldK {o value : Expr} {f : Str} {pos pos' : Pos} {ta tv : TE} (h : X.K = K) (ha : PE X o ta) (hv : PE X value tv) (hs : swapsWith value (some (.Attribute o f pos')) pos.line X.env = pure false := by rfl) :
    PS X (.Assign [.Attribute o f pos'] value pos) (sFld K ta tv f) := by subst h; exact ps_fld ha hv hs
theorem pt_truK {a : Expr} {ta : TE} (h : X.K = K) (ha : PE X a ta) (he : ∀ whole, isTrue a X.env whole = (do let v ← whole; standAt a.pos; holding [v] (truthy v)) := by intro _; rfl) : PT X a (tTru K ta) := by subst h; exact pt_tru ha he
end
section
variable {X : Cx} {P : Program} {w : World} {K : PySem.W.Frag} {mg : Str → Option Value} {base : Heap} {CX : CXT} {k : Nat} {E : XK} {m : Str} {pos apos : Pos} {e o : Expr} {es : List Expr} {ta : TE} {t : TA}
theorem pe_methK {pl : Sem Bool} (hP : X.prog = P ∧ X.w = w ∧ X.K = K ∧ X.mg = mg ∧ X.base = base) (he : PE X o ta) (hr : Room k X.A) (hx : Passes CX X E) (ha : PA X (e :: es) t)
    (hst : starEach (e :: es) X.env = (false, eval e X.env) :: starEach es X.env := by rfl) (hpl : (backTo pos (starEach es X.env)).any (·.1) = false := by rfl)
    (ht : eval (.Call (.Attribute o m apos) (e :: es) [] pos) X.env = (do
      let ov ← eval o X.env
      standAt apos.atName
      let (f, first) ← holding [ov] (getMethod ov m pl)
      callWith pos f first (backTo pos (starEach (e :: es) X.env)) (backToKw pos (keywordEach [] X.env))) := by rfl) :
    PE X (.Call (.Attribute o m apos) (e :: es) [] pos) (tMethE P w K mg base CX k m E ta t) := by
  obtain ⟨rfl, rfl, rfl, rfl, rfl⟩ := hP
  exact pe_methE (pl := pl) he hr hx ha hst hpl ht
end
end L3
namespace L3
open PySem PySem.Spec PyProof.Rows L2 PySem.SeqAt

theorem r_alloc {H : Hp} {R : Addr → Prop} (q : ∀ p, H p = none → R p) : ∀ p, H p = none → R p := q
theorem r_small {n : Nat} {R : Prop} (h : n ≤ sizeLine) (q : R) : n ≤ sizeLine ∧ R := ⟨h, q⟩
theorem none_same {H H' : Hp} {q : Addr} (s : Same H H') (h : H' q = none) : H q = none := by
  cases e : H q with
  | none => rfl
  | some u => rw [s _ _ e] at h; cases h
theorem same_none {H H1 : Hp} {p : Addr} {o : HO} (s : Same H H1) (h : H1 p = none) : Same H (upd H1 p o) := s.trans (same_new h)

theorem upd_again {H : Hp} {p : Addr} {o1 o2 : HO} : upd (upd H p o1) p o2 = upd H p o2 := upd_upd ..
theorem r_gN {i : Nat} {v : V} {σ σ' : St} {H : Hp} {Q : St → Hp → Prop} (h : σ.set i (some v) = σ') (q : Q σ' H) : gName i v σ H Q := by subst h; exact q
theorem r_st {N : List Str} {vs : List V} {σ' : St} {t : TS} {D : Ends} {H : Hp} (h : start N vs = σ') (q : t D σ' H) : t D (start N vs) H := by subst h; exact q
def rIsN : R2 := fun x y H Q => y = .non ∧ Q (.bl (decide (x = .non))) H
def rNotN : R2 := fun x y H Q => y = .non ∧ Q (.bl (!decide (x = .non))) H
theorem op_isNA {X : Cx} : OpR X (compareOp .Is) rIsN := op_isN
theorem op_notNA {X : Cx} : OpR X (compareOp .IsNot) rNotN := op_notN
theorem r_isNn {H : Hp} {Q : VK} (q : Q (.bl true) H) : rIsN .non .non H Q := ⟨rfl, q⟩
theorem r_isNi {i : Int} {H : Hp} {Q : VK} (q : Q (.bl false) H) : rIsN (.int i) .non H Q := ⟨rfl, q⟩
theorem r_notNr {p : Addr} {H : Hp} {Q : VK} (q : Q (.bl true) H) : rNotN (.ref p) .non H Q := ⟨rfl, q⟩
theorem sql_upd {K : PySem.W.Frag} {H H1 : Hp} {a p : Addr} {xs : List V} {o : HO} (s : Same H H1) (h : H p = none) (q : SqL K H a xs) : SqL K (upd H1 p o) a xs := Same.seq (same_upd s h) q
theorem r_ixD {K : PySem.W.Frag} {p : Addr} {x0 x1 : V} {c : Prop} [Decidable c] {H : Hp} {Q : VK} (h : SqL K H p [x0, x1]) (q1 : c → Q x1 H) (q0 : ¬ c → Q x0 H) : rIxA K (.ref p) (.bl (decide c)) H Q := by
  by_cases e : c
  · exact r_ixB h (by rw [decide_eq_true e]; rfl) (q1 e)
  · exact r_ixB h (by rw [decide_eq_false e]; rfl) (q0 e)
theorem r_ixDi {K : PySem.W.Frag} {p : Addr} {x0 x1 : V} {a b : Int} {H : Hp} {Q : VK} (h : SqL K H p [x0, x1]) (q1 : a = b → Q x1 H) (q0 : a ≠ b → Q x0 H) : rIxA K (.ref p) (.bl (decide (V.int a = V.int b))) H Q :=
  r_ixD h (fun e => q1 (by cases e; rfl)) fun e => q0 fun z => e (by rw [z])

theorem r_ixDj {K : PySem.W.Frag} {p : Addr} {x y a b : Int} {H : Hp} {Q : VK} (h : SqL K H p [.int x, .int y]) (q : Q (.int (if a = b then y else x)) H) : rIxA K (.ref p) (.bl (decide (V.int a = V.int b))) H Q :=
  r_ixDi h (fun e => by rw [if_pos e] at q; exact q) fun e => by rw [if_neg e] at q; exact q
theorem at2 (x y c : Int) : atI [V.int x, .int y] (c % 2) = some (.int (if c % 2 = 0 then x else y)) := by
  have h : c % 2 = 0 ∨ c % 2 = 1 := by omega
  rcases h with h | h <;> rw [h] <;> rfl

end L3
namespace L3
open PySem PySem.Spec PyProof.Rows L2 PySem.SeqAt

section
variable {P : Program} {w : World} {K : PySem.W.Frag} {mg : Str → Option Value} {base : Heap}
end
section
variable {X : Cx} {CX : CXT} {k : Nat} {C : Addr} {sp : Sp} {E : XK} {x m : Str} {p pos apos : Pos} {e o : Expr} {es : List Expr} {ta : TE} {t : TA}
end
section
variable {P : Program} {w : World} {K : PySem.W.Frag} {mg : Str → Option Value} {base : Heap} {x qual : Str} {st : Stmt} {N ps : List Str} {sp : Sp} {C : Addr}
end

section
variable {K : PySem.W.Frag} {a : Addr} {xs : List V} {g : TG} {tc : TT} {te : TE} {fin : List V → Hp → Prop} {H : Hp}
end
end L3
namespace L3
open PySem PySem.Spec PyProof.Rows

section
variable {prog : Program} {w : World} {A : Around} {E : Value → Shared → Prop} {s : Shared}

end
section
variable {prog : Program} {w : World} {A : Around} {E : Value → Shared → Prop} {s : Shared}
end
end L3
namespace L3
open PySem PySem.Spec PyProof.Rows L2

end L3
namespace L3
open PySem PySem.Spec PyProof.Rows L2

end L3

namespace L3
open PySem PySem.Spec PyProof.Rows L2 PySem.SeqAt

end L3
namespace L3
open PySem PySem.Spec PyProof.Rows L2 PySem.SeqAt

end L3
namespace L3
open PySem PySem.Spec PyProof.Rows L2 PySem.SeqAt
section
variable {P : Program} {w : World} {K : PySem.W.Frag} {mg : Str → Option Value} {base : Heap} {x qual : Str} {st : Stmt} {N ps : List Str} {sp : Sp} {C : Addr} {k : Nat}

end

section
variable {X : Cx} {pins : List (Addr × Obj)} {σ : St} {H : Hp} {s : Shared}

end
end L3
namespace L3
open PySem PySem.Spec PyProof.Rows L2 PySem.SeqAt


section
variable {X : Cx} {pins : List (Addr × Obj)} {σ : St} {H : Hp} {s : Shared} {k : Nat} {g x n : Str} {sp : Sp} {e : Expr} {es : List Expr} {t : TA} {gp cpos pos py : Pos}

end
end L3
namespace L3
open PySem PySem.Spec PyProof.Rows L2 PySem.SeqAt
section
variable {X : Cx} {pins : List (Addr × Obj)} {σ : St} {H H1 H' : Hp} {s s1 s' : Shared} {ea C : Addr}

end
end L3
namespace L3
open PySem PySem.Spec PyProof.Rows L2 PySem.SeqAt PySem.W Builtin Builtin.ObjectAttr Builtin.Getset_descriptor

section
variable {prog : Program} {w : World} {A : Around} {E : Value → Shared → Prop} {s : Shared} {K : PySem.W.Frag} {x C : Addr} {ox : Obj}
end
end L3
namespace L3
open PySem PySem.Spec PyProof.Rows L2 PySem.SeqAt PySem.W Builtin Builtin.ObjectAttr Builtin.Getset_descriptor
section
variable {prog : Program} {w : World} {A : Around} {E : Value → Shared → Prop} {s : Shared} {K : PySem.W.Frag} {x C : Addr} {ox : Obj}
end
end L3
namespace L3
open PySem PySem.Spec PyProof.Rows L2 PySem.SeqAt

section
variable {X : Cx} {k : Nat} {g : Str} {sp : Sp} {e c : Expr} {es : List Expr} {t : TA} {gp cpos pos : Pos} {b1 b2 : List Stmt} {tc : TT} {t1 t2 : TB}
end
section
variable {X : Cx} {v : Expr} {tv : TE} {x y : Str} {j1 j2 : Nat} {p0 p1 p2 p3 : Pos}
end
end L3
namespace L3
open PySem PySem.Spec PyProof.Rows

section
variable {prog : Program} {w : World} {A : Around} {E : Value → Shared → Prop} {s : Shared}
end
section
variable {prog : Program} {w : World} {A : Around} {E : Value → Shared → Prop} {s : Shared}
end
end L3
namespace L3
open PySem PySem.Spec PyProof.Rows L2

end L3
namespace L3
open PySem PySem.Spec PyProof.Rows L2 PySem.SeqAt

end L3
namespace FB
open PySem PySem.Spec PyProof.Rows L2 L3 PySem.SeqAt


inductive Rw where
  | set (b n : Int) | copy (b o : Int) | add (b o t : Int) | sub (b o t : Int) | mul (b o t : Int) | less (b o t : Int)
  | grow (m : Int) | shrink (m : Int) | put (b c : Int) | get (b c : Int)
  | jump (t : Int) | branch (b t : Int) | call (t : Int) | back (b : Int) | drop (b : Int)
def isBox (b : Int) : Prop := 0 ≤ b ∧ b ≤ 7
def isVal (n : Int) : Prop := 0 ≤ n ∧ n ≤ 4294967295
def isMany (n : Int) : Prop := 0 ≤ n ∧ n ≤ 4000
def isTgt (n : Int) : Prop := 0 ≤ n ∧ n ≤ 2000
def Rw.ok : Rw → Prop
  | .set b n => isBox b ∧ isVal n
  | .copy b o => isBox b ∧ isBox o
  | .add b o t | .sub b o t | .mul b o t | .less b o t => isBox b ∧ isBox o ∧ isBox t
  | .grow m | .shrink m => isMany m
  | .put b c | .get b c => isBox b ∧ isMany c
  | .jump t | .call t => isTgt t
  | .branch b t => isBox b ∧ isTgt t
  | .back b | .drop b => isBox b
def gI (xs : List Int) (i : Int) : Int := xs.getD i.toNat 0
def sI (xs : List Int) (i v : Int) : List Int := xs.set i.toNat v
theorem sI_len (xs : List Int) (i v : Int) : (sI xs i v).length = xs.length := by unfold sI; exact List.length_set ..
theorem gI_at {xs : List Int} {i : Int} (h0 : 0 ≤ i) (h1 : i < xs.length) : atI (xs.map V.int) i = some (.int (gI xs i)) := by
  have e : i = ((i.toNat : Nat) : Int) := by omega
  have hl : i.toNat < xs.length := by omega
  have z : atI (xs.map V.int) ((i.toNat : Nat) : Int) = some (.int (gI xs i)) := atI_nat (by
    rw [List.getElem?_map, List.getElem?_eq_getElem hl]
    simp [gI, List.getD, List.getElem?_eq_getElem hl])
  rw [← e] at z; exact z
theorem ixN_at {xs : List V} {i : Int} (h0 : 0 ≤ i) (h1 : i < xs.length) : ixN xs.length i = some i.toNat := by
  unfold ixN; rw [if_pos h0, if_pos h1]
theorem map_sI (xs : List Int) (i v : Int) : (xs.map V.int).set i.toNat (.int v) = (sI xs i v).map V.int := by
  unfold sI; rw [List.map_set]
theorem gI_val {bs : List Int} (h8 : bs.length = 8) (hv : ∀ x ∈ bs, isVal x) {o : Int} (h : isBox o) : isVal (gI bs o) := by
  unfold gI
  have hl : o.toNat < bs.length := by have := h.1; have := h.2; omega
  rw [List.getD_eq_getElem?_getD, List.getElem?_eq_getElem hl]
  exact hv _ (List.getElem_mem hl)
theorem r_setI {p : Addr} {xs : List Int} {k v : Int} {H : Hp} {Q : Hp → Prop} (h : H p = some (.lst (xs.map V.int))) (h0 : 0 ≤ k) (h1 : k < xs.length) (q : Q (upd H p (.lst ((sI xs k v).map V.int)))) : rSetL (.ref p) (.int k) (.int v) H Q :=
  r_setL h (ixN_at h0 (by rw [List.length_map]; exact h1)) (by rw [map_sI]; exact q)
theorem r_lenI {K : PySem.W.Frag} {p : Addr} {xs : List Int} {H : Hp} {Q : VK} (h : SqL K H p (xs.map V.int)) (q : Q (.int xs.length) H) : rLen K [.ref p] H Q := r_lenL h (by rw [List.length_map]; exact q)
theorem r_timesZ {l : Addr} {n k : Int} {H : Hp} {Q : VK} (h : H l = some (.lst [.int n])) (h0 : 0 ≤ k) (h1 : k ≤ 4001) (q : ∀ p, H p = none → Q (.ref p) (upd H p (.lst ((List.replicate k.toNat n).map V.int)))) : rTimes (.ref l) (.int k) H Q := by
  refine .inr ⟨l, k, _, rfl, rfl, h, by omega, by omega, ?_, fun p hp => ?_⟩
  · show 1 * k.toNat ≤ sizeLine
    rw [sizeLine_eq]; omega
  · have e : (List.replicate k.toNat [V.int n]).flatten = (List.replicate k.toNat n).map V.int := by
      generalize k.toNat = j
      induction j with
      | zero => rfl
      | succ j ih => rw [List.replicate_succ, List.flatten_cons, ih, List.replicate_succ]; rfl
    rw [e]; exact q p hp
theorem r_plusII {K : PySem.W.Frag} {a b : Addr} {xs ys : List Int} {H : Hp} {Q : VK} (ha : H a = some (.lst (xs.map V.int))) (hb : H b = some (.lst (ys.map V.int))) (hz : xs.length + ys.length ≤ sizeLine) (q : ∀ p, H p = none → Q (.ref p) (upd H p (.lst ((xs ++ ys).map V.int)))) :
    rPlus K (.ref a) (.ref b) H Q := r_plusL ha hb (by rw [List.length_map, List.length_map]; exact hz) (by rw [← List.map_append]; exact q)
def cutI (xs : List Int) (lo hi : Option Int) : List Int := (xs.drop (HT.sIx xs.length 0 lo)).take (HT.sIx xs.length xs.length hi - HT.sIx xs.length 0 lo)
theorem cutV_map (xs : List Int) (lo hi : Option Int) : cutV (xs.map V.int) lo hi = (cutI xs lo hi).map V.int := by
  unfold cutV cutI; rw [List.length_map, List.map_take, List.map_drop]
theorem cutI_take (xs : List Int) {k : Int} (h0 : 0 ≤ k) : cutI xs none (some k) = xs.take k.toNat := by
  unfold cutI
  have e : HT.sIx xs.length 0 none = 0 := rfl
  have e2 : HT.sIx xs.length xs.length (some k) = min k.toNat xs.length := by
    show (if k < 0 then _ else _) = _
    rw [if_neg (by omega)]
  rw [e, e2, List.drop_zero, Nat.sub_zero]
  rcases Nat.le_total k.toNat xs.length with h | h
  · rw [Nat.min_eq_left h]
  · rw [Nat.min_eq_right h, List.take_length, List.take_of_length_le h]
theorem r_slI {K : PySem.W.Frag} {p : Addr} {xs : List Int} {lo hi : Option Int} {H : Hp} {Q : VK} (h : SqL K H p (xs.map V.int)) (q : ∀ l, H l = none → Q (.ref l) (upd H l (.lst ((cutI xs lo hi).map V.int)))) : rSlA K (.ref p) lo hi H Q :=
  r_slL h (by rw [cutV_map]; exact q)
def Rw.run : Rw → Int → List Int → List Int → Option (Int × List Int × List Int)
  | .set b n, a, bs, pl => some (a + 1, sI bs b n, pl)
  | .copy b o, a, bs, pl => some (a + 1, sI bs b (gI bs o), pl)
  | .add b o t, a, bs, pl => some (a + 1, sI bs b ((gI bs o + gI bs t) % 4294967296), pl)
  | .sub b o t, a, bs, pl => some (a + 1, sI bs b ((gI bs o - gI bs t) % 4294967296), pl)
  | .mul b o t, a, bs, pl => some (a + 1, sI bs b ((gI bs o * gI bs t) % 4294967296), pl)
  | .less b o t, a, bs, pl => some (a + 1, sI bs b (if gI bs o < gI bs t then 1 else 0), pl)
  | .grow m, a, bs, pl => if (pl.length : Int) + m > 4000 then none else some (a + 1, bs, pl ++ List.replicate m.toNat 0)
  | .shrink m, a, bs, pl => if (pl.length : Int) < m then none else some (a + 1, bs, pl.take (pl.length - m.toNat))
  | .put b c, a, bs, pl => if (pl.length : Int) ≤ c then none else some (a + 1, bs, sI pl (pl.length - 1 - c) (gI bs b))
  | .get b c, a, bs, pl => if (pl.length : Int) ≤ c then none else some (a + 1, sI bs b (gI pl (pl.length - 1 - c)), pl)
  | .jump t, _, bs, pl => some (t, bs, pl)
  | .branch b t, a, bs, pl => some (if gI bs b = 0 then a + 1 else t, bs, pl)
  | .call t, a, bs, pl => some (t, sI bs 7 (a + 1), pl)
  | .back b, _, bs, pl => some (gI bs b, bs, pl)
  | .drop _, _, _, _ => none
def Rw.height : Rw → Int → Option Int
  | .grow m, h => if h + m > 4000 then none else some (h + m)
  | .shrink m, h => if h < m then none else some (h - m)
  | .put _ c, h => if h ≤ c then none else some h
  | .get _ c, h => if h ≤ c then none else some h
  | _, h => some h

def Rw.flds : Rw → List (Str × V)
  | .set b n => putF "number" (.int n) (putF "box" (.int b) [])
  | .copy b o => putF "one" (.int o) (putF "box" (.int b) [])
  | .add b o t | .sub b o t | .mul b o t | .less b o t => putF "other" (.int t) (putF "one" (.int o) (putF "box" (.int b) []))
  | .grow m | .shrink m => putF "many" (.int m) []
  | .put b c | .get b c => putF "cell" (.int c) (putF "box" (.int b) [])
  | .jump t | .call t => putF "target" (.int t) []
  | .branch b t => putF "target" (.int t) (putF "box" (.int b) [])
  | .back b | .drop b => putF "box" (.int b) []
structure Adr where
  C_Row : Addr
  C_Set : Addr
  C_Copy : Addr
  C_Add : Addr
  C_Sub : Addr
  C_Mul : Addr
  C_Less : Addr
  C_Grow : Addr
  C_Shrink : Addr
  C_Put : Addr
  C_Get : Addr
  C_Jump : Addr
  C_Branch : Addr
  C_Call : Addr
  C_Back : Addr
  C_Drop : Addr
  C_Reckoning : Addr
  C_Reaching : Addr
  C_FrameError : Addr
  C_NoRow : Addr
  C_NoTable : Addr
  C_NoText : Addr
  C_Table : Addr
  C_Reading : Addr
  C_Machine : Addr
  C_Astray : Addr
  C_NoProgram : Addr
  C_NoLine : Addr
  C_NoName : Addr
  G_START : Addr
  G_WHICH : Addr
  G_COUNTS : Addr
def Rw.cls (a : Adr) : Rw → Addr
  | .set .. => a.C_Set
  | .copy .. => a.C_Copy
  | .add .. => a.C_Add
  | .sub .. => a.C_Sub
  | .mul .. => a.C_Mul
  | .less .. => a.C_Less
  | .grow .. => a.C_Grow
  | .shrink .. => a.C_Shrink
  | .put .. => a.C_Put
  | .get .. => a.C_Get
  | .jump .. => a.C_Jump
  | .branch .. => a.C_Branch
  | .call .. => a.C_Call
  | .back .. => a.C_Back
  | .drop .. => a.C_Drop

def RowAt (a : Adr) (H : Hp) (p : Addr) (r : Rw) : Prop := ∃ dx, H p = some (.ins (r.cls a) dx r.flds)
def spBounded : Sp := fun vs H Q _ => ∃ n top : Int, vs = [.int n, .int top] ∧ 0 ≤ n ∧ n ≤ top ∧ Q (.int n) H
def spWithBox (K : PySem.W.Frag) : Sp := fun vs H Q _ => ∃ (p : Addr) (xs : List Int) (b v : Int), vs = [.ref p, .int b, .int v] ∧ SqL K H p (xs.map V.int) ∧ 0 ≤ b ∧ b < xs.length ∧
  ∀ q, H q = none → Q (.ref q) (upd H q (.lst ((sI xs b v).map V.int)))

def kpInit (H : Hp) (x dx C : Addr) (fs : List (Str × V)) (Q : VK) : Prop := H x = some (.ins C dx []) ∧ ∀ H', (∀ b o, H b = some o → b ≠ x → H' b = some o) → H' x = some (.ins C dx fs) → Q .non H'
def spIni1 (C : Addr) (mk : Int → Rw) : Sp := fun vs H Q _ => ∃ (x dx : Addr) (i : Int), vs = [.ref x, .int i] ∧ (mk i).ok ∧ kpInit H x dx C (mk i).flds Q
def spIni2 (C : Addr) (mk : Int → Int → Rw) : Sp := fun vs H Q _ => ∃ (x dx : Addr) (i j : Int), vs = [.ref x, .int i, .int j] ∧ (mk i j).ok ∧ kpInit H x dx C (mk i j).flds Q
def spIni3 (C : Addr) (mk : Int → Int → Int → Rw) : Sp := fun vs H Q _ => ∃ (x dx : Addr) (i j k : Int), vs = [.ref x, .int i, .int j, .int k] ∧ (mk i j k).ok ∧ kpInit H x dx C (mk i j k).flds Q
theorem kp_make {C : Addr} {a : Adr} {r : Rw} {H : Hp} {Q : VK} (hc : r.cls a = C) (q : ∀ p H', Same H H' → H p = none → RowAt a H' p r → Q (.ref p) H') {x dx : Addr} (hx : H x = none) (hdx : H dx = none) :
    kpInit (upd (upd H dx (.own x)) x (.ins C dx [])) x dx C r.flds (fun v H2 => v = .non ∧ Q (.ref x) H2) := by
  refine ⟨upd_same, fun H' kp hH' => ⟨rfl, q x H' (fun b o e => ?_) hx ⟨dx, by rw [hc]; exact hH'⟩⟩⟩
  exact kp b o (by rw [upd_ne (ne_of_none e hx), upd_ne (ne_of_none e hdx)]; exact e) (ne_of_none e hx)
theorem r_row1 {C : Addr} {mk : Int → Rw} {a : Adr} {i : Int} {H : Hp} {Q : VK} {E : XK} (hk : (mk i).ok) (hc : (mk i).cls a = C) (q : ∀ p H', Same H H' → H p = none → RowAt a H' p (mk i) → Q (.ref p) H') :
    ∀ x dx, H x = none → H dx = none → dx ≠ x → spIni1 C mk (.ref x :: [.int i]) (upd (upd H dx (.own x)) x (.ins C dx [])) (fun v H2 => v = .non ∧ Q (.ref x) H2) E := fun x dx hx hdx _ => ⟨x, dx, i, rfl, hk, kp_make hc q hx hdx⟩
theorem r_row2 {C : Addr} {mk : Int → Int → Rw} {a : Adr} {i j : Int} {H : Hp} {Q : VK} {E : XK} (hk : (mk i j).ok) (hc : (mk i j).cls a = C) (q : ∀ p H', Same H H' → H p = none → RowAt a H' p (mk i j) → Q (.ref p) H') :
    ∀ x dx, H x = none → H dx = none → dx ≠ x → spIni2 C mk (.ref x :: [.int i, .int j]) (upd (upd H dx (.own x)) x (.ins C dx [])) (fun v H2 => v = .non ∧ Q (.ref x) H2) E := fun x dx hx hdx _ => ⟨x, dx, i, j, rfl, hk, kp_make hc q hx hdx⟩
theorem r_row3 {C : Addr} {mk : Int → Int → Int → Rw} {a : Adr} {i j k : Int} {H : Hp} {Q : VK} {E : XK} (hk : (mk i j k).ok) (hc : (mk i j k).cls a = C) (q : ∀ p H', Same H H' → H p = none → RowAt a H' p (mk i j k) → Q (.ref p) H') :
    ∀ x dx, H x = none → H dx = none → dx ≠ x → spIni3 C mk (.ref x :: [.int i, .int j, .int k]) (upd (upd H dx (.own x)) x (.ins C dx [])) (fun v H2 => v = .non ∧ Q (.ref x) H2) E := fun x dx hx hdx _ => ⟨x, dx, i, j, k, rfl, hk, kp_make hc q hx hdx⟩
theorem kp_two {H : Hp} {x : Addr} {o1 o2 : HO} : ∀ b o, H b = some o → b ≠ x → upd (upd H x o1) x o2 b = some o := fun b o e ne => by rw [upd_ne ne, upd_ne ne]; exact e
theorem kp_one {H : Hp} {x : Addr} {o1 : HO} : ∀ b o, H b = some o → b ≠ x → upd H x o1 b = some o := fun b o e ne => by rw [upd_ne ne]; exact e
theorem kp_three {H : Hp} {x : Addr} {o1 o2 o3 : HO} : ∀ b o, H b = some o → b ≠ x → upd (upd (upd H x o1) x o2) x o3 b = some o := fun b o e ne => by rw [upd_ne ne, upd_ne ne, upd_ne ne]; exact e

def toldRun (H : Hp) (Q : VK) : Option (Int × List Int × List Int) → Prop
  | none => ∀ H', Same H H' → Q .non H'
  | some (n, bs, pl) => ∀ (t b p : Addr) (H' : Hp), Same H H' → H t = none → H b = none → H p = none → t ≠ b → t ≠ p → b ≠ p → H' t = some (.tup [.int n, .ref b, .ref p]) → H' b = some (.lst (bs.map V.int)) → H' p = some (.lst (pl.map V.int)) → Q (.ref t) H'
def spRuns (K : PySem.W.Frag) (a : Adr) (r : Rw) : Sp := fun vs H Q _ => ∃ (x b p : Addr) (n : Int) (bs pl : List Int), vs = [.ref x, .int n, .ref b, .ref p] ∧ RowAt a H x r ∧ r.ok ∧ SqL K H b (bs.map V.int) ∧ bs.length = 8 ∧ (∀ v ∈ bs, isVal v) ∧
  SqL K H p (pl.map V.int) ∧ pl.length ≤ 4000 ∧ toldRun H Q (r.run n bs pl)
def optV : Option Int → V
  | none => .non
  | some i => .int i
def spHeight (a : Adr) (r : Rw) : Sp := fun vs H Q _ => ∃ (x : Addr) (h : Int), vs = [.ref x, .int h] ∧ RowAt a H x r ∧ Q (optV (r.height h)) H
theorem r_bounded {n top : Int} {H : Hp} {Q : VK} {E : XK} (h0 : 0 ≤ n) (h1 : n ≤ top) (q : Q (.int n) H) : spBounded [.int n, .int top] H Q E := ⟨n, top, rfl, h0, h1, q⟩
theorem r_withBox {K : PySem.W.Frag} {p : Addr} {xs : List Int} {b v : Int} {H : Hp} {Q : VK} {E : XK} (h : SqL K H p (xs.map V.int)) (h0 : 0 ≤ b) (h1 : b < xs.length) (q : ∀ q, H q = none → Q (.ref q) (upd H q (.lst ((sI xs b v).map V.int)))) :
    spWithBox K [.ref p, .int b, .int v] H Q E := ⟨p, xs, b, v, rfl, h, h0, h1, q⟩

theorem told_fin {H : Hp} {Q : VK} {n : Int} {bs pl : List Int} {t b p : Addr} (hb : H b = none) (hp : upd H b (.lst (bs.map V.int)) p = none) (ht : upd (upd H b (.lst (bs.map V.int))) p (.lst (pl.map V.int)) t = none) (q : toldRun H Q (some (n, bs, pl))) :
    Q (.ref t) (upd (upd (upd H b (.lst (bs.map V.int))) p (.lst (pl.map V.int))) t (.tup [.int n, .ref b, .ref p])) := by
  have h1 := none_upd hp
  have h2 := none_upd ht
  have h3 := none_upd h2.1
  refine q t b p _ ((same_new hb).trans ((same_new hp).trans (same_new ht))) h3.1 hb h1.1 h3.2 h2.2 h1.2.symm upd_same ?_ ?_
  · rw [upd_ne h3.2.symm, upd_ne h1.2.symm, upd_same]
  · rw [upd_ne h2.2.symm, upd_same]

def cellAt (ns : List Int) (k : Int) : Int := ns.getD k.toNat 0
def spCellAt (K : PySem.W.Frag) : Sp := fun vs H Q _ => ∃ (p : Addr) (ns : List Int) (k : Int), vs = [.ref p, .int k] ∧ SqL K H p (ns.map V.int) ∧ 0 ≤ k ∧ Q (.int (cellAt ns k)) H
theorem r_cellAt {K : PySem.W.Frag} {p : Addr} {ns : List Int} {k : Int} {H : Hp} {Q : VK} {E : XK} (h : SqL K H p (ns.map V.int)) (h0 : 0 ≤ k) (q : Q (.int (cellAt ns k)) H) : spCellAt K [.ref p, .int k] H Q E := ⟨p, ns, k, rfl, h, h0, q⟩
theorem cellAt_out {ns : List Int} {k : Int} (h0 : 0 ≤ k) (h : ¬ k < ns.length) : cellAt ns k = 0 := by
  unfold cellAt
  rw [List.getD_eq_getElem?_getD, List.getElem?_eq_none (by omega)]
  rfl
def spWhole : Sp := fun vs H Q _ => ∃ i : Int, vs = [.int i] ∧ Q (.bl true) H
theorem r_whole {i : Int} {H : Hp} {Q : VK} {E : XK} (q : Q (.bl true) H) : spWhole [.int i] H Q E := ⟨i, rfl, q⟩
def spLaw (K : PySem.W.Frag) : Sp := fun vs H Q _ => ∃ (a : Addr) (ns : List Int), vs = [.ref a] ∧ SqL K H a (ns.map V.int) ∧ ns.length ≤ 63 ∧ ∀ H', Q (.bl true) H'
theorem look_of {fs : List (Str × V)} {f g : Str} {v w : V} (h : f ≠ g) (e : fs.lookup f = some w) : (putF g v fs).lookup f = some w := by rw [lookup_putF, if_neg h]; exact e
theorem look_hit {fs : List (Str × V)} {f : Str} {v : V} : (putF f v fs).lookup f = some v := by rw [lookup_putF, if_pos rfl]
theorem look_no {fs : List (Str × V)} {f g : Str} {v : V} (h : f ≠ g) (e : fs.lookup f = none) : (putF g v fs).lookup f = none := by rw [lookup_putF, if_neg h]; exact e
theorem len_of {fs : List (Str × V)} {f : Str} {v : V} {n : Nat} (e : fs.length ≤ n) : (putF f v fs).length ≤ n + 1 := Nat.le_trans (length_putF _ _ _) (Nat.succ_le_succ e)
end FB

namespace FB
open PySem PySem.Spec PyProof.Rows L2 L3 PySem.SeqAt
local macro_rules | `(tactic| walk_at "clok") => `(tactic| repeat (first | exact True.intro | refine ⟨rfl, ?_⟩))
local macro_rules | `(tactic| walk_at "frok") => `(tactic| repeat (first | exact True.intro | refine ⟨⟨rfl, (by first | exact Or.inl rfl | exact Or.inr rfl), (by first | exact Or.inl rfl | exact Or.inr rfl), rfl⟩, ?_⟩))
local macro_rules | `(tactic| walk_at "hlk") => `(tactic| first | (with_reducible assumption) | (exact upd_same) | ((with_reducible refine' look_new ?x ?y); (case y => with_reducible assumption); (case x => walk_at "hlk")) | ((fail_if_success (((with_reducible refine' look_new ?x ?y); (case y => with_reducible assumption)))); (with_reducible refine' look_ne ?x ?y); (case x => walk_at "ne"); (case y => walk_at "hlk")) | ((with_reducible refine' same_at ?x ?y); (case x => with_reducible assumption); (case y => walk_at "hlk")))
local macro_rules | `(tactic| walk_at "ne") => `(tactic| first | (with_reducible assumption) | (apply Ne.symm; (with_reducible assumption)) | ((with_reducible refine' ne_of_none ?x ?y); (case y => with_reducible assumption); (case x => walk_at "hlk")) | (apply Ne.symm; (with_reducible refine' ne_of_none ?x ?y); (case y => with_reducible assumption); (case x => walk_at "hlk")))
local macro_rules | `(tactic| walk_at "sql") => `(tactic| first | (with_reducible assumption) | (refine' SqL.of ?x; (case x => first | (with_reducible assumption) | (exact upd_same))) | ((with_reducible refine' sql_new ?x ?y); (case y => with_reducible assumption); (case x => walk_at "sql")) | ((fail_if_success (((with_reducible refine' sql_new ?x ?y); (case y => with_reducible assumption)))); first | ((with_reducible refine' sql_upd ?s ?h ?q); (case h => with_reducible assumption); (case s => walk_at "same"); (case q => walk_at "sql")) | (refine' SqL.of ?x; (case x => (with_reducible refine' look_ne ?x2 ?y2); (case x2 => walk_at "ne"); (case y2 => walk_at "hlk")))) | ((with_reducible refine' Same.seq ?x ?y); (case x => with_reducible assumption); (case y => walk_at "sql")))
local macro_rules | `(tactic| walk_at "sqt") => `(tactic| first | (with_reducible assumption) | (refine' SqT.of ?x; (case x => first | (with_reducible assumption) | (exact upd_same))) | ((with_reducible refine' sqt_new ?x ?y); (case y => with_reducible assumption); (case x => walk_at "sqt")) | ((fail_if_success (((with_reducible refine' sqt_new ?x ?y); (case y => with_reducible assumption)))); first | ((with_reducible refine' sqt_upd ?s ?h ?q); (case h => with_reducible assumption); (case s => walk_at "same"); (case q => walk_at "sqt")) | (refine' SqT.of ?x; (case x => (with_reducible refine' look_ne ?x2 ?y2); (case x2 => walk_at "ne"); (case y2 => walk_at "hlk")))) | ((with_reducible refine' SqT_same ?x ?y); (case x => with_reducible assumption); (case y => walk_at "sqt")))
local macro_rules | `(tactic| walk_at "lk") => `(tactic| first | (with_reducible exact look_hit) | (refine' look_of ?x ?y; (case x => decide +kernel); (case y => walk_at "lk")) | exact look_hit)
local macro_rules | `(tactic| walk_at "nolk") => `(tactic| first | (with_reducible rfl) | (refine' look_no ?x ?y; (case x => decide +kernel); (case y => walk_at "nolk")) | rfl)
local macro_rules | `(tactic| walk_at "fewf") => `(tactic| first | exact Nat.lt_of_le_of_lt (Nat.le_refl 0) (by decide) | exact Nat.lt_of_le_of_lt (len_of (Nat.le_refl 0)) (by decide) | exact Nat.lt_of_le_of_lt (len_of (len_of (Nat.le_refl 0))) (by decide) | exact Nat.lt_of_le_of_lt (len_of (len_of (len_of (Nat.le_refl 0)))) (by decide))
local macro_rules | `(tactic| walk_at "small") => `(tactic| first | exact Nat.le_of_ble_eq_true rfl | (show _ ≤ sizeLine; rw [sizeLine_eq]; first | omega | (simp only [List.length_map, List.length_cons, List.length_nil, List.length_append, List.length_replicate, List.length_set, List.length_range]; omega)))
local macro_rules | `(tactic| walk_at "r1") => `(tactic| with_reducible first
  | refine r_var (by with_unfolding_all rfl) ?_
  | refine r_c ?_ | refine r_op ?_ | refine r_I0 ?_ | refine r_plusI ?_ | refine r_seq ?_ | refine r_asg ?_ | (refine' r_gN ?x ?_; (case x => simp only [List.set_cons_succ, List.set_cons_zero]; rfl)) | refine r_ret ?_ | refine r_ifS ?_ | refine r_test ?_
  | refine r_cons ?_ | refine r_nil ?_ | refine r_cb ?_ | refine r_callE ?_ | refine r_makeE ?_ | refine r_methE ?_ | refine r_fld ?_ | refine r_tru ?_ | refine r_truB ?_ | refine r_truI ?_
  | refine r_not ?_ | refine r_and ?_ | refine r_or ?_ | refine r_next ?_ | refine r_drop ?_ | refine r_sFld ?_ | refine r_retN ?_ | refine r_un ?_ | refine r_U ?_ | refine r_if ?_
  | refine r_andV ?_ | refine r_orV ?_ | refine r_notV ?_ | refine r_sl ?_ | refine r_part ?_ | refine r_noPart ?_ | refine r_bm ?_ | refine r_bm0 ?_ | refine r_tup ?_ | refine r_lst ?_ | refine r_two ?_
  | (refine' r_compE' ?x ?_; (case x => with_unfolding_all rfl)) | (refine' r_compS' ?x ?_; (case x => with_unfolding_all rfl)) | refine r_for ?_ | refine r_iSeq ?_ | refine r_rng1 ?_ | refine r_rng2 ?_ | refine r_true ?_
  | refine r_isNr ?_ | refine r_isNn ?_ | refine r_isNi ?_ | refine r_notNr ?_ | refine r_notNn ?_ | refine r_notNi ?_
  | refine iteT ?_ | refine iteF ?_ | refine iteNT ?_ | refine iteNF ?_
  | refine ⟨_, rfl, ?_⟩)
local macro_rules | `(tactic| walk_at "r2") => `(tactic| first
  | ((with_reducible refine' r_fldV ?h ?c ?n ?l ?_); (case h => walk_at "hlk"); (case c => walk_at "cls"); (case n => walk_at "noat"); (case l => walk_at "lk"))
  | ((with_reducible refine' r_sFldV ?h ?c ?n ?l ?_); (case h => walk_at "hlk"); (case c => walk_at "cls"); (case n => walk_at "noat"); (case l => walk_at "fewf"))
  | ((with_reducible refine' r_lenI ?h ?_); (case h => walk_at "sql"))
  | ((with_reducible refine' r_lenL ?h ?_); (case h => walk_at "sql"))
  | ((with_reducible refine' r_lenT ?h ?_); (case h => walk_at "sqt"))
  | ((with_reducible refine' r_listL ?h ?_); (case h => walk_at "sql"))
  | ((with_reducible refine' r_listT ?h ?_); (case h => walk_at "sqt"))
  | ((with_reducible refine' r_eqS ?h ?_); (case h => rfl))
  | ((with_reducible refine' r_neS ?h ?_); (case h => rfl)))
local macro_rules | `(tactic| walk_at "none") => `(tactic| first | (with_reducible assumption) | ((with_reducible refine' none_same ?x ?y); (case y => with_reducible assumption); (case x => walk_at "same")))
local macro_rules | `(tactic| walk_at "same") => `(tactic| first | (with_reducible assumption) | (with_reducible exact Same.refl _) | ((with_reducible refine' same_none ?x ?y); (case y => with_reducible assumption); (case x => walk_at "same")) | ((fail_if_success (((with_reducible refine' same_none ?x ?y); (case y => with_reducible assumption)))); (with_reducible refine' same_upd ?x ?y); (case y => walk_at "none"); (case x => walk_at "same")) | ((with_reducible refine' Same.trans ?x ?y); (case y => with_reducible assumption); (case x => walk_at "same")))
local macro_rules | `(tactic| walk_at "tt") => `(tactic| first | assumption | omega | with_unfolding_all rfl | decide | (simp only [List.length_map, List.length_cons, List.length_nil, List.length_append, List.length_replicate, List.length_set, sI_len]; omega))
local macro_rules | `(tactic| walk_at "nn") => `(tactic| first | assumption | omega | decide | (simp only [List.length_map, List.length_cons, List.length_nil, List.length_append, List.length_replicate, List.length_set, sI_len]; omega))
local macro_rules | `(tactic| walk_at "cond") => `(tactic| first
  | ((with_reducible refine' r_I ?h ?_); (case h => first | exact ⟨by decide, by decide⟩ | (show (0 : Int) < _; first | decide | omega) | (show (0 : Int) ≤ _; first | decide | omega)))
  | ((with_reducible refine' r_ifB ?x ?_); (case x => intro hh; exact absurd hh (by decide)); intro _)
  | ((with_reducible refine' r_ifB ?_ ?x); (case x => intro hh; exact absurd hh (by decide)); intro _)
  | ((with_reducible refine' ifInt ?x ?_); (case x => intro hh; exact absurd hh (by walk_at "nn")); intro _)
  | ((with_reducible refine' ifInt ?_ ?x); (case x => intro hh; exact absurd (by walk_at "tt") hh); intro _)
  | ((with_reducible refine' ifIntN ?x ?_); (case x => intro hh; exact absurd (by walk_at "tt") hh); intro _)
  | ((with_reducible refine' ifIntN ?_ ?x); (case x => intro hh; exact absurd hh (by walk_at "nn")); intro _)
  | ((with_reducible refine' ifDec ?x ?_); (case x => intro hh; exact absurd hh (by walk_at "nn")); intro _)
  | ((with_reducible refine' ifDec ?_ ?x); (case x => intro hh; exact absurd (by walk_at "tt") hh); intro _)
  | ((with_reducible refine' ifDecN ?x ?_); (case x => intro hh; exact absurd (by walk_at "tt") hh); intro _)
  | ((with_reducible refine' ifDecN ?_ ?x); (case x => intro hh; exact absurd hh (by walk_at "nn")); intro _))
local macro_rules | `(tactic| walk_at "at") => `(tactic| first | assumption | ((with_reducible refine' gI_at ?x ?y); (case x => walk_at "tt"); (case y => walk_at "tt")) | ((with_reducible refine' gI_neg ?x ?y); (case x => walk_at "tt"); (case y => walk_at "tt")) | rfl)
local macro_rules | `(tactic| walk_at "calls") => `(tactic| first
  | ((with_reducible refine' r_bounded ?a ?b ?_); (case a => omega); (case b => omega))
  | ((with_reducible refine' r_withBox ?h ?a ?b ?_); (case h => walk_at "sql"); (case a => omega); (case b => omega))
  | ((with_reducible refine' r_cellAt ?h ?a ?_); (case h => walk_at "sql"); (case a => omega))
  | (with_reducible refine r_whole ?_) | (with_reducible refine r_without ?_) | (with_reducible refine r_filled ?_)
  | ((with_reducible refine' r_boxPl ?a ?b ?_); (case a => omega); (case b => omega))
  | ((with_reducible refine' r_cellPl ?a ?b ?c ?_); (case a => omega); (case b => omega); (case c => omega))
  | ((with_reducible refine' r_setI ?x ?y ?z ?_); (case x => walk_at "hlk"); (case y => walk_at "tt"); (case z => walk_at "tt"))
  | ((with_reducible refine' r_setIN ?x ?y ?z ?_); (case x => walk_at "hlk"); (case y => walk_at "tt"); (case z => walk_at "tt"))
  | ((with_reducible refine' r_ixT ?h ?e ?_); (case h => walk_at "sqt"); (case e => walk_at "at"))
  | ((with_reducible refine' r_ixL ?h ?e ?_); (case h => walk_at "sql"); (case e => walk_at "at"))
  | (with_reducible refine r_gSub ?_))
local macro_rules | `(tactic| walk_at "ty") => `(tactic| first | (with_reducible exact TyOf.int _) | (with_reducible exact TyOf.bl _) | (with_reducible exact TyOf.str _) | (with_reducible exact TyOf.non) | (refine' TyOf.lst ?x; (case x => walk_at "hlk")) | (refine' TyOf.tup ?x; (case x => walk_at "hlk")))
local macro_rules | `(tactic| walk_at "dp") => `(tactic| first | (with_reducible exact dp_int _) | (with_reducible exact dp_str _) | (with_reducible exact dp_bool _) | (with_reducible exact dp_none) | ((with_reducible refine' dp_ints ?x); (case x => walk_at "sql")) | ((with_reducible refine' dp_lst ?x ?y); (case x => walk_at "sql"); (case y => walk_at "dps")) | ((with_reducible refine' dp_tup ?x ?y); (case x => walk_at "sqt"); (case y => walk_at "dps")))
local macro_rules | `(tactic| walk_at "dps") => `(tactic| first | (with_reducible exact dpAll_nil) | ((with_reducible refine' dpAll_cons ?x ?y); (case x => walk_at "dp"); (case y => walk_at "dps")))
local macro_rules | `(tactic| walk_at "shaped") => `(tactic| first | exact shaped_ints _ | (unfold shaped; simp [PyData.canLay0, PyData.canLayAll0, canLay_ints, PyData.depth, PyData.depthAll, depth_ints]))
local macro_rules | `(tactic| walk_at "eqd") => `(tactic| first
  | ((with_reducible refine' r_eqT ?d ?x ?y ?s ?_); (case x => walk_at "dp"); (case y => walk_at "dp"); (case s => walk_at "shaped"))
  | ((with_reducible refine' r_neT ?d ?x ?y ?s ?_); (case x => walk_at "dp"); (case y => walk_at "dp"); (case s => walk_at "shaped")))
local macro_rules | `(tactic| walk_at "r3") => `(tactic| first
  | (with_reducible refine r_alloc (fun _ _ => ?_))
  | ((with_reducible refine' r_small ?x ?_); (case x => walk_at "small"))
  | ((with_reducible refine' r_62 ?x ?y ?_); (case x => walk_at "tt"); (case y => walk_at "tt"))
  | ((with_reducible refine' r_62b ?x ?y ?z ?u ?_); (case x => walk_at "tt"); (case y => walk_at "tt"); (case z => walk_at "tt"); (case u => walk_at "tt"))
  | ((with_reducible refine' r_itL ?x ?_); (case x => walk_at "sql"))
  | ((with_reducible refine' r_itT ?x ?_); (case x => walk_at "sqt"))
  | ((with_reducible refine' r_slI ?x ?_); (case x => walk_at "sql"))
  | ((with_reducible refine' r_slL ?x ?_); (case x => walk_at "sql"))
  | ((with_reducible refine' r_timesZ ?x ?y ?z ?_); (case x => walk_at "hlk"); (case y => walk_at "tt"); (case z => walk_at "tt"))
  | ((with_reducible refine' r_plusII ?x ?y ?z ?_); (case x => walk_at "hlk"); (case y => walk_at "hlk"); (case z => walk_at "small"))
  | ((with_reducible refine' r_tyL ?x ?_); (case x => walk_at "hlk"))
  | ((with_reducible refine' r_timesI ?h ?_); (case h => walk_at "cmul"))
  | ((with_reducible refine' r_sum ?h ?_); (case h => walk_at "sql"))
  | ((with_reducible refine' r_inT ?h ?x ?y ?_); (case h => walk_at "sqt"); (case x => rfl); (case y => rfl))
  | ((with_reducible refine' r_clear ?x ?_); (case x => walk_at "hlk"))
  | ((with_reducible refine' r_append ?x ?y ?_); (case x => walk_at "hlk"); (case y => walk_at "small"))
  | ((with_reducible refine' r_isi ?c ?t ?e ?_); (case c => exact fun z => nomatch z); (case t => walk_at "ty"); (case e => walk_at "kit")))
local macro_rules | `(tactic| walk_at "rd") => `(tactic| repeat (first | walk_at "r1" | walk_at "r3" | walk_at "r2" | walk_at "cond" | walk_at "calls" | walk_at "mine"))
local macro_rules | `(tactic| walk_at "rds") => `(tactic| repeat' (first | walk_at "r1" | walk_at "r3" | walk_at "r2" | walk_at "cond" | walk_at "calls" | walk_at "mine" | walk_at "cs"))
local macro_rules | `(tactic| walk_at "sp") => `(tactic| (repeat' split) <;> first | assumption | rfl | (exfalso; omega))
local macro_rules | `(tactic| walk_at "rok") => `(tactic| first | assumption | exact ⟨by omega, by omega⟩)
local macro_rules | `(tactic| walk_at "cmul") => `(tactic| first | exact Or.inl ⟨by decide, by decide⟩ | exact Or.inr ⟨by decide, by decide⟩ | exact Or.inl ⟨by omega, by omega⟩ | exact Or.inr ⟨by omega, by omega⟩)

set_option hygiene false
local macro_rules | `(tactic| walk_at "cs") => `(tactic| with_reducible first | refine ifInt (fun hh => ?_) (fun hh => ?_) | refine ifIntN (fun hh => ?_) (fun hh => ?_) | refine ifDec (fun hh => ?_) (fun hh => ?_) | refine ifDecN (fun hh => ?_) (fun hh => ?_) | (refine' r_ixDi ?h (fun hh => ?_) (fun hh => ?_); (case h => walk_at "sql")) | (refine' r_ixD ?h (fun hh => ?_) (fun hh => ?_); (case h => walk_at "sql")))
local macro_rules | `(tactic| walk_at "tf") => `(tactic| (show Q _ _; refine' q _ _ _ _ ?zs ?znt ?znb ?znp ?ze1 ?ze2 ?ze3 ?zt ?zb ?zp; (case zt => walk_at "hlk"); (case zb => walk_at "hlk"); (case zp => walk_at "hlk"); (case zs => walk_at "same"); (case znt => walk_at "none"); (case znb => walk_at "none"); (case znp => walk_at "none"); (case ze1 => walk_at "ne"); (case ze2 => walk_at "ne"); (case ze3 => walk_at "ne")))

local macro_rules | `(tactic| walk_at "cls") => `(tactic| first | assumption | exact T.cl_Less | exact T.cl_Set | exact T.cl_Copy | exact T.cl_Add | exact T.cl_Sub | exact T.cl_Mul | exact T.cl_Drop | exact T.cl_Jump | exact T.cl_Branch | exact T.cl_Call | exact T.cl_Back | exact T.cl_Get | exact T.cl_Grow | exact T.cl_Shrink | exact T.cl_Put)
local macro_rules | `(tactic| walk_at "noat") => `(tactic| first | assumption | exact T.n_Less_box | exact T.n_Less_one | exact T.n_Less_other | exact T.n_Set_box | exact T.n_Set_number | exact T.n_Copy_box | exact T.n_Copy_one | exact T.n_Add_box | exact T.n_Add_one | exact T.n_Add_other | exact T.n_Sub_box | exact T.n_Sub_one | exact T.n_Sub_other | exact T.n_Mul_box | exact T.n_Mul_one | exact T.n_Mul_other | exact T.n_Drop_box | exact T.n_Jump_target | exact T.n_Branch_box | exact T.n_Branch_target | exact T.n_Call_target | exact T.n_Back_box | exact T.n_Get_box | exact T.n_Get_cell | exact T.n_Grow_many | exact T.n_Shrink_many | exact T.n_Put_box | exact T.n_Put_cell)
local macro_rules | `(tactic| walk_at "kit") => `(tactic| first | assumption | exact T.k_int_int | exact T.k_int_bool)
set_option hygiene true
def top (i : Nat) : Stmt := PySem.Challenge.pw_frameback_k04_heights.main.body.getD i (.Pass ⟨0, 0, 0, 0⟩)
abbrev s_bounded : Stmt := top 10
theorem sc_bounded : FnScope ["number", "top"] ["number", "top"] (defScope s_bounded) := ⟨rfl, rfl, rfl, by decide +kernel, rfl, by decide +kernel, by decide +kernel⟩
abbrev s_with_box : Stmt := top 12
theorem sc_with_box : FnScope ["boxes", "box", "value", "changed"] ["boxes", "box", "value"] (defScope s_with_box) := ⟨rfl, rfl, rfl, by decide +kernel, rfl, by decide +kernel, by decide +kernel⟩
abbrev s_Row_height : Stmt := inClass (top 13) 1
theorem sc_Row_height : FnScope ["self", "high"] ["self", "high"] (defScope s_Row_height) := ⟨rfl, rfl, rfl, by decide +kernel, rfl, by decide +kernel, by decide +kernel⟩
abbrev s_Set_init : Stmt := inClass (top 14) 0
theorem sc_Set_init : FnScope ["self", "box", "number"] ["self", "box", "number"] (defScope s_Set_init) := ⟨rfl, rfl, rfl, by decide +kernel, rfl, by decide +kernel, by decide +kernel⟩
abbrev s_Set_runs : Stmt := inClass (top 14) 1
theorem sc_Set_runs : FnScope ["self", "at", "boxes", "pile"] ["self", "at", "boxes", "pile"] (defScope s_Set_runs) := ⟨rfl, rfl, rfl, by decide +kernel, rfl, by decide +kernel, by decide +kernel⟩
abbrev s_Copy_init : Stmt := inClass (top 15) 0
theorem sc_Copy_init : FnScope ["self", "box", "one"] ["self", "box", "one"] (defScope s_Copy_init) := ⟨rfl, rfl, rfl, by decide +kernel, rfl, by decide +kernel, by decide +kernel⟩
abbrev s_Copy_runs : Stmt := inClass (top 15) 1
theorem sc_Copy_runs : FnScope ["self", "at", "boxes", "pile"] ["self", "at", "boxes", "pile"] (defScope s_Copy_runs) := ⟨rfl, rfl, rfl, by decide +kernel, rfl, by decide +kernel, by decide +kernel⟩
abbrev s_Reckoning_init : Stmt := inClass (top 16) 0
theorem sc_Reckoning_init : FnScope ["self", "box", "one", "other"] ["self", "box", "one", "other"] (defScope s_Reckoning_init) := ⟨rfl, rfl, rfl, by decide +kernel, rfl, by decide +kernel, by decide +kernel⟩
abbrev s_Add_runs : Stmt := inClass (top 17) 0
theorem sc_Add_runs : FnScope ["self", "at", "boxes", "pile", "value"] ["self", "at", "boxes", "pile"] (defScope s_Add_runs) := ⟨rfl, rfl, rfl, by decide +kernel, rfl, by decide +kernel, by decide +kernel⟩
abbrev s_Sub_runs : Stmt := inClass (top 18) 0
theorem sc_Sub_runs : FnScope ["self", "at", "boxes", "pile", "value"] ["self", "at", "boxes", "pile"] (defScope s_Sub_runs) := ⟨rfl, rfl, rfl, by decide +kernel, rfl, by decide +kernel, by decide +kernel⟩
abbrev s_Mul_runs : Stmt := inClass (top 19) 0
theorem sc_Mul_runs : FnScope ["self", "at", "boxes", "pile", "value"] ["self", "at", "boxes", "pile"] (defScope s_Mul_runs) := ⟨rfl, rfl, rfl, by decide +kernel, rfl, by decide +kernel, by decide +kernel⟩
abbrev s_Less_runs : Stmt := inClass (top 20) 0
theorem sc_Less_runs : FnScope ["self", "at", "boxes", "pile", "value"] ["self", "at", "boxes", "pile"] (defScope s_Less_runs) := ⟨rfl, rfl, rfl, by decide +kernel, rfl, by decide +kernel, by decide +kernel⟩
abbrev s_Grow_init : Stmt := inClass (top 21) 0
theorem sc_Grow_init : FnScope ["self", "many"] ["self", "many"] (defScope s_Grow_init) := ⟨rfl, rfl, rfl, by decide +kernel, rfl, by decide +kernel, by decide +kernel⟩
abbrev s_Grow_runs : Stmt := inClass (top 21) 1
theorem sc_Grow_runs : FnScope ["self", "at", "boxes", "pile"] ["self", "at", "boxes", "pile"] (defScope s_Grow_runs) := ⟨rfl, rfl, rfl, by decide +kernel, rfl, by decide +kernel, by decide +kernel⟩
abbrev s_Grow_height : Stmt := inClass (top 21) 2
theorem sc_Grow_height : FnScope ["self", "high"] ["self", "high"] (defScope s_Grow_height) := ⟨rfl, rfl, rfl, by decide +kernel, rfl, by decide +kernel, by decide +kernel⟩
abbrev s_Shrink_init : Stmt := inClass (top 22) 0
theorem sc_Shrink_init : FnScope ["self", "many"] ["self", "many"] (defScope s_Shrink_init) := ⟨rfl, rfl, rfl, by decide +kernel, rfl, by decide +kernel, by decide +kernel⟩
abbrev s_Shrink_runs : Stmt := inClass (top 22) 1
theorem sc_Shrink_runs : FnScope ["self", "at", "boxes", "pile", "left"] ["self", "at", "boxes", "pile"] (defScope s_Shrink_runs) := ⟨rfl, rfl, rfl, by decide +kernel, rfl, by decide +kernel, by decide +kernel⟩
abbrev s_Shrink_height : Stmt := inClass (top 22) 2
theorem sc_Shrink_height : FnScope ["self", "high"] ["self", "high"] (defScope s_Shrink_height) := ⟨rfl, rfl, rfl, by decide +kernel, rfl, by decide +kernel, by decide +kernel⟩
abbrev s_Reaching_init : Stmt := inClass (top 23) 0
theorem sc_Reaching_init : FnScope ["self", "box", "cell"] ["self", "box", "cell"] (defScope s_Reaching_init) := ⟨rfl, rfl, rfl, by decide +kernel, rfl, by decide +kernel, by decide +kernel⟩
abbrev s_Reaching_height : Stmt := inClass (top 23) 1
theorem sc_Reaching_height : FnScope ["self", "high"] ["self", "high"] (defScope s_Reaching_height) := ⟨rfl, rfl, rfl, by decide +kernel, rfl, by decide +kernel, by decide +kernel⟩
abbrev s_Put_runs : Stmt := inClass (top 24) 0
theorem sc_Put_runs : FnScope ["self", "at", "boxes", "pile", "changed"] ["self", "at", "boxes", "pile"] (defScope s_Put_runs) := ⟨rfl, rfl, rfl, by decide +kernel, rfl, by decide +kernel, by decide +kernel⟩
abbrev s_Get_runs : Stmt := inClass (top 25) 0
theorem sc_Get_runs : FnScope ["self", "at", "boxes", "pile", "value"] ["self", "at", "boxes", "pile"] (defScope s_Get_runs) := ⟨rfl, rfl, rfl, by decide +kernel, rfl, by decide +kernel, by decide +kernel⟩
abbrev s_Jump_init : Stmt := inClass (top 28) 0
theorem sc_Jump_init : FnScope ["self", "target"] ["self", "target"] (defScope s_Jump_init) := ⟨rfl, rfl, rfl, by decide +kernel, rfl, by decide +kernel, by decide +kernel⟩
abbrev s_Jump_runs : Stmt := inClass (top 28) 1
theorem sc_Jump_runs : FnScope ["self", "at", "boxes", "pile"] ["self", "at", "boxes", "pile"] (defScope s_Jump_runs) := ⟨rfl, rfl, rfl, by decide +kernel, rfl, by decide +kernel, by decide +kernel⟩
abbrev s_Branch_init : Stmt := inClass (top 29) 0
theorem sc_Branch_init : FnScope ["self", "box", "target"] ["self", "box", "target"] (defScope s_Branch_init) := ⟨rfl, rfl, rfl, by decide +kernel, rfl, by decide +kernel, by decide +kernel⟩
abbrev s_Branch_runs : Stmt := inClass (top 29) 1
theorem sc_Branch_runs : FnScope ["self", "at", "boxes", "pile", "coming"] ["self", "at", "boxes", "pile"] (defScope s_Branch_runs) := ⟨rfl, rfl, rfl, by decide +kernel, rfl, by decide +kernel, by decide +kernel⟩
abbrev s_Call_init : Stmt := inClass (top 30) 0
theorem sc_Call_init : FnScope ["self", "target"] ["self", "target"] (defScope s_Call_init) := ⟨rfl, rfl, rfl, by decide +kernel, rfl, by decide +kernel, by decide +kernel⟩
abbrev s_Call_runs : Stmt := inClass (top 30) 1
theorem sc_Call_runs : FnScope ["self", "at", "boxes", "pile"] ["self", "at", "boxes", "pile"] (defScope s_Call_runs) := ⟨rfl, rfl, rfl, by decide +kernel, rfl, by decide +kernel, by decide +kernel⟩
abbrev s_Back_init : Stmt := inClass (top 31) 0
theorem sc_Back_init : FnScope ["self", "box"] ["self", "box"] (defScope s_Back_init) := ⟨rfl, rfl, rfl, by decide +kernel, rfl, by decide +kernel, by decide +kernel⟩
abbrev s_Back_runs : Stmt := inClass (top 31) 1
theorem sc_Back_runs : FnScope ["self", "at", "boxes", "pile"] ["self", "at", "boxes", "pile"] (defScope s_Back_runs) := ⟨rfl, rfl, rfl, by decide +kernel, rfl, by decide +kernel, by decide +kernel⟩
abbrev s_Drop_init : Stmt := inClass (top 32) 0
theorem sc_Drop_init : FnScope ["self", "box"] ["self", "box"] (defScope s_Drop_init) := ⟨rfl, rfl, rfl, by decide +kernel, rfl, by decide +kernel, by decide +kernel⟩
abbrev s_Drop_runs : Stmt := inClass (top 32) 1
theorem sc_Drop_runs : FnScope ["self", "at", "boxes", "pile"] ["self", "at", "boxes", "pile"] (defScope s_Drop_runs) := ⟨rfl, rfl, rfl, by decide +kernel, rfl, by decide +kernel, by decide +kernel⟩
abbrev s_law_cell_at : Stmt := top 34
theorem sc_law_cell_at : FnScope ["_law_script", "_law_k"] ["_law_script", "_law_k"] (defScope s_law_cell_at) := ⟨rfl, rfl, rfl, by decide +kernel, rfl, by decide +kernel, by decide +kernel⟩
abbrev s_law_whole : Stmt := top 35
theorem sc_law_whole : FnScope ["_law_found"] ["_law_found"] (defScope s_law_whole) := ⟨rfl, rfl, rfl, by decide +kernel, rfl, by decide +kernel, by decide +kernel⟩
abbrev s_law_filling : Stmt := top 36
theorem sc_law_filling : FnScope ["_law_kind", "_law_cell", "_law_box", "_law_one", "_law_other"] ["_law_kind", "_law_cell"] (defScope s_law_filling) := ⟨rfl, rfl, rfl, by decide +kernel, rfl, by decide +kernel, by decide +kernel⟩
abbrev s_law_going : Stmt := top 37
theorem sc_law_going : FnScope ["_law_kind", "_law_cell"] ["_law_kind", "_law_cell"] (defScope s_law_going) := ⟨rfl, rfl, rfl, by decide +kernel, rfl, by decide +kernel, by decide +kernel⟩
abbrev s_law_row : Stmt := top 38
theorem sc_law_row : FnScope ["_law_kind", "_law_cell", "_law_many_here"] ["_law_kind", "_law_cell", "_law_many_here"] (defScope s_law_row) := ⟨rfl, rfl, rfl, by decide +kernel, rfl, by decide +kernel, by decide +kernel⟩
abbrev s_law_many : Stmt := top 39
theorem sc_law_many : FnScope ["_law_cell", "_law_high", "_law_far", "_law_some"] ["_law_cell", "_law_high"] (defScope s_law_many) := ⟨rfl, rfl, rfl, by decide +kernel, rfl, by decide +kernel, by decide +kernel⟩
abbrev s_law_due : Stmt := top 40
theorem sc_law_due : FnScope ["_law_kind", "_law_many_here", "_law_high"] ["_law_kind", "_law_many_here", "_law_high"] (defScope s_law_due) := ⟨rfl, rfl, rfl, by decide +kernel, rfl, by decide +kernel, by decide +kernel⟩
abbrev s_law : Stmt := top 41
theorem sc_law : FnScope ["_law_script", "_law_cell", "_law_kind", "_law_high", "_law_many_here", "_law_row_here", "_law_due_here", "_law_found", "_law_size", "_law_behind"] ["_law_script"] (defScope s_law) := ⟨rfl, rfl, rfl, by decide +kernel, rfl, by decide +kernel, by decide +kernel⟩
structure Txt (K : PySem.W.Frag) (mg : Str → Option Value) (a : Adr) : Prop where
  z_bool : mg "bool" = none
  z_int : mg "int" = none
  z_isinstance : mg "isinstance" = none
  z_len : mg "len" = none
  z_list : mg "list" = none
  z_max : mg "max" = none
  z_min : mg "min" = none
  g_LINK : ∃ t, mg "LINK" = some (Value.int 7 t)
  g_TOP_BOX : ∃ t, mg "TOP_BOX" = some (Value.int 7 t)
  g_TOP_CELLS : ∃ t, mg "TOP_CELLS" = some (Value.int 4000 t)
  g_TOP_TARGET : ∃ t, mg "TOP_TARGET" = some (Value.int 2000 t)
  g_TOP_VALUE : ∃ t, mg "TOP_VALUE" = some (Value.int 4294967295 t)
  g_VALUES : ∃ t, mg "VALUES" = some (Value.int 4294967296 t)
  c_Add : mg "Add" = some (.ref a.C_Add)
  c_Back : mg "Back" = some (.ref a.C_Back)
  c_Branch : mg "Branch" = some (.ref a.C_Branch)
  c_Call : mg "Call" = some (.ref a.C_Call)
  c_Copy : mg "Copy" = some (.ref a.C_Copy)
  c_Drop : mg "Drop" = some (.ref a.C_Drop)
  c_Get : mg "Get" = some (.ref a.C_Get)
  c_Grow : mg "Grow" = some (.ref a.C_Grow)
  c_Jump : mg "Jump" = some (.ref a.C_Jump)
  c_Less : mg "Less" = some (.ref a.C_Less)
  c_Mul : mg "Mul" = some (.ref a.C_Mul)
  c_NoRow : mg "NoRow" = some (.ref a.C_NoRow)
  c_Put : mg "Put" = some (.ref a.C_Put)
  c_Set : mg "Set" = some (.ref a.C_Set)
  c_Shrink : mg "Shrink" = some (.ref a.C_Shrink)
  c_Sub : mg "Sub" = some (.ref a.C_Sub)
  cl_Less : Cls K a.C_Less
  n_Less_box : NoAttr K a.C_Less "box"
  n_Less_one : NoAttr K a.C_Less "one"
  n_Less_other : NoAttr K a.C_Less "other"
  i_Less : ∃ f fd, Fun K "__init__" "Reckoning.__init__" s_Reckoning_init f fd ∧ Mk K a.C_Less f ∧ Binds K fd ["self", "box", "one", "other"] []
  m_Less_height : ∃ f fd, Fun K "height" "Row.height" s_Row_height f fd ∧ Meth K a.C_Less "height" f ∧ Binds K fd ["self", "high"] []
  m_Less_runs : ∃ f fd, Fun K "runs" "Less.runs" s_Less_runs f fd ∧ Meth K a.C_Less "runs" f ∧ Binds K fd ["self", "at", "boxes", "pile"] []
  cl_Set : Cls K a.C_Set
  n_Set_box : NoAttr K a.C_Set "box"
  n_Set_number : NoAttr K a.C_Set "number"
  i_Set : ∃ f fd, Fun K "__init__" "Set.__init__" s_Set_init f fd ∧ Mk K a.C_Set f ∧ Binds K fd ["self", "box", "number"] []
  m_Set_height : ∃ f fd, Fun K "height" "Row.height" s_Row_height f fd ∧ Meth K a.C_Set "height" f ∧ Binds K fd ["self", "high"] []
  m_Set_runs : ∃ f fd, Fun K "runs" "Set.runs" s_Set_runs f fd ∧ Meth K a.C_Set "runs" f ∧ Binds K fd ["self", "at", "boxes", "pile"] []
  cl_Copy : Cls K a.C_Copy
  n_Copy_box : NoAttr K a.C_Copy "box"
  n_Copy_one : NoAttr K a.C_Copy "one"
  i_Copy : ∃ f fd, Fun K "__init__" "Copy.__init__" s_Copy_init f fd ∧ Mk K a.C_Copy f ∧ Binds K fd ["self", "box", "one"] []
  m_Copy_height : ∃ f fd, Fun K "height" "Row.height" s_Row_height f fd ∧ Meth K a.C_Copy "height" f ∧ Binds K fd ["self", "high"] []
  m_Copy_runs : ∃ f fd, Fun K "runs" "Copy.runs" s_Copy_runs f fd ∧ Meth K a.C_Copy "runs" f ∧ Binds K fd ["self", "at", "boxes", "pile"] []
  cl_Add : Cls K a.C_Add
  n_Add_box : NoAttr K a.C_Add "box"
  n_Add_one : NoAttr K a.C_Add "one"
  n_Add_other : NoAttr K a.C_Add "other"
  i_Add : ∃ f fd, Fun K "__init__" "Reckoning.__init__" s_Reckoning_init f fd ∧ Mk K a.C_Add f ∧ Binds K fd ["self", "box", "one", "other"] []
  m_Add_height : ∃ f fd, Fun K "height" "Row.height" s_Row_height f fd ∧ Meth K a.C_Add "height" f ∧ Binds K fd ["self", "high"] []
  m_Add_runs : ∃ f fd, Fun K "runs" "Add.runs" s_Add_runs f fd ∧ Meth K a.C_Add "runs" f ∧ Binds K fd ["self", "at", "boxes", "pile"] []
  cl_Sub : Cls K a.C_Sub
  n_Sub_box : NoAttr K a.C_Sub "box"
  n_Sub_one : NoAttr K a.C_Sub "one"
  n_Sub_other : NoAttr K a.C_Sub "other"
  i_Sub : ∃ f fd, Fun K "__init__" "Reckoning.__init__" s_Reckoning_init f fd ∧ Mk K a.C_Sub f ∧ Binds K fd ["self", "box", "one", "other"] []
  m_Sub_height : ∃ f fd, Fun K "height" "Row.height" s_Row_height f fd ∧ Meth K a.C_Sub "height" f ∧ Binds K fd ["self", "high"] []
  m_Sub_runs : ∃ f fd, Fun K "runs" "Sub.runs" s_Sub_runs f fd ∧ Meth K a.C_Sub "runs" f ∧ Binds K fd ["self", "at", "boxes", "pile"] []
  cl_Mul : Cls K a.C_Mul
  n_Mul_box : NoAttr K a.C_Mul "box"
  n_Mul_one : NoAttr K a.C_Mul "one"
  n_Mul_other : NoAttr K a.C_Mul "other"
  i_Mul : ∃ f fd, Fun K "__init__" "Reckoning.__init__" s_Reckoning_init f fd ∧ Mk K a.C_Mul f ∧ Binds K fd ["self", "box", "one", "other"] []
  m_Mul_height : ∃ f fd, Fun K "height" "Row.height" s_Row_height f fd ∧ Meth K a.C_Mul "height" f ∧ Binds K fd ["self", "high"] []
  m_Mul_runs : ∃ f fd, Fun K "runs" "Mul.runs" s_Mul_runs f fd ∧ Meth K a.C_Mul "runs" f ∧ Binds K fd ["self", "at", "boxes", "pile"] []
  cl_Drop : Cls K a.C_Drop
  n_Drop_box : NoAttr K a.C_Drop "box"
  i_Drop : ∃ f fd, Fun K "__init__" "Drop.__init__" s_Drop_init f fd ∧ Mk K a.C_Drop f ∧ Binds K fd ["self", "box"] []
  m_Drop_height : ∃ f fd, Fun K "height" "Row.height" s_Row_height f fd ∧ Meth K a.C_Drop "height" f ∧ Binds K fd ["self", "high"] []
  m_Drop_runs : ∃ f fd, Fun K "runs" "Drop.runs" s_Drop_runs f fd ∧ Meth K a.C_Drop "runs" f ∧ Binds K fd ["self", "at", "boxes", "pile"] []
  cl_Jump : Cls K a.C_Jump
  n_Jump_target : NoAttr K a.C_Jump "target"
  i_Jump : ∃ f fd, Fun K "__init__" "Jump.__init__" s_Jump_init f fd ∧ Mk K a.C_Jump f ∧ Binds K fd ["self", "target"] []
  m_Jump_height : ∃ f fd, Fun K "height" "Row.height" s_Row_height f fd ∧ Meth K a.C_Jump "height" f ∧ Binds K fd ["self", "high"] []
  m_Jump_runs : ∃ f fd, Fun K "runs" "Jump.runs" s_Jump_runs f fd ∧ Meth K a.C_Jump "runs" f ∧ Binds K fd ["self", "at", "boxes", "pile"] []
  cl_Branch : Cls K a.C_Branch
  n_Branch_box : NoAttr K a.C_Branch "box"
  n_Branch_target : NoAttr K a.C_Branch "target"
  i_Branch : ∃ f fd, Fun K "__init__" "Branch.__init__" s_Branch_init f fd ∧ Mk K a.C_Branch f ∧ Binds K fd ["self", "box", "target"] []
  m_Branch_height : ∃ f fd, Fun K "height" "Row.height" s_Row_height f fd ∧ Meth K a.C_Branch "height" f ∧ Binds K fd ["self", "high"] []
  m_Branch_runs : ∃ f fd, Fun K "runs" "Branch.runs" s_Branch_runs f fd ∧ Meth K a.C_Branch "runs" f ∧ Binds K fd ["self", "at", "boxes", "pile"] []
  cl_Call : Cls K a.C_Call
  n_Call_target : NoAttr K a.C_Call "target"
  i_Call : ∃ f fd, Fun K "__init__" "Call.__init__" s_Call_init f fd ∧ Mk K a.C_Call f ∧ Binds K fd ["self", "target"] []
  m_Call_height : ∃ f fd, Fun K "height" "Row.height" s_Row_height f fd ∧ Meth K a.C_Call "height" f ∧ Binds K fd ["self", "high"] []
  m_Call_runs : ∃ f fd, Fun K "runs" "Call.runs" s_Call_runs f fd ∧ Meth K a.C_Call "runs" f ∧ Binds K fd ["self", "at", "boxes", "pile"] []
  cl_Back : Cls K a.C_Back
  n_Back_box : NoAttr K a.C_Back "box"
  i_Back : ∃ f fd, Fun K "__init__" "Back.__init__" s_Back_init f fd ∧ Mk K a.C_Back f ∧ Binds K fd ["self", "box"] []
  m_Back_height : ∃ f fd, Fun K "height" "Row.height" s_Row_height f fd ∧ Meth K a.C_Back "height" f ∧ Binds K fd ["self", "high"] []
  m_Back_runs : ∃ f fd, Fun K "runs" "Back.runs" s_Back_runs f fd ∧ Meth K a.C_Back "runs" f ∧ Binds K fd ["self", "at", "boxes", "pile"] []
  cl_Get : Cls K a.C_Get
  n_Get_box : NoAttr K a.C_Get "box"
  n_Get_cell : NoAttr K a.C_Get "cell"
  i_Get : ∃ f fd, Fun K "__init__" "Reaching.__init__" s_Reaching_init f fd ∧ Mk K a.C_Get f ∧ Binds K fd ["self", "box", "cell"] []
  m_Get_height : ∃ f fd, Fun K "height" "Reaching.height" s_Reaching_height f fd ∧ Meth K a.C_Get "height" f ∧ Binds K fd ["self", "high"] []
  m_Get_runs : ∃ f fd, Fun K "runs" "Get.runs" s_Get_runs f fd ∧ Meth K a.C_Get "runs" f ∧ Binds K fd ["self", "at", "boxes", "pile"] []
  cl_Grow : Cls K a.C_Grow
  n_Grow_many : NoAttr K a.C_Grow "many"
  i_Grow : ∃ f fd, Fun K "__init__" "Grow.__init__" s_Grow_init f fd ∧ Mk K a.C_Grow f ∧ Binds K fd ["self", "many"] []
  m_Grow_height : ∃ f fd, Fun K "height" "Grow.height" s_Grow_height f fd ∧ Meth K a.C_Grow "height" f ∧ Binds K fd ["self", "high"] []
  m_Grow_runs : ∃ f fd, Fun K "runs" "Grow.runs" s_Grow_runs f fd ∧ Meth K a.C_Grow "runs" f ∧ Binds K fd ["self", "at", "boxes", "pile"] []
  cl_Shrink : Cls K a.C_Shrink
  n_Shrink_many : NoAttr K a.C_Shrink "many"
  i_Shrink : ∃ f fd, Fun K "__init__" "Shrink.__init__" s_Shrink_init f fd ∧ Mk K a.C_Shrink f ∧ Binds K fd ["self", "many"] []
  m_Shrink_height : ∃ f fd, Fun K "height" "Shrink.height" s_Shrink_height f fd ∧ Meth K a.C_Shrink "height" f ∧ Binds K fd ["self", "high"] []
  m_Shrink_runs : ∃ f fd, Fun K "runs" "Shrink.runs" s_Shrink_runs f fd ∧ Meth K a.C_Shrink "runs" f ∧ Binds K fd ["self", "at", "boxes", "pile"] []
  cl_Put : Cls K a.C_Put
  n_Put_box : NoAttr K a.C_Put "box"
  n_Put_cell : NoAttr K a.C_Put "cell"
  i_Put : ∃ f fd, Fun K "__init__" "Reaching.__init__" s_Reaching_init f fd ∧ Mk K a.C_Put f ∧ Binds K fd ["self", "box", "cell"] []
  m_Put_height : ∃ f fd, Fun K "height" "Reaching.height" s_Reaching_height f fd ∧ Meth K a.C_Put "height" f ∧ Binds K fd ["self", "high"] []
  m_Put_runs : ∃ f fd, Fun K "runs" "Put.runs" s_Put_runs f fd ∧ Meth K a.C_Put "runs" f ∧ Binds K fd ["self", "at", "boxes", "pile"] []
  k_int_int : PySem.W.kitOne K (.type "int") (.type "int") = some true
  k_int_bool : PySem.W.kitOne K (.type "int") (.type "bool") = some false
  fn_bounded : ∃ f fd, Fun K "bounded" "bounded" s_bounded f fd ∧ mg "bounded" = some (.ref f) ∧ Binds K fd ["number", "top"] []
  fn_with_box : ∃ f fd, Fun K "with_box" "with_box" s_with_box f fd ∧ mg "with_box" = some (.ref f) ∧ Binds K fd ["boxes", "box", "value"] []
  fn_law_cell_at : ∃ f fd, Fun K "_law_cell_at" "_law_cell_at" s_law_cell_at f fd ∧ mg "_law_cell_at" = some (.ref f) ∧ Binds K fd ["_law_script", "_law_k"] []
  fn_law_whole : ∃ f fd, Fun K "_law_whole" "_law_whole" s_law_whole f fd ∧ mg "_law_whole" = some (.ref f) ∧ Binds K fd ["_law_found"] []
  fn_law_filling : ∃ f fd, Fun K "_law_filling" "_law_filling" s_law_filling f fd ∧ mg "_law_filling" = some (.ref f) ∧ Binds K fd ["_law_kind", "_law_cell"] []
  fn_law_going : ∃ f fd, Fun K "_law_going" "_law_going" s_law_going f fd ∧ mg "_law_going" = some (.ref f) ∧ Binds K fd ["_law_kind", "_law_cell"] []
  fn_law_row : ∃ f fd, Fun K "_law_row" "_law_row" s_law_row f fd ∧ mg "_law_row" = some (.ref f) ∧ Binds K fd ["_law_kind", "_law_cell", "_law_many_here"] []
  fn_law_many : ∃ f fd, Fun K "_law_many" "_law_many" s_law_many f fd ∧ mg "_law_many" = some (.ref f) ∧ Binds K fd ["_law_cell", "_law_high"] []
  fn_law_due : ∃ f fd, Fun K "_law_due" "_law_due" s_law_due f fd ∧ mg "_law_due" = some (.ref f) ∧ Binds K fd ["_law_kind", "_law_many_here", "_law_high"] []
  fn_law : ∃ f fd, Fun K "law" "law" s_law f fd ∧ mg "law" = some (.ref f) ∧ Binds K fd ["_law_script"] []

def fillOf (k c : Int) : Rw := if k = 0 then .set (c % 8) (c / 8 % 4294967296) else if k = 1 then .copy (c % 8) (c / 8 % 8) else if k = 2 then .add (c % 8) (c / 8 % 8) (c / 64 % 8) else if k = 3 then .sub (c % 8) (c / 8 % 8) (c / 64 % 8)
  else if k = 4 then .mul (c % 8) (c / 8 % 8) (c / 64 % 8) else .less (c % 8) (c / 8 % 8) (c / 64 % 8)
def goOf (k c : Int) : Rw := if k = 6 then .jump (c / 8 % 2001) else if k = 7 then .branch (c % 8) (c / 8 % 2001) else if k = 8 then .call (c / 8 % 2001) else if k = 9 then .back (c % 8) else .drop (c % 8)
def rowOf (k c m : Int) : Rw := if k < 6 then fillOf k c else if k < 11 then goOf k c else if k = 11 then .grow m else if k = 12 then .shrink m else if k = 13 then .put (c % 8) m else .get (c % 8) m
def spFill (a : Adr) : Sp := fun vs H Q _ => ∃ k c : Int, vs = [.int k, .int c] ∧ ∀ p H', Same H H' → H p = none → RowAt a H' p (fillOf k c) → Q (.ref p) H'
def spGoing (a : Adr) : Sp := fun vs H Q _ => ∃ k c : Int, vs = [.int k, .int c] ∧ ∀ p H', Same H H' → H p = none → RowAt a H' p (goOf k c) → Q (.ref p) H'
def spRow (a : Adr) : Sp := fun vs H Q _ => ∃ k c m : Int, vs = [.int k, .int c, .int m] ∧ isMany m ∧ ∀ p H', Same H H' → H p = none → RowAt a H' p (rowOf k c m) → Q (.ref p) H'
def spMany : Sp := fun vs H Q _ => ∃ c n : Int, vs = [.int c, .int n] ∧ 0 ≤ n ∧ n ≤ 4000 ∧ ∀ r H', Same H H' → isMany r → Q (.int r) H'
def dueOf (k m h : Int) : Option Int := if k = 11 then (if 4000 < h + m then none else some (h + m)) else if k = 12 then (if h < m then none else some (h - m)) else if 12 < k ∧ h ≤ m then none else some h
def spDue : Sp := fun vs H Q _ => ∃ k m n : Int, vs = [.int k, .int m, .int n] ∧ ∀ H', Same H H' → Q (optV (dueOf k m n)) H'
theorem rowOf_ok {k c m : Int} (hm : isMany m) : (rowOf k c m).ok := by
  unfold rowOf fillOf goOf
  repeat' split
  all_goals first | exact hm | exact ⟨by omega, by omega⟩ | exact ⟨⟨by omega, by omega⟩, hm⟩ | exact ⟨⟨by omega, by omega⟩, by omega, by omega⟩ | exact ⟨⟨by omega, by omega⟩, ⟨by omega, by omega⟩, by omega, by omega⟩
theorem height_rowOf {k c m h : Int} : (rowOf k c m).height h = dueOf k m h := by
  unfold rowOf dueOf fillOf goOf
  repeat' split
  all_goals first | rfl | (exfalso; omega) | (simp only [Rw.height]; first | rw [if_pos (by omega)] | rw [if_neg (by omega)])
theorem run_none {k c m h d n : Int} {bs pl : List Int} (hk : k ≤ 14) (hl : h ≤ pl.length) (hd : dueOf k m h = some d) (hr : (rowOf k c m).run n bs pl = none) : k = 10 ∨ k = 11 ∧ 4000 < (pl.length : Int) + m := by
  unfold dueOf at hd
  unfold rowOf fillOf goOf at hr
  (repeat' split at hr) <;> simp only [Rw.run] at hr <;> first | (cases hr; done) | skip
  all_goals (repeat' split at hr) <;> first | (cases hr; done) | skip
  all_goals (repeat' split at hd) <;> first | (cases hd; done) | omega | skip
theorem run_some {k c m h d n n' : Int} {bs pl bs' pl' : List Int} (h0 : 0 ≤ m) (hl : h ≤ pl.length) (hd : dueOf k m h = some d) (hr : (rowOf k c m).run n bs pl = some (n', bs', pl')) : (pl'.length : Int) - pl.length = d - h ∧ k ≠ 10 ∧ ¬ (k = 11 ∧ 4000 < (pl.length : Int) + m) := by
  unfold dueOf at hd
  unfold rowOf fillOf goOf at hr
  (repeat' split at hr) <;> simp only [Rw.run] at hr <;> first | (cases hr; done) | skip
  all_goals (repeat' split at hr) <;> first | (cases hr; done) | skip
  all_goals (repeat' split at hd) <;> first | (cases hd; done) | (exfalso; omega) | skip
  all_goals
    cases hd
    cases hr
    refine ⟨?_, by omega, by omega⟩
    try simp only [List.length_append, List.length_replicate, List.length_take, sI_len]
    omega
theorem run_due {k c m h n : Int} {bs pl : List Int} (hk : k ≠ 11) (hl : h = pl.length) (hd : dueOf k m h = none) : (rowOf k c m).run n bs pl = none := by
  unfold dueOf at hd
  subst hl
  unfold rowOf fillOf goOf
  (repeat' split at hd) <;> first | (cases hd; done) | skip
  all_goals (repeat' split) <;> first | (exfalso; omega) | rfl | (simp only [Rw.run]; rw [if_pos (by omega)])

local macro_rules | `(tactic| walk_at "mine") => `(tactic| fail)
section
variable {P : Program} {w : World} {K : PySem.W.Frag} {mg : Str → Option Value} {base : Heap} {a : Adr}
set_option maxHeartbeats 4000000 in
theorem ok_bounded (T : Txt K mg a) : FnE P w K mg base CX0 1 "bounded" spBounded := by
  refine fnE_of (sp := spBounded) 0 T.fn_bounded sc_bounded (fun vs H Q E h => ?_) (fun f cdv A outer s H vs Q E hr h => ?_)
  · obtain ⟨n, top, rfl, _⟩ := h
    rfl
  · obtain ⟨n, top, rfl, h0, h1, q⟩ := h
    refine ⟨_, (pss_cons (ps_if (PW.pt (pw_or (pt_cmpR op_lt (pv 0) pe_int (nomark _)) (pw_or1 (pt_cmpR op_gt (pv 0) (pv 1) (nomark _))))) (pss_one ps_never) pss_nil)
      (pss_one (ps_ret (pv 0)))), ?_⟩
    refine r_st (σ' := [some _, some _]) rfl ?_
    walk_at "rd"
    exact q
end
section
variable {P : Program} {w : World} {K : PySem.W.Frag} {mg : Str → Option Value} {base : Heap} {a : Adr}
set_option maxHeartbeats 4000000 in
theorem ok_with_box (T : Txt K mg a) : FnE P w K mg base CX0 1 "with_box" (spWithBox K) := by
  refine fnE_of (sp := (spWithBox K)) 0 T.fn_with_box sc_with_box (fun vs H Q E h => ?_) (fun f cdv A outer s H vs Q E hr h => ?_)
  · obtain ⟨p, xs, b, v, rfl, _⟩ := h
    rfl
  · obtain ⟨p, xs, b, v, rfl, hS, h0, h1, q⟩ := h
    refine ⟨_, (pss_cons (ps_set (i := 3) sc_with_box.nd rfl (Or.inl rfl) (pe_callTy (call_listK (K := K) rfl) rfl T.z_list b_list (pa_cons (pv 0) pa_nil)))
      (pss_cons (ps_asg (pv 2) (pg_sub (pv 3) (pv 1) set_list))
      (pss_one (ps_ret (pv 3))))), ?_⟩
    refine r_st (σ' := [some _, some _, some _, none]) rfl ?_
    walk_at "rd"
    rename_i l hl
    rw [upd_again]
    exact q l hl
end
section
variable {P : Program} {w : World} {K : PySem.W.Frag} {mg : Str → Option Value} {base : Heap} {a : Adr}
set_option maxHeartbeats 4000000 in
theorem me_Less_height (T : Txt K mg a) (b o t : Int) : MethE P w K mg base CX0 1 a.C_Less "height" (spHeight a (.less b o t)) := by
  refine methE_of (sp := (spHeight a (.less b o t))) 0 T.cl_Less T.m_Less_height sc_Row_height (fun vs H Q E h => ?_) (fun f cdv A outer s H vs Q E hr h => ?_)
  · obtain ⟨x, z, rfl, _⟩ := h
    rfl
  · obtain ⟨x, z, rfl, ⟨dx, hx⟩, q⟩ := h
    change H x = some (.ins a.C_Less dx (putF "other" (.int t) (putF "one" (.int o) (putF "box" (.int b) [])))) at hx
    refine ⟨_, (pss_one (ps_ret (pv 1))), ?_⟩
    refine r_st (σ' := [some _, some _]) rfl ?_
    walk_at "rds"
    all_goals (try simp only [Rw.height] at q); (repeat' split at q) <;> first | exact q | (exfalso; omega)
end
section
variable {P : Program} {w : World} {K : PySem.W.Frag} {mg : Str → Option Value} {base : Heap} {a : Adr}
set_option maxHeartbeats 4000000 in
theorem me_Set_height (T : Txt K mg a) (b n : Int) : MethE P w K mg base CX0 1 a.C_Set "height" (spHeight a (.set b n)) := by
  refine methE_of (sp := (spHeight a (.set b n))) 0 T.cl_Set T.m_Set_height sc_Row_height (fun vs H Q E h => ?_) (fun f cdv A outer s H vs Q E hr h => ?_)
  · obtain ⟨x, z, rfl, _⟩ := h
    rfl
  · obtain ⟨x, z, rfl, ⟨dx, hx⟩, q⟩ := h
    change H x = some (.ins a.C_Set dx (putF "number" (.int n) (putF "box" (.int b) []))) at hx
    refine ⟨_, (pss_one (ps_ret (pv 1))), ?_⟩
    refine r_st (σ' := [some _, some _]) rfl ?_
    walk_at "rds"
    all_goals (try simp only [Rw.height] at q); (repeat' split at q) <;> first | exact q | (exfalso; omega)
end
section
variable {P : Program} {w : World} {K : PySem.W.Frag} {mg : Str → Option Value} {base : Heap} {a : Adr}
set_option maxHeartbeats 4000000 in
theorem me_Copy_height (T : Txt K mg a) (b o : Int) : MethE P w K mg base CX0 1 a.C_Copy "height" (spHeight a (.copy b o)) := by
  refine methE_of (sp := (spHeight a (.copy b o))) 0 T.cl_Copy T.m_Copy_height sc_Row_height (fun vs H Q E h => ?_) (fun f cdv A outer s H vs Q E hr h => ?_)
  · obtain ⟨x, z, rfl, _⟩ := h
    rfl
  · obtain ⟨x, z, rfl, ⟨dx, hx⟩, q⟩ := h
    change H x = some (.ins a.C_Copy dx (putF "one" (.int o) (putF "box" (.int b) []))) at hx
    refine ⟨_, (pss_one (ps_ret (pv 1))), ?_⟩
    refine r_st (σ' := [some _, some _]) rfl ?_
    walk_at "rds"
    all_goals (try simp only [Rw.height] at q); (repeat' split at q) <;> first | exact q | (exfalso; omega)
end
section
variable {P : Program} {w : World} {K : PySem.W.Frag} {mg : Str → Option Value} {base : Heap} {a : Adr}
set_option maxHeartbeats 4000000 in
theorem me_Add_height (T : Txt K mg a) (b o t : Int) : MethE P w K mg base CX0 1 a.C_Add "height" (spHeight a (.add b o t)) := by
  refine methE_of (sp := (spHeight a (.add b o t))) 0 T.cl_Add T.m_Add_height sc_Row_height (fun vs H Q E h => ?_) (fun f cdv A outer s H vs Q E hr h => ?_)
  · obtain ⟨x, z, rfl, _⟩ := h
    rfl
  · obtain ⟨x, z, rfl, ⟨dx, hx⟩, q⟩ := h
    change H x = some (.ins a.C_Add dx (putF "other" (.int t) (putF "one" (.int o) (putF "box" (.int b) [])))) at hx
    refine ⟨_, (pss_one (ps_ret (pv 1))), ?_⟩
    refine r_st (σ' := [some _, some _]) rfl ?_
    walk_at "rds"
    all_goals (try simp only [Rw.height] at q); (repeat' split at q) <;> first | exact q | (exfalso; omega)
end
section
variable {P : Program} {w : World} {K : PySem.W.Frag} {mg : Str → Option Value} {base : Heap} {a : Adr}
set_option maxHeartbeats 4000000 in
theorem me_Sub_height (T : Txt K mg a) (b o t : Int) : MethE P w K mg base CX0 1 a.C_Sub "height" (spHeight a (.sub b o t)) := by
  refine methE_of (sp := (spHeight a (.sub b o t))) 0 T.cl_Sub T.m_Sub_height sc_Row_height (fun vs H Q E h => ?_) (fun f cdv A outer s H vs Q E hr h => ?_)
  · obtain ⟨x, z, rfl, _⟩ := h
    rfl
  · obtain ⟨x, z, rfl, ⟨dx, hx⟩, q⟩ := h
    change H x = some (.ins a.C_Sub dx (putF "other" (.int t) (putF "one" (.int o) (putF "box" (.int b) [])))) at hx
    refine ⟨_, (pss_one (ps_ret (pv 1))), ?_⟩
    refine r_st (σ' := [some _, some _]) rfl ?_
    walk_at "rds"
    all_goals (try simp only [Rw.height] at q); (repeat' split at q) <;> first | exact q | (exfalso; omega)
end
section
variable {P : Program} {w : World} {K : PySem.W.Frag} {mg : Str → Option Value} {base : Heap} {a : Adr}
set_option maxHeartbeats 4000000 in
theorem me_Mul_height (T : Txt K mg a) (b o t : Int) : MethE P w K mg base CX0 1 a.C_Mul "height" (spHeight a (.mul b o t)) := by
  refine methE_of (sp := (spHeight a (.mul b o t))) 0 T.cl_Mul T.m_Mul_height sc_Row_height (fun vs H Q E h => ?_) (fun f cdv A outer s H vs Q E hr h => ?_)
  · obtain ⟨x, z, rfl, _⟩ := h
    rfl
  · obtain ⟨x, z, rfl, ⟨dx, hx⟩, q⟩ := h
    change H x = some (.ins a.C_Mul dx (putF "other" (.int t) (putF "one" (.int o) (putF "box" (.int b) [])))) at hx
    refine ⟨_, (pss_one (ps_ret (pv 1))), ?_⟩
    refine r_st (σ' := [some _, some _]) rfl ?_
    walk_at "rds"
    all_goals (try simp only [Rw.height] at q); (repeat' split at q) <;> first | exact q | (exfalso; omega)
end
section
variable {P : Program} {w : World} {K : PySem.W.Frag} {mg : Str → Option Value} {base : Heap} {a : Adr}
set_option maxHeartbeats 4000000 in
theorem me_Drop_height (T : Txt K mg a) (b : Int) : MethE P w K mg base CX0 1 a.C_Drop "height" (spHeight a (.drop b)) := by
  refine methE_of (sp := (spHeight a (.drop b))) 0 T.cl_Drop T.m_Drop_height sc_Row_height (fun vs H Q E h => ?_) (fun f cdv A outer s H vs Q E hr h => ?_)
  · obtain ⟨x, z, rfl, _⟩ := h
    rfl
  · obtain ⟨x, z, rfl, ⟨dx, hx⟩, q⟩ := h
    change H x = some (.ins a.C_Drop dx (putF "box" (.int b) [])) at hx
    refine ⟨_, (pss_one (ps_ret (pv 1))), ?_⟩
    refine r_st (σ' := [some _, some _]) rfl ?_
    walk_at "rds"
    all_goals (try simp only [Rw.height] at q); (repeat' split at q) <;> first | exact q | (exfalso; omega)
end
section
variable {P : Program} {w : World} {K : PySem.W.Frag} {mg : Str → Option Value} {base : Heap} {a : Adr}
set_option maxHeartbeats 4000000 in
theorem me_Jump_height (T : Txt K mg a) (t : Int) : MethE P w K mg base CX0 1 a.C_Jump "height" (spHeight a (.jump t)) := by
  refine methE_of (sp := (spHeight a (.jump t))) 0 T.cl_Jump T.m_Jump_height sc_Row_height (fun vs H Q E h => ?_) (fun f cdv A outer s H vs Q E hr h => ?_)
  · obtain ⟨x, z, rfl, _⟩ := h
    rfl
  · obtain ⟨x, z, rfl, ⟨dx, hx⟩, q⟩ := h
    change H x = some (.ins a.C_Jump dx (putF "target" (.int t) [])) at hx
    refine ⟨_, (pss_one (ps_ret (pv 1))), ?_⟩
    refine r_st (σ' := [some _, some _]) rfl ?_
    walk_at "rds"
    all_goals (try simp only [Rw.height] at q); (repeat' split at q) <;> first | exact q | (exfalso; omega)
end
section
variable {P : Program} {w : World} {K : PySem.W.Frag} {mg : Str → Option Value} {base : Heap} {a : Adr}
set_option maxHeartbeats 4000000 in
theorem me_Branch_height (T : Txt K mg a) (b t : Int) : MethE P w K mg base CX0 1 a.C_Branch "height" (spHeight a (.branch b t)) := by
  refine methE_of (sp := (spHeight a (.branch b t))) 0 T.cl_Branch T.m_Branch_height sc_Row_height (fun vs H Q E h => ?_) (fun f cdv A outer s H vs Q E hr h => ?_)
  · obtain ⟨x, z, rfl, _⟩ := h
    rfl
  · obtain ⟨x, z, rfl, ⟨dx, hx⟩, q⟩ := h
    change H x = some (.ins a.C_Branch dx (putF "target" (.int t) (putF "box" (.int b) []))) at hx
    refine ⟨_, (pss_one (ps_ret (pv 1))), ?_⟩
    refine r_st (σ' := [some _, some _]) rfl ?_
    walk_at "rds"
    all_goals (try simp only [Rw.height] at q); (repeat' split at q) <;> first | exact q | (exfalso; omega)
end
section
variable {P : Program} {w : World} {K : PySem.W.Frag} {mg : Str → Option Value} {base : Heap} {a : Adr}
set_option maxHeartbeats 4000000 in
theorem me_Call_height (T : Txt K mg a) (t : Int) : MethE P w K mg base CX0 1 a.C_Call "height" (spHeight a (.call t)) := by
  refine methE_of (sp := (spHeight a (.call t))) 0 T.cl_Call T.m_Call_height sc_Row_height (fun vs H Q E h => ?_) (fun f cdv A outer s H vs Q E hr h => ?_)
  · obtain ⟨x, z, rfl, _⟩ := h
    rfl
  · obtain ⟨x, z, rfl, ⟨dx, hx⟩, q⟩ := h
    change H x = some (.ins a.C_Call dx (putF "target" (.int t) [])) at hx
    refine ⟨_, (pss_one (ps_ret (pv 1))), ?_⟩
    refine r_st (σ' := [some _, some _]) rfl ?_
    walk_at "rds"
    all_goals (try simp only [Rw.height] at q); (repeat' split at q) <;> first | exact q | (exfalso; omega)
end
section
variable {P : Program} {w : World} {K : PySem.W.Frag} {mg : Str → Option Value} {base : Heap} {a : Adr}
set_option maxHeartbeats 4000000 in
theorem me_Back_height (T : Txt K mg a) (b : Int) : MethE P w K mg base CX0 1 a.C_Back "height" (spHeight a (.back b)) := by
  refine methE_of (sp := (spHeight a (.back b))) 0 T.cl_Back T.m_Back_height sc_Row_height (fun vs H Q E h => ?_) (fun f cdv A outer s H vs Q E hr h => ?_)
  · obtain ⟨x, z, rfl, _⟩ := h
    rfl
  · obtain ⟨x, z, rfl, ⟨dx, hx⟩, q⟩ := h
    change H x = some (.ins a.C_Back dx (putF "box" (.int b) [])) at hx
    refine ⟨_, (pss_one (ps_ret (pv 1))), ?_⟩
    refine r_st (σ' := [some _, some _]) rfl ?_
    walk_at "rds"
    all_goals (try simp only [Rw.height] at q); (repeat' split at q) <;> first | exact q | (exfalso; omega)
end
section
variable {P : Program} {w : World} {K : PySem.W.Frag} {mg : Str → Option Value} {base : Heap} {a : Adr}
set_option maxHeartbeats 4000000 in
theorem me_Grow_height (T : Txt K mg a) (m : Int) : MethE P w K mg base CX0 1 a.C_Grow "height" (spHeight a (.grow m)) := by
  refine methE_of (sp := (spHeight a (.grow m))) 0 T.cl_Grow T.m_Grow_height sc_Grow_height (fun vs H Q E h => ?_) (fun f cdv A outer s H vs Q E hr h => ?_)
  · obtain ⟨x, z, rfl, _⟩ := h
    rfl
  · obtain ⟨x, z, rfl, ⟨dx, hx⟩, q⟩ := h
    change H x = some (.ins a.C_Grow dx (putF "many" (.int m) [])) at hx
    refine ⟨_, (pss_cons (ps_if (pt_cmpR op_gt (pe_op (op_plusK (K := K) rfl) (pv 1) (pe_fldK (K := K) rfl (pv 0))) (pe_glob (v := .int 4000) rfl T.g_TOP_CELLS.choose_spec ⟨_, rfl⟩) (nomark _)) (pss_one (ps_ret pe_non)) pss_nil)
      (pss_one (ps_ret (pe_op (op_plusK (K := K) rfl) (pv 1) (pe_fldK (K := K) rfl (pv 0)))))), ?_⟩
    refine r_st (σ' := [some _, some _]) rfl ?_
    walk_at "rds"
    all_goals (try simp only [Rw.height] at q); (repeat' split at q) <;> first | exact q | (exfalso; omega)
end
section
variable {P : Program} {w : World} {K : PySem.W.Frag} {mg : Str → Option Value} {base : Heap} {a : Adr}
set_option maxHeartbeats 4000000 in
theorem me_Shrink_height (T : Txt K mg a) (m : Int) : MethE P w K mg base CX0 1 a.C_Shrink "height" (spHeight a (.shrink m)) := by
  refine methE_of (sp := (spHeight a (.shrink m))) 0 T.cl_Shrink T.m_Shrink_height sc_Shrink_height (fun vs H Q E h => ?_) (fun f cdv A outer s H vs Q E hr h => ?_)
  · obtain ⟨x, z, rfl, _⟩ := h
    rfl
  · obtain ⟨x, z, rfl, ⟨dx, hx⟩, q⟩ := h
    change H x = some (.ins a.C_Shrink dx (putF "many" (.int m) [])) at hx
    refine ⟨_, (pss_cons (ps_if (pt_cmpR op_lt (pv 1) (pe_fldK (K := K) rfl (pv 0)) (nomark _)) (pss_one (ps_ret pe_non)) pss_nil)
      (pss_one (ps_ret (pe_op op_sub (pv 1) (pe_fldK (K := K) rfl (pv 0)))))), ?_⟩
    refine r_st (σ' := [some _, some _]) rfl ?_
    walk_at "rds"
    all_goals (try simp only [Rw.height] at q); (repeat' split at q) <;> first | exact q | (exfalso; omega)
end
section
variable {P : Program} {w : World} {K : PySem.W.Frag} {mg : Str → Option Value} {base : Heap} {a : Adr}
set_option maxHeartbeats 4000000 in
theorem me_Get_height (T : Txt K mg a) (b c : Int) : MethE P w K mg base CX0 1 a.C_Get "height" (spHeight a (.get b c)) := by
  refine methE_of (sp := (spHeight a (.get b c))) 0 T.cl_Get T.m_Get_height sc_Reaching_height (fun vs H Q E h => ?_) (fun f cdv A outer s H vs Q E hr h => ?_)
  · obtain ⟨x, z, rfl, _⟩ := h
    rfl
  · obtain ⟨x, z, rfl, ⟨dx, hx⟩, q⟩ := h
    change H x = some (.ins a.C_Get dx (putF "cell" (.int c) (putF "box" (.int b) []))) at hx
    refine ⟨_, (pss_cons (ps_if (pt_cmpR op_le (pv 1) (pe_fldK (K := K) rfl (pv 0)) (nomark _)) (pss_one (ps_ret pe_non)) pss_nil)
      (pss_one (ps_ret (pv 1)))), ?_⟩
    refine r_st (σ' := [some _, some _]) rfl ?_
    walk_at "rds"
    all_goals (try simp only [Rw.height] at q); (repeat' split at q) <;> first | exact q | (exfalso; omega)
end
section
variable {P : Program} {w : World} {K : PySem.W.Frag} {mg : Str → Option Value} {base : Heap} {a : Adr}
set_option maxHeartbeats 4000000 in
theorem me_Put_height (T : Txt K mg a) (b c : Int) : MethE P w K mg base CX0 1 a.C_Put "height" (spHeight a (.put b c)) := by
  refine methE_of (sp := (spHeight a (.put b c))) 0 T.cl_Put T.m_Put_height sc_Reaching_height (fun vs H Q E h => ?_) (fun f cdv A outer s H vs Q E hr h => ?_)
  · obtain ⟨x, z, rfl, _⟩ := h
    rfl
  · obtain ⟨x, z, rfl, ⟨dx, hx⟩, q⟩ := h
    change H x = some (.ins a.C_Put dx (putF "cell" (.int c) (putF "box" (.int b) []))) at hx
    refine ⟨_, (pss_cons (ps_if (pt_cmpR op_le (pv 1) (pe_fldK (K := K) rfl (pv 0)) (nomark _)) (pss_one (ps_ret pe_non)) pss_nil)
      (pss_one (ps_ret (pv 1)))), ?_⟩
    refine r_st (σ' := [some _, some _]) rfl ?_
    walk_at "rds"
    all_goals (try simp only [Rw.height] at q); (repeat' split at q) <;> first | exact q | (exfalso; omega)
end
section
variable {P : Program} {w : World} {K : PySem.W.Frag} {mg : Str → Option Value} {base : Heap} {a : Adr}
set_option maxHeartbeats 4000000 in
theorem me_Jump_runs (T : Txt K mg a) (t : Int) : MethE P w K mg base CX0 1 a.C_Jump "runs" (spRuns K a (.jump t)) := by
  refine methE_of (sp := (spRuns K a (.jump t))) 0 T.cl_Jump T.m_Jump_runs sc_Jump_runs (fun vs H Q E h => ?_) (fun f cdv A outer s H vs Q E hr h => ?_)
  · obtain ⟨x, bo, pi, z, bs, pl, rfl, _⟩ := h
    rfl
  · obtain ⟨x, bo, pi, z, bs, pl, rfl, ⟨dx, hx⟩, hk, hb, h8, hv, hp, hpl, q⟩ := h
    change H x = some (.ins a.C_Jump dx (putF "target" (.int t) [])) at hx
    obtain ⟨k1, k2⟩ := hk
    refine ⟨_, (pss_one (ps_ret (pe_tup (pa_cons (pe_fldK (K := K) rfl (pv 0)) (pa_cons (pe_callTy (call_listK (K := K) rfl) rfl T.z_list b_list (pa_cons (pv 2) pa_nil)) (pa_cons (pe_callTy (call_listK (K := K) rfl) rfl T.z_list b_list (pa_cons (pv 3) pa_nil)) pa_nil)))))), ?_⟩
    refine r_st (σ' := [some _, some _, some _, some _]) rfl ?_
    walk_at "rd"
    exact told_fin (by assumption) (by assumption) (by assumption) q
end
section
variable {P : Program} {w : World} {K : PySem.W.Frag} {mg : Str → Option Value} {base : Heap} {a : Adr}
set_option maxHeartbeats 4000000 in
theorem me_Branch_runs (T : Txt K mg a) (b t : Int) : MethE P w K mg base CX0 1 a.C_Branch "runs" (spRuns K a (.branch b t)) := by
  refine methE_of (sp := (spRuns K a (.branch b t))) 0 T.cl_Branch T.m_Branch_runs sc_Branch_runs (fun vs H Q E h => ?_) (fun f cdv A outer s H vs Q E hr h => ?_)
  · obtain ⟨x, bo, pi, z, bs, pl, rfl, _⟩ := h
    rfl
  · obtain ⟨x, bo, pi, z, bs, pl, rfl, ⟨dx, hx⟩, hk, hb, h8, hv, hp, hpl, q⟩ := h
    change H x = some (.ins a.C_Branch dx (putF "target" (.int t) (putF "box" (.int b) []))) at hx
    obtain ⟨⟨k1, k2⟩, ⟨k3, k4⟩⟩ := hk
    refine ⟨_, (pss_cons (ps_set (i := 4) sc_Branch_runs.nd rfl (Or.inl rfl) (pe_ifExp (pt_cmpR (op_eqK (K := K) rfl hr.units) (pe_ix (ix_K (K := K) rfl) (pv 2) (pe_fldK (K := K) rfl (pv 0)) (fun _ _ => rfl)) pe_int (nomark _)) (pe_op (op_plusK (K := K) rfl) (pv 1) pe_int) (pe_fldK (K := K) rfl (pv 0))))
      (pss_one (ps_ret (pe_tup (pa_cons (pv 4) (pa_cons (pe_callTy (call_listK (K := K) rfl) rfl T.z_list b_list (pa_cons (pv 2) pa_nil)) (pa_cons (pe_callTy (call_listK (K := K) rfl) rfl T.z_list b_list (pa_cons (pv 3) pa_nil)) pa_nil))))))), ?_⟩
    refine r_st (σ' := [some _, some _, some _, some _, none]) rfl ?_
    walk_at "rd"
    have q : toldRun H Q (some (if gI bs b = 0 then z + 1 else t, bs, pl)) := q
    refine ifInt (fun hh => ?_) (fun hh => ?_)
    all_goals
      walk_at "rd"
      first | rw [if_pos hh] at q | rw [if_neg hh] at q
      exact told_fin (by assumption) (by assumption) (by assumption) q
end
section
variable {P : Program} {w : World} {K : PySem.W.Frag} {mg : Str → Option Value} {base : Heap} {a : Adr}
set_option maxHeartbeats 4000000 in
theorem me_Back_runs (T : Txt K mg a) (b : Int) : MethE P w K mg base CX0 1 a.C_Back "runs" (spRuns K a (.back b)) := by
  refine methE_of (sp := (spRuns K a (.back b))) 0 T.cl_Back T.m_Back_runs sc_Back_runs (fun vs H Q E h => ?_) (fun f cdv A outer s H vs Q E hr h => ?_)
  · obtain ⟨x, bo, pi, z, bs, pl, rfl, _⟩ := h
    rfl
  · obtain ⟨x, bo, pi, z, bs, pl, rfl, ⟨dx, hx⟩, hk, hb, h8, hv, hp, hpl, q⟩ := h
    change H x = some (.ins a.C_Back dx (putF "box" (.int b) [])) at hx
    obtain ⟨k1, k2⟩ := hk
    refine ⟨_, (pss_one (ps_ret (pe_tup (pa_cons (pe_ix (ix_K (K := K) rfl) (pv 2) (pe_fldK (K := K) rfl (pv 0)) (fun _ _ => rfl)) (pa_cons (pe_callTy (call_listK (K := K) rfl) rfl T.z_list b_list (pa_cons (pv 2) pa_nil)) (pa_cons (pe_callTy (call_listK (K := K) rfl) rfl T.z_list b_list (pa_cons (pv 3) pa_nil)) pa_nil)))))), ?_⟩
    refine r_st (σ' := [some _, some _, some _, some _]) rfl ?_
    walk_at "rd"
    exact told_fin (by assumption) (by assumption) (by assumption) q
end
section
variable {P : Program} {w : World} {K : PySem.W.Frag} {mg : Str → Option Value} {base : Heap} {a : Adr}
set_option maxHeartbeats 4000000 in
theorem me_Drop_runs (T : Txt K mg a) (b : Int) : MethE P w K mg base CX0 1 a.C_Drop "runs" (spRuns K a (.drop b)) := by
  refine methE_of (sp := (spRuns K a (.drop b))) 0 T.cl_Drop T.m_Drop_runs sc_Drop_runs (fun vs H Q E h => ?_) (fun f cdv A outer s H vs Q E hr h => ?_)
  · obtain ⟨x, bo, pi, z, bs, pl, rfl, _⟩ := h
    rfl
  · obtain ⟨x, bo, pi, z, bs, pl, rfl, ⟨dx, hx⟩, hk, hb, h8, hv, hp, hpl, q⟩ := h
    change H x = some (.ins a.C_Drop dx (putF "box" (.int b) [])) at hx
    obtain ⟨k1, k2⟩ := hk
    refine ⟨_, (pss_one (ps_ret pe_non)), ?_⟩
    refine r_st (σ' := [some _, some _, some _, some _]) rfl ?_
    walk_at "rd"
    exact q H (Same.refl _)
end
section
variable {P : Program} {w : World} {K : PySem.W.Frag} {mg : Str → Option Value} {base : Heap} {a : Adr}
set_option maxHeartbeats 4000000 in
theorem ok_law_cell_at (T : Txt K mg a) : FnE P w K mg base CX0 1 "_law_cell_at" (spCellAt K) := by
  refine fnE_of (sp := (spCellAt K)) 0 T.fn_law_cell_at sc_law_cell_at (fun vs H Q E h => ?_) (fun f cdv A outer s H vs Q E hr h => ?_)
  · obtain ⟨p, ns, k, rfl, _⟩ := h
    rfl
  · obtain ⟨p, ns, k, rfl, hS, h0, q⟩ := h
    refine ⟨_, (pss_cons (ps_if (pt_cmpR op_lt (pv 1) (pe_callB (call_lenK (K := K) rfl) rfl T.z_len b_len (pa_cons (pv 0) pa_nil)) (nomark _)) (pss_one (ps_ret (pe_ix (ix_K (K := K) rfl) (pv 0) (pv 1) (fun _ _ => rfl)))) pss_nil)
      (pss_one (ps_ret pe_int))), ?_⟩
    refine r_st (σ' := [some _, some _]) rfl ?_
    walk_at "rd"
    refine ifDec (fun hh => ?_) (fun hh => ?_)
    · walk_at "rd"
      exact q
    · walk_at "rd"
      have e := cellAt_out h0 hh
      rw [e] at q
      exact q
end
section
variable {P : Program} {w : World} {K : PySem.W.Frag} {mg : Str → Option Value} {base : Heap} {a : Adr}
set_option maxHeartbeats 4000000 in
theorem ok_law_whole (T : Txt K mg a) : FnE P w K mg base CX0 1 "_law_whole" spWhole := by
  refine fnE_of (sp := spWhole) 0 T.fn_law_whole sc_law_whole (fun vs H Q E h => ?_) (fun f cdv A outer s H vs Q E hr h => ?_)
  · obtain ⟨i, rfl, _⟩ := h
    rfl
  · obtain ⟨i, rfl, q⟩ := h
    refine ⟨_, (pss_one (ps_ret (pe_and (pe_callB (call_isiK (K := K) rfl) rfl T.z_isinstance b_isinstance (pa_cons (pv 0) (pa_cons (pe_bltn (v := .ty "int") rfl T.z_int b_int rfl) pa_nil))) (pe_one (pe_not (pe_callB (call_isiK (K := K) rfl) rfl T.z_isinstance b_isinstance (pa_cons (pv 0) (pa_cons (pe_bltn (v := .ty "bool") rfl T.z_bool b_bool rfl) pa_nil)))))))), ?_⟩
    refine r_st (σ' := [some _]) rfl ?_
    walk_at "rd"
    exact q
end
section
variable {P : Program} {w : World} {K : PySem.W.Frag} {mg : Str → Option Value} {base : Heap} {a : Adr}
set_option maxHeartbeats 4000000 in
theorem ok_law_many (T : Txt K mg a) : FnE P w K mg base CX0 1 "_law_many" spMany := by
  refine fnE_of (sp := spMany) 0 T.fn_law_many sc_law_many (fun vs H Q E h => ?_) (fun f cdv A outer s H vs Q E hr h => ?_)
  · obtain ⟨c, n, rfl, _⟩ := h
    rfl
  · obtain ⟨c, n, rfl, h0, h1, q⟩ := h
    refine ⟨_, (pss_cons (ps_set (i := 2) sc_law_many.nd rfl (Or.inl rfl) (pe_op op_fdiv (pv 0) pe_int))
      (pss_cons (ps_set (i := 3) sc_law_many.nd rfl (Or.inl rfl) (pe_lst (pa_cons (pe_op op_mod (pv 2) pe_int) (pa_cons (pv 1) (pa_cons (pe_callB (call_maxA rfl) rfl T.z_max b_max (pa_cons pe_int (pa_cons (pe_op op_sub (pv 1) pe_int) pa_nil))) (pa_cons (pe_op (op_plusK (K := K) rfl) (pv 1) pe_int) (pa_cons (pe_op op_mod (pv 2) pe_int) (pa_cons (pe_op (op_plusK (K := K) rfl) (pe_op op_sub pe_int (pv 1)) (pe_op op_mod (pv 2) pe_int)) pa_nil))))))))
      (pss_one (ps_ret (pe_callB (call_minA rfl) rfl T.z_min b_min (pa_cons pe_int (pa_cons (pe_ix (ix_K (K := K) rfl) (pv 3) (pe_op op_mod (pv 0) pe_int) (fun _ _ => rfl)) pa_nil))))))), ?_⟩
    refine r_st (σ' := [some _, some _, none, none]) rfl ?_
    walk_at "rd"
    have hk : c % 6 = 0 ∨ c % 6 = 1 ∨ c % 6 = 2 ∨ c % 6 = 3 ∨ c % 6 = 4 ∨ c % 6 = 5 := by omega
    rcases hk with e | e | e | e | e | e
    all_goals
      rw [e]
      refine r_ixL (SqL.of upd_same) rfl ?_
      walk_at "rd"
      refine q _ _ (by walk_at "same") ⟨?_, ?_⟩
      all_goals (repeat' split) <;> omega
end
section
variable {P : Program} {w : World} {K : PySem.W.Frag} {mg : Str → Option Value} {base : Heap} {a : Adr}
set_option maxHeartbeats 4000000 in
theorem ok_law_due (T : Txt K mg a) : FnE P w K mg base CX0 1 "_law_due" spDue := by
  refine fnE_of (sp := spDue) 0 T.fn_law_due sc_law_due (fun vs H Q E h => ?_) (fun f cdv A outer s H vs Q E hr h => ?_)
  · obtain ⟨k, m, n, rfl, _⟩ := h
    rfl
  · obtain ⟨k, m, n, rfl, q⟩ := h
    refine ⟨_, (pss_cons (ps_if (pt_cmpR (op_eqK (K := K) rfl hr.units) (pv 0) pe_int (nomark _)) (pss_one (ps_ret (pe_ix (ix_K (K := K) rfl) (pe_lst (pa_cons (pe_op (op_plusK (K := K) rfl) (pv 2) (pv 1)) (pa_cons pe_non pa_nil))) (pe_cmpR op_gt (pe_op (op_plusK (K := K) rfl) (pv 2) (pv 1)) pe_int (nomark _)) (fun _ _ => rfl)))) pss_nil)
      (pss_cons (ps_if (pt_cmpR (op_eqK (K := K) rfl hr.units) (pv 0) pe_int (nomark _)) (pss_one (ps_ret (pe_ix (ix_K (K := K) rfl) (pe_lst (pa_cons (pe_op op_sub (pv 2) (pv 1)) (pa_cons pe_non pa_nil))) (pe_cmpR op_gt (pv 1) (pv 2) (nomark _)) (fun _ _ => rfl)))) pss_nil)
      (pss_cons (ps_if (PW.pt (pw_and (pt_cmpR op_gt (pv 0) pe_int (nomark _)) (pw_and1 (pt_cmpR op_ge (pv 1) (pv 2) (nomark _))))) (pss_one (ps_ret pe_non)) pss_nil)
      (pss_one (ps_ret (pv 2)))))), ?_⟩
    refine r_st (σ' := [some _, some _, some _]) rfl ?_
    walk_at "rds"
    all_goals
      unfold dueOf at q
      (repeat' split at q) <;> first | exact q _ (by walk_at "same") | (exfalso; omega)
end
section
variable {P : Program} {w : World} {K : PySem.W.Frag} {mg : Str → Option Value} {base : Heap} {a : Adr}
set_option maxHeartbeats 4000000 in
theorem mk_Set (T : Txt K mg a) : MkE P w K mg base CX0 2 "Set" a.C_Set (spIni2 a.C_Set Rw.set) := by
  refine mkE_of (sp := (spIni2 a.C_Set Rw.set)) 1 T.c_Set T.i_Set sc_Set_init (fun vs H Q E h => ?_) (fun f cdv A outer s H vs Q E hr h => ?_)
  · obtain ⟨x, dx, i, j, rfl, _⟩ := h
    rfl
  · obtain ⟨x, dx, i, j, rfl, ⟨⟨h1, h2⟩, ⟨h3, h4⟩⟩, hx, q⟩ := h
    refine ⟨_, (pss_cons (ps_fldK (K := K) rfl (pv 0) (pe_callE (ok_bounded (K := K) T) (hr.mono (by decide)) pass0 rfl (pa_cons (pv 1) (pa_cons (pe_glob (v := .int 7) rfl T.g_TOP_BOX.choose_spec ⟨_, rfl⟩) pa_nil))))
      (pss_one (ps_fldK (K := K) rfl (pv 0) (pe_callE (ok_bounded (K := K) T) (hr.mono (by decide)) pass0 rfl (pa_cons (pv 2) (pa_cons (pe_glob (v := .int 4294967295) rfl T.g_TOP_VALUE.choose_spec ⟨_, rfl⟩) pa_nil)))))), ?_⟩
    refine r_st (σ' := [some _, some _, some _]) rfl ?_
    walk_at "rd"
    exact q _ kp_two upd_same
end
section
variable {P : Program} {w : World} {K : PySem.W.Frag} {mg : Str → Option Value} {base : Heap} {a : Adr}
set_option maxHeartbeats 4000000 in
theorem me_Set_runs (T : Txt K mg a) (b n : Int) : MethE P w K mg base CX0 2 a.C_Set "runs" (spRuns K a (.set b n)) := by
  refine methE_of (sp := (spRuns K a (.set b n))) 1 T.cl_Set T.m_Set_runs sc_Set_runs (fun vs H Q E h => ?_) (fun f cdv A outer s H vs Q E hr h => ?_)
  · obtain ⟨x, bo, pi, z, bs, pl, rfl, _⟩ := h
    rfl
  · obtain ⟨x, bo, pi, z, bs, pl, rfl, ⟨dx, hx⟩, hk, hb, h8, hv, hp, hpl, q⟩ := h
    change H x = some (.ins a.C_Set dx (putF "number" (.int n) (putF "box" (.int b) []))) at hx
    obtain ⟨⟨k1, k2⟩, ⟨k3, k4⟩⟩ := hk
    refine ⟨_, (pss_one (ps_ret (pe_tup (pa_cons (pe_op (op_plusK (K := K) rfl) (pv 1) pe_int) (pa_cons (pe_callE (ok_with_box (K := K) T) (hr.mono (by decide)) pass0 rfl (pa_cons (pv 2) (pa_cons (pe_fldK (K := K) rfl (pv 0)) (pa_cons (pe_fldK (K := K) rfl (pv 0)) pa_nil)))) (pa_cons (pe_callTy (call_listK (K := K) rfl) rfl T.z_list b_list (pa_cons (pv 3) pa_nil)) pa_nil)))))), ?_⟩
    refine r_st (σ' := [some _, some _, some _, some _]) rfl ?_
    walk_at "rd"
    exact told_fin (by assumption) (by assumption) (by assumption) q
end
section
variable {P : Program} {w : World} {K : PySem.W.Frag} {mg : Str → Option Value} {base : Heap} {a : Adr}
set_option maxHeartbeats 4000000 in
theorem mk_Copy (T : Txt K mg a) : MkE P w K mg base CX0 2 "Copy" a.C_Copy (spIni2 a.C_Copy Rw.copy) := by
  refine mkE_of (sp := (spIni2 a.C_Copy Rw.copy)) 1 T.c_Copy T.i_Copy sc_Copy_init (fun vs H Q E h => ?_) (fun f cdv A outer s H vs Q E hr h => ?_)
  · obtain ⟨x, dx, i, j, rfl, _⟩ := h
    rfl
  · obtain ⟨x, dx, i, j, rfl, ⟨⟨h1, h2⟩, ⟨h3, h4⟩⟩, hx, q⟩ := h
    refine ⟨_, (pss_cons (ps_fldK (K := K) rfl (pv 0) (pe_callE (ok_bounded (K := K) T) (hr.mono (by decide)) pass0 rfl (pa_cons (pv 1) (pa_cons (pe_glob (v := .int 7) rfl T.g_TOP_BOX.choose_spec ⟨_, rfl⟩) pa_nil))))
      (pss_one (ps_fldK (K := K) rfl (pv 0) (pe_callE (ok_bounded (K := K) T) (hr.mono (by decide)) pass0 rfl (pa_cons (pv 2) (pa_cons (pe_glob (v := .int 7) rfl T.g_TOP_BOX.choose_spec ⟨_, rfl⟩) pa_nil)))))), ?_⟩
    refine r_st (σ' := [some _, some _, some _]) rfl ?_
    walk_at "rd"
    exact q _ kp_two upd_same
end
section
variable {P : Program} {w : World} {K : PySem.W.Frag} {mg : Str → Option Value} {base : Heap} {a : Adr}
set_option maxHeartbeats 4000000 in
theorem me_Copy_runs (T : Txt K mg a) (b o : Int) : MethE P w K mg base CX0 2 a.C_Copy "runs" (spRuns K a (.copy b o)) := by
  refine methE_of (sp := (spRuns K a (.copy b o))) 1 T.cl_Copy T.m_Copy_runs sc_Copy_runs (fun vs H Q E h => ?_) (fun f cdv A outer s H vs Q E hr h => ?_)
  · obtain ⟨x, bo, pi, z, bs, pl, rfl, _⟩ := h
    rfl
  · obtain ⟨x, bo, pi, z, bs, pl, rfl, ⟨dx, hx⟩, hk, hb, h8, hv, hp, hpl, q⟩ := h
    change H x = some (.ins a.C_Copy dx (putF "one" (.int o) (putF "box" (.int b) []))) at hx
    obtain ⟨⟨k1, k2⟩, ⟨k3, k4⟩⟩ := hk
    refine ⟨_, (pss_one (ps_ret (pe_tup (pa_cons (pe_op (op_plusK (K := K) rfl) (pv 1) pe_int) (pa_cons (pe_callE (ok_with_box (K := K) T) (hr.mono (by decide)) pass0 rfl (pa_cons (pv 2) (pa_cons (pe_fldK (K := K) rfl (pv 0)) (pa_cons (pe_ix (ix_K (K := K) rfl) (pv 2) (pe_fldK (K := K) rfl (pv 0)) (fun _ _ => rfl)) pa_nil)))) (pa_cons (pe_callTy (call_listK (K := K) rfl) rfl T.z_list b_list (pa_cons (pv 3) pa_nil)) pa_nil)))))), ?_⟩
    refine r_st (σ' := [some _, some _, some _, some _]) rfl ?_
    walk_at "rd"
    exact told_fin (by assumption) (by assumption) (by assumption) q
end
section
variable {P : Program} {w : World} {K : PySem.W.Frag} {mg : Str → Option Value} {base : Heap} {a : Adr}
set_option maxHeartbeats 4000000 in
theorem mk_Less (T : Txt K mg a) : MkE P w K mg base CX0 2 "Less" a.C_Less (spIni3 a.C_Less Rw.less) := by
  refine mkE_of (sp := (spIni3 a.C_Less Rw.less)) 1 T.c_Less T.i_Less sc_Reckoning_init (fun vs H Q E h => ?_) (fun f cdv A outer s H vs Q E hr h => ?_)
  · obtain ⟨x, dx, i, j, k, rfl, _⟩ := h
    rfl
  · obtain ⟨x, dx, i, j, k, rfl, ⟨⟨h1, h2⟩, ⟨h3, h4⟩, ⟨h5, h6⟩⟩, hx, q⟩ := h
    refine ⟨_, (pss_cons (ps_fldK (K := K) rfl (pv 0) (pe_callE (ok_bounded (K := K) T) (hr.mono (by decide)) pass0 rfl (pa_cons (pv 1) (pa_cons (pe_glob (v := .int 7) rfl T.g_TOP_BOX.choose_spec ⟨_, rfl⟩) pa_nil))))
      (pss_cons (ps_fldK (K := K) rfl (pv 0) (pe_callE (ok_bounded (K := K) T) (hr.mono (by decide)) pass0 rfl (pa_cons (pv 2) (pa_cons (pe_glob (v := .int 7) rfl T.g_TOP_BOX.choose_spec ⟨_, rfl⟩) pa_nil))))
      (pss_one (ps_fldK (K := K) rfl (pv 0) (pe_callE (ok_bounded (K := K) T) (hr.mono (by decide)) pass0 rfl (pa_cons (pv 3) (pa_cons (pe_glob (v := .int 7) rfl T.g_TOP_BOX.choose_spec ⟨_, rfl⟩) pa_nil))))))), ?_⟩
    refine r_st (σ' := [some _, some _, some _, some _]) rfl ?_
    walk_at "rd"
    exact q _ kp_three upd_same
end
section
variable {P : Program} {w : World} {K : PySem.W.Frag} {mg : Str → Option Value} {base : Heap} {a : Adr}
set_option maxHeartbeats 4000000 in
theorem mk_Add (T : Txt K mg a) : MkE P w K mg base CX0 2 "Add" a.C_Add (spIni3 a.C_Add Rw.add) := by
  refine mkE_of (sp := (spIni3 a.C_Add Rw.add)) 1 T.c_Add T.i_Add sc_Reckoning_init (fun vs H Q E h => ?_) (fun f cdv A outer s H vs Q E hr h => ?_)
  · obtain ⟨x, dx, i, j, k, rfl, _⟩ := h
    rfl
  · obtain ⟨x, dx, i, j, k, rfl, ⟨⟨h1, h2⟩, ⟨h3, h4⟩, ⟨h5, h6⟩⟩, hx, q⟩ := h
    refine ⟨_, (pss_cons (ps_fldK (K := K) rfl (pv 0) (pe_callE (ok_bounded (K := K) T) (hr.mono (by decide)) pass0 rfl (pa_cons (pv 1) (pa_cons (pe_glob (v := .int 7) rfl T.g_TOP_BOX.choose_spec ⟨_, rfl⟩) pa_nil))))
      (pss_cons (ps_fldK (K := K) rfl (pv 0) (pe_callE (ok_bounded (K := K) T) (hr.mono (by decide)) pass0 rfl (pa_cons (pv 2) (pa_cons (pe_glob (v := .int 7) rfl T.g_TOP_BOX.choose_spec ⟨_, rfl⟩) pa_nil))))
      (pss_one (ps_fldK (K := K) rfl (pv 0) (pe_callE (ok_bounded (K := K) T) (hr.mono (by decide)) pass0 rfl (pa_cons (pv 3) (pa_cons (pe_glob (v := .int 7) rfl T.g_TOP_BOX.choose_spec ⟨_, rfl⟩) pa_nil))))))), ?_⟩
    refine r_st (σ' := [some _, some _, some _, some _]) rfl ?_
    walk_at "rd"
    exact q _ kp_three upd_same
end
section
variable {P : Program} {w : World} {K : PySem.W.Frag} {mg : Str → Option Value} {base : Heap} {a : Adr}
set_option maxHeartbeats 4000000 in
theorem mk_Sub (T : Txt K mg a) : MkE P w K mg base CX0 2 "Sub" a.C_Sub (spIni3 a.C_Sub Rw.sub) := by
  refine mkE_of (sp := (spIni3 a.C_Sub Rw.sub)) 1 T.c_Sub T.i_Sub sc_Reckoning_init (fun vs H Q E h => ?_) (fun f cdv A outer s H vs Q E hr h => ?_)
  · obtain ⟨x, dx, i, j, k, rfl, _⟩ := h
    rfl
  · obtain ⟨x, dx, i, j, k, rfl, ⟨⟨h1, h2⟩, ⟨h3, h4⟩, ⟨h5, h6⟩⟩, hx, q⟩ := h
    refine ⟨_, (pss_cons (ps_fldK (K := K) rfl (pv 0) (pe_callE (ok_bounded (K := K) T) (hr.mono (by decide)) pass0 rfl (pa_cons (pv 1) (pa_cons (pe_glob (v := .int 7) rfl T.g_TOP_BOX.choose_spec ⟨_, rfl⟩) pa_nil))))
      (pss_cons (ps_fldK (K := K) rfl (pv 0) (pe_callE (ok_bounded (K := K) T) (hr.mono (by decide)) pass0 rfl (pa_cons (pv 2) (pa_cons (pe_glob (v := .int 7) rfl T.g_TOP_BOX.choose_spec ⟨_, rfl⟩) pa_nil))))
      (pss_one (ps_fldK (K := K) rfl (pv 0) (pe_callE (ok_bounded (K := K) T) (hr.mono (by decide)) pass0 rfl (pa_cons (pv 3) (pa_cons (pe_glob (v := .int 7) rfl T.g_TOP_BOX.choose_spec ⟨_, rfl⟩) pa_nil))))))), ?_⟩
    refine r_st (σ' := [some _, some _, some _, some _]) rfl ?_
    walk_at "rd"
    exact q _ kp_three upd_same
end
section
variable {P : Program} {w : World} {K : PySem.W.Frag} {mg : Str → Option Value} {base : Heap} {a : Adr}
set_option maxHeartbeats 4000000 in
theorem mk_Mul (T : Txt K mg a) : MkE P w K mg base CX0 2 "Mul" a.C_Mul (spIni3 a.C_Mul Rw.mul) := by
  refine mkE_of (sp := (spIni3 a.C_Mul Rw.mul)) 1 T.c_Mul T.i_Mul sc_Reckoning_init (fun vs H Q E h => ?_) (fun f cdv A outer s H vs Q E hr h => ?_)
  · obtain ⟨x, dx, i, j, k, rfl, _⟩ := h
    rfl
  · obtain ⟨x, dx, i, j, k, rfl, ⟨⟨h1, h2⟩, ⟨h3, h4⟩, ⟨h5, h6⟩⟩, hx, q⟩ := h
    refine ⟨_, (pss_cons (ps_fldK (K := K) rfl (pv 0) (pe_callE (ok_bounded (K := K) T) (hr.mono (by decide)) pass0 rfl (pa_cons (pv 1) (pa_cons (pe_glob (v := .int 7) rfl T.g_TOP_BOX.choose_spec ⟨_, rfl⟩) pa_nil))))
      (pss_cons (ps_fldK (K := K) rfl (pv 0) (pe_callE (ok_bounded (K := K) T) (hr.mono (by decide)) pass0 rfl (pa_cons (pv 2) (pa_cons (pe_glob (v := .int 7) rfl T.g_TOP_BOX.choose_spec ⟨_, rfl⟩) pa_nil))))
      (pss_one (ps_fldK (K := K) rfl (pv 0) (pe_callE (ok_bounded (K := K) T) (hr.mono (by decide)) pass0 rfl (pa_cons (pv 3) (pa_cons (pe_glob (v := .int 7) rfl T.g_TOP_BOX.choose_spec ⟨_, rfl⟩) pa_nil))))))), ?_⟩
    refine r_st (σ' := [some _, some _, some _, some _]) rfl ?_
    walk_at "rd"
    exact q _ kp_three upd_same
end
section
variable {P : Program} {w : World} {K : PySem.W.Frag} {mg : Str → Option Value} {base : Heap} {a : Adr}
set_option maxHeartbeats 4000000 in
theorem me_Add_runs (T : Txt K mg a) (b o t : Int) : MethE P w K mg base CX0 2 a.C_Add "runs" (spRuns K a (.add b o t)) := by
  refine methE_of (sp := (spRuns K a (.add b o t))) 1 T.cl_Add T.m_Add_runs sc_Add_runs (fun vs H Q E h => ?_) (fun f cdv A outer s H vs Q E hr h => ?_)
  · obtain ⟨x, bo, pi, z, bs, pl, rfl, _⟩ := h
    rfl
  · obtain ⟨x, bo, pi, z, bs, pl, rfl, ⟨dx, hx⟩, hk, hb, h8, hv, hp, hpl, q⟩ := h
    change H x = some (.ins a.C_Add dx (putF "other" (.int t) (putF "one" (.int o) (putF "box" (.int b) [])))) at hx
    obtain ⟨⟨k1, k2⟩, ⟨k3, k4⟩, ⟨k5, k6⟩⟩ := hk
    refine ⟨_, (pss_cons (ps_set (i := 4) sc_Add_runs.nd rfl (Or.inl rfl) (pe_op op_mod (pe_op (op_plusK (K := K) rfl) (pe_ix (ix_K (K := K) rfl) (pv 2) (pe_fldK (K := K) rfl (pv 0)) (fun _ _ => rfl)) (pe_ix (ix_K (K := K) rfl) (pv 2) (pe_fldK (K := K) rfl (pv 0)) (fun _ _ => rfl))) (pe_glob (v := .int 4294967296) rfl T.g_VALUES.choose_spec ⟨_, rfl⟩)))
      (pss_one (ps_ret (pe_tup (pa_cons (pe_op (op_plusK (K := K) rfl) (pv 1) pe_int) (pa_cons (pe_callE (ok_with_box (K := K) T) (hr.mono (by decide)) pass0 rfl (pa_cons (pv 2) (pa_cons (pe_fldK (K := K) rfl (pv 0)) (pa_cons (pv 4) pa_nil)))) (pa_cons (pe_callTy (call_listK (K := K) rfl) rfl T.z_list b_list (pa_cons (pv 3) pa_nil)) pa_nil))))))), ?_⟩
    refine r_st (σ' := [some _, some _, some _, some _, none]) rfl ?_
    walk_at "rd"
    exact told_fin (by assumption) (by assumption) (by assumption) q
end
section
variable {P : Program} {w : World} {K : PySem.W.Frag} {mg : Str → Option Value} {base : Heap} {a : Adr}
set_option maxHeartbeats 4000000 in
theorem me_Sub_runs (T : Txt K mg a) (b o t : Int) : MethE P w K mg base CX0 2 a.C_Sub "runs" (spRuns K a (.sub b o t)) := by
  refine methE_of (sp := (spRuns K a (.sub b o t))) 1 T.cl_Sub T.m_Sub_runs sc_Sub_runs (fun vs H Q E h => ?_) (fun f cdv A outer s H vs Q E hr h => ?_)
  · obtain ⟨x, bo, pi, z, bs, pl, rfl, _⟩ := h
    rfl
  · obtain ⟨x, bo, pi, z, bs, pl, rfl, ⟨dx, hx⟩, hk, hb, h8, hv, hp, hpl, q⟩ := h
    change H x = some (.ins a.C_Sub dx (putF "other" (.int t) (putF "one" (.int o) (putF "box" (.int b) [])))) at hx
    obtain ⟨⟨k1, k2⟩, ⟨k3, k4⟩, ⟨k5, k6⟩⟩ := hk
    refine ⟨_, (pss_cons (ps_set (i := 4) sc_Sub_runs.nd rfl (Or.inl rfl) (pe_op op_mod (pe_op op_sub (pe_ix (ix_K (K := K) rfl) (pv 2) (pe_fldK (K := K) rfl (pv 0)) (fun _ _ => rfl)) (pe_ix (ix_K (K := K) rfl) (pv 2) (pe_fldK (K := K) rfl (pv 0)) (fun _ _ => rfl))) (pe_glob (v := .int 4294967296) rfl T.g_VALUES.choose_spec ⟨_, rfl⟩)))
      (pss_one (ps_ret (pe_tup (pa_cons (pe_op (op_plusK (K := K) rfl) (pv 1) pe_int) (pa_cons (pe_callE (ok_with_box (K := K) T) (hr.mono (by decide)) pass0 rfl (pa_cons (pv 2) (pa_cons (pe_fldK (K := K) rfl (pv 0)) (pa_cons (pv 4) pa_nil)))) (pa_cons (pe_callTy (call_listK (K := K) rfl) rfl T.z_list b_list (pa_cons (pv 3) pa_nil)) pa_nil))))))), ?_⟩
    refine r_st (σ' := [some _, some _, some _, some _, none]) rfl ?_
    walk_at "rd"
    exact told_fin (by assumption) (by assumption) (by assumption) q
end
section
variable {P : Program} {w : World} {K : PySem.W.Frag} {mg : Str → Option Value} {base : Heap} {a : Adr}
set_option maxHeartbeats 4000000 in
theorem me_Mul_runs (T : Txt K mg a) (b o t : Int) : MethE P w K mg base CX0 2 a.C_Mul "runs" (spRuns K a (.mul b o t)) := by
  refine methE_of (sp := (spRuns K a (.mul b o t))) 1 T.cl_Mul T.m_Mul_runs sc_Mul_runs (fun vs H Q E h => ?_) (fun f cdv A outer s H vs Q E hr h => ?_)
  · obtain ⟨x, bo, pi, z, bs, pl, rfl, _⟩ := h
    rfl
  · obtain ⟨x, bo, pi, z, bs, pl, rfl, ⟨dx, hx⟩, hk, hb, h8, hv, hp, hpl, q⟩ := h
    change H x = some (.ins a.C_Mul dx (putF "other" (.int t) (putF "one" (.int o) (putF "box" (.int b) [])))) at hx
    obtain ⟨⟨k1, k2⟩, ⟨k3, k4⟩, ⟨k5, k6⟩⟩ := hk
    refine ⟨_, (pss_cons (ps_set (i := 4) sc_Mul_runs.nd rfl (Or.inl rfl) (pe_op op_mod (pe_op op_times (pe_ix (ix_K (K := K) rfl) (pv 2) (pe_fldK (K := K) rfl (pv 0)) (fun _ _ => rfl)) (pe_ix (ix_K (K := K) rfl) (pv 2) (pe_fldK (K := K) rfl (pv 0)) (fun _ _ => rfl))) (pe_glob (v := .int 4294967296) rfl T.g_VALUES.choose_spec ⟨_, rfl⟩)))
      (pss_one (ps_ret (pe_tup (pa_cons (pe_op (op_plusK (K := K) rfl) (pv 1) pe_int) (pa_cons (pe_callE (ok_with_box (K := K) T) (hr.mono (by decide)) pass0 rfl (pa_cons (pv 2) (pa_cons (pe_fldK (K := K) rfl (pv 0)) (pa_cons (pv 4) pa_nil)))) (pa_cons (pe_callTy (call_listK (K := K) rfl) rfl T.z_list b_list (pa_cons (pv 3) pa_nil)) pa_nil))))))), ?_⟩
    refine r_st (σ' := [some _, some _, some _, some _, none]) rfl ?_
    walk_at "rd"
    refine r_timesI (Or.inl ?_) ?_
    · have := gI_val h8 hv ⟨k3, k4⟩
      exact ⟨by have := this.1; omega, by have := this.2; omega⟩
    walk_at "rd"
    exact told_fin (by assumption) (by assumption) (by assumption) q
end
section
variable {P : Program} {w : World} {K : PySem.W.Frag} {mg : Str → Option Value} {base : Heap} {a : Adr}
set_option maxHeartbeats 4000000 in
theorem me_Less_runs (T : Txt K mg a) (b o t : Int) : MethE P w K mg base CX0 2 a.C_Less "runs" (spRuns K a (.less b o t)) := by
  refine methE_of (sp := (spRuns K a (.less b o t))) 1 T.cl_Less T.m_Less_runs sc_Less_runs (fun vs H Q E h => ?_) (fun f cdv A outer s H vs Q E hr h => ?_)
  · obtain ⟨x, bo, pi, z, bs, pl, rfl, _⟩ := h
    rfl
  · obtain ⟨x, bo, pi, z, bs, pl, rfl, ⟨dx, hx⟩, hk, hb, h8, hv, hp, hpl, q⟩ := h
    change H x = some (.ins a.C_Less dx (putF "other" (.int t) (putF "one" (.int o) (putF "box" (.int b) [])))) at hx
    obtain ⟨⟨k1, k2⟩, ⟨k3, k4⟩, ⟨k5, k6⟩⟩ := hk
    refine ⟨_, (pss_cons (ps_set (i := 4) sc_Less_runs.nd rfl (Or.inl rfl) (pe_ifExp (pt_cmpR op_lt (pe_ix (ix_K (K := K) rfl) (pv 2) (pe_fldK (K := K) rfl (pv 0)) (fun _ _ => rfl)) (pe_ix (ix_K (K := K) rfl) (pv 2) (pe_fldK (K := K) rfl (pv 0)) (fun _ _ => rfl)) (nomark _)) pe_int pe_int))
      (pss_one (ps_ret (pe_tup (pa_cons (pe_op (op_plusK (K := K) rfl) (pv 1) pe_int) (pa_cons (pe_callE (ok_with_box (K := K) T) (hr.mono (by decide)) pass0 rfl (pa_cons (pv 2) (pa_cons (pe_fldK (K := K) rfl (pv 0)) (pa_cons (pv 4) pa_nil)))) (pa_cons (pe_callTy (call_listK (K := K) rfl) rfl T.z_list b_list (pa_cons (pv 3) pa_nil)) pa_nil))))))), ?_⟩
    refine r_st (σ' := [some _, some _, some _, some _, none]) rfl ?_
    walk_at "rd"
    have q : toldRun H Q (some (z + 1, sI bs b (if gI bs o < gI bs t then 1 else 0), pl)) := q
    refine ifDec (fun hh => ?_) (fun hh => ?_)
    all_goals
      walk_at "rd"
      first | rw [if_pos hh] at q | rw [if_neg hh] at q
      exact told_fin (by assumption) (by assumption) (by assumption) q
end
section
variable {P : Program} {w : World} {K : PySem.W.Frag} {mg : Str → Option Value} {base : Heap} {a : Adr}
set_option maxHeartbeats 4000000 in
theorem mk_Grow (T : Txt K mg a) : MkE P w K mg base CX0 2 "Grow" a.C_Grow (spIni1 a.C_Grow Rw.grow) := by
  refine mkE_of (sp := (spIni1 a.C_Grow Rw.grow)) 1 T.c_Grow T.i_Grow sc_Grow_init (fun vs H Q E h => ?_) (fun f cdv A outer s H vs Q E hr h => ?_)
  · obtain ⟨x, dx, i, rfl, _⟩ := h
    rfl
  · obtain ⟨x, dx, i, rfl, ⟨h1, h2⟩, hx, q⟩ := h
    refine ⟨_, (pss_one (ps_fldK (K := K) rfl (pv 0) (pe_callE (ok_bounded (K := K) T) (hr.mono (by decide)) pass0 rfl (pa_cons (pv 1) (pa_cons (pe_glob (v := .int 4000) rfl T.g_TOP_CELLS.choose_spec ⟨_, rfl⟩) pa_nil))))), ?_⟩
    refine r_st (σ' := [some _, some _]) rfl ?_
    walk_at "rd"
    exact q _ kp_one upd_same
end
section
variable {P : Program} {w : World} {K : PySem.W.Frag} {mg : Str → Option Value} {base : Heap} {a : Adr}
set_option maxHeartbeats 4000000 in
theorem me_Grow_runs (T : Txt K mg a) (m : Int) : MethE P w K mg base CX0 2 a.C_Grow "runs" (spRuns K a (.grow m)) := by
  refine methE_of (sp := (spRuns K a (.grow m))) 1 T.cl_Grow T.m_Grow_runs sc_Grow_runs (fun vs H Q E h => ?_) (fun f cdv A outer s H vs Q E hr h => ?_)
  · obtain ⟨x, bo, pi, z, bs, pl, rfl, _⟩ := h
    rfl
  · obtain ⟨x, bo, pi, z, bs, pl, rfl, ⟨dx, hx⟩, hk, hb, h8, hv, hp, hpl, q⟩ := h
    change H x = some (.ins a.C_Grow dx (putF "many" (.int m) [])) at hx
    obtain ⟨k1, k2⟩ := hk
    refine ⟨_, (pss_cons (ps_if (pt_cmpR op_isNA (pe_methK (P := P) (w := w) (K := K) (mg := mg) (base := base) (k := 1) ⟨rfl, rfl, rfl, rfl, rfl⟩ (pv 0) (hr.mono (by decide)) pass0 (pa_cons (pe_callB (call_lenK (K := K) rfl) rfl T.z_len b_len (pa_cons (pv 3) pa_nil)) pa_nil)) pe_non (nomark _)) (pss_one (ps_ret pe_non)) pss_nil)
      (pss_one (ps_ret (pe_tup (pa_cons (pe_op (op_plusK (K := K) rfl) (pv 1) pe_int) (pa_cons (pe_callTy (call_listK (K := K) rfl) rfl T.z_list b_list (pa_cons (pv 2) pa_nil)) (pa_cons (pe_op (op_plusK (K := K) rfl) (pe_callTy (call_listK (K := K) rfl) rfl T.z_list b_list (pa_cons (pv 3) pa_nil)) (pe_op op_times (pe_lst (pa_cons pe_int pa_nil)) (pe_fldK (K := K) rfl (pv 0)))) pa_nil))))))), ?_⟩
    refine r_st (σ' := [some _, some _, some _, some _]) rfl ?_
    walk_at "rd"
    refine r_methV hx (by walk_at "nolk") ((me_Grow_height T m).mono (by decide)) ?_
    walk_at "rd"
    refine ⟨x, _, rfl, ⟨dx, hx⟩, ?_⟩
    have q : toldRun H Q (if (pl.length : Int) + m > 4000 then none else some (z + 1, bs, pl ++ List.replicate m.toNat 0)) := q
    by_cases hh : (pl.length : Int) + m > 4000
    · rw [if_pos hh] at q
      rw [show optV (Rw.height (.grow m) (pl.length : Int)) = V.non from by simp only [Rw.height]; rw [if_pos hh]; rfl]
      walk_at "rd"
      exact q _ (by walk_at "same")
    rw [if_neg hh] at q
    rw [show optV (Rw.height (.grow m) (pl.length : Int)) = V.int (pl.length + m) from by simp only [Rw.height]; rw [if_neg hh]; rfl]
    walk_at "rd"
    walk_at "tf"

end
section
variable {P : Program} {w : World} {K : PySem.W.Frag} {mg : Str → Option Value} {base : Heap} {a : Adr}
set_option maxHeartbeats 4000000 in
theorem mk_Shrink (T : Txt K mg a) : MkE P w K mg base CX0 2 "Shrink" a.C_Shrink (spIni1 a.C_Shrink Rw.shrink) := by
  refine mkE_of (sp := (spIni1 a.C_Shrink Rw.shrink)) 1 T.c_Shrink T.i_Shrink sc_Shrink_init (fun vs H Q E h => ?_) (fun f cdv A outer s H vs Q E hr h => ?_)
  · obtain ⟨x, dx, i, rfl, _⟩ := h
    rfl
  · obtain ⟨x, dx, i, rfl, ⟨h1, h2⟩, hx, q⟩ := h
    refine ⟨_, (pss_one (ps_fldK (K := K) rfl (pv 0) (pe_callE (ok_bounded (K := K) T) (hr.mono (by decide)) pass0 rfl (pa_cons (pv 1) (pa_cons (pe_glob (v := .int 4000) rfl T.g_TOP_CELLS.choose_spec ⟨_, rfl⟩) pa_nil))))), ?_⟩
    refine r_st (σ' := [some _, some _]) rfl ?_
    walk_at "rd"
    exact q _ kp_one upd_same
end
section
variable {P : Program} {w : World} {K : PySem.W.Frag} {mg : Str → Option Value} {base : Heap} {a : Adr}
set_option maxHeartbeats 4000000 in
theorem me_Shrink_runs (T : Txt K mg a) (m : Int) : MethE P w K mg base CX0 2 a.C_Shrink "runs" (spRuns K a (.shrink m)) := by
  refine methE_of (sp := (spRuns K a (.shrink m))) 1 T.cl_Shrink T.m_Shrink_runs sc_Shrink_runs (fun vs H Q E h => ?_) (fun f cdv A outer s H vs Q E hr h => ?_)
  · obtain ⟨x, bo, pi, z, bs, pl, rfl, _⟩ := h
    rfl
  · obtain ⟨x, bo, pi, z, bs, pl, rfl, ⟨dx, hx⟩, hk, hb, h8, hv, hp, hpl, q⟩ := h
    change H x = some (.ins a.C_Shrink dx (putF "many" (.int m) [])) at hx
    obtain ⟨k1, k2⟩ := hk
    refine ⟨_, (pss_cons (ps_set (i := 4) sc_Shrink_runs.nd rfl (Or.inl rfl) (pe_methK (P := P) (w := w) (K := K) (mg := mg) (base := base) (k := 1) ⟨rfl, rfl, rfl, rfl, rfl⟩ (pv 0) (hr.mono (by decide)) pass0 (pa_cons (pe_callB (call_lenK (K := K) rfl) rfl T.z_len b_len (pa_cons (pv 3) pa_nil)) pa_nil)))
      (pss_cons (ps_if (pt_cmpR op_isNA (pv 4) pe_non (nomark _)) (pss_one (ps_ret pe_non)) pss_nil)
      (pss_one (ps_ret (pe_tup (pa_cons (pe_op (op_plusK (K := K) rfl) (pv 1) pe_int) (pa_cons (pe_callTy (call_listK (K := K) rfl) rfl T.z_list b_list (pa_cons (pv 2) pa_nil)) (pa_cons (pe_slice (sl_K (K := K) rfl) (pv 3) po_none (po_some (pv 4))) pa_nil)))))))), ?_⟩
    refine r_st (σ' := [some _, some _, some _, some _, none]) rfl ?_
    walk_at "rd"
    refine r_methV hx (by walk_at "nolk") ((me_Shrink_height T m).mono (by decide)) ?_
    walk_at "rd"
    refine ⟨x, _, rfl, ⟨dx, hx⟩, ?_⟩
    have q : toldRun H Q (if (pl.length : Int) < m then none else some (z + 1, bs, pl.take (pl.length - m.toNat))) := q
    by_cases hh : (pl.length : Int) < m
    · rw [if_pos hh] at q
      rw [show optV (Rw.height (.shrink m) (pl.length : Int)) = V.non from by simp only [Rw.height]; rw [if_pos hh]; rfl]
      walk_at "rd"
      exact q _ (by walk_at "same")
    rw [if_neg hh] at q
    rw [show optV (Rw.height (.shrink m) (pl.length : Int)) = V.int (pl.length - m) from by simp only [Rw.height]; rw [if_neg hh]; rfl]
    walk_at "rd"
    rw [cutI_take _ (by omega), show ((pl.length : Int) - m).toNat = pl.length - m.toNat from by omega]
    walk_at "tf"

end
section
variable {P : Program} {w : World} {K : PySem.W.Frag} {mg : Str → Option Value} {base : Heap} {a : Adr}
set_option maxHeartbeats 4000000 in
theorem mk_Get (T : Txt K mg a) : MkE P w K mg base CX0 2 "Get" a.C_Get (spIni2 a.C_Get Rw.get) := by
  refine mkE_of (sp := (spIni2 a.C_Get Rw.get)) 1 T.c_Get T.i_Get sc_Reaching_init (fun vs H Q E h => ?_) (fun f cdv A outer s H vs Q E hr h => ?_)
  · obtain ⟨x, dx, i, j, rfl, _⟩ := h
    rfl
  · obtain ⟨x, dx, i, j, rfl, ⟨⟨h1, h2⟩, ⟨h3, h4⟩⟩, hx, q⟩ := h
    refine ⟨_, (pss_cons (ps_fldK (K := K) rfl (pv 0) (pe_callE (ok_bounded (K := K) T) (hr.mono (by decide)) pass0 rfl (pa_cons (pv 1) (pa_cons (pe_glob (v := .int 7) rfl T.g_TOP_BOX.choose_spec ⟨_, rfl⟩) pa_nil))))
      (pss_one (ps_fldK (K := K) rfl (pv 0) (pe_callE (ok_bounded (K := K) T) (hr.mono (by decide)) pass0 rfl (pa_cons (pv 2) (pa_cons (pe_glob (v := .int 4000) rfl T.g_TOP_CELLS.choose_spec ⟨_, rfl⟩) pa_nil)))))), ?_⟩
    refine r_st (σ' := [some _, some _, some _]) rfl ?_
    walk_at "rd"
    exact q _ kp_two upd_same
end
section
variable {P : Program} {w : World} {K : PySem.W.Frag} {mg : Str → Option Value} {base : Heap} {a : Adr}
set_option maxHeartbeats 4000000 in
theorem mk_Put (T : Txt K mg a) : MkE P w K mg base CX0 2 "Put" a.C_Put (spIni2 a.C_Put Rw.put) := by
  refine mkE_of (sp := (spIni2 a.C_Put Rw.put)) 1 T.c_Put T.i_Put sc_Reaching_init (fun vs H Q E h => ?_) (fun f cdv A outer s H vs Q E hr h => ?_)
  · obtain ⟨x, dx, i, j, rfl, _⟩ := h
    rfl
  · obtain ⟨x, dx, i, j, rfl, ⟨⟨h1, h2⟩, ⟨h3, h4⟩⟩, hx, q⟩ := h
    refine ⟨_, (pss_cons (ps_fldK (K := K) rfl (pv 0) (pe_callE (ok_bounded (K := K) T) (hr.mono (by decide)) pass0 rfl (pa_cons (pv 1) (pa_cons (pe_glob (v := .int 7) rfl T.g_TOP_BOX.choose_spec ⟨_, rfl⟩) pa_nil))))
      (pss_one (ps_fldK (K := K) rfl (pv 0) (pe_callE (ok_bounded (K := K) T) (hr.mono (by decide)) pass0 rfl (pa_cons (pv 2) (pa_cons (pe_glob (v := .int 4000) rfl T.g_TOP_CELLS.choose_spec ⟨_, rfl⟩) pa_nil)))))), ?_⟩
    refine r_st (σ' := [some _, some _, some _]) rfl ?_
    walk_at "rd"
    exact q _ kp_two upd_same
end
section
variable {P : Program} {w : World} {K : PySem.W.Frag} {mg : Str → Option Value} {base : Heap} {a : Adr}
set_option maxHeartbeats 4000000 in
theorem me_Put_runs (T : Txt K mg a) (b c : Int) : MethE P w K mg base CX0 2 a.C_Put "runs" (spRuns K a (.put b c)) := by
  refine methE_of (sp := (spRuns K a (.put b c))) 1 T.cl_Put T.m_Put_runs sc_Put_runs (fun vs H Q E h => ?_) (fun f cdv A outer s H vs Q E hr h => ?_)
  · obtain ⟨x, bo, pi, z, bs, pl, rfl, _⟩ := h
    rfl
  · obtain ⟨x, bo, pi, z, bs, pl, rfl, ⟨dx, hx⟩, hk, hb, h8, hv, hp, hpl, q⟩ := h
    change H x = some (.ins a.C_Put dx (putF "cell" (.int c) (putF "box" (.int b) []))) at hx
    obtain ⟨⟨k1, k2⟩, ⟨k3, k4⟩⟩ := hk
    refine ⟨_, (pss_cons (ps_if (pt_cmpR op_isNA (pe_methK (P := P) (w := w) (K := K) (mg := mg) (base := base) (k := 1) ⟨rfl, rfl, rfl, rfl, rfl⟩ (pv 0) (hr.mono (by decide)) pass0 (pa_cons (pe_callB (call_lenK (K := K) rfl) rfl T.z_len b_len (pa_cons (pv 3) pa_nil)) pa_nil)) pe_non (nomark _)) (pss_one (ps_ret pe_non)) pss_nil)
      (pss_cons (ps_set (i := 4) sc_Put_runs.nd rfl (Or.inl rfl) (pe_callTy (call_listK (K := K) rfl) rfl T.z_list b_list (pa_cons (pv 3) pa_nil)))
      (pss_cons (ps_asg (pe_ix (ix_K (K := K) rfl) (pv 2) (pe_fldK (K := K) rfl (pv 0)) (fun _ _ => rfl)) (pg_sub (pv 4) (pe_op op_sub (pe_op op_sub (pe_callB (call_lenK (K := K) rfl) rfl T.z_len b_len (pa_cons (pv 3) pa_nil)) pe_int) (pe_fldK (K := K) rfl (pv 0))) set_list))
      (pss_one (ps_ret (pe_tup (pa_cons (pe_op (op_plusK (K := K) rfl) (pv 1) pe_int) (pa_cons (pe_callTy (call_listK (K := K) rfl) rfl T.z_list b_list (pa_cons (pv 2) pa_nil)) (pa_cons (pv 4) pa_nil))))))))), ?_⟩
    refine r_st (σ' := [some _, some _, some _, some _, none]) rfl ?_
    walk_at "rd"
    refine r_methV hx (by walk_at "nolk") ((me_Put_height T b c).mono (by decide)) ?_
    walk_at "rd"
    refine ⟨x, _, rfl, ⟨dx, hx⟩, ?_⟩
    have q : toldRun H Q (if (pl.length : Int) ≤ c then none else some (z + 1, bs, sI pl (pl.length - 1 - c) (gI bs b))) := q
    by_cases hh : (pl.length : Int) ≤ c
    · rw [if_pos hh] at q
      rw [show optV (Rw.height (.put b c) (pl.length : Int)) = V.non from by simp only [Rw.height]; rw [if_pos hh]; rfl]
      walk_at "rd"
      exact q _ (by walk_at "same")
    rw [if_neg hh] at q
    rw [show optV (Rw.height (.put b c) (pl.length : Int)) = V.int pl.length from by simp only [Rw.height]; rw [if_neg hh]; rfl]
    walk_at "rd"
    walk_at "tf"

end
section
variable {P : Program} {w : World} {K : PySem.W.Frag} {mg : Str → Option Value} {base : Heap} {a : Adr}
set_option maxHeartbeats 4000000 in
theorem me_Get_runs (T : Txt K mg a) (b c : Int) : MethE P w K mg base CX0 2 a.C_Get "runs" (spRuns K a (.get b c)) := by
  refine methE_of (sp := (spRuns K a (.get b c))) 1 T.cl_Get T.m_Get_runs sc_Get_runs (fun vs H Q E h => ?_) (fun f cdv A outer s H vs Q E hr h => ?_)
  · obtain ⟨x, bo, pi, z, bs, pl, rfl, _⟩ := h
    rfl
  · obtain ⟨x, bo, pi, z, bs, pl, rfl, ⟨dx, hx⟩, hk, hb, h8, hv, hp, hpl, q⟩ := h
    change H x = some (.ins a.C_Get dx (putF "cell" (.int c) (putF "box" (.int b) []))) at hx
    obtain ⟨⟨k1, k2⟩, ⟨k3, k4⟩⟩ := hk
    refine ⟨_, (pss_cons (ps_if (pt_cmpR op_isNA (pe_methK (P := P) (w := w) (K := K) (mg := mg) (base := base) (k := 1) ⟨rfl, rfl, rfl, rfl, rfl⟩ (pv 0) (hr.mono (by decide)) pass0 (pa_cons (pe_callB (call_lenK (K := K) rfl) rfl T.z_len b_len (pa_cons (pv 3) pa_nil)) pa_nil)) pe_non (nomark _)) (pss_one (ps_ret pe_non)) pss_nil)
      (pss_cons (ps_set (i := 4) sc_Get_runs.nd rfl (Or.inl rfl) (pe_ix (ix_K (K := K) rfl) (pv 3) (pe_op op_sub (pe_op op_sub (pe_callB (call_lenK (K := K) rfl) rfl T.z_len b_len (pa_cons (pv 3) pa_nil)) pe_int) (pe_fldK (K := K) rfl (pv 0))) (fun _ _ => rfl)))
      (pss_one (ps_ret (pe_tup (pa_cons (pe_op (op_plusK (K := K) rfl) (pv 1) pe_int) (pa_cons (pe_callE (ok_with_box (K := K) T) (hr.mono (by decide)) pass0 rfl (pa_cons (pv 2) (pa_cons (pe_fldK (K := K) rfl (pv 0)) (pa_cons (pv 4) pa_nil)))) (pa_cons (pe_callTy (call_listK (K := K) rfl) rfl T.z_list b_list (pa_cons (pv 3) pa_nil)) pa_nil)))))))), ?_⟩
    refine r_st (σ' := [some _, some _, some _, some _, none]) rfl ?_
    walk_at "rd"
    refine r_methV hx (by walk_at "nolk") ((me_Get_height T b c).mono (by decide)) ?_
    walk_at "rd"
    refine ⟨x, _, rfl, ⟨dx, hx⟩, ?_⟩
    have q : toldRun H Q (if (pl.length : Int) ≤ c then none else some (z + 1, sI bs b (gI pl (pl.length - 1 - c)), pl)) := q
    by_cases hh : (pl.length : Int) ≤ c
    · rw [if_pos hh] at q
      rw [show optV (Rw.height (.get b c) (pl.length : Int)) = V.non from by simp only [Rw.height]; rw [if_pos hh]; rfl]
      walk_at "rd"
      exact q _ (by walk_at "same")
    rw [if_neg hh] at q
    rw [show optV (Rw.height (.get b c) (pl.length : Int)) = V.int pl.length from by simp only [Rw.height]; rw [if_neg hh]; rfl]
    walk_at "rd"
    exact told_fin (by assumption) (by assumption) (by assumption) q
end
section
variable {P : Program} {w : World} {K : PySem.W.Frag} {mg : Str → Option Value} {base : Heap} {a : Adr}
set_option maxHeartbeats 4000000 in
theorem mk_Jump (T : Txt K mg a) : MkE P w K mg base CX0 2 "Jump" a.C_Jump (spIni1 a.C_Jump Rw.jump) := by
  refine mkE_of (sp := (spIni1 a.C_Jump Rw.jump)) 1 T.c_Jump T.i_Jump sc_Jump_init (fun vs H Q E h => ?_) (fun f cdv A outer s H vs Q E hr h => ?_)
  · obtain ⟨x, dx, i, rfl, _⟩ := h
    rfl
  · obtain ⟨x, dx, i, rfl, ⟨h1, h2⟩, hx, q⟩ := h
    refine ⟨_, (pss_one (ps_fldK (K := K) rfl (pv 0) (pe_callE (ok_bounded (K := K) T) (hr.mono (by decide)) pass0 rfl (pa_cons (pv 1) (pa_cons (pe_glob (v := .int 2000) rfl T.g_TOP_TARGET.choose_spec ⟨_, rfl⟩) pa_nil))))), ?_⟩
    refine r_st (σ' := [some _, some _]) rfl ?_
    walk_at "rd"
    exact q _ kp_one upd_same
end
section
variable {P : Program} {w : World} {K : PySem.W.Frag} {mg : Str → Option Value} {base : Heap} {a : Adr}
set_option maxHeartbeats 4000000 in
theorem mk_Branch (T : Txt K mg a) : MkE P w K mg base CX0 2 "Branch" a.C_Branch (spIni2 a.C_Branch Rw.branch) := by
  refine mkE_of (sp := (spIni2 a.C_Branch Rw.branch)) 1 T.c_Branch T.i_Branch sc_Branch_init (fun vs H Q E h => ?_) (fun f cdv A outer s H vs Q E hr h => ?_)
  · obtain ⟨x, dx, i, j, rfl, _⟩ := h
    rfl
  · obtain ⟨x, dx, i, j, rfl, ⟨⟨h1, h2⟩, ⟨h3, h4⟩⟩, hx, q⟩ := h
    refine ⟨_, (pss_cons (ps_fldK (K := K) rfl (pv 0) (pe_callE (ok_bounded (K := K) T) (hr.mono (by decide)) pass0 rfl (pa_cons (pv 1) (pa_cons (pe_glob (v := .int 7) rfl T.g_TOP_BOX.choose_spec ⟨_, rfl⟩) pa_nil))))
      (pss_one (ps_fldK (K := K) rfl (pv 0) (pe_callE (ok_bounded (K := K) T) (hr.mono (by decide)) pass0 rfl (pa_cons (pv 2) (pa_cons (pe_glob (v := .int 2000) rfl T.g_TOP_TARGET.choose_spec ⟨_, rfl⟩) pa_nil)))))), ?_⟩
    refine r_st (σ' := [some _, some _, some _]) rfl ?_
    walk_at "rd"
    exact q _ kp_two upd_same
end
section
variable {P : Program} {w : World} {K : PySem.W.Frag} {mg : Str → Option Value} {base : Heap} {a : Adr}
set_option maxHeartbeats 4000000 in
theorem mk_Call (T : Txt K mg a) : MkE P w K mg base CX0 2 "Call" a.C_Call (spIni1 a.C_Call Rw.call) := by
  refine mkE_of (sp := (spIni1 a.C_Call Rw.call)) 1 T.c_Call T.i_Call sc_Call_init (fun vs H Q E h => ?_) (fun f cdv A outer s H vs Q E hr h => ?_)
  · obtain ⟨x, dx, i, rfl, _⟩ := h
    rfl
  · obtain ⟨x, dx, i, rfl, ⟨h1, h2⟩, hx, q⟩ := h
    refine ⟨_, (pss_one (ps_fldK (K := K) rfl (pv 0) (pe_callE (ok_bounded (K := K) T) (hr.mono (by decide)) pass0 rfl (pa_cons (pv 1) (pa_cons (pe_glob (v := .int 2000) rfl T.g_TOP_TARGET.choose_spec ⟨_, rfl⟩) pa_nil))))), ?_⟩
    refine r_st (σ' := [some _, some _]) rfl ?_
    walk_at "rd"
    exact q _ kp_one upd_same
end
section
variable {P : Program} {w : World} {K : PySem.W.Frag} {mg : Str → Option Value} {base : Heap} {a : Adr}
set_option maxHeartbeats 4000000 in
theorem me_Call_runs (T : Txt K mg a) (t : Int) : MethE P w K mg base CX0 2 a.C_Call "runs" (spRuns K a (.call t)) := by
  refine methE_of (sp := (spRuns K a (.call t))) 1 T.cl_Call T.m_Call_runs sc_Call_runs (fun vs H Q E h => ?_) (fun f cdv A outer s H vs Q E hr h => ?_)
  · obtain ⟨x, bo, pi, z, bs, pl, rfl, _⟩ := h
    rfl
  · obtain ⟨x, bo, pi, z, bs, pl, rfl, ⟨dx, hx⟩, hk, hb, h8, hv, hp, hpl, q⟩ := h
    change H x = some (.ins a.C_Call dx (putF "target" (.int t) [])) at hx
    obtain ⟨k1, k2⟩ := hk
    refine ⟨_, (pss_one (ps_ret (pe_tup (pa_cons (pe_fldK (K := K) rfl (pv 0)) (pa_cons (pe_callE (ok_with_box (K := K) T) (hr.mono (by decide)) pass0 rfl (pa_cons (pv 2) (pa_cons (pe_glob (v := .int 7) rfl T.g_LINK.choose_spec ⟨_, rfl⟩) (pa_cons (pe_op (op_plusK (K := K) rfl) (pv 1) pe_int) pa_nil)))) (pa_cons (pe_callTy (call_listK (K := K) rfl) rfl T.z_list b_list (pa_cons (pv 3) pa_nil)) pa_nil)))))), ?_⟩
    refine r_st (σ' := [some _, some _, some _, some _]) rfl ?_
    walk_at "rd"
    exact told_fin (by assumption) (by assumption) (by assumption) q
end
section
variable {P : Program} {w : World} {K : PySem.W.Frag} {mg : Str → Option Value} {base : Heap} {a : Adr}
set_option maxHeartbeats 4000000 in
theorem mk_Back (T : Txt K mg a) : MkE P w K mg base CX0 2 "Back" a.C_Back (spIni1 a.C_Back Rw.back) := by
  refine mkE_of (sp := (spIni1 a.C_Back Rw.back)) 1 T.c_Back T.i_Back sc_Back_init (fun vs H Q E h => ?_) (fun f cdv A outer s H vs Q E hr h => ?_)
  · obtain ⟨x, dx, i, rfl, _⟩ := h
    rfl
  · obtain ⟨x, dx, i, rfl, ⟨h1, h2⟩, hx, q⟩ := h
    refine ⟨_, (pss_one (ps_fldK (K := K) rfl (pv 0) (pe_callE (ok_bounded (K := K) T) (hr.mono (by decide)) pass0 rfl (pa_cons (pv 1) (pa_cons (pe_glob (v := .int 7) rfl T.g_TOP_BOX.choose_spec ⟨_, rfl⟩) pa_nil))))), ?_⟩
    refine r_st (σ' := [some _, some _]) rfl ?_
    walk_at "rd"
    exact q _ kp_one upd_same
end
section
variable {P : Program} {w : World} {K : PySem.W.Frag} {mg : Str → Option Value} {base : Heap} {a : Adr}
set_option maxHeartbeats 4000000 in
theorem mk_Drop (T : Txt K mg a) : MkE P w K mg base CX0 2 "Drop" a.C_Drop (spIni1 a.C_Drop Rw.drop) := by
  refine mkE_of (sp := (spIni1 a.C_Drop Rw.drop)) 1 T.c_Drop T.i_Drop sc_Drop_init (fun vs H Q E h => ?_) (fun f cdv A outer s H vs Q E hr h => ?_)
  · obtain ⟨x, dx, i, rfl, _⟩ := h
    rfl
  · obtain ⟨x, dx, i, rfl, ⟨h1, h2⟩, hx, q⟩ := h
    refine ⟨_, (pss_one (ps_fldK (K := K) rfl (pv 0) (pe_callE (ok_bounded (K := K) T) (hr.mono (by decide)) pass0 rfl (pa_cons (pv 1) (pa_cons (pe_glob (v := .int 7) rfl T.g_TOP_BOX.choose_spec ⟨_, rfl⟩) pa_nil))))), ?_⟩
    refine r_st (σ' := [some _, some _]) rfl ?_
    walk_at "rd"
    exact q _ kp_one upd_same
end
section
variable {P : Program} {w : World} {K : PySem.W.Frag} {mg : Str → Option Value} {base : Heap} {a : Adr}
set_option maxHeartbeats 4000000 in
theorem ok_law_filling (T : Txt K mg a) : FnE P w K mg base CX0 4 "_law_filling" (spFill a) := by
  refine fnE_of (sp := (spFill a)) 3 T.fn_law_filling sc_law_filling (fun vs H Q E h => ?_) (fun f cdv A outer s H vs Q E hr h => ?_)
  · obtain ⟨k, c, rfl, _⟩ := h
    rfl
  · obtain ⟨k, c, rfl, q⟩ := h
    refine ⟨_, (pss_cons (ps_set (i := 2) sc_law_filling.nd rfl (Or.inl rfl) (pe_op op_mod (pv 1) pe_int))
      (pss_cons (ps_set (i := 3) sc_law_filling.nd rfl (Or.inl rfl) (pe_op op_mod (pe_op op_fdiv (pv 1) pe_int) pe_int))
      (pss_cons (ps_set (i := 4) sc_law_filling.nd rfl (Or.inl rfl) (pe_op op_mod (pe_op op_fdiv (pv 1) pe_int) pe_int))
      (pss_cons (ps_if (pt_cmpR (op_eqK (K := K) rfl hr.units) (pv 0) pe_int (nomark _)) (pss_one (ps_ret (pe_makeE (mk_Set (K := K) T) (hr.mono (by decide)) pass0 rfl (pa_cons (pv 2) (pa_cons (pe_op op_mod (pe_op op_fdiv (pv 1) pe_int) pe_int) pa_nil))))) pss_nil)
      (pss_cons (ps_if (pt_cmpR (op_eqK (K := K) rfl hr.units) (pv 0) pe_int (nomark _)) (pss_one (ps_ret (pe_makeE (mk_Copy (K := K) T) (hr.mono (by decide)) pass0 rfl (pa_cons (pv 2) (pa_cons (pv 3) pa_nil))))) pss_nil)
      (pss_cons (ps_if (pt_cmpR (op_eqK (K := K) rfl hr.units) (pv 0) pe_int (nomark _)) (pss_one (ps_ret (pe_makeE (mk_Add (K := K) T) (hr.mono (by decide)) pass0 rfl (pa_cons (pv 2) (pa_cons (pv 3) (pa_cons (pv 4) pa_nil)))))) pss_nil)
      (pss_cons (ps_if (pt_cmpR (op_eqK (K := K) rfl hr.units) (pv 0) pe_int (nomark _)) (pss_one (ps_ret (pe_makeE (mk_Sub (K := K) T) (hr.mono (by decide)) pass0 rfl (pa_cons (pv 2) (pa_cons (pv 3) (pa_cons (pv 4) pa_nil)))))) pss_nil)
      (pss_cons (ps_if (pt_cmpR (op_eqK (K := K) rfl hr.units) (pv 0) pe_int (nomark _)) (pss_one (ps_ret (pe_makeE (mk_Mul (K := K) T) (hr.mono (by decide)) pass0 rfl (pa_cons (pv 2) (pa_cons (pv 3) (pa_cons (pv 4) pa_nil)))))) pss_nil)
      (pss_one (ps_ret (pe_makeE (mk_Less (K := K) T) (hr.mono (by decide)) pass0 rfl (pa_cons (pv 2) (pa_cons (pv 3) (pa_cons (pv 4) pa_nil)))))))))))))), ?_⟩
    refine r_st (σ' := [some _, some _, none, none, none]) rfl ?_
    walk_at "rds"
    all_goals first
      | exact r_row1 (a := a) (by walk_at "rok") rfl fun p H' s n z => q p H' s n (by unfold fillOf; walk_at "sp")
      | exact r_row2 (a := a) ⟨by walk_at "rok", by walk_at "rok"⟩ rfl fun p H' s n z => q p H' s n (by unfold fillOf; walk_at "sp")
      | exact r_row3 (a := a) ⟨by walk_at "rok", by walk_at "rok", by walk_at "rok"⟩ rfl fun p H' s n z => q p H' s n (by unfold fillOf; walk_at "sp")
end
section
variable {P : Program} {w : World} {K : PySem.W.Frag} {mg : Str → Option Value} {base : Heap} {a : Adr}
set_option maxHeartbeats 4000000 in
theorem ok_law_going (T : Txt K mg a) : FnE P w K mg base CX0 4 "_law_going" (spGoing a) := by
  refine fnE_of (sp := (spGoing a)) 3 T.fn_law_going sc_law_going (fun vs H Q E h => ?_) (fun f cdv A outer s H vs Q E hr h => ?_)
  · obtain ⟨k, c, rfl, _⟩ := h
    rfl
  · obtain ⟨k, c, rfl, q⟩ := h
    refine ⟨_, (pss_cons (ps_if (pt_cmpR (op_eqK (K := K) rfl hr.units) (pv 0) pe_int (nomark _)) (pss_one (ps_ret (pe_makeE (mk_Jump (K := K) T) (hr.mono (by decide)) pass0 rfl (pa_cons (pe_op op_mod (pe_op op_fdiv (pv 1) pe_int) pe_int) pa_nil)))) pss_nil)
      (pss_cons (ps_if (pt_cmpR (op_eqK (K := K) rfl hr.units) (pv 0) pe_int (nomark _)) (pss_one (ps_ret (pe_makeE (mk_Branch (K := K) T) (hr.mono (by decide)) pass0 rfl (pa_cons (pe_op op_mod (pv 1) pe_int) (pa_cons (pe_op op_mod (pe_op op_fdiv (pv 1) pe_int) pe_int) pa_nil))))) pss_nil)
      (pss_cons (ps_if (pt_cmpR (op_eqK (K := K) rfl hr.units) (pv 0) pe_int (nomark _)) (pss_one (ps_ret (pe_makeE (mk_Call (K := K) T) (hr.mono (by decide)) pass0 rfl (pa_cons (pe_op op_mod (pe_op op_fdiv (pv 1) pe_int) pe_int) pa_nil)))) pss_nil)
      (pss_cons (ps_if (pt_cmpR (op_eqK (K := K) rfl hr.units) (pv 0) pe_int (nomark _)) (pss_one (ps_ret (pe_makeE (mk_Back (K := K) T) (hr.mono (by decide)) pass0 rfl (pa_cons (pe_op op_mod (pv 1) pe_int) pa_nil)))) pss_nil)
      (pss_one (ps_ret (pe_makeE (mk_Drop (K := K) T) (hr.mono (by decide)) pass0 rfl (pa_cons (pe_op op_mod (pv 1) pe_int) pa_nil)))))))), ?_⟩
    refine r_st (σ' := [some _, some _]) rfl ?_
    walk_at "rds"
    all_goals first
      | exact r_row1 (a := a) (by walk_at "rok") rfl fun p H' s n z => q p H' s n (by unfold goOf; walk_at "sp")
      | exact r_row2 (a := a) ⟨by walk_at "rok", by walk_at "rok"⟩ rfl fun p H' s n z => q p H' s n (by unfold goOf; walk_at "sp")
      | exact r_row3 (a := a) ⟨by walk_at "rok", by walk_at "rok", by walk_at "rok"⟩ rfl fun p H' s n z => q p H' s n (by unfold goOf; walk_at "sp")
end
section
variable {P : Program} {w : World} {K : PySem.W.Frag} {mg : Str → Option Value} {base : Heap} {a : Adr}
set_option maxHeartbeats 4000000 in
theorem ok_law_row (T : Txt K mg a) : FnE P w K mg base CX0 5 "_law_row" (spRow a) := by
  refine fnE_of (sp := (spRow a)) 4 T.fn_law_row sc_law_row (fun vs H Q E h => ?_) (fun f cdv A outer s H vs Q E hr h => ?_)
  · obtain ⟨k, c, m, rfl, _⟩ := h
    rfl
  · obtain ⟨k, c, m, rfl, hm, q⟩ := h
    refine ⟨_, (pss_cons (ps_if (pt_cmpR op_lt (pv 0) pe_int (nomark _)) (pss_one (ps_ret (pe_callE (ok_law_filling (K := K) T) (hr.mono (by decide)) pass0 rfl (pa_cons (pv 0) (pa_cons (pv 1) pa_nil))))) pss_nil)
      (pss_cons (ps_if (pt_cmpR op_lt (pv 0) pe_int (nomark _)) (pss_one (ps_ret (pe_callE (ok_law_going (K := K) T) (hr.mono (by decide)) pass0 rfl (pa_cons (pv 0) (pa_cons (pv 1) pa_nil))))) pss_nil)
      (pss_cons (ps_if (pt_cmpR (op_eqK (K := K) rfl hr.units) (pv 0) pe_int (nomark _)) (pss_one (ps_ret (pe_makeE (mk_Grow (K := K) T) (hr.mono (by decide)) pass0 rfl (pa_cons (pv 2) pa_nil)))) pss_nil)
      (pss_cons (ps_if (pt_cmpR (op_eqK (K := K) rfl hr.units) (pv 0) pe_int (nomark _)) (pss_one (ps_ret (pe_makeE (mk_Shrink (K := K) T) (hr.mono (by decide)) pass0 rfl (pa_cons (pv 2) pa_nil)))) pss_nil)
      (pss_cons (ps_if (pt_cmpR (op_eqK (K := K) rfl hr.units) (pv 0) pe_int (nomark _)) (pss_one (ps_ret (pe_makeE (mk_Put (K := K) T) (hr.mono (by decide)) pass0 rfl (pa_cons (pe_op op_mod (pv 1) pe_int) (pa_cons (pv 2) pa_nil))))) pss_nil)
      (pss_one (ps_ret (pe_makeE (mk_Get (K := K) T) (hr.mono (by decide)) pass0 rfl (pa_cons (pe_op op_mod (pv 1) pe_int) (pa_cons (pv 2) pa_nil)))))))))), ?_⟩
    refine r_st (σ' := [some _, some _, some _]) rfl ?_
    walk_at "rds"
    all_goals first
      | exact ⟨_, _, rfl, fun p H' s n z => q p H' s n (by unfold rowOf; walk_at "sp")⟩
      | exact r_row1 (a := a) (by walk_at "rok") rfl fun p H' s n z => q p H' s n (by unfold rowOf; walk_at "sp")
      | exact r_row2 (a := a) ⟨by walk_at "rok", by walk_at "rok"⟩ rfl fun p H' s n z => q p H' s n (by unfold rowOf; walk_at "sp")
end
section
variable {P : Program} {w : World} {K : PySem.W.Frag} {mg : Str → Option Value} {base : Heap} {a : Adr}
theorem flds_runs (r : Rw) : r.flds.lookup ("runs" : Str) = none := by
  cases r <;> (show List.lookup _ (putF _ _ _) = none; walk_at "nolk")
theorem flds_height (r : Rw) : r.flds.lookup ("height" : Str) = none := by
  cases r <;> (show List.lookup _ (putF _ _ _) = none; walk_at "nolk")
theorem me_all_runs (T : Txt K mg a) (r : Rw) : MethE P w K mg base CX0 2 (r.cls a) "runs" (spRuns K a r) := by
  cases r
  · exact (me_Set_runs T _ _).mono (by decide)
  · exact (me_Copy_runs T _ _).mono (by decide)
  · exact (me_Add_runs T _ _ _).mono (by decide)
  · exact (me_Sub_runs T _ _ _).mono (by decide)
  · exact (me_Mul_runs T _ _ _).mono (by decide)
  · exact (me_Less_runs T _ _ _).mono (by decide)
  · exact (me_Grow_runs T _).mono (by decide)
  · exact (me_Shrink_runs T _).mono (by decide)
  · exact (me_Put_runs T _ _).mono (by decide)
  · exact (me_Get_runs T _ _).mono (by decide)
  · exact (me_Jump_runs T _).mono (by decide)
  · exact (me_Branch_runs T _ _).mono (by decide)
  · exact (me_Call_runs T _).mono (by decide)
  · exact (me_Back_runs T _).mono (by decide)
  · exact (me_Drop_runs T _).mono (by decide)
theorem me_all_height (T : Txt K mg a) (r : Rw) : MethE P w K mg base CX0 1 (r.cls a) "height" (spHeight a r) := by
  cases r
  · exact (me_Set_height T _ _).mono (by decide)
  · exact (me_Copy_height T _ _).mono (by decide)
  · exact (me_Add_height T _ _ _).mono (by decide)
  · exact (me_Sub_height T _ _ _).mono (by decide)
  · exact (me_Mul_height T _ _ _).mono (by decide)
  · exact (me_Less_height T _ _ _).mono (by decide)
  · exact (me_Grow_height T _).mono (by decide)
  · exact (me_Shrink_height T _).mono (by decide)
  · exact (me_Put_height T _ _).mono (by decide)
  · exact (me_Get_height T _ _).mono (by decide)
  · exact (me_Jump_height T _).mono (by decide)
  · exact (me_Branch_height T _ _).mono (by decide)
  · exact (me_Call_height T _).mono (by decide)
  · exact (me_Back_height T _).mono (by decide)
  · exact (me_Drop_height T _).mono (by decide)
end
section
variable {P : Program} {w : World} {K : PySem.W.Frag} {mg : Str → Option Value} {base : Heap} {a : Adr}
set_option maxHeartbeats 4000000 in
theorem law_fn {fa : Addr} {fd : FuncData} (T : Txt K mg a) (F : Fun K "law" "law" s_law fa fd) : FnOk P w K mg base CX0 6 fa fd ["_law_script"] (spLaw K) := by
  refine F.ok (k := 5) sc_law (fun vs H Q E h => ?_) (fun cdv A outer s H vs Q E hr h => ?_)
  · obtain ⟨a0, ns, rfl, _⟩ := h
    rfl
  · obtain ⟨a0, ns, rfl, hS, h63, q⟩ := h
    refine ⟨_, (pss_cons (ps_set (i := 1) sc_law.nd rfl (Or.inl rfl) (pe_callE (ok_law_cell_at (K := K) T) (hr.mono (by decide)) pass0 rfl (pa_cons (pv 0) (pa_cons pe_int pa_nil))))
      (pss_cons (ps_set (i := 2) sc_law.nd rfl (Or.inl rfl) (pe_ix (ix_K (K := K) rfl) (pe_lst (pa_cons (pe_op op_mod (pv 1) pe_int) (pa_cons (pe_op (op_plusK (K := K) rfl) pe_int (pe_op op_mod (pe_op op_fdiv (pv 1) pe_int) pe_int)) pa_nil))) (pe_op op_mod (pe_op op_fdiv (pv 1) pe_int) pe_int) (fun _ _ => rfl)))
      (pss_cons (ps_set (i := 3) sc_law.nd rfl (Or.inl rfl) (pe_op op_mod (pe_op op_fdiv (pe_callE (ok_law_cell_at (K := K) T) (hr.mono (by decide)) pass0 rfl (pa_cons (pv 0) (pa_cons pe_int pa_nil))) pe_int) (pe_ix (ix_K (K := K) rfl) (pe_lst (pa_cons pe_int (pa_cons pe_int pa_nil))) (pe_cmpR (op_eqK (K := K) rfl hr.units) (pe_op op_mod (pe_callE (ok_law_cell_at (K := K) T) (hr.mono (by decide)) pass0 rfl (pa_cons (pv 0) (pa_cons pe_int pa_nil))) pe_int) pe_int (nomark _)) (fun _ _ => rfl))))
      (pss_cons (ps_set (i := 4) sc_law.nd rfl (Or.inl rfl) (pe_callE (ok_law_many (K := K) T) (hr.mono (by decide)) pass0 rfl (pa_cons (pe_callE (ok_law_cell_at (K := K) T) (hr.mono (by decide)) pass0 rfl (pa_cons (pv 0) (pa_cons pe_int pa_nil))) (pa_cons (pv 3) pa_nil))))
      (pss_cons (ps_set (i := 5) sc_law.nd rfl (Or.inl rfl) (pe_callE (ok_law_row (K := K) T) (hr.mono (by decide)) pass0 rfl (pa_cons (pv 2) (pa_cons (pe_callE (ok_law_cell_at (K := K) T) (hr.mono (by decide)) pass0 rfl (pa_cons (pv 0) (pa_cons pe_int pa_nil))) (pa_cons (pv 4) pa_nil)))))
      (pss_cons (ps_set (i := 6) sc_law.nd rfl (Or.inl rfl) (pe_callE (ok_law_due (K := K) T) (hr.mono (by decide)) pass0 rfl (pa_cons (pv 2) (pa_cons (pv 4) (pa_cons (pv 3) pa_nil)))))
      (pss_cons (ps_set (i := 7) sc_law.nd rfl (Or.inl rfl) (pe_methK (P := P) (w := w) (K := K) (mg := mg) (base := base) (k := 1) ⟨rfl, rfl, rfl, rfl, rfl⟩ (pv 5) (hr.mono (by decide)) pass0 (pa_cons (pv 3) pa_nil)))
      (pss_cons (ps_if (pt_cmpR op_isNA (pv 6) pe_non (nomark _)) (pss_one (ps_ret (pe_and (pe_cmpR op_isNA (pv 7) pe_non (nomark _)) (pe_one (pe_or (pe_cmpR (op_eqK (K := K) rfl hr.units) (pv 2) pe_int (nomark _)) (pe_one (pe_cmpR op_isNA (pe_methK (P := P) (w := w) (K := K) (mg := mg) (base := base) (k := 2) ⟨rfl, rfl, rfl, rfl, rfl⟩ (pv 5) (hr.mono (by decide)) pass0 (pa_cons pe_int (pa_cons (pe_op op_times (pe_lst (pa_cons pe_int pa_nil)) pe_int) (pa_cons (pe_op op_times (pe_lst (pa_cons pe_int pa_nil)) (pv 3)) pa_nil)))) pe_non (nomark _)))))))) pss_nil)
      (pss_cons (ps_if (PW.pt (pw_or (pt_not (pt_truK (K := K) rfl (pe_callE (ok_law_whole (K := K) T) (hr.mono (by decide)) pass0 rfl (pa_cons (pv 7) pa_nil)))) (pw_or1 (pt_cmpR (op_neK (K := K) rfl hr.units) (pv 7) (pv 6) (nomark _))))) (pss_one (ps_ret pe_bl)) pss_nil)
      (pss_cons (ps_set (i := 8) sc_law.nd rfl (Or.inl rfl) (pe_callB (call_minA rfl) rfl T.z_min b_min (pa_cons pe_int (pa_cons (pe_op (op_plusK (K := K) rfl) (pv 3) (pe_op op_mod (pe_callE (ok_law_cell_at (K := K) T) (hr.mono (by decide)) pass0 rfl (pa_cons (pv 0) (pa_cons pe_int pa_nil))) pe_int)) pa_nil))))
      (pss_cons (ps_set (i := 9) sc_law.nd rfl (Or.inl rfl) (pe_methK (P := P) (w := w) (K := K) (mg := mg) (base := base) (k := 2) ⟨rfl, rfl, rfl, rfl, rfl⟩ (pv 5) (hr.mono (by decide)) pass0 (pa_cons pe_int (pa_cons (pe_op op_times (pe_lst (pa_cons pe_int pa_nil)) pe_int) (pa_cons (pe_op op_times (pe_lst (pa_cons pe_int pa_nil)) (pv 8)) pa_nil)))))
      (pss_cons (ps_if (PW.pt (pw_or (pt_cmpR (op_eqK (K := K) rfl hr.units) (pv 2) pe_int (nomark _)) (pw_or1 (PW.pt (pw_and (pt_cmpR (op_eqK (K := K) rfl hr.units) (pv 2) pe_int (nomark _)) (pw_and1 (pt_cmpR op_gt (pe_op (op_plusK (K := K) rfl) (pv 8) (pv 4)) pe_int (nomark _)))))))) (pss_one (ps_ret (pe_cmpR op_isNA (pv 9) pe_non (nomark _)))) pss_nil)
      (pss_one (ps_ret (pe_and (pe_cmpR op_notNA (pv 9) pe_non (nomark _)) (pe_one (pe_cmpR (op_eqK (K := K) rfl hr.units) (pe_op op_sub (pe_callB (call_lenK (K := K) rfl) rfl T.z_len b_len (pa_cons (pe_ix (ix_K (K := K) rfl) (pv 9) pe_int (fun _ _ => rfl)) pa_nil)) (pv 8)) (pe_op op_sub (pv 6) (pv 3)) (nomark _)))))))))))))))))), ?_⟩
    refine r_st (σ' := [some _, none, none, none, none, none, none, none, none, none]) rfl ?_
    walk_at "rd"
    refine r_ixL (SqL.of upd_same) (at2 _ _ _) ?_
    walk_at "rd"
    refine r_ixDj (SqL.of upd_same) ?_
    refine r_I (show (0 : Int) < _ from by split <;> decide) ?_
    walk_at "rd"
    have hk : ∀ x : Int, 0 ≤ (if x / 60 % 2 = 0 then x % 15 else 11 + x / 15 % 4) ∧ (if x / 60 % 2 = 0 then x % 15 else 11 + x / 15 % 4) ≤ 14 := fun x => by split <;> omega
    have hk0 := hk (cellAt ns 0)
    generalize (if cellAt ns 0 / 60 % 2 = 0 then cellAt ns 0 % 15 else 11 + cellAt ns 0 / 15 % 4) = k at hk0 ⊢
    have hh : ∀ x y : Int, 0 ≤ x % (if y % 8 = 3 then (4001 : Int) else 21) ∧ x % (if y % 8 = 3 then (4001 : Int) else 21) ≤ 4000 := fun x y => by split <;> omega
    have hh0 := hh (cellAt ns 1 / 8) (cellAt ns 1)
    generalize (cellAt ns 1 / 8 % if cellAt ns 1 % 8 = 3 then (4001 : Int) else 21) = n at hh0 ⊢
    clear hh hk
    refine ⟨_, _, rfl, hh0.1, hh0.2, fun m H5 s5 m1 => ?_⟩
    walk_at "rd"
    refine ⟨_, _, _, rfl, m1, fun pr H6 s6 n6 hr => ?_⟩
    obtain ⟨dx, hrow⟩ := id hr
    walk_at "rd"
    refine ⟨_, _, _, rfl, fun H7 s7 => ?_⟩
    generalize cellAt ns 3 = c at *
    walk_at "rd"
    refine r_methV (by walk_at "hlk") (flds_height _) ((me_all_height T _).mono (by decide)) ?_
    walk_at "rd"
    refine ⟨pr, _, rfl, ⟨dx, by walk_at "hlk"⟩, ?_⟩
    rw [height_rowOf]
    cases hd : dueOf k m n with
    | none =>
      rw [show optV none = V.non from rfl]
      walk_at "rd"
      walk_at "cs"
      · walk_at "rd"
        exact q _
      walk_at "rd"
      refine r_methV (by walk_at "hlk") (flds_runs _) ((me_all_runs T _).mono (by decide)) ?_
      walk_at "rd"
      refine ⟨pr, _, _, _, _, _, rfl, ⟨dx, by walk_at "hlk"⟩, rowOf_ok m1, by walk_at "sql", by rw [List.length_replicate]; rfl, fun v hv => by rw [List.eq_of_mem_replicate hv]; exact ⟨by decide, by decide⟩, by walk_at "sql", by rw [List.length_replicate]; omega, ?_⟩
      rw [run_due hh (by rw [List.length_replicate]; omega) hd]
      intro H9 s9
      walk_at "rd"
      exact q _
    | some d =>
      rw [show optV (some d) = V.int d from rfl]
      walk_at "rd"
      have hz : ∀ x : Int, 0 ≤ x → n ≤ (if n + x < 4000 then n + x else 4000) ∧ (if n + x < 4000 then n + x else 4000) ≤ 4000 := fun x hx => by split <;> omega
      have hz0 := hz (cellAt ns 4 % 4) (by omega)
      generalize (if n + cellAt ns 4 % 4 < 4000 then n + cellAt ns 4 % 4 else 4000) = sz at hz0 ⊢
      clear hz
      walk_at "rd"
      refine r_methV (by walk_at "hlk") (flds_runs _) ((me_all_runs T _).mono (by decide)) ?_
      walk_at "rd"
      refine ⟨pr, _, _, _, _, _, rfl, ⟨dx, by walk_at "hlk"⟩, rowOf_ok m1, by walk_at "sql", by rw [List.length_replicate]; rfl, fun v hv => by rw [List.eq_of_mem_replicate hv]; exact ⟨by decide, by decide⟩, by walk_at "sql", by rw [List.length_replicate]; omega, ?_⟩
      cases hrun : (rowOf k c m).run 5 (List.replicate (Int.toNat 8) 1) (List.replicate sz.toNat 2) with
      | none =>
        have hx := run_none hk0.2 (by rw [List.length_replicate]; omega) hd hrun
        rw [List.length_replicate] at hx
        intro H9 s9
        walk_at "rds"
        all_goals first | exact q _ | (exfalso; omega)
      | some r =>
        obtain ⟨n', bs', pl'⟩ := r
        have hx := run_some m1.1 (by rw [List.length_replicate]; omega) hd hrun
        rw [List.length_replicate] at hx
        intro t b p H9 s9 nt nb np ntb ntp nbp ht hb hp
        walk_at "rds"
        all_goals first | exact q _ | (exfalso; omega) | skip
        all_goals
          have e : (pl'.length : Int) - sz = d - n := by omega
          rw [e]
          rw [show decide (V.int (d - n) = V.int (d - n)) = true from by simp]
          exact q _
end
set_option maxHeartbeats 8000000 in
theorem txt_mk {K : PySem.W.Frag} {h : Heap} {mg : Str → Option Value} {fa : Addr} (X : K.In h) (G : h.Ns mainGlobals mg) (hfa : mg "law" = some (.ref fa))
    {t_LINK : Tok}
    {t_TOP_BOX : Tok}
    {t_TOP_CELLS : Tok}
    {t_TOP_TARGET : Tok}
    {t_TOP_VALUE : Tok}
    {t_VALUES : Tok}
    {C_Add : Addr}
    {C_Back : Addr}
    {C_Branch : Addr}
    {C_Call : Addr}
    {C_Copy : Addr}
    {C_Drop : Addr}
    {C_Get : Addr}
    {C_Grow : Addr}
    {C_Jump : Addr}
    {C_Less : Addr}
    {C_Mul : Addr}
    {C_NoRow : Addr}
    {C_Put : Addr}
    {C_Set : Addr}
    {C_Shrink : Addr}
    {C_Sub : Addr}
    {f1 : Addr} {od1 an1 : Option Addr} {sl1 : Array (Option Value)} {oc1 kV1 dc1 pm1 cd1 ct1 : Value}
    {f2 : Addr} {od2 an2 : Option Addr} {sl2 : Array (Option Value)} {oc2 kV2 dc2 pm2 cd2 ct2 : Value}
    {f3 : Addr} {od3 an3 : Option Addr} {sl3 : Array (Option Value)} {oc3 kV3 dc3 pm3 cd3 ct3 : Value}
    {f4 : Addr} {od4 an4 : Option Addr} {sl4 : Array (Option Value)} {oc4 kV4 dc4 pm4 cd4 ct4 : Value}
    {f5 : Addr} {od5 an5 : Option Addr} {sl5 : Array (Option Value)} {oc5 kV5 dc5 pm5 cd5 ct5 : Value}
    {f6 : Addr} {od6 an6 : Option Addr} {sl6 : Array (Option Value)} {oc6 kV6 dc6 pm6 cd6 ct6 : Value}
    {f7 : Addr} {od7 an7 : Option Addr} {sl7 : Array (Option Value)} {oc7 kV7 dc7 pm7 cd7 ct7 : Value}
    {f8 : Addr} {od8 an8 : Option Addr} {sl8 : Array (Option Value)} {oc8 kV8 dc8 pm8 cd8 ct8 : Value}
    {f9 : Addr} {od9 an9 : Option Addr} {sl9 : Array (Option Value)} {oc9 kV9 dc9 pm9 cd9 ct9 : Value}
    {f10 : Addr} {od10 an10 : Option Addr} {sl10 : Array (Option Value)} {oc10 kV10 dc10 pm10 cd10 ct10 : Value}
    {f11 : Addr} {od11 an11 : Option Addr} {sl11 : Array (Option Value)} {oc11 kV11 dc11 pm11 cd11 ct11 : Value}
    {f12 : Addr} {od12 an12 : Option Addr} {sl12 : Array (Option Value)} {oc12 kV12 dc12 pm12 cd12 ct12 : Value}
    {f13 : Addr} {od13 an13 : Option Addr} {sl13 : Array (Option Value)} {oc13 kV13 dc13 pm13 cd13 ct13 : Value}
    {f14 : Addr} {od14 an14 : Option Addr} {sl14 : Array (Option Value)} {oc14 kV14 dc14 pm14 cd14 ct14 : Value}
    {f15 : Addr} {od15 an15 : Option Addr} {sl15 : Array (Option Value)} {oc15 kV15 dc15 pm15 cd15 ct15 : Value}
    {f16 : Addr} {od16 an16 : Option Addr} {sl16 : Array (Option Value)} {oc16 kV16 dc16 pm16 cd16 ct16 : Value}
    {f17 : Addr} {od17 an17 : Option Addr} {sl17 : Array (Option Value)} {oc17 kV17 dc17 pm17 cd17 ct17 : Value}
    {f18 : Addr} {od18 an18 : Option Addr} {sl18 : Array (Option Value)} {oc18 kV18 dc18 pm18 cd18 ct18 : Value}
    {f19 : Addr} {od19 an19 : Option Addr} {sl19 : Array (Option Value)} {oc19 kV19 dc19 pm19 cd19 ct19 : Value}
    {f20 : Addr} {od20 an20 : Option Addr} {sl20 : Array (Option Value)} {oc20 kV20 dc20 pm20 cd20 ct20 : Value}
    {f21 : Addr} {od21 an21 : Option Addr} {sl21 : Array (Option Value)} {oc21 kV21 dc21 pm21 cd21 ct21 : Value}
    {f22 : Addr} {od22 an22 : Option Addr} {sl22 : Array (Option Value)} {oc22 kV22 dc22 pm22 cd22 ct22 : Value}
    {f23 : Addr} {od23 an23 : Option Addr} {sl23 : Array (Option Value)} {oc23 kV23 dc23 pm23 cd23 ct23 : Value}
    {f24 : Addr} {od24 an24 : Option Addr} {sl24 : Array (Option Value)} {oc24 kV24 dc24 pm24 cd24 ct24 : Value}
    {f25 : Addr} {od25 an25 : Option Addr} {sl25 : Array (Option Value)} {oc25 kV25 dc25 pm25 cd25 ct25 : Value}
    {f26 : Addr} {od26 an26 : Option Addr} {sl26 : Array (Option Value)} {oc26 kV26 dc26 pm26 cd26 ct26 : Value}
    {f27 : Addr} {od27 an27 : Option Addr} {sl27 : Array (Option Value)} {oc27 kV27 dc27 pm27 cd27 ct27 : Value}
    {f28 : Addr} {od28 an28 : Option Addr} {sl28 : Array (Option Value)} {oc28 kV28 dc28 pm28 cd28 ct28 : Value}
    {f29 : Addr} {od29 an29 : Option Addr} {sl29 : Array (Option Value)} {oc29 kV29 dc29 pm29 cd29 ct29 : Value}
    {f30 : Addr} {od30 an30 : Option Addr} {sl30 : Array (Option Value)} {oc30 kV30 dc30 pm30 cd30 ct30 : Value}
    {f31 : Addr} {od31 an31 : Option Addr} {sl31 : Array (Option Value)} {oc31 kV31 dc31 pm31 cd31 ct31 : Value}
    {f32 : Addr} {od32 an32 : Option Addr} {sl32 : Array (Option Value)} {oc32 kV32 dc32 pm32 cd32 ct32 : Value}
    {f33 : Addr} {od33 an33 : Option Addr} {sl33 : Array (Option Value)} {oc33 kV33 dc33 pm33 cd33 ct33 : Value}
    {f34 : Addr} {od34 an34 : Option Addr} {sl34 : Array (Option Value)} {oc34 kV34 dc34 pm34 cd34 ct34 : Value}
    {f35 : Addr} {od35 an35 : Option Addr} {sl35 : Array (Option Value)} {oc35 kV35 dc35 pm35 cd35 ct35 : Value}
    {f36 : Addr} {od36 an36 : Option Addr} {sl36 : Array (Option Value)} {oc36 kV36 dc36 pm36 cd36 ct36 : Value}
    {f37 : Addr} {od37 an37 : Option Addr} {sl37 : Array (Option Value)} {oc37 kV37 dc37 pm37 cd37 ct37 : Value}
    {f38 : Addr} {od38 an38 : Option Addr} {sl38 : Array (Option Value)} {oc38 kV38 dc38 pm38 cd38 ct38 : Value}
    {f39 : Addr} {od39 an39 : Option Addr} {sl39 : Array (Option Value)} {oc39 kV39 dc39 pm39 cd39 ct39 : Value}
    {f40 : Addr} {od40 an40 : Option Addr} {sl40 : Array (Option Value)} {oc40 kV40 dc40 pm40 cd40 ct40 : Value}
    {f41 : Addr} {od41 an41 : Option Addr} {sl41 : Array (Option Value)} {oc41 kV41 dc41 pm41 cd41 ct41 : Value}
    {f42 : Addr} {od42 an42 : Option Addr} {sl42 : Array (Option Value)} {oc42 kV42 dc42 pm42 cd42 ct42 : Value}
    {f43 : Addr} {od43 an43 : Option Addr} {sl43 : Array (Option Value)} {oc43 kV43 dc43 pm43 cd43 ct43 : Value}
    {f44 : Addr} {od44 an44 : Option Addr} {sl44 : Array (Option Value)} {oc44 kV44 dc44 pm44 cd44 ct44 : Value}
    {f45 : Addr} {od45 an45 : Option Addr} {sl45 : Array (Option Value)} {oc45 kV45 dc45 pm45 cd45 ct45 : Value}
    {f46 : Addr} {od46 an46 : Option Addr} {sl46 : Array (Option Value)} {oc46 kV46 dc46 pm46 cd46 ct46 : Value}
    {f47 : Addr} {od47 an47 : Option Addr} {sl47 : Array (Option Value)} {oc47 kV47 dc47 pm47 cd47 ct47 : Value}
    {f48 : Addr} {od48 an48 : Option Addr} {sl48 : Array (Option Value)} {oc48 kV48 dc48 pm48 cd48 ct48 : Value}
    {f49 : Addr} {od49 an49 : Option Addr} {sl49 : Array (Option Value)} {oc49 kV49 dc49 pm49 cd49 ct49 : Value}
    {f50 : Addr} {od50 an50 : Option Addr} {sl50 : Array (Option Value)} {oc50 kV50 dc50 pm50 cd50 ct50 : Value}
    {f51 : Addr} {od51 an51 : Option Addr} {sl51 : Array (Option Value)} {oc51 kV51 dc51 pm51 cd51 ct51 : Value}
    {f52 : Addr} {od52 an52 : Option Addr} {sl52 : Array (Option Value)} {oc52 kV52 dc52 pm52 cd52 ct52 : Value}
    {f53 : Addr} {od53 an53 : Option Addr} {sl53 : Array (Option Value)} {oc53 kV53 dc53 pm53 cd53 ct53 : Value}
    {f54 : Addr} {od54 an54 : Option Addr} {sl54 : Array (Option Value)} {oc54 kV54 dc54 pm54 cd54 ct54 : Value}
    {f55 : Addr} {od55 an55 : Option Addr} {sl55 : Array (Option Value)} {oc55 kV55 dc55 pm55 cd55 ct55 : Value}
    (z_bool : PySem.W.nsIn K mainGlobals "bool" = some none)
    (z_int : PySem.W.nsIn K mainGlobals "int" = some none)
    (z_isinstance : PySem.W.nsIn K mainGlobals "isinstance" = some none)
    (z_len : PySem.W.nsIn K mainGlobals "len" = some none)
    (z_list : PySem.W.nsIn K mainGlobals "list" = some none)
    (z_max : PySem.W.nsIn K mainGlobals "max" = some none)
    (z_min : PySem.W.nsIn K mainGlobals "min" = some none)
    (g_LINK : PySem.W.nsIn K mainGlobals "LINK" = some (some (Value.int 7 t_LINK)))
    (g_TOP_BOX : PySem.W.nsIn K mainGlobals "TOP_BOX" = some (some (Value.int 7 t_TOP_BOX)))
    (g_TOP_CELLS : PySem.W.nsIn K mainGlobals "TOP_CELLS" = some (some (Value.int 4000 t_TOP_CELLS)))
    (g_TOP_TARGET : PySem.W.nsIn K mainGlobals "TOP_TARGET" = some (some (Value.int 2000 t_TOP_TARGET)))
    (g_TOP_VALUE : PySem.W.nsIn K mainGlobals "TOP_VALUE" = some (some (Value.int 4294967295 t_TOP_VALUE)))
    (g_VALUES : PySem.W.nsIn K mainGlobals "VALUES" = some (some (Value.int 4294967296 t_VALUES)))
    (c_Add : PySem.W.nsIn K mainGlobals "Add" = some (some (.ref C_Add)))
    (c_Back : PySem.W.nsIn K mainGlobals "Back" = some (some (.ref C_Back)))
    (c_Branch : PySem.W.nsIn K mainGlobals "Branch" = some (some (.ref C_Branch)))
    (c_Call : PySem.W.nsIn K mainGlobals "Call" = some (some (.ref C_Call)))
    (c_Copy : PySem.W.nsIn K mainGlobals "Copy" = some (some (.ref C_Copy)))
    (c_Drop : PySem.W.nsIn K mainGlobals "Drop" = some (some (.ref C_Drop)))
    (c_Get : PySem.W.nsIn K mainGlobals "Get" = some (some (.ref C_Get)))
    (c_Grow : PySem.W.nsIn K mainGlobals "Grow" = some (some (.ref C_Grow)))
    (c_Jump : PySem.W.nsIn K mainGlobals "Jump" = some (some (.ref C_Jump)))
    (c_Less : PySem.W.nsIn K mainGlobals "Less" = some (some (.ref C_Less)))
    (c_Mul : PySem.W.nsIn K mainGlobals "Mul" = some (some (.ref C_Mul)))
    (c_NoRow : PySem.W.nsIn K mainGlobals "NoRow" = some (some (.ref C_NoRow)))
    (c_Put : PySem.W.nsIn K mainGlobals "Put" = some (some (.ref C_Put)))
    (c_Set : PySem.W.nsIn K mainGlobals "Set" = some (some (.ref C_Set)))
    (c_Shrink : PySem.W.nsIn K mainGlobals "Shrink" = some (some (.ref C_Shrink)))
    (c_Sub : PySem.W.nsIn K mainGlobals "Sub" = some (some (.ref C_Sub)))
    (pg_Less : PySem.W.plainGet K C_Less Str.empty = true)
    (hd_Less : PySem.W.hasDictIn K C_Less = true)
    (po_Less : PySem.W.plainOver K C_Less = true)
    (sa_Less : PySem.W.findIn K (.ref C_Less) "__setattr__" = some (some (.builtin "object.__setattr__")))
    (mk_Less : PySem.W.makesIn K C_Less = true)
    (kc_Less : PySem.W.keepIn K (.ref C_Less) = true)
    (n_Less_box : PySem.W.findIn K (.ref C_Less) "box" = some none)
    (n_Less_one : PySem.W.findIn K (.ref C_Less) "one" = some none)
    (n_Less_other : PySem.W.findIn K (.ref C_Less) "other" = some none)
    (a1 : PySem.W.findIn K (.ref C_Less) "__init__" = some (some (.ref f1)))
    (i1 : PySem.W.isFn K (.ref f1) = true)
    (l1 : K.lookup f1 = some ⟨oc1, od1, .func (PySem.W.fnOf "__init__" "Reckoning.__init__" (defArgs s_Reckoning_init) (defBody s_Reckoning_init) (defScope s_Reckoning_init) .none kV1 dc1 pm1 an1 cd1 ct1), sl1⟩)
    (c1 : PySem.W.codeIn K cd1 "Reckoning.__init__" = true) (k1 : PySem.W.keepIn K (.ref f1) = true)
    (a2 : PySem.W.findIn K (.ref C_Less) "height" = some (some (.ref f2)))
    (i2 : PySem.W.isFn K (.ref f2) = true)
    (l2 : K.lookup f2 = some ⟨oc2, od2, .func (PySem.W.fnOf "height" "Row.height" (defArgs s_Row_height) (defBody s_Row_height) (defScope s_Row_height) .none kV2 dc2 pm2 an2 cd2 ct2), sl2⟩)
    (c2 : PySem.W.codeIn K cd2 "Row.height" = true) (k2 : PySem.W.keepIn K (.ref f2) = true)
    (a3 : PySem.W.findIn K (.ref C_Less) "runs" = some (some (.ref f3)))
    (i3 : PySem.W.isFn K (.ref f3) = true)
    (l3 : K.lookup f3 = some ⟨oc3, od3, .func (PySem.W.fnOf "runs" "Less.runs" (defArgs s_Less_runs) (defBody s_Less_runs) (defScope s_Less_runs) .none kV3 dc3 pm3 an3 cd3 ct3), sl3⟩)
    (c3 : PySem.W.codeIn K cd3 "Less.runs" = true) (k3 : PySem.W.keepIn K (.ref f3) = true)
    (pg_Set : PySem.W.plainGet K C_Set Str.empty = true)
    (hd_Set : PySem.W.hasDictIn K C_Set = true)
    (po_Set : PySem.W.plainOver K C_Set = true)
    (sa_Set : PySem.W.findIn K (.ref C_Set) "__setattr__" = some (some (.builtin "object.__setattr__")))
    (mk_Set : PySem.W.makesIn K C_Set = true)
    (kc_Set : PySem.W.keepIn K (.ref C_Set) = true)
    (n_Set_box : PySem.W.findIn K (.ref C_Set) "box" = some none)
    (n_Set_number : PySem.W.findIn K (.ref C_Set) "number" = some none)
    (a4 : PySem.W.findIn K (.ref C_Set) "__init__" = some (some (.ref f4)))
    (i4 : PySem.W.isFn K (.ref f4) = true)
    (l4 : K.lookup f4 = some ⟨oc4, od4, .func (PySem.W.fnOf "__init__" "Set.__init__" (defArgs s_Set_init) (defBody s_Set_init) (defScope s_Set_init) .none kV4 dc4 pm4 an4 cd4 ct4), sl4⟩)
    (c4 : PySem.W.codeIn K cd4 "Set.__init__" = true) (k4 : PySem.W.keepIn K (.ref f4) = true)
    (a5 : PySem.W.findIn K (.ref C_Set) "height" = some (some (.ref f5)))
    (i5 : PySem.W.isFn K (.ref f5) = true)
    (l5 : K.lookup f5 = some ⟨oc5, od5, .func (PySem.W.fnOf "height" "Row.height" (defArgs s_Row_height) (defBody s_Row_height) (defScope s_Row_height) .none kV5 dc5 pm5 an5 cd5 ct5), sl5⟩)
    (c5 : PySem.W.codeIn K cd5 "Row.height" = true) (k5 : PySem.W.keepIn K (.ref f5) = true)
    (a6 : PySem.W.findIn K (.ref C_Set) "runs" = some (some (.ref f6)))
    (i6 : PySem.W.isFn K (.ref f6) = true)
    (l6 : K.lookup f6 = some ⟨oc6, od6, .func (PySem.W.fnOf "runs" "Set.runs" (defArgs s_Set_runs) (defBody s_Set_runs) (defScope s_Set_runs) .none kV6 dc6 pm6 an6 cd6 ct6), sl6⟩)
    (c6 : PySem.W.codeIn K cd6 "Set.runs" = true) (k6 : PySem.W.keepIn K (.ref f6) = true)
    (pg_Copy : PySem.W.plainGet K C_Copy Str.empty = true)
    (hd_Copy : PySem.W.hasDictIn K C_Copy = true)
    (po_Copy : PySem.W.plainOver K C_Copy = true)
    (sa_Copy : PySem.W.findIn K (.ref C_Copy) "__setattr__" = some (some (.builtin "object.__setattr__")))
    (mk_Copy : PySem.W.makesIn K C_Copy = true)
    (kc_Copy : PySem.W.keepIn K (.ref C_Copy) = true)
    (n_Copy_box : PySem.W.findIn K (.ref C_Copy) "box" = some none)
    (n_Copy_one : PySem.W.findIn K (.ref C_Copy) "one" = some none)
    (a7 : PySem.W.findIn K (.ref C_Copy) "__init__" = some (some (.ref f7)))
    (i7 : PySem.W.isFn K (.ref f7) = true)
    (l7 : K.lookup f7 = some ⟨oc7, od7, .func (PySem.W.fnOf "__init__" "Copy.__init__" (defArgs s_Copy_init) (defBody s_Copy_init) (defScope s_Copy_init) .none kV7 dc7 pm7 an7 cd7 ct7), sl7⟩)
    (c7 : PySem.W.codeIn K cd7 "Copy.__init__" = true) (k7 : PySem.W.keepIn K (.ref f7) = true)
    (a8 : PySem.W.findIn K (.ref C_Copy) "height" = some (some (.ref f8)))
    (i8 : PySem.W.isFn K (.ref f8) = true)
    (l8 : K.lookup f8 = some ⟨oc8, od8, .func (PySem.W.fnOf "height" "Row.height" (defArgs s_Row_height) (defBody s_Row_height) (defScope s_Row_height) .none kV8 dc8 pm8 an8 cd8 ct8), sl8⟩)
    (c8 : PySem.W.codeIn K cd8 "Row.height" = true) (k8 : PySem.W.keepIn K (.ref f8) = true)
    (a9 : PySem.W.findIn K (.ref C_Copy) "runs" = some (some (.ref f9)))
    (i9 : PySem.W.isFn K (.ref f9) = true)
    (l9 : K.lookup f9 = some ⟨oc9, od9, .func (PySem.W.fnOf "runs" "Copy.runs" (defArgs s_Copy_runs) (defBody s_Copy_runs) (defScope s_Copy_runs) .none kV9 dc9 pm9 an9 cd9 ct9), sl9⟩)
    (c9 : PySem.W.codeIn K cd9 "Copy.runs" = true) (k9 : PySem.W.keepIn K (.ref f9) = true)
    (pg_Add : PySem.W.plainGet K C_Add Str.empty = true)
    (hd_Add : PySem.W.hasDictIn K C_Add = true)
    (po_Add : PySem.W.plainOver K C_Add = true)
    (sa_Add : PySem.W.findIn K (.ref C_Add) "__setattr__" = some (some (.builtin "object.__setattr__")))
    (mk_Add : PySem.W.makesIn K C_Add = true)
    (kc_Add : PySem.W.keepIn K (.ref C_Add) = true)
    (n_Add_box : PySem.W.findIn K (.ref C_Add) "box" = some none)
    (n_Add_one : PySem.W.findIn K (.ref C_Add) "one" = some none)
    (n_Add_other : PySem.W.findIn K (.ref C_Add) "other" = some none)
    (a10 : PySem.W.findIn K (.ref C_Add) "__init__" = some (some (.ref f10)))
    (i10 : PySem.W.isFn K (.ref f10) = true)
    (l10 : K.lookup f10 = some ⟨oc10, od10, .func (PySem.W.fnOf "__init__" "Reckoning.__init__" (defArgs s_Reckoning_init) (defBody s_Reckoning_init) (defScope s_Reckoning_init) .none kV10 dc10 pm10 an10 cd10 ct10), sl10⟩)
    (c10 : PySem.W.codeIn K cd10 "Reckoning.__init__" = true) (k10 : PySem.W.keepIn K (.ref f10) = true)
    (a11 : PySem.W.findIn K (.ref C_Add) "height" = some (some (.ref f11)))
    (i11 : PySem.W.isFn K (.ref f11) = true)
    (l11 : K.lookup f11 = some ⟨oc11, od11, .func (PySem.W.fnOf "height" "Row.height" (defArgs s_Row_height) (defBody s_Row_height) (defScope s_Row_height) .none kV11 dc11 pm11 an11 cd11 ct11), sl11⟩)
    (c11 : PySem.W.codeIn K cd11 "Row.height" = true) (k11 : PySem.W.keepIn K (.ref f11) = true)
    (a12 : PySem.W.findIn K (.ref C_Add) "runs" = some (some (.ref f12)))
    (i12 : PySem.W.isFn K (.ref f12) = true)
    (l12 : K.lookup f12 = some ⟨oc12, od12, .func (PySem.W.fnOf "runs" "Add.runs" (defArgs s_Add_runs) (defBody s_Add_runs) (defScope s_Add_runs) .none kV12 dc12 pm12 an12 cd12 ct12), sl12⟩)
    (c12 : PySem.W.codeIn K cd12 "Add.runs" = true) (k12 : PySem.W.keepIn K (.ref f12) = true)
    (pg_Sub : PySem.W.plainGet K C_Sub Str.empty = true)
    (hd_Sub : PySem.W.hasDictIn K C_Sub = true)
    (po_Sub : PySem.W.plainOver K C_Sub = true)
    (sa_Sub : PySem.W.findIn K (.ref C_Sub) "__setattr__" = some (some (.builtin "object.__setattr__")))
    (mk_Sub : PySem.W.makesIn K C_Sub = true)
    (kc_Sub : PySem.W.keepIn K (.ref C_Sub) = true)
    (n_Sub_box : PySem.W.findIn K (.ref C_Sub) "box" = some none)
    (n_Sub_one : PySem.W.findIn K (.ref C_Sub) "one" = some none)
    (n_Sub_other : PySem.W.findIn K (.ref C_Sub) "other" = some none)
    (a13 : PySem.W.findIn K (.ref C_Sub) "__init__" = some (some (.ref f13)))
    (i13 : PySem.W.isFn K (.ref f13) = true)
    (l13 : K.lookup f13 = some ⟨oc13, od13, .func (PySem.W.fnOf "__init__" "Reckoning.__init__" (defArgs s_Reckoning_init) (defBody s_Reckoning_init) (defScope s_Reckoning_init) .none kV13 dc13 pm13 an13 cd13 ct13), sl13⟩)
    (c13 : PySem.W.codeIn K cd13 "Reckoning.__init__" = true) (k13 : PySem.W.keepIn K (.ref f13) = true)
    (a14 : PySem.W.findIn K (.ref C_Sub) "height" = some (some (.ref f14)))
    (i14 : PySem.W.isFn K (.ref f14) = true)
    (l14 : K.lookup f14 = some ⟨oc14, od14, .func (PySem.W.fnOf "height" "Row.height" (defArgs s_Row_height) (defBody s_Row_height) (defScope s_Row_height) .none kV14 dc14 pm14 an14 cd14 ct14), sl14⟩)
    (c14 : PySem.W.codeIn K cd14 "Row.height" = true) (k14 : PySem.W.keepIn K (.ref f14) = true)
    (a15 : PySem.W.findIn K (.ref C_Sub) "runs" = some (some (.ref f15)))
    (i15 : PySem.W.isFn K (.ref f15) = true)
    (l15 : K.lookup f15 = some ⟨oc15, od15, .func (PySem.W.fnOf "runs" "Sub.runs" (defArgs s_Sub_runs) (defBody s_Sub_runs) (defScope s_Sub_runs) .none kV15 dc15 pm15 an15 cd15 ct15), sl15⟩)
    (c15 : PySem.W.codeIn K cd15 "Sub.runs" = true) (k15 : PySem.W.keepIn K (.ref f15) = true)
    (pg_Mul : PySem.W.plainGet K C_Mul Str.empty = true)
    (hd_Mul : PySem.W.hasDictIn K C_Mul = true)
    (po_Mul : PySem.W.plainOver K C_Mul = true)
    (sa_Mul : PySem.W.findIn K (.ref C_Mul) "__setattr__" = some (some (.builtin "object.__setattr__")))
    (mk_Mul : PySem.W.makesIn K C_Mul = true)
    (kc_Mul : PySem.W.keepIn K (.ref C_Mul) = true)
    (n_Mul_box : PySem.W.findIn K (.ref C_Mul) "box" = some none)
    (n_Mul_one : PySem.W.findIn K (.ref C_Mul) "one" = some none)
    (n_Mul_other : PySem.W.findIn K (.ref C_Mul) "other" = some none)
    (a16 : PySem.W.findIn K (.ref C_Mul) "__init__" = some (some (.ref f16)))
    (i16 : PySem.W.isFn K (.ref f16) = true)
    (l16 : K.lookup f16 = some ⟨oc16, od16, .func (PySem.W.fnOf "__init__" "Reckoning.__init__" (defArgs s_Reckoning_init) (defBody s_Reckoning_init) (defScope s_Reckoning_init) .none kV16 dc16 pm16 an16 cd16 ct16), sl16⟩)
    (c16 : PySem.W.codeIn K cd16 "Reckoning.__init__" = true) (k16 : PySem.W.keepIn K (.ref f16) = true)
    (a17 : PySem.W.findIn K (.ref C_Mul) "height" = some (some (.ref f17)))
    (i17 : PySem.W.isFn K (.ref f17) = true)
    (l17 : K.lookup f17 = some ⟨oc17, od17, .func (PySem.W.fnOf "height" "Row.height" (defArgs s_Row_height) (defBody s_Row_height) (defScope s_Row_height) .none kV17 dc17 pm17 an17 cd17 ct17), sl17⟩)
    (c17 : PySem.W.codeIn K cd17 "Row.height" = true) (k17 : PySem.W.keepIn K (.ref f17) = true)
    (a18 : PySem.W.findIn K (.ref C_Mul) "runs" = some (some (.ref f18)))
    (i18 : PySem.W.isFn K (.ref f18) = true)
    (l18 : K.lookup f18 = some ⟨oc18, od18, .func (PySem.W.fnOf "runs" "Mul.runs" (defArgs s_Mul_runs) (defBody s_Mul_runs) (defScope s_Mul_runs) .none kV18 dc18 pm18 an18 cd18 ct18), sl18⟩)
    (c18 : PySem.W.codeIn K cd18 "Mul.runs" = true) (k18 : PySem.W.keepIn K (.ref f18) = true)
    (pg_Drop : PySem.W.plainGet K C_Drop Str.empty = true)
    (hd_Drop : PySem.W.hasDictIn K C_Drop = true)
    (po_Drop : PySem.W.plainOver K C_Drop = true)
    (sa_Drop : PySem.W.findIn K (.ref C_Drop) "__setattr__" = some (some (.builtin "object.__setattr__")))
    (mk_Drop : PySem.W.makesIn K C_Drop = true)
    (kc_Drop : PySem.W.keepIn K (.ref C_Drop) = true)
    (n_Drop_box : PySem.W.findIn K (.ref C_Drop) "box" = some none)
    (a19 : PySem.W.findIn K (.ref C_Drop) "__init__" = some (some (.ref f19)))
    (i19 : PySem.W.isFn K (.ref f19) = true)
    (l19 : K.lookup f19 = some ⟨oc19, od19, .func (PySem.W.fnOf "__init__" "Drop.__init__" (defArgs s_Drop_init) (defBody s_Drop_init) (defScope s_Drop_init) .none kV19 dc19 pm19 an19 cd19 ct19), sl19⟩)
    (c19 : PySem.W.codeIn K cd19 "Drop.__init__" = true) (k19 : PySem.W.keepIn K (.ref f19) = true)
    (a20 : PySem.W.findIn K (.ref C_Drop) "height" = some (some (.ref f20)))
    (i20 : PySem.W.isFn K (.ref f20) = true)
    (l20 : K.lookup f20 = some ⟨oc20, od20, .func (PySem.W.fnOf "height" "Row.height" (defArgs s_Row_height) (defBody s_Row_height) (defScope s_Row_height) .none kV20 dc20 pm20 an20 cd20 ct20), sl20⟩)
    (c20 : PySem.W.codeIn K cd20 "Row.height" = true) (k20 : PySem.W.keepIn K (.ref f20) = true)
    (a21 : PySem.W.findIn K (.ref C_Drop) "runs" = some (some (.ref f21)))
    (i21 : PySem.W.isFn K (.ref f21) = true)
    (l21 : K.lookup f21 = some ⟨oc21, od21, .func (PySem.W.fnOf "runs" "Drop.runs" (defArgs s_Drop_runs) (defBody s_Drop_runs) (defScope s_Drop_runs) .none kV21 dc21 pm21 an21 cd21 ct21), sl21⟩)
    (c21 : PySem.W.codeIn K cd21 "Drop.runs" = true) (k21 : PySem.W.keepIn K (.ref f21) = true)
    (pg_Jump : PySem.W.plainGet K C_Jump Str.empty = true)
    (hd_Jump : PySem.W.hasDictIn K C_Jump = true)
    (po_Jump : PySem.W.plainOver K C_Jump = true)
    (sa_Jump : PySem.W.findIn K (.ref C_Jump) "__setattr__" = some (some (.builtin "object.__setattr__")))
    (mk_Jump : PySem.W.makesIn K C_Jump = true)
    (kc_Jump : PySem.W.keepIn K (.ref C_Jump) = true)
    (n_Jump_target : PySem.W.findIn K (.ref C_Jump) "target" = some none)
    (a22 : PySem.W.findIn K (.ref C_Jump) "__init__" = some (some (.ref f22)))
    (i22 : PySem.W.isFn K (.ref f22) = true)
    (l22 : K.lookup f22 = some ⟨oc22, od22, .func (PySem.W.fnOf "__init__" "Jump.__init__" (defArgs s_Jump_init) (defBody s_Jump_init) (defScope s_Jump_init) .none kV22 dc22 pm22 an22 cd22 ct22), sl22⟩)
    (c22 : PySem.W.codeIn K cd22 "Jump.__init__" = true) (k22 : PySem.W.keepIn K (.ref f22) = true)
    (a23 : PySem.W.findIn K (.ref C_Jump) "height" = some (some (.ref f23)))
    (i23 : PySem.W.isFn K (.ref f23) = true)
    (l23 : K.lookup f23 = some ⟨oc23, od23, .func (PySem.W.fnOf "height" "Row.height" (defArgs s_Row_height) (defBody s_Row_height) (defScope s_Row_height) .none kV23 dc23 pm23 an23 cd23 ct23), sl23⟩)
    (c23 : PySem.W.codeIn K cd23 "Row.height" = true) (k23 : PySem.W.keepIn K (.ref f23) = true)
    (a24 : PySem.W.findIn K (.ref C_Jump) "runs" = some (some (.ref f24)))
    (i24 : PySem.W.isFn K (.ref f24) = true)
    (l24 : K.lookup f24 = some ⟨oc24, od24, .func (PySem.W.fnOf "runs" "Jump.runs" (defArgs s_Jump_runs) (defBody s_Jump_runs) (defScope s_Jump_runs) .none kV24 dc24 pm24 an24 cd24 ct24), sl24⟩)
    (c24 : PySem.W.codeIn K cd24 "Jump.runs" = true) (k24 : PySem.W.keepIn K (.ref f24) = true)
    (pg_Branch : PySem.W.plainGet K C_Branch Str.empty = true)
    (hd_Branch : PySem.W.hasDictIn K C_Branch = true)
    (po_Branch : PySem.W.plainOver K C_Branch = true)
    (sa_Branch : PySem.W.findIn K (.ref C_Branch) "__setattr__" = some (some (.builtin "object.__setattr__")))
    (mk_Branch : PySem.W.makesIn K C_Branch = true)
    (kc_Branch : PySem.W.keepIn K (.ref C_Branch) = true)
    (n_Branch_box : PySem.W.findIn K (.ref C_Branch) "box" = some none)
    (n_Branch_target : PySem.W.findIn K (.ref C_Branch) "target" = some none)
    (a25 : PySem.W.findIn K (.ref C_Branch) "__init__" = some (some (.ref f25)))
    (i25 : PySem.W.isFn K (.ref f25) = true)
    (l25 : K.lookup f25 = some ⟨oc25, od25, .func (PySem.W.fnOf "__init__" "Branch.__init__" (defArgs s_Branch_init) (defBody s_Branch_init) (defScope s_Branch_init) .none kV25 dc25 pm25 an25 cd25 ct25), sl25⟩)
    (c25 : PySem.W.codeIn K cd25 "Branch.__init__" = true) (k25 : PySem.W.keepIn K (.ref f25) = true)
    (a26 : PySem.W.findIn K (.ref C_Branch) "height" = some (some (.ref f26)))
    (i26 : PySem.W.isFn K (.ref f26) = true)
    (l26 : K.lookup f26 = some ⟨oc26, od26, .func (PySem.W.fnOf "height" "Row.height" (defArgs s_Row_height) (defBody s_Row_height) (defScope s_Row_height) .none kV26 dc26 pm26 an26 cd26 ct26), sl26⟩)
    (c26 : PySem.W.codeIn K cd26 "Row.height" = true) (k26 : PySem.W.keepIn K (.ref f26) = true)
    (a27 : PySem.W.findIn K (.ref C_Branch) "runs" = some (some (.ref f27)))
    (i27 : PySem.W.isFn K (.ref f27) = true)
    (l27 : K.lookup f27 = some ⟨oc27, od27, .func (PySem.W.fnOf "runs" "Branch.runs" (defArgs s_Branch_runs) (defBody s_Branch_runs) (defScope s_Branch_runs) .none kV27 dc27 pm27 an27 cd27 ct27), sl27⟩)
    (c27 : PySem.W.codeIn K cd27 "Branch.runs" = true) (k27 : PySem.W.keepIn K (.ref f27) = true)
    (pg_Call : PySem.W.plainGet K C_Call Str.empty = true)
    (hd_Call : PySem.W.hasDictIn K C_Call = true)
    (po_Call : PySem.W.plainOver K C_Call = true)
    (sa_Call : PySem.W.findIn K (.ref C_Call) "__setattr__" = some (some (.builtin "object.__setattr__")))
    (mk_Call : PySem.W.makesIn K C_Call = true)
    (kc_Call : PySem.W.keepIn K (.ref C_Call) = true)
    (n_Call_target : PySem.W.findIn K (.ref C_Call) "target" = some none)
    (a28 : PySem.W.findIn K (.ref C_Call) "__init__" = some (some (.ref f28)))
    (i28 : PySem.W.isFn K (.ref f28) = true)
    (l28 : K.lookup f28 = some ⟨oc28, od28, .func (PySem.W.fnOf "__init__" "Call.__init__" (defArgs s_Call_init) (defBody s_Call_init) (defScope s_Call_init) .none kV28 dc28 pm28 an28 cd28 ct28), sl28⟩)
    (c28 : PySem.W.codeIn K cd28 "Call.__init__" = true) (k28 : PySem.W.keepIn K (.ref f28) = true)
    (a29 : PySem.W.findIn K (.ref C_Call) "height" = some (some (.ref f29)))
    (i29 : PySem.W.isFn K (.ref f29) = true)
    (l29 : K.lookup f29 = some ⟨oc29, od29, .func (PySem.W.fnOf "height" "Row.height" (defArgs s_Row_height) (defBody s_Row_height) (defScope s_Row_height) .none kV29 dc29 pm29 an29 cd29 ct29), sl29⟩)
    (c29 : PySem.W.codeIn K cd29 "Row.height" = true) (k29 : PySem.W.keepIn K (.ref f29) = true)
    (a30 : PySem.W.findIn K (.ref C_Call) "runs" = some (some (.ref f30)))
    (i30 : PySem.W.isFn K (.ref f30) = true)
    (l30 : K.lookup f30 = some ⟨oc30, od30, .func (PySem.W.fnOf "runs" "Call.runs" (defArgs s_Call_runs) (defBody s_Call_runs) (defScope s_Call_runs) .none kV30 dc30 pm30 an30 cd30 ct30), sl30⟩)
    (c30 : PySem.W.codeIn K cd30 "Call.runs" = true) (k30 : PySem.W.keepIn K (.ref f30) = true)
    (pg_Back : PySem.W.plainGet K C_Back Str.empty = true)
    (hd_Back : PySem.W.hasDictIn K C_Back = true)
    (po_Back : PySem.W.plainOver K C_Back = true)
    (sa_Back : PySem.W.findIn K (.ref C_Back) "__setattr__" = some (some (.builtin "object.__setattr__")))
    (mk_Back : PySem.W.makesIn K C_Back = true)
    (kc_Back : PySem.W.keepIn K (.ref C_Back) = true)
    (n_Back_box : PySem.W.findIn K (.ref C_Back) "box" = some none)
    (a31 : PySem.W.findIn K (.ref C_Back) "__init__" = some (some (.ref f31)))
    (i31 : PySem.W.isFn K (.ref f31) = true)
    (l31 : K.lookup f31 = some ⟨oc31, od31, .func (PySem.W.fnOf "__init__" "Back.__init__" (defArgs s_Back_init) (defBody s_Back_init) (defScope s_Back_init) .none kV31 dc31 pm31 an31 cd31 ct31), sl31⟩)
    (c31 : PySem.W.codeIn K cd31 "Back.__init__" = true) (k31 : PySem.W.keepIn K (.ref f31) = true)
    (a32 : PySem.W.findIn K (.ref C_Back) "height" = some (some (.ref f32)))
    (i32 : PySem.W.isFn K (.ref f32) = true)
    (l32 : K.lookup f32 = some ⟨oc32, od32, .func (PySem.W.fnOf "height" "Row.height" (defArgs s_Row_height) (defBody s_Row_height) (defScope s_Row_height) .none kV32 dc32 pm32 an32 cd32 ct32), sl32⟩)
    (c32 : PySem.W.codeIn K cd32 "Row.height" = true) (k32 : PySem.W.keepIn K (.ref f32) = true)
    (a33 : PySem.W.findIn K (.ref C_Back) "runs" = some (some (.ref f33)))
    (i33 : PySem.W.isFn K (.ref f33) = true)
    (l33 : K.lookup f33 = some ⟨oc33, od33, .func (PySem.W.fnOf "runs" "Back.runs" (defArgs s_Back_runs) (defBody s_Back_runs) (defScope s_Back_runs) .none kV33 dc33 pm33 an33 cd33 ct33), sl33⟩)
    (c33 : PySem.W.codeIn K cd33 "Back.runs" = true) (k33 : PySem.W.keepIn K (.ref f33) = true)
    (pg_Get : PySem.W.plainGet K C_Get Str.empty = true)
    (hd_Get : PySem.W.hasDictIn K C_Get = true)
    (po_Get : PySem.W.plainOver K C_Get = true)
    (sa_Get : PySem.W.findIn K (.ref C_Get) "__setattr__" = some (some (.builtin "object.__setattr__")))
    (mk_Get : PySem.W.makesIn K C_Get = true)
    (kc_Get : PySem.W.keepIn K (.ref C_Get) = true)
    (n_Get_box : PySem.W.findIn K (.ref C_Get) "box" = some none)
    (n_Get_cell : PySem.W.findIn K (.ref C_Get) "cell" = some none)
    (a34 : PySem.W.findIn K (.ref C_Get) "__init__" = some (some (.ref f34)))
    (i34 : PySem.W.isFn K (.ref f34) = true)
    (l34 : K.lookup f34 = some ⟨oc34, od34, .func (PySem.W.fnOf "__init__" "Reaching.__init__" (defArgs s_Reaching_init) (defBody s_Reaching_init) (defScope s_Reaching_init) .none kV34 dc34 pm34 an34 cd34 ct34), sl34⟩)
    (c34 : PySem.W.codeIn K cd34 "Reaching.__init__" = true) (k34 : PySem.W.keepIn K (.ref f34) = true)
    (a35 : PySem.W.findIn K (.ref C_Get) "height" = some (some (.ref f35)))
    (i35 : PySem.W.isFn K (.ref f35) = true)
    (l35 : K.lookup f35 = some ⟨oc35, od35, .func (PySem.W.fnOf "height" "Reaching.height" (defArgs s_Reaching_height) (defBody s_Reaching_height) (defScope s_Reaching_height) .none kV35 dc35 pm35 an35 cd35 ct35), sl35⟩)
    (c35 : PySem.W.codeIn K cd35 "Reaching.height" = true) (k35 : PySem.W.keepIn K (.ref f35) = true)
    (a36 : PySem.W.findIn K (.ref C_Get) "runs" = some (some (.ref f36)))
    (i36 : PySem.W.isFn K (.ref f36) = true)
    (l36 : K.lookup f36 = some ⟨oc36, od36, .func (PySem.W.fnOf "runs" "Get.runs" (defArgs s_Get_runs) (defBody s_Get_runs) (defScope s_Get_runs) .none kV36 dc36 pm36 an36 cd36 ct36), sl36⟩)
    (c36 : PySem.W.codeIn K cd36 "Get.runs" = true) (k36 : PySem.W.keepIn K (.ref f36) = true)
    (pg_Grow : PySem.W.plainGet K C_Grow Str.empty = true)
    (hd_Grow : PySem.W.hasDictIn K C_Grow = true)
    (po_Grow : PySem.W.plainOver K C_Grow = true)
    (sa_Grow : PySem.W.findIn K (.ref C_Grow) "__setattr__" = some (some (.builtin "object.__setattr__")))
    (mk_Grow : PySem.W.makesIn K C_Grow = true)
    (kc_Grow : PySem.W.keepIn K (.ref C_Grow) = true)
    (n_Grow_many : PySem.W.findIn K (.ref C_Grow) "many" = some none)
    (a37 : PySem.W.findIn K (.ref C_Grow) "__init__" = some (some (.ref f37)))
    (i37 : PySem.W.isFn K (.ref f37) = true)
    (l37 : K.lookup f37 = some ⟨oc37, od37, .func (PySem.W.fnOf "__init__" "Grow.__init__" (defArgs s_Grow_init) (defBody s_Grow_init) (defScope s_Grow_init) .none kV37 dc37 pm37 an37 cd37 ct37), sl37⟩)
    (c37 : PySem.W.codeIn K cd37 "Grow.__init__" = true) (k37 : PySem.W.keepIn K (.ref f37) = true)
    (a38 : PySem.W.findIn K (.ref C_Grow) "height" = some (some (.ref f38)))
    (i38 : PySem.W.isFn K (.ref f38) = true)
    (l38 : K.lookup f38 = some ⟨oc38, od38, .func (PySem.W.fnOf "height" "Grow.height" (defArgs s_Grow_height) (defBody s_Grow_height) (defScope s_Grow_height) .none kV38 dc38 pm38 an38 cd38 ct38), sl38⟩)
    (c38 : PySem.W.codeIn K cd38 "Grow.height" = true) (k38 : PySem.W.keepIn K (.ref f38) = true)
    (a39 : PySem.W.findIn K (.ref C_Grow) "runs" = some (some (.ref f39)))
    (i39 : PySem.W.isFn K (.ref f39) = true)
    (l39 : K.lookup f39 = some ⟨oc39, od39, .func (PySem.W.fnOf "runs" "Grow.runs" (defArgs s_Grow_runs) (defBody s_Grow_runs) (defScope s_Grow_runs) .none kV39 dc39 pm39 an39 cd39 ct39), sl39⟩)
    (c39 : PySem.W.codeIn K cd39 "Grow.runs" = true) (k39 : PySem.W.keepIn K (.ref f39) = true)
    (pg_Shrink : PySem.W.plainGet K C_Shrink Str.empty = true)
    (hd_Shrink : PySem.W.hasDictIn K C_Shrink = true)
    (po_Shrink : PySem.W.plainOver K C_Shrink = true)
    (sa_Shrink : PySem.W.findIn K (.ref C_Shrink) "__setattr__" = some (some (.builtin "object.__setattr__")))
    (mk_Shrink : PySem.W.makesIn K C_Shrink = true)
    (kc_Shrink : PySem.W.keepIn K (.ref C_Shrink) = true)
    (n_Shrink_many : PySem.W.findIn K (.ref C_Shrink) "many" = some none)
    (a40 : PySem.W.findIn K (.ref C_Shrink) "__init__" = some (some (.ref f40)))
    (i40 : PySem.W.isFn K (.ref f40) = true)
    (l40 : K.lookup f40 = some ⟨oc40, od40, .func (PySem.W.fnOf "__init__" "Shrink.__init__" (defArgs s_Shrink_init) (defBody s_Shrink_init) (defScope s_Shrink_init) .none kV40 dc40 pm40 an40 cd40 ct40), sl40⟩)
    (c40 : PySem.W.codeIn K cd40 "Shrink.__init__" = true) (k40 : PySem.W.keepIn K (.ref f40) = true)
    (a41 : PySem.W.findIn K (.ref C_Shrink) "height" = some (some (.ref f41)))
    (i41 : PySem.W.isFn K (.ref f41) = true)
    (l41 : K.lookup f41 = some ⟨oc41, od41, .func (PySem.W.fnOf "height" "Shrink.height" (defArgs s_Shrink_height) (defBody s_Shrink_height) (defScope s_Shrink_height) .none kV41 dc41 pm41 an41 cd41 ct41), sl41⟩)
    (c41 : PySem.W.codeIn K cd41 "Shrink.height" = true) (k41 : PySem.W.keepIn K (.ref f41) = true)
    (a42 : PySem.W.findIn K (.ref C_Shrink) "runs" = some (some (.ref f42)))
    (i42 : PySem.W.isFn K (.ref f42) = true)
    (l42 : K.lookup f42 = some ⟨oc42, od42, .func (PySem.W.fnOf "runs" "Shrink.runs" (defArgs s_Shrink_runs) (defBody s_Shrink_runs) (defScope s_Shrink_runs) .none kV42 dc42 pm42 an42 cd42 ct42), sl42⟩)
    (c42 : PySem.W.codeIn K cd42 "Shrink.runs" = true) (k42 : PySem.W.keepIn K (.ref f42) = true)
    (pg_Put : PySem.W.plainGet K C_Put Str.empty = true)
    (hd_Put : PySem.W.hasDictIn K C_Put = true)
    (po_Put : PySem.W.plainOver K C_Put = true)
    (sa_Put : PySem.W.findIn K (.ref C_Put) "__setattr__" = some (some (.builtin "object.__setattr__")))
    (mk_Put : PySem.W.makesIn K C_Put = true)
    (kc_Put : PySem.W.keepIn K (.ref C_Put) = true)
    (n_Put_box : PySem.W.findIn K (.ref C_Put) "box" = some none)
    (n_Put_cell : PySem.W.findIn K (.ref C_Put) "cell" = some none)
    (a43 : PySem.W.findIn K (.ref C_Put) "__init__" = some (some (.ref f43)))
    (i43 : PySem.W.isFn K (.ref f43) = true)
    (l43 : K.lookup f43 = some ⟨oc43, od43, .func (PySem.W.fnOf "__init__" "Reaching.__init__" (defArgs s_Reaching_init) (defBody s_Reaching_init) (defScope s_Reaching_init) .none kV43 dc43 pm43 an43 cd43 ct43), sl43⟩)
    (c43 : PySem.W.codeIn K cd43 "Reaching.__init__" = true) (k43 : PySem.W.keepIn K (.ref f43) = true)
    (a44 : PySem.W.findIn K (.ref C_Put) "height" = some (some (.ref f44)))
    (i44 : PySem.W.isFn K (.ref f44) = true)
    (l44 : K.lookup f44 = some ⟨oc44, od44, .func (PySem.W.fnOf "height" "Reaching.height" (defArgs s_Reaching_height) (defBody s_Reaching_height) (defScope s_Reaching_height) .none kV44 dc44 pm44 an44 cd44 ct44), sl44⟩)
    (c44 : PySem.W.codeIn K cd44 "Reaching.height" = true) (k44 : PySem.W.keepIn K (.ref f44) = true)
    (a45 : PySem.W.findIn K (.ref C_Put) "runs" = some (some (.ref f45)))
    (i45 : PySem.W.isFn K (.ref f45) = true)
    (l45 : K.lookup f45 = some ⟨oc45, od45, .func (PySem.W.fnOf "runs" "Put.runs" (defArgs s_Put_runs) (defBody s_Put_runs) (defScope s_Put_runs) .none kV45 dc45 pm45 an45 cd45 ct45), sl45⟩)
    (c45 : PySem.W.codeIn K cd45 "Put.runs" = true) (k45 : PySem.W.keepIn K (.ref f45) = true)
    (k_int_int : PySem.W.kitOne K (.type "int") (.type "int") = some true)
    (k_int_bool : PySem.W.kitOne K (.type "int") (.type "bool") = some false)
    (a46 : PySem.W.nsIn K mainGlobals "bounded" = some (some (.ref f46)))
    (l46 : K.lookup f46 = some ⟨oc46, od46, .func (PySem.W.fnOf "bounded" "bounded" (defArgs s_bounded) (defBody s_bounded) (defScope s_bounded) .none kV46 dc46 pm46 an46 cd46 ct46), sl46⟩)
    (c46 : PySem.W.codeIn K cd46 "bounded" = true) (k46 : PySem.W.keepIn K (.ref f46) = true)
    (a47 : PySem.W.nsIn K mainGlobals "with_box" = some (some (.ref f47)))
    (l47 : K.lookup f47 = some ⟨oc47, od47, .func (PySem.W.fnOf "with_box" "with_box" (defArgs s_with_box) (defBody s_with_box) (defScope s_with_box) .none kV47 dc47 pm47 an47 cd47 ct47), sl47⟩)
    (c47 : PySem.W.codeIn K cd47 "with_box" = true) (k47 : PySem.W.keepIn K (.ref f47) = true)
    (a48 : PySem.W.nsIn K mainGlobals "_law_cell_at" = some (some (.ref f48)))
    (l48 : K.lookup f48 = some ⟨oc48, od48, .func (PySem.W.fnOf "_law_cell_at" "_law_cell_at" (defArgs s_law_cell_at) (defBody s_law_cell_at) (defScope s_law_cell_at) .none kV48 dc48 pm48 an48 cd48 ct48), sl48⟩)
    (c48 : PySem.W.codeIn K cd48 "_law_cell_at" = true) (k48 : PySem.W.keepIn K (.ref f48) = true)
    (a49 : PySem.W.nsIn K mainGlobals "_law_whole" = some (some (.ref f49)))
    (l49 : K.lookup f49 = some ⟨oc49, od49, .func (PySem.W.fnOf "_law_whole" "_law_whole" (defArgs s_law_whole) (defBody s_law_whole) (defScope s_law_whole) .none kV49 dc49 pm49 an49 cd49 ct49), sl49⟩)
    (c49 : PySem.W.codeIn K cd49 "_law_whole" = true) (k49 : PySem.W.keepIn K (.ref f49) = true)
    (a50 : PySem.W.nsIn K mainGlobals "_law_filling" = some (some (.ref f50)))
    (l50 : K.lookup f50 = some ⟨oc50, od50, .func (PySem.W.fnOf "_law_filling" "_law_filling" (defArgs s_law_filling) (defBody s_law_filling) (defScope s_law_filling) .none kV50 dc50 pm50 an50 cd50 ct50), sl50⟩)
    (c50 : PySem.W.codeIn K cd50 "_law_filling" = true) (k50 : PySem.W.keepIn K (.ref f50) = true)
    (a51 : PySem.W.nsIn K mainGlobals "_law_going" = some (some (.ref f51)))
    (l51 : K.lookup f51 = some ⟨oc51, od51, .func (PySem.W.fnOf "_law_going" "_law_going" (defArgs s_law_going) (defBody s_law_going) (defScope s_law_going) .none kV51 dc51 pm51 an51 cd51 ct51), sl51⟩)
    (c51 : PySem.W.codeIn K cd51 "_law_going" = true) (k51 : PySem.W.keepIn K (.ref f51) = true)
    (a52 : PySem.W.nsIn K mainGlobals "_law_row" = some (some (.ref f52)))
    (l52 : K.lookup f52 = some ⟨oc52, od52, .func (PySem.W.fnOf "_law_row" "_law_row" (defArgs s_law_row) (defBody s_law_row) (defScope s_law_row) .none kV52 dc52 pm52 an52 cd52 ct52), sl52⟩)
    (c52 : PySem.W.codeIn K cd52 "_law_row" = true) (k52 : PySem.W.keepIn K (.ref f52) = true)
    (a53 : PySem.W.nsIn K mainGlobals "_law_many" = some (some (.ref f53)))
    (l53 : K.lookup f53 = some ⟨oc53, od53, .func (PySem.W.fnOf "_law_many" "_law_many" (defArgs s_law_many) (defBody s_law_many) (defScope s_law_many) .none kV53 dc53 pm53 an53 cd53 ct53), sl53⟩)
    (c53 : PySem.W.codeIn K cd53 "_law_many" = true) (k53 : PySem.W.keepIn K (.ref f53) = true)
    (a54 : PySem.W.nsIn K mainGlobals "_law_due" = some (some (.ref f54)))
    (l54 : K.lookup f54 = some ⟨oc54, od54, .func (PySem.W.fnOf "_law_due" "_law_due" (defArgs s_law_due) (defBody s_law_due) (defScope s_law_due) .none kV54 dc54 pm54 an54 cd54 ct54), sl54⟩)
    (c54 : PySem.W.codeIn K cd54 "_law_due" = true) (k54 : PySem.W.keepIn K (.ref f54) = true)
    (a55 : PySem.W.nsIn K mainGlobals "law" = some (some (.ref f55)))
    (l55 : K.lookup f55 = some ⟨oc55, od55, .func (PySem.W.fnOf "law" "law" (defArgs s_law) (defBody s_law) (defScope s_law) .none kV55 dc55 pm55 an55 cd55 ct55), sl55⟩)
    (c55 : PySem.W.codeIn K cd55 "law" = true) (k55 : PySem.W.keepIn K (.ref f55) = true) :
    ∃ (a : Adr) (fd : FuncData), Txt K mg a ∧ Fun K "law" "law" s_law fa fd ∧ ∀ (s : Shared) (v : Value), BindsTo s fd ⟨[v], []⟩ [("_law_script", v)] := by
  have e := hfa.symm.trans (PySem.W.mg_of X G a55)
  cases e
  refine ⟨⟨0, C_Set, C_Copy, C_Add, C_Sub, C_Mul, C_Less, C_Grow, C_Shrink, C_Put, C_Get, C_Jump, C_Branch, C_Call, C_Back, C_Drop, 0, 0, 0, C_NoRow, 0, 0, 0, 0, 0, 0, 0, 0, 0, 0, 0, 0⟩, _, ?_, fun_mk (st := s_law) l55 c55 k55, fun s v => .of_eq rfl⟩
  exact {
    z_bool := PySem.W.mg_none_of X G z_bool
    z_int := PySem.W.mg_none_of X G z_int
    z_isinstance := PySem.W.mg_none_of X G z_isinstance
    z_len := PySem.W.mg_none_of X G z_len
    z_list := PySem.W.mg_none_of X G z_list
    z_max := PySem.W.mg_none_of X G z_max
    z_min := PySem.W.mg_none_of X G z_min
    g_LINK := ⟨_, PySem.W.mg_of X G g_LINK⟩
    g_TOP_BOX := ⟨_, PySem.W.mg_of X G g_TOP_BOX⟩
    g_TOP_CELLS := ⟨_, PySem.W.mg_of X G g_TOP_CELLS⟩
    g_TOP_TARGET := ⟨_, PySem.W.mg_of X G g_TOP_TARGET⟩
    g_TOP_VALUE := ⟨_, PySem.W.mg_of X G g_TOP_VALUE⟩
    g_VALUES := ⟨_, PySem.W.mg_of X G g_VALUES⟩
    c_Add := PySem.W.mg_of X G c_Add
    c_Back := PySem.W.mg_of X G c_Back
    c_Branch := PySem.W.mg_of X G c_Branch
    c_Call := PySem.W.mg_of X G c_Call
    c_Copy := PySem.W.mg_of X G c_Copy
    c_Drop := PySem.W.mg_of X G c_Drop
    c_Get := PySem.W.mg_of X G c_Get
    c_Grow := PySem.W.mg_of X G c_Grow
    c_Jump := PySem.W.mg_of X G c_Jump
    c_Less := PySem.W.mg_of X G c_Less
    c_Mul := PySem.W.mg_of X G c_Mul
    c_NoRow := PySem.W.mg_of X G c_NoRow
    c_Put := PySem.W.mg_of X G c_Put
    c_Set := PySem.W.mg_of X G c_Set
    c_Shrink := PySem.W.mg_of X G c_Shrink
    c_Sub := PySem.W.mg_of X G c_Sub
    cl_Less := ⟨pg_Less, hd_Less, po_Less, sa_Less⟩
    n_Less_box := n_Less_box
    n_Less_one := n_Less_one
    n_Less_other := n_Less_other
    i_Less := ⟨_, _, fun_mk (st := s_Reckoning_init) l1 c1 k1, ⟨mk_Less, a1, i1, kc_Less⟩, (fun_mk (st := s_Reckoning_init) l1 c1 k1).binds (ps := ["self", "box", "one", "other"]) fun _ _ _ _ _ _ us hl => match us, hl with | [_, _, _, _], _ => rfl⟩
    m_Less_height := ⟨_, _, fun_mk (st := s_Row_height) l2 c2 k2, ⟨a2, i2, k2⟩, (fun_mk (st := s_Row_height) l2 c2 k2).binds (ps := ["self", "high"]) fun _ _ _ _ _ _ us hl => match us, hl with | [_, _], _ => rfl⟩
    m_Less_runs := ⟨_, _, fun_mk (st := s_Less_runs) l3 c3 k3, ⟨a3, i3, k3⟩, (fun_mk (st := s_Less_runs) l3 c3 k3).binds (ps := ["self", "at", "boxes", "pile"]) fun _ _ _ _ _ _ us hl => match us, hl with | [_, _, _, _], _ => rfl⟩
    cl_Set := ⟨pg_Set, hd_Set, po_Set, sa_Set⟩
    n_Set_box := n_Set_box
    n_Set_number := n_Set_number
    i_Set := ⟨_, _, fun_mk (st := s_Set_init) l4 c4 k4, ⟨mk_Set, a4, i4, kc_Set⟩, (fun_mk (st := s_Set_init) l4 c4 k4).binds (ps := ["self", "box", "number"]) fun _ _ _ _ _ _ us hl => match us, hl with | [_, _, _], _ => rfl⟩
    m_Set_height := ⟨_, _, fun_mk (st := s_Row_height) l5 c5 k5, ⟨a5, i5, k5⟩, (fun_mk (st := s_Row_height) l5 c5 k5).binds (ps := ["self", "high"]) fun _ _ _ _ _ _ us hl => match us, hl with | [_, _], _ => rfl⟩
    m_Set_runs := ⟨_, _, fun_mk (st := s_Set_runs) l6 c6 k6, ⟨a6, i6, k6⟩, (fun_mk (st := s_Set_runs) l6 c6 k6).binds (ps := ["self", "at", "boxes", "pile"]) fun _ _ _ _ _ _ us hl => match us, hl with | [_, _, _, _], _ => rfl⟩
    cl_Copy := ⟨pg_Copy, hd_Copy, po_Copy, sa_Copy⟩
    n_Copy_box := n_Copy_box
    n_Copy_one := n_Copy_one
    i_Copy := ⟨_, _, fun_mk (st := s_Copy_init) l7 c7 k7, ⟨mk_Copy, a7, i7, kc_Copy⟩, (fun_mk (st := s_Copy_init) l7 c7 k7).binds (ps := ["self", "box", "one"]) fun _ _ _ _ _ _ us hl => match us, hl with | [_, _, _], _ => rfl⟩
    m_Copy_height := ⟨_, _, fun_mk (st := s_Row_height) l8 c8 k8, ⟨a8, i8, k8⟩, (fun_mk (st := s_Row_height) l8 c8 k8).binds (ps := ["self", "high"]) fun _ _ _ _ _ _ us hl => match us, hl with | [_, _], _ => rfl⟩
    m_Copy_runs := ⟨_, _, fun_mk (st := s_Copy_runs) l9 c9 k9, ⟨a9, i9, k9⟩, (fun_mk (st := s_Copy_runs) l9 c9 k9).binds (ps := ["self", "at", "boxes", "pile"]) fun _ _ _ _ _ _ us hl => match us, hl with | [_, _, _, _], _ => rfl⟩
    cl_Add := ⟨pg_Add, hd_Add, po_Add, sa_Add⟩
    n_Add_box := n_Add_box
    n_Add_one := n_Add_one
    n_Add_other := n_Add_other
    i_Add := ⟨_, _, fun_mk (st := s_Reckoning_init) l10 c10 k10, ⟨mk_Add, a10, i10, kc_Add⟩, (fun_mk (st := s_Reckoning_init) l10 c10 k10).binds (ps := ["self", "box", "one", "other"]) fun _ _ _ _ _ _ us hl => match us, hl with | [_, _, _, _], _ => rfl⟩
    m_Add_height := ⟨_, _, fun_mk (st := s_Row_height) l11 c11 k11, ⟨a11, i11, k11⟩, (fun_mk (st := s_Row_height) l11 c11 k11).binds (ps := ["self", "high"]) fun _ _ _ _ _ _ us hl => match us, hl with | [_, _], _ => rfl⟩
    m_Add_runs := ⟨_, _, fun_mk (st := s_Add_runs) l12 c12 k12, ⟨a12, i12, k12⟩, (fun_mk (st := s_Add_runs) l12 c12 k12).binds (ps := ["self", "at", "boxes", "pile"]) fun _ _ _ _ _ _ us hl => match us, hl with | [_, _, _, _], _ => rfl⟩
    cl_Sub := ⟨pg_Sub, hd_Sub, po_Sub, sa_Sub⟩
    n_Sub_box := n_Sub_box
    n_Sub_one := n_Sub_one
    n_Sub_other := n_Sub_other
    i_Sub := ⟨_, _, fun_mk (st := s_Reckoning_init) l13 c13 k13, ⟨mk_Sub, a13, i13, kc_Sub⟩, (fun_mk (st := s_Reckoning_init) l13 c13 k13).binds (ps := ["self", "box", "one", "other"]) fun _ _ _ _ _ _ us hl => match us, hl with | [_, _, _, _], _ => rfl⟩
    m_Sub_height := ⟨_, _, fun_mk (st := s_Row_height) l14 c14 k14, ⟨a14, i14, k14⟩, (fun_mk (st := s_Row_height) l14 c14 k14).binds (ps := ["self", "high"]) fun _ _ _ _ _ _ us hl => match us, hl with | [_, _], _ => rfl⟩
    m_Sub_runs := ⟨_, _, fun_mk (st := s_Sub_runs) l15 c15 k15, ⟨a15, i15, k15⟩, (fun_mk (st := s_Sub_runs) l15 c15 k15).binds (ps := ["self", "at", "boxes", "pile"]) fun _ _ _ _ _ _ us hl => match us, hl with | [_, _, _, _], _ => rfl⟩
    cl_Mul := ⟨pg_Mul, hd_Mul, po_Mul, sa_Mul⟩
    n_Mul_box := n_Mul_box
    n_Mul_one := n_Mul_one
    n_Mul_other := n_Mul_other
    i_Mul := ⟨_, _, fun_mk (st := s_Reckoning_init) l16 c16 k16, ⟨mk_Mul, a16, i16, kc_Mul⟩, (fun_mk (st := s_Reckoning_init) l16 c16 k16).binds (ps := ["self", "box", "one", "other"]) fun _ _ _ _ _ _ us hl => match us, hl with | [_, _, _, _], _ => rfl⟩
    m_Mul_height := ⟨_, _, fun_mk (st := s_Row_height) l17 c17 k17, ⟨a17, i17, k17⟩, (fun_mk (st := s_Row_height) l17 c17 k17).binds (ps := ["self", "high"]) fun _ _ _ _ _ _ us hl => match us, hl with | [_, _], _ => rfl⟩
    m_Mul_runs := ⟨_, _, fun_mk (st := s_Mul_runs) l18 c18 k18, ⟨a18, i18, k18⟩, (fun_mk (st := s_Mul_runs) l18 c18 k18).binds (ps := ["self", "at", "boxes", "pile"]) fun _ _ _ _ _ _ us hl => match us, hl with | [_, _, _, _], _ => rfl⟩
    cl_Drop := ⟨pg_Drop, hd_Drop, po_Drop, sa_Drop⟩
    n_Drop_box := n_Drop_box
    i_Drop := ⟨_, _, fun_mk (st := s_Drop_init) l19 c19 k19, ⟨mk_Drop, a19, i19, kc_Drop⟩, (fun_mk (st := s_Drop_init) l19 c19 k19).binds (ps := ["self", "box"]) fun _ _ _ _ _ _ us hl => match us, hl with | [_, _], _ => rfl⟩
    m_Drop_height := ⟨_, _, fun_mk (st := s_Row_height) l20 c20 k20, ⟨a20, i20, k20⟩, (fun_mk (st := s_Row_height) l20 c20 k20).binds (ps := ["self", "high"]) fun _ _ _ _ _ _ us hl => match us, hl with | [_, _], _ => rfl⟩
    m_Drop_runs := ⟨_, _, fun_mk (st := s_Drop_runs) l21 c21 k21, ⟨a21, i21, k21⟩, (fun_mk (st := s_Drop_runs) l21 c21 k21).binds (ps := ["self", "at", "boxes", "pile"]) fun _ _ _ _ _ _ us hl => match us, hl with | [_, _, _, _], _ => rfl⟩
    cl_Jump := ⟨pg_Jump, hd_Jump, po_Jump, sa_Jump⟩
    n_Jump_target := n_Jump_target
    i_Jump := ⟨_, _, fun_mk (st := s_Jump_init) l22 c22 k22, ⟨mk_Jump, a22, i22, kc_Jump⟩, (fun_mk (st := s_Jump_init) l22 c22 k22).binds (ps := ["self", "target"]) fun _ _ _ _ _ _ us hl => match us, hl with | [_, _], _ => rfl⟩
    m_Jump_height := ⟨_, _, fun_mk (st := s_Row_height) l23 c23 k23, ⟨a23, i23, k23⟩, (fun_mk (st := s_Row_height) l23 c23 k23).binds (ps := ["self", "high"]) fun _ _ _ _ _ _ us hl => match us, hl with | [_, _], _ => rfl⟩
    m_Jump_runs := ⟨_, _, fun_mk (st := s_Jump_runs) l24 c24 k24, ⟨a24, i24, k24⟩, (fun_mk (st := s_Jump_runs) l24 c24 k24).binds (ps := ["self", "at", "boxes", "pile"]) fun _ _ _ _ _ _ us hl => match us, hl with | [_, _, _, _], _ => rfl⟩
    cl_Branch := ⟨pg_Branch, hd_Branch, po_Branch, sa_Branch⟩
    n_Branch_box := n_Branch_box
    n_Branch_target := n_Branch_target
    i_Branch := ⟨_, _, fun_mk (st := s_Branch_init) l25 c25 k25, ⟨mk_Branch, a25, i25, kc_Branch⟩, (fun_mk (st := s_Branch_init) l25 c25 k25).binds (ps := ["self", "box", "target"]) fun _ _ _ _ _ _ us hl => match us, hl with | [_, _, _], _ => rfl⟩
    m_Branch_height := ⟨_, _, fun_mk (st := s_Row_height) l26 c26 k26, ⟨a26, i26, k26⟩, (fun_mk (st := s_Row_height) l26 c26 k26).binds (ps := ["self", "high"]) fun _ _ _ _ _ _ us hl => match us, hl with | [_, _], _ => rfl⟩
    m_Branch_runs := ⟨_, _, fun_mk (st := s_Branch_runs) l27 c27 k27, ⟨a27, i27, k27⟩, (fun_mk (st := s_Branch_runs) l27 c27 k27).binds (ps := ["self", "at", "boxes", "pile"]) fun _ _ _ _ _ _ us hl => match us, hl with | [_, _, _, _], _ => rfl⟩
    cl_Call := ⟨pg_Call, hd_Call, po_Call, sa_Call⟩
    n_Call_target := n_Call_target
    i_Call := ⟨_, _, fun_mk (st := s_Call_init) l28 c28 k28, ⟨mk_Call, a28, i28, kc_Call⟩, (fun_mk (st := s_Call_init) l28 c28 k28).binds (ps := ["self", "target"]) fun _ _ _ _ _ _ us hl => match us, hl with | [_, _], _ => rfl⟩
    m_Call_height := ⟨_, _, fun_mk (st := s_Row_height) l29 c29 k29, ⟨a29, i29, k29⟩, (fun_mk (st := s_Row_height) l29 c29 k29).binds (ps := ["self", "high"]) fun _ _ _ _ _ _ us hl => match us, hl with | [_, _], _ => rfl⟩
    m_Call_runs := ⟨_, _, fun_mk (st := s_Call_runs) l30 c30 k30, ⟨a30, i30, k30⟩, (fun_mk (st := s_Call_runs) l30 c30 k30).binds (ps := ["self", "at", "boxes", "pile"]) fun _ _ _ _ _ _ us hl => match us, hl with | [_, _, _, _], _ => rfl⟩
    cl_Back := ⟨pg_Back, hd_Back, po_Back, sa_Back⟩
    n_Back_box := n_Back_box
    i_Back := ⟨_, _, fun_mk (st := s_Back_init) l31 c31 k31, ⟨mk_Back, a31, i31, kc_Back⟩, (fun_mk (st := s_Back_init) l31 c31 k31).binds (ps := ["self", "box"]) fun _ _ _ _ _ _ us hl => match us, hl with | [_, _], _ => rfl⟩
    m_Back_height := ⟨_, _, fun_mk (st := s_Row_height) l32 c32 k32, ⟨a32, i32, k32⟩, (fun_mk (st := s_Row_height) l32 c32 k32).binds (ps := ["self", "high"]) fun _ _ _ _ _ _ us hl => match us, hl with | [_, _], _ => rfl⟩
    m_Back_runs := ⟨_, _, fun_mk (st := s_Back_runs) l33 c33 k33, ⟨a33, i33, k33⟩, (fun_mk (st := s_Back_runs) l33 c33 k33).binds (ps := ["self", "at", "boxes", "pile"]) fun _ _ _ _ _ _ us hl => match us, hl with | [_, _, _, _], _ => rfl⟩
    cl_Get := ⟨pg_Get, hd_Get, po_Get, sa_Get⟩
    n_Get_box := n_Get_box
    n_Get_cell := n_Get_cell
    i_Get := ⟨_, _, fun_mk (st := s_Reaching_init) l34 c34 k34, ⟨mk_Get, a34, i34, kc_Get⟩, (fun_mk (st := s_Reaching_init) l34 c34 k34).binds (ps := ["self", "box", "cell"]) fun _ _ _ _ _ _ us hl => match us, hl with | [_, _, _], _ => rfl⟩
    m_Get_height := ⟨_, _, fun_mk (st := s_Reaching_height) l35 c35 k35, ⟨a35, i35, k35⟩, (fun_mk (st := s_Reaching_height) l35 c35 k35).binds (ps := ["self", "high"]) fun _ _ _ _ _ _ us hl => match us, hl with | [_, _], _ => rfl⟩
    m_Get_runs := ⟨_, _, fun_mk (st := s_Get_runs) l36 c36 k36, ⟨a36, i36, k36⟩, (fun_mk (st := s_Get_runs) l36 c36 k36).binds (ps := ["self", "at", "boxes", "pile"]) fun _ _ _ _ _ _ us hl => match us, hl with | [_, _, _, _], _ => rfl⟩
    cl_Grow := ⟨pg_Grow, hd_Grow, po_Grow, sa_Grow⟩
    n_Grow_many := n_Grow_many
    i_Grow := ⟨_, _, fun_mk (st := s_Grow_init) l37 c37 k37, ⟨mk_Grow, a37, i37, kc_Grow⟩, (fun_mk (st := s_Grow_init) l37 c37 k37).binds (ps := ["self", "many"]) fun _ _ _ _ _ _ us hl => match us, hl with | [_, _], _ => rfl⟩
    m_Grow_height := ⟨_, _, fun_mk (st := s_Grow_height) l38 c38 k38, ⟨a38, i38, k38⟩, (fun_mk (st := s_Grow_height) l38 c38 k38).binds (ps := ["self", "high"]) fun _ _ _ _ _ _ us hl => match us, hl with | [_, _], _ => rfl⟩
    m_Grow_runs := ⟨_, _, fun_mk (st := s_Grow_runs) l39 c39 k39, ⟨a39, i39, k39⟩, (fun_mk (st := s_Grow_runs) l39 c39 k39).binds (ps := ["self", "at", "boxes", "pile"]) fun _ _ _ _ _ _ us hl => match us, hl with | [_, _, _, _], _ => rfl⟩
    cl_Shrink := ⟨pg_Shrink, hd_Shrink, po_Shrink, sa_Shrink⟩
    n_Shrink_many := n_Shrink_many
    i_Shrink := ⟨_, _, fun_mk (st := s_Shrink_init) l40 c40 k40, ⟨mk_Shrink, a40, i40, kc_Shrink⟩, (fun_mk (st := s_Shrink_init) l40 c40 k40).binds (ps := ["self", "many"]) fun _ _ _ _ _ _ us hl => match us, hl with | [_, _], _ => rfl⟩
    m_Shrink_height := ⟨_, _, fun_mk (st := s_Shrink_height) l41 c41 k41, ⟨a41, i41, k41⟩, (fun_mk (st := s_Shrink_height) l41 c41 k41).binds (ps := ["self", "high"]) fun _ _ _ _ _ _ us hl => match us, hl with | [_, _], _ => rfl⟩
    m_Shrink_runs := ⟨_, _, fun_mk (st := s_Shrink_runs) l42 c42 k42, ⟨a42, i42, k42⟩, (fun_mk (st := s_Shrink_runs) l42 c42 k42).binds (ps := ["self", "at", "boxes", "pile"]) fun _ _ _ _ _ _ us hl => match us, hl with | [_, _, _, _], _ => rfl⟩
    cl_Put := ⟨pg_Put, hd_Put, po_Put, sa_Put⟩
    n_Put_box := n_Put_box
    n_Put_cell := n_Put_cell
    i_Put := ⟨_, _, fun_mk (st := s_Reaching_init) l43 c43 k43, ⟨mk_Put, a43, i43, kc_Put⟩, (fun_mk (st := s_Reaching_init) l43 c43 k43).binds (ps := ["self", "box", "cell"]) fun _ _ _ _ _ _ us hl => match us, hl with | [_, _, _], _ => rfl⟩
    m_Put_height := ⟨_, _, fun_mk (st := s_Reaching_height) l44 c44 k44, ⟨a44, i44, k44⟩, (fun_mk (st := s_Reaching_height) l44 c44 k44).binds (ps := ["self", "high"]) fun _ _ _ _ _ _ us hl => match us, hl with | [_, _], _ => rfl⟩
    m_Put_runs := ⟨_, _, fun_mk (st := s_Put_runs) l45 c45 k45, ⟨a45, i45, k45⟩, (fun_mk (st := s_Put_runs) l45 c45 k45).binds (ps := ["self", "at", "boxes", "pile"]) fun _ _ _ _ _ _ us hl => match us, hl with | [_, _, _, _], _ => rfl⟩
    k_int_int := k_int_int
    k_int_bool := k_int_bool
    fn_bounded := ⟨_, _, fun_mk (st := s_bounded) l46 c46 k46, PySem.W.mg_of X G a46, (fun_mk (st := s_bounded) l46 c46 k46).binds (ps := ["number", "top"]) fun _ _ _ _ _ _ us hl => match us, hl with | [_, _], _ => rfl⟩
    fn_with_box := ⟨_, _, fun_mk (st := s_with_box) l47 c47 k47, PySem.W.mg_of X G a47, (fun_mk (st := s_with_box) l47 c47 k47).binds (ps := ["boxes", "box", "value"]) fun _ _ _ _ _ _ us hl => match us, hl with | [_, _, _], _ => rfl⟩
    fn_law_cell_at := ⟨_, _, fun_mk (st := s_law_cell_at) l48 c48 k48, PySem.W.mg_of X G a48, (fun_mk (st := s_law_cell_at) l48 c48 k48).binds (ps := ["_law_script", "_law_k"]) fun _ _ _ _ _ _ us hl => match us, hl with | [_, _], _ => rfl⟩
    fn_law_whole := ⟨_, _, fun_mk (st := s_law_whole) l49 c49 k49, PySem.W.mg_of X G a49, (fun_mk (st := s_law_whole) l49 c49 k49).binds (ps := ["_law_found"]) fun _ _ _ _ _ _ us hl => match us, hl with | [_], _ => rfl⟩
    fn_law_filling := ⟨_, _, fun_mk (st := s_law_filling) l50 c50 k50, PySem.W.mg_of X G a50, (fun_mk (st := s_law_filling) l50 c50 k50).binds (ps := ["_law_kind", "_law_cell"]) fun _ _ _ _ _ _ us hl => match us, hl with | [_, _], _ => rfl⟩
    fn_law_going := ⟨_, _, fun_mk (st := s_law_going) l51 c51 k51, PySem.W.mg_of X G a51, (fun_mk (st := s_law_going) l51 c51 k51).binds (ps := ["_law_kind", "_law_cell"]) fun _ _ _ _ _ _ us hl => match us, hl with | [_, _], _ => rfl⟩
    fn_law_row := ⟨_, _, fun_mk (st := s_law_row) l52 c52 k52, PySem.W.mg_of X G a52, (fun_mk (st := s_law_row) l52 c52 k52).binds (ps := ["_law_kind", "_law_cell", "_law_many_here"]) fun _ _ _ _ _ _ us hl => match us, hl with | [_, _, _], _ => rfl⟩
    fn_law_many := ⟨_, _, fun_mk (st := s_law_many) l53 c53 k53, PySem.W.mg_of X G a53, (fun_mk (st := s_law_many) l53 c53 k53).binds (ps := ["_law_cell", "_law_high"]) fun _ _ _ _ _ _ us hl => match us, hl with | [_, _], _ => rfl⟩
    fn_law_due := ⟨_, _, fun_mk (st := s_law_due) l54 c54 k54, PySem.W.mg_of X G a54, (fun_mk (st := s_law_due) l54 c54 k54).binds (ps := ["_law_kind", "_law_many_here", "_law_high"]) fun _ _ _ _ _ _ us hl => match us, hl with | [_, _, _], _ => rfl⟩
    fn_law := ⟨_, _, fun_mk (st := s_law) l55 c55 k55, PySem.W.mg_of X G a55, (fun_mk (st := s_law) l55 c55 k55).binds (ps := ["_law_script"]) fun _ _ _ _ _ _ us hl => match us, hl with | [_], _ => rfl⟩ }
theorem walk {l : PySem.W.OpenLaw} {q : Program} {loose : List Str} {XP : (Str → Option Value) → Heap → Prop} {YP : World → Heap → Prop} {d : DefRec} {K : Params → PySem.W.Frag} (hn : l.most = some 63) (hdf : d.params.defaults = [])
    (hY : ∀ (w : World) (h : Heap), YP w h → (K w.params).In h)
    (F : ∀ (w : World) (mg : Str → Option Value) (fa : Addr) (h : Heap), (K w.params).In h → h.Ns mainGlobals mg → mg d.name = some (.ref fa) →
      ∃ fd : FuncData, (∀ (s : Shared) (u : Value), BindsTo s fd ⟨[u], []⟩ [("_law_script", u)]) ∧ ∀ base : Heap, (K w.params).In base → base.Ns mainGlobals mg → FnOk l.prog w (K w.params) mg base CX0 6 fa fd ["_law_script"] (spLaw (K w.params))) :
    PySem.W.WalkO q loose XP YP l.row.toRowW d [] (fun f vs => PySem.call f vs) :=
  L2.walk_of (n := 63) (k := 6) (x := "_law_script") (CX := fun _ => CX0) (sp := fun w => spLaw (K w.params)) hn (by decide) hdf ⟨rfl, by decide, by decide⟩ hY F (fun _ _ a ns hl _ hS => ⟨a, ns, rfl, hS, hl, fun _ => rfl⟩) fun _ _ _ _ _ z => z
end FB
def PySem.W.Fast.tw15418108432628861513 : Nat := 0
def PySem.W.Fast.tw11371316687626461441 : Nat := 0
def PySem.W.Fast.tw9567849587854430330 : Nat := 0
def PySem.W.Fast.tw3111713195704507136 : Nat := 0
def PySem.W.Fast.tw12153548642667821191 : Nat := 0
def PySem.W.Fast.tw9999834558477874045 : Nat := 0
def PySem.W.Fast.tw17332715488030363010 : Nat := 0
def PySem.W.Fast.tw7643050424114324427 : Nat := 0
def PySem.W.Fast.tw4520326891458901850 : Nat := 0
def PySem.W.Fast.tw11825074129914552857 : Nat := 0
def PySem.W.Fast.tw8546542182768420557 : Nat := 0
def PySem.W.Fast.tw15585344381717654932 : Nat := 0
def PySem.W.Fast.tw6140472063700552918 : Nat := 0
def PySem.W.Fast.tw8488929935416100781 : Nat := 0
def PySem.W.Fast.tw6975444115302714367 : Nat := 0
def PySem.W.Fast.tw5620625978322755954 : Nat := 0
def PySem.W.Fast.tw4456577471121750517 : Nat := 0
def PySem.W.Fast.tw10471078129276637349 : Nat := 0
def PySem.W.Fast.tw14155940730399218297 : Nat := 0
def PySem.W.Fast.tw12945277799737655926 : Nat := 0
def PySem.W.Fast.tw5644363968523079271 : Nat := 0
def PySem.W.Fast.tw456186609699520689 : Nat := 0
def PySem.W.Fast.tw14893204647062674364 : Nat := 0
def PySem.W.Fast.tw11263765937282544861 : Nat := 0
def PySem.W.Fast.tw7341386365858387988 : Nat := 0
def PySem.W.Fast.tw15419085941489317196 : Nat := 0
def PySem.W.Fast.tw3348204943275331754 : Nat := 0
def PySem.W.Fast.tw13039223287479755180 : Nat := 0
def PySem.W.Fast.tw16064591327648040993 : Nat := 0
def PySem.W.Fast.tw8341670451061677466 : Nat := 0
def PySem.W.Fast.tw3855957001830799644 : Nat := 0
def PySem.W.Fast.tw4662051929428876091 : Nat := 0
def PySem.W.Fast.tw18171335165093220191 : Nat := 0
def PySem.W.Fast.tw2355563875259009620 : Nat := 0
def PySem.W.Fast.tw6339844425586380710 : Nat := 0
def PySem.W.Fast.tw15120869423323130521 : Nat := 0
def PySem.W.Fast.tw1089874329035382471 : Nat := 0
def PySem.W.Fast.tw3852338131979823068 : Nat := 0
def PySem.W.Fast.tw17212880851633722873 : Nat := 0
def PySem.W.Fast.tw6397055399969722324 : Nat := 0
def PySem.W.Fast.tw12589638149815864799 : Nat := 0
def PySem.W.Fast.tw17896615121064406347 : Nat := 0
def PySem.W.Fast.tw6367819276283662907 : Nat := 0
def PySem.W.Fast.tw9365080566046313724 : Nat := 0
def PySem.W.Fast.tw9979800520676200494 : Nat := 0
def PySem.W.Fast.tw8812277875245340145 : Nat := 0
def PySem.W.Fast.tw10038158044696257230 : Nat := 0
def PySem.W.Fast.tw5815845423701472246 : Nat := 0
def PySem.W.Fast.tw16283709269755791993 : Nat := 0
def PySem.W.Fast.tw7411653052332339281 : Nat := 0
def PySem.W.Fast.tw2995480874842664225 : Nat := 0
def PySem.W.Fast.tw12796672243035558893 : Nat := 0
def PySem.W.Fast.tw16609855024877110657 : Nat := 0
def PySem.W.Fast.tw2609379509502498516 : Nat := 0
def PySem.W.Fast.tw5598754384491320932 : Nat := 0
def PySem.W.Fast.tw1043056140460938113 : Nat := 0
def PySem.W.Fast.tw2868643375292569756 : Nat := 0
def PySem.W.Fast.tw95208112036800475 : Nat := 0
def PySem.W.Fast.tw14655696134913370527 : Nat := 0
def PySem.W.Fast.tw10380027428222503948 : Nat := 0
def PySem.W.Fast.tw2820338638342120456 : Nat := 0
def PySem.W.Fast.tw12949386048548750575 : Nat := 0
def PySem.W.Fast.tw16324654199088575820 : Nat := 0
def PySem.W.Fast.tw1173730609014048721 : Nat := 0
def PySem.W.Fast.tw6736662896494813661 : Nat := 0
def PySem.W.Fast.tw15326448209784292842 : Nat := 0
def PySem.W.Fast.tw18365903682962618287 : Nat := 0
def PySem.W.Fast.tw10774525794137279816 : Nat := 0
def PySem.W.Fast.tw16565113477595843107 : Nat := 0
def PySem.W.Fast.tw10981798659401449380 : Nat := 0
def PySem.W.Fast.tw3910611586393273330 : Nat := 0
def PySem.W.Fast.tw12960095788263775320 : Nat := 0
def PySem.W.Fast.tw5602721051098049878 : Nat := 0
def PySem.W.Fast.tw5931747954175805131 : Nat := 0
def PySem.W.Fast.tw5214350717903843082 : Nat := 0
def PySem.W.Fast.tw15647076830623474887 : Nat := 0
def PySem.W.Fast.tw8244622565763129218 : Nat := 0
def PySem.W.Fast.tw8483976682040680046 : Nat := 0
def PySem.W.Fast.tw13037029693601020794 : Nat := 0
def PySem.W.Fast.tw2126662684663260528 : Nat := 0
def PySem.W.Fast.tw1989455383921485945 : Nat := 0
def PySem.W.Fast.tw13303370677095885922 : Nat := 0
def PySem.W.Fast.tw8866424665226385600 : Nat := 0
def PySem.W.Fast.tw4314116733001066251 : Nat := 0
def PySem.W.Fast.tw1383966420287978375 : Nat := 0
def PySem.W.Fast.tw17662023517324598315 : Nat := 0
def PySem.W.Fast.tw9829922959094388496 : Nat := 0
def PySem.W.Fast.tw3154135981634970080 : Nat := 0
def PySem.W.Fast.tw7572582421309651277 : Nat := 0
def PySem.W.Fast.tw1789856339458122419 : Nat := 0
def PySem.W.Fast.tw11910223224867499040 : Nat := 0
def PySem.W.Fast.tw17573038341296436221 : Nat := 0
def PySem.W.Fast.tw232656435901664362 : Nat := 0
def PySem.W.Fast.tw16578499944918817758 : Nat := 0
def PySem.W.Fast.tw10191519592791319263 : Nat := 0
def PySem.W.Fast.tw5038672906665790815 : Nat := 0
def PySem.W.Fast.tw11077366789748871922 : Nat := 0
def PySem.W.Fast.tw9511056612341296809 : Nat := 0
def PySem.W.Fast.tw10416633408485967118 : Nat := 0
def PySem.W.Fast.tw11756553578600464618 : Nat := 0
def PySem.W.Fast.tw16490555868819294913 : Nat := 0
def PySem.W.Fast.tw8423546941158436738 : Nat := 0
def PySem.W.Fast.tw3554965475465628177 : Nat := 0
def PySem.W.Fast.tw9571090479651837184 : Nat := 0
def PySem.W.Fast.tw3957208660632412844 : Nat := 0
def PySem.W.Fast.tw4119798219533837824 : Nat := 0
def PySem.W.Fast.tw15802329404441873662 : Nat := 0
def PySem.W.Fast.tw15161980445426296966 : Nat := 0
def PySem.W.Fast.tw3839190581651997247 : Nat := 0
def PySem.W.Fast.tw17249525552392701703 : Nat := 0
def PySem.W.Fast.tw15937067770315755263 : Nat := 0
def PySem.W.Fast.tw8100982522835039954 : Nat := 0
def PySem.W.Fast.tw2736622992990227653 : Nat := 0
def PySem.W.Fast.tw5798851402027819388 : Nat := 0
def PySem.W.Fast.tw2743156197830024105 : Nat := 0
def PySem.W.Fast.tw9831089050118783448 : Nat := 0
def PySem.W.Fast.tw9365390967524845798 : Nat := 0
def PySem.W.Fast.tw8491426964257416106 : Nat := 0
def PySem.W.Fast.tw9217282390093500395 : Nat := 0
def PySem.W.Fast.tw11075809008531178419 : Nat := 0
def PySem.W.Fast.tw5574868547420220466 : Nat := 0
def PySem.W.Fast.tw9591183674979641508 : Nat := 0
def PySem.W.Fast.tw4728900024450218506 : Nat := 0
def PySem.W.Fast.tw6622581871626362262 : Nat := 0
def PySem.W.Fast.tw12553221994838740131 : Nat := 0
def PySem.W.Fast.tw2172716286577969660 : Nat := 0
def PySem.W.Fast.tw8703432830260118723 : Nat := 0
def PySem.W.Fast.tw11884706028646249365 : Nat := 0
def PySem.W.Fast.tw6976109725418900563 : Nat := 0
def PySem.W.Fast.tw16828339271293411360 : Nat := 0
def PySem.W.Fast.tw11938545730221245550 : Nat := 0
def PySem.W.Fast.tw6427651326098845078 : Nat := 0
def PySem.W.Fast.tw5920440486676264025 : Nat := 0
def PySem.W.Fast.tw14320423693182504569 : Nat := 0
def PySem.W.Fast.tw14450797437473248319 : Nat := 0
def PySem.W.Fast.tw1441689091244779973 : Nat := 0
def PySem.W.Fast.tw4607711932928478830 : Nat := 0
def PySem.W.Fast.tw4605873404694273767 : Nat := 0
def PySem.W.Fast.tw4537857755629963726 : Nat := 0
def PySem.W.Fast.tw13491887875148060959 : Nat := 0
def PySem.W.Fast.tw16951909785083470256 : Nat := 0
def PySem.W.Fast.tw1683582928445461044 : Nat := 0
def PySem.W.Fast.tw4134824616946168020 : Nat := 0
def PySem.W.Fast.tw4343850493559598539 : Nat := 0
def PySem.W.Fast.tw2094420296188282061 : Nat := 0
def PySem.W.Fast.tw1636194359742066198 : Nat := 0
def PySem.W.Fast.tw15814096764792515334 : Nat := 0
def PySem.W.Fast.tw10393660265269518037 : Nat := 0
def PySem.W.Fast.tw8867149361951189933 : Nat := 0
def PySem.W.Fast.tw3054054833835671357 : Nat := 0
def PySem.W.Fast.tw11521695624921917707 : Nat := 0
def PySem.W.Fast.tw13187979042999873972 : Nat := 0
def PySem.W.Fast.tw13434825499105805411 : Nat := 0
def PySem.W.Fast.tw6159485343555024759 : Nat := 0
def PySem.W.Fast.tw735542284219279565 : Nat := 0
def PySem.W.Fast.tw12391431326700291351 : Nat := 0
def PySem.W.Fast.tw14650824511278716255 : Nat := 0
def PySem.W.Fast.tw18338484495922388561 : Nat := 0
def PySem.W.Fast.tw12337246192372725780 : Nat := 0
def PySem.W.Fast.tw2090763602181724794 : Nat := 0
def PySem.W.Fast.tw6217186019933738688 : Nat := 0
def PySem.W.Fast.tw10287476009012699828 : Nat := 0
def PySem.W.Fast.tw16978357173113782459 : Nat := 0
def PySem.W.Fast.tw9399565437321661407 : Nat := 0
def PySem.W.Fast.tw17649985247925853076 : Nat := 0
def PySem.W.Fast.tw17097802522028122167 : Nat := 0
def PySem.W.Fast.tw2353434616921328979 : Nat := 0
def PySem.W.Fast.tw2811623291614965635 : Nat := 0
def PySem.W.Fast.tw4375038317132693044 : Nat := 0
def PySem.W.Fast.tw4446153529571068807 : Nat := 0
def PySem.W.Fast.tw8883050746289234422 : Nat := 0
def PySem.W.Fast.tw7996183741280622147 : Nat := 0
def PySem.W.Fast.tw6594890214301331245 : Nat := 0
def PySem.W.Fast.tw17564434872006510805 : Nat := 0
def PySem.W.Fast.tw9783813658218136873 : Nat := 0
def PySem.W.Fast.tw16113807236435195187 : Nat := 0
def PySem.W.Fast.tw10451216819465399869 : Nat := 0
def PySem.W.Fast.tw765093500088689942 : Nat := 0
def PySem.W.Fast.tw1732498879445630077 : Nat := 0
def PySem.W.Fast.tw11261917677820219814 : Nat := 0
def PySem.W.Fast.tw15819019752672773396 : Nat := 0
def PySem.W.Fast.tw12313609287190417662 : Nat := 0
def PySem.W.Fast.tw17945233457530272250 : Nat := 0
def PySem.W.Fast.tw17223032064557889821 : Nat := 0
def PySem.W.Fast.tw13582054865342188825 : Nat := 0
def PySem.W.Fast.tw2639623692460111264 : Nat := 0
def PySem.W.Fast.tw12021428671682328026 : Nat := 0
def PySem.W.Fast.tw11903329851627505925 : Nat := 0
def PySem.W.Fast.tw17574199198093797626 : Nat := 0
def PySem.W.Fast.tw6552885831077253510 : Nat := 0
def PySem.W.Fast.tw4993723541785002848 : Nat := 0
def PySem.W.Fast.tw2635963237284014069 : Nat := 0
def PySem.W.Fast.tw2696105094207357929 : Nat := 0
def PySem.W.Fast.tw15712363454537571919 : Nat := 0
def PySem.W.Fast.tw10397978912681850008 : Nat := 0
def PySem.W.Fast.tw11676982906714831106 : Nat := 0
def PySem.W.Fast.tw10539521461771216541 : Nat := 0
def PySem.W.Fast.tw14927918156093021908 : Nat := 0
def PySem.W.Fast.tw2371058308026967646 : Nat := 0
def PySem.W.Fast.tw1013054030910942050 : Nat := 0
def PySem.W.Fast.tw18139417412618568459 : Nat := 0
def PySem.W.Fast.tw17641706648444657203 : Nat := 0
def PySem.W.Fast.tw19748092673722917 : Nat := 0
def PySem.W.Fast.tw12857861354372414819 : Nat := 0
def PySem.W.Fast.tw11506546124966854990 : Nat := 0
def PySem.W.Fast.tw7590635717263612473 : Nat := 0
def PySem.W.Fast.tw17765938105304855840 : Nat := 0
def PySem.W.Fast.tw7960163433009484455 : Nat := 0
def PySem.W.Fast.tw6123843035099893167 : Nat := 0
def PySem.W.Fast.tw2799150462346180033 : Nat := 0
def PySem.W.Fast.tw7929653412936752845 : Nat := 0
def PySem.W.Fast.tw5580935944711581468 : Nat := 0
def PySem.W.Fast.tw325571313984582580 : Nat := 0
def PySem.W.Fast.tw14156102188060087988 : Nat := 0
def PySem.W.Fast.tw2375522417949311726 : Nat := 0
def PySem.W.Fast.tw8564268426525108290 : Nat := 0
def PySem.W.Fast.tw8164216115950439170 : Nat := 0
def PySem.W.Fast.tw5457360303699806932 : Nat := 0
def PySem.W.Fast.tw16149828182613814360 : Nat := 0
def PySem.W.Fast.tw10938777071603016530 : Nat := 0
def PySem.W.Fast.tw1236743895801305737 : Nat := 0
def PySem.W.Fast.tw12445524494372606847 : Nat := 0
def PySem.W.Fast.tw3993468973751306317 : Nat := 0
def PySem.W.Fast.tw17347008996065450453 : Nat := 0
def PySem.W.Fast.tw10143022189738729845 : Nat := 0
def PySem.W.Fast.tw2136002538625946522 : Nat := 0
def PySem.W.Fast.tw12670755474397138981 : Nat := 0
def PySem.W.Fast.tw9025893950001096282 : Nat := 0
def PySem.W.Fast.tw4225508146796003774 : Nat := 0
def PySem.W.Fast.tw18133944380659531877 : Nat := 0
def PySem.W.Fast.tw12058994744900868043 : Nat := 0
def PySem.W.Fast.tw2396343336131199500 : Nat := 0
def PySem.W.Fast.tw15479000113102249879 : Nat := 0
def PySem.W.Fast.tw4885831801768031065 : Nat := 0
def PySem.W.Fast.tw3416202508463085600 : Nat := 0
def PySem.W.Fast.tw10395728631972081030 : Nat := 0
def PySem.W.Fast.tw14400305566337094805 : Nat := 0
def PySem.W.Fast.tw14894260559283981087 : Nat := 0
def PySem.W.Fast.tw3049519441817647648 : Nat := 0
def PySem.W.Fast.tw12429077897560404006 : Nat := 0
def PySem.W.Fast.tw684997328215814840 : Nat := 0
def PySem.W.Fast.tw4823210628352490505 : Nat := 0
def PySem.W.Fast.tw6535504511726064585 : Nat := 0
def PySem.W.Fast.tw15486693418413194500 : Nat := 0
def PySem.W.Fast.tw4467915831259310669 : Nat := 0
def PySem.W.Fast.tw8582177469596622966 : Nat := 0
def PySem.W.Fast.tw1058733909863449135 : Nat := 0
def PySem.W.Fast.tw5077098234919932890 : Nat := 0
def PySem.W.Fast.tw5222709195202842525 : Nat := 0
def PySem.W.Fast.tw1608502068362978309 : Nat := 0
def PySem.W.Fast.tw1700583348820842912 : Nat := 0
def PySem.W.Fast.tw14651240722355803798 : Nat := 0
def PySem.W.Fast.tw10727312451639473541 : Nat := 0
def PySem.W.Fast.tw8508053610179330245 : Nat := 0
def PySem.W.Fast.tw1107296124215760154 : Nat := 0
def PySem.W.Fast.tw14980995421481301671 : Nat := 0
def PySem.W.Fast.tw14663191653184030734 : Nat := 0
def PySem.W.Fast.tw11159865641393742214 : Nat := 0
def PySem.W.Fast.tw12220306167197579868 : Nat := 0
def PySem.W.Fast.tw7652831699070974052 : Nat := 0
def PySem.W.Fast.tw1336530709341887581 : Nat := 0
def PySem.W.Fast.tw5005805675824736660 : Nat := 0
def PySem.W.Fast.tw14522185586014660311 : Nat := 0
def PySem.W.Fast.tw3855214684436676677 : Nat := 0
def PySem.W.Fast.tw14355534517478688048 : Nat := 0
def PySem.W.Fast.tw13540160847112975938 : Nat := 0
def PySem.W.Fast.tw5465261220847408789 : Nat := 0
def PySem.W.Fast.tw13758603892493410705 : Nat := 0
def PySem.W.Fast.tw12091408848650210743 : Nat := 0
def PySem.W.Fast.tw6652747789975064970 : Nat := 0
def PySem.W.Fast.tw6985699911024288836 : Nat := 0
def PySem.W.Fast.tw3505165390483579327 : Nat := 0
def PySem.W.Fast.tw3210763919004663628 : Nat := 0
def PySem.W.Fast.tw6171678263041935970 : Nat := 0
def PySem.W.Fast.tw13225586329767579277 : Nat := 0
def PySem.W.Fast.tw6646823967557281741 : Nat := 0
def PySem.W.Fast.tw9651308703662298748 : Nat := 0
def PySem.W.Fast.tw5310100618603593077 : Nat := 0
def PySem.W.Fast.tw9209887302671241923 : Nat := 0
def PySem.W.Fast.tw12418510431098020544 : Nat := 0
def PySem.W.Fast.tw4617260785640526966 : Nat := 0
def PySem.W.Fast.tw10330906741111856291 : Nat := 0
def PySem.W.Fast.tw12536036388730043757 : Nat := 0
def PySem.W.Fast.tw6339758714059814968 : Nat := 0
def PySem.W.Fast.tw1901297586213239454 : Nat := 0
def PySem.W.Fast.tw13375612831401337410 : Nat := 0
def PySem.W.Fast.tw16985897539955617841 : Nat := 0
def PySem.W.Fast.tw15198606028479648865 : Nat := 0
def PySem.W.Fast.tw8056005138685963620 : Nat := 0
def PySem.W.Fast.tw14077181484148208976 : Nat := 0
def PySem.W.Fast.tw4576423845078561336 : Nat := 0
def PySem.W.Fast.tw17640379972084804234 : Nat := 0
def PySem.W.Fast.tw5836334290216160671 : Nat := 0
def PySem.W.Fast.tw3458082555058973466 : Nat := 0
def PySem.W.Fast.tw17111361165911523361 : Nat := 0
def PySem.W.Fast.tw14431535519348539368 : Nat := 0
def PySem.W.Fast.tw17577152889273523299 : Nat := 0
def PySem.W.Fast.tw12887204761034097045 : Nat := 0
def PySem.W.Fast.tw3123986315057629600 : Nat := 0
def PySem.W.Fast.tw9978646820493667346 : Nat := 0
def PySem.W.Fast.tw6452449668036577242 : Nat := 0
def PySem.W.Fast.tw1494572554538298888 : Nat := 0
def PySem.W.Fast.tw14331132670720204005 : Nat := 0
def PySem.W.Fast.tw3170654854641499913 : Nat := 0
def PySem.W.Fast.tw11029814439248726187 : Nat := 0
def PySem.W.Fast.tw17325425368613518075 : Nat := 0
def PySem.W.Fast.tw13371370072742699830 : Nat := 0
def PySem.W.Fast.tw13884642879526177836 : Nat := 0
def PySem.W.Fast.tw7024267215771089226 : Nat := 0
def PySem.W.Fast.tw9929420881311893120 : Nat := 0
def PySem.W.Fast.tw6689045391401252457 : Nat := 0
def PySem.W.Fast.tw13224148736815641452 : Nat := 0
def PySem.W.Fast.tw17364695375289248244 : Nat := 0
def PySem.W.Fast.tw2679227437829389635 : Nat := 0
def PySem.W.Fast.tw10954835850075060383 : Nat := 0
def PySem.W.Fast.tw14316964320352808078 : Nat := 0
def PySem.W.Fast.tw1382937522295611451 : Nat := 0
def PySem.W.Fast.tw3802691236362054060 : Nat := 0
def PySem.W.Fast.tw11812693237974884770 : Nat := 0
def PySem.W.Fast.tw15934107379104282100 : Nat := 0
def PySem.W.Fast.tw12609311930398360364 : Nat := 0
def PySem.W.Fast.tw13624407082003761769 : Nat := 0
def PySem.W.Fast.tw6303452615113783933 : Nat := 0
def PySem.W.Fast.tw14358787397147144497 : Nat := 0
def PySem.W.Fast.tw1893687424685295668 : Nat := 0
def PySem.W.Fast.tw18210098400918071468 : Nat := 0
def PySem.W.Fast.tw9471803899189581500 : Nat := 0
def PySem.W.Fast.tw1807666739689041476 : Nat := 0
def PySem.W.Fast.tw4163423197030647627 : Nat := 0
def PySem.W.Fast.tw2156758806841343159 : Nat := 0
def PySem.W.Fast.tw1563553665257559540 : Nat := 0
def PySem.W.Fast.tw6097442051819807953 : Nat := 0
def PySem.W.Fast.tw14485677516143754566 : Nat := 0
def PySem.W.Fast.tw7257568658127640034 : Nat := 0
def PySem.W.Fast.tw6100045067798826697 : Nat := 0
def PySem.W.Fast.tw11312683241147143297 : Nat := 0
def PySem.W.Fast.tw16522157789197175995 : Nat := 0
def PySem.W.Fast.tw15044501473937612251 : Nat := 0
def PySem.W.Fast.tw14861317149280407259 : Nat := 0
def PySem.W.Fast.tw16538315768015575770 : Nat := 0
def PySem.W.Fast.tw17228706078190083764 : Nat := 0
def PySem.W.Fast.tw2319636699886453680 : Nat := 0
def PySem.W.Fast.tw11628257963510259912 : Nat := 0
def PySem.W.Fast.tw978328982484237876 : Nat := 0
def PySem.W.Fast.tw4774691627599489693 : Nat := 0
def PySem.W.Fast.tw11127792599658041896 : Nat := 0
def PySem.W.Fast.tw12213832683542026806 : Nat := 0
def PySem.W.Fast.tw16110147899866749673 : Nat := 0
def PySem.W.Fast.tw11574574129960870007 : Nat := 0
def PySem.W.Fast.tw7412378252213524727 : Nat := 0
def PySem.W.Fast.tw4801372111813497643 : Nat := 0
def PySem.W.Fast.tw16829458170909943013 : Nat := 0
def PySem.W.Fast.tw3614713376721846085 : Nat := 0
def PySem.W.Fast.tw16424285651460863803 : Nat := 0
def PySem.W.Fast.tw9019519228360295370 : Nat := 0
def PySem.W.Fast.tw2889091414361573558 : Nat := 0
def PySem.W.Fast.tw9825129208403257668 : Nat := 0
def PySem.W.Fast.tw13400477392188583483 : Nat := 0
def PySem.W.Fast.tw4306590617647290639 : Nat := 0
def PySem.W.Fast.tw3441566710670142371 : Nat := 0
def PySem.W.Fast.tw7117961868417476799 : Nat := 0
def PySem.W.Fast.tw6474230197426641440 : Nat := 0
def PySem.W.Fast.tw1004759011306633641 : Nat := 0
def PySem.W.Fast.tw4964521098880462523 : Nat := 0
def PySem.W.Fast.tw10189056030927009604 : Nat := 0
def PySem.W.Fast.tw16242192533952973053 : Nat := 0
def PySem.W.Fast.tw956989394865422409 : Nat := 0
def PySem.W.Fast.tw3500529644601620968 : Nat := 0
def PySem.W.Fast.tw3768880222996499138 : Nat := 0
def PySem.W.Fast.tw4758028700806050753 : Nat := 0
def PySem.W.Fast.tw8316646522154573380 : Nat := 0
def PySem.W.Fast.tw13619247595686568127 : Nat := 0
def PySem.W.Fast.tw321639807462249258 : Nat := 0
def PySem.W.Fast.tw7294902538155256871 : Nat := 0
def PySem.W.Fast.tw4198223151000518418 : Nat := 0
def PySem.W.Fast.tw14937556834732594718 : Nat := 0
def PySem.W.Fast.tw7077628050514402841 : Nat := 0
def PySem.W.Fast.tw14360311931626789273 : Nat := 0
def PySem.W.Fast.tw8937582459078259577 : Nat := 0
def PySem.W.Fast.tw12997716481228931713 : Nat := 0
def PySem.W.Fast.tw6020950633863096673 : Nat := 0
def PySem.W.Fast.tw11628670523269061988 : Nat := 0
def PySem.W.Fast.tw4168929429995627085 : Nat := 0
def PySem.W.Fast.tw2489629799223915742 : Nat := 0
def PySem.W.Fast.tw9264906049932430644 : Nat := 0
def PySem.W.Fast.tw10684438775984218940 : Nat := 0
def PySem.W.Fast.tw6276780649537489999 : Nat := 0
def PySem.W.Fast.tw1181990150409534376 : Nat := 0
def PySem.W.Fast.tw1626186437172724242 : Nat := 0
def PySem.W.Fast.tw8698043184601764035 : Nat := 0
def PySem.W.Fast.tw7640850939559142137 : Nat := 0
def PySem.W.Fast.tw16831234876095882723 : Nat := 0
def PySem.W.Fast.tw11422268474038959380 : Nat := 0
def PySem.W.Fast.tw13597088344533575122 : Nat := 0
def PySem.W.Fast.tw2884434541471215919 : Nat := 0
def PySem.W.Fast.tw5317602658892961837 : Nat := 0
def PySem.W.Fast.tw14530298557737011932 : Nat := 0
def PySem.W.Fast.tw3784399431866469317 : Nat := 0
def PySem.W.Fast.tw12768215804097908230 : Nat := 0
def PySem.W.Fast.tw14063921835811041513 : Nat := 0
def PySem.W.Fast.tw4306381836580209381 : Nat := 0
def PySem.W.Fast.tw10550178238186926185 : Nat := 0
def PySem.W.Fast.tw17250845816146367001 : Nat := 0
def PySem.W.Fast.tw6161351998233970251 : Nat := 0
def PySem.W.Fast.tw16131592398498239607 : Nat := 0
def PySem.W.Fast.tw18120843180464681821 : Nat := 0
def PySem.W.Fast.tw5129769761433065163 : Nat := 0
def PySem.W.Fast.tw13915519350394515545 : Nat := 0
def PySem.W.Fast.tw3301058228243154607 : Nat := 0
def PySem.W.Fast.tw15795668631800987388 : Nat := 0
def PySem.W.Fast.tw15400734613153439849 : Nat := 0
def PySem.W.Fast.tw3507618334671948221 : Nat := 0
def PySem.W.Fast.tw2815973578714082302 : Nat := 0
def PySem.W.Fast.tw5525165820134825551 : Nat := 0
def PySem.W.Fast.tw6243185304559982180 : Nat := 0
def PySem.W.Fast.tw5440584183348358217 : Nat := 0
def PySem.W.Fast.tw9896116934977735724 : Nat := 0
def PySem.W.Fast.tw214609727744511333 : Nat := 0
def PySem.W.Fast.tw15584163588378337685 : Nat := 0
def PySem.W.Fast.tw4439140793110904401 : Nat := 0
def PySem.W.Fast.tw4244162140434692311 : Nat := 0
def PySem.W.Fast.tw15330584118035716143 : Nat := 0
def PySem.W.Fast.tw8023185686733545944 : Nat := 0
def PySem.W.Fast.tw2804234959582332873 : Nat := 0
def PySem.W.Fast.tw12585748715943734165 : Nat := 0
def PySem.W.Fast.tw16200543679323586290 : Nat := 0
def PySem.W.Fast.tw5224165132345409034 : Nat := 0
def PySem.W.Fast.tw7336466521631293568 : Nat := 0
def PySem.W.Fast.tw864064500580237932 : Nat := 0
def PySem.W.Fast.tw10271273646519363665 : Nat := 0
def PySem.W.Fast.tw10281172647731482500 : Nat := 0
def PySem.W.Fast.tw657653202637868700 : Nat := 0
def PySem.W.Fast.tw9547889317130252847 : Nat := 0
def PySem.W.Fast.tw88623729080437331 : Nat := 0
def PySem.W.Fast.tw3660964837434686987 : Nat := 0
def PySem.W.Fast.tw13841442426288432930 : Nat := 0
def PySem.W.Fast.tw17754273879872220549 : Nat := 0
def PySem.W.Fast.tw12139695492080939907 : Nat := 0
def PySem.W.Fast.tw1068183619448600696 : Nat := 0
def PySem.W.Fast.tw14145982217178038194 : Nat := 0
def PySem.W.Fast.tw11129540187985576395 : Nat := 0
def PySem.W.Fast.tw2279144792021898357 : Nat := 0
def PySem.W.Fast.tw17629475409906168842 : Nat := 0
def PySem.W.Fast.tw1974478943115794696 : Nat := 0
def PySem.W.Fast.tw10498403533661318778 : Nat := 0
def PySem.W.Fast.tw1066928212196735612 : Nat := 0
def PySem.W.Fast.tw9312095323654622881 : Nat := 0
def PySem.W.Fast.tw7246266167908435936 : Nat := 0
def PySem.W.Fast.tw12415034253348199756 : Nat := 0
def PySem.W.Fast.tw5131680728263221270 : Nat := 0
def PySem.W.Fast.tw9716393564125610613 : Nat := 0
def PySem.W.Fast.tw18429499481023386922 : Nat := 0
def PySem.W.Fast.tw9079744609392757274 : Nat := 0
def PySem.W.Fast.tw17130918437702592123 : Nat := 0
def PySem.W.Fast.tw16581124334363848458 : Nat := 0
def PySem.W.Fast.tw15724218541244838078 : Nat := 0
def PySem.W.Fast.tw17827091448347897952 : Nat := 0
def PySem.W.Fast.tw13543162643295961303 : Nat := 0
def PySem.W.Fast.tw1420771740552755331 : Nat := 0
def PySem.W.Fast.tw5218806252941241270 : Nat := 0
def PySem.W.Fast.tw9629108911868936112 : Nat := 0
def PySem.W.Fast.tw16783724262622423164 : Nat := 0
def PySem.W.Fast.tw12806782672910745916 : Nat := 0
def PySem.W.Fast.tw10704783485946658481 : Nat := 0
def PySem.W.Fast.tw10536450469312476943 : Nat := 0
def PySem.W.Fast.tw8723922859957654229 : Nat := 0
def PySem.W.Fast.tw5371612063716976657 : Nat := 0
def PySem.W.Fast.tw14916367441080332567 : Nat := 0
def PySem.W.Fast.tw247023649007020617 : Nat := 0
def PySem.W.Fast.tw2346341458788197783 : Nat := 0
def PySem.W.Fast.tw8188512676316594259 : Nat := 0
def PySem.W.Fast.tw1493915416136084940 : Nat := 0
def PySem.W.Fast.tw7752061962282042477 : Nat := 0
def PySem.W.Fast.tw5349522790024264688 : Nat := 0
def PySem.W.Fast.tw9806990130069232822 : Nat := 0
def PySem.W.Fast.tw15466318623552411461 : Nat := 0
def PySem.W.Fast.tw12101960743436448067 : Nat := 0
def PySem.W.Fast.tw12469896707579668342 : Nat := 0
def PySem.W.Fast.tw13846967105210350130 : Nat := 0
def PySem.W.Fast.tw14792083622368298991 : Nat := 0
def PySem.W.Fast.tw10563645660189342925 : Nat := 0
def PySem.W.Fast.tw14343099096990307304 : Nat := 0
def PySem.W.Fast.tw13896532179765836862 : Nat := 0
def PySem.W.Fast.tw337321815168262700 : Nat := 0
def PySem.W.Fast.tw11202913781872533784 : Nat := 0
def PySem.W.Fast.tw17484987593311346412 : Nat := 0
def PySem.W.Fast.tw6303984488238141915 : Nat := 0
def PySem.W.Fast.tw9624511436162308817 : Nat := 0
def PySem.W.Fast.tw4037091035881260535 : Nat := 0
def PySem.W.Fast.tw1843492825243627355 : Nat := 0
def PySem.W.Fast.tw5534544960612496352 : Nat := 0
def PySem.W.Fast.tw16006520216768651218 : Nat := 0
def PySem.W.Fast.tw11300654742001970007 : Nat := 0
def PySem.W.Fast.tw13740742433221035422 : Nat := 0
def PySem.W.Fast.tw1160461440934368057 : Nat := 0
def PySem.W.Fast.tw2278410782505185526 : Nat := 0
def PySem.W.Fast.tw1183710063304423625 : Nat := 0
def PySem.W.Fast.tw7454821274699634634 : Nat := 0
def PySem.W.Fast.tw10505987345617981383 : Nat := 0
def PySem.W.Fast.tw8821178498900712715 : Nat := 0
def PySem.W.Fast.tw12533725465121228371 : Nat := 0
def PySem.W.Fast.tw5317135113658328913 : Nat := 0
def PySem.W.Fast.tw9404724888557822568 : Nat := 0
def PySem.W.Fast.tw6084444725858225958 : Nat := 0
def PySem.W.Fast.tw4442302495992275460 : Nat := 0
def PySem.W.Fast.tw12360323823989377494 : Nat := 0
def PySem.W.Fast.tw393219127419964687 : Nat := 0
def PySem.W.Fast.tw1854203514113181852 : Nat := 0
def PySem.W.Fast.tw4945414016990733777 : Nat := 0
def PySem.W.Fast.tw10246786061885429033 : Nat := 0
def PySem.W.Fast.tw4055284969203576245 : Nat := 0
def PySem.W.Fast.tw674655697605587971 : Nat := 0
def PySem.W.Fast.tw12841304923372894747 : Nat := 0
def PySem.W.Fast.tw1316370087094013715 : Nat := 0
def PySem.W.Fast.tw52641907120873074 : Nat := 0
def PySem.W.Fast.tw14462403924301334334 : Nat := 0
def PySem.W.Fast.tw9966591597045352819 : Nat := 0
def PySem.W.Fast.tw9109863543351900066 : Nat := 0
def PySem.W.Fast.tw3081376875949964106 : Nat := 0
def PySem.W.Fast.tw1314024727200867700 : Nat := 0
def PySem.W.Fast.tw6902262194538054402 : Nat := 0
def PySem.W.Fast.tw17519307068106033680 : Nat := 0
def PySem.W.Fast.tw13198105752116955848 : Nat := 0
def PySem.W.Fast.tw13506887101176292028 : Nat := 0
def PySem.W.Fast.tw2671063034596892399 : Nat := 0
def PySem.W.Fast.tw14709808807005672399 : Nat := 0
def PySem.W.Fast.tw726022629575207192 : Nat := 0
def PySem.W.Fast.tw8056139173555481992 : Nat := 0
def PySem.W.Fast.tw9979362898899198982 : Nat := 0
def PySem.W.Fast.tw814452267570164617 : Nat := 0
def PySem.W.Fast.tw2702823755256868494 : Nat := 0
def PySem.W.Fast.tw788915511071486115 : Nat := 0
def PySem.W.Fast.tw14572242462753899573 : Nat := 0
def PySem.W.Fast.tw1098672806192238106 : Nat := 0
def PySem.W.Fast.tw624900295839595269 : Nat := 0
def PySem.W.Fast.tw12565890953989087038 : Nat := 0
def PySem.W.Fast.tw583100556188874090 : Nat := 0
def PySem.W.Fast.tw5437785193590618431 : Nat := 0
def PySem.W.Fast.tw14255722542024611003 : Nat := 0
def PySem.W.Fast.tw7616498204572260791 : Nat := 0
def PySem.W.Fast.tw1396715112545653307 : Nat := 0
def PySem.W.Fast.tw17951966244488849353 : Nat := 0
def PySem.W.Fast.tw14789029806759137894 : Nat := 0
def PySem.W.Fast.tw1691479765545539769 : Nat := 0
def PySem.W.Fast.tw2629374156409567228 : Nat := 0
def PySem.W.Fast.tw3043447720091570576 : Nat := 0
def PySem.W.Fast.tw14504366479385044779 : Nat := 0
def PySem.W.Fast.tw17763634723419212099 : Nat := 0
def PySem.W.Fast.tw7006748742666429737 : Nat := 0
def PySem.W.Fast.tw4506985016148654273 : Nat := 0
def PySem.W.Fast.tw8715130832110952076 : Nat := 0
def PySem.W.Fast.tw8119097136045946115 : Nat := 0
def PySem.W.Fast.tw5971225920424421985 : Nat := 0
def PySem.W.Fast.tw5133785181644801561 : Nat := 0
def PySem.W.Fast.tw810531039976102152 : Nat := 0
def PySem.W.Fast.tw5288911251932824367 : Nat := 0
def PySem.W.Fast.tw2902566675526555323 : Nat := 0
def PySem.W.Fast.tw12876780526077149589 : Nat := 0
def PySem.W.Fast.tw8080815115726260457 : Nat := 0
def PySem.W.Fast.tw4167615325231968266 : Nat := 0
def PySem.W.Fast.tw1767305611680339104 : Nat := 0
def PySem.W.Fast.tw8480025067453884783 : Nat := 0
def PySem.W.Fast.tw11906724677395305498 : Nat := 0
def PySem.W.Fast.tw7351153646626297556 : Nat := 0
def PySem.W.Fast.tw17913278951552943825 : Nat := 0
def PySem.W.Fast.tw11459409101072292566 : Nat := 0
def PySem.W.Fast.tw5308698289141368346 : Nat := 0
def PySem.W.Fast.tw6661747202146500759 : Nat := 0
def PySem.W.Fast.tw9331192958989066498 : Nat := 0
def PySem.W.Fast.tw7597188747501558186 : Nat := 0
def PySem.W.Fast.tw3556877351719070584 : Nat := 0
def PySem.W.Fast.tw8450090978021232041 : Nat := 0
def PySem.W.Fast.tw11373901156263794091 : Nat := 0
def PySem.W.Fast.tw8333666536086523032 : Nat := 0
def PySem.W.Fast.tw2904748069445925426 : Nat := 0
def PySem.W.Fast.tw6328994063060362670 : Nat := 0
def PySem.W.Fast.tw18378736645020387160 : Nat := 0
def PySem.W.Fast.tw1339028123375690781 : Nat := 0
def PySem.W.Fast.tw18429266714716958164 : Nat := 0
def PySem.W.Fast.tw13589824032744648569 : Nat := 0
def PySem.W.Fast.tw10126939717823112825 : Nat := 0
def PySem.W.Fast.tw18406970339572871984 : Nat := 0
def PySem.W.Fast.tw2030958930993097379 : Nat := 0
def PySem.W.Fast.tw14082878220787851719 : Nat := 0
def PySem.W.Fast.tw14554578261660543492 : Nat := 0
def PySem.W.Fast.tw3178837153615691203 : Nat := 0
def PySem.W.Fast.tw5953641147347448775 : Nat := 0
def PySem.W.Fast.tw2616747582191469531 : Nat := 0
def PySem.W.Fast.tw6863323158820612923 : Nat := 0
def PySem.W.Fast.tw2821793301845397814 : Nat := 0
def PySem.W.Fast.tw14413380635502897710 : Nat := 0
def PySem.W.Fast.tw5346612669980285100 : Nat := 0
def PySem.W.Fast.tw17459130258874556951 : Nat := 0
def PySem.W.Fast.tw14228139192060789107 : Nat := 0
def PySem.W.Fast.tw4703203606915831285 : Nat := 0
def PySem.W.Fast.tw18236411387872192149 : Nat := 0
def PySem.W.Fast.tw15057661554202424910 : Nat := 0
def PySem.W.Fast.tw5003608334002709499 : Nat := 0
def PySem.W.Fast.tw14664158228470462255 : Nat := 0
def PySem.W.Fast.tw4354764333137244552 : Nat := 0
def PySem.W.Fast.tw5968842216557484046 : Nat := 0
def PySem.W.Fast.tw4683308210897933304 : Nat := 0
def PySem.W.Fast.tw5083626711792937325 : Nat := 0
def PySem.W.Fast.tw9313581233940873520 : Nat := 0
def PySem.W.Fast.tw15649441211116076272 : Nat := 0
def PySem.W.Fast.tw9800856597922221816 : Nat := 0
def PySem.W.Fast.tw17673534856809502023 : Nat := 0
def PySem.W.Fast.tw15351972928158542154 : Nat := 0
def PySem.W.Fast.tw9116162895229933711 : Nat := 0
def PySem.W.Fast.tw4359047492268339739 : Nat := 0
def PySem.W.Fast.tw9864947355788544512 : Nat := 0
def PySem.W.Fast.tw8847016165040119482 : Nat := 0
def PySem.W.Fast.tw1765282730532570297 : Nat := 0
def PySem.W.Fast.tw16823055383544061976 : Nat := 0
def PySem.W.Fast.tw8855860744316565828 : Nat := 0
def PySem.W.Fast.tw5556418101546380441 : Nat := 0
def PySem.W.Fast.tw17872975720738406082 : Nat := 0
def PySem.W.Fast.tw9042065910124900567 : Nat := 0
def PySem.W.Fast.tw405088509972812065 : Nat := 0
def PySem.W.Fast.tw5128197124749198132 : Nat := 0
def PySem.W.Fast.tw829960406282299403 : Nat := 0
def PySem.W.Fast.tw4071880481241762204 : Nat := 0
def PySem.W.Fast.tw17297878865906653663 : Nat := 0
def PySem.W.Fast.tw6549330452700154946 : Nat := 0
def PySem.W.Fast.tw7242056034050939608 : Nat := 0
def PySem.W.Fast.tw15053208985565750903 : Nat := 0
def PySem.W.Fast.tw15209451251366541784 : Nat := 0
def PySem.W.Fast.tw10774539368168752264 : Nat := 0
def PySem.W.Fast.tw10125003785735402605 : Nat := 0
def PySem.W.Fast.tw3631557425111783428 : Nat := 0
def PySem.W.Fast.tw7562749099055710717 : Nat := 0
def PySem.W.Fast.tw13645425215467609593 : Nat := 0
def PySem.W.Fast.tw16612403436356353829 : Nat := 0
def PySem.W.Fast.tw9513215947151448591 : Nat := 0
def PySem.W.Fast.tw1371875323045479829 : Nat := 0
def PySem.W.Fast.tw16552269420522432484 : Nat := 0
def PySem.W.Fast.tw13046297294974917149 : Nat := 0
def PySem.W.Fast.tw15962885774895678782 : Nat := 0
def PySem.W.Fast.tw7292625619180897921 : Nat := 0
def PySem.W.Fast.tw17759317874305665460 : Nat := 0
def PySem.W.Fast.tw9431599938113299915 : Nat := 0
def PySem.W.Fast.tw5115142564552032651 : Nat := 0
def PySem.W.Fast.tw8455774450038879449 : Nat := 0
def PySem.W.Fast.tw7425462899907780913 : Nat := 0
def PySem.W.Fast.tw2159590140539435479 : Nat := 0
def PySem.W.Fast.tw1756302411663947563 : Nat := 0
def PySem.W.Fast.tw12615995336626421158 : Nat := 0
def PySem.W.Fast.tw10663939936291155797 : Nat := 0
def PySem.W.Fast.tw3835158024966259308 : Nat := 0
def PySem.W.Fast.tw13744551394313487148 : Nat := 0
def PySem.W.Fast.tw14373281191054945318 : Nat := 0
def PySem.W.Fast.tw16278013939882896253 : Nat := 0
def PySem.W.Fast.tw17591013141567355530 : Nat := 0
def PySem.W.Fast.tw14365020307919719437 : Nat := 0
def PySem.W.Fast.tw8956861133928703155 : Nat := 0
def PySem.W.Fast.tw7867329887894280230 : Nat := 0
def PySem.W.Fast.tw3886890887255164286 : Nat := 0
def PySem.W.Fast.tw7312522190678253955 : Nat := 0
def PySem.W.Fast.tw1258347841218274546 : Nat := 0
def PySem.W.Fast.tw7314861577538549918 : Nat := 0
def PySem.W.Fast.tw8162265318373372239 : Nat := 0
def PySem.W.Fast.tw13387864858764317147 : Nat := 0
def PySem.W.Fast.tw3880245264407491060 : Nat := 0
def PySem.W.Fast.tw16018262054029388772 : Nat := 0
def PySem.W.Fast.tw10619609798754340660 : Nat := 0
def PySem.W.Fast.tw3556351923690866939 : Nat := 0
def PySem.W.Fast.tw3458954314634532736 : Nat := 0
def PySem.W.Fast.tw12413795435008768849 : Nat := 0
def PySem.W.Fast.tw1323116171552551557 : Nat := 0
def PySem.W.Fast.tw4793071298439534230 : Nat := 0
def PySem.W.Fast.tw2109208161910270924 : Nat := 0
def PySem.W.Fast.tw540104547836588766 : Nat := 0
def PySem.W.Fast.tw17882762591797148620 : Nat := 0
def PySem.W.Fast.tw2669390605249079775 : Nat := 0
def PySem.W.Fast.tw5783072745705176605 : Nat := 0
def PySem.W.Fast.tw13065971948626915259 : Nat := 0
def PySem.W.Fast.tw13530324955200950008 : Nat := 0
def PySem.W.Fast.tw17694654181788148926 : Nat := 0
def PySem.W.Fast.tw9091526480568890617 : Nat := 0
def PySem.W.Fast.tw6066207639239349684 : Nat := 0
def PySem.W.Fast.tw2066166652408949846 : Nat := 0
def PySem.W.Fast.tw13401815732421812388 : Nat := 0
def PySem.W.Fast.tw5128694687604342342 : Nat := 0
def PySem.W.Fast.tw14558001567306701466 : Nat := 0
def PySem.W.Fast.tw4894930245148756675 : Nat := 0
def PySem.W.Fast.tw13068010380724103465 : Nat := 0
def PySem.W.Fast.tw13289193326836190771 : Nat := 0
def PySem.W.Fast.tw6239216959387562590 : Nat := 0
def PySem.W.Fast.tw8736646764363946302 : Nat := 0
def PySem.W.Fast.tw16907398701139353790 : Nat := 0
def PySem.W.Fast.tw8859762968536821867 : Nat := 0
def PySem.W.Fast.tw7386452772761662364 : Nat := 0
def PySem.W.Fast.tw11957309604589486767 : Nat := 0
def PySem.W.Fast.tw10546435633231725879 : Nat := 0
def PySem.W.Fast.tw17351103548689151664 : Nat := 0
def PySem.W.Fast.tw640262389818365557 : Nat := 0
def PySem.W.Fast.tw3147755280583553151 : Nat := 0
def PySem.W.Fast.tw6244977676617621369 : Nat := 0
def PySem.W.Fast.tw7707877051869372858 : Nat := 0
def PySem.W.Fast.tw15211140085636918494 : Nat := 0
def PySem.W.Fast.tw8468969453563880898 : Nat := 0
def PySem.W.Fast.tw1853779922344880103 : Nat := 0
def PySem.W.Fast.tw485675606521106652 : Nat := 0
def PySem.W.Fast.tw11907169271169558218 : Nat := 0
def PySem.W.Fast.tw15511176233081407787 : Nat := 0
def PySem.W.Fast.tw15998155420807825423 : Nat := 0
def PySem.W.Fast.tw15597722280820132010 : Nat := 0
def PySem.W.Fast.tw8692149615364645941 : Nat := 0
def PySem.W.Fast.tw6400898131446013539 : Nat := 0
def PySem.W.Fast.tw17940394190217016038 : Nat := 0
def PySem.W.Fast.tw1259327846359983845 : Nat := 0
def PySem.W.Fast.tw450127828953468525 : Nat := 0
def PySem.W.Fast.tw983915364374025207 : Nat := 0
def PySem.W.Fast.tw6975628077073096050 : Nat := 0
def PySem.W.Fast.tw7244836844275347190 : Nat := 0
def PySem.W.Fast.tw677389567771622450 : Nat := 0
def PySem.W.Fast.tw1202114814390917577 : Nat := 0
def PySem.W.Fast.tw7839574323467258114 : Nat := 0
def PySem.W.Fast.tw7162949855279320599 : Nat := 0
def PySem.W.Fast.tw9002215278568616500 : Nat := 0
def PySem.W.Fast.tw16433270746760156662 : Nat := 0
def PySem.W.Fast.tw916991755503599482 : Nat := 0
def PySem.W.Fast.tw10345889241148625485 : Nat := 0
def PySem.W.Fast.tw12517929575399688677 : Nat := 0
def PySem.W.Fast.tw2038905637404678154 : Nat := 0
def PySem.W.Fast.tw8292765941367947064 : Nat := 0
def PySem.W.Fast.tw11529833407629578509 : Nat := 0
def PySem.W.Fast.tw5281926081834025882 : Nat := 0
def PySem.W.Fast.tw16686364098878736923 : Nat := 0
def PySem.W.Fast.tw16081658996071458240 : Nat := 0
def PySem.W.Fast.tw3286792928771413961 : Nat := 0
def PySem.W.Fast.tw8908347354737508289 : Nat := 0
def PySem.W.Fast.tw2585749075703914180 : Nat := 0
def PySem.W.Fast.tw3471961488637033225 : Nat := 0
def PySem.W.Fast.tw5084150257944174322 : Nat := 0
def PySem.W.Fast.tw17521992138878350171 : Nat := 0
def PySem.W.Fast.tw10502088296080523351 : Nat := 0
def PySem.W.Fast.tw4856284462977724232 : Nat := 0
def PySem.W.Fast.tw1810623625722380253 : Nat := 0
def PySem.W.Fast.tw5673001656032480390 : Nat := 0
def PySem.W.Fast.tw4725523947276276840 : Nat := 0
def PySem.W.Fast.tw12610523333841637050 : Nat := 0
def PySem.W.Fast.tw16077083859637699715 : Nat := 0
def PySem.W.Fast.tw9926706491123456440 : Nat := 0
def PySem.W.Fast.tw6677310389198636163 : Nat := 0
def PySem.W.Fast.tw2195918356400228276 : Nat := 0
def PySem.W.Fast.tw5400525377710743938 : Nat := 0
def PySem.W.Fast.tw3969839543352219407 : Nat := 0
def PySem.W.Fast.tw17552277940322974926 : Nat := 0
def PySem.W.Fast.tw6646196568395430424 : Nat := 0
def PySem.W.Fast.tw11082125548028090437 : Nat := 0
def PySem.W.Fast.tw5892984773102188680 : Nat := 0
def PySem.W.Fast.tw562525476641952278 : Nat := 0
def PySem.W.Fast.tw8554334477632111779 : Nat := 0
def PySem.W.Fast.tw10915670085458626973 : Nat := 0
def PySem.W.Fast.tw13662428945706240270 : Nat := 0
def PySem.W.Fast.tw10606011419969401524 : Nat := 0
def PySem.W.Fast.tw8001913768805857161 : Nat := 0
def PySem.W.Fast.tw14264007241470084042 : Nat := 0
def PySem.W.Fast.tw4635405253738745207 : Nat := 0
def PySem.W.Fast.tw15541144560234971626 : Nat := 0
def PySem.W.Fast.tw5881310838107277614 : Nat := 0
def PySem.W.Fast.tw10514902565444406250 : Nat := 0
def PySem.W.Fast.tw2358647563022110050 : Nat := 0
def PySem.W.Fast.tw4953130904497263643 : Nat := 0
def PySem.W.Fast.tw10807400713492315115 : Nat := 0
def PySem.W.Fast.tw7606412730198837878 : Nat := 0
def PySem.W.Fast.tw4619522005960682142 : Nat := 0
def PySem.W.Fast.tw7319036351108362232 : Nat := 0
def PySem.W.Fast.tw125958665103277854 : Nat := 0
def PySem.W.Fast.tw4022694744451111121 : Nat := 0
def PySem.W.Fast.tw7096708399699221775 : Nat := 0
def PySem.W.Fast.tw14478835835563673988 : Nat := 0
def PySem.W.Fast.tw10042939608830821502 : Nat := 0
def PySem.W.Fast.tw3947544238948002760 : Nat := 0
def PySem.W.Fast.tw1697097100890621675 : Nat := 0
def PySem.W.Fast.tw6831519685090301588 : Nat := 0
def PySem.W.Fast.tw8911861334535764697 : Nat := 0
def PySem.W.Fast.tw18073016979058604496 : Nat := 0
def PySem.W.Fast.tw9250047427050030589 : Nat := 0
def PySem.W.Fast.tw14850297769734791764 : Nat := 0
def PySem.W.Fast.tw10221910521515823666 : Nat := 0
def PySem.W.Fast.tw1292686715068544049 : Nat := 0
def PySem.W.Fast.tw2169474196655075090 : Nat := 0
def PySem.W.Fast.tw16552051207143922564 : Nat := 0
def PySem.W.Fast.tw7652380606957450527 : Nat := 0
def PySem.W.Fast.tw4478881664098114112 : Nat := 0
def PySem.W.Fast.tw13476524794663636222 : Nat := 0
def PySem.W.Fast.tw7437924914903279122 : Nat := 0
def PySem.W.Fast.tw18250481349498469528 : Nat := 0
def PySem.W.Fast.tw3877089679999908080 : Nat := 0
def PySem.W.Fast.tw4436280170566970791 : Nat := 0
def PySem.W.Fast.tw17172151317383906915 : Nat := 0
def PySem.W.Fast.tw5242317394919106992 : Nat := 0
def PySem.W.Fast.tw15481997133247452969 : Nat := 0
def PySem.W.Fast.tw15308815183517614153 : Nat := 0
def PySem.W.Fast.tw18347736890201899817 : Nat := 0
def PySem.W.Fast.tw10798432370299710914 : Nat := 0
def PySem.W.Fast.tw3486814683797117867 : Nat := 0
def PySem.W.Fast.tw8675692816409149674 : Nat := 0
def PySem.W.Fast.tw3457858950154303695 : Nat := 0
def PySem.W.Fast.tw14180004013146677258 : Nat := 0
def PySem.W.Fast.tw8203278998780244402 : Nat := 0
def PySem.W.Fast.tw10486235636622793940 : Nat := 0
def PySem.W.Fast.tw10861997134665386549 : Nat := 0
def PySem.W.Fast.tw14116918451531579586 : Nat := 0
def PySem.W.Fast.tw3896950561173168160 : Nat := 0
def PySem.W.Fast.tw17626150305352089285 : Nat := 0
def PySem.W.Fast.tw13669530545826234508 : Nat := 0
def PySem.W.Fast.tw9476110416627444340 : Nat := 0
def PySem.W.Fast.tw13760646540220948570 : Nat := 0
def PySem.W.Fast.tw66561166582285341 : Nat := 0
def PySem.W.Fast.tw11706248966398919389 : Nat := 0
def PySem.W.Fast.tw3716879874979722175 : Nat := 0
def PySem.W.Fast.tw704418653506555413 : Nat := 0
def PySem.W.Fast.tw15552451960920351708 : Nat := 0
def PySem.W.Fast.tw2809792859740870362 : Nat := 0
def PySem.W.Fast.tw5536147307337812104 : Nat := 0
def PySem.W.Fast.tw15577127465874283372 : Nat := 0
def PySem.W.Fast.tw17424268815529545493 : Nat := 0
def PySem.W.Fast.tw13214331996607731897 : Nat := 0
def PySem.W.Fast.tw11279526848127233496 : Nat := 0
def PySem.W.Fast.tw15949693020703574019 : Nat := 0
def PySem.W.Fast.tw7267085271657169038 : Nat := 0
def PySem.W.Fast.tw6727191290142573086 : Nat := 0
def PySem.W.Fast.tw6164561742576141333 : Nat := 0
def PySem.W.Fast.tw14604225578335596555 : Nat := 0
def PySem.W.Fast.tw2240636293638993965 : Nat := 0
def PySem.W.Fast.tw2746237120790635244 : Nat := 0
def PySem.W.Fast.tw1599445790969594296 : Nat := 0
def PySem.W.Fast.tw9538184539368187130 : Nat := 0
def PySem.W.Fast.tw18250867123113611025 : Nat := 0
def PySem.W.Fast.tw10716613743358688096 : Nat := 0
def PySem.W.Fast.tw2547334754291671823 : Nat := 0
def PySem.W.Fast.tw7920587579115602058 : Nat := 0
def PySem.W.Fast.tw18354674739220319673 : Nat := 0
def PySem.W.Fast.tw14408230060497776881 : Nat := 0
def PySem.W.Fast.tw2844355355377295470 : Nat := 0
def PySem.W.Fast.tw6094823072263168088 : Nat := 0
def PySem.W.Fast.tw13167370244339894062 : Nat := 0
def PySem.W.Fast.tw9784655903310562940 : Nat := 0
def PySem.W.Fast.tw12085007375213309468 : Nat := 0
def PySem.W.Fast.tw8947279075074604003 : Nat := 0
def PySem.W.Fast.tw9204585549450490614 : Nat := 0
def PySem.W.Fast.tw11433404151137547256 : Nat := 0
def PySem.W.Fast.tw3966035132579904124 : Nat := 0
def PySem.W.Fast.tw1569972977421066043 : Nat := 0
def PySem.W.Fast.tw10937835917937345357 : Nat := 0
def PySem.W.Fast.tw16499024637926046131 : Nat := 0
def PySem.W.Fast.tw14217882444615297445 : Nat := 0
def PySem.W.Fast.tw15965531242475562098 : Nat := 0
def PySem.W.Fast.tw1582349374414380283 : Nat := 0
def PySem.W.Fast.tw12221110090424835859 : Nat := 0
def PySem.W.Fast.tw17739493769576301438 : Nat := 0
def PySem.W.Fast.tw810234624438905064 : Nat := 0
def PySem.W.Fast.tw2083156499174653684 : Nat := 0
def PySem.W.Fast.tw6314721049825163976 : Nat := 0
def PySem.W.Fast.tw11034509677417978580 : Nat := 0
def PySem.W.Fast.tw2823177653550506581 : Nat := 0
def PySem.W.Fast.tw16960094426226490114 : Nat := 0
def PySem.W.Fast.tw17579110736859737494 : Nat := 0
def PySem.W.Fast.tw4763426439188552926 : Nat := 0
def PySem.W.Fast.tw10112650552604563976 : Nat := 0
def PySem.W.Fast.tw4546490278412273965 : Nat := 0
def PySem.W.Fast.tw1892446822224083556 : Nat := 0
open PySem PySem.W PyProof.Rows
set_option maxRecDepth 100000 in
set_option maxHeartbeats 0 in
theorem PySem.Challenge.cw_frameback_k04_heights_holds : PySem.Challenge.rw_frameback_k04_heights.Holds := by
  w_on; o_law; k_head; (case hw => w_witness2)
  k_fill
  refine FB.walk (l := PySem.Challenge.rw_frameback_k04_heights) rfl rfl (fun w h Y => PySem.W.kIn_of Y) ?F
  case F =>
    intro w mg fa h KX G hmg
    have T : ∃ (a : FB.Adr) (fd : FuncData), FB.Txt (L2.KOf KX) mg a ∧ L2.Fun (L2.KOf KX) "law" "law" FB.s_law fa fd ∧ ∀ (s : Shared) (v : Value), BindsTo s fd ⟨[v], []⟩ [("_law_script", v)] := by
      dsimp only [L2.KOf]
      refine' FB.txt_mk KX G hmg ?z_bool ?z_int ?z_isinstance ?z_len ?z_list ?z_max ?z_min ?g_LINK ?g_TOP_BOX ?g_TOP_CELLS ?g_TOP_TARGET ?g_TOP_VALUE ?g_VALUES ?c_Add ?c_Back ?c_Branch ?c_Call ?c_Copy ?c_Drop ?c_Get ?c_Grow ?c_Jump ?c_Less ?c_Mul ?c_NoRow ?c_Put ?c_Set ?c_Shrink ?c_Sub ?pg_Less ?hd_Less ?po_Less ?sa_Less ?mk_Less ?kc_Less ?n_Less_box ?n_Less_one ?n_Less_other ?a1 ?i1 ?l1 ?c1 ?k1 ?a2 ?i2 ?l2 ?c2 ?k2 ?a3 ?i3 ?l3 ?c3 ?k3 ?pg_Set ?hd_Set ?po_Set ?sa_Set ?mk_Set ?kc_Set ?n_Set_box ?n_Set_number ?a4 ?i4 ?l4 ?c4 ?k4 ?a5 ?i5 ?l5 ?c5 ?k5 ?a6 ?i6 ?l6 ?c6 ?k6 ?pg_Copy ?hd_Copy ?po_Copy ?sa_Copy ?mk_Copy ?kc_Copy ?n_Copy_box ?n_Copy_one ?a7 ?i7 ?l7 ?c7 ?k7 ?a8 ?i8 ?l8 ?c8 ?k8 ?a9 ?i9 ?l9 ?c9 ?k9 ?pg_Add ?hd_Add ?po_Add ?sa_Add ?mk_Add ?kc_Add ?n_Add_box ?n_Add_one ?n_Add_other ?a10 ?i10 ?l10 ?c10 ?k10 ?a11 ?i11 ?l11 ?c11 ?k11 ?a12 ?i12 ?l12 ?c12 ?k12 ?pg_Sub ?hd_Sub ?po_Sub ?sa_Sub ?mk_Sub ?kc_Sub ?n_Sub_box ?n_Sub_one ?n_Sub_other ?a13 ?i13 ?l13 ?c13 ?k13 ?a14 ?i14 ?l14 ?c14 ?k14 ?a15 ?i15 ?l15 ?c15 ?k15 ?pg_Mul ?hd_Mul ?po_Mul ?sa_Mul ?mk_Mul ?kc_Mul ?n_Mul_box ?n_Mul_one ?n_Mul_other ?a16 ?i16 ?l16 ?c16 ?k16 ?a17 ?i17 ?l17 ?c17 ?k17 ?a18 ?i18 ?l18 ?c18 ?k18 ?pg_Drop ?hd_Drop ?po_Drop ?sa_Drop ?mk_Drop ?kc_Drop ?n_Drop_box ?a19 ?i19 ?l19 ?c19 ?k19 ?a20 ?i20 ?l20 ?c20 ?k20 ?a21 ?i21 ?l21 ?c21 ?k21 ?pg_Jump ?hd_Jump ?po_Jump ?sa_Jump ?mk_Jump ?kc_Jump ?n_Jump_target ?a22 ?i22 ?l22 ?c22 ?k22 ?a23 ?i23 ?l23 ?c23 ?k23 ?a24 ?i24 ?l24 ?c24 ?k24 ?pg_Branch ?hd_Branch ?po_Branch ?sa_Branch ?mk_Branch ?kc_Branch ?n_Branch_box ?n_Branch_target ?a25 ?i25 ?l25 ?c25 ?k25 ?a26 ?i26 ?l26 ?c26 ?k26 ?a27 ?i27 ?l27 ?c27 ?k27 ?pg_Call ?hd_Call ?po_Call ?sa_Call ?mk_Call ?kc_Call ?n_Call_target ?a28 ?i28 ?l28 ?c28 ?k28 ?a29 ?i29 ?l29 ?c29 ?k29 ?a30 ?i30 ?l30 ?c30 ?k30 ?pg_Back ?hd_Back ?po_Back ?sa_Back ?mk_Back ?kc_Back ?n_Back_box ?a31 ?i31 ?l31 ?c31 ?k31 ?a32 ?i32 ?l32 ?c32 ?k32 ?a33 ?i33 ?l33 ?c33 ?k33 ?pg_Get ?hd_Get ?po_Get ?sa_Get ?mk_Get ?kc_Get ?n_Get_box ?n_Get_cell ?a34 ?i34 ?l34 ?c34 ?k34 ?a35 ?i35 ?l35 ?c35 ?k35 ?a36 ?i36 ?l36 ?c36 ?k36 ?pg_Grow ?hd_Grow ?po_Grow ?sa_Grow ?mk_Grow ?kc_Grow ?n_Grow_many ?a37 ?i37 ?l37 ?c37 ?k37 ?a38 ?i38 ?l38 ?c38 ?k38 ?a39 ?i39 ?l39 ?c39 ?k39 ?pg_Shrink ?hd_Shrink ?po_Shrink ?sa_Shrink ?mk_Shrink ?kc_Shrink ?n_Shrink_many ?a40 ?i40 ?l40 ?c40 ?k40 ?a41 ?i41 ?l41 ?c41 ?k41 ?a42 ?i42 ?l42 ?c42 ?k42 ?pg_Put ?hd_Put ?po_Put ?sa_Put ?mk_Put ?kc_Put ?n_Put_box ?n_Put_cell ?a43 ?i43 ?l43 ?c43 ?k43 ?a44 ?i44 ?l44 ?c44 ?k44 ?a45 ?i45 ?l45 ?c45 ?k45 ?k_int_int ?k_int_bool ?a46 ?l46 ?c46 ?k46 ?a47 ?l47 ?c47 ?k47 ?a48 ?l48 ?c48 ?k48 ?a49 ?l49 ?c49 ?k49 ?a50 ?l50 ?c50 ?k50 ?a51 ?l51 ?c51 ?k51 ?a52 ?l52 ?c52 ?k52 ?a53 ?l53 ?c53 ?k53 ?a54 ?l54 ?c54 ?k54 ?a55 ?l55 ?c55 ?k55
      (case z_bool => first | k_is | kit_is | rfl | kernel_rfl)
      (case z_int => first | k_is | kit_is | rfl | kernel_rfl)
      (case z_isinstance => first | k_is | kit_is | rfl | kernel_rfl)
      (case z_len => first | k_is | kit_is | rfl | kernel_rfl)
      (case z_list => first | k_is | kit_is | rfl | kernel_rfl)
      (case z_max => first | k_is | kit_is | rfl | kernel_rfl)
      (case z_min => first | k_is | kit_is | rfl | kernel_rfl)
      (case g_LINK => first | k_is | kit_is | rfl | kernel_rfl)
      (case g_TOP_BOX => first | k_is | kit_is | rfl | kernel_rfl)
      (case g_TOP_CELLS => first | k_is | kit_is | rfl | kernel_rfl)
      (case g_TOP_TARGET => first | k_is | kit_is | rfl | kernel_rfl)
      (case g_TOP_VALUE => first | k_is | kit_is | rfl | kernel_rfl)
      (case g_VALUES => first | k_is | kit_is | rfl | kernel_rfl)
      (case c_Add => first | k_is | kit_is | rfl | kernel_rfl)
      (case c_Back => first | k_is | kit_is | rfl | kernel_rfl)
      (case c_Branch => first | k_is | kit_is | rfl | kernel_rfl)
      (case c_Call => first | k_is | kit_is | rfl | kernel_rfl)
      (case c_Copy => first | k_is | kit_is | rfl | kernel_rfl)
      (case c_Drop => first | k_is | kit_is | rfl | kernel_rfl)
      (case c_Get => first | k_is | kit_is | rfl | kernel_rfl)
      (case c_Grow => first | k_is | kit_is | rfl | kernel_rfl)
      (case c_Jump => first | k_is | kit_is | rfl | kernel_rfl)
      (case c_Less => first | k_is | kit_is | rfl | kernel_rfl)
      (case c_Mul => first | k_is | kit_is | rfl | kernel_rfl)
      (case c_NoRow => first | k_is | kit_is | rfl | kernel_rfl)
      (case c_Put => first | k_is | kit_is | rfl | kernel_rfl)
      (case c_Set => first | k_is | kit_is | rfl | kernel_rfl)
      (case c_Shrink => first | k_is | kit_is | rfl | kernel_rfl)
      (case c_Sub => first | k_is | kit_is | rfl | kernel_rfl)
      (case pg_Less => first | k_is | kit_is | rfl | kernel_rfl)
      (case hd_Less => first | k_is | kit_is | rfl | kernel_rfl)
      (case po_Less => first | k_is | kit_is | rfl | kernel_rfl)
      (case sa_Less => first | k_is | kit_is | rfl | kernel_rfl)
      (case mk_Less => first | k_is | kit_is | rfl | kernel_rfl)
      (case kc_Less => first | k_is | kit_is | rfl | kernel_rfl)
      (case n_Less_box => first | k_is | kit_is | rfl | kernel_rfl)
      (case n_Less_one => first | k_is | kit_is | rfl | kernel_rfl)
      (case n_Less_other => first | k_is | kit_is | rfl | kernel_rfl)
      (case a1 => first | k_is | kit_is | rfl | kernel_rfl)
      (case i1 => first | k_is | kit_is | rfl | kernel_rfl)
      (case l1 => first | k_is | kit_is | rfl | kernel_rfl)
      (case c1 => first | k_is | kit_is | rfl | kernel_rfl)
      (case k1 => first | k_is | kit_is | rfl | kernel_rfl)
      (case a2 => first | k_is | kit_is | rfl | kernel_rfl)
      (case i2 => first | k_is | kit_is | rfl | kernel_rfl)
      (case l2 => first | k_is | kit_is | rfl | kernel_rfl)
      (case c2 => first | k_is | kit_is | rfl | kernel_rfl)
      (case k2 => first | k_is | kit_is | rfl | kernel_rfl)
      (case a3 => first | k_is | kit_is | rfl | kernel_rfl)
      (case i3 => first | k_is | kit_is | rfl | kernel_rfl)
      (case l3 => first | k_is | kit_is | rfl | kernel_rfl)
      (case c3 => first | k_is | kit_is | rfl | kernel_rfl)
      (case k3 => first | k_is | kit_is | rfl | kernel_rfl)
      (case pg_Set => first | k_is | kit_is | rfl | kernel_rfl)
      (case hd_Set => first | k_is | kit_is | rfl | kernel_rfl)
      (case po_Set => first | k_is | kit_is | rfl | kernel_rfl)
      (case sa_Set => first | k_is | kit_is | rfl | kernel_rfl)
      (case mk_Set => first | k_is | kit_is | rfl | kernel_rfl)
      (case kc_Set => first | k_is | kit_is | rfl | kernel_rfl)
      (case n_Set_box => first | k_is | kit_is | rfl | kernel_rfl)
      (case n_Set_number => first | k_is | kit_is | rfl | kernel_rfl)
      (case a4 => first | k_is | kit_is | rfl | kernel_rfl)
      (case i4 => first | k_is | kit_is | rfl | kernel_rfl)
      (case l4 => first | k_is | kit_is | rfl | kernel_rfl)
      (case c4 => first | k_is | kit_is | rfl | kernel_rfl)
      (case k4 => first | k_is | kit_is | rfl | kernel_rfl)
      (case a5 => first | k_is | kit_is | rfl | kernel_rfl)
      (case i5 => first | k_is | kit_is | rfl | kernel_rfl)
      (case l5 => first | k_is | kit_is | rfl | kernel_rfl)
      (case c5 => first | k_is | kit_is | rfl | kernel_rfl)
      (case k5 => first | k_is | kit_is | rfl | kernel_rfl)
      (case a6 => first | k_is | kit_is | rfl | kernel_rfl)
      (case i6 => first | k_is | kit_is | rfl | kernel_rfl)
      (case l6 => first | k_is | kit_is | rfl | kernel_rfl)
      (case c6 => first | k_is | kit_is | rfl | kernel_rfl)
      (case k6 => first | k_is | kit_is | rfl | kernel_rfl)
      (case pg_Copy => first | k_is | kit_is | rfl | kernel_rfl)
      (case hd_Copy => first | k_is | kit_is | rfl | kernel_rfl)
      (case po_Copy => first | k_is | kit_is | rfl | kernel_rfl)
      (case sa_Copy => first | k_is | kit_is | rfl | kernel_rfl)
      (case mk_Copy => first | k_is | kit_is | rfl | kernel_rfl)
      (case kc_Copy => first | k_is | kit_is | rfl | kernel_rfl)
      (case n_Copy_box => first | k_is | kit_is | rfl | kernel_rfl)
      (case n_Copy_one => first | k_is | kit_is | rfl | kernel_rfl)
      (case a7 => first | k_is | kit_is | rfl | kernel_rfl)
      (case i7 => first | k_is | kit_is | rfl | kernel_rfl)
      (case l7 => first | k_is | kit_is | rfl | kernel_rfl)
      (case c7 => first | k_is | kit_is | rfl | kernel_rfl)
      (case k7 => first | k_is | kit_is | rfl | kernel_rfl)
      (case a8 => first | k_is | kit_is | rfl | kernel_rfl)
      (case i8 => first | k_is | kit_is | rfl | kernel_rfl)
      (case l8 => first | k_is | kit_is | rfl | kernel_rfl)
      (case c8 => first | k_is | kit_is | rfl | kernel_rfl)
      (case k8 => first | k_is | kit_is | rfl | kernel_rfl)
      (case a9 => first | k_is | kit_is | rfl | kernel_rfl)
      (case i9 => first | k_is | kit_is | rfl | kernel_rfl)
      (case l9 => first | k_is | kit_is | rfl | kernel_rfl)
      (case c9 => first | k_is | kit_is | rfl | kernel_rfl)
      (case k9 => first | k_is | kit_is | rfl | kernel_rfl)
      (case pg_Add => first | k_is | kit_is | rfl | kernel_rfl)
      (case hd_Add => first | k_is | kit_is | rfl | kernel_rfl)
      (case po_Add => first | k_is | kit_is | rfl | kernel_rfl)
      (case sa_Add => first | k_is | kit_is | rfl | kernel_rfl)
      (case mk_Add => first | k_is | kit_is | rfl | kernel_rfl)
      (case kc_Add => first | k_is | kit_is | rfl | kernel_rfl)
      (case n_Add_box => first | k_is | kit_is | rfl | kernel_rfl)
      (case n_Add_one => first | k_is | kit_is | rfl | kernel_rfl)
      (case n_Add_other => first | k_is | kit_is | rfl | kernel_rfl)
      (case a10 => first | k_is | kit_is | rfl | kernel_rfl)
      (case i10 => first | k_is | kit_is | rfl | kernel_rfl)
      (case l10 => first | k_is | kit_is | rfl | kernel_rfl)
      (case c10 => first | k_is | kit_is | rfl | kernel_rfl)
      (case k10 => first | k_is | kit_is | rfl | kernel_rfl)
      (case a11 => first | k_is | kit_is | rfl | kernel_rfl)
      (case i11 => first | k_is | kit_is | rfl | kernel_rfl)
      (case l11 => first | k_is | kit_is | rfl | kernel_rfl)
      (case c11 => first | k_is | kit_is | rfl | kernel_rfl)
      (case k11 => first | k_is | kit_is | rfl | kernel_rfl)
      (case a12 => first | k_is | kit_is | rfl | kernel_rfl)
      (case i12 => first | k_is | kit_is | rfl | kernel_rfl)
      (case l12 => first | k_is | kit_is | rfl | kernel_rfl)
      (case c12 => first | k_is | kit_is | rfl | kernel_rfl)
      (case k12 => first | k_is | kit_is | rfl | kernel_rfl)
      (case pg_Sub => first | k_is | kit_is | rfl | kernel_rfl)
      (case hd_Sub => first | k_is | kit_is | rfl | kernel_rfl)
      (case po_Sub => first | k_is | kit_is | rfl | kernel_rfl)
      (case sa_Sub => first | k_is | kit_is | rfl | kernel_rfl)
      (case mk_Sub => first | k_is | kit_is | rfl | kernel_rfl)
      (case kc_Sub => first | k_is | kit_is | rfl | kernel_rfl)
      (case n_Sub_box => first | k_is | kit_is | rfl | kernel_rfl)
      (case n_Sub_one => first | k_is | kit_is | rfl | kernel_rfl)
      (case n_Sub_other => first | k_is | kit_is | rfl | kernel_rfl)
      (case a13 => first | k_is | kit_is | rfl | kernel_rfl)
      (case i13 => first | k_is | kit_is | rfl | kernel_rfl)
      (case l13 => first | k_is | kit_is | rfl | kernel_rfl)
      (case c13 => first | k_is | kit_is | rfl | kernel_rfl)
      (case k13 => first | k_is | kit_is | rfl | kernel_rfl)
      (case a14 => first | k_is | kit_is | rfl | kernel_rfl)
      (case i14 => first | k_is | kit_is | rfl | kernel_rfl)
      (case l14 => first | k_is | kit_is | rfl | kernel_rfl)
      (case c14 => first | k_is | kit_is | rfl | kernel_rfl)
      (case k14 => first | k_is | kit_is | rfl | kernel_rfl)
      (case a15 => first | k_is | kit_is | rfl | kernel_rfl)
      (case i15 => first | k_is | kit_is | rfl | kernel_rfl)
      (case l15 => first | k_is | kit_is | rfl | kernel_rfl)
      (case c15 => first | k_is | kit_is | rfl | kernel_rfl)
      (case k15 => first | k_is | kit_is | rfl | kernel_rfl)
      (case pg_Mul => first | k_is | kit_is | rfl | kernel_rfl)
      (case hd_Mul => first | k_is | kit_is | rfl | kernel_rfl)
      (case po_Mul => first | k_is | kit_is | rfl | kernel_rfl)
      (case sa_Mul => first | k_is | kit_is | rfl | kernel_rfl)
      (case mk_Mul => first | k_is | kit_is | rfl | kernel_rfl)
      (case kc_Mul => first | k_is | kit_is | rfl | kernel_rfl)
      (case n_Mul_box => first | k_is | kit_is | rfl | kernel_rfl)
      (case n_Mul_one => first | k_is | kit_is | rfl | kernel_rfl)
      (case n_Mul_other => first | k_is | kit_is | rfl | kernel_rfl)
      (case a16 => first | k_is | kit_is | rfl | kernel_rfl)
      (case i16 => first | k_is | kit_is | rfl | kernel_rfl)
      (case l16 => first | k_is | kit_is | rfl | kernel_rfl)
      (case c16 => first | k_is | kit_is | rfl | kernel_rfl)
      (case k16 => first | k_is | kit_is | rfl | kernel_rfl)
      (case a17 => first | k_is | kit_is | rfl | kernel_rfl)
      (case i17 => first | k_is | kit_is | rfl | kernel_rfl)
      (case l17 => first | k_is | kit_is | rfl | kernel_rfl)
      (case c17 => first | k_is | kit_is | rfl | kernel_rfl)
      (case k17 => first | k_is | kit_is | rfl | kernel_rfl)
      (case a18 => first | k_is | kit_is | rfl | kernel_rfl)
      (case i18 => first | k_is | kit_is | rfl | kernel_rfl)
      (case l18 => first | k_is | kit_is | rfl | kernel_rfl)
      (case c18 => first | k_is | kit_is | rfl | kernel_rfl)
      (case k18 => first | k_is | kit_is | rfl | kernel_rfl)
      (case pg_Drop => first | k_is | kit_is | rfl | kernel_rfl)
      (case hd_Drop => first | k_is | kit_is | rfl | kernel_rfl)
      (case po_Drop => first | k_is | kit_is | rfl | kernel_rfl)
      (case sa_Drop => first | k_is | kit_is | rfl | kernel_rfl)
      (case mk_Drop => first | k_is | kit_is | rfl | kernel_rfl)
      (case kc_Drop => first | k_is | kit_is | rfl | kernel_rfl)
      (case n_Drop_box => first | k_is | kit_is | rfl | kernel_rfl)
      (case a19 => first | k_is | kit_is | rfl | kernel_rfl)
      (case i19 => first | k_is | kit_is | rfl | kernel_rfl)
      (case l19 => first | k_is | kit_is | rfl | kernel_rfl)
      (case c19 => first | k_is | kit_is | rfl | kernel_rfl)
      (case k19 => first | k_is | kit_is | rfl | kernel_rfl)
      (case a20 => first | k_is | kit_is | rfl | kernel_rfl)
      (case i20 => first | k_is | kit_is | rfl | kernel_rfl)
      (case l20 => first | k_is | kit_is | rfl | kernel_rfl)
      (case c20 => first | k_is | kit_is | rfl | kernel_rfl)
      (case k20 => first | k_is | kit_is | rfl | kernel_rfl)
      (case a21 => first | k_is | kit_is | rfl | kernel_rfl)
      (case i21 => first | k_is | kit_is | rfl | kernel_rfl)
      (case l21 => first | k_is | kit_is | rfl | kernel_rfl)
      (case c21 => first | k_is | kit_is | rfl | kernel_rfl)
      (case k21 => first | k_is | kit_is | rfl | kernel_rfl)
      (case pg_Jump => first | k_is | kit_is | rfl | kernel_rfl)
      (case hd_Jump => first | k_is | kit_is | rfl | kernel_rfl)
      (case po_Jump => first | k_is | kit_is | rfl | kernel_rfl)
      (case sa_Jump => first | k_is | kit_is | rfl | kernel_rfl)
      (case mk_Jump => first | k_is | kit_is | rfl | kernel_rfl)
      (case kc_Jump => first | k_is | kit_is | rfl | kernel_rfl)
      (case n_Jump_target => first | k_is | kit_is | rfl | kernel_rfl)
      (case a22 => first | k_is | kit_is | rfl | kernel_rfl)
      (case i22 => first | k_is | kit_is | rfl | kernel_rfl)
      (case l22 => first | k_is | kit_is | rfl | kernel_rfl)
      (case c22 => first | k_is | kit_is | rfl | kernel_rfl)
      (case k22 => first | k_is | kit_is | rfl | kernel_rfl)
      (case a23 => first | k_is | kit_is | rfl | kernel_rfl)
      (case i23 => first | k_is | kit_is | rfl | kernel_rfl)
      (case l23 => first | k_is | kit_is | rfl | kernel_rfl)
      (case c23 => first | k_is | kit_is | rfl | kernel_rfl)
      (case k23 => first | k_is | kit_is | rfl | kernel_rfl)
      (case a24 => first | k_is | kit_is | rfl | kernel_rfl)
      (case i24 => first | k_is | kit_is | rfl | kernel_rfl)
      (case l24 => first | k_is | kit_is | rfl | kernel_rfl)
      (case c24 => first | k_is | kit_is | rfl | kernel_rfl)
      (case k24 => first | k_is | kit_is | rfl | kernel_rfl)
      (case pg_Branch => first | k_is | kit_is | rfl | kernel_rfl)
      (case hd_Branch => first | k_is | kit_is | rfl | kernel_rfl)
      (case po_Branch => first | k_is | kit_is | rfl | kernel_rfl)
      (case sa_Branch => first | k_is | kit_is | rfl | kernel_rfl)
      (case mk_Branch => first | k_is | kit_is | rfl | kernel_rfl)
      (case kc_Branch => first | k_is | kit_is | rfl | kernel_rfl)
      (case n_Branch_box => first | k_is | kit_is | rfl | kernel_rfl)
      (case n_Branch_target => first | k_is | kit_is | rfl | kernel_rfl)
      (case a25 => first | k_is | kit_is | rfl | kernel_rfl)
      (case i25 => first | k_is | kit_is | rfl | kernel_rfl)
      (case l25 => first | k_is | kit_is | rfl | kernel_rfl)
      (case c25 => first | k_is | kit_is | rfl | kernel_rfl)
      (case k25 => first | k_is | kit_is | rfl | kernel_rfl)
      (case a26 => first | k_is | kit_is | rfl | kernel_rfl)
      (case i26 => first | k_is | kit_is | rfl | kernel_rfl)
      (case l26 => first | k_is | kit_is | rfl | kernel_rfl)
      (case c26 => first | k_is | kit_is | rfl | kernel_rfl)
      (case k26 => first | k_is | kit_is | rfl | kernel_rfl)
      (case a27 => first | k_is | kit_is | rfl | kernel_rfl)
      (case i27 => first | k_is | kit_is | rfl | kernel_rfl)
      (case l27 => first | k_is | kit_is | rfl | kernel_rfl)
      (case c27 => first | k_is | kit_is | rfl | kernel_rfl)
      (case k27 => first | k_is | kit_is | rfl | kernel_rfl)
      (case pg_Call => first | k_is | kit_is | rfl | kernel_rfl)
      (case hd_Call => first | k_is | kit_is | rfl | kernel_rfl)
      (case po_Call => first | k_is | kit_is | rfl | kernel_rfl)
      (case sa_Call => first | k_is | kit_is | rfl | kernel_rfl)
      (case mk_Call => first | k_is | kit_is | rfl | kernel_rfl)
      (case kc_Call => first | k_is | kit_is | rfl | kernel_rfl)
      (case n_Call_target => first | k_is | kit_is | rfl | kernel_rfl)
      (case a28 => first | k_is | kit_is | rfl | kernel_rfl)
      (case i28 => first | k_is | kit_is | rfl | kernel_rfl)
      (case l28 => first | k_is | kit_is | rfl | kernel_rfl)
      (case c28 => first | k_is | kit_is | rfl | kernel_rfl)
      (case k28 => first | k_is | kit_is | rfl | kernel_rfl)
      (case a29 => first | k_is | kit_is | rfl | kernel_rfl)
      (case i29 => first | k_is | kit_is | rfl | kernel_rfl)
      (case l29 => first | k_is | kit_is | rfl | kernel_rfl)
      (case c29 => first | k_is | kit_is | rfl | kernel_rfl)
      (case k29 => first | k_is | kit_is | rfl | kernel_rfl)
      (case a30 => first | k_is | kit_is | rfl | kernel_rfl)
      (case i30 => first | k_is | kit_is | rfl | kernel_rfl)
      (case l30 => first | k_is | kit_is | rfl | kernel_rfl)
      (case c30 => first | k_is | kit_is | rfl | kernel_rfl)
      (case k30 => first | k_is | kit_is | rfl | kernel_rfl)
      (case pg_Back => first | k_is | kit_is | rfl | kernel_rfl)
      (case hd_Back => first | k_is | kit_is | rfl | kernel_rfl)
      (case po_Back => first | k_is | kit_is | rfl | kernel_rfl)
      (case sa_Back => first | k_is | kit_is | rfl | kernel_rfl)
      (case mk_Back => first | k_is | kit_is | rfl | kernel_rfl)
      (case kc_Back => first | k_is | kit_is | rfl | kernel_rfl)
      (case n_Back_box => first | k_is | kit_is | rfl | kernel_rfl)
      (case a31 => first | k_is | kit_is | rfl | kernel_rfl)
      (case i31 => first | k_is | kit_is | rfl | kernel_rfl)
      (case l31 => first | k_is | kit_is | rfl | kernel_rfl)
      (case c31 => first | k_is | kit_is | rfl | kernel_rfl)
      (case k31 => first | k_is | kit_is | rfl | kernel_rfl)
      (case a32 => first | k_is | kit_is | rfl | kernel_rfl)
      (case i32 => first | k_is | kit_is | rfl | kernel_rfl)
      (case l32 => first | k_is | kit_is | rfl | kernel_rfl)
      (case c32 => first | k_is | kit_is | rfl | kernel_rfl)
      (case k32 => first | k_is | kit_is | rfl | kernel_rfl)
      (case a33 => first | k_is | kit_is | rfl | kernel_rfl)
      (case i33 => first | k_is | kit_is | rfl | kernel_rfl)
      (case l33 => first | k_is | kit_is | rfl | kernel_rfl)
      (case c33 => first | k_is | kit_is | rfl | kernel_rfl)
      (case k33 => first | k_is | kit_is | rfl | kernel_rfl)
      (case pg_Get => first | k_is | kit_is | rfl | kernel_rfl)
      (case hd_Get => first | k_is | kit_is | rfl | kernel_rfl)
      (case po_Get => first | k_is | kit_is | rfl | kernel_rfl)
      (case sa_Get => first | k_is | kit_is | rfl | kernel_rfl)
      (case mk_Get => first | k_is | kit_is | rfl | kernel_rfl)
      (case kc_Get => first | k_is | kit_is | rfl | kernel_rfl)
      (case n_Get_box => first | k_is | kit_is | rfl | kernel_rfl)
      (case n_Get_cell => first | k_is | kit_is | rfl | kernel_rfl)
      (case a34 => first | k_is | kit_is | rfl | kernel_rfl)
      (case i34 => first | k_is | kit_is | rfl | kernel_rfl)
      (case l34 => first | k_is | kit_is | rfl | kernel_rfl)
      (case c34 => first | k_is | kit_is | rfl | kernel_rfl)
      (case k34 => first | k_is | kit_is | rfl | kernel_rfl)
      (case a35 => first | k_is | kit_is | rfl | kernel_rfl)
      (case i35 => first | k_is | kit_is | rfl | kernel_rfl)
      (case l35 => first | k_is | kit_is | rfl | kernel_rfl)
      (case c35 => first | k_is | kit_is | rfl | kernel_rfl)
      (case k35 => first | k_is | kit_is | rfl | kernel_rfl)
      (case a36 => first | k_is | kit_is | rfl | kernel_rfl)
      (case i36 => first | k_is | kit_is | rfl | kernel_rfl)
      (case l36 => first | k_is | kit_is | rfl | kernel_rfl)
      (case c36 => first | k_is | kit_is | rfl | kernel_rfl)
      (case k36 => first | k_is | kit_is | rfl | kernel_rfl)
      (case pg_Grow => first | k_is | kit_is | rfl | kernel_rfl)
      (case hd_Grow => first | k_is | kit_is | rfl | kernel_rfl)
      (case po_Grow => first | k_is | kit_is | rfl | kernel_rfl)
      (case sa_Grow => first | k_is | kit_is | rfl | kernel_rfl)
      (case mk_Grow => first | k_is | kit_is | rfl | kernel_rfl)
      (case kc_Grow => first | k_is | kit_is | rfl | kernel_rfl)
      (case n_Grow_many => first | k_is | kit_is | rfl | kernel_rfl)
      (case a37 => first | k_is | kit_is | rfl | kernel_rfl)
      (case i37 => first | k_is | kit_is | rfl | kernel_rfl)
      (case l37 => first | k_is | kit_is | rfl | kernel_rfl)
      (case c37 => first | k_is | kit_is | rfl | kernel_rfl)
      (case k37 => first | k_is | kit_is | rfl | kernel_rfl)
      (case a38 => first | k_is | kit_is | rfl | kernel_rfl)
      (case i38 => first | k_is | kit_is | rfl | kernel_rfl)
      (case l38 => first | k_is | kit_is | rfl | kernel_rfl)
      (case c38 => first | k_is | kit_is | rfl | kernel_rfl)
      (case k38 => first | k_is | kit_is | rfl | kernel_rfl)
      (case a39 => first | k_is | kit_is | rfl | kernel_rfl)
      (case i39 => first | k_is | kit_is | rfl | kernel_rfl)
      (case l39 => first | k_is | kit_is | rfl | kernel_rfl)
      (case c39 => first | k_is | kit_is | rfl | kernel_rfl)
      (case k39 => first | k_is | kit_is | rfl | kernel_rfl)
      (case pg_Shrink => first | k_is | kit_is | rfl | kernel_rfl)
      (case hd_Shrink => first | k_is | kit_is | rfl | kernel_rfl)
      (case po_Shrink => first | k_is | kit_is | rfl | kernel_rfl)
      (case sa_Shrink => first | k_is | kit_is | rfl | kernel_rfl)
      (case mk_Shrink => first | k_is | kit_is | rfl | kernel_rfl)
      (case kc_Shrink => first | k_is | kit_is | rfl | kernel_rfl)
      (case n_Shrink_many => first | k_is | kit_is | rfl | kernel_rfl)
      (case a40 => first | k_is | kit_is | rfl | kernel_rfl)
      (case i40 => first | k_is | kit_is | rfl | kernel_rfl)
      (case l40 => first | k_is | kit_is | rfl | kernel_rfl)
      (case c40 => first | k_is | kit_is | rfl | kernel_rfl)
      (case k40 => first | k_is | kit_is | rfl | kernel_rfl)
      (case a41 => first | k_is | kit_is | rfl | kernel_rfl)
      (case i41 => first | k_is | kit_is | rfl | kernel_rfl)
      (case l41 => first | k_is | kit_is | rfl | kernel_rfl)
      (case c41 => first | k_is | kit_is | rfl | kernel_rfl)
      (case k41 => first | k_is | kit_is | rfl | kernel_rfl)
      (case a42 => first | k_is | kit_is | rfl | kernel_rfl)
      (case i42 => first | k_is | kit_is | rfl | kernel_rfl)
      (case l42 => first | k_is | kit_is | rfl | kernel_rfl)
      (case c42 => first | k_is | kit_is | rfl | kernel_rfl)
      (case k42 => first | k_is | kit_is | rfl | kernel_rfl)
      (case pg_Put => first | k_is | kit_is | rfl | kernel_rfl)
      (case hd_Put => first | k_is | kit_is | rfl | kernel_rfl)
      (case po_Put => first | k_is | kit_is | rfl | kernel_rfl)
      (case sa_Put => first | k_is | kit_is | rfl | kernel_rfl)
      (case mk_Put => first | k_is | kit_is | rfl | kernel_rfl)
      (case kc_Put => first | k_is | kit_is | rfl | kernel_rfl)
      (case n_Put_box => first | k_is | kit_is | rfl | kernel_rfl)
      (case n_Put_cell => first | k_is | kit_is | rfl | kernel_rfl)
      (case a43 => first | k_is | kit_is | rfl | kernel_rfl)
      (case i43 => first | k_is | kit_is | rfl | kernel_rfl)
      (case l43 => first | k_is | kit_is | rfl | kernel_rfl)
      (case c43 => first | k_is | kit_is | rfl | kernel_rfl)
      (case k43 => first | k_is | kit_is | rfl | kernel_rfl)
      (case a44 => first | k_is | kit_is | rfl | kernel_rfl)
      (case i44 => first | k_is | kit_is | rfl | kernel_rfl)
      (case l44 => first | k_is | kit_is | rfl | kernel_rfl)
      (case c44 => first | k_is | kit_is | rfl | kernel_rfl)
      (case k44 => first | k_is | kit_is | rfl | kernel_rfl)
      (case a45 => first | k_is | kit_is | rfl | kernel_rfl)
      (case i45 => first | k_is | kit_is | rfl | kernel_rfl)
      (case l45 => first | k_is | kit_is | rfl | kernel_rfl)
      (case c45 => first | k_is | kit_is | rfl | kernel_rfl)
      (case k45 => first | k_is | kit_is | rfl | kernel_rfl)
      (case k_int_int => first | k_is | kit_is | rfl | kernel_rfl)
      (case k_int_bool => first | k_is | kit_is | rfl | kernel_rfl)
      (case a46 => first | k_is | kit_is | rfl | kernel_rfl)
      (case l46 => first | k_is | kit_is | rfl | kernel_rfl)
      (case c46 => first | k_is | kit_is | rfl | kernel_rfl)
      (case k46 => first | k_is | kit_is | rfl | kernel_rfl)
      (case a47 => first | k_is | kit_is | rfl | kernel_rfl)
      (case l47 => first | k_is | kit_is | rfl | kernel_rfl)
      (case c47 => first | k_is | kit_is | rfl | kernel_rfl)
      (case k47 => first | k_is | kit_is | rfl | kernel_rfl)
      (case a48 => first | k_is | kit_is | rfl | kernel_rfl)
      (case l48 => first | k_is | kit_is | rfl | kernel_rfl)
      (case c48 => first | k_is | kit_is | rfl | kernel_rfl)
      (case k48 => first | k_is | kit_is | rfl | kernel_rfl)
      (case a49 => first | k_is | kit_is | rfl | kernel_rfl)
      (case l49 => first | k_is | kit_is | rfl | kernel_rfl)
      (case c49 => first | k_is | kit_is | rfl | kernel_rfl)
      (case k49 => first | k_is | kit_is | rfl | kernel_rfl)
      (case a50 => first | k_is | kit_is | rfl | kernel_rfl)
      (case l50 => first | k_is | kit_is | rfl | kernel_rfl)
      (case c50 => first | k_is | kit_is | rfl | kernel_rfl)
      (case k50 => first | k_is | kit_is | rfl | kernel_rfl)
      (case a51 => first | k_is | kit_is | rfl | kernel_rfl)
      (case l51 => first | k_is | kit_is | rfl | kernel_rfl)
      (case c51 => first | k_is | kit_is | rfl | kernel_rfl)
      (case k51 => first | k_is | kit_is | rfl | kernel_rfl)
      (case a52 => first | k_is | kit_is | rfl | kernel_rfl)
      (case l52 => first | k_is | kit_is | rfl | kernel_rfl)
      (case c52 => first | k_is | kit_is | rfl | kernel_rfl)
      (case k52 => first | k_is | kit_is | rfl | kernel_rfl)
      (case a53 => first | k_is | kit_is | rfl | kernel_rfl)
      (case l53 => first | k_is | kit_is | rfl | kernel_rfl)
      (case c53 => first | k_is | kit_is | rfl | kernel_rfl)
      (case k53 => first | k_is | kit_is | rfl | kernel_rfl)
      (case a54 => first | k_is | kit_is | rfl | kernel_rfl)
      (case l54 => first | k_is | kit_is | rfl | kernel_rfl)
      (case c54 => first | k_is | kit_is | rfl | kernel_rfl)
      (case k54 => first | k_is | kit_is | rfl | kernel_rfl)
      (case a55 => first | k_is | kit_is | rfl | kernel_rfl)
      (case l55 => first | k_is | kit_is | rfl | kernel_rfl)
      (case c55 => first | k_is | kit_is | rfl | kernel_rfl)
      (case k55 => first | k_is | kit_is | rfl | kernel_rfl)
    obtain ⟨a, fd, T, FF, B⟩ := T
    exact ⟨fd, B, fun base _ _ => FB.law_fn T FF⟩
