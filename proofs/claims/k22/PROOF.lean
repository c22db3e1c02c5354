import PyProof.Rows.All
import Wide.All
import OpenK.AllK
import Wide.FinOn
import Lean
import PyProof.EqAt
import PyProof.EqKinds
import PyProof.TupleCall
import PySem.Challenge.RW_frameback_k22_astray
set_option Elab.async false
set_option linter.all false
set_option maxRecDepth 100000

namespace L2
open PySem PySem.Spec PyProof.Rows


abbrev Key := Sum Int Str
def keyIs : Key → Value → Bool
  | .inl k, v => Value.isInt k v
  | .inr x, v => Value.isStrOf x v
def keyH (w : World) : Key → Int
  | .inl k => hashInt k
  | .inr x => hashStr w x
theorem keyIs_shape : ∀ {k : Key} {v : Value}, keyIs k v = true → (∃ i t, k = Sum.inl i ∧ v = Value.int i t) ∨ (∃ x t, k = Sum.inr x ∧ v = Value.str x t)
  | .inl i, v, h => by
    obtain ⟨t, e⟩ := Value.isInt_shape (k := i) (v := v) h
    exact .inl ⟨i, t, rfl, e⟩
  | .inr x, v, h => by
    obtain ⟨t, e⟩ := Value.isStrOf_shape (x := x) (v := v) h
    exact .inr ⟨x, t, rfl, e⟩
theorem key_ll (a b : Int) : decide ((Sum.inl a : Key) = Sum.inl b) = (a == b) := by
  by_cases e : a = b
  · subst e; simp
  · have h : ¬ (Sum.inl a : Key) = Sum.inl b := fun q => e (Sum.inl.inj q)
    rw [decide_eq_false h]
    exact (beq_eq_false_iff_ne.mpr e).symm
theorem key_rr (a b : Str) : decide ((Sum.inr a : Key) = Sum.inr b) = decide (a = b) := by
  by_cases e : a = b
  · subst e; simp
  · have h : ¬ (Sum.inr a : Key) = Sum.inr b := fun q => e (Sum.inr.inj q)
    rw [decide_eq_false h, decide_eq_false e]
theorem key_lr (a : Int) (b : Str) : decide ((Sum.inl a : Key) = Sum.inr b) = false := decide_eq_false (fun q => nomatch q)
theorem key_rl (a : Str) (b : Int) : decide ((Sum.inr a : Key) = Sum.inl b) = false := decide_eq_false (fun q => nomatch q)

def mixKind (prog : Program) (w : World) : PySem.KeyKind prog w Key where
  is := keyIs
  hash := keyH w
  inj := fun v a b ha hb => by
    rcases keyIs_shape ha with ⟨i, t, rfl, rfl⟩ | ⟨x, t, rfl, rfl⟩
    · rcases keyIs_shape hb with ⟨j, u, rfl, e⟩ | ⟨y, u, rfl, e⟩
      · injection e with e1 _; rw [e1]
      · exact nomatch e
    · rcases keyIs_shape hb with ⟨j, u, rfl, e⟩ | ⟨y, u, rfl, e⟩
      · exact nomatch e
      · injection e with e1 _; rw [e1]
  byValue := fun k v h => by
    rcases keyIs_shape h with ⟨i, t, rfl, rfl⟩ | ⟨x, t, rfl, rfl⟩ <;> rfl
  pyHash := fun hv h => by
    rcases keyIs_shape hv with ⟨i, t, rfl, rfl⟩ | ⟨x, t, rfl, rfl⟩
    · exact wpAny_pyHash_int h
    · exact wpAny_pyHash_str h
  eqBool := fun hu hv h => by
    rcases keyIs_shape hu with ⟨i, t, rfl, rfl⟩ | ⟨x, t, rfl, rfl⟩
    · rcases keyIs_shape hv with ⟨j, u, rfl, rfl⟩ | ⟨y, u, rfl, rfl⟩
      · rw [key_ll] at h; exact wpAny_eqBool_int h
      · rw [key_lr] at h; exact SeqAt.EqAt.int_str i t y u _ _ _ _ h
    · rcases keyIs_shape hv with ⟨j, u, rfl, rfl⟩ | ⟨y, u, rfl, rfl⟩
      · rw [key_rl] at h; exact SeqAt.EqAt.str_int x t j u _ _ _ _ h
      · rw [key_rr] at h; exact wpAny_eqBool_str h
  «strs» := fun k x t v h => by
    rcases keyIs_shape h with ⟨i, u, rfl, e⟩ | ⟨y, u, rfl, e⟩
    · exact nomatch e
    · injection e with e1 _
      subst e1
      cases v <;> rfl

end L2

namespace L2
open PySem PySem.Spec PyProof.Rows


inductive V where
  | non | bl (b : Bool) | int (i : Int) | str (x : Str) | byt (b : Array UInt8) | flt (b : UInt64) | ref (a : Addr) | ty (n : String)
  deriving DecidableEq

def RelV : V → Value → Prop
  | .non, u => u = Value.none
  | .bl b, u => u = Value.bool b
  | .int i, u => ∃ t, u = Value.int i t
  | .str x, u => ∃ t, u = Value.str x t
  | .byt b, u => ∃ t, u = Value.bytes b t
  | .flt b, u => ∃ t, u = Value.float b t
  | .ref a, u => u = Value.ref a
  | .ty n, u => u = Value.type n

abbrev Vals : List V → List Value → Prop := Paired RelV
theorem Vals.length {xs : List V} {us : List Value} (r : Vals xs us) : xs.length = us.length := Paired.length r
theorem Vals.get : ∀ {xs : List V} {us : List Value} {i : Nat} {x : V}, Vals xs us → xs[i]? = some x → ∃ u, us[i]? = some u ∧ RelV x u
  | _, _, _, _, .nil, e => by simp at e
  | _, _, 0, _, .cons r _, e => by simp at e; subst e; exact ⟨_, rfl, r⟩
  | _, _, i + 1, x, .cons _ t, e => by
    obtain ⟨u, h1, h2⟩ := Vals.get (i := i) (x := x) t (by simpa using e)
    exact ⟨u, by simpa using h1, h2⟩
theorem Vals.append : ∀ {xs ys : List V} {us ws : List Value}, Vals xs us → Vals ys ws → Vals (xs ++ ys) (us ++ ws)
  | _, _, _, _, .nil, s => s
  | _, _, _, _, .cons r t, s => .cons r (Vals.append t s)
theorem Vals.take : ∀ {xs : List V} {us : List Value} (n : Nat), Vals xs us → Vals (xs.take n) (us.take n)
  | _, _, 0, _ => .nil
  | _, _, _ + 1, .nil => .nil
  | _, _, n + 1, .cons r t => .cons r (Vals.take n t)
theorem Vals.drop : ∀ {xs : List V} {us : List Value} (n : Nat), Vals xs us → Vals (xs.drop n) (us.drop n)
  | _, _, 0, r => r
  | _, _, _ + 1, .nil => .nil
  | _, _, n + 1, .cons _ t => Vals.drop n t
def RelO : Option V → Option Value → Prop
  | some v, some u => RelV v u
  | none, none => True
  | _, _ => False
def KV {κ : Type} : List (κ × V) → List (κ × Value) → Prop := Paired fun (p : κ × V) (q : κ × Value) => p.1 = q.1 ∧ RelV p.2 q.2


def kV : Key → V
  | .inl i => .int i
  | .inr x => .str x


inductive HO where
  
  | lst (xs : List V)
  
  | tup (xs : List V)
  
  | dK (kvs : List (Key × V)) | dT (kvs : List (List Key × V))
  
  | set (S : Int → Bool) (n : Nat)
  
  | ins (C dx : Addr) (fs : List (Str × V))
  
  | own (x : Addr)
  
  | xd (fs : List (Str × V))
  
  | met (f x : Addr)
  
  | rng (lo hi : Int)
  
  | frz (o : Obj) (u : HO)
  
  | tbl (ps : Array Value)
  
  | ext (φ : Heap → Prop)

abbrev Hp := Addr → Option HO
def upd (H : Hp) (a : Addr) (o : HO) : Hp := fun b => if b = a then some o else H b
theorem upd_same {H : Hp} {a : Addr} {o : HO} : upd H a o a = some o := by unfold upd; rw [if_pos rfl]
theorem upd_ne {H : Hp} {a b : Addr} {o : HO} (h : b ≠ a) : upd H a o b = H b := by unfold upd; rw [if_neg h]
theorem ne_of {H : Hp} {a b : Addr} {o u : HO} (h : H a = some o) (h' : H b = some u) (d : o ≠ u) : a ≠ b := by
  intro e; subst e; rw [h] at h'; exact d (Option.some.inj h')
theorem ne_of_none {H : Hp} {a b : Addr} {o : HO} (h : H a = some o) (h' : H b = none) : a ≠ b := by
  intro e; subst e; rw [h] at h'; cases h'

section
variable (P : Program) (w : World)
def ObjOk (H : Hp) (h : Heap) (a : Addr) : HO → Prop
  | .lst xs => xs.length ≤ sizeLine ∧ ∃ (its : List Value) (n : Nat), Vals xs its ∧ h.get? a = some { cls := .type "list", data := .seq its.toArray n }
  | .tup xs => xs.length ≤ sizeLine ∧ ∃ its : List Value, Vals xs its ∧ IsTup h a its.toArray
  | .dK kvs => kvs.length ≤ sizeLine ∧ (a == sysModules) = false ∧ ∃ vs, KV kvs vs ∧ h.DictOf (mixKind P w) a vs
  | .dT kvs => kvs.length ≤ sizeLine ∧ (a == sysModules) = false ∧ ∃ xs : List (List Key × Addr × Value),
      Paired (fun (p : List Key × V) (q : List Key × Addr × Value) => p.1 = q.1 ∧ H q.2.1 = some (.tup (p.1.map kV)) ∧ RelV p.2 q.2.2) kvs xs ∧
      ∃ o es ep, h.get? a = some o ∧ o.ExactDict ∧ o.data = .dict es ep ∧ es.toList = xs.map (entryOfKey (tupleKind (mixKind P w))) ∧ (xs.map (·.1)).Nodup
  | .set S n => h.SetOf (intKind P w) a S n
  | .ins C dx fs => H dx = some (.own a) ∧ fs.length ≤ 1000 ∧ dx ≠ a ∧ h.get? a = some (PySem.W.instObj C dx) ∧
      ∃ mA, h.Ns1 dx mA ∧ (∀ f, RelO (fs.lookup f) (mA f)) ∧ PySem.Within mA (fs.map (·.1))
  | .own _ => ∃ o, h.get? a = some o
  | .xd fs => ∃ mA, h.Ns1 a mA ∧ ∀ f, RelO (fs.lookup f) (mA f)
  | .rng lo hi => ∃ t u v, h.get? a = some { cls := .type "range", data := .fields #[.int lo t, .int hi u, .int 1 v] }
  | .frz o u => h.get? a = some o ∧ ObjOk H h a u
  | .tbl ps => h.get? a = some { cls := .none, data := .fields ps }
  | .met f x => h.get? a = some (PySem.W.methodObj (.ref f) (.ref x))
  | .ext φ => φ h ∧ (∃ o, h.get? a = some o) ∧ ∀ h1 h2 : Heap, φ h1 → (∀ o, h1.get? a = some o → h2.get? a = some o) → φ h2

def HOk (H : Hp) (h : Heap) : Prop := ∀ a o, H a = some o → ObjOk P w H h a o
end

section
variable {P : Program} {w : World} {H H' : Hp} {h h' : Heap} {a : Addr} {o : HO}
theorem ObjOk.lt (x : ObjOk P w H h a o) : a < h.objs.size := by
  cases o with
  | lst xs => obtain ⟨_, _, _, _, e⟩ := x; exact Heap.lt_size e
  | tup xs => obtain ⟨_, _, _, p⟩ := x; exact p.lt
  | dK kvs => obtain ⟨_, _, _, _, o, _, _, e, _⟩ := x; exact Heap.lt_size e
  | dT kvs => obtain ⟨_, _, _, _, o, _, _, e, _⟩ := x; exact Heap.lt_size e
  | set S n => obtain ⟨o, _, _, _, e, _⟩ := x; exact Heap.lt_size e
  | ins C dx fs => obtain ⟨_, _, _, e, _⟩ := x; exact Heap.lt_size e
  | own y => obtain ⟨_, e⟩ := x; exact Heap.lt_size e
  | xd fs => obtain ⟨_, ⟨_, _, _, e, _⟩, _⟩ := x; exact Heap.lt_size e
  | rng lo hi => obtain ⟨_, _, _, e⟩ := x; exact Heap.lt_size e
  | frz ob u => obtain ⟨e, _⟩ := x; exact Heap.lt_size e
  | tbl ps => exact Heap.lt_size (show h.get? a = some _ from x)
  | met f y => exact Heap.lt_size (show h.get? a = some _ from x)
  | ext φ => obtain ⟨_, ⟨_, e⟩, _⟩ := x; exact Heap.lt_size e
theorem Paired.mapP {α β : Type} {F G : α → β → Prop} : ∀ {l₁ : List α} {l₂ : List β}, Paired F l₁ l₂ → (∀ a b, F a b → G a b) → Paired G l₁ l₂
  | _, _, .nil, _ => .nil
  | _, _, .cons r t, f => .cons (f _ _ r) (Paired.mapP t f)
theorem ObjOk.stay (x : ObjOk P w H h a o) (k : ∀ b u, (b = a ∨ H b = some (.own a)) → h.get? b = some u → h'.get? b = some u)
    (ho : ∀ b, H b = some (.own a) → H' b = some (.own a)) (ht : ∀ b xs, H b = some (.tup xs) → H' b = some (.tup xs)) : ObjOk P w H' h' a o := by
  induction o with
  | lst xs => obtain ⟨z, its, n, r, e⟩ := x; exact ⟨z, its, n, r, k _ _ (.inl rfl) e⟩
  | tup xs => obtain ⟨z, its, r, ob, e, c⟩ := x; exact ⟨z, its, r, ob, k _ _ (.inl rfl) e, c⟩
  | dK kvs => obtain ⟨z, y, vs, r, ob, es, ep, e, c⟩ := x; exact ⟨z, y, vs, r, ob, es, ep, k _ _ (.inl rfl) e, c⟩
  | dT kvs =>
    obtain ⟨z, y, xs, r, ob, es, ep, e, c⟩ := x
    exact ⟨z, y, xs, Paired.mapP r fun p q z => ⟨z.1, ht _ _ z.2.1, z.2.2⟩, ob, es, ep, k _ _ (.inl rfl) e, c⟩
  | set S n => obtain ⟨ob, es, ep, t, e, c⟩ := x; exact ⟨ob, es, ep, t, k _ _ (.inl rfl) e, c⟩
  | ins C dx fs =>
    obtain ⟨d, z, ne, e, mA, ⟨od, es, ep, e2, c⟩, r⟩ := x
    exact ⟨ho _ d, z, ne, k _ _ (.inl rfl) e, mA, ⟨od, es, ep, k _ _ (.inr d) e2, c⟩, r⟩
  | own y => obtain ⟨ob, e⟩ := x; exact ⟨ob, k _ _ (.inl rfl) e⟩
  | xd fs => obtain ⟨mA, ⟨od, es, ep, e, c⟩, r⟩ := x; exact ⟨mA, ⟨od, es, ep, k _ _ (.inl rfl) e, c⟩, r⟩
  | rng lo hi => obtain ⟨t, u, v, e⟩ := x; exact ⟨t, u, v, k _ _ (.inl rfl) e⟩
  | frz ob u ih => obtain ⟨e, q⟩ := x; exact ⟨k _ _ (.inl rfl) e, ih q⟩
  | tbl ps =>
    have e : h.get? a = some { cls := .none, data := .fields ps } := x
    show h'.get? a = some { cls := .none, data := .fields ps }
    exact k a _ (.inl rfl) e
  | met f y =>
    have e : h.get? a = some (PySem.W.methodObj (.ref f) (.ref y)) := x
    show h'.get? a = some (PySem.W.methodObj (.ref f) (.ref y))
    exact k a _ (.inl rfl) e
  | ext φ => obtain ⟨p, ⟨o, e⟩, st⟩ := x; exact ⟨st _ _ p fun o q => k _ _ (.inl rfl) q, ⟨o, k _ _ (.inl rfl) e⟩, st⟩
theorem HOk.lt (x : HOk P w H h) (e : H a = some o) : a < h.objs.size := (x a o e).lt
theorem HOk.fresh (x : HOk P w H h) (e : h.objs.size ≤ a) : H a = none := by
  cases q : H a with
  | none => rfl
  | some u => exact absurd (Nat.lt_of_lt_of_le (x.lt q) e) (Nat.lt_irrefl _)

theorem HOk.kept (x : HOk P w H h) (k : ∀ b u, h.get? b = some u → h'.get? b = some u) : HOk P w H h' := fun a o e =>
  (x a o e).stay (fun b u _ q => k b u q) (fun _ q => q) fun _ _ q => q

theorem HOk.laid (x : HOk P w H h) (k : ∀ b u, h.get? b = some u → h'.get? b = some u) (hp : h.objs.size ≤ a) (new : ObjOk P w (upd H a o) h' a o) : HOk P w (upd H a o) h' := fun b u e => by
  have hn := x.fresh hp
  by_cases hb : b = a
  · subst hb; rw [upd_same] at e; cases e; exact new
  · rw [upd_ne hb] at e
    exact (x b u e).stay (fun c v _ q => k c v q) (fun c q => by rw [upd_ne (ne_of_none q hn)]; exact q) fun c xs q => by rw [upd_ne (ne_of_none q hn)]; exact q
end


def Rd (H : Hp) (a : Addr) (u : HO) : Prop := H a = some u ∨ ∃ o, H a = some (.frz o u)
theorem Rd.ok {P : Program} {w : World} {H : Hp} {h : Heap} {a : Addr} {u : HO} (r : Rd H a u) (x : HOk P w H h) : ObjOk P w H h a u := by
  rcases r with r | ⟨o, r⟩
  · exact x a u r
  · obtain ⟨_, q⟩ := x a _ r
    exact q

def Mut : Option HO → Prop
  | some (.lst _) => True
  | some (.dK _) => True
  | some (.dT _) => True
  | some (.set _ _) => True
  | some (.ins _ _ _) => True
  | some (.ext _) => True
  | _ => False
section
variable {P : Program} {w : World} {H : Hp} {h h' : Heap} {x e : Addr} {o' : HO}

theorem HOk.write (ok : HOk P w H h) (mu : Mut (H x)) (he : e = x ∨ H e = some (.own x)) (k : ∀ b u, b ≠ e → h.get? b = some u → h'.get? b = some u) (heo : ∃ u, h'.get? e = some u)
    (new : ObjOk P w (upd H x o') h' x o') : HOk P w (upd H x o') h' := fun b u q => by
  have nown : ∀ c y, H c = some (.own y) → c ≠ x := fun c y r z => by subst z; rw [r] at mu; exact mu
  have ntup : ∀ c xs, H c = some (.tup xs) → c ≠ x := fun c xs r z => by subst z; rw [r] at mu; exact mu
  by_cases hb : b = x
  · subst hb; rw [upd_same] at q; cases q; exact new
  · rw [upd_ne hb] at q
    by_cases hbe : b = e
    · have q' : H b = some (.own x) := by
        rcases he with z | z
        · exact absurd (hbe.trans z) hb
        · rw [hbe]; exact z
      rw [q] at q'; cases q'
      obtain ⟨v, hv⟩ := heo
      exact ⟨v, by rw [hbe]; exact hv⟩
    · refine (ok b u q).stay (fun c v hc r => k c v ?_ r) (fun c r => by rw [upd_ne (nown c b r)]; exact r) fun c xs r => by rw [upd_ne (ntup c xs r)]; exact r
      rcases hc with rfl | hc
      · exact hbe
      · rintro rfl
        rcases he with z | z
        · exact nown c b hc z
        · rw [hc] at z; cases z; exact hb rfl
end


structure Un (fs ex : List Addr) (H H' : Hp) (h h' : Heap) : Prop where
  keep : ∀ b o, h.get? b = some o → H b = none → b ∉ fs → b ∉ ex → h'.get? b = some o
  slot : ∀ b o, h.get? b = some o → H b = none → b ∈ fs → b ∉ ex → ∃ sl, h'.get? b = some { o with slots := sl }
  free : ∀ b o, h.get? b = some o → H b = none → b ∉ ex → H' b = none
  there : ∀ b o, h.get? b = some o → b ∉ ex → ∃ o', h'.get? b = some o'
  tups : ∀ b xs, H b = some (.tup xs) → H' b = some (.tup xs)
  frzs : ∀ b o u, H b = some (.frz o u) → H' b = some (.frz o u)
  tbls : ∀ b ps, H b = some (.tbl ps) → ∃ more, H' b = some (.tbl (ps ++ more))
section
variable {fs fs' ex ex' : List Addr} {H H1 H2 : Hp} {h h1 h2 h' : Heap} {a x e : Addr} {o : HO}
theorem Un.any (u : Un fs ex H H1 h h1) {b : Addr} {ob : Obj} (q : h.get? b = some ob) (n : H b = none) (hx : b ∉ ex) : ∃ sl, h1.get? b = some { ob with slots := sl } := by
  by_cases hb : b ∈ fs
  · exact u.slot b ob q n hb hx
  · exact ⟨ob.slots, u.keep b ob q n hb hx⟩
theorem Un.kept (k : ∀ b u, h.get? b = some u → h'.get? b = some u) : Un fs ex H H h h' :=
  ⟨fun b ob q _ _ _ => k b ob q, fun b ob q _ _ _ => ⟨ob.slots, k b ob q⟩, fun _ _ _ n _ => n, fun b ob q _ => ⟨ob, k b ob q⟩, fun _ _ q => q, fun _ _ _ q => q, fun _ ps q => ⟨#[], by rw [q]; simp⟩⟩
theorem Un.refl : Un fs ex H H h h := Un.kept fun _ _ q => q
theorem Un.laid (k : ∀ b u, h.get? b = some u → h'.get? b = some u) (hp : h.objs.size ≤ a) (hn : H a = none) : Un fs ex H (upd H a o) h h' where
  keep := fun b u q _ _ _ => k b u q
  slot := fun b u q _ _ _ => ⟨u.slots, k b u q⟩
  free := fun b u q n _ => by rw [upd_ne (Nat.ne_of_lt (Nat.lt_of_lt_of_le (Heap.lt_size q) hp))]; exact n
  there := fun b u q _ => ⟨u, k b u q⟩
  tups := fun b xs q => by rw [upd_ne (ne_of_none q hn)]; exact q
  frzs := fun b u xs q => by rw [upd_ne (ne_of_none q hn)]; exact q
  tbls := fun b ps q => ⟨#[], by rw [upd_ne (ne_of_none q hn), q]; simp⟩
theorem Un.write (mu : Mut (H x)) (he : e = x ∨ H e = some (.own x)) (k : ∀ b u, b ≠ e → h.get? b = some u → h'.get? b = some u) (heo : ∃ u, h'.get? e = some u) : Un fs ex H (upd H x o) h h' := by
  have hx : ∀ b, H b = none → b ≠ x := fun b n z => by subst z; rw [n] at mu; exact mu
  have hb : ∀ b, H b = none → b ≠ e := fun b n z => by
    subst z
    rcases he with r | r
    · exact hx b n r
    · rw [n] at r; cases r
  have hm : ∀ b u, H b = some u → ¬ Mut (some u) → b ≠ x := fun b u q nm z => by subst z; rw [q] at mu; exact nm mu
  refine ⟨fun b u q n _ _ => k b u (hb b n) q, fun b u q n _ _ => ⟨u.slots, k b u (hb b n) q⟩, fun b u q n _ => by rw [upd_ne (hx b n)]; exact n, fun b u q _ => ?_,
    fun b xs q => by rw [upd_ne (hm b _ q fun z => z)]; exact q, fun b u xs q => by rw [upd_ne (hm b _ q fun z => z)]; exact q, fun b ps q => ⟨#[], by rw [upd_ne (hm b _ q fun z => z), q]; simp⟩⟩
  by_cases hbe : b = e
  · subst hbe; exact heo
  · exact ⟨u, k b u hbe q⟩
end


def trk (h : Heap) (H : Hp) : List Addr := (List.range h.objs.size).filter fun a => (H a).isSome
def hidT (h : Heap) (H : Hp) : Heap := PySem.W.hideAll h (trk h H)
theorem hidT_size (h : Heap) (H : Hp) : (hidT h H).objs.size = h.objs.size := PySem.W.hideAll_size _ _
theorem hidT_get {h : Heap} {H : Hp} {b : Addr} {o : Obj} (e : h.get? b = some o) (n : H b = none) : (hidT h H).get? b = some o :=
  PySem.W.hideAll_get _ e fun hm => by
    have q : (H b).isSome = true := (List.mem_filter.mp hm).2
    rw [n] at q; simp at q
theorem of_hidT {h : Heap} {H : Hp} {b : Addr} {o : Obj} (e : (hidT h H).get? b = some o) : h.get? b = some o ∧ H b = none := by
  have e' : h.get? b = some o := PySem.W.of_hideAll (trk h H) e
  refine ⟨e', ?_⟩
  cases q : H b with
  | none => rfl
  | some x =>
    have hm : b ∈ trk h H := List.mem_filter.mpr ⟨List.mem_range.mpr (Heap.lt_size e'), by simp [q]⟩
    have z : (hidT h H).get? b = none := PySem.W.hideAll_none (trk h H) hm
    rw [z] at e; cases e


end L2

namespace L2
open PySem PySem.Spec PyProof.Rows


structure Mod (K : PySem.W.Frag) (mg : Str → Option Value) (base : Heap) : Prop where
  kin : K.In base
  glob : base.Ns mainGlobals mg
  blt : ∃ mb, base.Ns builtinsNs mb ∧ ∀ x : Str, x ≠ "__name__" → mb x = bootBuiltins x
  nolimit : base.NoLimit


structure Cx where
  prog : Program
  w : World
  K : PySem.W.Frag
  mg : Str → Option Value
  base : Heap
  A : Around
  N : List Str
  s₀ : Shared
  H₀ : Hp
  env : Env
  outer : List Env
  stack : List Env
  ex : List Addr
  fn : Str → Bool
  calm : Bool
  pn : List (Addr × Obj)
  xe : Value → Shared → Prop

def frs (l : List Env) : List Addr := l.filterMap (·.frame)
abbrev Cx.fs (X : Cx) : List Addr := frs X.outer

def Vis (sc : Scope) (x : Str) : Prop := sc.names.lookup x = some .local ∨ sc.names.lookup x = some .cell ∨ sc.names.lookup x = some .free
def Loc (sc : Scope) (x : Str) : Prop := sc.names.lookup x = some .local ∨ sc.names.lookup x = some .cell
def Look (env : Env) (h : Heap) (m : Str → Option Value) (x : Str) (u : Value) : Prop :=
  (env.kindOf x = some .local ∧ m x = some u) ∨ ((env.kindOf x = some .cell ∨ env.kindOf x = some .free) ∧ ∃ c, env.cells.lookup x = some c ∧ h.IsCell c (some u))

structure Cx.Ok (X : Cx) : Prop where
  mod : Mod X.K X.mg X.base
  kind : X.env.scope.kind = .function
  glob : X.env.globals = mainGlobals
  blt : X.env.builtins = builtinsNs
  above : X.s₀.heap.objs.size ≤ X.env.locals
  inj : ∀ x y c, X.env.cells.lookup x = some c → X.env.cells.lookup y = some c → x = y
  has : ∀ x, (X.env.kindOf x = some .cell ∨ X.env.kindOf x = some .free) → ∃ c, X.env.cells.lookup x = some c
  cab : ∀ x c, X.fn x = true → X.env.cells.lookup x = some c → X.s₀.heap.objs.size ≤ c
  hd : X.calm = true → X.A.handled = none
  frames : X.A.frames = some X.stack
  stk : X.stack = X.outer ∨ (X.stack = X.env :: X.outer ∧ X.env.frame = some X.env.locals)
  exf : ∀ b ∈ X.ex, b ≠ X.env.locals ∧ ∀ x c, X.env.cells.lookup x = some c → c ≠ b
  bs : ∀ b o, X.base.get? b = some o → X.s₀.heap.get? b = some o ∧ X.H₀ b = none
  bsz : X.base.objs.size ≤ X.s₀.heap.objs.size
  noex : ∀ b o, X.base.get? b = some o → b ∉ X.ex
  exfs : ∀ b ∈ X.ex, b ∉ X.fs
  funs : X.s₀.heap.FunFrames X.base X.outer
  frf : ∀ b ∈ X.fs, X.H₀ b = none

structure Inv (X : Cx) (pins : List (Addr × Obj)) (σ : List (Option V)) (H : Hp) (s : Shared) : Prop where
  ok : X.Ok
  os : s.os = X.s₀.os
  bare : AllBare s.gens
  base : Un X.fs X.ex X.H₀ H X.s₀.heap s.heap
  loc : ∃ m, s.heap.Ns X.env.locals m ∧ ∀ (i : Nat) (x : Str) (v : V), X.N[i]? = some x → σ[i]? = some (some v) → Vis X.env.scope x → ∃ u, RelV v u ∧ Look X.env s.heap m x u
  cell : ∀ x c, X.env.cells.lookup x = some c → ∃ v, s.heap.IsCell c v
  free : H X.env.locals = none
  freeC : ∀ x c, X.env.cells.lookup x = some c → H c = none
  pin : ∀ p ∈ X.pn ++ pins, s.heap.get? p.1 = some p.2 ∧ H p.1 = none ∧ p.1 ≠ X.env.locals ∧ p.1 ∉ X.fs ∧ ∀ v, p.2.data ≠ .cell v
  hok : HOk X.prog X.w H s.heap
  len : σ.length = X.N.length

section
variable {X : Cx} {pins : List (Addr × Obj)} {σ : List (Option V)} {H H' : Hp} {s : Shared} {h' : Heap}

theorem Cx.Ok.nofr (ok : X.Ok) {b : Addr} {o : Obj} (e : X.base.get? b = some o) : b ∉ X.fs := fun hb => by
  have := (ok.funs.mem hb).1
  rw [e] at this; cases this
theorem Inv.bs (I : Inv X pins σ H s) : ∀ b o, X.base.get? b = some o → s.heap.get? b = some o ∧ H b = none := fun b o e =>
  ⟨I.base.keep b o (I.ok.bs b o e).1 (I.ok.bs b o e).2 (I.ok.nofr e) (I.ok.noex b o e), I.base.free b o (I.ok.bs b o e).1 (I.ok.bs b o e).2 (I.ok.noex b o e)⟩
theorem Inv.bk (I : Inv X pins σ H s) : ∀ b o, X.base.get? b = some o → s.heap.get? b = some o := fun b o e => (I.bs b o e).1
theorem Inv.mod (I : Inv X pins σ H s) : Mod X.K X.mg X.base := I.ok.mod
theorem Inv.kIn (I : Inv X pins σ H s) : X.K.In s.heap := I.ok.mod.kin.keeps I.bk
theorem Inv.lt (I : Inv X pins σ H s) : X.env.locals < s.heap.objs.size := let ⟨_, hn, _⟩ := I.loc; hn.lt
theorem Inv.sz (I : Inv X pins σ H s) : X.s₀.heap.objs.size ≤ s.heap.objs.size := Nat.le_trans I.ok.above (Nat.le_of_lt I.lt)
theorem Inv.nofs (I : Inv X pins σ H s) {a : Addr} (h : s.heap.objs.size ≤ a) : a ∉ X.fs := fun hb => by
  obtain ⟨_, o, ho, _⟩ := I.ok.funs.mem hb
  exact absurd (Nat.lt_of_lt_of_le (Heap.lt_size ho) (Nat.le_trans I.sz h)) (Nat.lt_irrefl _)
theorem Inv.cne (I : Inv X pins σ H s) : ∀ x c, X.env.cells.lookup x = some c → c ≠ X.env.locals := fun x c e z => by
  obtain ⟨v, o, ho, hd⟩ := I.cell x c e
  obtain ⟨m, ⟨o', es, ep, ho', hd', _⟩, _⟩ := I.loc
  rw [z, ho'] at ho; cases ho; rw [hd'] at hd; cases hd
theorem Inv.funs (I : Inv X pins σ H s) : s.heap.FunFrames X.base X.outer := by
  have all : ∀ (l : List Env), (∀ b ∈ frs l, b ∈ X.fs) → X.s₀.heap.FunFrames X.base l → s.heap.FunFrames X.base l := by
    intro l
    induction l with
    | nil => intro _ _; trivial
    | cons env r ih =>
      intro hs hl
      obtain ⟨hk, ⟨L, o, hf, hn, ho, hd⟩, hr⟩ := hl
      have hL : L ∈ X.fs := hs L (by unfold frs; rw [List.filterMap_cons, hf]; exact List.mem_cons_self)
      obtain ⟨sl, e⟩ := I.base.slot L o ho (I.ok.frf L hL) hL fun z => I.ok.exfs L z hL
      exact ⟨hk, ⟨L, _, hf, hn, e, hd⟩, ih (fun b hb => hs b (by unfold frs; rw [List.filterMap_cons, hf]; exact List.mem_cons_of_mem _ hb)) hr⟩
  exact all X.outer (fun _ hb => hb) I.ok.funs


theorem Inv.stack (I : Inv X pins σ H s) : s.heap.FunFrames X.base X.stack := by
  rcases I.ok.stk with e | ⟨e, hf⟩
  · rw [e]; exact I.funs
  · rw [e]
    obtain ⟨m, hn, _⟩ := I.loc
    refine .cons (by rw [I.ok.kind]; decide) hf hn ?_ I.funs
    exact Heap.get?_none_of_le (Nat.le_trans I.ok.bsz I.ok.above)
theorem Inv.stkSub (I : Inv X pins σ H s) : ∀ b ∈ frs X.stack, b ∈ X.env.locals :: X.fs := fun b hb => by
  rcases I.ok.stk with e | ⟨e, hf⟩
  · rw [e] at hb; exact List.mem_cons_of_mem _ hb
  · rw [e] at hb
    unfold frs at hb
    rw [List.filterMap_cons, hf] at hb
    exact hb
theorem Inv.stkFree (I : Inv X pins σ H s) : ∀ b ∈ frs X.stack, H b = none := fun b hb => by
  rcases List.mem_cons.mp (I.stkSub b hb) with e | hb
  · rw [e]; exact I.free
  · obtain ⟨_, o, ho, _⟩ := I.ok.funs.mem hb
    exact I.base.free b o ho (I.ok.frf b hb) fun z => I.ok.exfs b z hb


theorem Inv.step {g' : Array GenState} {t' : Nat} {d' : Drawn} {ch : List Addr} (I : Inv X pins σ H s)
    (hch : ∀ b ∈ ch, (b ∈ X.ex ∨ X.s₀.heap.objs.size ≤ b) ∧ b ≠ X.env.locals ∧ (∀ x c, X.env.cells.lookup x = some c → c ≠ b) ∧ ∀ p ∈ X.pn ++ pins, p.1 ≠ b)
    (keep : ∀ b o, b ≠ X.env.locals → b ∉ X.fs → b ∉ ch → s.heap.get? b = some o → H b = none → h'.get? b = some o)
    (slot : ∀ b o, b ≠ X.env.locals → b ∈ X.fs → b ∉ ch → s.heap.get? b = some o → H b = none → ∃ sl, h'.get? b = some { o with slots := sl }) (free : ∀ b o, b ∉ ch → s.heap.get? b = some o → H b = none → H' b = none)
    (there : ∀ b o, b ∉ ch → s.heap.get? b = some o → ∃ o', h'.get? b = some o')
    (tups : ∀ b xs, H b = some (.tup xs) → H' b = some (.tup xs)) (frzs : ∀ b o u, H b = some (.frz o u) → H' b = some (.frz o u)) (tbls : ∀ b ps, H b = some (.tbl ps) → ∃ more, H' b = some (.tbl (ps ++ more)))
    (ns : ∀ m, s.heap.Ns X.env.locals m → h'.Ns X.env.locals m) (hok : HOk X.prog X.w H' h') (hg : AllBare g') :
    Inv X pins σ H' { s with heap := h', gens := g', drawn := d', toks := t' } := by
  have neL : ∀ b o, X.s₀.heap.get? b = some o → b ≠ X.env.locals := fun b o e => Nat.ne_of_lt (Nat.lt_of_lt_of_le (Heap.lt_size e) I.ok.above)
  have neC : ∀ b o, X.s₀.heap.get? b = some o → b ∉ X.ex → b ∉ ch := fun b o e hx hb => by
    rcases (hch b hb).1 with z | z
    · exact hx z
    · exact absurd (Nat.lt_of_lt_of_le (Heap.lt_size e) z) (Nat.lt_irrefl _)
  have cellK : ∀ x c, X.env.cells.lookup x = some c → ∀ v, s.heap.IsCell c v → h'.IsCell c v := fun x c e v ⟨o, ho, hd⟩ => by
    have nch : c ∉ ch := fun z => (hch c z).2.2.1 x c e rfl
    by_cases hc : c ∈ X.fs
    · obtain ⟨sl, q⟩ := slot c o (I.cne x c e) hc nch ho (I.freeC x c e)
      exact ⟨_, q, hd⟩
    · exact ⟨o, keep c o (I.cne x c e) hc nch ho (I.freeC x c e), hd⟩
  refine ⟨I.ok, I.os, hg, ⟨fun b o e n hb hx => ?_, fun b o e n hb hx => ?_, fun b o e n hx => ?_, fun b o e hx => ?_, fun b xs e => tups b xs (I.base.tups b xs e), fun b o xs e => frzs b o xs (I.base.frzs b o xs e), fun b ps e => ?_⟩, ?_, fun x c e => ?_, ?_, fun x c e => ?_, fun p hp => ?_, hok, I.len⟩
  · exact keep b o (neL b o e) hb (neC b o e hx) (I.base.keep b o e n hb hx) (I.base.free b o e n hx)
  · obtain ⟨sl, e1⟩ := I.base.slot b o e n hb hx
    obtain ⟨sl', e2⟩ := slot b _ (neL b o e) hb (neC b o e hx) e1 (I.base.free b o e n hx)
    exact ⟨sl', e2⟩
  · obtain ⟨o', e1⟩ := I.base.there b o e hx
    exact free b o' (neC b o e hx) e1 (I.base.free b o e n hx)
  · obtain ⟨o', e1⟩ := I.base.there b o e hx
    exact there b o' (neC b o e hx) e1
  · obtain ⟨m1, e1⟩ := I.base.tbls b ps e
    obtain ⟨m2, e2⟩ := tbls b _ e1
    exact ⟨m1 ++ m2, by rw [e2, Array.append_assoc]⟩
  · obtain ⟨m, hn, hl⟩ := I.loc
    refine ⟨m, ns m hn, fun i x v e1 e2 e3 => ?_⟩
    obtain ⟨u, r, l⟩ := hl i x v e1 e2 e3
    refine ⟨u, r, ?_⟩
    rcases l with l | ⟨k, c, e, z⟩
    · exact .inl l
    · exact .inr ⟨k, c, e, cellK x c e _ z⟩
  · obtain ⟨v, z⟩ := I.cell x c e
    exact ⟨v, cellK x c e v z⟩
  · obtain ⟨m, ⟨o, _, _, ho, _⟩, _⟩ := I.loc
    exact free _ o (fun z => (hch _ z).2.1 rfl) ho I.free
  · obtain ⟨v, o, ho, hd⟩ := I.cell x c e
    exact free c o (fun z => (hch c z).2.2.1 x c e rfl) ho (I.freeC x c e)
  · obtain ⟨e, n, ne, nf, d⟩ := I.pin p hp
    have nch : p.1 ∉ ch := fun z => (hch p.1 z).2.2.2 p hp rfl
    exact ⟨keep p.1 p.2 ne nf nch e n, free p.1 p.2 nch e n, ne, nf, d⟩

theorem Inv.un {t' : Nat} (I : Inv X pins σ H s) (u : Un X.fs [] H H' s.heap h') (hok : HOk X.prog X.w H' h') : Inv X pins σ H' { s with heap := h', toks := t' } := by
  obtain ⟨m, ⟨o, es, ep, ho, r⟩, _⟩ := id I.loc
  obtain ⟨sl, hL⟩ := u.any ho I.free (by simp)
  exact I.step (g' := s.gens) (d' := s.drawn) (ch := []) (fun _ z => nomatch z) (fun b o _ hb _ e n => u.keep b o e n hb (by simp)) (fun b o _ hb _ e n => u.slot b o e n hb (by simp)) (fun b o _ e n => u.free b o e n (by simp)) (fun b o _ e => u.there b o e (by simp)) u.tups u.frzs u.tbls (fun m' hm => by
    obtain ⟨o', es', ep', ho', r'⟩ := hm
    rw [ho] at ho'; cases ho'
    exact ⟨_, es', ep', hL, r'⟩) hok I.bare

theorem Inv.call {g' : Array GenState} {t' : Nat} {d' : Drawn} {ch : List Addr} (I : Inv X pins σ H s) (u : Un (frs X.stack) ch H H' s.heap h') (hok : HOk X.prog X.w H' h') (hg : AllBare g')
    (hch : ∀ b ∈ ch, (b ∈ X.ex ∨ X.s₀.heap.objs.size ≤ b) ∧ b ≠ X.env.locals ∧ (∀ x c, X.env.cells.lookup x = some c → c ≠ b) ∧ ∀ p ∈ X.pn ++ pins, p.1 ≠ b) :
    Inv X pins σ H' { s with heap := h', gens := g', drawn := d', toks := t' } := by
  obtain ⟨m, ⟨o, es, ep, ho, r⟩, _⟩ := id I.loc
  obtain ⟨sl, hL⟩ := u.any ho I.free fun z => (hch _ z).2.1 rfl
  exact I.step (ch := ch) hch (fun b o hL hb hc e n => u.keep b o e n (fun z => (List.mem_cons.mp (I.stkSub b z)).elim hL hb) hc) (fun b o _ _ hc e n => u.any e n hc) (fun b o hc e n => u.free b o e n hc) (fun b o hc e => u.there b o e hc) u.tups u.frzs u.tbls (fun m' hm => by
    obtain ⟨o', es', ep', ho', r'⟩ := hm
    rw [ho] at ho'; cases ho'
    exact ⟨_, es', ep', hL, r'⟩) hok hg

theorem Inv.turned {t' : Nat} {it : Addr} (I : Inv X pins σ H s) (k : ∀ b o, b ≠ it → s.heap.get? b = some o → h'.get? b = some o) (hn : H it = none) (hL : it ≠ X.env.locals)
    (h1 : it ∈ X.ex ∨ X.s₀.heap.objs.size ≤ it) (h2 : ∀ x c, X.env.cells.lookup x = some c → c ≠ it) (h3 : ∀ p ∈ X.pn ++ pins, p.1 ≠ it) : Inv X pins σ H { s with heap := h', toks := t' } := by
  have nit : ∀ b u, H b = some u → b ≠ it := fun b u e z => by rw [z, hn] at e; cases e
  refine I.step (g' := s.gens) (d' := s.drawn) (ch := [it]) (fun b hb => ?_) (fun b o _ _ hc e _ => k b o (fun z => hc (by simp [z])) e) (fun b o _ _ hc e _ => ⟨o.slots, k b o (fun z => hc (by simp [z])) e⟩) (fun _ _ _ _ n => n)
    (fun b o hc e => ⟨o, k b o (fun z => hc (by simp [z])) e⟩) (fun _ _ e => e) (fun _ _ _ e => e) (fun b ps e => ⟨#[], by rw [e]; simp⟩) (fun m hm => ?_) (fun b u e => ?_) I.bare
  · have e : b = it := by simpa using hb
    subst e
    exact ⟨h1, hL, h2, h3⟩
  · obtain ⟨o, es, ep, ho, r⟩ := hm
    exact ⟨o, es, ep, k _ o (Ne.symm hL) ho, r⟩
  · refine (I.hok b u e).stay (fun c v hc q => k c v ?_ q) (fun _ q => q) fun _ _ q => q
    rcases hc with z | z
    · rw [z]; exact nit b u e
    · exact nit c _ z
theorem Inv.tok (I : Inv X pins σ H s) (t : Nat) : Inv X pins σ H { s with toks := t } := I.un (h' := s.heap) (t' := t) Un.refl I.hok

theorem Inv.kept {t' : Nat} (I : Inv X pins σ H s) (k : ∀ b u, s.heap.get? b = some u → h'.get? b = some u) : Inv X pins σ H { s with heap := h', toks := t' } := I.un (Un.kept k) (I.hok.kept k)

theorem Inv.laid {a : Addr} {o : HO} {t' : Nat} (I : Inv X pins σ H s) (k : ∀ b u, s.heap.get? b = some u → h'.get? b = some u) (hp : s.heap.objs.size ≤ a) (new : ObjOk X.prog X.w (upd H a o) h' a o) :
    Inv X pins σ (upd H a o) { s with heap := h', toks := t' } := I.un (Un.laid k hp (I.hok.fresh hp)) (I.hok.laid k hp new)

theorem Inv.write {x e : Addr} {o : HO} {t' : Nat} (I : Inv X pins σ H s) (mu : Mut (H x)) (he : e = x ∨ H e = some (.own x)) (k : ∀ b u, b ≠ e → s.heap.get? b = some u → h'.get? b = some u) (heo : ∃ u, h'.get? e = some u)
    (new : ObjOk X.prog X.w (upd H x o) h' x o) : Inv X pins σ (upd H x o) { s with heap := h', toks := t' } := I.un (Un.write mu he k heo) (I.hok.write mu he k heo new)

theorem Inv.pins_of {pins' : List (Addr × Obj)} (I : Inv X pins σ H s) (h : ∀ p ∈ pins', s.heap.get? p.1 = some p.2 ∧ H p.1 = none ∧ p.1 ≠ X.env.locals ∧ p.1 ∉ X.fs ∧ ∀ v, p.2.data ≠ .cell v) : Inv X pins' σ H s :=
  ⟨I.ok, I.os, I.bare, I.base, I.loc, I.cell, I.free, I.freeC, fun p hp => (List.mem_append.mp hp).elim (fun z => I.pin p (List.mem_append_left _ z)) (h p), I.hok, I.len⟩

theorem nodup_ix {N : List Str} (hN : N.Nodup) {i j : Nat} {x : Str} (a : N[i]? = some x) (b : N[j]? = some x) : i = j := by
  obtain ⟨h1, e1⟩ := List.getElem?_eq_some_iff.mp a
  obtain ⟨h2, e2⟩ := List.getElem?_eq_some_iff.mp b
  exact (List.getElem_inj hN).mp (e1.trans e2.symm)


theorem store_ok2 {M : Model} {A : Around} {E : Value → Shared → Prop} {i : Nat} {x : Str} {v : V} {u : Value} {Q : Unit → Shared → Prop} (I : Inv X pins σ H s) (hN : X.N.Nodup) (hi : X.N[i]? = some x) (hx : Loc X.env.scope x) (r : RelV v u)
    (h : ∀ s', Inv X pins (σ.set i (some v)) H s' → (∃ a, Heap.SameBut a s.heap s'.heap ∧ (a = X.env.locals ∨ X.env.cells.lookup x = some a)) → Q () s') (hf : X.fn x = true ∨ X.env.scope.names.lookup x = some .local := by first | exact .inl rfl | exact .inr rfl | assumption) : wpAny M A (storeName X.env x u) Q E s := by
  obtain ⟨m, hn, hl⟩ := id I.loc
  have hcls : (X.env.scope.kind == .class || (X.env.scope.kind == .module && X.env.locals != X.env.globals)) = false := by rw [I.ok.kind]; rfl
  have hiσ : i < σ.length := by rw [I.len]; exact (List.getElem?_eq_some_iff.mp hi).1
  have cne := I.cne
  have tracked : ∀ {a : Addr} {h' : Heap}, (∃ o, s.heap.get? a = some o ∧ H a = none) → Heap.SameBut a s.heap h' → HOk X.prog X.w H h' := fun {a h'} ha hs b ob e => by
    obtain ⟨_, _, hfree⟩ := ha
    refine (I.hok b ob e).stay (fun c w' hc q => (hs.2 c ?_).trans q) (fun _ q => q) fun _ _ q => q
    rintro rfl
    rcases hc with rfl | hc
    · rw [hfree] at e; cases e
    · rw [hfree] at hc; cases hc
  rcases hx with hk | hk
  · refine wpAny_storeName_local hk hn (fun h' hn' hs => ?_) hcls
    obtain ⟨oL, _, _, hoL, _⟩ := id hn
    refine h _ ⟨I.ok, I.os, I.bare, ⟨fun b o e n hb hx => ?_, fun b o e n hb hx => ?_, I.base.free, fun b o e hx => ?_, I.base.tups, I.base.frzs, I.base.tbls⟩, ⟨_, hn', fun j y v' e1 e2 e3 => ?_⟩, fun y c e => ?_, I.free, I.freeC, fun p hp => ?_, tracked ⟨oL, hoL, I.free⟩ hs, by simpa using I.len⟩ ⟨_, hs, .inl rfl⟩
    · exact (hs.2 b (Nat.ne_of_lt (Nat.lt_of_lt_of_le (Heap.lt_size e) I.ok.above))).trans (I.base.keep b o e n hb hx)
    · obtain ⟨sl, e1⟩ := I.base.slot b o e n hb hx
      exact ⟨sl, (hs.2 b (Nat.ne_of_lt (Nat.lt_of_lt_of_le (Heap.lt_size e) I.ok.above))).trans e1⟩
    · obtain ⟨o', e1⟩ := I.base.there b o e hx
      exact ⟨o', (hs.2 b (Nat.ne_of_lt (Nat.lt_of_lt_of_le (Heap.lt_size e) I.ok.above))).trans e1⟩
    · by_cases hj : j = i
      · subst hj
        rw [hi] at e1; cases e1
        rw [List.getElem?_set_self hiσ] at e2
        cases e2
        exact ⟨u, r, .inl ⟨hk, by simp⟩⟩
      · rw [List.getElem?_set_ne (Ne.symm hj)] at e2
        obtain ⟨u', r', q⟩ := hl j y v' e1 e2 e3
        refine ⟨u', r', ?_⟩
        rcases q with ⟨k, e⟩ | ⟨k, c, e, z⟩
        · refine .inl ⟨k, ?_⟩
          have : y ≠ x := fun e => hj (nodup_ix hN e1 (e ▸ hi))
          simp [this, e]
        · exact .inr ⟨k, c, e, z.sameBut hs (cne y c e)⟩
    · obtain ⟨w', z⟩ := I.cell y c e
      exact ⟨w', z.sameBut hs (cne y c e)⟩
    · obtain ⟨e, n, ne, nf, d⟩ := I.pin p hp
      exact ⟨(hs.2 p.1 ne).trans e, n, ne, nf, d⟩
  · have hfn : X.fn x = true := by
      rcases hf with z | z
      · exact z
      · rw [z] at hk; cases hk
    obtain ⟨c, hc⟩ := I.ok.has x (.inl hk)
    obtain ⟨w', z⟩ := I.cell x c hc
    refine wpAny_storeName_cell I.ok.kind hk hc z (fun h' hc' hs => ?_)
    obtain ⟨oc, hoc, hocd⟩ := id z
    refine h { s with heap := h' } ⟨I.ok, I.os, I.bare, ⟨fun b o e n hb hx => ?_, fun b o e n hb hx => ?_, I.base.free, fun b o e hx => ?_, I.base.tups, I.base.frzs, I.base.tbls⟩, ⟨m, hn.sameBut hs (Ne.symm (cne x c hc)), fun j y v' e1 e2 e3 => ?_⟩, fun y c' e => ?_, I.free, I.freeC, fun p hp => ?_, tracked ⟨oc, hoc, I.freeC x c hc⟩ hs, by simpa using I.len⟩ ⟨c, hs, .inr hc⟩
    · exact (hs.2 b (Nat.ne_of_lt (Nat.lt_of_lt_of_le (Heap.lt_size e) (I.ok.cab x c hfn hc)))).trans (I.base.keep b o e n hb hx)
    · obtain ⟨sl, e1⟩ := I.base.slot b o e n hb hx
      exact ⟨sl, (hs.2 b (Nat.ne_of_lt (Nat.lt_of_lt_of_le (Heap.lt_size e) (I.ok.cab x c hfn hc)))).trans e1⟩
    · obtain ⟨o', e1⟩ := I.base.there b o e hx
      exact ⟨o', (hs.2 b (Nat.ne_of_lt (Nat.lt_of_lt_of_le (Heap.lt_size e) (I.ok.cab x c hfn hc)))).trans e1⟩
    · by_cases hj : j = i
      · subst hj
        rw [hi] at e1; cases e1
        rw [List.getElem?_set_self hiσ] at e2
        cases e2
        exact ⟨u, r, .inr ⟨.inl hk, c, hc, hc'⟩⟩
      · rw [List.getElem?_set_ne (Ne.symm hj)] at e2
        obtain ⟨u', r', q⟩ := hl j y v' e1 e2 e3
        refine ⟨u', r', ?_⟩
        rcases q with q | ⟨k, c', e, z'⟩
        · exact .inl q
        · refine .inr ⟨k, c', e, z'.sameBut hs ?_⟩
          rintro rfl
          exact hj (nodup_ix hN e1 (I.ok.inj _ _ _ e hc ▸ hi))
    · by_cases hcc : c' = c
      · subst hcc; exact ⟨_, hc'⟩
      · obtain ⟨w2, z2⟩ := I.cell y c' e
        exact ⟨w2, z2.sameBut hs hcc⟩
    · obtain ⟨e, n, ne, nf, d⟩ := I.pin p hp
      refine ⟨(hs.2 p.1 ?_).trans e, n, ne, nf, d⟩
      intro q
      rw [q, hoc] at e
      have q' : oc = p.2 := Option.some.inj e
      exact d w' (by rw [← q']; exact hocd)
theorem store_ok {M : Model} {A : Around} {E : Value → Shared → Prop} {i : Nat} {x : Str} {v : V} {u : Value} {Q : Unit → Shared → Prop} (I : Inv X pins σ H s) (hN : X.N.Nodup) (hi : X.N[i]? = some x) (hx : Loc X.env.scope x) (r : RelV v u)
    (h : ∀ s', Inv X pins (σ.set i (some v)) H s' → Q () s') (hf : X.fn x = true ∨ X.env.scope.names.lookup x = some .local := by first | exact .inl rfl | exact .inr rfl | assumption) : wpAny M A (storeName X.env x u) Q E s :=
  store_ok2 I hN hi hx r (fun s' I' _ => h s' I') hf

theorem Inv.call' {s' : Shared} {ch : List Addr} (I : Inv X pins σ H s) (ho : s'.os = s.os) (u : Un (frs X.stack) ch H H' s.heap s'.heap) (hok : HOk X.prog X.w H' s'.heap) (hg : AllBare s'.gens)
    (hch : ∀ b ∈ ch, (b ∈ X.ex ∨ X.s₀.heap.objs.size ≤ b) ∧ b ≠ X.env.locals ∧ (∀ x c, X.env.cells.lookup x = some c → c ≠ b) ∧ ∀ p ∈ X.pn ++ pins, p.1 ≠ b) : Inv X pins σ H' s' := by
  obtain ⟨h', g', d', t', o'⟩ := s'
  have e : o' = s.os := ho
  subst e
  exact I.call (g' := g') (t' := t') (d' := d') u hok hg hch
end



abbrev XK := Value → Option Addr → Hp → Prop
abbrev St := List (Option V)
abbrev VK := V → Hp → Prop

abbrev TE := St → Hp → VK → Prop
abbrev TT := St → Hp → (Bool → Hp → Prop) → Prop
abbrev TA := St → Hp → (List V → Hp → Prop) → Prop

structure Ends where
  nx : St → Hp → Prop
  rt : VK
  bk : St → Hp → Prop := fun _ _ => False
  ct : St → Hp → Prop := fun _ _ => False
abbrev TS := Ends → St → Hp → Prop

def EP (X : Cx) (pins : List (Addr × Obj)) (σ : St) (Q : VK) (u : Value) (s' : Shared) : Prop := ∃ v H', Inv X pins σ H' s' ∧ RelV v u ∧ Q v H'
def TP (X : Cx) (pins : List (Addr × Obj)) (σ : St) (Q : Bool → Hp → Prop) (b : Bool) (s' : Shared) : Prop := ∃ H', Inv X pins σ H' s' ∧ Q b H'
def AP (X : Cx) (pins : List (Addr × Obj)) (σ : St) (Q : List V → Hp → Prop) (us : List Value) (s' : Shared) : Prop := ∃ vs H', Inv X pins σ H' s' ∧ Vals vs us ∧ Q vs H'
def SP (X : Cx) (pins : List (Addr × Obj)) (D : Ends) (f : Flow) (s' : Shared) : Prop :=
  match f with
  | .next => ∃ σ' H', Inv X pins σ' H' s' ∧ D.nx σ' H'
  | .brk => ∃ σ' H', Inv X pins σ' H' s' ∧ D.bk σ' H'
  | .cont => ∃ σ' H', Inv X pins σ' H' s' ∧ D.ct σ' H'
  | .ret u => ∃ v σ' H', Inv X pins σ' H' s' ∧ RelV v u ∧ D.rt v H'

def PE (X : Cx) (e : Expr) (t : TE) : Prop :=
  ∀ (pins : List (Addr × Obj)) (s : Shared) (σ : St) (H : Hp) (Q : VK), Inv X pins σ H s → t σ H Q → wpAny (model X.prog X.w) X.A (eval e X.env) (EP X pins σ Q) X.xe s
def PT (X : Cx) (e : Expr) (t : TT) : Prop :=
  ∀ (pins : List (Addr × Obj)) (s : Shared) (σ : St) (H : Hp) (Q : Bool → Hp → Prop), Inv X pins σ H s → t σ H Q → wpAny (model X.prog X.w) X.A (isTrue e X.env (eval e X.env)) (TP X pins σ Q) X.xe s

def PW (X : Cx) (e : Expr) (t : TT) : Prop :=
  ∀ (whole : Sem Value) (pins : List (Addr × Obj)) (s : Shared) (σ : St) (H : Hp) (Q : Bool → Hp → Prop), Inv X pins σ H s → t σ H Q → wpAny (model X.prog X.w) X.A (isTrue e X.env whole) (TP X pins σ Q) X.xe s
theorem PW.pt {X : Cx} {e : Expr} {t : TT} (h : PW X e t) : PT X e t := h _

def PA (X : Cx) (es : List Expr) (t : TA) : Prop :=
  ∀ (pos : Pos) (pins : List (Addr × Obj)) (s : Shared) (σ : St) (H : Hp) (Q : List V → Hp → Prop), Inv X pins σ H s → t σ H Q → wpAny (model X.prog X.w) X.A (spliced (backTo pos (starEach es X.env))) (AP X pins σ Q) X.xe s
def PS (X : Cx) (st : Stmt) (t : TS) : Prop :=
  ∀ (pins : List (Addr × Obj)) (s : Shared) (σ : St) (H : Hp) (D : Ends), Inv X pins σ H s → t D σ H → wpAny (model X.prog X.w) X.A (exec st X.env) (SP X pins D) X.xe s
def PSs (X : Cx) (st : List Stmt) (t : TS) : Prop :=
  ∀ (pins : List (Addr × Obj)) (s : Shared) (σ : St) (H : Hp) (D : Ends), Inv X pins σ H s → t D σ H → wpAny (model X.prog X.w) X.A (execs st X.env) (SP X pins D) X.xe s

theorem thn {α : Type} {t : Sem α} {Q Q' : α → Shared → Prop} {M : Model} {A : Around} {E : Value → Shared → Prop} {s : Shared} (h : wpAny M A t Q E s) (hQ : ∀ a s, Q a s → Q' a s) : wpAny M A t Q' E s := wpAny_mono h hQ fun _ _ x => x
end L2

namespace L2
open PySem PySem.Spec PyProof.Rows
section
variable {X : Cx}


def tVar (i : Nat) : TE := fun σ H Q => ∃ v, σ[i]? = some (some v) ∧ Q v H
def tC (v : V) : TE := fun _ H Q => Q v H
theorem pe_var {i : Nat} {x : Str} {pos : Pos} (hN : X.N[i]? = some x) (hv : Vis X.env.scope x) (hd : (x == ("__debug__" : Str)) = false := by decide) (hcd : (x == ("__classdict__" : Str)) = false := by decide) : PE X (.Name x pos) (tVar i) := by
  intro pins s σ H Q I h
  obtain ⟨v, e, h⟩ := h
  obtain ⟨m, hn, hl⟩ := I.loc
  obtain ⟨u, r, l⟩ := hl i x v hN e hv
  have fin : EP X pins σ Q u s := ⟨v, H, I, r, h⟩
  rcases l with ⟨hk, hm⟩ | ⟨hk, c, hc, hcell⟩
  · exact wpAny_Name (wpAny_loadName_local I.ok.kind hk hn hm fin) hd
  · rcases hk with hk | hk
    · exact wpAny_Name (wpAny_loadName_cell I.ok.kind hk hc hcell fin) hd
    · exact wpAny_Name (wpAny_loadName_free I.ok.kind hk hc hcell fin hcd) hd
theorem pe_int {i j pos} : PE X (.Constant (.int i) j pos) (tC (.int i)) := fun _ _ _ H _ I h => wpAny_Constant_int ⟨.int i, H, I.tok _, ⟨_, rfl⟩, h⟩
theorem pe_bl {b j pos} : PE X (.Constant (.bool b) j pos) (tC (.bl b)) := fun _ _ _ H _ I h => Constant_bool ⟨.bl b, H, I, rfl, h⟩
theorem pe_non {j pos} : PE X (.Constant .none j pos) (tC .non) := fun _ _ _ H _ I h => Constant_none ⟨.non, H, I, rfl, h⟩
theorem pe_str {x j pos} : PE X (.Constant (.str x) j pos) (tC (.str x)) := fun _ _ _ H _ I h => Calls.Constant_str ⟨.str x, H, I.tok _, ⟨_, rfl⟩, h⟩


def Gl (X : Cx) (x : Str) : Prop := X.env.kindOf x = some .globalImplicit
theorem ld_glob {E : Value → Shared → Prop} {pins : List (Addr × Obj)} {s : Shared} {σ : St} {H : Hp} {x : Str} {u : Value} {pos : Pos} {Q : Value → Shared → Prop} (I : Inv X pins σ H s) (hg : Gl X x) (hm : X.mg x = some u) (h : Q u s)
    (hd : (x == ("__debug__" : Str)) = false := by decide) : wpAny (model X.prog X.w) X.A (eval (.Name x pos) X.env) Q E s :=
  Calls.Name_function_global I.ok.kind hg (Calls.loadGlobal_global (by rw [I.ok.glob]; exact I.mod.glob.keeps I.bk) hm h) hd
theorem ld_blt {E : Value → Shared → Prop} {pins : List (Addr × Obj)} {s : Shared} {σ : St} {H : Hp} {x : Str} {u : Value} {pos : Pos} {Q : Value → Shared → Prop} (I : Inv X pins σ H s) (hg : Gl X x) (hm : X.mg x = none) (hv : bootBuiltins x = some u) (h : Q u s)
    (hn : x ≠ "__name__" := by decide) (hd : (x == ("__debug__" : Str)) = false := by decide) : wpAny (model X.prog X.w) X.A (eval (.Name x pos) X.env) Q E s := by
  obtain ⟨mb, h1, h2⟩ := I.mod.blt
  exact Calls.Name_function_global I.ok.kind hg (Calls.loadGlobal_builtin (by rw [I.ok.glob]; exact I.mod.glob.keeps I.bk) hm (by rw [I.ok.blt]; exact h1.keeps I.bk) ((h2 x hn).trans hv) h) hd

theorem pe_glob {x : Str} {v : V} {u : Value} {pos : Pos} (hg : Gl X x) (hm : X.mg x = some u) (r : RelV v u) (hd : (x == ("__debug__" : Str)) = false := by decide) : PE X (.Name x pos) (tC v) :=
  fun _ _ _ H _ I h => ld_glob I hg hm ⟨v, H, I, r, h⟩ hd
theorem pe_bltn {x : Str} {v : V} {u : Value} {pos : Pos} (hg : Gl X x) (hm : X.mg x = none) (hv : bootBuiltins x = some u) (r : RelV v u) (hn : x ≠ "__name__" := by decide) (hd : (x == ("__debug__" : Str)) = false := by decide) : PE X (.Name x pos) (tC v) :=
  fun _ _ _ H _ I h => ld_blt I hg hm hv ⟨v, H, I, r, h⟩ hn hd



variable {a b : Expr} {ta tb : TE} {pos : Pos}
variable {tA tB' : TT} {rest : List Expr}
def tAnd (t u : TT) : TT := fun σ H Q => t σ H fun c H1 => if c = true then u σ H1 Q else Q false H1
def tOr (t u : TT) : TT := fun σ H Q => t σ H fun c H1 => if c = true then Q true H1 else u σ H1 Q
def tNot (t : TT) : TT := fun σ H Q => t σ H fun c H1 => Q (!c) H1
theorem pw_and1 (ha : PT X a tA) : PW X (.BoolOp .And [a] pos) tA := by
  intro wh pins s σ H Q I h
  refine isTrue_and (thn (ha pins s σ H Q I h) fun c s1 e => ?_)
  cases c with
  | true => exact isTrue_and_nil e
  | false => exact e
theorem pw_or1 (ha : PT X a tA) : PW X (.BoolOp .Or [a] pos) tA := by
  intro wh pins s σ H Q I h
  refine isTrue_or (thn (ha pins s σ H Q I h) fun c s1 e => ?_)
  cases c with
  | false => exact isTrue_or_nil e
  | true => exact e
theorem pw_and (ha : PT X a tA) (hb : PW X (.BoolOp .And (b :: rest) pos) tB') : PW X (.BoolOp .And (a :: b :: rest) pos) (tAnd tA tB') := by
  intro wh pins s σ H Q I h
  refine isTrue_and (thn (ha pins s σ H _ I h) fun c s1 ⟨H1, I1, q1⟩ => ?_)
  cases c with
  | true => exact hb wh pins s1 σ H1 Q I1 q1
  | false => exact ⟨H1, I1, q1⟩
theorem pw_or (ha : PT X a tA) (hb : PW X (.BoolOp .Or (b :: rest) pos) tB') : PW X (.BoolOp .Or (a :: b :: rest) pos) (tOr tA tB') := by
  intro wh pins s σ H Q I h
  refine isTrue_or (thn (ha pins s σ H _ I h) fun c s1 ⟨H1, I1, q1⟩ => ?_)
  cases c with
  | true => exact ⟨H1, I1, q1⟩
  | false => exact hb wh pins s1 σ H1 Q I1 q1
theorem pt_not (ha : PT X a tA) : PT X (.UnaryOp .Not a pos) (tNot tA) := by
  intro pins s σ H Q I h
  exact isTrue_not (ha pins s σ H (fun c H1 => Q (!c) H1) I h)

def tAndV (ta tb : TE) : TE := fun σ H Q => ta σ H fun x H1 => ∃ c, x = .bl c ∧ if c = true then tb σ H1 Q else Q (.bl false) H1
theorem pe_one {op} {t : TE} (h : PE X a t) : PE X (.BoolOp op [a] pos) t := fun pins s σ H Q I hw => BoolOp_one (h pins s σ H Q I hw)
theorem pe_and (ha : PE X a ta) (hb : PE X (.BoolOp .And (b :: rest) pos) tb) : PE X (.BoolOp .And (a :: b :: rest) pos) (tAndV ta tb) := by
  intro pins s σ H Q I h
  refine BoolOp_and (thn (ha pins s σ H _ I h) fun v s1 ⟨x, H1, I1, r1, q1⟩ => ?_)
  obtain ⟨c, rfl, q1⟩ := q1
  cases r1
  refine wpAny_truthy_bool ?_
  cases c with
  | true => exact hb pins s1 σ H1 Q I1 q1
  | false => exact ⟨.bl false, H1, I1, rfl, q1⟩
def tIf (t : TT) (ta tb : TE) : TE := fun σ H Q => t σ H fun c H1 => if c = true then ta σ H1 Q else tb σ H1 Q
theorem pe_ifExp {c : Expr} (hc : PT X c tA) (ha : PE X a ta) (hb : PE X b tb) : PE X (.IfExp c a b pos) (tIf tA ta tb) := by
  intro pins s σ H Q I h
  refine wpAny_IfExp (thn (hc pins s σ H _ I h) fun d s1 ⟨H1, I1, q1⟩ => ?_)
  cases d with
  | true => exact ha pins s1 σ H1 Q I1 q1
  | false => exact hb pins s1 σ H1 Q I1 q1
end
end L2

namespace L2
open PySem PySem.Spec PyProof.Rows


def SqL (K : PySem.W.Frag) (H : Hp) (a : Addr) (xs : List V) : Prop :=
  Rd H a (.lst xs) ∨
    ∃ (o : Obj) (its : Array Value) (n : Nat), K.lookup a = some o ∧ o.cls = .type "list" ∧ o.dict = none ∧ o.data = .seq its n ∧ its.size ≤ sizeLine ∧ Vals xs its.toList
def SqT (K : PySem.W.Frag) (H : Hp) (a : Addr) (xs : List V) : Prop :=
  Rd H a (.tup xs) ∨
    ∃ (o : Obj) (its : Array Value) (n : Nat), K.lookup a = some o ∧ o.cls = .type "tuple" ∧ o.data = .seq its n ∧ its.size ≤ sizeLine ∧ Vals xs its.toList
def absV : Value → Option V
  | .none => some .non
  | .bool b => some (.bl b)
  | .int i _ => some (.int i)
  | .str x _ => some (.str x)
  | .bytes b _ => some (.byt b)
  | .float b _ => some (.flt b)
  | .ref a => some (.ref a)
  | .type n => some (.ty n)
  | _ => none
theorem RelV.abs {x : V} {u : Value} (r : RelV x u) : absV u = some x := by
  cases x with
  | non => cases r; rfl
  | bl _ => cases r; rfl
  | int _ => obtain ⟨t, rfl⟩ := r; rfl
  | str _ => obtain ⟨t, rfl⟩ := r; rfl
  | byt _ => obtain ⟨t, rfl⟩ := r; rfl
  | flt _ => obtain ⟨t, rfl⟩ := r; rfl
  | ref _ => cases r; rfl
  | ty _ => cases r; rfl
theorem RelV.inj {x y : V} {u : Value} (r : RelV x u) (q : RelV y u) : x = y := Option.some.inj (r.abs.symm.trans q.abs)
theorem Vals.inj : ∀ {xs ys : List V} {us : List Value}, Vals xs us → Vals ys us → xs = ys
  | _, _, _, .nil, .nil => rfl
  | _, _, _, .cons r t, .cons r' t' => by rw [r.inj r', Vals.inj t t']
section
variable {X : Cx} {pins : List (Addr × Obj)} {σ : St} {H : Hp} {s : Shared} {a : Addr} {xs ys : List V}
theorem SqL.of {K : PySem.W.Frag} (h : H a = some (.lst xs)) : SqL K H a xs := .inl (.inl h)
theorem SqT.of {K : PySem.W.Frag} (h : H a = some (.tup xs)) : SqT K H a xs := .inl (.inl h)
theorem Inv.list (I : Inv X pins σ H s) (h : SqL X.K H a xs) : ∃ its : List Value, Vals xs its ∧ PlainL s.heap a its.toArray ∧ xs.length ≤ sizeLine := by
  rcases h with h | ⟨o, its, n, hk, hc, hd, hs, hz, r⟩
  · obtain ⟨z, its, n, r, e⟩ := h.ok I.hok
    exact ⟨its, r, ⟨_, n, e, rfl, rfl, rfl⟩, z⟩
  · refine ⟨its.toList, r, ⟨o, n, I.kIn a o hk, hc, hd, by simpa using hs⟩, ?_⟩
    have e := r.length
    simp only [Array.length_toList] at e
    omega
theorem Inv.tuple (I : Inv X pins σ H s) (h : SqT X.K H a xs) : ∃ its : List Value, Vals xs its ∧ IsTup s.heap a its.toArray ∧ xs.length ≤ sizeLine := by
  rcases h with h | ⟨o, its, n, hk, hc, hs, hz, r⟩
  · obtain ⟨z, its, r, p⟩ := h.ok I.hok
    exact ⟨its, r, p, z⟩
  · refine ⟨its.toList, r, ⟨o, I.kIn a o hk, hc, n, by simpa using hs⟩, ?_⟩
    have e := r.length
    simp only [Array.length_toList] at e
    omega
theorem Inv.list_inj (I : Inv X pins σ H s) (h : SqL X.K H a xs) (h' : SqL X.K H a ys) : xs = ys := by
  obtain ⟨its, r, ⟨o, n, e, _, _, d⟩, _⟩ := I.list h
  obtain ⟨its', r', ⟨o', n', e', _, _, d'⟩, _⟩ := I.list h'
  rw [e] at e'; cases e'
  rw [d] at d'
  injection d' with d1 _
  have : its = its' := by simpa using congrArg Array.toList d1
  subst this
  exact r.inj r'
theorem Inv.tuple_inj (I : Inv X pins σ H s) (h : SqT X.K H a xs) (h' : SqT X.K H a ys) : xs = ys := by
  obtain ⟨its, r, ⟨o, e, _, n, d⟩, _⟩ := I.tuple h
  obtain ⟨its', r', ⟨o', e', _, n', d'⟩, _⟩ := I.tuple h'
  rw [e] at e'; cases e'
  rw [d] at d'
  injection d' with d1 _
  have : its = its' := by simpa using congrArg Array.toList d1
  subst this
  exact r.inj r'
end


abbrev Cx.wish (X : Cx) (E : Value → Shared → Prop) : Cx := { X with xe := E }

abbrev Cx.nox (X : Cx) : Cx := X.wish fun _ _ => False
theorem Cx.Ok.wish {X : Cx} (ok : X.Ok) (E : Value → Shared → Prop) : (X.wish E).Ok :=
  ⟨ok.mod, ok.kind, ok.glob, ok.blt, ok.above, ok.inj, ok.has, ok.cab, ok.hd, ok.frames, ok.stk, ok.exf, ok.bs, ok.bsz, ok.noex, ok.exfs, ok.funs, ok.frf⟩
theorem Cx.Ok.unwish {X : Cx} {E : Value → Shared → Prop} (ok : (X.wish E).Ok) : X.Ok :=
  ⟨ok.mod, ok.kind, ok.glob, ok.blt, ok.above, ok.inj, ok.has, ok.cab, ok.hd, ok.frames, ok.stk, ok.exf, ok.bs, ok.bsz, ok.noex, ok.exfs, ok.funs, ok.frf⟩
section
variable {X : Cx} {pins : List (Addr × Obj)} {σ : St} {H : Hp} {s : Shared} {E : Value → Shared → Prop}
theorem Inv.wish (I : Inv X pins σ H s) (E : Value → Shared → Prop) : Inv (X.wish E) pins σ H s := ⟨I.ok.wish E, I.os, I.bare, I.base, I.loc, I.cell, I.free, I.freeC, I.pin, I.hok, I.len⟩
theorem Inv.unwish (I : Inv (X.wish E) pins σ H s) : Inv X pins σ H s := ⟨I.ok.unwish, I.os, I.bare, I.base, I.loc, I.cell, I.free, I.freeC, I.pin, I.hok, I.len⟩
theorem SP.unwish {D : Ends} {f : Flow} {s' : Shared} (h : SP (X.wish E) pins D f s') : SP X pins D f s' := by
  cases f with
  | next => obtain ⟨σ', H', I, q⟩ := h; exact ⟨σ', H', I.unwish, q⟩
  | brk => obtain ⟨σ', H', I, q⟩ := h; exact ⟨σ', H', I.unwish, q⟩
  | cont => obtain ⟨σ', H', I, q⟩ := h; exact ⟨σ', H', I.unwish, q⟩
  | ret u => obtain ⟨v, σ', H', I, r, q⟩ := h; exact ⟨v, σ', H', I.unwish, r, q⟩
theorem PT.nox {e : Expr} {t : TT} (h : PT X.nox e t) : PT X e t := fun pins s σ H Q I hw =>
  wpAny_mono (h pins s σ H Q (I.wish _) hw) (fun _ _ ⟨H', I', q⟩ => ⟨H', I'.unwish, q⟩) fun _ _ z => False.elim z
theorem PSs.nox {st : List Stmt} {t : TS} (h : PSs X.nox st t) : PSs X st t := fun pins s σ H D I hw =>
  wpAny_mono (h pins s σ H D (I.wish _) hw) (fun _ _ q => q.unwish) fun _ _ z => False.elim z
end


section
variable {X : Cx} {st : Stmt} {rest : List Stmt} {t u : TS} {e : Expr} {te : TE} {pos : Pos}
def tNext : TS := fun D σ H => D.nx σ H
def tSeq (t u : TS) : TS := fun D σ H => t { D with nx := u D } σ H
theorem pss_nil : PSs X [] tNext := fun _ _ σ H _ I h => wpAny_execs_nil ⟨σ, H, I, h⟩
theorem pss_cons (h1 : PS X st t) (h2 : PSs X rest u) : PSs X (st :: rest) (tSeq t u) := by
  intro pins s σ H D I h
  refine wpAny_execs_cons (thn (h1 pins s σ H { D with nx := u D } I h) fun f s1 q => ?_)
  cases f with
  | next =>
    obtain ⟨σ', H', I', q⟩ := q
    exact h2 pins s1 σ' H' D I' q
  | ret v => exact q
  | brk => exact q
  | cont => exact q
theorem pss_one (h1 : PS X st t) : PSs X [st] t := by
  intro pins s σ H D I h
  refine wpAny_execs_cons (thn (h1 pins s σ H D I h) fun f s1 q => ?_)
  cases f with
  | next => exact wpAny_execs_nil q
  | ret v => exact q
  | brk => exact q
  | cont => exact q
theorem Inv.quiet {pins : List (Addr × Obj)} {σ : St} {H : Hp} {s : Shared} (I : Inv X pins σ H s) : interactive X.env = false := by simp [interactive, I.ok.kind]

def tDrop (te : TE) : TS := fun D σ H => te σ H fun _ H1 => D.nx σ H1
theorem ps_expr (he : PE X e te) (hs : swapsWith e none pos.line X.env = pure false := by rfl) : PS X (.Expr e pos) (tDrop te) := by
  intro pins s σ H D I h
  exact wpAny_Expr_any (thn (he pins s σ H _ I h) fun v s1 ⟨x, H1, I1, r1, q1⟩ => ⟨σ, H1, I1, q1⟩) I.quiet hs
def tRet (te : TE) : TS := fun D σ H => te σ H D.rt
theorem ps_ret (he : PE X e te) : PS X (.Return (some e) pos) (tRet te) := by
  intro pins s σ H D I h
  exact wpAny_Return_some (thn (he pins s σ H _ I h) fun v s1 ⟨x, H1, I1, r1, q1⟩ => ⟨x, σ, H1, I1, r1, q1⟩)
def tIfS (c : TT) (t u : TS) : TS := fun D σ H => c σ H fun b H1 => if b = true then t D σ H1 else u D σ H1
theorem ps_if {c : Expr} {a b : List Stmt} {tc : TT} (hc : PT X c tc) (ha : PSs X a t) (hb : PSs X b u) : PS X (.If c a b pos) (tIfS tc t u) := by
  intro pins s σ H D I h
  refine wpAny_If (thn (hc pins s σ H _ I h) fun d s1 ⟨H1, I1, q1⟩ => ?_)
  cases d with
  | true => exact ha pins s1 σ H1 D I1 q1
  | false => exact hb pins s1 σ H1 D I1 q1

end


abbrev TG := V → St → Hp → (St → Hp → Prop) → Prop
abbrev TGs := List V → St → Hp → (St → Hp → Prop) → Prop
def PG (X : Cx) (target : Expr) (t : TG) : Prop :=
  ∀ (pins : List (Addr × Obj)) (s : Shared) (σ : St) (H : Hp) (v : V) (u : Value) (Q : St → Hp → Prop), Inv X pins σ H s → RelV v u → t v σ H Q →
    wpAny (model X.prog X.w) X.A (assign target X.env u) (fun _ s' => ∃ σ' H', Inv X pins σ' H' s' ∧ Q σ' H') X.xe s

def PGs (X : Cx) (ts : List Expr) (t : TGs) : Prop :=
  ∀ (pins : List (Addr × Obj)) (s : Shared) (σ : St) (H : Hp) (vs : List V) (us : List Value) (Q : St → Hp → Prop), Inv X pins σ H s → Vals vs us → t vs σ H Q →
    wpAny (model X.prog X.w) X.A (assignInOrder ((assignEach ts X.env).map (·.2)) us) (fun _ s' => ∃ σ' H', Inv X pins σ' H' s' ∧ Q σ' H') X.xe s

section
variable {X : Cx} {pos : Pos}
def gName (i : Nat) : TG := fun v σ H Q => Q (σ.set i (some v)) H
theorem pg_name {i : Nat} {x : Str} (hN : X.N.Nodup) (hi : X.N[i]? = some x) (hx : Loc X.env.scope x) (hf : X.fn x = true ∨ X.env.scope.names.lookup x = some .local := by first | exact .inl rfl | exact .inr rfl | assumption) : PG X (.Name x pos) (gName i) := by
  intro pins s σ H v u Q I r h
  exact wpAny_assign_Name (store_ok I hN hi hx r (fun s' I' => ⟨_, H, I', h⟩) hf)
def gNil : TGs := fun vs σ H Q => vs = [] ∧ Q σ H
def gCons (t : TG) (u : TGs) : TGs := fun vs σ H Q => ∃ v r, vs = v :: r ∧ t v σ H fun σ' H' => u r σ' H' Q
theorem pgs_nil : PGs X [] gNil := by
  intro pins s σ H vs us Q I r h
  obtain ⟨e, h⟩ := h
  subst e
  cases r
  exact assignInOrder_nil ⟨σ, H, I, h⟩
theorem pgs_cons {e : Expr} {es : List Expr} {t : TG} {u : TGs} (h1 : PG X e t) (h2 : PGs X es u)
    (hs : (assignEach (e :: es) X.env).map (·.2) = assign e X.env :: (assignEach es X.env).map (·.2) := by rfl) : PGs X (e :: es) (gCons t u) := by
  intro pins s σ H vs us Q I r h
  obtain ⟨v, vr, e1, h⟩ := h
  subst e1
  cases r with
  | cons r rr =>
    rw [hs]
    refine assignInOrder_cons (thn (h1 pins s σ H _ _ _ I r h) fun _ s1 ⟨σ1, H1, I1, q1⟩ => ?_)
    exact h2 pins s1 σ1 H1 _ _ Q I1 rr q1

def gTup (K : PySem.W.Frag) (n : Nat) (t : TGs) : TG := fun v σ H Q => ∃ a xs, v = .ref a ∧ SqT K H a xs ∧ xs.length = n ∧ t xs σ H Q
theorem pg_tup {es : List Expr} {k : Nat} {t : TGs} {n : Nat} (hc : X.calm = true) (h : PGs X es t)
    (hn : (assignEach es X.env).length = n := by rfl) (hst : (assignEach es X.env).findIdx? (·.1) = none := by rfl) : PG X (.Tuple es k pos) (gTup X.K n t) := by
  intro pins s σ H v u Q I r hw
  obtain ⟨a, xs, e1, hq, hl, hw⟩ := hw
  subst e1
  cases r
  obtain ⟨its, rv, ht, hz⟩ := I.tuple hq
  refine assign_Tuple_tuple (I.ok.hd hc) ht (by simp [hn, ← hl, rv.length]) hst fun h' hx => ?_
  have I1 : Inv X pins σ H { s with heap := h' } := I.kept (t' := s.toks) fun b o e => hx b o (Nat.ne_of_lt (Heap.lt_size e)) e
  exact h pins _ σ H xs _ Q I1 (by simpa using rv) hw

def tAsg (te : TE) (g : TG) : TS := fun D σ H => te σ H fun x H1 => g x σ H1 D.nx
theorem ps_asg {tg e : Expr} {te : TE} {g : TG} (he : PE X e te) (hg : PG X tg g) (hs : swapsWithSole [tg] e pos.line X.env = pure false := by rfl) (hw : swappedStores [tg] e X.env = pure none := by rfl)
    (h1 : (assignEach [tg] X.env).map (·.2) = [assign tg X.env] := by rfl) : PS X (.Assign [tg] e pos) (tAsg te g) := by
  intro pins s σ H D I h
  refine wpAny_Assign_stores (thn (he pins s σ H _ I h) fun v s1 ⟨x, H1, I1, r1, q1⟩ => ?_) hs hw
  rw [h1]
  exact thn (hg pins s1 σ H1 x v _ I1 r1 q1) fun _ s2 q => q

theorem ps_set {i : Nat} {x : Str} {e : Expr} {te : TE} {pos' : Pos} (hN : X.N.Nodup) (hi : X.N[i]? = some x) (hx : Loc X.env.scope x) (he : PE X e te) (hs : swapsWith e (some (.Name x pos')) pos.line X.env = pure false := by rfl) (hf : X.fn x = true ∨ X.env.scope.names.lookup x = some .local := by first | exact .inl rfl | exact .inr rfl | assumption) :
    PS X (.Assign [.Name x pos'] e pos) (tAsg te (gName i)) := by
  intro pins s σ H D I h
  refine wpAny_Assign_Name (thn (he pins s σ H _ I h) fun v s1 ⟨y, H1, I1, r1, q1⟩ => ?_) hs
  exact store_ok I1 hN hi hx r1 (fun s2 I2 => ⟨_, H1, I2, q1⟩) hf

end


section
variable {X : Cx} {pos : Pos}

def tWhile (c : TT) (tb : TS) : TS := fun D σ H => ∃ W : Nat → St → Hp → Prop, (∃ m, W m σ H) ∧ ∀ m σ H, W m σ H →
  c σ H fun b H1 => if b = true then ∃ N : St → Hp → Prop, (∀ σ' H', N σ' H' → ∃ m', m' < m ∧ W m' σ' H') ∧ tb { D with nx := N, ct := N, bk := D.nx } σ H1 else D.nx σ H1
theorem ps_while {c : Expr} {body : List Stmt} {tc : TT} {tb : TS} (hp : PassesOwn (model X.prog X.w) X.A X.env X.xe) (hc : PT X c tc) (hb : PSs X body tb) : PS X (.While c body [] pos) (tWhile tc tb) := by
  intro pins s σ H D I h
  obtain ⟨W, ⟨m0, w0⟩, turn⟩ := h
  refine wpAny_While (codeAny_whileLoop (fun n s' => ∃ σ' H', Inv X pins σ' H' s' ∧ W n σ' H') ?_ m0 ⟨σ, H, I, w0⟩)
  rintro n s1 ⟨σ1, H1, I1, w1⟩
  refine wpAny_passesOwn hp (thn (hc pins s1 σ1 H1 _ I1 (turn n σ1 H1 w1)) fun b s2 ⟨H2, I2, q2⟩ => ?_)
  cases b with
  | true =>
    obtain ⟨N, hN, q2⟩ := q2
    rw [if_pos rfl]
    refine wpAny_passesOwn hp (thn (hb pins s2 σ1 H2 _ I2 q2) fun f s3 q3 => ?_)
    cases f with
    | next =>
      obtain ⟨σ3, H3, I3, n3⟩ := q3
      obtain ⟨m', hm, w3⟩ := hN σ3 H3 n3
      exact ⟨m', hm, σ3, H3, I3, w3⟩
    | cont =>
      obtain ⟨σ3, H3, I3, n3⟩ := q3
      obtain ⟨m', hm, w3⟩ := hN σ3 H3 n3
      exact ⟨m', hm, σ3, H3, I3, w3⟩
    | brk => exact q3
    | ret v => exact q3
  | false =>
    rw [if_neg Bool.false_ne_true]
    exact wpAny_execs_nil ⟨σ1, H2, I2, q2⟩
end



structure It where
  go : Nat → Hp → Prop
  yld : Nat → Hp → V → Hp → Prop
  stop : Nat → Hp → Prop

def FpOk (X : Cx) (pins : List (Addr × Obj)) (H : Hp) (b : Addr) : Prop :=
  H b = none ∧ b ≠ X.env.locals ∧ b ∉ X.fs ∧ (b ∈ X.ex ∨ X.s₀.heap.objs.size ≤ b) ∧ (∀ x c, X.env.cells.lookup x = some c → c ≠ b) ∧ ∀ p ∈ X.pn ++ pins, p.1 ≠ b
theorem Inv.fpOk {X : Cx} {pins : List (Addr × Obj)} {σ : St} {H H' : Hp} {s : Shared} {b : Addr} (I : Inv X pins σ H s) (hb : s.heap.objs.size ≤ b) (hn : H' b = none) : FpOk X pins H' b := by
  refine ⟨hn, Nat.ne_of_gt (Nat.lt_of_lt_of_le I.lt hb), I.nofs hb, .inr (Nat.le_trans I.sz hb), fun x c e z => ?_, fun p hp z => ?_⟩
  · obtain ⟨v, q⟩ := I.cell x c e
    exact absurd (Nat.lt_of_lt_of_le q.lt (by rw [z]; exact hb)) (Nat.lt_irrefl _)
  · exact absurd (Nat.lt_of_lt_of_le (Heap.lt_size (I.pin p hp).1) (by rw [z]; exact hb)) (Nat.lt_irrefl _)
structure Turn (P : Program) (w : World) (K : PySem.W.Frag) (tg : Expr) (J : It) (fp : List Addr) (it : Addr) (tn : Nat → Heap → Prop) : Prop where
  mem : it ∈ fp
  obj : ∀ i h, tn i h → ∀ b ∈ fp, ∃ o, h.get? b = some o ∧ ∀ v, o.data ≠ .cell v
  keep : ∀ i h h', tn i h → (∀ b ∈ fp, ∀ o, h.get? b = some o → h'.get? b = some o) → tn i h'
  item : ∀ (X : Cx), X.prog = P → X.w = w → X.K = K → X.calm = true → ∀ (i : Nat) (pins : List (Addr × Obj)) (s : Shared) (σ : St) (H : Hp) (E : Value → Shared → Prop), Inv X pins σ H s → (∀ b ∈ fp, FpOk X pins H b) → tn i s.heap → J.go i H →
    wpAny (model P w) X.A (pyNext (.ref it)) (fun r s1 => ∃ u, r = some u ∧
      wpAny (model P w) X.A (letOwnedTupleGo tg (.ref it) u) (fun _ s2 => ∃ x H', Inv X pins σ H' s2 ∧ RelV x u ∧ J.yld i H x H' ∧ tn (i + 1) s2.heap ∧ ∀ b ∈ fp, H' b = none) E s1) E s
  done : ∀ (X : Cx), X.prog = P → X.w = w → X.K = K → X.calm = true → ∀ (i : Nat) (pins : List (Addr × Obj)) (s : Shared) (σ : St) (H : Hp) (E : Value → Shared → Prop), Inv X pins σ H s → (∀ b ∈ fp, FpOk X pins H b) → tn i s.heap → J.stop i H →
    wpAny (model P w) X.A (pyNext (.ref it)) (fun r s1 => r = none ∧ Inv X pins σ H s1) E s
  self : ∀ (A : Around) (i : Nat) (s : Shared) (Q : Value → Shared → Prop) (E : Value → Shared → Prop), tn i s.heap → Q (.ref it) s → wpAny (model P w) A (pyIter (.ref it)) Q E s
abbrev TI := St → Hp → (It → Hp → Prop) → Prop

def PIE (X : Cx) (pins : List (Addr × Obj)) (σ : St) (tg : Expr) (R : It → Hp → Prop) (itv : Value) (s2 : Shared) : Prop :=
  ∃ (it : Addr) (fp : List Addr) (tn : Nat → Heap → Prop) (J : It) (H' : Hp), itv = .ref it ∧ Inv X pins σ H' s2 ∧ Turn X.prog X.w X.K tg J fp it tn ∧ tn 0 s2.heap ∧ (∀ b ∈ fp, FpOk X pins H' b) ∧ R J H'
def PI (X : Cx) (tg iter : Expr) (wi : TI) : Prop :=
  ∀ (pins : List (Addr × Obj)) (s : Shared) (σ : St) (H : Hp) (R : It → Hp → Prop), Inv X pins σ H s → wi σ H R →
    wpAny (model X.prog X.w) X.A (eval iter X.env) (fun v s1 => wpAny (model X.prog X.w) X.A (pyIter v) (PIE X pins σ tg R) X.xe s1) X.xe s


theorem go_of {M : Model} {A : Around} {E : Value → Shared → Prop} {s : Shared} {tg : Expr} {it : Addr} {u : Value} {o : Obj} {n : String} {vs : Array Value} {Q : Unit → Shared → Prop} (ho : s.heap.get? it = some o) (hc : o.cls = .type n) (hd : o.data = .fields vs)
    (hn : ["enumerate", "zip", "dict_itemiterator", "dict_reverseitemiterator", "odict_iterator", "itertools.zip_longest", "itertools.pairwise"].contains n = false) (hQ : Q () s) : wpAny M A (letOwnedTupleGo tg (.ref it) u) Q E s := by
  unfold letOwnedTupleGo
  cases tg <;> first
    | exact wpAny_pure hQ
    | (cases u <;> first
        | exact wpAny_pure hQ
        | (refine wpAny_bind (wpAny_load ho ?_)
           rw [hc, hd]
           show wpAny M A (if (["enumerate", "zip", "dict_itemiterator", "dict_reverseitemiterator", "odict_iterator", "itertools.zip_longest", "itertools.pairwise"].contains n && vs[0]? == some (rawInt _)) = true then _ else _) Q E s
           rw [if_neg (by intro h; rw [hn, Bool.false_and] at h; cases h)]
           exact wpAny_pure hQ))


def Itl (K : PySem.W.Frag) (a : Addr) : It :=
  ⟨fun i H => ∃ xs x, SqL K H a xs ∧ xs[i]? = some x, fun i H x H' => H' = H ∧ ∀ xs, SqL K H a xs → xs[i]? = some x, fun i H => ∃ xs, SqL K H a xs ∧ xs.length ≤ i⟩
def Itt (K : PySem.W.Frag) (a : Addr) : It :=
  ⟨fun i H => ∃ xs x, SqT K H a xs ∧ xs[i]? = some x, fun i H x H' => H' = H ∧ ∀ xs, SqT K H a xs → xs[i]? = some x, fun i H => ∃ xs, SqT K H a xs ∧ xs.length ≤ i⟩

def Itr (lo : Int) (n : Nat) : It := ⟨fun i _ => i < n, fun i H x H' => H' = H ∧ x = .int (lo + i), fun i _ => n ≤ i⟩
theorem turn_list {P : Program} {w : World} {K : PySem.W.Frag} {tg : Expr} (a it : Addr) : Turn P w K tg (Itl K a) [it] it (fun i h => h.IsListIter it a i) where
  mem := by simp
  obj := fun i h st b hb => by
    have e : b = it := by simpa using hb
    subst e
    obtain ⟨o, e, c, d⟩ := st
    exact ⟨o, e, fun v z => by rw [d] at z; cases z⟩
  keep := fun i h h' st k => st.at fun o e => k it (by simp) o e
  item := by
    intro X hP hw hK hc i pins s σ H E I hf st hg
    subst hP hw hK
    obtain ⟨xs, x, hq, hx⟩ := hg
    obtain ⟨its, rv, p, hz⟩ := I.list hq
    obtain ⟨u, hu, ru⟩ := rv.get hx
    obtain ⟨f0, f1, f2, f3, f4, f5⟩ := hf it (by simp)
    refine wpAny_pyNext_list_item st p.isList (x := u) (by simpa using hu) fun h' st' sb => ?_
    have I1 : Inv X pins σ H { s with heap := h' } := I.turned (t' := s.toks) (fun b o hb e => (sb.2 b hb).trans e) f0 f1 f3 f4 f5
    obtain ⟨o, e, c, d⟩ := id st'
    exact ⟨u, rfl, go_of (s := { s with heap := h' }) e c d (by decide) ⟨x, H, I1, ru, ⟨rfl, fun ys hy => by rw [I.list_inj hy hq]; exact hx⟩, st', fun b hb => (hf b hb).1⟩⟩
  done := by
    intro X hP hw hK hc i pins s σ H E I hf st hg
    subst hP hw hK
    obtain ⟨xs, hq, hx⟩ := hg
    obtain ⟨its, rv, p, hz⟩ := I.list hq
    obtain ⟨f0, f1, f2, f3, f4, f5⟩ := hf it (by simp)
    have hl := rv.length
    exact wpAny_pyNext_list_end (I.ok.hd hc) st p.isList (by simp; omega) fun h' eb => ⟨rfl, I.turned (t' := s.toks) (fun b o hb e => eb b o hb e) f0 f1 f3 f4 f5⟩
  self := fun _ _ _ _ _ st h => wpAny_pyIter_listiter st h
theorem turn_tuple {P : Program} {w : World} {K : PySem.W.Frag} {tg : Expr} (a it : Addr) : Turn P w K tg (Itt K a) [it] it (fun i h => h.IsTupleIter it a i) where
  mem := by simp
  obj := fun i h st b hb => by
    have e : b = it := by simpa using hb
    subst e
    obtain ⟨o, e, c, d⟩ := st
    exact ⟨o, e, fun v z => by rw [d] at z; cases z⟩
  keep := fun i h h' st k => st.at fun o e => k it (by simp) o e
  item := by
    intro X hP hw hK hc i pins s σ H E I hf st hg
    subst hP hw hK
    obtain ⟨xs, x, hq, hx⟩ := hg
    obtain ⟨its, rv, p, hz⟩ := I.tuple hq
    obtain ⟨u, hu, ru⟩ := rv.get hx
    obtain ⟨f0, f1, f2, f3, f4, f5⟩ := hf it (by simp)
    refine wpAny_pyNext_tuple_item st (show s.heap.IsTuple a its.toArray from p) (x := u) (by simpa using hu) fun h' st' sb => ?_
    have I1 : Inv X pins σ H { s with heap := h' } := I.turned (t' := s.toks) (fun b o hb e => (sb.2 b hb).trans e) f0 f1 f3 f4 f5
    obtain ⟨o, e, c, d⟩ := id st'
    exact ⟨u, rfl, go_of (s := { s with heap := h' }) e c d (by decide) ⟨x, H, I1, ru, ⟨rfl, fun ys hy => by rw [I.tuple_inj hy hq]; exact hx⟩, st', fun b hb => (hf b hb).1⟩⟩
  done := by
    intro X hP hw hK hc i pins s σ H E I hf st hg
    subst hP hw hK
    obtain ⟨xs, hq, hx⟩ := hg
    obtain ⟨its, rv, p, hz⟩ := I.tuple hq
    obtain ⟨f0, f1, f2, f3, f4, f5⟩ := hf it (by simp)
    have hl := rv.length
    exact wpAny_pyNext_tuple_end (I.ok.hd hc) st (show s.heap.IsTuple a its.toArray from p) (by simp; omega) fun h' eb => ⟨rfl, I.turned (t' := s.toks) (fun b o hb e => eb b o hb e) f0 f1 f3 f4 f5⟩
  self := fun _ _ _ _ _ st h => wpAny_pyIter_tupleiter st h
theorem turn_range {P : Program} {w : World} {K : PySem.W.Frag} {tg : Expr} (it : Addr) (lo : Int) (n : Nat) : Turn P w K tg (Itr lo n) [it] it (fun i h => IsRangeIter h it (lo + (i : Nat) * 1) ((n : Int) - (i : Nat)) 1) where
  mem := by simp
  obj := fun i h st b hb => by
    have e : b = it := by simpa using hb
    subst e
    exact ⟨_, st, fun v z => by
      have z' : Data.fields _ = Data.cell v := z
      cases z'⟩
  keep := fun i h h' st k => k it (by simp) _ st
  item := by
    intro X hP hw hK hc i pins s σ H E I hf st hg
    subst hP hw hK
    obtain ⟨f0, f1, f2, f3, f4, f5⟩ := hf it (by simp)
    have W := Walks.range (prog := X.prog) (w := X.w) (I.ok.hd hc) it lo 1 n
    refine W.item i s _ _ hg st fun v h' tk hv st' kk => ?_
    obtain ⟨t, rfl⟩ := hv
    have I1 : Inv X pins σ H { s with heap := h', toks := tk } := I.turned (fun b o hb e => kk b o (by simpa using hb) e) f0 f1 f3 f4 f5
    refine ⟨_, rfl, go_of (s := { s with heap := h', toks := tk }) (n := "range_iterator") st' rfl rfl (by decide) ⟨.int (lo + i), H, I1, ⟨t, ?_⟩, ⟨rfl, rfl⟩, st', fun b hb => (hf b hb).1⟩⟩
    rw [Int.mul_one]
  done := by
    intro X hP hw hK hc i pins s σ H E I hf st hg
    subst hP hw hK
    obtain ⟨f0, f1, f2, f3, f4, f5⟩ := hf it (by simp)
    exact wpAny_pyNext_range_end (I.ok.hd hc) st (by have : n ≤ i := hg; omega) fun h' eb => ⟨rfl, I.turned (t' := s.toks) (fun b o hb e => eb b o hb e) f0 f1 f3 f4 f5⟩
  self := fun _ _ _ _ _ st h => wpAny_pyIter_rangeiter st h
end L2

namespace L2
open PySem PySem.Spec PyProof.Rows
section
variable {X : Cx} {tg : Expr}
theorem range_it {pins : List (Addr × Obj)} {σ : St} {H : Hp} {s : Shared} {R : It → Hp → Prop} {E : Value → Shared → Prop} {lo hi : Int} {t u v : Tok} {tk : Nat} (I : Inv X pins σ H s) (h1 : -(2 ^ 62) ≤ lo) (h2 : lo < 2 ^ 62) (h3 : -(2 ^ 62) ≤ hi) (h4 : hi < 2 ^ 62)
    (q : R (Itr lo (hi - lo).toNat) H) : wpAny (model X.prog X.w) X.A (pyIter (.ref s.heap.objs.size)) (PIE X pins σ tg R) E { s with heap := s.heap.push { cls := .type "range", data := .fields #[.int lo t, .int hi u, .int 1 v] }, toks := tk } := by
  refine wpAny_pyIter_range (IsRange.new ..) (small_one h1 h2 h3 h4) ?_
  have I1 : Inv X pins σ H { s with heap := s.heap.push { cls := .type "range", data := .fields #[.int lo t, .int hi u, .int 1 v] }, toks := tk } := I.kept fun b o e => Heap.get?_push_of_some _ e
  refine ⟨(s.heap.push { cls := .type "range", data := .fields #[.int lo t, .int hi u, .int 1 v] }).objs.size, [(s.heap.push { cls := .type "range", data := .fields #[.int lo t, .int hi u, .int 1 v] }).objs.size], _, _, H, rfl,
    I1.kept (t' := tk) fun b o e => Heap.get?_push_of_some _ e, turn_range _ lo (hi - lo).toNat, ?_, fun b hb => ?_, q⟩
  · have e1 : lo + ((0 : Nat) : Int) * 1 = lo := by simp
    have e2 : (((hi - lo).toNat : Nat) : Int) - ((0 : Nat) : Int) = Builtin.Range.rangeSize lo hi 1 := by rw [rangeSize_one]; split <;> omega
    show IsRangeIter _ _ (lo + ((0 : Nat) : Int) * 1) ((((hi - lo).toNat : Nat) : Int) - ((0 : Nat) : Int)) 1
    rw [e1, e2]
    exact Heap.get?_push_size _ rfl
  · have e : b = (s.heap.push { cls := .type "range", data := .fields #[.int lo t, .int hi u, .int 1 v] }).objs.size := by simpa using hb
    subst e
    exact I1.fpOk (Nat.le_refl _) (I1.hok.fresh (Nat.le_refl _))
def iRng1 (ta : TA) : TI := fun σ H R => ta σ H fun vs H1 => ∃ j : Int, vs = [.int j] ∧ -(2 ^ 62) ≤ j ∧ j < 2 ^ 62 ∧ R (Itr 0 j.toNat) H1
theorem pi_range1 {a : Expr} {ta : TA} {p pos : Pos} (hg : Gl X "range") (hm : X.mg "range" = none) (ha : PA X [a] ta) (hs : starEach [a] X.env = [(false, eval a X.env)] := by rfl) : PI X tg (.Call (.Name "range" p) [a] [] pos) (iRng1 ta) := by
  intro pins s σ H R I h
  refine Call_ (ld_blt I hg hm boot_range (PyProof.Rows.callWith_type1 (thn (ha pos pins s σ H _ I h) fun us s1 ⟨vs, H1, I1, r1, q1⟩ => ?_) hs rfl))
  obtain ⟨j, e, q1, q2, q⟩ := q1
  subst e
  cases r1 with
  | cons r rr =>
    cases rr
    obtain ⟨t, rfl⟩ := r
    exact call_range_1 (range_it I1 (by omega) (by omega) q1 q2 (by simpa using q))
def tFor (wi : TI) (g : TG) (tb : TS) : TS := fun D σ H => wi σ H fun J H1 => ∃ W : Nat → Nat → St → Hp → Prop, (∃ m, W 0 m σ H1) ∧ ∀ i m σ H, W i m σ H →
  (J.stop i H ∧ D.nx σ H) ∨ (J.go i H ∧ ∃ N : St → Hp → Prop, (∀ σ' H', N σ' H' → ∃ m', m' < m ∧ W (i + 1) m' σ' H') ∧ ∀ x H', J.yld i H x H' → g x σ H' fun σ2 H2 => tb { D with nx := N, ct := N, bk := D.nx } σ2 H2)

def pinsAt (fp : List Addr) (h : Heap) : List (Addr × Obj) := fp.filterMap fun b => (h.get? b).map fun o => (b, o)
theorem mem_pinsAt {fp : List Addr} {h : Heap} {b : Addr} {o : Obj} (hb : b ∈ fp) (e : h.get? b = some o) : (b, o) ∈ pinsAt fp h := List.mem_filterMap.mpr ⟨b, hb, by rw [e]; rfl⟩
theorem of_pinsAt {fp : List Addr} {h : Heap} {p : Addr × Obj} (hp : p ∈ pinsAt fp h) : p.1 ∈ fp ∧ h.get? p.1 = some p.2 := by
  obtain ⟨b, hb, e⟩ := List.mem_filterMap.mp hp
  cases q : h.get? b with
  | none => rw [q] at e; cases e
  | some o =>
    rw [q] at e
    have e' : (b, o) = p := Option.some.inj e
    subst e'
    exact ⟨hb, q⟩
theorem Inv.pinned {pins : List (Addr × Obj)} {σ : St} {H : Hp} {s : Shared} {fp : List Addr} (I : Inv X pins σ H s) (hf : ∀ b ∈ fp, FpOk X pins H b) (ho : ∀ b ∈ fp, ∃ o, s.heap.get? b = some o ∧ ∀ v, o.data ≠ .cell v) : Inv X (pins ++ pinsAt fp s.heap) σ H s :=
  I.pins_of fun p hp => (List.mem_append.mp hp).elim (fun z => I.pin p (List.mem_append_right _ z)) fun z => by
    obtain ⟨hb, e⟩ := of_pinsAt z
    obtain ⟨f0, f1, f2, _⟩ := hf p.1 hb
    obtain ⟨o, e', d⟩ := ho p.1 hb
    rw [e] at e'; cases e'
    exact ⟨e, f0, f1, f2, d⟩
theorem Inv.unpinned {pins pl : List (Addr × Obj)} {σ : St} {H : Hp} {s : Shared} (I : Inv X (pins ++ pl) σ H s) : Inv X pins σ H s := I.pins_of fun p hp => I.pin p (List.mem_append_right _ (List.mem_append_left _ hp))
theorem ps_for {iter : Expr} {body : List Stmt} {wi : TI} {g : TG} {tb : TS} {pos : Pos} (hp : PassesOwn (model X.prog X.w) X.A X.env X.xe) (hc : X.calm = true) (hi : PI X tg iter wi) (hg : PG X tg g) (hb : PSs X body tb)
    (hs : ∀ x, foldedSetIterable iter X.env x = pure x := by intro _; rfl) : PS X (.For tg iter body [] pos) (tFor wi g tb) := by
  intro pins s σ H D I h
  refine wpAny_For (thn (hi pins s σ H _ I h) fun v s1 h1 => thn h1 fun itv s2 h2 => ?_) hs
  obtain ⟨it, fp, tn, J, H2, e, I2, T, st2, f2, W, ⟨m0, w0⟩, turn⟩ := h2
  subst e
  -- what stays true of the iterator's objects through the loop
  have stat : ∀ {H' : Hp}, (∀ b ∈ fp, H' b = none) → ∀ b ∈ fp, FpOk X pins H' b := fun hn b hb => ⟨hn b hb, (f2 b hb).2⟩
  refine codeAny_forLoop_any (fun n s' => ∃ i σ' H', Inv X pins σ' H' s' ∧ tn i s'.heap ∧ (∀ b ∈ fp, H' b = none) ∧ W i n σ' H') ?_ m0 ⟨0, σ, H2, I2, st2, fun b hb => (f2 b hb).1, w0⟩
  rintro n s3 ⟨i, σ3, H3, I3, st3, fr3, w3⟩
  rcases turn i n σ3 H3 w3 with ⟨stop, qn⟩ | ⟨go, N, hN, step⟩
  · refine wpAny_passesOwn hp (thn (T.done X rfl rfl rfl hc i pins s3 σ3 H3 X.xe I3 (stat fr3) st3 stop) fun r s4 ⟨hr, I4⟩ => ?_)
    subst hr
    exact wpAny_execs_nil ⟨σ3, H3, I4, qn⟩
  · refine wpAny_passesOwn hp (thn (T.item X rfl rfl rfl hc i pins s3 σ3 H3 X.xe I3 (stat fr3) st3 go) fun r s4 ⟨u, hr, h4⟩ => ?_)
    subst hr
    refine wpAny_passesOwn hp (thn h4 fun _ s5 ⟨x, H5, I5, r5, y5, st5, fr5⟩ => ?_)
    have I5' := I5.pinned (stat fr5) (T.obj _ _ st5)
    refine wpAny_passesOwn hp (thn (hg _ s5 σ3 H5 x u _ I5' r5 (step x H5 y5)) fun _ s6 ⟨σ6, H6, I6, q6⟩ => ?_)
    refine wpAny_passesOwn hp (thn (hb _ s6 σ6 H6 _ I6 q6) fun f s7 q7 => ?_)
    have again : ∀ {σ7 : St} {H7 : Hp}, Inv X (pins ++ pinsAt fp s5.heap) σ7 H7 s7 → N σ7 H7 → ∃ m, m < n ∧ ∃ i σ' H', Inv X pins σ' H' s7 ∧ tn i s7.heap ∧ (∀ b ∈ fp, H' b = none) ∧ W i m σ' H' := fun {σ7 H7} I7 n7 => by
      obtain ⟨m', hm, w7⟩ := hN σ7 H7 n7
      refine ⟨m', hm, i + 1, σ7, H7, I7.unpinned, T.keep _ _ _ st5 fun b hb o e => (I7.pin (b, o) (List.mem_append_right _ (List.mem_append_right _ (mem_pinsAt hb e)))).1, fun b hb => ?_, w7⟩
      obtain ⟨o, e, d⟩ := T.obj _ _ st5 b hb
      exact (I7.pin (b, o) (List.mem_append_right _ (List.mem_append_right _ (mem_pinsAt hb e)))).2.1
    cases f with
    | next => obtain ⟨σ7, H7, I7, n7⟩ := q7; exact again I7 n7
    | cont => obtain ⟨σ7, H7, I7, n7⟩ := q7; exact again I7 n7
    | brk => obtain ⟨σ7, H7, I7, q7⟩ := q7; exact ⟨σ7, H7, I7.unpinned, q7⟩
    | ret v => obtain ⟨x7, σ7, H7, I7, r7, q7⟩ := q7; exact ⟨x7, σ7, H7, I7.unpinned, r7, q7⟩
end



theorem for_list {K : PySem.W.Frag} {a : Addr} {xs : List V} {g : TG} {tb : TS} {D : Ends} {σ : St} {H : Hp} (Pv : Nat → St → Hp → Prop) (h0 : Pv 0 σ H) (hl : ∀ i σ H, i ≤ xs.length → Pv i σ H → SqL K H a xs)
    (hs : ∀ i x σ H, xs[i]? = some x → Pv i σ H → g x σ H fun σ2 H2 => tb { D with nx := Pv (i + 1), ct := Pv (i + 1), bk := D.nx } σ2 H2) (hd : ∀ σ H, Pv xs.length σ H → D.nx σ H) :
    ∃ W : Nat → Nat → St → Hp → Prop, (∃ m, W 0 m σ H) ∧ ∀ i m σ H, W i m σ H →
      ((Itl K a).stop i H ∧ D.nx σ H) ∨ ((Itl K a).go i H ∧ ∃ N : St → Hp → Prop, (∀ σ' H', N σ' H' → ∃ m', m' < m ∧ W (i + 1) m' σ' H') ∧ ∀ x H', (Itl K a).yld i H x H' → g x σ H' fun σ2 H2 => tb { D with nx := N, ct := N, bk := D.nx } σ2 H2) := by
  refine ⟨fun i m σ H => m = xs.length - i ∧ i ≤ xs.length ∧ Pv i σ H, ⟨xs.length, by simp, Nat.zero_le _, h0⟩, ?_⟩
  rintro i m σ H ⟨rfl, hi, p⟩
  have q := hl i σ H hi p
  by_cases hlt : i < xs.length
  · refine .inr ⟨⟨xs, xs[i], q, by simp [hlt]⟩, Pv (i + 1), fun σ' H' p' => ⟨xs.length - (i + 1), by omega, rfl, hlt, p'⟩, fun x H' y => ?_⟩
    obtain ⟨e, y⟩ := y
    subst e
    exact hs i x σ _ (y xs q) p
  · have e : i = xs.length := by omega
    subst e
    exact .inl ⟨⟨xs, q, Nat.le_refl _⟩, hd σ H p⟩
end L2

namespace L2
open PySem PySem.Spec PyProof.Rows

abbrev R2 := V → V → Hp → VK → Prop

def OpR (X : Cx) (f : Value → Value → Sem Value) (r : R2) : Prop :=
  ∀ (pins : List (Addr × Obj)) (s : Shared) (σ : St) (H : Hp) (x y : V) (v u : Value) (Q : VK), Inv X pins σ H s → RelV x v → RelV y u → r x y H Q →
    wpAny (model X.prog X.w) X.A (f v u) (EP X pins σ Q) X.xe s

def UnR (X : Cx) (f : Value → Sem Value) (r : V → Hp → VK → Prop) : Prop :=
  ∀ (pins : List (Addr × Obj)) (s : Shared) (σ : St) (H : Hp) (x : V) (v : Value) (Q : VK), Inv X pins σ H s → RelV x v → r x H Q →
    wpAny (model X.prog X.w) X.A (f v) (EP X pins σ Q) X.xe s

def CallR (X : Cx) (f : Value) (r : List V → Hp → VK → Prop) : Prop :=
  ∀ (pins : List (Addr × Obj)) (s : Shared) (σ : St) (H : Hp) (xs : List V) (us : List Value) (Q : VK), Inv X pins σ H s → Vals xs us → r xs H Q →
    wpAny (model X.prog X.w) X.A (call f us) (EP X pins σ Q) X.xe s

def TruR (X : Cx) (r : V → Hp → (Bool → Hp → Prop) → Prop) : Prop :=
  ∀ (pins : List (Addr × Obj)) (s : Shared) (σ : St) (H : Hp) (x : V) (v : Value) (Q : Bool → Hp → Prop), Inv X pins σ H s → RelV x v → r x H Q →
    wpAny (model X.prog X.w) X.A (truthy v) (TP X pins σ Q) X.xe s

def tOp (r : R2) (ta tb : TE) : TE := fun σ H Q => ta σ H fun x H1 => tb σ H1 fun y H2 => r x y H2 Q
def tUn (r : V → Hp → VK → Prop) (ta : TE) : TE := fun σ H Q => ta σ H fun x H1 => r x H1 Q

def rI (C : Int → Int → Prop) (g : Int → Int → V) : R2 := fun x y H Q => ∃ i j, x = .int i ∧ y = .int j ∧ C i j ∧ Q (g i j) H
def rI0 (g : Int → Int → V) : R2 := fun x y H Q => ∃ i j, x = .int i ∧ y = .int j ∧ Q (g i j) H
def rU (g : Int → V) : V → Hp → VK → Prop := fun x H Q => ∃ i, x = .int i ∧ Q (g i) H

section
variable {X : Cx} {a b c : Expr} {ta tb tc : TE} {pos : Pos}

theorem binT (ha : PE X a ta) (hb : PE X b tb) {pins : List (Addr × Obj)} {s : Shared} {σ : St} {H : Hp} {R : V → V → Hp → Prop} (I : Inv X pins σ H s)
    (h : ta σ H fun x H1 => tb σ H1 fun y H2 => R x y H2) {Q : Value → Shared → Prop} {f : Value → Value → Sem Value}
    (hf : ∀ v u s2 x y H2, Inv X pins σ H2 s2 → RelV x v → RelV y u → R x y H2 → wpAny (model X.prog X.w) X.A (f v u) Q X.xe s2) :
    wpAny (model X.prog X.w) X.A (eval a X.env) (fun v s₁ => wpAny (model X.prog X.w) X.A (eval b X.env) (fun u s₂ => wpAny (model X.prog X.w) X.A (f v u) Q X.xe s₂) X.xe s₁) X.xe s := by
  refine thn (ha pins s σ H _ I h) fun v s1 ⟨x, H1, I1, r1, q1⟩ => ?_
  refine thn (hb pins s1 σ H1 _ I1 q1) fun u s2 ⟨y, H2, I2, r2, q2⟩ => ?_
  exact hf v u s2 x y H2 I2 r1 r2 q2

theorem pe_op {op : Operator} {r : R2} (ho : OpR X (binaryOp op) r) (ha : PE X a ta) (hb : PE X b tb) : PE X (.BinOp a op b pos) (tOp r ta tb) := by
  intro pins s σ H Q I h
  exact wpAny_BinOp (binT ha hb I h fun v u s2 x y H2 I2 rx ry q => ho pins s2 σ H2 x y v u Q I2 rx ry q)
theorem pe_un {op : UnaryOp} {r : V → Hp → VK → Prop} (ho : UnR X (unaryOp op) r) (ha : PE X a ta) : PE X (.UnaryOp op a pos) (tUn r ta) := by
  intro pins s σ H Q I h
  exact UnaryOp_ (thn (ha pins s σ H _ I h) fun v s1 ⟨x, H1, I1, r1, q1⟩ => ho pins s1 σ H1 x v Q I1 r1 q1)

theorem opI {f : Value → Value → Sem Value} {C : Int → Int → Prop} {g : Int → Int → Int}
    (rule : ∀ (i j : Int) (t u : Tok) (s : Shared) (Q : Value → Shared → Prop) (E : Value → Shared → Prop), C i j → Q (.int (g i j) s.toks) { s with toks := s.toks + 1 } → wpAny (model X.prog X.w) X.A (f (.int i t) (.int j u)) Q E s) :
    OpR X f (rI C fun i j => .int (g i j)) := by
  intro pins s σ H x y v u Q I rx ry h
  obtain ⟨i, j, rfl, rfl, hc, q⟩ := h
  obtain ⟨t, rfl⟩ := rx
  obtain ⟨t', rfl⟩ := ry
  exact rule i j t t' s _ _ hc ⟨.int (g i j), H, I.tok _, ⟨_, rfl⟩, q⟩
theorem opI0 {f : Value → Value → Sem Value} {g : Int → Int → Int}
    (rule : ∀ (i j : Int) (t u : Tok) (s : Shared) (Q : Value → Shared → Prop) (E : Value → Shared → Prop), Q (.int (g i j) s.toks) { s with toks := s.toks + 1 } → wpAny (model X.prog X.w) X.A (f (.int i t) (.int j u)) Q E s) :
    OpR X f (rI0 fun i j => .int (g i j)) := by
  intro pins s σ H x y v u Q I rx ry h
  obtain ⟨i, j, rfl, rfl, q⟩ := h
  obtain ⟨t, rfl⟩ := rx
  obtain ⟨t', rfl⟩ := ry
  exact rule i j t t' s _ _ ⟨.int (g i j), H, I.tok _, ⟨_, rfl⟩, q⟩
theorem opB0 {f : Value → Value → Sem Value} {g : Int → Int → Bool}
    (rule : ∀ (i j : Int) (t u : Tok) (s : Shared) (Q : Value → Shared → Prop) (E : Value → Shared → Prop), Q (.bool (g i j)) s → wpAny (model X.prog X.w) X.A (f (.int i t) (.int j u)) Q E s) :
    OpR X f (rI0 fun i j => .bl (g i j)) := by
  intro pins s σ H x y v u Q I rx ry h
  obtain ⟨i, j, rfl, rfl, q⟩ := h
  obtain ⟨t, rfl⟩ := rx
  obtain ⟨t', rfl⟩ := ry
  exact rule i j t t' s _ _ ⟨.bl (g i j), H, I, rfl, q⟩

def CDiv (i j : Int) : Prop := 0 < j ∧ j < 1073741824
theorem op_add : OpR X (binaryOp .Add) (rI0 fun i j => .int (i + j)) := opI0 fun _ _ _ _ _ _ _ q => add_int q
theorem op_sub : OpR X (binaryOp .Sub) (rI0 fun i j => .int (i - j)) := opI0 fun _ _ _ _ _ _ _ q => sub_int q
theorem op_fdiv : OpR X (binaryOp .FloorDiv) (rI CDiv fun i j => .int (i / j)) := opI fun i j _ _ _ _ _ hc q => by
  have h1 : (0 : Int) < j := hc.1
  have h2 : j < 1073741824 := hc.2
  exact floordiv_int (by omega) (by rw [Int.fdiv_eq_ediv_of_nonneg i (by omega)]; exact q) (.inl (PyProof.noPylong_small (by omega)))
theorem op_mod : OpR X (binaryOp .Mod) (rI (fun _ j => 0 < j) fun i j => .int (i % j)) := opI fun i j _ _ _ _ _ hc q => by
  have h1 : (0 : Int) < j := hc
  exact mod_int' (by omega) (by rw [Int.fmod_eq_emod_of_nonneg i (by omega)]; exact q)
theorem op_and : OpR X (binaryOp .BitAnd) (rI0 fun i j => .int (Builtin.bitAnd i j)) := opI0 fun _ _ _ _ _ _ _ q => and_int q
theorem unI {f : Value → Sem Value} {g : Int → Int}
    (rule : ∀ (i : Int) (t : Tok) (s : Shared) (Q : Value → Shared → Prop) (E : Value → Shared → Prop), Q (.int (g i) s.toks) { s with toks := s.toks + 1 } → wpAny (model X.prog X.w) X.A (f (.int i t)) Q E s) :
    UnR X f (rU fun i => .int (g i)) := by
  intro pins s σ H x v Q I rx h
  obtain ⟨i, rfl, q⟩ := h
  obtain ⟨t, rfl⟩ := rx
  exact rule i t s _ _ ⟨.int (g i), H, I.tok _, ⟨_, rfl⟩, q⟩
theorem un_neg : UnR X (unaryOp .USub) (rU fun i => .int (-i)) := unI fun _ _ _ _ _ q => neg_int q
end



def scal : V → V → Bool
  | .non, .non => true | .non, .int _ => true | .int _, .non => true | .non, .bl _ => true | .bl _, .non => true | .non, .str _ => true | .str _, .non => true
  | .int _, .int _ => true | .bl _, .bl _ => true | .str _, .str _ => true | .byt _, .byt _ => true
  | .int _, .str _ => true | .str _, .int _ => true | .bl _, .str _ => true | .str _, .bl _ => true
  | _, _ => false
def rEq : R2 := fun x y H Q => scal x y = true ∧ Q (.bl (decide (x = y))) H
def rNe : R2 := fun x y H Q => scal x y = true ∧ Q (.bl (!decide (x = y))) H

theorem dec_int {i j : Int} : decide (V.int i = V.int j) = (i == j) := by
  rw [Bool.eq_iff_iff]
  simp
theorem dec_bl {i j : Bool} : decide (V.bl i = V.bl j) = (i == j) := by
  rw [Bool.eq_iff_iff]
  simp
theorem dec_str {i j : Str} : decide (V.str i = V.str j) = (i == j) := by
  rw [Bool.eq_iff_iff]
  simp
theorem dec_byt {i j : Array UInt8} : decide (V.byt i = V.byt j) = (i.toList == j.toList) := by
  rw [Bool.eq_iff_iff]
  cases i
  cases j
  simp

section
variable {X : Cx} {a b c : Expr} {ta tb tc : TE} {pos : Pos}
theorem fin_bl {pins : List (Addr × Obj)} {σ : St} {H : Hp} {s : Shared} {Q : VK} {k k' : Bool} (I : Inv X pins σ H s) (q : Q (.bl k) H) (e : k = k') : EP X pins σ Q (.bool k') s := by
  subst e
  exact ⟨.bl k, H, I, rfl, q⟩
theorem op_eq : OpR X (compareOp .Eq) rEq := by
  intro pins s σ H x y v u Q I rx ry h
  obtain ⟨hs, q⟩ := h
  cases x with
  | non =>
    cases rx
    cases y with
    | non => cases ry; exact PySem.EqNone.eq_none_none (fin_bl I q (by simp))
    | bl j => cases ry; exact PySem.EqNone.eq_none_bool (fin_bl I q (by simp))
    | int j => obtain ⟨t', rfl⟩ := ry; exact PySem.EqNone.eq_none_int (fin_bl I q (by simp))
    | str j => obtain ⟨t', rfl⟩ := ry; exact PySem.EqNone.eq_none_str (fin_bl I q (by simp))
    | _ => exact absurd (show false = true from hs) Bool.false_ne_true
  | bl i =>
    cases rx
    cases y with
    | non => cases ry; exact PySem.EqNone.eq_bool_none (fin_bl I q (by simp))
    | bl j => cases ry; exact eq_bool (fin_bl I q dec_bl)
    | str j => obtain ⟨t', rfl⟩ := ry; exact PySem.EqMixed.eq_bool_str (fin_bl I q (by simp))
    | _ => exact absurd (show false = true from hs) Bool.false_ne_true
  | int i =>
    obtain ⟨t, rfl⟩ := rx
    cases y with
    | non => cases ry; exact PySem.EqNone.eq_int_none (fin_bl I q (by simp))
    | int j => obtain ⟨t', rfl⟩ := ry; exact eq_int (fin_bl I q dec_int)
    | str j => obtain ⟨t', rfl⟩ := ry; exact PySem.EqMixed.eq_int_str (fin_bl I q (by simp))
    | _ => exact absurd (show false = true from hs) Bool.false_ne_true
  | str i =>
    obtain ⟨t, rfl⟩ := rx
    cases y with
    | non => cases ry; exact PySem.EqNone.eq_str_none (fin_bl I q (by simp))
    | bl j => cases ry; exact PySem.EqMixed.eq_str_bool (fin_bl I q (by simp))
    | int j => obtain ⟨t', rfl⟩ := ry; exact PySem.EqMixed.eq_str_int (fin_bl I q (by simp))
    | str j => obtain ⟨t', rfl⟩ := ry; exact eq_str (fin_bl I q dec_str)
    | _ => exact absurd (show false = true from hs) Bool.false_ne_true
  | byt i =>
    obtain ⟨t, rfl⟩ := rx
    cases y with
    | byt j => obtain ⟨t', rfl⟩ := ry; exact PySem.W.eq_bytes (fin_bl I q dec_byt)
    | _ => exact absurd (show false = true from hs) Bool.false_ne_true
  | _ => cases y <;> exact absurd (show false = true from hs) Bool.false_ne_true
theorem op_ne : OpR X (compareOp .NotEq) rNe := by
  intro pins s σ H x y v u Q I rx ry h
  obtain ⟨hs, q⟩ := h
  cases x with
  | non =>
    cases rx
    cases y with
    | non => cases ry; exact PySem.EqNone.ne_none_none (fin_bl I q (by simp))
    | bl j => cases ry; exact PySem.EqNone.ne_none_bool (fin_bl I q (by simp))
    | int j => obtain ⟨t', rfl⟩ := ry; exact PySem.EqNone.ne_none_int (fin_bl I q (by simp))
    | str j => obtain ⟨t', rfl⟩ := ry; exact PySem.EqNone.ne_none_str (fin_bl I q (by simp))
    | _ => exact absurd (show false = true from hs) Bool.false_ne_true
  | bl i =>
    cases rx
    cases y with
    | non => cases ry; exact PySem.EqNone.ne_bool_none (fin_bl I q (by simp))
    | bl j => cases ry; exact ne_bool (fin_bl I q (congrArg not dec_bl))
    | str j => obtain ⟨t', rfl⟩ := ry; exact PySem.EqMixed.ne_bool_str (fin_bl I q (by simp))
    | _ => exact absurd (show false = true from hs) Bool.false_ne_true
  | int i =>
    obtain ⟨t, rfl⟩ := rx
    cases y with
    | non => cases ry; exact PySem.EqNone.ne_int_none (fin_bl I q (by simp))
    | int j => obtain ⟨t', rfl⟩ := ry; exact ne_int (fin_bl I q (congrArg not dec_int))
    | str j => obtain ⟨t', rfl⟩ := ry; exact PySem.EqMixed.ne_int_str (fin_bl I q (by simp))
    | _ => exact absurd (show false = true from hs) Bool.false_ne_true
  | str i =>
    obtain ⟨t, rfl⟩ := rx
    cases y with
    | non => cases ry; exact PySem.EqNone.ne_str_none (fin_bl I q (by simp))
    | bl j => cases ry; exact PySem.EqMixed.ne_str_bool (fin_bl I q (by simp))
    | int j => obtain ⟨t', rfl⟩ := ry; exact PySem.EqMixed.ne_str_int (fin_bl I q (by simp))
    | str j => obtain ⟨t', rfl⟩ := ry; exact ne_str (fin_bl I q (congrArg not dec_str))
    | _ => exact absurd (show false = true from hs) Bool.false_ne_true
  | byt i =>
    obtain ⟨t, rfl⟩ := rx
    cases y with
    | byt j => obtain ⟨t', rfl⟩ := ry; exact PySem.W.ne_bytes (fin_bl I q (congrArg not dec_byt))
    | _ => exact absurd (show false = true from hs) Bool.false_ne_true
  | _ => cases y <;> exact absurd (show false = true from hs) Bool.false_ne_true

theorem op_lt : OpR X (compareOp .Lt) (rI0 fun i j => .bl (decide (i < j))) := opB0 fun _ _ _ _ _ _ _ q => lt_int q
theorem op_le : OpR X (compareOp .LtE) (rI0 fun i j => .bl (decide (i ≤ j))) := opB0 fun _ _ _ _ _ _ _ q => le_int q
theorem op_gt : OpR X (compareOp .Gt) (rI0 fun i j => .bl (decide (j < i))) := opB0 fun _ _ _ _ _ _ _ q => gt_int q
theorem op_ge : OpR X (compareOp .GtE) (rI0 fun i j => .bl (decide (j ≤ i))) := opB0 fun _ _ _ _ _ _ _ q => ge_int q
theorem op_isN : OpR X (compareOp .Is) (fun x y H Q => y = .non ∧ Q (.bl (decide (x = .non))) H) := by
  intro pins s σ H x y v u Q I rx ry h
  obtain ⟨rfl, q⟩ := h
  cases ry
  refine is_none_gen (fin_bl I q ?_)
  cases x <;> first
    | (cases rx; rfl)
    | (obtain ⟨t, rfl⟩ := rx; rfl)
theorem OpR.or {f : Value → Value → Sem Value} {r r' : R2} (h : OpR X f r) (h' : OpR X f r') : OpR X f (fun x y H Q => r x y H Q ∨ r' x y H Q) := by
  intro pins s σ H x y v u Q I rx ry q
  rcases q with q | q
  · exact h pins s σ H x y v u Q I rx ry q
  · exact h' pins s σ H x y v u Q I rx ry q

theorem nomark (b : Expr) {op : CmpOp} (h : op ≠ .In := by decide) (h2 : op ≠ .NotIn := by decide) : behindInMarks op b = false := by
  have e1 : (op == CmpOp.In) = false := by cases op <;> first | rfl | exact absurd rfl h
  have e2 : (op == CmpOp.NotIn) = false := by cases op <;> first | rfl | exact absurd rfl h2
  cases b <;> simp [behindInMarks, e1, e2]

theorem pe_cmpR {op : CmpOp} {r : R2} (ho : OpR X (compareOp op) r) (ha : PE X a ta) (hb : PE X b tb) (hm : behindInMarks op b = false) : PE X (.Compare a [op] [b] pos) (tOp r ta tb) := by
  intro pins s σ H Q I h
  exact wpAny_Compare1 (binT ha hb I h fun v u s2 x y H2 I2 rx ry q => ho pins s2 σ H2 x y v u Q I2 rx ry q) hm

def tTest (t : TE) : TT := fun σ H Q => t σ H fun x H' => ∃ k, x = .bl k ∧ Q k H'
theorem pt_cmpR {op : CmpOp} {r : R2} (ho : OpR X (compareOp op) r) (ha : PE X a ta) (hb : PE X b tb) (hm : behindInMarks op b = false) : PT X (.Compare a [op] [b] pos) (tTest (tOp r ta tb)) := by
  intro pins s σ H Q I h
  refine wpAny_isTrue_Compare1 (thn (ha pins s σ H _ I h) fun v s1 ⟨x, H1, I1, r1, q1⟩ => thn (hb pins s1 σ H1 _ I1 q1) fun u s2 ⟨y, H2, I2, r2, q2⟩ =>
    thn (ho pins s2 σ H2 x y v u _ I2 r1 r2 q2) fun c s3 ⟨z, H3, I3, r3, k, e, q3⟩ => ?_) hm
  subst e
  cases r3
  exact wpAny_truthy_bool ⟨H3, I3, q3⟩

def tChain (r r' : R2) (ta tb tc : TE) : TE := fun σ H Q => ta σ H fun x H1 => tb σ H1 fun y H2 => r x y H2 fun z H3 => ∃ k, z = .bl k ∧
  (if k = true then tc σ H3 fun w' H4 => r' y w' H4 Q else Q (.bl false) H3)
theorem pt_chain {op op' : CmpOp} {r r' : R2} (ho : OpR X (compareOp op) r) (ho' : OpR X (compareOp op') r') (ha : PE X a ta) (hb : PE X b tb) (hc : PE X c tc)
    (hm : lastMarks [op, op'] [b, c] = false := by with_unfolding_all rfl) : PT X (.Compare a [op, op'] [b, c] pos) (tTest (tChain r r' ta tb tc)) := by
  intro pins s σ H Q I h
  refine isTrue_chain (thn (ha pins s σ H _ I h) fun v s1 ⟨x, H1, I1, r1, q1⟩ => test_link (thn (hb pins s1 σ H1 _ I1 q1) fun u s2 ⟨y, H2, I2, r2, q2⟩ =>
    thn (ho pins s2 σ H2 x y v u _ I2 r1 r2 q2) fun d s3 ⟨z, H3, I3, r3, k, e, q3⟩ => ?_)) hm
  subst e
  cases r3
  refine wpAny_truthy_bool ?_
  cases k with
  | false =>
    obtain ⟨k', e', q'⟩ := q3
    cases e'
    exact ite_ff ⟨H3, I3, q'⟩
  | true =>
    refine ite_tt (test_last (thn (hc pins s3 σ H3 _ I3 q3) fun w' s4 ⟨z', H4, I4, r4, q4⟩ => thn (ho' pins s4 σ H4 y z' u w' _ I4 r2 r4 q4) fun d' s5 ⟨z2, H5, I5, r5, k2, e2, q5⟩ => ?_))
    subst e2
    cases r5
    exact wpAny_truthy_bool ⟨H5, I5, q5⟩



def TruV (K : PySem.W.Frag) (x : V) (H : Hp) (k : Bool) : Prop :=
  match x with
  | .non => k = false
  | .bl b => k = b
  | .int i => k = (i != 0)
  | .str y => y.length ≤ sizeLine ∧ k = ((y.length : Int) != 0)
  | .byt y => y.size ≤ sizeLine ∧ k = ((y.size : Int) != 0)
  | .ref p => (∃ xs, SqL K H p xs ∧ k = !xs.isEmpty) ∨ (∃ xs, SqT K H p xs ∧ k = !xs.isEmpty) ∨ ∃ kvs, H p = some (.dK kvs) ∧ k = !kvs.isEmpty
  | _ => False
theorem isEmpty_kv {κ : Type} {kvs : List (κ × V)} {vs : List (κ × Value)} (r : KV kvs vs) : (!vs.isEmpty) = !kvs.isEmpty := by
  cases r <;> rfl
theorem isEmpty_of {xs : List V} {its : List Value} (r : Vals xs its) : (!its.toArray.isEmpty) = !xs.isEmpty := by
  cases r <;> simp
theorem line63 : (sizeLine : Nat) < 2 ^ 63 := by rw [sizeLine_eq]; decide
theorem tru_ok : TruR X (fun x H Q => ∃ k, TruV X.K x H k ∧ Q k H) := by
  intro pins s σ H x v Q I rx h
  obtain ⟨k, e, q⟩ := h
  have hl := line63
  have hs : sizeLine = 16777216 := sizeLine_eq
  cases x with
  | non =>
    cases rx
    have e' : k = false := e
    subst e'
    exact truthy_none ⟨H, I, q⟩
  | bl b =>
    cases rx
    have e' : k = b := e
    subst e'
    exact wpAny_truthy_bool ⟨H, I, q⟩
  | int i =>
    obtain ⟨t, rfl⟩ := rx
    have e' : k = (i != 0) := e
    subst e'
    exact PySem.P.truthy_int ⟨H, I, q⟩
  | str y =>
    obtain ⟨t, rfl⟩ := rx
    obtain ⟨hy, e'⟩ : y.length ≤ sizeLine ∧ k = ((y.length : Int) != 0) := e
    subst e'
    exact PySem.P.truthy_str (by omega) ⟨H, I.tok _, q⟩
  | byt y =>
    obtain ⟨t, rfl⟩ := rx
    obtain ⟨hy, e'⟩ : y.size ≤ sizeLine ∧ k = ((y.size : Int) != 0) := e
    subst e'
    exact PySem.W.truthy_bytes (by omega) ⟨H, I.tok _, q⟩
  | ref p =>
    cases rx
    have e' : (∃ xs, SqL X.K H p xs ∧ k = !xs.isEmpty) ∨ (∃ xs, SqT X.K H p xs ∧ k = !xs.isEmpty) ∨ ∃ kvs, H p = some (.dK kvs) ∧ k = !kvs.isEmpty := e
    rcases e' with ⟨xs, hx, e'⟩ | ⟨xs, hx, e'⟩ | ⟨kvs, hx, e'⟩
    · subst e'
      obtain ⟨its, r, pl, hz⟩ := I.list hx
      have hlen := r.length
      exact wpAny_truthy_list pl.isList (by simp only [List.size_toArray]; omega) ⟨H, I.tok _, by rw [isEmpty_of r]; exact q⟩
    · subst e'
      obtain ⟨its, r, pl, hz⟩ := I.tuple hx
      have hlen := r.length
      exact truthy_tuple pl (by simp only [List.size_toArray]; omega) ⟨H, I.tok _, by rw [isEmpty_of r]; exact q⟩
    · subst e'
      obtain ⟨hz, hS, vs, r, m⟩ : kvs.length ≤ sizeLine ∧ (p == sysModules) = false ∧ ∃ vs, KV kvs vs ∧ s.heap.DictOf (mixKind X.prog X.w) p vs := I.hok p _ hx
      have hlen : kvs.length = vs.length := Paired.length r
      exact wpAny_truthy_dict hS m (by omega) ⟨H, I.tok _, by rw [isEmpty_kv r]; exact q⟩
  | _ => exact (show False from e).elim

theorem pt_truth (ha : PE X a ta) (he : ∀ whole, isTrue a X.env whole = (do let v ← whole; standAt a.pos; holding [v] (truthy v))) :
    PT X a (fun σ H Q => ta σ H fun x H' => ∃ k, TruV X.K x H' k ∧ Q k H') := by
  intro pins s σ H Q I h
  exact isTrue_plain (thn (ha pins s σ H _ I h) fun v s1 ⟨x, H1, I1, r1, q1⟩ => tru_ok pins s1 σ H1 x v Q I1 r1 q1) (he _)


theorem op_add_str : OpR X (binaryOp .Add) (fun x y H Q => ∃ i j, x = .str i ∧ y = .str j ∧ i.length + j.length ≤ sizeLine ∧ Q (.str (i ++ j)) H) := by
  intro pins s σ H x y v u Q I rx ry h
  obtain ⟨i, j, rfl, rfl, hz, q⟩ := h
  obtain ⟨t, rfl⟩ := rx
  obtain ⟨t', rfl⟩ := ry
  exact add_str (fun t' tk => ⟨.str (i ++ j), H, I.tok _, ⟨_, rfl⟩, q⟩) hz
theorem vals1 {x : V} {us : List Value} (r : Vals [x] us) : ∃ u, us = [u] ∧ RelV x u := by
  cases r with
  | cons r1 r2 => cases r2; exact ⟨_, rfl, r1⟩
theorem vals2 {x y : V} {us : List Value} (r : Vals [x, y] us) : ∃ u w', us = [u, w'] ∧ RelV x u ∧ RelV y w' := by
  cases r with
  | cons r1 r2 =>
    cases r2 with
    | cons r3 r4 => cases r4; exact ⟨_, _, rfl, r1, r3⟩
theorem call_max2 (hc : X.calm = true) : CallR X (.builtin "max") (fun xs H Q => ∃ i j, xs = [.int i, .int j] ∧ Q (.int (if j > i then j else i)) H) := by
  intro pins s σ H xs us Q I r h
  obtain ⟨i, j, rfl, q⟩ := h
  obtain ⟨u, w', rfl, ⟨t, rfl⟩, ⟨t', rfl⟩⟩ := vals2 r
  refine max_two_ints (I.ok.hd hc) fun h' tk k => ⟨_, H, I.kept k, ?_, q⟩
  by_cases hj : j > i
  · rw [if_pos hj, if_pos hj]; exact ⟨_, rfl⟩
  · rw [if_neg hj, if_neg hj]; exact ⟨_, rfl⟩
theorem call_int1 : CallR X (.type "int") (fun xs H Q => (∃ i, xs = [.int i] ∧ Q (.int i) H) ∨ ∃ k, xs = [.bl k] ∧ Q (.int (if k then 1 else 0)) H) := by
  intro pins s σ H xs us Q I r h
  rcases h with ⟨i, rfl, q⟩ | ⟨k, rfl, q⟩
  · obtain ⟨u, rfl, t, rfl⟩ := vals1 r
    exact call_int_int ⟨.int i, H, I, ⟨_, rfl⟩, q⟩
  · obtain ⟨u, rfl, r1⟩ := vals1 r
    cases r1
    exact call_int_bool ⟨.int (if k then 1 else 0), H, I.tok _, ⟨_, rfl⟩, q⟩
def LenV (K : PySem.W.Frag) (x : V) (H : Hp) (n : Nat) : Prop :=
  match x with
  | .str y => y.length ≤ sizeLine ∧ n = y.length
  | .byt y => y.size ≤ sizeLine ∧ n = y.size
  | .ref p => (∃ xs, SqL K H p xs ∧ n = xs.length) ∨ ∃ xs, SqT K H p xs ∧ n = xs.length
  | _ => False
theorem call_len : CallR X (.builtin "len") (fun xs H Q => ∃ x n, xs = [x] ∧ LenV X.K x H n ∧ Q (.int n) H) := by
  intro pins s σ H xs us Q I r h
  obtain ⟨x, n, rfl, e, q⟩ := h
  obtain ⟨u, rfl, rx⟩ := vals1 r
  have hl := line63
  have hs : sizeLine = 16777216 := sizeLine_eq
  cases x with
  | str y =>
    obtain ⟨t, rfl⟩ := rx
    obtain ⟨hy, e'⟩ : y.length ≤ sizeLine ∧ n = y.length := e
    subst e'
    exact len_str (by omega) ⟨.int _, H, I.tok _, ⟨_, rfl⟩, q⟩
  | byt y =>
    obtain ⟨t, rfl⟩ := rx
    obtain ⟨hy, e'⟩ : y.size ≤ sizeLine ∧ n = y.size := e
    subst e'
    exact PySem.W.len_bytes (by omega) ⟨.int _, H, I.tok _, ⟨_, rfl⟩, q⟩
  | ref p =>
    cases rx
    have e' : (∃ xs, SqL X.K H p xs ∧ n = xs.length) ∨ ∃ xs, SqT X.K H p xs ∧ n = xs.length := e
    rcases e' with ⟨xs, hx, e'⟩ | ⟨xs, hx, e'⟩
    · subst e'
      obtain ⟨its, r', pl, hz⟩ := I.list hx
      have hlen := r'.length
      exact Calls.call_len_list pl.isList (by simp only [List.size_toArray]; omega) ⟨.int xs.length, H, I.tok _, ⟨_, by simp only [List.size_toArray]; rw [hlen]⟩, q⟩
    · subst e'
      obtain ⟨its, r', pl, hz⟩ := I.tuple hx
      have hlen := r'.length
      exact len_tuple pl (by simp only [List.size_toArray]; omega) ⟨.int xs.length, H, I.tok _, ⟨_, by simp only [List.size_toArray]; rw [hlen]⟩, q⟩
  | _ => exact (show False from e).elim

end
end L2

namespace L2
open PySem PySem.Spec PyProof.Rows


structure ObjM (h : Heap) (x dx C : Addr) (mA : Str → Option Value) : Prop where
  obj : h.get? x = some (PySem.W.instObj C dx)
  ns : h.Ns1 dx mA
  ne : dx ≠ x

theorem lookIn_ns {h : Heap} {dx : Addr} {mA : Str → Option Value} (n : h.Ns1 dx mA) : ∃ od, h.get? dx = some od ∧ ∀ name, PySem.W.lookIn name od = some (mA name) := by
  obtain ⟨o, es, ep, ho, hd, hk, _, hm⟩ := n
  refine ⟨o, ho, fun name => ?_⟩
  have e := hm name
  unfold nsFind findBy at e
  rw [← Array.find?_toList] at e
  unfold PySem.W.lookIn
  rw [hd]
  dsimp only
  split
  · rename_i y q
    rw [q] at e
    exact congrArg some e
  · rename_i q
    rw [q] at e
    have a : es.toList.any (·.refKey) = false := by
      rw [List.any_eq_false]
      intro y hy
      obtain ⟨z, t, hkey⟩ := hk y (Array.mem_toList_iff.mp hy)
      simp [DictEntry.refKey, hkey]
    have a' : ¬ es.toList.any (·.refKey) = true := by rw [a]; exact Bool.false_ne_true
    rw [if_neg a']
    exact congrArg some e

theorem ObjM.look {h : Heap} {x dx C : Addr} {mA : Str → Option Value} (I : ObjM h x dx C mA) : ∃ od, PySem.W.InstAt h x (PySem.W.instObj C dx) C (some od) ∧ ∀ name, PySem.W.lookIn name od = some (mA name) :=
  let ⟨od, ho, hl⟩ := lookIn_ns I.ns
  ⟨od, ⟨I.obj, rfl, rfl, ho⟩, hl⟩

section
variable {prog : Program} {w : World} {A : Around} {E : Value → Shared → Prop} {s : Shared} {K : PySem.W.Frag} {x dx C f : Addr} {mA : Str → Option Value} {name : Str} {v : Value}

theorem get_map {expr : Bool} {Q : Value → Shared → Prop} (X : K.In s.heap) (I : ObjM s.heap x dx C mA) (hg : PySem.W.plainGet K C name = true) (hh : PySem.W.hasDictIn K C = true)
    (ha : PySem.W.findIn K (.ref C) name = some none) (hv : mA name = some v) (hv' : PySem.W.handedIn v = true) (h : Q v { s with toks := s.toks + 1 }) :
    wpAny (model prog w) A (getAttr (.ref x) name expr) Q E s := by
  obtain ⟨od, J, hl⟩ := I.look
  exact PySem.W.get_value X J (PySem.W.plainGet_of hg).1 (PySem.W.findObj_own hh ha rfl (by rw [hl, hv])) hv' h

theorem set_map {ns : List Str} {Q : Unit → Shared → Prop} (X : K.In s.heap) (I : ObjM s.heap x dx C mA)
    (hs : PySem.W.findIn K (.ref C) "__setattr__" = some (some (.builtin "object.__setattr__"))) (hp : PySem.W.plainOver K C = true) (ht : PySem.W.takerIn K C name = some none) (hh : PySem.W.hasDictIn K C = true)
    (hw : PySem.Within mA ns) (hsz : ns.length ≤ sizeLine)
    (h : ∀ h', ObjM h' x dx C (fun y => if y = name then some v else mA y) → Heap.SameBut dx s.heap h' → Q () { s with heap := h', toks := s.toks + 2 }) :
    wpAny (model prog w) A (setAttr (.ref x) name v) Q E s := by
  obtain ⟨od, J, hl⟩ := I.look
  refine PySem.W.set_plain X J hs (PySem.W.osa_open (s := { s with toks := s.toks + 1 }) (r := none) X J hp ht fun b => ?_)
  obtain ⟨cd, hc, hd'⟩ := PySem.W.any_some hh
  have hx : s.heap.get? x = some ⟨.ref C, some dx, .plain, #[]⟩ := I.obj
  refine wpAny_bind (wpAny_pure (wpAny_bind (wpAny_bind (wpAny_loadPart hx (wpAny_bind (PySem.W.Looks.here (s := { s with toks := s.toks + 1 }) (PySem.W.looks_clsIn X hc) ?_))))))
  rw [hd']
  refine wpAny_pure (a := some dx) (wpAny_bind (wpAny_pure (wpAny_bind ?_)))
  refine wpAny_nsSet1 (s := { s with toks := s.toks + 1 }) I.ns fun h' hn2 hs2 => ?_
  obtain ⟨oD, esD, epD, hoD, hdD, hcD⟩ := hn2.count (PySem.Within.cons name v hw)
  refine wpAny_bind (wpAny_lookBehind hoD (by rw [hdD]; exact pastItsLine_dict (Nat.le_trans hcD (by rw [List.length_cons]; omega))) ?_)
  exact wpAny_pure (h _ ⟨(hs2.2 _ (Ne.symm I.ne)).trans I.obj, hn2, I.ne⟩ hs2)


theorem make_map {R : Result → Shared → Prop} {vs : List Value} {kw : List (Str × Value)} (X : K.In s.heap) (hm : PySem.W.makesIn K C = true)
    (hi : PySem.W.findIn K (.ref C) "__init__" = some (some (.ref f))) (hf : PySem.W.typeIn K (.ref f) = some (.type "function"))
    (h : codeAny (model prog w) (A.under (.builtin "type.__call__" ⟨.ref C :: vs, kw⟩)) (.call (.ref f) ⟨.ref (s.heap.objs.size + 1) :: vs, kw⟩) (PySem.W.InitBack (s.heap.objs.size + 1) R)
      { s with heap := (s.heap.push PySem.W.emptyDict).push (PySem.W.instObj C s.heap.objs.size) }) :
    codeAny (model prog w) A (.call (.ref C) ⟨vs, kw⟩) R s := by
  obtain ⟨hh, g, d, t, os⟩ := s
  exact PySem.W.make_core (PySem.W.makes_of X hm) (PySem.W.looks_findIn X hi) (fun self => PySem.W.bind_fn X self hf) (.inl rfl) h

end


def putF (f : Str) (v : V) : List (Str × V) → List (Str × V)
  | [] => [(f, v)]
  | (g, x) :: r => if g = f then (g, v) :: r else (g, x) :: putF f v r
theorem lookup_putF (f g : Str) (v : V) : ∀ fs : List (Str × V), (putF f v fs).lookup g = if g = f then some v else fs.lookup g
  | [] => by
    show List.lookup g [(f, v)] = _
    by_cases h : g = f
    · have hb : (g == f) = true := beq_iff_eq.mpr h
      simp only [List.lookup, hb, if_pos h]
    · have hb : (g == f) = false := beq_eq_false_iff_ne.mpr h
      simp only [List.lookup, hb, if_neg h]
  | (k, x) :: r => by
    have ih := lookup_putF f g v r
    rw [show putF f v ((k, x) :: r) = (if k = f then (k, v) :: r else (k, x) :: putF f v r) from rfl]
    by_cases hk : k = f
    · rw [if_pos hk]
      by_cases h : g = k
      · have hb : (g == k) = true := beq_iff_eq.mpr h
        simp only [List.lookup, hb, if_pos (h.trans hk)]
      · have hb : (g == k) = false := beq_eq_false_iff_ne.mpr h
        simp only [List.lookup, hb, if_neg (fun e : g = f => h (e.trans hk.symm))]
    · rw [if_neg hk]
      by_cases h : g = k
      · have hb : (g == k) = true := beq_iff_eq.mpr h
        simp only [List.lookup, hb, if_neg (fun e : g = f => hk (h.symm.trans e))]
      · have hb : (g == k) = false := beq_eq_false_iff_ne.mpr h
        simp only [List.lookup, hb]
        exact ih
theorem keys_putF (f : Str) (v : V) : ∀ fs : List (Str × V), f ∈ (putF f v fs).map (·.1) ∧ ∀ g, g ∈ fs.map (·.1) → g ∈ (putF f v fs).map (·.1)
  | [] => ⟨by simp [putF], fun g h => by simp at h⟩
  | (k, x) :: r => by
    obtain ⟨i1, i2⟩ := keys_putF f v r
    rw [show putF f v ((k, x) :: r) = (if k = f then (k, v) :: r else (k, x) :: putF f v r) from rfl]
    by_cases hk : k = f
    · rw [if_pos hk]
      subst hk
      exact ⟨by simp, fun g h => by simpa using h⟩
    · rw [if_neg hk]
      refine ⟨?_, fun g h => ?_⟩
      · rw [List.map_cons]
        exact List.mem_cons_of_mem _ i1
      · rw [List.map_cons] at h ⊢
        rcases List.mem_cons.mp h with e | e
        · exact List.mem_cons.mpr (.inl e)
        · exact List.mem_cons_of_mem _ (i2 g e)
theorem length_putF (f : Str) (v : V) : ∀ fs : List (Str × V), (putF f v fs).length ≤ fs.length + 1
  | [] => by simp [putF]
  | (k, x) :: r => by
    have ih := length_putF f v r
    rw [show putF f v ((k, x) :: r) = (if k = f then (k, v) :: r else (k, x) :: putF f v r) from rfl]
    by_cases hk : k = f
    · rw [if_pos hk, List.length_cons, List.length_cons]; omega
    · rw [if_neg hk, List.length_cons, List.length_cons]; omega

theorem RelO.some_of {v : V} {o : Option Value} (r : RelO (some v) o) : ∃ u, o = some u ∧ RelV v u := by
  cases o with
  | none => exact (show False from r).elim
  | some u => exact ⟨u, rfl, r⟩
theorem handed_of {v : V} {u : Value} (r : RelV v u) : PySem.W.handedIn u = true := by
  cases v with
  | non => cases (show u = Value.none from r); rfl
  | bl b => cases (show u = Value.bool b from r); rfl
  | int i => obtain ⟨t, e⟩ := (show ∃ t, u = Value.int i t from r); cases e; rfl
  | str x => obtain ⟨t, e⟩ := (show ∃ t, u = Value.str x t from r); cases e; rfl
  | byt b => obtain ⟨t, e⟩ := (show ∃ t, u = Value.bytes b t from r); cases e; rfl
  | flt b => obtain ⟨t, e⟩ := (show ∃ t, u = Value.float b t from r); cases e; rfl
  | ref a => cases (show u = Value.ref a from r); rfl
  | ty n => cases (show u = Value.type n from r); rfl

section
variable {P : Program} {w : World} {H H' : Hp} {h h' : Heap} {a C dx : Addr} {fs fs' : List (Str × V)}
theorem ins_get (hok : HOk P w H h) (e : H a = some (.ins C dx fs)) : ∃ mA, ObjM h a dx C mA ∧ (∀ f, RelO (fs.lookup f) (mA f)) ∧ PySem.Within mA (fs.map (·.1)) ∧ fs.length ≤ 1000 ∧ H dx = some (.own a) := by
  obtain ⟨d, z, ne, ob, mA, n, r, q⟩ := (show ObjOk P w H h a (.ins C dx fs) from hok a _ e)
  exact ⟨mA, ⟨ob, n, ne⟩, r, q, z, d⟩
end


structure Cls (K : PySem.W.Frag) (C : Addr) : Prop where
  pg : PySem.W.plainGet K C Str.empty = true
  hd : PySem.W.hasDictIn K C = true
  po : PySem.W.plainOver K C = true
  sa : PySem.W.findIn K (.ref C) "__setattr__" = some (some (.builtin "object.__setattr__"))
theorem Cls.get {K : PySem.W.Frag} {C : Addr} (c : Cls K C) (f : Str) : PySem.W.plainGet K C f = true := c.pg

def NoAttr (K : PySem.W.Frag) (C : Addr) (f : Str) : Prop := PySem.W.findIn K (.ref C) f = some none
theorem NoAttr.taker {K : PySem.W.Frag} {C : Addr} {f : Str} (n : NoAttr K C f) : PySem.W.takerIn K C f = some none := by
  unfold PySem.W.takerIn
  rw [show PySem.W.findIn K (.ref C) f = some none from n]
  rfl

section
variable {X : Cx} {pins : List (Addr × Obj)} {σ : St} {H : Hp} {s : Shared} {a C dx : Addr} {fs : List (Str × V)} {f : Str} {v : V} {A : Around} {E : Value → Shared → Prop}

theorem getattr_ok {b : Bool} {Q : Value → Shared → Prop} (I : Inv X pins σ H s) (e : H a = some (.ins C dx fs)) (c : Cls X.K C) (n : NoAttr X.K C f) (l : fs.lookup f = some v)
    (h : ∀ u s', Inv X pins σ H s' → RelV v u → Q u s') : wpAny (model X.prog X.w) A (getAttr (.ref a) f b) Q E s := by
  obtain ⟨mA, O, r, _, _, _⟩ := ins_get I.hok e
  obtain ⟨u, hu, ru⟩ := RelO.some_of (v := v) (o := mA f) (by rw [← l]; exact r f)
  exact get_map I.kIn O (c.get f) c.hd n hu (handed_of ru) (h u _ (I.tok _) ru)

theorem setattr_ok {y : V} {u : Value} {Q : Unit → Shared → Prop} (I : Inv X pins σ H s) (e : H a = some (.ins C dx fs)) (c : Cls X.K C) (n : NoAttr X.K C f) (hl : fs.length < 1000) (ry : RelV y u)
    (h : ∀ s', Inv X pins σ (upd H a (.ins C dx (putF f y fs))) s' → Q () s') : wpAny (model X.prog X.w) A (setAttr (.ref a) f u) Q E s := by
  obtain ⟨mA, O, r, wi, _, ho⟩ := ins_get I.hok e
  have hz : (fs.map (·.1)).length ≤ sizeLine := by rw [List.length_map, sizeLine_eq]; omega
  refine set_map I.kIn O c.sa c.po n.taker c.hd wi hz fun h' O' sb => h _ ?_
  have hd : ∃ o, h'.get? dx = some o := let ⟨o, _, _, e', _⟩ := O'.ns; ⟨o, e'⟩
  refine I.write (x := a) (e := dx) (by rw [e]; exact True.intro) (.inr ho) (fun b q hb z => (sb.2 b hb).trans z) hd ?_
  refine ⟨by rw [upd_ne O.ne]; exact ho, ?_, O.ne, O'.obj, _, O'.ns, fun g => ?_, fun g hg => ?_⟩
  · have := length_putF f y fs; omega
  · show RelO ((putF f y fs).lookup g) (if g = f then some u else mA g)
    rw [lookup_putF]
    by_cases q : g = f
    · rw [if_pos q, if_pos q]; exact ry
    · rw [if_neg q, if_neg q]; exact r g
  · by_cases q : g = f
    · rw [q]; exact (keys_putF f y fs).1
    · refine (keys_putF f y fs).2 g (wi g fun z => hg ?_)
      show (if g = f then some u else mA g) = none
      rw [if_neg q]; exact z


theorem Inv.made (I : Inv X pins σ H s) : Inv X pins σ (upd (upd H s.heap.objs.size (.own (s.heap.objs.size + 1))) (s.heap.objs.size + 1) (.ins C s.heap.objs.size []))
    { s with heap := (s.heap.push PySem.W.emptyDict).push (PySem.W.instObj C s.heap.objs.size) } := by
  have e1 : (s.heap.push PySem.W.emptyDict).get? s.heap.objs.size = some PySem.W.emptyDict := Heap.get?_push_size s.heap rfl
  have e2 : ((s.heap.push PySem.W.emptyDict).push (PySem.W.instObj C s.heap.objs.size)).get? (s.heap.objs.size + 1) = some (PySem.W.instObj C s.heap.objs.size) := by
    have := Heap.get?_push_size (s.heap.push PySem.W.emptyDict) (o := PySem.W.instObj C s.heap.objs.size) rfl
    rwa [Heap.size_push] at this
  have e3 : (s.heap.push PySem.W.emptyDict).Ns s.heap.objs.size (fun _ => none) := ⟨PySem.W.emptyDict, #[], _, e1, rfl, (fun e he => absurd he (by simp)), fun _ => rfl⟩
  have I1 := I.laid (a := s.heap.objs.size) (o := .own (s.heap.objs.size + 1)) (h' := s.heap.push PySem.W.emptyDict) (t' := s.toks) (fun b u q => Heap.get?_push_of_some _ q) (Nat.le_refl _) ⟨_, e1⟩
  refine I1.laid (a := s.heap.objs.size + 1) (o := .ins C s.heap.objs.size []) (t' := s.toks) (fun b u q => Heap.get?_push_of_some _ q) (Nat.le_of_eq (Heap.size_push _ _)) ?_
  have ne : s.heap.objs.size ≠ s.heap.objs.size + 1 := Nat.ne_of_lt (Nat.lt_succ_self _)
  refine ⟨by rw [upd_ne ne, upd_same], Nat.zero_le _, ne, e2, fun _ => none, (Heap.Ns1.of_empty e3).at fun o q => Heap.get?_push_of_some _ q, fun _ => True.intro, fun y hy => absurd rfl hy⟩


theorem attr_of {prog : Program} {w : World} {env : Env} {e : Expr} {f : Str} {pos : Pos} {s : Shared} {Q : Value → Shared → Prop} (hb : attributeBase e f env (eval e env) = eval e env)
    (h : wpAny (model prog w) A (eval e env) (fun o s₁ => wpAny (model prog w) A (getAttr o f true) Q E s₁) E s) : wpAny (model prog w) A (eval (.Attribute e f pos) env) Q E s :=
  Attribute_any_ h (by rw [arm_eval_Attribute, hb])
end



def tFld (K : PySem.W.Frag) (ta : TE) (f : Str) : TE := fun σ H Q => ta σ H fun x H1 => ∃ a C dx fs v, x = .ref a ∧ H1 a = some (.ins C dx fs) ∧ Cls K C ∧ NoAttr K C f ∧ fs.lookup f = some v ∧ Q v H1

def sFld (K : PySem.W.Frag) (ta tv : TE) (f : Str) : TS := fun D σ H => tv σ H fun y H1 => ta σ H1 fun x H2 => ∃ a C dx fs, x = .ref a ∧ H2 a = some (.ins C dx fs) ∧ Cls K C ∧ NoAttr K C f ∧ fs.length < 1000 ∧
  D.nx σ (upd H2 a (.ins C dx (putF f y fs)))

section
variable {X : Cx} {o e value : Expr} {f : Str} {pos pos' tpos : Pos} {ta tv : TE}
theorem pe_fld (he : PE X e ta) (hb : attributeBase e f X.env (eval e X.env) = eval e X.env) : PE X (.Attribute e f pos) (tFld X.K ta f) := by
  intro pins s σ H Q I h
  refine attr_of hb (thn (he pins s σ H _ I h) fun u s1 ⟨x, H1, I1, rx, a, C, dx, fs, v, ex, ea, c, n, l, q⟩ => ?_)
  subst ex
  obtain rfl : u = Value.ref a := rx
  exact getattr_ok I1 ea c n l fun u' s2 I2 ru => ⟨v, H1, I2, ru, q⟩
theorem ps_fld (ha : PE X o ta) (hv : PE X value tv) (hs : swapsWith value (some (.Attribute o f pos')) pos.line X.env = pure false) : PS X (.Assign [.Attribute o f pos'] value pos) (sFld X.K ta tv f) := by
  intro pins s σ H D I h
  refine plainObj_wpAny_Assign_Attribute (thn (hv pins s σ H _ I h) fun u s1 ⟨y, H1, I1, ry, q⟩ => thn (ha pins s1 σ H1 _ I1 q) fun ov s2 ⟨x, H2, I2, rx, a, C, dx, fs, ex, ea, c, n, l, q2⟩ => ?_) hs
  subst ex
  obtain rfl : ov = Value.ref a := rx
  exact setattr_ok I2 ea c n l ry fun s3 I3 => ⟨σ, _, I3, q2⟩
end


section
variable {X : Cx} {pins : List (Addr × Obj)} {σ : St} {H : Hp} {s : Shared} {A : Around} {E : Value → Shared → Prop} {Q : Value → Shared → Prop} {c : Value} {b : Bool}

end
end L2

namespace L2
open PySem PySem.Spec PyProof.Rows


structure Room (k : Nat) (A : Around) : Prop where
  hd : A.handled = none
  dp : A.depth + 3 * k + 5 < recursionLimit
  un : A.units + 16 * k + 200 < cLine
theorem Room.mono {j k : Nat} {A : Around} (r : Room k A) (h : j ≤ k) : Room j A := ⟨r.hd, by have := r.dp; omega, by have := r.un; omega⟩
theorem Room.deeper {k : Nat} {A : Around} (r : Room (k + 1) A) (env : Env) : Room k (A.deeper env) :=
  ⟨r.hd, by have := r.dp; show A.depth + 1 + 3 * k + 5 < _; omega, by have := r.un; show A.units + 3 + 16 * k + 200 < _; omega⟩
theorem make_depth {A : Around} {C : Addr} {us : List Value} {kw : List (Str × Value)} : (A.under (.builtin "type.__call__" ⟨.ref C :: us, kw⟩)).depth = A.depth + 1 := by
  first | rfl | simp [Around.under, Code.weight, Code.isCreation, Code.isGuard, Code.isCaller, Code.frames, Code.isFrame, guardIds]
theorem make_units {A : Around} {C : Addr} {us : List Value} {kw : List (Str × Value)} : (A.under (.builtin "type.__call__" ⟨.ref C :: us, kw⟩)).units = A.units + 1 := by
  first | rfl | simp [Around.under, Code.cUnits, Code.frames, Code.isFrame]
theorem Room.make {k : Nat} {A : Around} (r : Room (k + 1) A) (C : Addr) (us : List Value) (kw : List (Str × Value)) : Room k (A.under (.builtin "type.__call__" ⟨.ref C :: us, kw⟩)) :=
  ⟨r.hd, by have := r.dp; rw [make_depth]; omega, by have := r.un; rw [make_units]; omega⟩
theorem Room.depth {k : Nat} {A : Around} (r : Room k A) : A.depth < recursionLimit := by have := r.dp; omega
theorem Room.units {k : Nat} {A : Around} (r : Room k A) : A.units + 64 < cLine := by have := r.un; omega
def tNil : TA := fun _ H Q => Q [] H
def tCons (ta : TE) (tr : TA) : TA := fun σ H Q => ta σ H fun x H1 => tr σ H1 fun xs H2 => Q (x :: xs) H2
section
variable {X : Cx} {e : Expr} {es : List Expr} {te : TE} {t : TA} {pos : Pos}
theorem pa_nil : PA X [] tNil := fun _ _ _ _ H Q I h => Calls.spliced_nil ⟨[], H, I, .nil, h⟩
theorem pa_cons (ha : PE X e te) (hr : PA X es t) (hs : starEach (e :: es) X.env = (false, eval e X.env) :: starEach es X.env := by rfl) : PA X (e :: es) (tCons te t) := by
  intro pos pins s σ H Q I h
  rw [hs]
  show wpAny _ _ (spliced ((false, eval e X.env) :: backTo pos (starEach es X.env))) _ _ s
  refine Calls.spliced_cons (thn (ha pins s σ H _ I h) fun u s1 ⟨x, H1, I1, r1, q1⟩ => ?_)
  exact thn (hr pos pins s1 σ H1 _ I1 q1) fun us s2 ⟨xs, H2, I2, r2, q2⟩ => ⟨x :: xs, H2, I2, .cons r1 r2, q2⟩


def tTup (t : TA) : TE := fun σ H Q => t σ H fun xs H1 => xs.length ≤ sizeLine ∧ ∀ p, H1 p = none → Q (.ref p) (upd H1 p (.tup xs))
def tLst (t : TA) : TE := fun σ H Q => t σ H fun xs H1 => xs.length ≤ sizeLine ∧ ∀ p, H1 p = none → Q (.ref p) (upd H1 p (.lst xs))
theorem pe_tup {x1} (h : PA X es t) : PE X (.Tuple es x1 pos) (tTup t) := by
  intro pins s σ H Q I hq
  refine wpAny_Tuple_spliced (thn (h pos pins s σ H _ I hq) fun us s1 ⟨xs, H1, I1, r, z, q⟩ => ⟨by rw [← r.length]; exact z, ?_⟩)
  have hf : H1 s1.heap.objs.size = none := I1.hok.fresh (Nat.le_refl _)
  refine ⟨.ref s1.heap.objs.size, upd H1 s1.heap.objs.size (.tup xs), I1.laid (t' := s1.toks) (fun b u e => Heap.get?_push_of_some _ e) (Nat.le_refl _) ?_, rfl, q _ hf⟩
  exact ⟨z, us, r, ⟨_, Heap.get?_push_size _ rfl, rfl, _, rfl⟩⟩
theorem pe_lst (h : PA X es t) : PE X (.List es pos) (tLst t) := by
  intro pins s σ H Q I hq
  refine wpAny_List_spliced (thn (h pos pins s σ H _ I hq) fun us s1 ⟨xs, H1, I1, r, z, q⟩ => ⟨by rw [← r.length]; exact z, ?_⟩)
  have hf : H1 s1.heap.objs.size = none := I1.hok.fresh (Nat.le_refl _)
  refine ⟨.ref s1.heap.objs.size, upd H1 s1.heap.objs.size (.lst xs), I1.laid (t' := s1.toks) (fun b u e => Heap.get?_push_of_some _ e) (Nat.le_refl _) ?_, rfl, q _ hf⟩
  exact ⟨z, us, 0, r, Heap.get?_push_size _ rfl⟩
end



abbrev Sp := List V → Hp → VK → XK → Prop

abbrev CXT := List Env → Hp → Shared → XK → Value → Shared → Prop


structure Env0 (P : Program) (w : World) (K : PySem.W.Frag) (mg : Str → Option Value) (base : Heap) (A : Around) (outer : List Env) (s : Shared) (H : Hp) : Prop where
  frames : A.frames = some outer
  mod : Mod K mg base
  bs : ∀ b o, base.get? b = some o → s.heap.get? b = some o ∧ H b = none
  bsz : base.objs.size ≤ s.heap.objs.size
  funs : s.heap.FunFrames base outer
  frf : ∀ b ∈ frs outer, H b = none
  hok : HOk P w H s.heap
  bare : AllBare s.gens

def CE (outer : List Env) (P : Program) (w : World) (H : Hp) (s : Shared) (Q : VK) (u : Value) (s' : Shared) : Prop :=
  ∃ v H', s'.os = s.os ∧ AllBare s'.gens ∧ Un (frs outer) [] H H' s.heap s'.heap ∧ HOk P w H' s'.heap ∧ RelV v u ∧ Q v H'
def CR (CX : CXT) (outer : List Env) (P : Program) (w : World) (H : Hp) (s : Shared) (Q : VK) (E : XK) (r : Result) (s' : Shared) : Prop :=
  match r with
  | .ok (.ret u) => CE outer P w H s Q u s'
  | .ok _ => False
  | .error e => CX outer H s E e s'
structure FnOk (P : Program) (w : World) (K : PySem.W.Frag) (mg : Str → Option Value) (base : Heap) (CX : CXT) (k : Nat) (f : Addr) (fd : FuncData) (ps : List Str) (sp : Sp) : Prop where
  len : ∀ vs H Q E, sp vs H Q E → vs.length = ps.length
  run : ∀ (A : Around) (outer : List Env) (s : Shared) (H : Hp) (args : Args) (us : List Value) (vs : List V) (Q : VK) (E : XK), Room k A → Env0 P w K mg base A outer s H → BindsTo s fd args (ps.zip us) → Vals vs us → sp vs H Q E →
    codeAny (model P w) A (.call (.ref f) args) (CR CX outer P w H s Q E) s
theorem Env0.make {P : Program} {w : World} {K : PySem.W.Frag} {mg : Str → Option Value} {base : Heap} {A : Around} {outer : List Env} {s : Shared} {H : Hp} (e : Env0 P w K mg base A outer s H) (C : Addr) (us : List Value) (kw : List (Str × Value)) :
    Env0 P w K mg base (A.under (.builtin "type.__call__" ⟨.ref C :: us, kw⟩)) outer s H := ⟨by first | exact e.frames | (simpa [Around.under, Code.envs, Code.isFrame, pushEnvs] using e.frames), e.mod, e.bs, e.bsz, e.funs, e.frf, e.hok, e.bare⟩
section
variable {X : Cx} {pins : List (Addr × Obj)} {σ : St} {H : Hp} {s s' : Shared}

theorem Inv.env0 (I : Inv X pins σ H s) : Env0 X.prog X.w X.K X.mg X.base X.A X.stack s H :=
  ⟨I.ok.frames, I.ok.mod, I.bs, Nat.le_trans I.ok.bsz I.sz, I.stack, I.stkFree, I.hok, I.bare⟩

theorem Inv.after {Q : VK} {u : Value} (I : Inv X pins σ H s) (h : CE X.stack X.prog X.w H s Q u s') : EP X pins σ Q u s' := by
  obtain ⟨v, H', os, bare, un, hok, r, q⟩ := h
  obtain ⟨hh, g, d, t, os'⟩ := s'
  obtain rfl : os' = s.os := os
  exact ⟨v, H', I.call (h' := hh) (g' := g) (d' := d) (t' := t) (ch := []) un hok bare (fun b z => absurd z (by simp)), r, q⟩
end



def tCall (sp : Sp) (dvs : List V) (E : XK) (t : TA) : TE := fun σ H Q => t σ H fun vs H1 => sp (vs ++ dvs) H1 Q E

def tMake (C : Addr) (sp : Sp) (dvs : List V) (E : XK) (t : TA) : TE := fun σ H Q => t σ H fun vs H1 => ∀ x dx, H1 x = none → H1 dx = none → dx ≠ x →
  sp (.ref x :: (vs ++ dvs)) (upd (upd H1 dx (.own x)) x (.ins C dx [])) (fun v H2 => v = .non ∧ Q (.ref x) H2) E


def Binds (K : PySem.W.Frag) (fd : FuncData) (ps : List Str) (ds : List Value) : Prop :=
  ∀ (s : Shared) (us : List Value), K.In s.heap → (us ++ ds).length = ps.length → BindsTo s fd ⟨us, []⟩ (ps.zip (us ++ ds))

theorem Binds.all {K : PySem.W.Frag} {fd : FuncData} {ps : List Str} (h : ∀ us : List Value, us.length = ps.length → bindArgs fd ⟨us, []⟩ = pure (ps.zip us)) : Binds K fd ps [] := fun s us _ hl => by
  rw [List.append_nil] at hl ⊢
  exact .of_eq (h us hl)


def Passes (CX : CXT) (X : Cx) (E : XK) : Prop := ∀ (pins : List (Addr × Obj)) (σ : St) (H : Hp) (s : Shared) (e : Value) (s' : Shared), Inv X pins σ H s → CX X.stack H s E e s' → X.xe e s'

section
variable {X : Cx} {CX : CXT} {k : Nat} {f C : Addr} {fd : FuncData} {ps : List Str} {sp : Sp} {dvs : List V} {ds : List Value} {E : XK} {x m : Str} {p pos apos : Pos} {e o : Expr} {es : List Expr} {ta : TE} {t : TA}


theorem run_fn {pins : List (Addr × Obj)} {σ : St} {H : Hp} {s : Shared} {Q : VK} {us : List Value} {vs : List V} (F : FnOk X.prog X.w X.K X.mg X.base CX k f fd ps sp) (hr : Room k X.A) (hb : Binds X.K fd ps ds) (hd : Vals dvs ds) (hx : Passes CX X E)
    (I : Inv X pins σ H s) (r : Vals vs us) (h : sp (vs ++ dvs) H Q E) : wpAny (model X.prog X.w) X.A (call (.ref f) us) (EP X pins σ Q) X.xe s := by
  have r2 : Vals (vs ++ dvs) (us ++ ds) := r.append hd
  have hl : (us ++ ds).length = ps.length := by rw [← r2.length]; exact F.len _ _ _ _ h
  refine wpAny_call (codeAny_mono (F.run X.A X.stack s H ⟨us, []⟩ (us ++ ds) (vs ++ dvs) Q E hr I.env0 (hb s us I.kIn hl) r2 h) fun r s' hq => ?_)
  cases r with
  | error e => exact hx pins σ H s e s' I hq
  | ok fl =>
    cases fl with
    | ret u => exact I.after hq
    | next => exact False.elim hq
    | brk => exact False.elim hq
    | cont => exact False.elim hq

theorem pe_call (F : FnOk X.prog X.w X.K X.mg X.base CX k f fd ps sp) (hr : Room k X.A) (hg : Gl X x) (hm : X.mg x = some (.ref f)) (hk : PySem.W.keepIn X.K (.ref f) = true) (hb : Binds X.K fd ps ds) (hd : Vals dvs ds) (hx : Passes CX X E)
    (ha : PA X (e :: es) t) (hdb : (x == ("__debug__" : Str)) = false := by decide) (he : starEach (e :: es) X.env = (false, eval e X.env) :: starEach es X.env := by rfl) (hpl : (backTo pos (starEach es X.env)).any (·.1) = false := by rfl) :
    PE X (.Call (.Name x p) (e :: es) [] pos) (tCall sp dvs E t) := by
  intro pins s σ H Q I h
  refine wpAny_Call_Name_kw (ld_glob I hg hm ?_ hdb)
  refine PySem.W.callWith_K (h₀ := X.base) I.ok.mod.kin hk (thn (ha pos pins s σ H _ I h) fun us s1 ⟨vs, H1, I1, r, q⟩ => ⟨I1.kIn, ?_⟩) he hpl
  exact run_fn F hr hb hd hx I1 r q
structure Mk (K : PySem.W.Frag) (C f : Addr) : Prop where
  makes : PySem.W.makesIn K C = true
  init : PySem.W.findIn K (.ref C) "__init__" = some (some (.ref f))
  fn : PySem.W.isFn K (.ref f) = true
  kp : PySem.W.keepIn K (.ref C) = true

theorem run_make {pins : List (Addr × Obj)} {σ : St} {H : Hp} {s : Shared} {Q : VK} {us : List Value} {vs : List V} (M : Mk X.K C f) (F : FnOk X.prog X.w X.K X.mg X.base CX k f fd ps sp) (hr : Room (k + 1) X.A) (hb : Binds X.K fd ps ds) (hd : Vals dvs ds)
    (hx : Passes CX X E) (I : Inv X pins σ H s) (r : Vals vs us)
    (h : ∀ x dx, H x = none → H dx = none → dx ≠ x → sp (.ref x :: (vs ++ dvs)) (upd (upd H dx (.own x)) x (.ins C dx [])) (fun v H2 => v = .non ∧ Q (.ref x) H2) E) :
    wpAny (model X.prog X.w) X.A (call (.ref C) us) (EP X pins σ Q) X.xe s := by
  have hq := h (s.heap.objs.size + 1) s.heap.objs.size (I.hok.fresh (Nat.le_succ _)) (I.hok.fresh (Nat.le_refl _)) (Nat.ne_of_lt (Nat.lt_succ_self _))
  have I2 := Inv.made (C := C) I
  have r2 : Vals (V.ref (s.heap.objs.size + 1) :: (vs ++ dvs)) (Value.ref (s.heap.objs.size + 1) :: (us ++ ds)) := .cons rfl (r.append hd)
  have hl : (Value.ref (s.heap.objs.size + 1) :: us ++ ds).length = ps.length := by
    have e := r2.length
    rw [F.len _ _ _ _ hq] at e
    exact e.symm
  refine wpAny_call (make_map (f := f) I.kIn M.makes M.init (beq_iff_eq.mp M.fn) (codeAny_mono (F.run _ X.stack _ _ ⟨Value.ref (s.heap.objs.size + 1) :: us, []⟩ (Value.ref (s.heap.objs.size + 1) :: (us ++ ds)) _ _ E (hr.make C us [])
    (I2.env0.make C us []) (hb _ (Value.ref (s.heap.objs.size + 1) :: us) I2.kIn hl) r2 hq) fun r s' hq' => ?_))
  cases r with
  | error e => exact hx pins σ _ _ e s' I2 hq'
  | ok fl =>
    cases fl with
    | ret u =>
      obtain ⟨v, H', I3, rv, ev, q3⟩ := I2.after hq'
      subst ev
      exact ⟨rv, ⟨V.ref (s.heap.objs.size + 1), H', I3, rfl, q3⟩⟩
    | next => exact False.elim hq'
    | brk => exact False.elim hq'
    | cont => exact False.elim hq'
theorem pe_make (M : Mk X.K C f) (F : FnOk X.prog X.w X.K X.mg X.base CX k f fd ps sp) (hr : Room (k + 1) X.A) (hg : Gl X x) (hm : X.mg x = some (.ref C)) (hb : Binds X.K fd ps ds) (hd : Vals dvs ds) (hx : Passes CX X E)
    (ha : PA X (e :: es) t) (hdb : (x == ("__debug__" : Str)) = false := by decide) (he : starEach (e :: es) X.env = (false, eval e X.env) :: starEach es X.env := by rfl) (hpl : (backTo pos (starEach es X.env)).any (·.1) = false := by rfl) :
    PE X (.Call (.Name x p) (e :: es) [] pos) (tMake C sp dvs E t) := by
  intro pins s σ H Q I h
  refine wpAny_Call_Name_kw (ld_glob I hg hm ?_ hdb)
  refine PySem.W.callWith_K (h₀ := X.base) I.ok.mod.kin M.kp (thn (ha pos pins s σ H _ I h) fun us s1 ⟨vs, H1, I1, r, q⟩ => ⟨I1.kIn, ?_⟩) he hpl
  exact run_make M F hr hb hd hx I1 r q
end



section
variable {X : Cx} {CX : CXT} {k : Nat} {f C : Addr} {fd : FuncData} {ps ks : List Str} {sp : Sp} {E : XK} {x m : Str} {p pos apos kpos : Pos} {e o : Expr} {es : List Expr} {kws : List Keyword} {te ta : TE} {t tk : TA} {nm : Option Str}
variable {g : List Value → List Value → List Value} {gV : List V → List V → List V}
end



structure FnScope (N P : List Str) (sc : Scope) : Prop where
  kind : sc.kind = .function
  co : sc.isCoroutine = false
  gen : sc.isGenerator = false
  nd : N.Nodup
  pre : N.take P.length = P
  par : ∀ x ∈ P, sc.names.lookup x = some .local ∨ sc.names.lookup x = some .cell
  nofree : ∀ y ∈ sc.names, y.2 ≠ .free

theorem bindL_out {kindOf : Str → Option NameKind} {x : Str} : ∀ {binds : List (Str × Value)} {m : Str → Option Value}, (∀ v, (x, v) ∉ binds) → bindL kindOf binds m x = m x
  | [], _, _ => rfl
  | (n, v) :: r, m, h => by
    unfold bindL
    rw [bindL_out fun w hw => h w (List.mem_cons_of_mem _ hw)]
    split
    · have : x ≠ n := by rintro rfl; exact h v List.mem_cons_self
      simp [this]
    · rfl
theorem bindC_out {kindOf : Str → Option NameKind} {x : Str} : ∀ {binds : List (Str × Value)} {m : Str → Option Value}, (∀ v, (x, v) ∉ binds) → bindC kindOf binds m x = m x
  | [], _, _ => rfl
  | (n, v) :: r, m, h => by
    unfold bindC
    rw [bindC_out fun w hw => h w (List.mem_cons_of_mem _ hw)]
    split
    · rfl
    · have : x ≠ n := by rintro rfl; exact h v List.mem_cons_self
      simp [this]
theorem bindL_get {kindOf : Str → Option NameKind} {x : Str} {v : Value} : ∀ {P : List Str} {vs : List Value} {i : Nat} {m : Str → Option Value}, P.Nodup → P[i]? = some x → vs[i]? = some v → kindOf x = some .local →
    bindL kindOf (P.zip vs) m x = some v
  | [], _, _, _, _, h, _, _ => by simp at h
  | _ :: _, [], _, _, _, _, h, _ => by simp at h
  | p :: P, w :: vs, 0, m, nd, h1, h2, hk => by
    simp at h1 h2; subst h1; subst h2
    show bindL kindOf ((p, w) :: P.zip vs) m p = _
    unfold bindL
    rw [bindL_out fun v hv => (List.nodup_cons.mp nd).1 (List.of_mem_zip hv).1, if_pos hk]
    simp
  | p :: P, w :: vs, i + 1, m, nd, h1, h2, hk => by
    show bindL kindOf ((p, w) :: P.zip vs) m x = _
    unfold bindL
    exact bindL_get (i := i) (List.nodup_cons.mp nd).2 (by simpa using h1) (by simpa using h2) hk
theorem bindC_get {kindOf : Str → Option NameKind} {x : Str} {v : Value} : ∀ {P : List Str} {vs : List Value} {i : Nat} {m : Str → Option Value}, P.Nodup → P[i]? = some x → vs[i]? = some v → kindOf x ≠ some .local →
    bindC kindOf (P.zip vs) m x = some v
  | [], _, _, _, _, h, _, _ => by simp at h
  | _ :: _, [], _, _, _, _, h, _ => by simp at h
  | p :: P, w :: vs, 0, m, nd, h1, h2, hk => by
    simp at h1 h2; subst h1; subst h2
    show bindC kindOf ((p, w) :: P.zip vs) m p = _
    unfold bindC
    rw [bindC_out fun v hv => (List.nodup_cons.mp nd).1 (List.of_mem_zip hv).1, if_neg hk]
    simp
  | p :: P, w :: vs, i + 1, m, nd, h1, h2, hk => by
    show bindC kindOf ((p, w) :: P.zip vs) m x = _
    unfold bindC
    exact bindC_get (i := i) (List.nodup_cons.mp nd).2 (by simpa using h1) (by simpa using h2) hk


def start (N : List Str) (vs : List V) : St := vs.map some ++ List.replicate (N.length - vs.length) none


def cxOf (CX : CXT) (P : Program) (w : World) (K : PySem.W.Frag) (mg : Str → Option Value) (base : Heap) (N : List Str) (qual : Str) (scope : Scope) (f : Addr) (cd : Value) (A : Around) (outer : List Env) (s : Shared) (H : Hp) (E : XK) : Cx where
  prog := P
  w := w
  K := K
  mg := mg
  base := base
  A := A.deeper (envOfC qual scope s.heap.objs.size f cd)
  N := N
  s₀ := s
  H₀ := H
  env := envOfC qual scope s.heap.objs.size f cd
  outer := outer
  stack := envOfC qual scope s.heap.objs.size f cd :: outer
  ex := []
  calm := true
  fn := fun _ => true
  pn := []
  xe := fun e s' => wpAny (model P w) (A.deeper (envOfC qual scope s.heap.objs.size f cd)) (leaving (envOfC qual scope s.heap.objs.size f cd) e) (fun _ s'' => CX outer H s E e s'') (fun e' s'' => CX outer H s E e' s'') s'

theorem cell_has {sc : Scope} {n : Nat} {x : Str} (h : sc.names.lookup x = some .cell) : ∃ c, (cellsFrom n sc.names []).lookup x = some c := by
  have q := PySem.W.cellsFrom_some sc.names n [] (.inl h)
  exact Option.isSome_iff_exists.mp q

theorem inv_start {CX : CXT} {P : Program} {w : World} {K : PySem.W.Frag} {mg : Str → Option Value} {base : Heap} {N ps : List Str} {qual : Str} {scope : Scope} {f : Addr} {cd : Value} {A : Around} {outer : List Env} {s s1 : Shared} {H : Hp} {E : XK} {us : List Value} {vs : List V}
    (S : FnScope N ps scope) (hd : A.handled = none) (e0 : Env0 P w K mg base A outer s H) (hl : vs.length = ps.length) (r : Vals vs us)
    (x : InCallC s s.heap.objs.size (bindL (envOfC qual scope s.heap.objs.size f cd).kindOf (ps.zip us) fun _ => none) (cellsFrom (s.heap.objs.size + 1) scope.names []) (bindC (envOfC qual scope s.heap.objs.size f cd).kindOf (ps.zip us) fun _ => none) s1) :
    Inv (cxOf CX P w K mg base N qual scope f cd A outer s H E) [] (start N vs) H s1 := by
  have hpl : ps.length ≤ N.length := by have := congrArg List.length S.pre; rw [List.length_take] at this; omega
  obtain ⟨h1, tk, rfl, hk⟩ := x.done
  have noA : ∀ b : Addr, b ∉ (cxOf CX P w K mg base N qual scope f cd A outer s H E).ex := fun b z => absurd (show b ∈ ([] : List Addr) from z) (by simp)
  refine ⟨⟨e0.mod, S.kind, rfl, rfl, Nat.le_refl _, fun y z c h1 h2 => ?_, fun y hy => ?_, fun y c _ h => ?_, fun _ => hd, Around.frames_deeper e0.frames, .inr ⟨rfl, rfl⟩, fun b z => absurd z (noA b), e0.bs, e0.bsz, fun b _ _ => noA b, fun b z => absurd z (noA b), e0.funs, e0.frf⟩,
    rfl, e0.bare, Un.kept hk, ⟨_, x.toInCall.ns, fun i y v h1 h2 h3 => ?_⟩, fun y c h => ⟨_, x.cell y c h⟩, e0.hok.fresh (Nat.le_refl _), fun y c h => ?_, fun p hp => absurd (show p ∈ ([] : List (Addr × Obj)) from hp) (by simp), e0.hok.kept hk, ?_⟩
  · exact name_of_addr x.apart (PySem.mem_of_lookup h1) (PySem.mem_of_lookup h2)
  · have hy : scope.names.lookup y = some .cell ∨ scope.names.lookup y = some .free := hy
    rcases hy with hy | hy
    · exact cell_has hy
    · exact absurd rfl (S.nofree _ (PySem.mem_of_lookup hy))
  · exact Nat.le_of_lt (x.above y c (PySem.mem_of_lookup h))
  · have hi : i < vs.length := by
      unfold start at h2
      by_cases hi : i < vs.length
      · exact hi
      · rw [List.getElem?_append_right (by simpa using hi)] at h2
        rw [List.getElem?_replicate] at h2
        split at h2 <;> cases h2
    have ha : vs[i]? = some v := by
      unfold start at h2
      rw [List.getElem?_append_left (by simpa using hi), List.getElem?_map] at h2
      cases e : vs[i]? with
      | none => rw [e] at h2; cases h2
      | some a => rw [e] at h2; cases h2; rfl
    obtain ⟨u, hu, rv⟩ := r.get ha
    have hp : ps[i]? = some y := by
      rw [← S.pre, List.getElem?_take_of_lt (by omega)]; exact h1
    have ndP : ps.Nodup := by rw [← S.pre]; exact S.nd.sublist (List.take_sublist _ _)
    refine ⟨u, rv, ?_⟩
    rcases S.par y (List.mem_of_getElem? hp) with k | k
    · exact .inl ⟨k, bindL_get ndP hp hu k⟩
    · obtain ⟨c, e⟩ := cell_has (n := s.heap.objs.size + 1) k
      refine .inr ⟨.inl k, c, e, ?_⟩
      have q := x.cell y c e
      rw [bindC_get ndP hp hu (by show scope.names.lookup y ≠ _; rw [k]; decide)] at q
      exact q
  · exact e0.hok.fresh (Nat.le_of_lt (x.above y c (PySem.mem_of_lookup h)))
  · unfold start
    show _ = N.length
    rw [List.length_append, List.length_map, List.length_replicate]
    omega


theorem fn_of {CX : CXT} {P : Program} {w : World} {K : PySem.W.Frag} {mg : Str → Option Value} {base : Heap} {k : Nat} {f : Addr} {name qual : Str} {params : Arguments} {body : List Stmt} {scope : Scope} {dV kV doc pm cdv ct oc : Value} {an od : Option Addr}
    {osl : Array (Option Value)} {N ps : List Str} {sp : Sp} (lk : K.lookup f = some ⟨oc, od, .func (PySem.W.fnOf name qual params body scope dV kV doc pm an cdv ct), osl⟩) (hcd : PySem.W.codeIn K cdv qual = true) (S : FnScope N ps scope)
    (len : ∀ vs H Q E, sp vs H Q E → vs.length = ps.length)
    (hbody : ∀ (A : Around) (outer : List Env) (s : Shared) (H : Hp) (vs : List V) (Q : VK) (E : XK), Room k (A.deeper (envOfC qual scope s.heap.objs.size f cdv)) → sp vs H Q E →
      ∃ t, PSs (cxOf CX P w K mg base N qual scope f cdv A outer s H E) body t ∧ t { nx := fun _ H' => Q .non H', rt := Q } (start N vs) H) :
    FnOk P w K mg base CX (k + 1) f (PySem.W.fnOf name qual params body scope dV kV doc pm an cdv ct) ps sp := by
  refine ⟨len, fun A outer s H args us vs Q E hr e0 hb r hsp => ?_⟩
  have hl := len _ _ _ _ hsp
  have KX : K.In s.heap := e0.mod.kin.keeps fun b o e => (e0.bs b o e).1
  have lim : s.heap.NoLimit := e0.mod.nolimit.keeps fun b o e => (e0.bs b o e).1
  have hkind : ∀ y ∈ ps.zip us, scope.names.lookup y.1 = some .local ∨ (scope.names.lookup y.1 = some .cell ∧ ((cellsFrom (s.heap.objs.size + 1) scope.names []).lookup y.1).isSome = true) := fun ⟨n, v⟩ hy => by
    rcases S.par n (List.of_mem_zip hy).1 with q | q
    · exact .inl q
    · exact .inr ⟨q, PySem.W.cellsFrom_some _ _ _ (.inl q)⟩
  refine codeAny_call_function hr.depth (KX _ _ lk) rfl S.co S.gen rfl (PySem.W.codeRec_of KX hcd) (hb _ _ _ _ ?_)
  refine wpAny_newFunctionEnv_cells S.kind hkind fun env he s1 x => ?_
  subst he
  refine ⟨lim.keeps x.toInCall.keep, codeAny_func ?_⟩
  obtain ⟨t, ht, hq⟩ := hbody A outer s H vs Q E (hr.deeper _) hsp
  have I : Inv (cxOf CX P w K mg base N qual scope f cdv A outer s H E) [] (start N vs) H s1 := inv_start S hr.hd e0 hl r x
  refine wpAny_mono (ht [] s1 (start N vs) H _ I hq) (fun fl s' hs => ?_) fun e s' hs => hs
  have fin : ∀ {σ' : St} {H' : Hp} {v : V} {u : Value}, Inv (cxOf CX P w K mg base N qual scope f cdv A outer s H E) [] σ' H' s' → RelV v u → Q v H' → CE outer P w H s Q u s' :=
    fun {σ' H' v u} J rv q => ⟨v, H', J.os, J.bare, J.base, J.hok, rv, q⟩
  cases fl with
  | ret u =>
    obtain ⟨v, σ', H', J, rv, q⟩ := hs
    exact fin J rv q
  | next =>
    obtain ⟨σ', H', J, q⟩ := hs
    exact fin (v := V.non) (u := Value.none) J rfl q
  | brk =>
    obtain ⟨_, _, _, q⟩ := hs
    exact False.elim q
  | cont =>
    obtain ⟨_, _, _, q⟩ := hs
    exact False.elim q
end L2

namespace L2
open PySem PySem.Spec PyProof.Rows
section
variable {X : Cx} {x : Str} {p pos : Pos} {e : Expr} {es : List Expr} {t : TA} {id T : String} {r : List V → Hp → VK → Prop}

def tCB (r : List V → Hp → VK → Prop) (t : TA) : TE := fun σ H Q => t σ H fun vs H1 => r vs H1 Q

theorem pe_callB (hc : CallR X (.builtin id) r) (hg : Gl X x) (hm : X.mg x = none) (hv : bootBuiltins x = some (.builtin id)) (ha : PA X (e :: es) t) (hn : x ≠ "__name__" := by decide) (hdb : (x == ("__debug__" : Str)) = false := by decide)
    (he : starEach (e :: es) X.env = (false, eval e X.env) :: starEach es X.env := by rfl) (hpl : (backTo pos (starEach es X.env)).any (·.1) = false := by rfl) : PE X (.Call (.Name x p) (e :: es) [] pos) (tCB r t) := by
  intro pins s σ H Q I h
  refine wpAny_Call_Name_kw (ld_blt I hg hm hv ?_ hn hdb)
  exact PyProof.Rows.callWith_builtin1 (thn (ha pos pins s σ H _ I h) fun us s1 ⟨vs, H1, I1, r1, q1⟩ => hc pins s1 σ H1 vs us Q I1 r1 q1) he hpl

theorem pe_callTy (hc : CallR X (.type T) r) (hg : Gl X x) (hm : X.mg x = none) (hv : bootBuiltins x = some (.type T)) (ha : PA X (e :: es) t) (hn : x ≠ "__name__" := by decide) (hdb : (x == ("__debug__" : Str)) = false := by decide)
    (he : starEach (e :: es) X.env = (false, eval e X.env) :: starEach es X.env := by rfl) (hpl : (backTo pos (starEach es X.env)).any (·.1) = false := by rfl) : PE X (.Call (.Name x p) (e :: es) [] pos) (tCB r t) := by
  intro pins s σ H Q I h
  refine wpAny_Call_Name_kw (ld_blt I hg hm hv ?_ hn hdb)
  exact PyProof.Rows.callWith_type1 (thn (ha pos pins s σ H _ I h) fun us s1 ⟨vs, H1, I1, r1, q1⟩ => hc pins s1 σ H1 vs us Q I1 r1 q1) he hpl

end
end L2

namespace HT
open PySem PyProof.Rows


section
open PySem.SeqAt
open PySem.AutoSeq1 (wpAny_loadPart')
open PySem.MeetsSeq PySem.MeetsSeq2 PySem.MeetsSeq3

end

section
variable {prog : Program} {w : World} {A : Around} {E : Value → Shared → Prop} {s : Shared}

theorem cat_tup {t b : Addr} {vs ws : List Value} {Q : Value → Shared → Prop} (ht : IsTup s.heap t vs.toArray) (hb : IsTup s.heap b ws.toArray) (hv : vs ≠ [])
    (h1 : ws = [] → Q (.ref t) s) (h2 : ws ≠ [] → Q (.ref s.heap.objs.size) { s with heap := s.heap.push { cls := .type "tuple", data := .seq (vs ++ ws).toArray } })
    (hsz : vs.length + ws.length ≤ sizeLine) : wpAny (model prog w) A (binaryOp .Add (.ref t) (.ref b)) Q E s := by
  obtain ⟨⟨cls, dd, data, sl⟩, ho, hc, n, hd⟩ := id ht
  obtain ⟨⟨cls2, dd2, data2, sl2⟩, ho2, hc2, n2, hd2⟩ := id hb
  simp only at hc hd hc2 hd2
  subst hc hd hc2 hd2
  have e : vs.toArray ++ ws.toArray = (vs ++ ws).toArray := by simp
  by_cases hw : ws = []
  · exact concat_meets ⟨_, ho, rfl⟩ ⟨_, ho2, rfl⟩ noFill_tuple_add seq_tuple_add PySem.F.slot_tuple_add PySem.F.entry_tuple_add (PySem.F.args_tuple_add_2 _ _)
      (tuple_addW1 t b vs.toArray ws.toArray n n2 dd dd2 sl sl2 (by simpa using hv) (by simp [hw])) ⟨ho, ho2, h1 hw⟩
  · refine concat_meets ⟨_, ho, rfl⟩ ⟨_, ho2, rfl⟩ noFill_tuple_add seq_tuple_add PySem.F.slot_tuple_add PySem.F.entry_tuple_add (PySem.F.args_tuple_add_2 _ _)
      (tuple_addW2 t b vs.toArray ws.toArray n n2 dd dd2 sl sl2 (by simpa using hv) (by simpa using hw) (by rw [List.size_toArray, List.size_toArray]; exact hsz)) ⟨ho, ho2, ?_⟩
    rw [e]
    exact h2 hw



def sIx (n d : Nat) : Option Int → Nat
  | none => d
  | some v => if v < 0 then (v + (n : Int)).toNat else min v.toNat n
theorem sIx_le (n d : Nat) (hd : d ≤ n) (o : Option Int) : sIx n d o ≤ n := by
  cases o with
  | none => exact hd
  | some v =>
    show (if v < 0 then (v + (n : Int)).toNat else min v.toNat n) ≤ n
    by_cases hv : v < 0
    · rw [if_pos hv]; omega
    · rw [if_neg hv]; exact Nat.min_le_right _ _
theorem clip_eq (v : Int) (n d : Nat) : (if v < 0 then max (v + (n : Int)) 0 else min v (n : Int)) = ((sIx n d (some v) : Nat) : Int) := by
  show (if v < 0 then max (v + (n : Int)) 0 else min v (n : Int)) = (((if v < 0 then (v + (n : Int)).toNat else min v.toNat n) : Nat) : Int)
  by_cases hv : v < 0
  · simp only [if_pos hv]; omega
  · simp only [if_neg hv]; omega
theorem adjust_gen (lo hi : Option Int) (n : Nat) : Builtin.Slice.sliceAdjust lo hi 1 (n : Int) = (((sIx n 0 lo : Nat) : Int), ((sIx n n hi : Nat) : Int)) := by
  have h1 : ¬ ((1 : Int) < 0) := by omega
  unfold Builtin.Slice.sliceAdjust
  simp only [h1, if_false]
  refine Prod.ext ?_ ?_
  · cases lo with
    | none => rfl
    | some v => exact clip_eq v n 0
  · cases hi with
    | none => rfl
    | some v => exact clip_eq v n n
theorem places_gen (i j : Nat) : Builtin.Slice.slicePlaces (i : Int) (j : Int) 1 = j - i := by
  unfold Builtin.Slice.slicePlaces
  have h1 : (1 : Int) > 0 := by omega
  simp only [h1, if_true, Int.ediv_one]
  split <;> omega
theorem slicePart_ {v : Value} {o : Option Int} {Q : Option Int → Shared → Prop} (p : IsPart v o) (h : Q o s) : wpAny (model prog w) A (Builtin.Slice.slicePartIndex v) Q E s := by
  cases p with
  | none => exact slicePart_none h
  | int i t => exact slicePart_int h
theorem sliceApplied_gen {sl : Addr} {vl vu : Value} {lo hi : Option Int} {n : Nat} {Q : Int × Int × Nat → Shared → Prop} (hs : s.heap.IsSliceOf sl vl vu .none) (pl : IsPart vl lo) (pu : IsPart vu hi)
    (h : Q (((sIx n 0 lo : Nat) : Int), 1, sIx n n hi - sIx n 0 lo) s) : wpAny (model prog w) A (Builtin.Slice.sliceApplied (.ref sl) (pure (n : Int))) Q E s := by
  obtain ⟨os, hos, hcs, hds⟩ := id hs
  unfold Builtin.Slice.sliceApplied Builtin.Slice.sliceFields
  refine wpAny_bind (wpAny_bind (wpAny_field hos hds (x := vl) rfl (wpAny_bind (wpAny_field hos hds (x := vu) rfl (wpAny_bind (wpAny_field hos hds (x := .none) rfl (wpAny_pure ?_)))))))
  refine wpAny_bind (slicePart_none ?_)
  show wpAny _ _ (if ((1 : Int) == 0) = true then _ else _) _ _ s
  rw [if_neg (by decide)]
  refine wpAny_bind (slicePart_ pl (wpAny_bind (slicePart_ pu (wpAny_bind (wpAny_pure ?_)))))
  show wpAny _ _ (match Builtin.Slice.sliceAdjust lo hi 1 (n : Int) with | (lo, hi) => pure (lo, (1 : Int), Builtin.Slice.slicePlaces lo hi 1)) _ _ s
  rw [adjust_gen lo hi n]
  show wpAny _ _ (pure (((sIx n 0 lo : Nat) : Int), (1 : Int), Builtin.Slice.slicePlaces ((sIx n 0 lo : Nat) : Int) ((sIx n n hi : Nat) : Int) 1)) _ _ s
  rw [places_gen]
  exact wpAny_pure h
theorem pick_gen (xs : Array Value) (i k : Nat) : ((List.range k).filterMap fun (m : Nat) => xs[((i : Int) + (m : Int) * 1).toNat]?).toArray = ((xs.toList.drop i).take k).toArray := by
  have e : (fun (m : Nat) => xs[((i : Int) + (m : Int) * 1).toNat]?) = fun m => xs[i + m]? := by
    funext m
    have : ((i : Int) + (m : Int) * 1).toNat = i + m := by omega
    rw [this]
  rw [e]
  have := pick_run xs i k
  rw [List.filterMap_map] at this
  have e2 : ((fun x => xs[x]?) ∘ fun x => i + x) = fun m => xs[i + m]? := rfl
  rw [e2] at this
  rw [this]

theorem getItem_tuple_cut {t sl : Addr} {items : Array Value} {vl vu : Value} {lo hi : Option Int} {Q : Value → Shared → Prop} (ht : IsTup s.heap t items) (hs : s.heap.IsSliceOf sl vl vu .none) (pl : IsPart vl lo) (pu : IsPart vu hi)
    (hw : ¬ (sIx items.size 0 lo = 0 ∧ sIx items.size items.size hi = items.size))
    (h : Q (.ref s.heap.objs.size) { s with heap := s.heap.push { cls := .type "tuple", data := .seq ((items.toList.drop (sIx items.size 0 lo)).take (sIx items.size items.size hi - sIx items.size 0 lo)).toArray } })
    (hsz : items.size ≤ sizeLine) : wpAny (model prog w) A (getItem (.ref t) (.ref sl)) Q E s := by
  have htake : sizeOk (.seq ((items.toList.drop (sIx items.size 0 lo)).take (sIx items.size items.size hi - sIx items.size 0 lo)).toArray) := by
    show ((items.toList.drop (sIx items.size 0 lo)).take (sIx items.size items.size hi - sIx items.size 0 lo)).toArray.size ≤ sizeLine
    rw [List.size_toArray, List.length_take, List.length_drop, Array.length_toList]
    omega
  have hj : sIx items.size items.size hi ≤ items.size := sIx_le _ _ (Nat.le_refl _) hi
  obtain ⟨os, hos, hcs, hds⟩ := id hs
  have hTs : s.TypeIs (.ref sl) "slice" := ⟨os, hos, hcs⟩
  unfold getItem
  try with_reducible refine wpAny_holding ?_
  first | refine wpAny_bind (wpAny_pure ?_) | skip
  refine wpAny_bind (wpAny_sequenceKey ht.typeIs (by decide) ?_)
  refine wpAny_bind (wpAny_callSpecial?_slot (name := Str.ofString "__getitem__") ht.typeIs PyProof.Rows.slot_tuple_getitem
    (wpAny_call_entry PyProof.Rows.slot_tuple_getitem ht.typeIs entry_tuple_getitem ?_ (args_tuple_getitem _ _)))
  show wpAny _ _ (Builtin.Tuple.tupleItemsOf (.ref t) >>= _) _ _ s
  refine wpAny_bind (tupleItemsOf_ ht ?_)
  refine wpAny_bind (wpAny_typeOf hTs ?_)
  rw [if_pos (by decide)]
  refine wpAny_bind (sliceApplied_gen hs pl pu ?_)
  have hno : ¬ ((((sIx items.size 0 lo : Nat) : Int) == 0 && (1 : Int) == 1 && (sIx items.size items.size hi - sIx items.size 0 lo) == items.size) = true) := by
    intro q
    rw [Bool.and_eq_true, Bool.and_eq_true] at q
    have q1 : ((sIx items.size 0 lo : Nat) : Int) = 0 := eq_of_beq q.1.1
    have q2 : sIx items.size items.size hi - sIx items.size 0 lo = items.size := eq_of_beq q.2
    exact hw ⟨by omega, by omega⟩
  show wpAny _ _ (if (((sIx items.size 0 lo : Nat) : Int) == 0 && (1 : Int) == 1 && (sIx items.size items.size hi - sIx items.size 0 lo) == items.size) = true then _ else _) _ _ s
  rw [if_neg hno, pick_gen]
  first
    | exact wpAny_bind (m := Builtin.Tuple.tupleExact _) (wpAny_newObj_type (wpAny_pure ⟨_, rfl, wpAny_pure h⟩) htake)
    | exact wpAny_bind (m := Builtin.Tuple.tupleExact _) (wpAny_newObj_type (wpAny_bind (wpAny_pure (wpAny_pure ⟨_, rfl, wpAny_pure h⟩))) htake)
    | exact wpAny_bind (wpAny_bind (m := Builtin.Tuple.tupleExact _) (wpAny_newObj_type (wpAny_pure (wpAny_pure ⟨_, rfl, wpAny_pure h⟩)) htake))
    | exact wpAny_bind (wpAny_bind (m := Builtin.Tuple.tupleExact _) (wpAny_newObj_type (wpAny_pure ⟨_, rfl, wpAny_pure h⟩) htake))
end
end HT

namespace L2
open PySem PySem.Spec PyProof.Rows


abbrev TO := St → Hp → (Option Int → Hp → Prop) → Prop

def PO (X : Cx) (e : Option Expr) (t : TO) : Prop :=
  ∀ (pins : List (Addr × Obj)) (s : Shared) (σ : St) (H : Hp) (Q : Option Int → Hp → Prop), Inv X pins σ H s → t σ H Q →
    wpAny (model X.prog X.w) X.A (evalPart e X.env) (fun u s' => ∃ o H', Inv X pins σ H' s' ∧ IsPart u o ∧ Q o H') X.xe s
def tNoPart : TO := fun _ H Q => Q none H
def tPart (t : TE) : TO := fun σ H Q => t σ H fun x H1 => ∃ i, x = .int i ∧ Q (some i) H1

section
variable {X : Cx} {e : Expr} {te : TE} {lo hi : Option Expr} {tl th : TO} {pos p2 : Pos}

theorem po_none : PO X none tNoPart := by
  intro pins s σ H Q I h
  rw [evalPart_none]
  exact wpAny_pure ⟨none, H, I, .none, h⟩
theorem po_some (h : PE X e te) : PO X (some e) (tPart te) := by
  intro pins s σ H Q I hw
  rw [evalPart_some]
  refine thn (h pins s σ H _ I hw) fun u s1 ⟨x, H1, I1, r1, q1⟩ => ?_
  obtain ⟨i, rfl, q⟩ := q1
  obtain ⟨t, rfl⟩ := r1
  exact ⟨some i, H1, I1, .int i t, q⟩


def SlR (X : Cx) (r : V → Option Int → Option Int → Hp → VK → Prop) : Prop :=
  ∀ (pins : List (Addr × Obj)) (s : Shared) (σ : St) (H : Hp) (x : V) (v vl vu : Value) (lo hi : Option Int) (sl : Addr) (Q : VK), Inv X pins σ H s → RelV x v → s.heap.IsSliceOf sl vl vu .none → IsPart vl lo → IsPart vu hi → r x lo hi H Q →
    ∃ T id, typeLookup (.type T) "__getitem__" = pure (some (.builtin id)) ∧ s.TypeIs v T ∧ wpAny (model X.prog X.w) X.A (getItem v (.ref sl)) (EP X pins σ Q) X.xe s
theorem SlR.or {r r' : V → Option Int → Option Int → Hp → VK → Prop} (h : SlR X r) (h' : SlR X r') : SlR X (fun x lo hi H Q => r x lo hi H Q ∨ r' x lo hi H Q) := by
  intro pins s σ H x v vl vu lo hi sl Q I rx hs pl pu q
  rcases q with q | q
  · exact h pins s σ H x v vl vu lo hi sl Q I rx hs pl pu q
  · exact h' pins s σ H x v vl vu lo hi sl Q I rx hs pl pu q
def tSl (r : V → Option Int → Option Int → Hp → VK → Prop) (te : TE) (tl th : TO) : TE := fun σ H Q => te σ H fun x H1 => tl σ H1 fun l H2 => th σ H2 fun u H3 => r x l u H3 Q

theorem pe_slice {r : V → Option Int → Option Int → Hp → VK → Prop} (hr : SlR X r) (he : PE X e te) (hl : PO X lo tl) (hu : PO X hi th) : PE X (.Subscript e (.Slice lo hi none p2) pos) (tSl r te tl th) := by
  intro pins s σ H Q I h
  refine Subscript_ (thn (he pins s σ H _ I h) fun v s1 ⟨x, H1, I1, r1, q1⟩ => ?_)
  refine wpAny_Slice (thn (hl pins s1 σ H1 _ I1 q1) fun vl s2 ⟨l, H2, I2, pl, q2⟩ => thn (hu pins s2 σ H2 _ I2 q2) fun vu s3 ⟨u, H3, I3, pu, q3⟩ => ?_)
  rw [evalPart_none]
  refine wpAny_pure ?_
  have I4 : Inv X pins σ H3 { s3 with heap := s3.heap.push { cls := .type "slice", data := .fields #[vl, vu, .none] } } := I3.kept (t' := s3.toks) fun b ob q => Heap.get?_push_of_some _ q
  obtain ⟨T, id, hT, ht, hg⟩ := hr pins { s3 with heap := s3.heap.push { cls := .type "slice", data := .fields #[vl, vu, .none] } } σ H3 x v vl vu l u s3.heap.objs.size Q I4 r1 (Heap.IsSliceOf.new ..) pl pu q3
  show wpAny (model X.prog X.w) X.A (subscriptTail e (.Slice lo hi none p2) v (.ref s3.heap.objs.size)) (EP X pins σ Q) X.xe { s3 with heap := s3.heap.push { cls := .type "slice", data := .fields #[vl, vu, .none] } }
  exact tail_any (ops := [.ref s3.heap.objs.size, v]) ht hT hg (by with_unfolding_all rfl)


def cutV (xs : List V) (lo hi : Option Int) : List V := (xs.drop (HT.sIx xs.length 0 lo)).take (HT.sIx xs.length xs.length hi - HT.sIx xs.length 0 lo)
theorem cutV_length (xs : List V) (lo hi : Option Int) : (cutV xs lo hi).length ≤ xs.length := by
  unfold cutV
  rw [List.length_take, List.length_drop]
  omega

def rSlT (K : PySem.W.Frag) : V → Option Int → Option Int → Hp → VK → Prop := fun x lo hi H Q => ∃ a xs, x = .ref a ∧ SqT K H a xs ∧
  ¬ (HT.sIx xs.length 0 lo = 0 ∧ HT.sIx xs.length xs.length hi = xs.length) ∧ ∀ p, H p = none → Q (.ref p) (upd H p (.tup (cutV xs lo hi)))
theorem sl_tup : SlR X (rSlT X.K) := by
  intro pins s σ H x v vl vu lo hi sl Q I rx hs pl pu h
  obtain ⟨a, xs, rfl, hx, hw, q⟩ := h
  cases rx
  obtain ⟨its, r, ht, hz⟩ := I.tuple hx
  have hlen : its.toArray.size = xs.length := by rw [List.size_toArray]; exact r.length.symm
  refine ⟨"tuple", _, PyProof.Rows.slot_tuple_getitem.lookup, ht.typeIs, ?_⟩
  refine HT.getItem_tuple_cut ht hs pl pu (by rw [hlen]; exact hw) ?_ (by rw [hlen]; exact hz)
  rw [hlen]
  refine ⟨.ref s.heap.objs.size, _, I.laid (t' := s.toks) (o := .tup (cutV xs lo hi)) (fun b ob q => Heap.get?_push_of_some _ q) (Nat.le_refl _) ?_, rfl, q _ (I.hok.fresh (Nat.le_refl _))⟩
  exact ⟨Nat.le_trans (cutV_length xs lo hi) hz, _, (r.drop (HT.sIx xs.length 0 lo)).take (HT.sIx xs.length xs.length hi - HT.sIx xs.length 0 lo), IsTup.new _ _⟩


def rCatT (K : PySem.W.Frag) : R2 := fun x y H Q => ∃ a b xs ys, x = .ref a ∧ y = .ref b ∧ SqT K H a xs ∧ SqT K H b ys ∧ xs ≠ [] ∧ xs.length + ys.length ≤ sizeLine ∧
  (ys = [] → Q (.ref a) H) ∧ (ys ≠ [] → ∀ p, H p = none → Q (.ref p) (upd H p (.tup (xs ++ ys))))
theorem Vals.nil_iff {xs : List V} {us : List Value} (r : Vals xs us) : us = [] ↔ xs = [] := by
  cases r with
  | nil => simp
  | cons _ _ => simp
theorem op_catT : OpR X (binaryOp .Add) (rCatT X.K) := by
  intro pins s σ H x y v u Q I rx ry h
  obtain ⟨a, b, xs, ys, rfl, rfl, ha, hb, hx, hz, q1, q2⟩ := h
  cases rx
  cases ry
  obtain ⟨its, r1, p1, _⟩ := I.tuple ha
  obtain ⟨its2, r2, p2, _⟩ := I.tuple hb
  refine HT.cat_tup p1 p2 (fun z => hx (r1.nil_iff.mp z)) (fun z => ⟨.ref a, H, I, rfl, q1 (r2.nil_iff.mp z)⟩) (fun z => ?_) (by rw [← r1.length, ← r2.length]; exact hz)
  refine ⟨.ref s.heap.objs.size, _, I.laid (t' := s.toks) (o := .tup (xs ++ ys)) (fun b ob q => Heap.get?_push_of_some _ q) (Nat.le_refl _) ?_, rfl, q2 (fun w => z (r2.nil_iff.mpr w)) _ (I.hok.fresh (Nat.le_refl _))⟩
  exact ⟨by rw [List.length_append]; exact hz, _, r1.append r2, IsTup.new _ _⟩

end
end L2

namespace L2
open PySem PySem.Spec PyProof.Rows



def ixN (n : Nat) (i : Int) : Option Nat := if 0 ≤ i then (if i < n then some i.toNat else none) else if -(n : Int) ≤ i then some (i + n).toNat else none
def atI {α : Type} (xs : List α) (i : Int) : Option α := (ixN xs.length i).bind fun j => xs[j]?
theorem ixN_seq {n : Nat} {i : Int} {j : Nat} (h : ixN n i = some j) : seqIndex? i n = some j ∧ j < n ∧ -(n : Int) ≤ i ∧ i < n := by
  unfold ixN at h
  by_cases h0 : 0 ≤ i
  · rw [if_pos h0] at h
    by_cases h1 : i < n
    · rw [if_pos h1] at h
      have e : i.toNat = j := Option.some.inj h
      exact ⟨by rw [seqIndex_of h0 h1, e], by omega, by omega, h1⟩
    · rw [if_neg h1] at h; cases h
  · rw [if_neg h0] at h
    by_cases h1 : -(n : Int) ≤ i
    · rw [if_pos h1] at h
      have e : (i + n).toNat = j := Option.some.inj h
      exact ⟨by rw [seqIndex_neg (by omega) h1, e], by omega, h1, by omega⟩
    · rw [if_neg h1] at h; cases h
theorem atI_get {α : Type} {xs : List α} {i : Int} {v : α} (h : atI xs i = some v) : ∃ j, seqIndex? i xs.length = some j ∧ xs[j]? = some v ∧ j < xs.length ∧ -(xs.length : Int) ≤ i ∧ i < xs.length := by
  unfold atI at h
  cases e : ixN xs.length i with
  | none => rw [e] at h; cases h
  | some j =>
    rw [e] at h
    obtain ⟨h1, h2, h3, h4⟩ := ixN_seq e
    exact ⟨j, h1, h, h2, h3, h4⟩
theorem atI_nat {α : Type} {xs : List α} {j : Nat} {v : α} (h : xs[j]? = some v) : atI xs (j : Int) = some v := by
  have hj : j < xs.length := (List.getElem?_eq_some_iff.mp h).1
  have e : ixN xs.length (j : Int) = some j := by
    unfold ixN
    rw [if_pos (by omega), if_pos (by omega)]; simp
  unfold atI; rw [e]; exact h
def PlainIx (b : Expr) : Prop := ∀ o i, subscripted b false o i = operate [o, i] (getItem o i)

def IxR (X : Cx) (r : R2) : Prop :=
  ∀ (value slice : Expr) (pins : List (Addr × Obj)) (s : Shared) (σ : St) (H : Hp) (x y : V) (v u : Value) (Q : VK), Inv X pins σ H s → RelV x v → RelV y u → r x y H Q →
    subscripted slice false v u = operate [v, u] (getItem v u) → wpAny (model X.prog X.w) X.A (subscriptTail value slice v u) (EP X pins σ Q) X.xe s

def MtR (X : Cx) (id : String) (r : V → List V → Hp → VK → Prop) : Prop :=
  ∀ (pins : List (Addr × Obj)) (s : Shared) (σ : St) (H : Hp) (x : V) (xs : List V) (v : Value) (us : List Value) (Q : VK), Inv X pins σ H s → RelV x v → Vals xs us → r x xs H Q →
    wpAny (model X.prog X.w) X.A (call (.builtin id) (v :: us)) (EP X pins σ Q) X.xe s
section
variable {X : Cx} {a b : Expr} {ta tb : TE} {pos : Pos}
theorem IxR.or {r r' : R2} (h : IxR X r) (h' : IxR X r') : IxR X (fun x y H Q => r x y H Q ∨ r' x y H Q) := by
  intro value slice pins s σ H x y v u Q I rx ry q hs
  rcases q with q | q
  · exact h value slice pins s σ H x y v u Q I rx ry q hs
  · exact h' value slice pins s σ H x y v u Q I rx ry q hs
theorem pe_ix {r : R2} (hr : IxR X r) (ha : PE X a ta) (hb : PE X b tb) (hs : PlainIx b) : PE X (.Subscript a b pos) (tOp r ta tb) := by
  intro pins s σ H Q I h
  exact Subscript_ (binT ha hb I h fun v u s2 x y H2 I2 rx ry q => hr a b pins s2 σ H2 x y v u Q I2 rx ry q (hs _ _))

def rIxL (K : PySem.W.Frag) : R2 := fun x y H Q => ∃ p xs i v, x = .ref p ∧ y = .int i ∧ SqL K H p xs ∧ atI xs i = some v ∧ Q v H
def rIxT (K : PySem.W.Frag) : R2 := fun x y H Q => ∃ p xs i v, x = .ref p ∧ y = .int i ∧ SqT K H p xs ∧ atI xs i = some v ∧ Q v H
def rIxS : R2 := fun x y H Q => ∃ z i c, x = .str z ∧ y = .int i ∧ z.length ≤ sizeLine ∧ atI z.cps.toList i = some c ∧ Q (.str ⟨#[c]⟩) H
theorem ix_list : IxR X (rIxL X.K) := by
  intro value slice pins s σ H x y v u Q I rx ry h hs
  obtain ⟨p, xs, i, z, rfl, rfl, hq, he, q⟩ := h
  cases rx
  obtain ⟨t, rfl⟩ := ry
  obtain ⟨its, r, pl, hz⟩ := I.list hq
  obtain ⟨j, h1, h2, h3, h4, h5⟩ := atI_get he
  obtain ⟨w, ew, rw'⟩ := r.get h2
  have hl := r.length
  have hn := line63
  have fin : EP X pins σ Q w s := ⟨z, H, I, rw', q⟩
  by_cases h0 : 0 ≤ i
  · have hj : i.toNat = j := by
      rw [seqIndex_of h0 h5] at h1
      exact Option.some.inj h1
    exact item_listR pl.isList h0 (by omega) (by rw [hj]; simpa using ew) fin hs
  · have hj : (i + (its.toArray.size : Int)).toNat = j := by
      rw [seqIndex_neg (by omega) h4] at h1
      rw [List.size_toArray, ← hl]
      exact Option.some.inj h1
    exact subscriptTail_builtinR (x := w) pl.isList.typeIs slot_list_getitem.lookup
      (wpAny_getItem_list_neg (Q := fun r s' => r = w ∧ EP X pins σ Q r s') pl.isList (by omega) (by rw [List.size_toArray] <;> omega) (by omega) (by rw [hj]; simpa using ew) ⟨rfl, fin⟩) hs
theorem ix_tup : IxR X (rIxT X.K) := by
  intro value slice pins s σ H x y v u Q I rx ry h hs
  obtain ⟨p, xs, i, z, rfl, rfl, hq, he, q⟩ := h
  cases rx
  obtain ⟨t, rfl⟩ := ry
  obtain ⟨its, r, pl, hz⟩ := I.tuple hq
  obtain ⟨j, h1, h2, h3, h4, h5⟩ := atI_get he
  obtain ⟨w, ew, rw'⟩ := r.get h2
  have hl := r.length
  have hn := line63
  have fin : EP X pins σ Q w s := ⟨z, H, I, rw', q⟩
  exact subscriptTail_builtinR (x := w) pl.typeIs slot_tuple_getitem.lookup
    (getItem_tuple (j := j) (Q := fun r s' => r = w ∧ EP X pins σ Q r s') pl (by omega) (by omega) (by rw [List.size_toArray, ← hl]; exact h1) (by simpa using ew) ⟨rfl, fin⟩) hs
theorem ix_str : IxR X rIxS := by
  intro value slice pins s σ H x y v u Q I rx ry h hs
  obtain ⟨z, i, c, rfl, rfl, hz, he, q⟩ := h
  obtain ⟨t, rfl⟩ := rx
  obtain ⟨t', rfl⟩ := ry
  obtain ⟨j, h1, h2, h3, h4, h5⟩ := atI_get he
  have hl : z.cps.toList.length = z.length := by simp [Str.length]
  rw [hl] at h1 h4 h5
  have hn := line63
  exact tail_any (typeIs_str s z t) slot_str_getitem.lookup (getItem_str (c := c) (by
    have e1 : decide (i < -(2 ^ 63 : Int)) = false := decide_eq_false (by omega)
    have e2 : decide (i ≥ 2 ^ 63) = false := decide_eq_false (by omega)
    rw [e1, e2, Bool.or_false]) (by rw [h1]; simpa using h2) ⟨.str ⟨#[c]⟩, H, I.tok _, ⟨_, rfl⟩, q⟩) hs

def rIx (K : PySem.W.Frag) : R2 := fun x y H Q => rIxL K x y H Q ∨ rIxT K x y H Q ∨ rIxS x y H Q
theorem ix_seq : IxR X (rIx X.K) := ix_list.or (ix_tup.or ix_str)



theorem slice_bounds (lo hi : Option Int) (n : Nat) : (sliceBounds lo hi none n).1 = ((HT.sIx n 0 lo : Nat) : Int) ∧ (sliceBounds lo hi none n).2.1 = ((HT.sIx n n hi : Nat) : Int) ∧ (sliceBounds lo hi none n).2.2 = 1 := by
  refine ⟨?_, ?_, rfl⟩
  · cases lo with
    | none => simp [sliceBounds, HT.sIx]
    | some i =>
      simp only [sliceBounds, HT.sIx, Option.getD_none, show (1 : Int) > 0 by decide, if_true]
      by_cases h : i < 0
      · simp only [h, if_true] <;> omega
      · simp only [h, if_false] <;> omega
  · cases hi with
    | none => simp [sliceBounds, HT.sIx]
    | some i =>
      simp only [sliceBounds, HT.sIx, Option.getD_none, show (1 : Int) > 0 by decide, if_true]
      by_cases h : i < 0
      · simp only [h, if_true] <;> omega
      · simp only [h, if_false] <;> omega
theorem slicePick_cut (its : List Value) (lo hi : Option Int) : slicePick its.toArray lo hi none = ((its.drop (HT.sIx its.length 0 lo)).take (HT.sIx its.length its.length hi - HT.sIx its.length 0 lo)).toArray := by
  obtain ⟨h1, h2, h3⟩ := slice_bounds lo hi its.toArray.size
  unfold slicePick
  rw [h1, h2, h3]
  simp only [sliceRange_one, pick_run, List.size_toArray] <;> rfl

def rSlL (K : PySem.W.Frag) : V → Option Int → Option Int → Hp → VK → Prop := fun x lo hi H Q => ∃ a xs, x = .ref a ∧ SqL K H a xs ∧ ∀ p, H p = none → Q (.ref p) (upd H p (.lst (cutV xs lo hi)))
theorem sl_list : SlR X (rSlL X.K) := by
  intro pins s σ H x v vl vu lo hi sl Q I rx hs pl pu h
  obtain ⟨a, xs, rfl, hx, q⟩ := h
  cases rx
  obtain ⟨its, r, ht, hz⟩ := I.list hx
  have hlen := r.length
  refine ⟨"list", _, slot_list_getitem.lookup, ht.isList.typeIs, ?_⟩
  refine wpAny_getItem_list_slice ht.isList hs pl pu .none (by simp) ?_ (by rw [List.size_toArray] <;> omega)
  rw [slicePick_cut, ← hlen]
  refine ⟨.ref s.heap.objs.size, _, I.laid (t' := s.toks) (o := .lst (cutV xs lo hi)) (fun b ob q => Heap.get?_push_of_some _ q) (Nat.le_refl _) ?_, rfl, q _ (I.hok.fresh (Nat.le_refl _))⟩
  exact ⟨Nat.le_trans (cutV_length xs lo hi) hz, _, 0, (r.drop (HT.sIx xs.length 0 lo)).take (HT.sIx xs.length xs.length hi - HT.sIx xs.length 0 lo), Heap.get?_push_size _ rfl⟩


def flatV : V → Bool
  | .non => true
  | .bl _ => true
  | .int _ => true
  | .str _ => true
  | _ => false

def eqV : V → V → Bool
  | .non, .non => true
  | .bl a, .bl b => a == b
  | .bl a, .int b => (if a then 1 else 0) == b
  | .int a, .bl b => a == (if b then 1 else 0)
  | .int a, .int b => a == b
  | .str a, .str b => a == b
  | _, _ => false
theorem eqAt_V {A : Around} {s : Shared} {y x : V} {u v : Value} (ry : RelV y u) (rx : RelV x v) (fy : flatV y = true) (fx : flatV x = true) : SeqAt.EqAt A s u v (eqV y x) := by
  cases y with
  | non =>
    cases ry
    cases x with
    | non => cases rx; exact SeqAt.EqAt.same _
    | bl b => cases rx; exact SeqAt.EqAt.none_bool b
    | int b => obtain ⟨t, rfl⟩ := rx; exact SeqAt.EqAt.none_int b t
    | str b => obtain ⟨t, rfl⟩ := rx; exact SeqAt.EqAt.none_str b t
    | _ => exact absurd (show false = true from fx) Bool.false_ne_true
  | bl a =>
    cases ry
    cases x with
    | non => cases rx; exact SeqAt.EqAt.bool_none a
    | bl b => cases rx; exact SeqAt.EqAt.bool_bool a b
    | int b => obtain ⟨t, rfl⟩ := rx; exact SeqAt.EqAt.bool_int a b t
    | str b => obtain ⟨t, rfl⟩ := rx; exact SeqAt.EqAt.bool_str a b t
    | _ => exact absurd (show false = true from fx) Bool.false_ne_true
  | int a =>
    obtain ⟨t', rfl⟩ := ry
    cases x with
    | non => cases rx; exact SeqAt.EqAt.int_none a t'
    | bl b => cases rx; exact SeqAt.EqAt.int_bool a t' b
    | int b => obtain ⟨t, rfl⟩ := rx; exact SeqAt.EqAt.int_int a t' b t
    | str b => obtain ⟨t, rfl⟩ := rx; exact SeqAt.EqAt.int_str a t' b t
    | _ => exact absurd (show false = true from fx) Bool.false_ne_true
  | str a =>
    obtain ⟨t', rfl⟩ := ry
    cases x with
    | non => cases rx; exact SeqAt.EqAt.str_none a t'
    | bl b => cases rx; exact SeqAt.EqAt.str_bool a t' b
    | int b => obtain ⟨t, rfl⟩ := rx; exact SeqAt.EqAt.str_int a t' b t
    | str b => obtain ⟨t, rfl⟩ := rx; exact SeqAt.EqAt.str_str a t' b t
    | _ => exact absurd (show false = true from fx) Bool.false_ne_true
  | _ => exact absurd (show false = true from fy) Bool.false_ne_true

def eqU (x : V) (u : Value) : Bool := match u with
  | .none => eqV .non x
  | .bool b => eqV (.bl b) x
  | .int i _ => eqV (.int i) x
  | .str z _ => eqV (.str z) x
  | _ => false
theorem eqU_of {x y : V} {u : Value} (r : RelV y u) (f : flatV y = true) : eqU x u = eqV y x := by
  cases y with
  | non => cases r; rfl
  | bl b => cases r; rfl
  | int i => obtain ⟨t, rfl⟩ := r; rfl
  | str z => obtain ⟨t, rfl⟩ := r; rfl
  | _ => exact absurd (show false = true from f) Bool.false_ne_true
theorem any_eqU {x : V} : ∀ {xs : List V} {us : List Value}, Vals xs us → xs.all flatV = true → us.any (eqU x) = xs.any fun y => eqV y x
  | _, _, .nil, _ => rfl
  | y :: xs, u :: us, .cons r t, f => by
    rw [List.all_cons, Bool.and_eq_true] at f
    rw [List.any_cons, List.any_cons, eqU_of r f.1, any_eqU t f.2]
theorem mem_eqAt {A : Around} {s : Shared} {x : V} {v : Value} (rx : RelV x v) (fx : flatV x = true) : ∀ {xs : List V} {us : List Value}, Vals xs us → xs.all flatV = true → ∀ u ∈ us, SeqAt.EqAt A s u v (eqU x u)
  | _, _, .nil, _ => fun u hu => by cases hu
  | y :: xs, u :: us, .cons r t, f => fun u' hu => by
    rw [List.all_cons, Bool.and_eq_true] at f
    rcases List.mem_cons.mp hu with rfl | hu
    · rw [eqU_of r f.1]; exact eqAt_V r rx f.1 fx
    · exact mem_eqAt rx fx t f.2 u' hu
def inV (x : V) (xs : List V) : Bool := xs.any fun y => eqV y x

def rIn (K : PySem.W.Frag) (neg : Bool) : R2 := fun x y H Q => ∃ p xs, y = .ref p ∧ (SqL K H p xs ∨ SqT K H p xs) ∧ flatV x = true ∧ xs.all flatV = true ∧ Q (.bl (if neg then !inV x xs else inV x xs)) H
theorem op_in_seq : OpR X (compareOp .In) (rIn X.K false) := by
  intro pins s σ H x y v u Q I rx ry h
  obtain ⟨p, xs, rfl, hq, fx, fs, q⟩ := h
  cases ry
  rcases hq with hq | hq
  · obtain ⟨its, r, pl, hz⟩ := I.list hq
    refine SeqAt.in_listAt (eqU x) pl.isList (fun w hw => mem_eqAt rx fx r fs w (by simpa using hw)) ⟨.bl _, H, I, rfl, ?_⟩
    rw [show its.toArray.any (eqU x) = its.any (eqU x) by simp, any_eqU r fs]
    exact q
  · obtain ⟨its, r, pl, hz⟩ := I.tuple hq
    refine SeqAt.in_tupleAt (eqU x) pl (fun w hw => mem_eqAt rx fx r fs w (by simpa using hw)) ⟨.bl _, H, I, rfl, ?_⟩
    rw [show its.toArray.any (eqU x) = its.any (eqU x) by simp, any_eqU r fs]
    exact q
theorem call_list_of : CallR X (.type "list") (fun xs H Q => ∃ p ys, xs = [.ref p] ∧ (SqL X.K H p ys ∨ SqT X.K H p ys) ∧ ∀ l, H l = none → Q (.ref l) (upd H l (.lst ys))) := by
  intro pins s σ H xs us Q I r h
  obtain ⟨p, ys, rfl, hq, q⟩ := h
  obtain ⟨u, rfl, rx⟩ := vals1 r
  cases rx
  have fin : ∀ (its : List Value), Vals ys its → ys.length ≤ sizeLine → ∀ (h' : Heap) (c' : Nat), (∀ b o', s.heap.get? b = some o' → h'.get? b = some o') →
      h'.get? s.heap.objs.size = some { cls := .type "list", dict := none, data := .seq its.toArray c', slots := #[] } → EP X pins σ Q (.ref s.heap.objs.size) { s with heap := h' } := fun its r' hz h' c' kp e =>
    ⟨.ref s.heap.objs.size, _, I.laid (t' := s.toks) kp (Nat.le_refl _) (show ObjOk X.prog X.w _ h' _ (.lst ys) from ⟨hz, its, c', r', e⟩), rfl, q _ (I.hok.fresh (Nat.le_refl _))⟩
  rcases hq with hq | hq
  · obtain ⟨its, r', pl, hz⟩ := I.list hq
    have hlen := r'.length
    obtain ⟨o, ho, hc, n, hd⟩ := pl.isList
    exact call_list_seq p (.inl rfl) ho hc hd (fun h' c' kp e => fin its r' hz h' c' kp e) (by simp only [List.size_toArray] <;> omega)
  · obtain ⟨its, r', pl, hz⟩ := I.tuple hq
    have hlen := r'.length
    obtain ⟨o, ho, hc, n, hd⟩ := pl
    exact call_list_seq p (.inr rfl) ho hc hd (fun h' c' kp e => fin its r' hz h' c' kp e) (by simp only [List.size_toArray] <;> omega)
def tyV (K : PySem.W.Frag) (T : String) (x : V) (H : Hp) : Prop := match x with
  | .str _ => T = "str"
  | .int _ => T = "int"
  | .ref p => (T = "list" ∧ ∃ xs, SqL K H p xs) ∨ (T = "tuple" ∧ ∃ o, K.lookup p = some o ∧ o.cls = .type "tuple" ∧ o.dict = none) ∨
      (T = "dict" ∧ ((∃ kvs, H p = some (.dK kvs)) ∨ ∃ kvs, H p = some (.dT kvs))) ∨ (T = "set" ∧ ∃ S n, H p = some (.set S n))
  | _ => False
theorem tyV_is {pins : List (Addr × Obj)} {σ : St} {H : Hp} {s : Shared} {T : String} {x : V} {v : Value} (I : Inv X pins σ H s) (r : RelV x v) (ty : tyV X.K T x H) :
    s.TypeIs v T ∧ ∀ a, v = .ref a → ∃ ob, s.heap.get? a = some ob ∧ ob.dict = none := by
  cases x with
  | str z =>
    obtain ⟨t, rfl⟩ := r
    cases (show T = "str" from ty)
    exact ⟨typeIs_str s z t, fun _ e => nomatch e⟩
  | int i =>
    obtain ⟨t, rfl⟩ := r
    cases (show T = "int" from ty)
    exact ⟨typeIs_int s i t, fun _ e => nomatch e⟩
  | ref p =>
    cases r
    rcases ty with ⟨rfl, xs, hq⟩ | ⟨rfl, o, hk, hc, hd⟩ | ⟨rfl, hk⟩ | ⟨rfl, S, n, hk⟩
    · obtain ⟨its, _, pl, _⟩ := I.list hq
      refine ⟨pl.isList.typeIs, fun a e => ?_⟩
      cases e
      obtain ⟨o, n, e, c, hd, _⟩ := pl
      exact ⟨o, e, hd⟩
    · refine ⟨⟨o, I.kIn p o hk, hc⟩, fun a e => ?_⟩
      cases e
      exact ⟨o, I.kIn _ o hk, hd⟩
    · have z : ∃ o, s.heap.get? p = some o ∧ o.ExactDict := by
        rcases hk with ⟨kvs, hk⟩ | ⟨kvs, hk⟩
        · obtain ⟨_, _, _, _, o, _, _, e, ex, _⟩ := I.hok p _ hk
          exact ⟨o, e, ex⟩
        · obtain ⟨_, _, _, _, o, _, _, e, ex, _⟩ := I.hok p _ hk
          exact ⟨o, e, ex⟩
      obtain ⟨o, e, ex⟩ := z
      refine ⟨⟨o, e, ex.1⟩, fun a e2 => ?_⟩
      cases e2
      exact ⟨o, e, ex.2.1⟩
    · obtain ⟨o, _, _, _, e, ex, _⟩ := I.hok p _ hk
      refine ⟨⟨o, e, ex.1⟩, fun a e2 => ?_⟩
      cases e2
      exact ⟨o, e, ex.2.1⟩
  | _ => exact False.elim ty
def tBM0 (K : PySem.W.Frag) (T : String) (r : V → List V → Hp → VK → Prop) (to : TE) : TE := fun σ H Q => to σ H fun x H1 => tyV K T x H1 ∧ r x [] H1 Q
def tBM (K : PySem.W.Frag) (T : String) (r : V → List V → Hp → VK → Prop) (to : TE) (t : TA) : TE := fun σ H Q => to σ H fun x H1 => tyV K T x H1 ∧ t σ H1 fun xs H2 => r x xs H2 Q
variable {o e : Expr} {es : List Expr} {to : TE} {t : TA} {name : Str} {apos cpos : Pos} {T id : String} {r : V → List V → Hp → VK → Prop}
theorem pe_bm0 (pa : PlainAttrs T) (slot : Slot T name id) (hty : typeOf (.builtin id) = pure (.type "method_descriptor")) (hm : MtR X id r) (ho : PE X o to)
    (hbase : attributeBase o name X.env (eval o X.env) = eval o X.env := by rfl) (hline : (apos.endLine == cpos.line) = true := by rfl) : PE X (.Call (.Attribute o name apos) [] [] cpos) (tBM0 X.K T r to) := by
  intro pins s σ H Q I h
  refine wpAny_Call_method0_late hbase hline (thn (ho pins s σ H _ I h) fun v s1 ⟨x, H1, I1, r1, ty, q1⟩ => ?_)
  obtain ⟨h1, h2⟩ := tyV_is I1 r1 ty
  exact ⟨T, id, pa, slot, hty, h1, h2, Calls.callWith_builtin rfl (PySem.evalArgs_none (hm pins s1 σ H1 x [] v [] Q I1 r1 .nil q1))⟩
theorem pe_bm (pa : PlainAttrs T) (slot : Slot T name id) (hty : typeOf (.builtin id) = pure (.type "method_descriptor")) (hm : MtR X id r) (ho : PE X o to) (ha : PA X (e :: es) t)
    (hbase : attributeBase o name X.env (eval o X.env) = eval o X.env := by rfl)
    (hfew : ((backTo cpos (starEach (e :: es) X.env)).all (fun x => !x.1) && (backToKw cpos (keywordEach [] X.env)).all (fun x => x.1.isSome)
      && decide ((e :: es).length + ([] : List Keyword).length + (if ([] : List Keyword).isEmpty then 0 else 1) < 30)) = true := by rfl)
    (hline : (apos.endLine == cpos.line) = true := by rfl) (hs : starEach (e :: es) X.env = (false, eval e X.env) :: starEach es X.env := by rfl) (hplain : (backTo cpos (starEach es X.env)).any (·.1) = false := by rfl) :
    PE X (.Call (.Attribute o name apos) (e :: es) [] cpos) (tBM X.K T r to t) := by
  intro pins s σ H Q I h
  refine wpAny_Call_method_late hbase hfew hline rfl (thn (ho pins s σ H _ I h) fun v s1 ⟨x, H1, I1, r1, ty, q1⟩ => ?_)
  obtain ⟨h1, h2⟩ := tyV_is I1 r1 ty
  refine ⟨T, id, pa, slot, hty, h1, h2, ?_⟩
  have hA := ha cpos pins s1 σ H1 _ I1 q1
  rw [hs] at hA ⊢
  refine Calls.callWith_builtin (by show (false || (backTo cpos (starEach es X.env)).any (·.1)) = false; rw [hplain] <;> rfl) (Calls.evalArgs_plain ?_)
  exact thn hA fun us s2 ⟨vs, H2, I2, r2, q2⟩ => hm pins s2 σ H2 x vs v us Q I2 r1 r2 q2

end
end L2

namespace L2
open PySem PySem.Spec PyProof.Rows

def MtM (X : Cx) (id : String) (r : V → List V → Hp → VK → Prop) : Prop :=
  ∀ (pins : List (Addr × Obj)) (s : Shared) (σ : St) (H : Hp) (x : V) (xs : List V) (v : Value) (us : List Value) (Q : VK), Inv X pins σ H s → RelV x v → Vals xs us → r x xs H Q →
    wpAny (model X.prog X.w) X.A (call (.builtin id) (v :: us)) (EP X pins σ Q) X.xe s


theorem Vals.one : ∀ {x : V} {us : List Value}, Vals [x] us → ∃ u, us = [u] ∧ RelV x u
  | _, _, .cons r .nil => ⟨_, rfl, r⟩
section
variable {X : Cx} {pins : List (Addr × Obj)} {σ : St} {H : Hp} {s : Shared} {l b : Addr} {xs ys zs : List V}


theorem Inv.lset {its its' : List Value} {n : Nat} {f : Array Value → Array Value} {t' : Nat} (I : Inv X pins σ H s) (hH : H l = some (.lst xs))
    (e : s.heap.get? l = some { cls := .type "list", data := .seq its.toArray n }) (hf : f its.toArray = its'.toArray) (hv : Vals ys its') (hz : ys.length ≤ sizeLine) :
    Inv X pins σ (upd H l (.lst ys)) { s with heap := s.heap.update l (Obj.mapSeq f), toks := t' } := by
  have q := PySem.IsL.update e f
  rw [hf] at q
  refine I.write (x := l) (e := l) (by rw [hH]; exact trivial) (.inl rfl) (fun b' u hb hu => (Heap.get?_update_other s.heap (Obj.mapSeq f) (Ne.symm hb)).trans hu) ⟨_, q⟩ ?_
  exact ⟨hz, its', _, hv, q⟩
theorem Inv.lnew {its : List Value} {t' : Nat} (I : Inv X pins σ H s) (hv : Vals ys its) (hz : ys.length ≤ sizeLine) :
    Inv X pins σ (upd H s.heap.objs.size (.lst ys)) { s with heap := s.heap.push { cls := .type "list", data := .seq its.toArray }, toks := t' } :=
  I.laid (fun _ _ q => Heap.get?_push_of_some _ q) (Nat.le_refl _) ⟨hz, its, 0, hv, Heap.get?_push_size _ rfl⟩
theorem Inv.fresh (I : Inv X pins σ H s) : H s.heap.objs.size = none := I.hok.fresh (Nat.le_refl _)
theorem Inv.lstM (I : Inv X pins σ H s) (hH : H l = some (.lst xs)) : xs.length ≤ sizeLine ∧ ∃ (its : List Value) (n : Nat), Vals xs its ∧ xs.length = its.length ∧ s.heap.get? l = some { cls := .type "list", data := .seq its.toArray n } := by
  obtain ⟨z, its, n, r, e⟩ := I.hok l _ hH
  exact ⟨z, its, n, r, r.length, e⟩

end

section
variable {X : Cx}


def rAppend : V → List V → Hp → VK → Prop := fun x vs H Q => ∃ l xs y, x = .ref l ∧ vs = [y] ∧ H l = some (.lst xs) ∧ xs.length < sizeLine ∧ Q .non (upd H l (.lst (xs ++ [y])))
theorem mt_append : MtM X "list.append" rAppend := by
  intro pins s σ H x vs v us Q I rx rv h
  obtain ⟨l, xs, y, rfl, rfl, hH, hz, q⟩ := h
  cases rx
  obtain ⟨u, rfl, ru⟩ := rv.one
  obtain ⟨z, its, n, r, hl, e⟩ := I.lstM hH
  refine call_meets F.slot_list_append ⟨_, e, rfl⟩ F.entry_list_append (F.args_list_append_2 _ _) (PySem.list_append l its.toArray n u (by rw [List.size_toArray]; omega)) ⟨e, ?_⟩
  refine ⟨.non, _, I.lset (its' := its ++ [u]) hH e (by simp) (r.append (.cons ru .nil)) ?_, rfl, q⟩
  rw [List.length_append, List.length_singleton]
  omega

def rCat : R2 := fun x y H Q => ∃ l b xs zs, x = .ref l ∧ y = .ref b ∧ H l = some (.lst xs) ∧ H b = some (.lst zs) ∧ xs.length + zs.length ≤ sizeLine ∧ ∀ p, H p = none → Q (.ref p) (upd H p (.lst (xs ++ zs)))
theorem op_cat : OpR X (binaryOp .Add) rCat := by
  intro pins s σ H x y v u Q I rx ry h
  obtain ⟨l, b, xs, zs, rfl, rfl, hH, hB, hz, q⟩ := h
  cases rx
  cases ry
  obtain ⟨z, its, n, r, hl, e⟩ := I.lstM hH
  obtain ⟨z2, its2, n2, r2, hl2, e2⟩ := I.lstM hB
  refine PySem.P.add_list e e2 ?_ (by rw [List.size_toArray, List.size_toArray]; omega)
  have ea : its.toArray ++ its2.toArray = (its ++ its2).toArray := by simp
  rw [ea]
  exact ⟨.ref _, _, I.lnew (t' := s.toks) (r.append r2) (by rw [List.length_append]; omega), rfl, q _ I.fresh⟩

end


section
variable {prog : Program} {w : World} {A : Around} {E : Value → Shared → Prop} {s : Shared}
end

section
variable {X : Cx}

end
end L2

namespace L2
open PySem PySem.Spec PyProof.Rows


section
variable {κ : Type} [DecidableEq κ]
theorem KV.length {kvs : List (κ × V)} {vs : List (κ × Value)} (r : KV kvs vs) : kvs.length = vs.length := Paired.length r
end



section
variable {P : Program} {w : World} {H : Hp} {h : Heap} {a : Addr}
theorem rd_of {u : HO} (ok : HOk P w H h) (e : Rd H a u) : ObjOk P w H h a u := e.ok ok
theorem dk_rd {kvs : List (Key × V)} (ok : HOk P w H h) (e : Rd H a (.dK kvs)) : kvs.length ≤ sizeLine ∧ (a == sysModules) = false ∧ ∃ vs, KV kvs vs ∧ h.DictOf (mixKind P w) a vs :=
  show ObjOk P w H h a (.dK kvs) from rd_of ok e
end


section
variable {X : Cx} {pins : List (Addr × Obj)} {σ : St} {H : Hp} {s : Shared} {a : Addr} {y v : V} {u r : Value} {o : Option V} {A : Around} {E : Value → Shared → Prop}

theorem Inv.big (I : Inv X pins σ H s) : sysModules < s.heap.objs.size := by
  have h : mainGlobals < s.heap.objs.size := (I.mod.glob.keeps I.bk).lt
  exact Nat.lt_trans (by decide) h


theorem dk_new {P : Program} {w : World} {H' : Hp} {h' : Heap} {kvs : List (Key × V)} {vs : List (Key × Value)} (z : kvs.length ≤ sizeLine) (hd : (a == sysModules) = false) (rel : KV kvs vs) (dd : h'.DictOf (mixKind P w) a vs) :
    ObjOk P w H' h' a (.dK kvs) := ⟨z, hd, vs, rel, dd⟩

end

section
variable {X : Cx} {pins : List (Addr × Obj)} {σ : St} {H : Hp} {s : Shared} {a : Addr} {kvs : List (Key × V)} {k : Key} {u : Value} {A : Around} {E : Value → Shared → Prop}

end




section
variable {X : Cx} {o i e value : Expr} {pos pos' tpos : Pos} {td ty tv : TE}
end



theorem dk_empty {P : Program} {w : World} {H : Hp} (h : Heap) (hb : sysModules < h.objs.size) : ObjOk P w H (h.push { cls := .type "dict", data := .dict #[] }) h.objs.size (.dK []) :=
  ⟨Nat.zero_le _, beq_eq_false_iff_ne.mpr (Ne.symm (Nat.ne_of_lt hb)), [], .nil, Heap.DictOf.new h⟩
def tDNewK : TE := fun _ H Q => ∀ p, H p = none → Q (.ref p) (upd H p (.dK []))
section
variable {X : Cx} {pos : Pos}
theorem pe_dnewK : PE X (.Dict [] [] pos) tDNewK := fun pins s σ H Q I h =>
  wpAny_Dict_empty ⟨.ref s.heap.objs.size, _, I.laid (a := s.heap.objs.size) (o := .dK []) (t' := s.toks) (fun _ _ q => Heap.get?_push_of_some _ q) (Nat.le_refl _) (dk_empty s.heap I.big), rfl, h _ (I.hok.fresh (Nat.le_refl _))⟩
end


section
variable {X : Cx} {pins : List (Addr × Obj)} {σ : St} {H : Hp} {s : Shared} {a : Addr} {y d : V} {u r : Value} {o : Option V} {A : Around} {E : Value → Shared → Prop}

end

section
variable {X : Cx} {o e f : Expr} {apos cpos : Pos} {td ty tx : TE}
end


section
variable {X : Cx} {pins : List (Addr × Obj)} {σ : St} {H : Hp} {s : Shared} {a : Addr} {kvs : List (Key × V)} {A : Around} {E : Value → Shared → Prop}
theorem d_copyOf {Q : Value → Shared → Prop} (I : Inv X pins σ H s) (e : Rd H a (.dK kvs)) (h : ∀ p s', H p = none → Inv X pins σ (upd H p (.dK kvs)) s' → Q (.ref p) s') : wpAny (model X.prog X.w) A (call (.type "dict") [.ref a]) Q E s := by
  obtain ⟨z, hd, vs, rel, dd⟩ := dk_rd I.hok e
  refine kt_call_dict hd dd (by rw [← rel.length]; exact z) fun h' dd' hs => ?_
  refine h _ _ (I.hok.fresh (Nat.le_refl _)) (I.laid (a := s.heap.objs.size) (o := .dK kvs) (t' := s.toks) (fun b q hq => ?_) (Nat.le_refl _) (dk_new z (beq_eq_false_iff_ne.mpr (Ne.symm (Nat.ne_of_lt I.big))) rel dd'))
  exact (hs.2 b (Nat.ne_of_lt (Heap.lt_size hq))).trans (Heap.get?_push_of_some _ hq)
end


section
variable {X : Cx} {pins : List (Addr × Obj)} {σ : St} {H : Hp} {s : Shared} {a : Addr} {y : V} {u : Value} {A : Around} {E : Value → Shared → Prop}

end
end L2

namespace Att
open PySem PySem.W PySem.Calls PyProof.Rows


theorem ints_of_wellAll {P : Params} {h : Heap} : ∀ (ns : List Int) (vs : List Value), WellAll P h vs (ns.map WData.int) → IntsAre vs ns := by
  intro ns
  induction ns with
  | nil =>
    intro vs w
    rw [List.map_nil] at w
    cases w
    exact .nil
  | cons n ns ih =>
    intro vs w
    rw [List.map_cons] at w
    cases w with
    | cons a b =>
      cases a
      exact .cons _ _ (ih _ b)

theorem script_of {l : OpenLaw} {n : Nat} (hn : l.most = some n) {P : Params} {h : Heap} {args : List WData} {vals : List Value}
    (hpre : l.row.toRowW.claim.pre args = true) (hwl : WellAll P h vals args) :
    ∃ a vs ns, vals = [Value.ref a] ∧ args = [WData.list (ns.map WData.int)] ∧ h.get? a = some { cls := .type "list", data := .seq vs.toArray } ∧ IntsAre vs ns ∧ ns.length ≤ n := by
  have hsh : WShape.hasAll [] args [.list .int] = true := (pre_splitW hpre).1
  have hc : l.pre.holds [] { args := args } = true := (pre_splitW hpre).2
  obtain ⟨d, r, rfl, h1, h2⟩ := hasAllW_cons hsh
  obtain rfl := hasAllW_nil h2
  obtain ⟨xs, rfl, h3⟩ := hasW_list h1
  obtain ⟨ns, rfl⟩ := items_int h3
  have hlen : ns.length ≤ n := by
    unfold OpenLaw.pre at hc
    have h4 : (WTm.not (.lt (.lit (.int (n : Int))) (.len (.arg 0)))).holds [] { args := [.list (ns.map .int)] } = true := by
      have h4 := (holds_andW hc).1
      rw [hn] at h4
      exact h4
    have h5 := condW_of h4 (w_not (w_lt w_lit (w_len_list (w_arg rfl))))
    rw [List.length_map] at h5
    refine Nat.le_of_not_lt fun q => ?_
    have q' : (n : Int) < ((ns.length : Nat) : Int) := by omega
    first
      | (rw [decide_eq_true q'] at h5; exact absurd h5 (by decide))
      | (simp at h5; omega)
  cases hwl with
  | cons w1 w2 =>
    cases w2
    cases w1 with
    | list ho hall => exact ⟨_, _, ns, rfl, rfl, ho, ints_of_wellAll ns _ hall, hlen⟩

theorem post_true (l : OpenLaw) (args : List WData) : l.row.toRowW.claim.post args (.bool true) args = true :=
  postW_of (r := l.row.toRowW) (X := (true == true))
    (show WShape.has [] (.bool true) .bool = true by first | rfl | decide | simp [WShape.has, WShape.arms, WShape.armsAll])
    (show (WTm.eq .res (.lit (.bool true))).value [] { args := args, res := some (.bool true), after := args } = some (.bool (true == true)) from w_eq_bool (w_res rfl) w_lit) rfl


theorem attach_call {l : OpenLaw} {n : Nat} {q : Program} {loose : List Str} {XP : (Str → Option Value) → Heap → Prop} {YP : World → Heap → Prop} {d : DefRec}
    (hn : l.most = some n) (hdf : d.params.defaults = [])
    (call : ∀ (w : World) (s₀ s₁ : Shared) (mg mb : Str → Option Value) (fa : Addr) (o : Obj) (pm cd doc : Value) (a : Addr) (vs : List Value) (ns : List Int),
      Ground q loose [] XP w s₀ mg mb s₁.heap → YP w s₁.heap →
      s₁.heap.get? fa = some o → o.data = .func (docDef d.name d.params d.body d.scope pm cd doc) → s₁.heap.CodeRec cd d.name → mg d.name = some (.ref fa) →
      s₁.heap.get? a = some { cls := .type "list", data := .seq vs.toArray } → IntsAre vs ns → ns.length ≤ n → s₁.gens = #[] →
      codeAny (model l.prog w) callerA (.call (.ref fa) ⟨[.ref a], []⟩) (fun r s' => r = .ok (.ret (.bool true)) ∧ OldK s₁.heap s'.heap ∧ s'.os = s₁.os ∧ AllBare s'.gens) s₁) :
    WalkO q loose XP YP l.row.toRowW d [] (fun f vs => PySem.call f vs) := by
  intro w s₀ s₁ mg mb G Y fa o pm cd doc dV kV ho hd hcd hD hmg hg args vals as hpre hlay hrd hwl hlo
  obtain rfl : dV = .none := Dflts.none hD hdf
  obtain rfl : kV = .none := Dflts.noKw hD
  obtain ⟨a, vs, ns, rfl, rfl, hobj, hints, hlen⟩ := script_of hn hpre hwl
  refine enter_call (codeAny_mono (call w s₀ s₁ mg mb fa o pm cd doc a vs ns G Y ho (fd_plain hd) hcd hmg hobj hints hlen hg) fun r s' hq => ?_)
  obtain ⟨rfl, h2, h3, h4⟩ := hq
  exact ⟨.inl ⟨.bool true, .bool true, [], rfl, fun _ => rfl, .bool true, post_true l _, fun _ => ⟨List.Pairwise.nil, fun _ hm => (nomatch hm)⟩⟩, h2, h3, h4⟩


section
variable {prog : Program} {w : World} {A : Around} {E : Value → Shared → Prop} {s : Shared} {K : Frag}


end
end Att

namespace L2
open PySem PySem.Spec PyProof.Rows

theorem vals_ints : ∀ {vs : List Value} {ns : List Int}, IntsAre vs ns → Vals (ns.map V.int) vs
  | _, _, .nil => .nil
  | _, _, .cons n t h => .cons ⟨t, rfl⟩ (vals_ints h)


def Only (H : Hp) : Prop := ∀ b, H b = none ∨ ∃ o xs, H b = some (.frz o (.lst xs))


theorem law_call {P : Program} {w : World} {K : PySem.W.Frag} {mg mb : Str → Option Value} {CX : CXT} {k : Nat} {fa a : Addr} {fd : FuncData} {x : Str} {sp : Sp} {s₁ : Shared} {vs : List Value} {ns : List Int}
    (KX : K.In s₁.heap) (hns : s₁.heap.Ns mainGlobals mg) (hb : s₁.heap.Ns builtinsNs mb) (hbb : ∀ x : Str, x ≠ "__name__" → mb x = bootBuiltins x) (hlim : s₁.heap.NoLimit) (hg : s₁.gens = #[])
    (ha : s₁.heap.get? a = some { cls := .type "list", data := .seq vs.toArray }) (hi : IntsAre vs ns) (hl : ns.length ≤ sizeLine) (hr : Room k callerA)
    (F : ∀ base : Heap, K.In base → base.Ns mainGlobals mg → FnOk P w K mg base CX k fa fd [x] sp) (hbind : ∀ (s : Shared) (u : Value), BindsTo s fd ⟨[u], []⟩ [(x, u)])
    (hsp : ∀ H : Hp, Only H → SqL K H a (ns.map V.int) → sp [.ref a] H (fun v _ => v = .bl true) fun _ _ _ => False)
    (hCX : ∀ H e s', CX [] H s₁ (fun _ _ _ => False) e s' → False) :
    codeAny (model P w) callerA (.call (.ref fa) ⟨[.ref a], []⟩) (fun r s' => r = .ok (.ret (.bool true)) ∧ OldK s₁.heap s'.heap ∧ s'.os = s₁.os ∧ AllBare s'.gens) s₁ := by
  have rv := vals_ints hi
  have lenV := hi.length
  -- from an abstract heap in which nothing but the script may be tracked
  have core : ∀ H : Hp, Only H → SqL K H a (ns.map V.int) → HOk P w H s₁.heap → (∀ b, H b ≠ none → b = a) → (H a ≠ none → K.lookup a = none) →
      codeAny (model P w) callerA (.call (.ref fa) ⟨[.ref a], []⟩) (fun r s' => r = .ok (.ret (.bool true)) ∧ OldK s₁.heap s'.heap ∧ s'.os = s₁.os ∧ AllBare s'.gens) s₁ := by
    intro H hO hS hok hA hK
    have base_of : ∀ {b : Addr} {o : Obj}, s₁.heap.get? b = some o → H b = none → (hidT s₁.heap H).get? b = some o := fun e n => hidT_get e n
    have noA : ∀ {b : Addr} {o : Obj} {es : Array DictEntry} {ep : Nat}, s₁.heap.get? b = some o → o.data = .dict es ep → H b = none := fun {b o es ep} e d => by
      cases q : H b with
      | none => rfl
      | some u =>
        have e' : b = a := hA b (by rw [q]; simp)
        subst e'
        rw [ha] at e; cases e
        have d' : Data.seq vs.toArray _ = Data.dict es ep := d
        cases d'
    have nsK : ∀ {b : Addr} {m : Str → Option Value}, s₁.heap.Ns b m → (hidT s₁.heap H).Ns b m := fun {b m} ⟨o, es, ep, e, d, r⟩ => ⟨o, es, ep, base_of e (noA e d), d, r⟩
    have hKb : K.In (hidT s₁.heap H) := fun b o e => base_of (KX b o e) (by
      cases q : H b with
      | none => rfl
      | some u =>
        have e' : b = a := hA b (by rw [q]; simp)
        subst e'
        rw [hK (by rw [q]; simp)] at e; cases e)
    have hM : Mod K mg (hidT s₁.heap H) := ⟨hKb, nsK hns, ⟨mb, nsK hb, hbb⟩, let ⟨mc, h1, h2⟩ := hlim; ⟨mc, nsK h1, h2⟩⟩
    have e0 : Env0 P w K mg (hidT s₁.heap H) callerA [] s₁ H := ⟨rfl, hM, fun b o e => of_hidT e, Nat.le_of_eq (hidT_size _ _), trivial, fun b hb => absurd (show b ∈ ([] : List Addr) from hb) (by simp), hok, .of_eq hg⟩
    refine codeAny_mono ((F _ hKb (nsK hns)).run callerA [] s₁ H ⟨[.ref a], []⟩ [.ref a] [.ref a] _ _ hr e0 (hbind s₁ (.ref a)) (.cons rfl .nil) (hsp H hO hS)) fun r s' h => ?_
    cases r with
    | error e => exact (hCX H e s' h).elim
    | ok fl =>
      cases fl with
      | next => exact False.elim h
      | brk => exact False.elim h
      | cont => exact False.elim h
      | ret u =>
        obtain ⟨v, H', os, bare, un, hok', r', q⟩ := h
        have q' : v = .bl true := q
        subst q'
        obtain rfl : u = Value.bool true := r'
        refine ⟨rfl, OldK.of_keep fun b o e => ?_, os, bare⟩
        cases q : H b with
        | none => exact un.keep b o e q (by intro z; exact absurd (show b ∈ ([] : List Addr) from z) (by simp)) (by simp)
        | some u =>
          rcases hO b with z | ⟨ob, xs, z⟩
          · rw [q] at z; cases z
          · have z2 := un.frzs b ob _ z
            obtain ⟨e1, _⟩ := hok b _ z
            obtain ⟨e2, _⟩ := hok' b _ z2
            rw [e] at e1; cases e1
            exact e2
  cases hk : K.lookup a with
  | some o =>
    -- the script is one of the module's own objects
    have e := KX a o hk
    rw [ha] at e
    cases e
    refine core (fun _ => none) (fun _ => .inl rfl) (.inr ⟨_, vs.toArray, _, hk, rfl, rfl, rfl, by rw [List.size_toArray, lenV]; exact hl, by simpa using rv⟩) (fun b u z => by have z' : (none : Option HO) = some u := z; cases z') (fun b z => absurd rfl z) fun z => absurd rfl z
  | none =>
    refine core (fun b => if b = a then some (.frz { cls := .type "list", data := .seq vs.toArray } (.lst (ns.map V.int))) else none) (fun b => ?_) (.inl (.inr ⟨{ cls := .type "list", data := .seq vs.toArray }, if_pos rfl⟩)) (fun b u z => ?_) (fun b z => ?_) fun _ => hk
    · by_cases hb : b = a
      · exact .inr ⟨_, _, if_pos hb⟩
      · exact .inl (if_neg hb)
    · by_cases hb : b = a
      · have z' := (if_pos hb).symm.trans z
        cases z'
        subst hb
        exact ⟨ha, by rw [List.length_map]; exact hl, vs, _, rv, ha⟩
      · have z' := (if_neg hb).symm.trans z
        cases z'
    · by_cases hb : b = a
      · exact hb
      · exact absurd (if_neg hb) z
end L2

namespace L2
open PySem PySem.Spec PyProof.Rows

abbrev KOf {K : PySem.W.Frag} {h : Heap} (_ : K.In h) : PySem.W.Frag := K


theorem walk_of {l : PySem.W.OpenLaw} {n k : Nat} {q : Program} {loose : List Str} {XP : (Str → Option Value) → Heap → Prop} {YP : World → Heap → Prop} {d : DefRec} {K : Params → PySem.W.Frag} {CX : World → CXT} {sp : World → Sp} {x : Str}
    (hn : l.most = some n) (hn2 : n ≤ sizeLine) (hdf : d.params.defaults = []) (hr : Room k callerA)
    (hY : ∀ (w : World) (h : Heap), YP w h → (K w.params).In h)
    (F : ∀ (w : World) (mg : Str → Option Value) (fa : Addr) (h : Heap), (K w.params).In h → h.Ns mainGlobals mg → mg d.name = some (.ref fa) →
      ∃ fd : FuncData, (∀ (s : Shared) (u : Value), BindsTo s fd ⟨[u], []⟩ [(x, u)]) ∧
        ∀ base : Heap, (K w.params).In base → base.Ns mainGlobals mg → FnOk l.prog w (K w.params) mg base (CX w) k fa fd [x] (sp w))
    (hsp : ∀ (w : World) (H : Hp) (a : Addr) (ns : List Int), ns.length ≤ n → Only H → SqL (K w.params) H a (ns.map V.int) → sp w [.ref a] H (fun v _ => v = .bl true) fun _ _ _ => False)
    (hCX : ∀ (w : World) (H : Hp) (s : Shared) (e : Value) (s' : Shared), CX w [] H s (fun _ _ _ => False) e s' → False) :
    PySem.W.WalkO q loose XP YP l.row.toRowW d [] (fun f vs => PySem.call f vs) := by
  refine Att.attach_call hn hdf fun w s₀ s₁ mg mb fa o pm cd doc a vs ns G Y ho hd hcd hmg hobj hints hlen hg => ?_
  have KX := hY w _ Y
  obtain ⟨fd, hb, hF⟩ := F w mg fa _ KX G.T.g hmg
  exact law_call KX G.T.g G.T.b G.T.builtins G.T.nolimit hg hobj hints (Nat.le_trans hlen hn2) hr hF hb (fun H hO hS => hsp w H a ns hlen hO hS) fun H e s' => hCX w H s₁ e s'

end L2




namespace L2
open PySem PySem.Spec PyProof.Rows



def inClass (s : Stmt) (j : Nat) : Stmt := match s with
  | .ClassDef _ _ _ body _ _ _ _ _ _ _ => body.getD j (.Pass ⟨0, 0, 0, 0⟩)
  | _ => .Pass ⟨0, 0, 0, 0⟩
def defArgs (s : Stmt) : Arguments := match s with
  | .FunctionDef _ a _ _ _ _ _ _ _ _ => a
  | _ => { posonlyargs := [], args := [], vararg := none, kwonlyargs := [], kw_defaults := [], kwarg := none, defaults := [] }
def defBody (s : Stmt) : List Stmt := match s with
  | .FunctionDef _ _ b _ _ _ _ _ _ _ => b
  | _ => []
def defScope (s : Stmt) : Scope := match s with
  | .FunctionDef _ _ _ _ _ _ sc _ _ _ => sc
  | _ => { kind := .function, names := [], isGenerator := false, isCoroutine := false }


abbrev CX0 : CXT := fun _ _ _ _ _ _ => False
abbrev E0 : XK := fun _ _ _ => False
theorem pass0 {X : Cx} : Passes CX0 X E0 := fun _ _ _ _ _ _ _ h => h.elim


structure Fun (K : PySem.W.Frag) (x qual : Str) (st : Stmt) (f : Addr) (fd : FuncData) : Prop where
  ex : ∃ (oc : Value) (od : Option Addr) (kV doc pm : Value) (an : Option Addr) (cdv ct : Value) (osl : Array (Option Value)),
    fd = PySem.W.fnOf x qual (defArgs st) (defBody st) (defScope st) .none kV doc pm an cdv ct ∧ K.lookup f = some ⟨oc, od, .func fd, osl⟩ ∧ PySem.W.codeIn K cdv qual = true
  kp : PySem.W.keepIn K (.ref f) = true
section
variable {P : Program} {w : World} {K : PySem.W.Frag} {mg : Str → Option Value} {base : Heap}

theorem Fun.ok {x qual : Str} {st : Stmt} {f : Addr} {fd : FuncData} {N ps : List Str} {k : Nat} {sp : Sp} (F : Fun K x qual st f fd) (S : FnScope N ps (defScope st)) (len : ∀ vs H Q E, sp vs H Q E → vs.length = ps.length)
    (hbody : ∀ (cdv : Value) (A : Around) (outer : List Env) (s : Shared) (H : Hp) (vs : List V) (Q : VK) (E : XK), Room k (A.deeper (envOfC qual (defScope st) s.heap.objs.size f cdv)) → sp vs H Q E →
      ∃ t, PSs (cxOf CX0 P w K mg base N qual (defScope st) f cdv A outer s H E).nox (defBody st) t ∧ t { nx := fun _ H' => Q .non H', rt := Q } (start N vs) H) : FnOk P w K mg base CX0 (k + 1) f fd ps sp := by
  obtain ⟨oc, od, kV, doc, pm, an, cdv, ct, osl, rfl, lk, hcd⟩ := F.ex
  refine fn_of lk hcd S len fun A outer s H vs Q E hr hsp => ?_
  obtain ⟨t, h, q⟩ := hbody cdv A outer s H vs Q E hr hsp
  exact ⟨t, h.nox, q⟩

theorem Fun.binds {x qual : Str} {st : Stmt} {f : Addr} {fd : FuncData} {ps : List Str} (F : Fun K x qual st f fd)
    (h : ∀ (kV doc pm : Value) (an : Option Addr) (cdv ct : Value) (us : List Value), us.length = ps.length → bindArgs (PySem.W.fnOf x qual (defArgs st) (defBody st) (defScope st) .none kV doc pm an cdv ct) ⟨us, []⟩ = pure (ps.zip us)) : Binds K fd ps [] := by
  obtain ⟨oc, od, kV, doc, pm, an, cdv, ct, osl, rfl, lk, hcd⟩ := F.ex
  exact .all (h kV doc pm an cdv ct)
theorem fun_mk {x qual : Str} {st : Stmt} {f : Addr} {oc : Value} {od an : Option Addr} {osl : Array (Option Value)} {kV doc pm cdv ct : Value} (l : K.lookup f = some ⟨oc, od, .func (PySem.W.fnOf x qual (defArgs st) (defBody st) (defScope st) .none kV doc pm an cdv ct), osl⟩)
    (c : PySem.W.codeIn K cdv qual = true) (k : PySem.W.keepIn K (.ref f) = true) : Fun K x qual st f (PySem.W.fnOf x qual (defArgs st) (defBody st) (defScope st) .none kV doc pm an cdv ct) := ⟨⟨oc, od, kV, doc, pm, an, cdv, ct, osl, rfl, l, c⟩, k⟩
end
section
variable {X : Cx}
theorem pv (i : Nat) {x : Str} {pos : Pos} (hN : X.N[i]? = some x := by rfl) (hv : Vis X.env.scope x := by first | exact Or.inl rfl | exact Or.inr (Or.inl rfl) | exact Or.inr (Or.inr rfl)) (hd : (x == ("__debug__" : Str)) = false := by decide)
    (hcd : (x == ("__classdict__" : Str)) = false := by decide) : PE X (.Name x pos) (tVar i) := pe_var hN hv hd hcd

end


theorem iteF {A B : Prop} (h : B) : if false = true then A else B := by
  rw [if_neg Bool.false_ne_true]
  exact h
theorem iteT {A B : Prop} (h : A) : if true = true then A else B := by
  rw [if_pos rfl]
  exact h
def Same (H H' : Hp) : Prop := ∀ b o, H b = some o → H' b = some o
theorem Same.refl (H : Hp) : Same H H := fun _ _ h => h
theorem Same.trans {H H1 H2 : Hp} (a : Same H H1) (b : Same H1 H2) : Same H H2 := fun c o h => b c o (a c o h)
theorem Same.seq {K : PySem.W.Frag} {H H' : Hp} {a : Addr} {xs : List V} (e : Same H H') (h : SqL K H a xs) : SqL K H' a xs := by
  rcases h with (h | ⟨o, h⟩) | h
  · exact .inl (.inl (e _ _ h))
  · exact .inl (.inr ⟨o, e _ _ h⟩)
  · exact .inr h


section
variable {κ : Type} [DecidableEq κ]
end
end L2

namespace Bt
def wo (s p : Nat) : Nat := s - (s &&& p)
end Bt
namespace L3
open PySem PySem.Spec PyProof.Rows L2
abbrev St := L2.St


def lstO (its : List Value) : Obj := { cls := .type "list", data := .seq its.toArray its.length }
theorem lstO_snoc (its : List Value) (y : Value) : ({ cls := .type "list", data := .seq (its.toArray.push y) (its.length + 1) } : Obj) = lstO (its ++ [y]) := by
  show ({ cls := .type "list", data := .seq (its.toArray.push y) (its.length + 1) } : Obj) = { cls := .type "list", data := .seq (its ++ [y]).toArray (its ++ [y]).length }
  rw [List.length_append, List.length_singleton, List.push_toArray]

section
variable {prog : Program} {w : World} {A : Around} {R : Result → Shared → Prop} {s : Shared}

theorem compLoop_go {elt target iter : Expr} {ifs : List Expr} {scope : Scope} {pos : Pos} {it acc : Value} {env : Env} (I : Nat → Shared → Prop)
    (turn : ∀ n s, I n s → wpAny (model prog w) A (pyNext it) (fun r s1 => match r with
      | none => R (.ok .next) s1
      | some v => wpAny (model prog w) A (letOwnedTupleGo target it v) (fun _ s2 => wpAny (model prog w) A (assign target env v) (fun _ s3 =>
          wpAny (model prog w) A (forIn ifs true fun c r => if r = true then do let ok ← isTrue c env (eval c env); pure (ForInStep.yield ok) else pure (ForInStep.yield r)) (fun ok s4 =>
            if ok = true then wpAny (model prog w) A (eval elt env) (fun x s5 =>
              wpAny (model prog w) A (call (.builtin "list.append") [acc, x]) (fun _ s6 => ∃ m, m < n ∧ I m s6) (notedBy (model prog w) A env fun e s' => R (.error e) s') s5) (notedBy (model prog w) A env fun e s' => R (.error e) s') s4
            else ∃ m, m < n ∧ I m s4) (notedBy (model prog w) A env fun e s' => R (.error e) s') s3) (notedBy (model prog w) A env fun e s' => R (.error e) s') s2)
          (notedBy (model prog w) A env fun e s' => R (.error e) s') s1) (notedBy (model prog w) A env fun e s' => R (.error e) s') s)
    (n : Nat) (h : I n s) :
    codeAny (model prog w) A (.compLoop (.ListComp elt [⟨target, iter, ifs, 0⟩] scope pos) 0 it acc env) R s := by
  refine codeAny_loop rfl I (fun n s hI => ?_) n h
  show wpAny _ A ((compTurn (.ListComp elt [⟨target, iter, ifs, 0⟩] scope pos) 0 it acc env).onRaise (fun x => do noteFrame x env; theTreesLotGoes x)) _ _ s
  refine wpAny_noted ?_
  rw [compTurn_list]
  refine wpAny_bind (wpAny_standAt (wpAny_bind (wpAny_mono (turn n s hI) (fun r s1 h1 => ?_) fun _ _ h' => h')))
  cases r with
  | none => exact wpAny_pure h1
  | some v =>
    refine wpAny_bind (wpAny_mono h1 (fun _ s2 h2 => ?_) fun _ _ h' => h')
    refine wpAny_bind (wpAny_mono h2 (fun _ s3 h3 => wpAny_bind (wpAny_mono h3 (fun ok s4 h4 => ?_) fun _ _ h' => h')) fun _ _ h' => h')
    cases ok with
    | false => exact wpAny_pure ⟨rfl, h4⟩
    | true =>
      exact wpAny_bind (wpAny_bind (wpAny_mono h4 (fun x s5 h5 => wpAny_bind (wpAny_mono h5 (fun _ s6 h6 => wpAny_pure (wpAny_pure ⟨rfl, h6⟩)) fun _ _ h' => h')) fun _ _ h' => h'))
end


def cxComp (X : Cx) (scope : Scope) (cl : List (Str × Addr)) (own : List Str) (fr : List (Str × Nat)) (C : Addr) (s2 : Shared) (H2 : Hp) (fp : List Addr) : Cx :=
  { prog := X.prog, w := X.w, K := X.K, mg := X.mg, base := X.base, A := X.A, N := own ++ fr.map (·.1), s₀ := s2, H₀ := H2, env := compEnvC scope cl C X.env, outer := X.stack, stack := X.stack,
    ex := fp, fn := fun _ => false, calm := X.calm, pn := [], xe := fun _ _ => False }

def innerS (own : List Str) (fr : List (Str × Nat)) (σ : St) : St := own.map (fun _ => none) ++ fr.map fun p => (σ[p.2]?).join
def ClOk (env : Env) : List (Str × Addr) → Prop
  | [] => True
  | (n, c) :: r => env.cells.lookup n = some c ∧ ClOk env r
theorem ClOk.get {env : Env} : ∀ {cl : List (Str × Addr)} {x : Str} {c : Addr}, ClOk env cl → cl.lookup x = some c → env.cells.lookup x = some c
  | [], _, _, _, h => by simp at h
  | (n, d) :: r, x, c, ok, h => by
    rw [List.lookup_cons] at h
    cases e : x == n with
    | true =>
      rw [e] at h
      have e' : x = n := by simpa using e
      cases h
      rw [e']
      exact ok.1
    | false =>
      rw [e] at h
      exact ClOk.get ok.2 h
def CellK (sc : Scope) (x : Str) : Prop := sc.names.lookup x = some .cell ∨ sc.names.lookup x = some .free
def FrOk (X : Cx) (scope : Scope) (cl : List (Str × Addr)) : List (Str × Nat) → Prop
  | [] => True
  | (x, j) :: r => (X.N[j]? = some x ∧ CellK X.env.scope x ∧ CellK (relabel scope X.env) x ∧ (cl.lookup x).isSome = true) ∧ FrOk X scope cl r
theorem FrOk.get {X : Cx} {scope : Scope} {cl : List (Str × Addr)} : ∀ {fr : List (Str × Nat)} {i : Nat} {p : Str × Nat}, FrOk X scope cl fr → fr[i]? = some p →
    X.N[p.2]? = some p.1 ∧ CellK X.env.scope p.1 ∧ CellK (relabel scope X.env) p.1 ∧ (cl.lookup p.1).isSome = true
  | [], _, _, _, h => by simp at h
  | (x, j) :: r, 0, p, ok, h => by
    simp at h
    subst h
    exact ok.1
  | (x, j) :: r, i + 1, p, ok, h => FrOk.get (i := i) ok.2 (by simpa using h)
structure CompSc (X : Cx) (scope : Scope) (cl : List (Str × Addr)) (own : List Str) (fr : List (Str × Nat)) : Prop where
  clos : closureFor scope X.env = pure cl
  cells : ClOk X.env cl
  frs : FrOk X scope cl fr
  kind : scope.kind = .function
  nocell : ∀ y ∈ scope.names, y.2 ≠ .cell
  names : ∀ y ∈ scope.names, y.2 = .local → scope.names.lookup y.1 = some .local
  has : (scope.names.all fun y => y.2 != .free || (cl.lookup y.1).isSome) = true

theorem lookup_relabel_has {env : Env} {cl : List (Str × Addr)} : ∀ {names : List (Str × NameKind)} {x : Str}, (∀ y ∈ names, y.2 ≠ .cell) → (names.all fun y => y.2 != .free || (cl.lookup y.1).isSome) = true →
    ((names.map fun (n, k) => if (k == NameKind.free && env.scope.kind == .function && env.kindOf n == some .cell) then (n, NameKind.cell) else (n, k)).lookup x = some .cell ∨
     (names.map fun (n, k) => if (k == NameKind.free && env.scope.kind == .function && env.kindOf n == some .cell) then (n, NameKind.cell) else (n, k)).lookup x = some .free) → ∃ c, cl.lookup x = some c
  | [], _, _, _, h => by rcases h with h | h <;> simp at h
  | (n, k) :: r, x, nc, ha, h => by
    rw [List.all_cons, Bool.and_eq_true] at ha
    have ih := @lookup_relabel_has env cl r x (fun y hy => nc y (List.mem_cons_of_mem _ hy)) ha.2
    have nk : k ≠ .cell := nc (n, k) List.mem_cons_self
    have hk := ha.1
    cases hx : x == n with
    | true =>
      have ex : x = n := by simpa using hx
      subst ex
      by_cases hf : k = .free
      · subst hf
        have z : (cl.lookup x).isSome = true := by simpa using hk
        exact Option.isSome_iff_exists.mp z
      · exfalso
        have hb : (k == NameKind.free) = false := by simpa using hf
        rcases h with h | h
        · rw [List.map_cons] at h
          simp only [hb, Bool.false_and, Bool.false_eq_true, if_false, List.lookup_cons, beq_self_eq_true] at h
          exact nk (Option.some.inj h)
        · rw [List.map_cons] at h
          simp only [hb, Bool.false_and, Bool.false_eq_true, if_false, List.lookup_cons, beq_self_eq_true] at h
          exact hf (Option.some.inj h)
    | false =>
      refine ih ?_
      rcases h with h | h
      · left
        rw [List.map_cons] at h
        by_cases hc : (k == NameKind.free && env.scope.kind == .function && env.kindOf n == some .cell) = true
        · simp only [hc, if_true, List.lookup_cons, hx] at h; exact h
        · simp only [hc, Bool.false_eq_true, if_false, List.lookup_cons, hx] at h; exact h
      · right
        rw [List.map_cons] at h
        by_cases hc : (k == NameKind.free && env.scope.kind == .function && env.kindOf n == some .cell) = true
        · simp only [hc, if_true, List.lookup_cons, hx] at h; exact h
        · simp only [hc, Bool.false_eq_true, if_false, List.lookup_cons, hx] at h; exact h


def PTs (Y : Cx) (ifs : List Expr) (t : TT) : Prop :=
  ∀ (pins : List (Addr × Obj)) (s : Shared) (σ : St) (H : Hp) (Q : Bool → Hp → Prop), Inv Y pins σ H s → t σ H Q →
    wpAny (model Y.prog Y.w) Y.A (forIn ifs true fun c r => if r = true then do let ok ← isTrue c Y.env (eval c Y.env); pure (ForInStep.yield ok) else pure (ForInStep.yield r)) (TP Y pins σ Q) Y.xe s
def tTrue : TT := fun _ H Q => Q true H
theorem pts_nil {Y : Cx} : PTs Y [] tTrue := fun _ _ _ H _ I h => wpAny_tests_nil ⟨H, I, h⟩
def tComp (own : List Str) (fr : List (Str × Nat)) (wi : TI) (g : TG) (tc : TT) (te : TE) (fin : List V → Hp → Prop) : St → Hp → Prop := fun σ H => wi σ H fun J H1 =>
  ∃ W : Nat → Nat → List V → St → Hp → Prop, (∃ m, W 0 m [] (innerS own fr σ) H1) ∧ ∀ i m ys σ' H', W i m ys σ' H' →
    (J.stop i H' ∧ ys.length ≤ sizeLine ∧ fin ys H') ∨
    (J.go i H' ∧ ∃ N : List V → St → Hp → Prop, (∀ ys2 σ2 H2, N ys2 σ2 H2 → ys2.length ≤ sizeLine ∧ ∃ m', m' < m ∧ W (i + 1) m' ys2 σ2 H2) ∧
      ∀ x H2, J.yld i H' x H2 → g x σ' H2 fun σ3 H3 => tc σ3 H3 fun b H4 => if b = true then te σ3 H4 fun y H5 => N (ys ++ [y]) σ3 H5 else N ys σ3 H4)


structure Off (X : Cx) (pins : List (Addr × Obj)) (H : Hp) (C : Addr) : Prop where
  none : H C = none
  loc : C ≠ X.env.locals
  above : X.s₀.heap.objs.size ≤ C
  cell : ∀ x c, X.env.cells.lookup x = some c → c ≠ C
  pin : ∀ p ∈ X.pn ++ pins, p.1 ≠ C

section
variable {X : Cx} {tg elt iter : Expr} {ifs : List Expr} {scope : Scope} {cl : List (Str × Addr)} {own : List Str} {fr : List (Str × Nat)} {wi : TI} {g : TG} {tc : TT} {te : TE} {pos : Pos}

theorem comp_core (hc : X.calm = true) (S : CompSc X scope cl own fr) (hi : PI X tg iter wi) (hg : ∀ C s2 H2 fp, PG (cxComp X scope cl own fr C s2 H2 fp) tg g)
    (ht : ∀ C s2 H2 fp, PTs (cxComp X scope cl own fr C s2 H2 fp) ifs tc) (he : ∀ C s2 H2 fp, PE (cxComp X scope cl own fr C s2 H2 fp) elt te)
    {pins : List (Addr × Obj)} {s : Shared} {σ : St} {H : Hp} {fin : List V → Hp → Prop} (I : Inv X pins σ H s) (h : tComp own fr wi g tc te fin σ H)
    {RR : Value → Addr → Result → Shared → Prop}
    (hR : ∀ (D C : Addr) (s4 : Shared) (H3 : Hp) (ys : List V) (m : Str → Option Value), H3 D = none → Inv X pins σ (upd H3 D (.lst ys)) s4 → s4.heap.Ns C m → Off X pins (upd H3 D (.lst ys)) C → fin ys H3 → RR (.ref D) C (.ok .next) s4) :
    wpAny (model X.prog X.w) X.A (eval iter X.env) (fun x s1 => wpAny (model X.prog X.w) X.A (pyIter x) (fun itv s2 => wpAny (model X.prog X.w) X.A (newList []) (fun acc s3 =>
      wpAny (model X.prog X.w) X.A (newFunctionEnv scope X.env.globals cl [] X.env.qual none .none (some X.env)) (fun cenv s4 =>
        codeAny (model X.prog X.w) X.A (.compStart (.ListComp elt [⟨tg, iter, ifs, 0⟩] scope pos) 0 itv acc { cenv with scope := relabel scope X.env }) (RR acc cenv.locals) s4) X.xe s3) X.xe s2) X.xe s1) X.xe s := by
  refine thn (hi pins s σ H _ I h) fun v s1 h1 => thn h1 fun itv s2 h2 => ?_
  obtain ⟨it, fp, tn, J, H2, rfl, I2, T, st2, f2, W, ⟨m0, w0⟩, turn⟩ := h2
  refine wpAny_newObj_type (wpAny_newFunctionEnv S.nocell (by intro y hy; simp at hy) (fun h1 hns1 hsb1 => ?_) S.kind)
  dsimp only at hns1 hsb1 ⊢
  generalize hHP : s2.heap.push { cls := .type "list", dict := none, data := .seq ([] : List Value).toArray } = HP at hns1 hsb1 ⊢
  have hC : HP.objs.size = s2.heap.objs.size + 1 := by rw [← hHP, Heap.size_push]
  have hDC : s2.heap.objs.size ≠ HP.objs.size := by rw [hC]; exact Nat.ne_of_lt (Nat.lt_succ_self _)
  have below : ∀ b, b < s2.heap.objs.size → b ≠ HP.objs.size ∧ b ≠ s2.heap.objs.size := fun b hb => ⟨by rw [hC]; exact Nat.ne_of_lt (Nat.lt_succ_of_lt hb), Nat.ne_of_lt hb⟩
  have old : ∀ b o, s2.heap.get? b = some o → h1.get? b = some o := fun b o e => hsb1.extBut b o (below b (Heap.lt_size e)).1 (Heap.get?_push_of_some _ (hHP ▸ Heap.get?_push_of_some _ e))
  have hacc : h1.get? s2.heap.objs.size = some (lstO []) := hsb1.extBut _ _ hDC (Heap.get?_push_of_some _ (hHP ▸ Heap.get?_push_size _ rfl))
  have hfpo : ∀ b ∈ fp, b < s2.heap.objs.size := fun b hb => by obtain ⟨o, e, _⟩ := T.obj 0 _ st2 b hb; exact Heap.lt_size e
  have hcells : ∀ x c, cl.lookup x = some c → X.env.cells.lookup x = some c := fun x c e => S.cells.get e
  have hcD : ∀ x c, X.env.cells.lookup x = some c → c < s2.heap.objs.size := fun x c e => by obtain ⟨v, q⟩ := I2.cell x c e; exact q.lt
  have st1 : tn 0 h1 := T.keep _ _ _ st2 fun b _ o e => old b o e
  have hDfree : H2 s2.heap.objs.size = none := I2.hok.fresh (Nat.le_refl _)
  have hCfree : H2 HP.objs.size = none := I2.hok.fresh (by rw [hC]; exact Nat.le_succ _)
  have nostk : ∀ b, s2.heap.objs.size ≤ b → b ∉ L2.frs X.stack := fun b hb hm => by
    rcases List.mem_cons.mp (I2.stkSub b hm) with e | e
    · exact absurd I2.lt (by rw [← e]; exact Nat.not_lt.mpr hb)
    · exact I2.nofs hb e
  have hDlt : s2.heap.objs.size < h1.objs.size := Heap.lt_size hacc
  -- the block's context
  have YOk : (cxComp X scope cl own fr HP.objs.size s2 H2 fp).Ok := by
    refine ⟨I2.ok.mod, S.kind, I2.ok.glob, I2.ok.blt, ?_, fun x y c e1 e2 => I2.ok.inj x y c (hcells _ _ e1) (hcells _ _ e2), fun x hx => ?_, fun x c hf => ?_, I2.ok.hd, I2.ok.frames, .inl rfl, fun b hb => ⟨?_, fun x c e => ?_⟩,
      I2.bs, Nat.le_trans I2.ok.bsz I2.sz, fun b o e hb => ?_, fun b hb hm => ?_, I2.stack, I2.stkFree⟩
    · show s2.heap.objs.size ≤ HP.objs.size
      rw [hC]; exact Nat.le_succ _
    · exact lookup_relabel_has (env := X.env) S.nocell S.has hx
    · cases hf
    · exact (below b (hfpo b hb)).1
    · exact (f2 b hb).2.2.2.2.1 x c (hcells _ _ e)
    · rcases (f2 b hb).2.2.2.1 with z | z
      · exact I2.ok.noex b o e z
      · exact absurd (Heap.lt_size (I2.ok.bs b o e).1) (Nat.not_lt.mpr z)
    · rcases List.mem_cons.mp (I2.stkSub b hm) with e | e
      · exact (f2 b hb).2.1 e
      · exact (f2 b hb).2.2.1 e
  have hpinD : ∀ {h' : Heap} {its : List Value} {H' : Hp}, h'.get? s2.heap.objs.size = some (lstO its) → H' s2.heap.objs.size = none → ∀ p ∈ ([(s2.heap.objs.size, lstO its)] : List (Addr × Obj)),
      h'.get? p.1 = some p.2 ∧ H' p.1 = none ∧ p.1 ≠ HP.objs.size ∧ p.1 ∉ L2.frs X.stack ∧ ∀ v, p.2.data ≠ .cell v := fun {h' its H'} e n p hp => by
    have e1 : p = (s2.heap.objs.size, lstO its) := by simpa using hp
    subst e1
    exact ⟨e, n, hDC, nostk _ (Nat.le_refl _), fun v z => by cases z⟩
  have IY : Inv (cxComp X scope cl own fr HP.objs.size s2 H2 fp) [(s2.heap.objs.size, lstO [])] (innerS own fr σ) H2 { s2 with heap := h1, toks := s2.toks + ([] : List (Str × Value)).length } := by
    refine ⟨YOk, rfl, I2.bare, Un.kept old, ⟨_, hns1, fun i x v e1 e2 e3 => ?_⟩, fun x c e => ?_, hCfree, fun x c e => I2.freeC x c (hcells _ _ e), hpinD hacc hDfree, I2.hok.kept old, ?_⟩
    · have e1' : (own ++ fr.map (·.1))[i]? = some x := e1
      have e2' : (own.map (fun _ => (none : Option V)) ++ fr.map fun p => (σ[p.2]?).join)[i]? = some (some v) := e2
      by_cases hi' : i < own.length
      · rw [List.getElem?_append_left (by simpa using hi'), List.getElem?_map] at e2'
        rw [List.getElem?_eq_getElem hi'] at e2'
        cases e2'
      · rw [List.getElem?_append_right (by simpa using hi'), List.getElem?_map] at e2'
        rw [List.getElem?_append_right (Nat.not_lt.mp hi'), List.getElem?_map] at e1'
        rw [List.length_map] at e2'
        cases ef : fr[i - own.length]? with
        | none => rw [ef] at e1'; cases e1'
        | some p =>
          rw [ef] at e1' e2'
          have ex : p.1 = x := Option.some.inj e1'
          have ev : (σ[p.2]?).join = some v := Option.some.inj e2'
          obtain ⟨hN, hk, hk2, hs⟩ := S.frs.get ef
          have eσ : σ[p.2]? = some (some v) := by
            cases q : σ[p.2]? with
            | none => rw [q] at ev; cases ev
            | some o => rw [q] at ev; exact congrArg some ev
          obtain ⟨m, hn, hl⟩ := I2.loc
          obtain ⟨u, r, l⟩ := hl p.2 p.1 v hN eσ (by rcases hk with k | k; exact .inr (.inl k); exact .inr (.inr k))
          subst ex
          obtain ⟨c, ec⟩ := Option.isSome_iff_exists.mp hs
          refine ⟨u, r, .inr ⟨hk2, c, ec, ?_⟩⟩
          rcases l with ⟨hl1, _⟩ | ⟨_, c', ec', z⟩
          · have hl1' : X.env.scope.names.lookup p.1 = some .local := hl1
            rcases hk with z | z
            · rw [z] at hl1'; cases hl1'
            · rw [z] at hl1'; cases hl1'
          · have := hcells _ _ ec
            rw [ec'] at this
            cases this
            exact z.keeps old
    · obtain ⟨v, z⟩ := I2.cell x c (hcells _ _ e)
      exact ⟨v, z.keeps old⟩
    · show (own.map (fun _ => (none : Option V)) ++ fr.map fun p => (σ[p.2]?).join).length = (own ++ fr.map (·.1)).length
      simp
  have stat : ∀ {its : List Value} {H' : Hp}, (∀ b ∈ fp, H' b = none) → ∀ b ∈ fp, FpOk (cxComp X scope cl own fr HP.objs.size s2 H2 fp) [(s2.heap.objs.size, lstO its)] H' b := fun {its H'} hn b hb =>
    ⟨hn b hb, (below b (hfpo b hb)).1, fun hm => by
        rcases List.mem_cons.mp (I2.stkSub b hm) with e | e
        · exact (f2 b hb).2.1 e
        · exact (f2 b hb).2.2.1 e, .inl hb, fun x c e => (f2 b hb).2.2.2.2.1 x c (hcells _ _ e), fun p hp => by
        have e1 : p = (s2.heap.objs.size, lstO its) := by
          have hp' : p ∈ ([] : List (Addr × Obj)) ++ [(s2.heap.objs.size, lstO its)] := hp
          simpa using hp'
        subst e1
        exact (below b (hfpo b hb)).2.symm⟩
  have loop : ∀ s3 : Shared, s3 = { s2 with heap := h1, toks := s2.toks + ([] : List (Str × Value)).length } →
      codeAny (model X.prog X.w) X.A (.compLoop (.ListComp elt [⟨tg, iter, ifs, 0⟩] scope pos) 0 (.ref it) (.ref s2.heap.objs.size) (compEnvC scope cl HP.objs.size X.env)) (RR (.ref s2.heap.objs.size) HP.objs.size) s3 := by
    rintro s3 rfl
    refine compLoop_go (fun n s' => ∃ i ys its σ' H', Inv (cxComp X scope cl own fr HP.objs.size s2 H2 fp) [(s2.heap.objs.size, lstO its)] σ' H' s' ∧ Vals ys its ∧ tn i s'.heap ∧ (∀ b ∈ fp, H' b = none) ∧ W i n ys σ' H') ?_ m0
      ⟨0, [], [], innerS own fr σ, H2, IY, .nil, st1, fun b hb => (f2 b hb).1, w0⟩
    rintro n s3 ⟨i, ys, its, σ3, H3, I3, rv, st3, fr3, w3⟩
    rcases turn i n ys σ3 H3 w3 with ⟨stop, hz, qn⟩ | ⟨go, N, hN, step⟩
    · refine wpAny_mono (T.done (cxComp X scope cl own fr HP.objs.size s2 H2 fp) rfl rfl rfl hc i _ s3 σ3 H3 (fun _ _ => False) I3 (stat fr3) st3 stop) (fun r s4 h4 => ?_) fun _ _ f => f.elim
      obtain ⟨hr, I4⟩ := h4
      subst hr
      obtain ⟨eD, nD, _⟩ := I4.pin (s2.heap.objs.size, lstO its) (by simp [cxComp])
      obtain ⟨m, hn, _⟩ := id I4.loc
      have nC : H3 HP.objs.size = none := I4.free
      have bu := I4.base
      have J4 : Inv X pins σ (upd H3 s2.heap.objs.size (.lst ys)) s4 := by
        refine I2.call' (ch := fp) I4.os ⟨fun b o e n hb hx => bu.keep b o e n hb hx, fun b o e n hb hx => bu.slot b o e n hb hx, fun b o e n hx => ?_, fun b o e hx => bu.there b o e hx, fun b xs e => ?_, fun b o u e => ?_, fun b ps e => ?_⟩ ?_ I4.bare ?_
        · rw [upd_ne (below b (Heap.lt_size e)).2]; exact bu.free b o e n hx
        · have z := bu.tups b xs e
          rw [upd_ne (ne_of_none z nD)]; exact z
        · have z := bu.frzs b o u e
          rw [upd_ne (ne_of_none z nD)]; exact z
        · obtain ⟨more, z⟩ := bu.tbls b ps e
          exact ⟨more, by rw [upd_ne (ne_of_none z nD)]; exact z⟩
        · intro b o e
          by_cases hb : b = s2.heap.objs.size
          · subst hb
            rw [upd_same] at e
            cases e
            exact ⟨hz, its, its.length, rv, eD⟩
          · rw [upd_ne hb] at e
            exact (I4.hok b o e).stay (fun c u _ q => q) (fun c q => by rw [upd_ne (ne_of_none q nD)]; exact q) fun c xs q => by rw [upd_ne (ne_of_none q nD)]; exact q
        · intro b hb
          exact ⟨(f2 b hb).2.2.2.1, (f2 b hb).2.1, (f2 b hb).2.2.2.2.1, (f2 b hb).2.2.2.2.2⟩
      refine hR _ _ s4 H3 ys m nD J4 hn ⟨?_, ?_, ?_, ?_, ?_⟩ qn
      · rw [upd_ne hDC.symm]; exact nC
      · exact Nat.ne_of_gt (Nat.lt_of_lt_of_le I2.lt (by rw [hC]; exact Nat.le_succ _))
      · exact Nat.le_trans I2.sz (by rw [hC]; exact Nat.le_succ _)
      · exact fun x c e => (below c (hcD x c e)).1
      · exact fun p hp => (below p.1 (Heap.lt_size (I2.pin p hp).1)).1
    · refine wpAny_mono (T.item (cxComp X scope cl own fr HP.objs.size s2 H2 fp) rfl rfl rfl hc i _ s3 σ3 H3 (fun _ _ => False) I3 (stat fr3) st3 go) (fun r s4 h4 => ?_) fun _ _ f => f.elim
      obtain ⟨u, hr, h4⟩ := h4
      subst hr
      refine wpAny_mono h4 (fun _ s5 h5 => ?_) fun _ _ f => f.elim
      obtain ⟨x, H5, I5, r5, y5, st5, fr5⟩ := h5
      have I5' := I5.pinned (stat fr5) (T.obj _ _ st5)
      refine wpAny_mono (hg _ _ _ _ _ s5 σ3 H5 x u _ I5' r5 (step x H5 y5)) (fun _ s6 h6 => ?_) fun _ _ f => f.elim
      obtain ⟨σ6, H6, I6, q6⟩ := h6
      refine wpAny_mono (ht _ _ _ _ _ s6 σ6 H6 _ I6 q6) (fun ok s7 h7 => ?_) fun _ _ f => f.elim
      obtain ⟨H7, I7, q7⟩ := h7
      have keepT : ∀ {σ8 : St} {H8 : Hp} {s8 : Shared} {l : List (Addr × Obj)}, Inv (cxComp X scope cl own fr HP.objs.size s2 H2 fp) (l ++ pinsAt fp s5.heap) σ8 H8 s8 → tn (i + 1) s8.heap ∧ ∀ b ∈ fp, H8 b = none := fun {σ8 H8 s8 l} I8 => by
        refine ⟨T.keep _ _ _ st5 fun b hb o e => (I8.pin (b, o) (List.mem_append_right _ (List.mem_append_right _ (mem_pinsAt hb e)))).1, fun b hb => ?_⟩
        obtain ⟨o, e, _⟩ := T.obj _ _ st5 b hb
        exact (I8.pin (b, o) (List.mem_append_right _ (List.mem_append_right _ (mem_pinsAt hb e)))).2.1
      cases ok with
      | false =>
        rw [if_neg Bool.false_ne_true] at q7 ⊢
        obtain ⟨_, m', hm, w7⟩ := hN _ _ _ q7
        exact ⟨m', hm, i + 1, ys, its, σ6, H7, I7.unpinned, rv, (keepT I7).1, (keepT I7).2, w7⟩
      | true =>
        rw [if_pos rfl] at q7 ⊢
        refine wpAny_mono (he _ _ _ _ _ s7 σ6 H7 _ I7 q7) (fun y s8 h8 => ?_) fun _ _ f => f.elim
        obtain ⟨yv, H8, I8, r8, n8⟩ := h8
        obtain ⟨hlt', m', hm, w8⟩ := hN _ _ _ n8
        have hlt : ys.length < sizeLine := by rw [List.length_append] at hlt'; exact hlt'
        obtain ⟨eD, nD, nL, _, _⟩ := I8.pin (s2.heap.objs.size, lstO its) (by simp [cxComp])
        refine append_at (its := its.toArray) (n := its.length) (hsz := by rw [List.size_toArray, ← rv.length]; exact Nat.le_of_lt hlt) eD fun h9 sb9 eD9 => ?_
        have I8p : Inv (cxComp X scope cl own fr HP.objs.size s2 H2 fp) (pinsAt fp s5.heap) σ6 H8 s8 := I8.pins_of fun p hp => I8.pin p (List.mem_append_right _ (List.mem_append_right _ hp))
        have I9p : Inv (cxComp X scope cl own fr HP.objs.size s2 H2 fp) (pinsAt fp s5.heap) σ6 H8 { s8 with heap := h9 } :=
          I8p.turned (t' := s8.toks) (fun b o hb e => (sb9.2 b hb).trans e) nD nL (.inr (Nat.le_refl _)) (fun x c e => (below c (hcD x c (hcells _ _ e))).2) fun p hp => by
            have hp' : p ∈ pinsAt fp s5.heap := by simpa [cxComp] using hp
            exact (below p.1 (hfpo _ (of_pinsAt hp').1)).2
        have eD9' : h9.get? s2.heap.objs.size = some (lstO (its ++ [y])) := eD9.trans (congrArg some (lstO_snoc its y))
        have I9 : Inv (cxComp X scope cl own fr HP.objs.size s2 H2 fp) [(s2.heap.objs.size, lstO (its ++ [y]))] σ6 H8 { s8 with heap := h9 } := I9p.pins_of (hpinD eD9' nD)
        have K9 := keepT (l := []) (by simpa using I9p)
        exact ⟨m', hm, i + 1, ys ++ [yv], its ++ [y], σ6, H8, I9, rv.append (.cons r8 .nil), K9.1, K9.2, w8⟩
  exact codeAny_compStart_list (loop _ rfl) (T.self _ 0 _ _ _ st1 (loop _ rfl))


def tCompS (i : Nat) (own : List Str) (fr : List (Str × Nat)) (wi : TI) (g : TG) (tc : TT) (te : TE) : TS := fun D σ H => tComp own fr wi g tc te (fun ys H3 => ∀ p, H3 p = none → D.nx (σ.set i (some (.ref p))) (upd H3 p (.lst ys))) σ H
theorem ps_setC {i : Nat} {y : Str} {py spos : Pos} (hN : X.N.Nodup) (hi' : X.N[i]? = some y) (hx : X.env.scope.names.lookup y = some .local) (hc : X.calm = true) (S : CompSc X scope cl own fr) (hi : PI X tg iter wi) (hg : ∀ C s2 H2 fp, PG (cxComp X scope cl own fr C s2 H2 fp) tg g)
    (ht : ∀ C s2 H2 fp, PTs (cxComp X scope cl own fr C s2 H2 fp) ifs tc) (he : ∀ C s2 H2 fp, PE (cxComp X scope cl own fr C s2 H2 fp) elt te)
    (hsw : swapsWith (.ListComp elt [⟨tg, iter, ifs, 0⟩] scope pos) (some (.Name y py)) spos.line X.env = pure true := by rfl)
    (hs : ∀ x, foldedSetIterable iter X.env x = pure x := by intro _; rfl) : PS X (.Assign [.Name y py] (.ListComp elt [⟨tg, iter, ifs, 0⟩] scope pos) spos) (tCompS i own fr wi g tc te) := by
  intro pins s σ H D I h
  rw [exec_Assign_Name_used _ _ _ _ hsw]
  refine wpAny_bind (wpAny_standAt (wpAny_bind ?_))
  show wpAny _ X.A (do let _ ← comprehension (.ListComp elt [⟨tg, iter, ifs, 0⟩] scope pos) scope X.env _ (newList []) false (eval iter X.env) (some (assign (.Name y py) X.env))) _ _ s
  refine wpAny_bind (wpAny_mono (wpAny_comprehension_free (use := some (assign (.Name y py) X.env)) (Q := fun _ s' => SP X pins D .next s') rfl hs S.clos S.kind S.names ?_) (fun _ s' hq => wpAny_pure (wpAny_pure hq)) fun _ _ e => e)
  refine comp_core hc S hi hg ht he I h fun Da C s4 H3 ys m nD J hn off q => ?_
  show wpAny _ X.A (assign (.Name y py) X.env (.ref Da)) _ _ _
  refine wpAny_assign_Name (store_ok2 J hN hi' (.inl hx) (v := .ref Da) rfl (fun s5 I5 hsb => ?_) (.inr hx))
  obtain ⟨a, sb, ha⟩ := hsb
  have nCa : C ≠ a := by
    rcases ha with z | z
    · rw [z]; exact off.loc
    · exact (off.cell _ _ z).symm
  refine ⟨m, hn.sameBut sb nCa, fun h' sb' => ⟨_, _, I5.turned (t' := s5.toks) (fun b o hb e => (sb'.2 b hb).trans e) off.none off.loc (.inr off.above) off.cell off.pin, q Da nD⟩⟩
end
section
variable {K : PySem.W.Frag} {a : Addr} {xs : List V} {own : List Str} {fr : List (Str × Nat)} {g : TG} {tc : TT} {te : TE} {fin : List V → Hp → Prop} {σ : St} {H : Hp}

def CompW (J : It) (g : TG) (tc : TT) (te : TE) (fin : List V → Hp → Prop) (σ0 : St) (H1 : Hp) : Prop :=
  ∃ W : Nat → Nat → List V → St → Hp → Prop, (∃ m, W 0 m [] σ0 H1) ∧ ∀ i m ys σ' H', W i m ys σ' H' →
    (J.stop i H' ∧ ys.length ≤ sizeLine ∧ fin ys H') ∨
    (J.go i H' ∧ ∃ N : List V → St → Hp → Prop, (∀ ys2 σ2 H2, N ys2 σ2 H2 → ys2.length ≤ sizeLine ∧ ∃ m', m' < m ∧ W (i + 1) m' ys2 σ2 H2) ∧
      ∀ x H2, J.yld i H' x H2 → g x σ' H2 fun σ3 H3 => tc σ3 H3 fun b H4 => if b = true then te σ3 H4 fun y H5 => N (ys ++ [y]) σ3 H5 else N ys σ3 H4)
theorem comp_range {σ0 : St} {lo : Int} {n : Nat} (Pv : Nat → List V → St → Hp → Prop) (h0 : Pv 0 [] σ0 H) (hl : ∀ i ys σ H, i ≤ n → Pv i ys σ H → ys.length ≤ sizeLine)
    (hs : ∀ i ys σ H, i < n → Pv i ys σ H → g (.int (lo + i)) σ H fun σ3 H3 => tc σ3 H3 fun b H4 => if b = true then te σ3 H4 fun y H5 => Pv (i + 1) (ys ++ [y]) σ3 H5 else Pv (i + 1) ys σ3 H4)
    (hd : ∀ ys σ H, Pv n ys σ H → fin ys H) : CompW (Itr lo n) g tc te fin σ0 H := by
  refine ⟨fun i m ys σ H => m = n - i ∧ i ≤ n ∧ Pv i ys σ H, ⟨n, by simp, Nat.zero_le _, h0⟩, ?_⟩
  rintro i m ys σ H ⟨rfl, hi, p⟩
  by_cases hlt : i < n
  · refine .inr ⟨hlt, Pv (i + 1), fun ys2 σ2 H2 p' => ⟨hl (i + 1) ys2 σ2 H2 hlt p', n - (i + 1), by omega, rfl, hlt, p'⟩, fun x H2 y => ?_⟩
    obtain ⟨e, y⟩ := y
    subst e y
    exact hs i ys σ _ hlt p
  · have e : i = n := by omega
    subst e
    exact .inl ⟨Nat.le_refl _, hl _ ys σ H hi p, hd ys σ H p⟩
end
end L3
namespace L3
open PySem PySem.Spec PyProof.Rows L2 PySem.SeqAt


theorem look_new {H : Hp} {p q : Addr} {o u : HO} (hq : H q = some u) (hp : H p = none) : upd H p o q = some u := by
  rw [upd_ne (ne_of_none hq hp)]; exact hq
theorem look_ne {H : Hp} {p q : Addr} {o : HO} {u : Option HO} (hne : q ≠ p) (hq : H q = u) : upd H p o q = u := by
  rw [upd_ne hne]; exact hq
theorem none_upd {H : Hp} {p q : Addr} {o : HO} (h : upd H p o q = none) : H q = none ∧ q ≠ p := by
  by_cases e : q = p
  · subst e; rw [upd_same] at h; cases h
  · rw [upd_ne e] at h; exact ⟨h, e⟩
theorem same_new {H : Hp} {p : Addr} {o : HO} (h : H p = none) : Same H (upd H p o) := fun b u q => look_new q h
theorem same_upd {H H1 : Hp} {p : Addr} {o : HO} (s : Same H H1) (h : H p = none) : Same H (upd H1 p o) := fun b u q => by
  rw [upd_ne (ne_of_none q h)]; exact s b u q
theorem SqT_same {K : PySem.W.Frag} {H H' : Hp} {a : Addr} {xs : List V} (e : Same H H') (h : SqT K H a xs) : SqT K H' a xs := by
  rcases h with (h | ⟨o, h⟩) | h
  · exact .inl (.inl (e _ _ h))
  · exact .inl (.inr ⟨o, e _ _ h⟩)
  · exact .inr h


mutual
def Dp (K : PySem.W.Frag) (H : Hp) : PyData → V → Prop
  | .none, v => v = .non
  | .bool b, v => v = .bl b
  | .int i, v => v = .int i
  | .str x, v => v = .str x
  | .list ds, v => ∃ a xs, v = .ref a ∧ SqL K H a xs ∧ DpAll K H ds xs
  | .tuple ds, v => ∃ a xs, v = .ref a ∧ SqT K H a xs ∧ DpAll K H ds xs
  | .dict _, _ => False
def DpAll (K : PySem.W.Frag) (H : Hp) : List PyData → List V → Prop
  | [], vs => vs = []
  | d :: ds, vs => ∃ v r, vs = v :: r ∧ Dp K H d v ∧ DpAll K H ds r
end
theorem dpAll_ints {K : PySem.W.Frag} {H : Hp} : ∀ ns : List Int, DpAll K H (ns.map PyData.int) (ns.map V.int)
  | [] => by rw [List.map_nil, List.map_nil, DpAll]
  | n :: ns => by
    rw [List.map_cons, List.map_cons, DpAll]
    exact ⟨_, _, rfl, by rw [Dp], dpAll_ints ns⟩
theorem dp_ints {K : PySem.W.Frag} {H : Hp} {a : Addr} {ns : List Int} (h : SqL K H a (ns.map V.int)) : Dp K H (.list (ns.map PyData.int)) (.ref a) := by
  rw [Dp]; exact ⟨a, _, rfl, h, dpAll_ints ns⟩
theorem dp_int {K : PySem.W.Frag} {H : Hp} (i : Int) : Dp K H (.int i) (.int i) := by rw [Dp]
theorem dp_str {K : PySem.W.Frag} {H : Hp} (x : Str) : Dp K H (.str x) (.str x) := by rw [Dp]
theorem dp_lst {K : PySem.W.Frag} {H : Hp} {a : Addr} {xs : List V} {ds : List PyData} (h : SqL K H a xs) (q : DpAll K H ds xs) : Dp K H (.list ds) (.ref a) := by
  rw [Dp]; exact ⟨a, _, rfl, h, q⟩
theorem dp_tup {K : PySem.W.Frag} {H : Hp} {a : Addr} {xs : List V} {ds : List PyData} (h : SqT K H a xs) (q : DpAll K H ds xs) : Dp K H (.tuple ds) (.ref a) := by
  rw [Dp]; exact ⟨a, _, rfl, h, q⟩
theorem dpAll_nil {K : PySem.W.Frag} {H : Hp} : DpAll K H [] [] := by rw [DpAll]
theorem dpAll_cons {K : PySem.W.Frag} {H : Hp} {d : PyData} {ds : List PyData} {v : V} {r : List V} (h : Dp K H d v) (q : DpAll K H ds r) : DpAll K H (d :: ds) (v :: r) := by
  rw [DpAll]; exact ⟨_, _, rfl, h, q⟩
theorem canLay_ints : ∀ ns : List Int, PyData.canLayAll0 (ns.map PyData.int) = true
  | [] => rfl
  | n :: ns => by
    rw [List.map_cons, PyData.canLayAll0, canLay_ints ns]; rfl
theorem depth_ints : ∀ ns : List Int, PyData.depthAll (ns.map PyData.int) = 0
  | [] => rfl
  | n :: ns => by
    rw [List.map_cons, PyData.depthAll, depth_ints ns]; rfl
section
variable {X : Cx} {pins : List (Addr × Obj)} {σ : St} {H : Hp} {s : Shared}
mutual
theorem dp_reads (I : Inv X pins σ H s) : ∀ (d : PyData) (v : V) (u : Value), Dp X.K H d v → RelV v u → ∃ as, Reads s.heap u d as
  | .none, v, u, h, r => by
    rw [Dp] at h; subst h; cases (show u = Value.none from r); exact ⟨_, .none⟩
  | .bool b, v, u, h, r => by
    rw [Dp] at h; subst h; cases (show u = Value.bool b from r); exact ⟨_, .bool b⟩
  | .int i, v, u, h, r => by
    rw [Dp] at h; subst h; obtain ⟨t, e⟩ := (show ∃ t, u = Value.int i t from r); subst e; exact ⟨_, .int i t⟩
  | .str x, v, u, h, r => by
    rw [Dp] at h; subst h; obtain ⟨t, e⟩ := (show ∃ t, u = Value.str x t from r); subst e; exact ⟨_, .str x t⟩
  | .list ds, v, u, h, r => by
    rw [Dp] at h
    obtain ⟨a, xs, e, hq, ha⟩ := h
    subst e
    cases (show u = Value.ref a from r)
    obtain ⟨its, rv, pl, hz⟩ := I.list hq
    obtain ⟨o, ho, hc, n, hd⟩ := pl.isList
    obtain ⟨as, z⟩ := dpAll_reads I ds xs its ha rv
    exact ⟨_, .list ho hc hd (by simpa using z)⟩
  | .tuple ds, v, u, h, r => by
    rw [Dp] at h
    obtain ⟨a, xs, e, hq, ha⟩ := h
    subst e
    cases (show u = Value.ref a from r)
    obtain ⟨its, rv, pl, hz⟩ := I.tuple hq
    obtain ⟨o, ho, hc, n, hd⟩ := pl
    obtain ⟨as, z⟩ := dpAll_reads I ds xs its ha rv
    exact ⟨_, .tuple ho hc hd (by simpa using z)⟩
  | .dict _, v, u, h, r => by rw [Dp] at h; exact h.elim
theorem dpAll_reads (I : Inv X pins σ H s) : ∀ (ds : List PyData) (vs : List V) (us : List Value), DpAll X.K H ds vs → Vals vs us → ∃ as, ReadsAll s.heap us ds as
  | [], vs, us, h, r => by
    rw [DpAll] at h; subst h; cases r; exact ⟨_, .nil⟩
  | d :: ds, vs, us, h, r => by
    rw [DpAll] at h
    obtain ⟨v, rr, e, h1, h2⟩ := h
    subst e
    cases r with
    | cons r1 r2 =>
      obtain ⟨as, z1⟩ := dp_reads I d _ _ h1 r1
      obtain ⟨bs, z2⟩ := dpAll_reads I ds _ _ h2 r2
      exact ⟨_, .cons z1 z2⟩
end
end
def rEqD (K : PySem.W.Frag) : R2 := fun x y H Q => ∃ dx dy, Dp K H dx x ∧ Dp K H dy y ∧ shaped dx = true ∧ shaped dy = true ∧ Q (.bl (PyData.eqv dx dy)) H
def rNeD (K : PySem.W.Frag) : R2 := fun x y H Q => ∃ dx dy, Dp K H dx x ∧ Dp K H dy y ∧ shaped dx = true ∧ shaped dy = true ∧ Q (.bl (!PyData.eqv dx dy)) H

def rEqA (K : PySem.W.Frag) : R2 := fun x y H Q => rEq x y H Q ∨ rEqD K x y H Q
def rNeA (K : PySem.W.Frag) : R2 := fun x y H Q => rNe x y H Q ∨ rNeD K x y H Q
section
variable {X : Cx}
theorem op_eqD (hu : X.A.units + 64 < cLine) : OpR X (compareOp .Eq) (rEqD X.K) := by
  intro pins s σ H x y v u Q I rx ry h
  obtain ⟨dx, dy, hx, hy, sx, sy, q⟩ := h
  obtain ⟨as, ra⟩ := dp_reads I dx x v hx rx
  obtain ⟨bs, rb⟩ := dp_reads I dy y u hy ry
  exact eq_dataH ra rb sx sy hu ⟨.bl _, H, I, rfl, q⟩
theorem op_neD (hu : X.A.units + 64 < cLine) : OpR X (compareOp .NotEq) (rNeD X.K) := by
  intro pins s σ H x y v u Q I rx ry h
  obtain ⟨dx, dy, hx, hy, sx, sy, q⟩ := h
  obtain ⟨as, ra⟩ := dp_reads I dx x v hx rx
  obtain ⟨bs, rb⟩ := dp_reads I dy y u hy ry
  exact ne_dataH ra rb sx sy hu ⟨.bl _, H, I, rfl, q⟩
theorem op_eqA (hu : X.A.units + 64 < cLine) : OpR X (compareOp .Eq) (rEqA X.K) := op_eq.or (op_eqD hu)
theorem op_neA (hu : X.A.units + 64 < cLine) : OpR X (compareOp .NotEq) (rNeA X.K) := op_ne.or (op_neD hu)
end
theorem canLay_of (d : PyData) (h : shaped d = true) : d.canLay0 = true := (Bool.and_eq_true_iff.mp h).1
theorem r_eqS {K : PySem.W.Frag} {x y : V} {H : Hp} {Q : VK} (h : scal x y = true) (q : Q (.bl (decide (x = y))) H) : rEqA K x y H Q := .inl ⟨h, q⟩
theorem r_neS {K : PySem.W.Frag} {x y : V} {H : Hp} {Q : VK} (h : scal x y = true) (q : Q (.bl (!decide (x = y))) H) : rNeA K x y H Q := .inl ⟨h, q⟩
theorem r_eqT {K : PySem.W.Frag} {x y : V} {H : Hp} {Q : VK} (d : PyData) (hx : Dp K H d x) (hy : Dp K H d y) (hs : shaped d = true) (q : Q (.bl true) H) : rEqA K x y H Q :=
  .inr ⟨d, d, hx, hy, hs, hs, by rw [eqv_refl d (canLay_of d hs)]; exact q⟩
theorem r_neT {K : PySem.W.Frag} {x y : V} {H : Hp} {Q : VK} (d : PyData) (hx : Dp K H d x) (hy : Dp K H d y) (hs : shaped d = true) (q : Q (.bl false) H) : rNeA K x y H Q :=
  .inr ⟨d, d, hx, hy, hs, hs, by rw [eqv_refl d (canLay_of d hs)]; exact q⟩


def clsOf : V → Value
  | .ty n => .type n
  | .ref a => .ref a
  | _ => .none
theorem clsOf_eq {c : V} {u : Value} (r : RelV c u) (h : clsOf c ≠ .none) : u = clsOf c := by
  cases c <;> first | exact r | exact (h rfl).elim
theorem bool_index : typeLookup (.type "bool") "__index__" = pure (some (.builtin "int.__index__")) := by rw [typeLookup_type, builtinLookup_eq_fast]; kernel_rfl
theorem listSubscript_bool {M : Model} {A : Around} {E : Value → Shared → Prop} {s : Shared} {b : Bool} {Q : Option Int → Shared → Prop} (h : Q (some (if b then 1 else 0)) s) :
    wpAny M A (Builtin.List.listSubscript? (.bool b)) Q E s := by
  unfold Builtin.List.listSubscript?
  refine wpAny_bind (wpAny_specialOf (T := "bool") (show s.TypeIs (.bool b) "bool" from rfl) bool_index ?_)
  show wpAny M A (asIndex (.bool b) >>= _) Q E s
  refine wpAny_bind (wpAny_of_eq (a := if b then 1 else 0) rfl ?_)
  show wpAny M A (if (!Builtin.List.listFitsIndex (if b then 1 else 0)) = true then _ else _) Q E s
  rw [if_neg (by cases b <;> decide)]
  exact wpAny_pure h
theorem getItem_list_bool {prog : Program} {w : World} {A : Around} {E : Value → Shared → Prop} {s : Shared} {l : Addr} {items : Array Value} {b : Bool} {x : Value} {Q : Value → Shared → Prop} (hl : s.heap.IsList l items)
    (hx : items[if b then 1 else 0]? = some x) (h : Q x s) : wpAny (model prog w) A (getItem (.ref l) (.bool b)) Q E s := by
  obtain ⟨o, ho, hc, ne, hd⟩ := id hl
  unfold getItem
  try with_reducible refine wpAny_holding ?_
  first | refine wpAny_bind (wpAny_pure ?_) | skip
  refine wpAny_bind (wpAny_sequenceKey hl.typeIs (by decide) ?_)
  refine wpAny_bind (wpAny_callSpecial?_slot (name := Str.ofString "__getitem__") hl.typeIs slot_list_getitem
    (wpAny_call_entry slot_list_getitem hl.typeIs entry_list_getitem ?_ (args_list_getitem _ _)))
  show wpAny _ _ (Builtin.List.listSubscript? (.bool b) >>= _) _ _ s
  refine wpAny_bind (listSubscript_bool ?_)
  cases b with
  | true =>
    have hx' : items[1]? = some x := hx
    show wpAny _ _ ((seqItemAt l 1 >>= fun r => pure (r.map (1, ·))) >>= _) _ _ s
    refine wpAny_bind (wpAny_bind (wpAny_seqItemAt ho hd (wpAny_pure ?_)))
    rw [hx']
    first
      | exact wpAny_bind (wpAny_pure (wpAny_pure ⟨x, rfl, wpAny_pure h⟩))
      | exact wpAny_pure ⟨x, rfl, wpAny_pure h⟩
  | false =>
    have hx' : items[0]? = some x := hx
    show wpAny _ _ ((seqItemAt l 0 >>= fun r => pure (r.map (0, ·))) >>= _) _ _ s
    refine wpAny_bind (wpAny_bind (wpAny_seqItemAt ho hd (wpAny_pure ?_)))
    rw [hx']
    first
      | exact wpAny_bind (wpAny_pure (wpAny_pure ⟨x, rfl, wpAny_pure h⟩))
      | exact wpAny_pure ⟨x, rfl, wpAny_pure h⟩
def rIxB (K : PySem.W.Frag) : R2 := fun x y H Q => ∃ p xs b v, x = .ref p ∧ y = .bl b ∧ SqL K H p xs ∧ xs[if b then 1 else 0]? = some v ∧ Q v H
theorem ix_bool {X : Cx} : IxR X (rIxB X.K) := by
  intro value slice pins s σ H x y v u Q I rx ry h hs
  obtain ⟨p, xs, b, z, rfl, rfl, hq, he, q⟩ := h
  cases rx
  cases ry
  obtain ⟨its, r, pl, hz⟩ := I.list hq
  obtain ⟨w, ew, rw'⟩ := r.get he
  exact subscriptTail_builtinR (x := w) pl.isList.typeIs slot_list_getitem.lookup
    (getItem_list_bool (Q := fun r s' => r = w ∧ EP X pins σ Q r s') pl.isList (by simpa using ew) ⟨rfl, z, H, I, rw', q⟩) hs

def rIxA (K : PySem.W.Frag) : R2 := fun x y H Q => rIx K x y H Q ∨ rIxB K x y H Q
theorem ix_any {X : Cx} : IxR X (rIxA X.K) := ix_seq.or ix_bool
theorem r_ixL {K : PySem.W.Frag} {p : Addr} {xs : List V} {i : Int} {v : V} {H : Hp} {Q : VK} (h : SqL K H p xs) (e : atI xs i = some v) (q : Q v H) : rIxA K (.ref p) (.int i) H Q := .inl (.inl ⟨p, xs, i, v, rfl, rfl, h, e, q⟩)
theorem r_ixT {K : PySem.W.Frag} {p : Addr} {xs : List V} {i : Int} {v : V} {H : Hp} {Q : VK} (h : SqT K H p xs) (e : atI xs i = some v) (q : Q v H) : rIxA K (.ref p) (.int i) H Q := .inl (.inr (.inl ⟨p, xs, i, v, rfl, rfl, h, e, q⟩))
def rStr : R2 := fun x y H Q => ∃ i j, x = .str i ∧ y = .str j ∧ i.length + j.length ≤ sizeLine ∧ Q (.str (i ++ j)) H
def rPlus (K : PySem.W.Frag) : R2 := fun x y H Q => rI0 (fun i j => .int (i + j)) x y H Q ∨ rCat x y H Q ∨ rCatT K x y H Q ∨ rStr x y H Q
theorem op_plus {X : Cx} : OpR X (binaryOp .Add) (rPlus X.K) := op_add.or (op_cat.or (op_catT.or op_add_str))
theorem r_plusI {K : PySem.W.Frag} {i j : Int} {H : Hp} {Q : VK} (q : Q (.int (i + j)) H) : rPlus K (.int i) (.int j) H Q := .inl ⟨i, j, rfl, rfl, q⟩
theorem r_plusL {K : PySem.W.Frag} {a b : Addr} {xs ys : List V} {H : Hp} {Q : VK} (ha : H a = some (.lst xs)) (hb : H b = some (.lst ys)) (hz : xs.length + ys.length ≤ sizeLine) (q : ∀ p, H p = none → Q (.ref p) (upd H p (.lst (xs ++ ys)))) :
    rPlus K (.ref a) (.ref b) H Q := .inr (.inl ⟨a, b, xs, ys, rfl, rfl, ha, hb, hz, q⟩)
def rSlA (K : PySem.W.Frag) : V → Option Int → Option Int → Hp → VK → Prop := fun x lo hi H Q => rSlL K x lo hi H Q ∨ rSlT K x lo hi H Q
theorem sl_any {X : Cx} : SlR X (rSlA X.K) := sl_list.or sl_tup


structure FnE (P : Program) (w : World) (K : PySem.W.Frag) (mg : Str → Option Value) (base : Heap) (CX : CXT) (k : Nat) (x : Str) (sp : Sp) : Prop where
  ex : ∃ (f : Addr) (fd : FuncData) (ps : List Str), FnOk P w K mg base CX k f fd ps sp ∧ mg x = some (.ref f) ∧ PySem.W.keepIn K (.ref f) = true ∧ Binds K fd ps []
structure MkE (P : Program) (w : World) (K : PySem.W.Frag) (mg : Str → Option Value) (base : Heap) (CX : CXT) (k : Nat) (x : Str) (C : Addr) (sp : Sp) : Prop where
  ex : ∃ (f : Addr) (fd : FuncData) (ps : List Str), Mk K C f ∧ FnOk P w K mg base CX k f fd ps sp ∧ mg x = some (.ref C) ∧ Binds K fd ps []
def tCallE (sp : Sp) (E : XK) (t : TA) : TE := fun σ H Q => t σ H fun vs H1 => sp vs H1 Q E
section
variable {X : Cx} {CX : CXT} {k : Nat} {C : Addr} {sp : Sp} {E : XK} {x m : Str} {p pos apos : Pos} {e o : Expr} {es : List Expr} {ta : TE} {t : TA}
theorem pe_callE (G : FnE X.prog X.w X.K X.mg X.base CX k x sp) (hr : Room k X.A) (hx : Passes CX X E) (hg : Gl X x) (ha : PA X (e :: es) t) (hdb : (x == ("__debug__" : Str)) = false := by decide)
    (he : starEach (e :: es) X.env = (false, eval e X.env) :: starEach es X.env := by rfl) (hpl : (backTo pos (starEach es X.env)).any (·.1) = false := by rfl) : PE X (.Call (.Name x p) (e :: es) [] pos) (tCallE sp E t) := by
  obtain ⟨f, fd, ps, F, hm, hk, hb⟩ := G.ex
  have z := pe_call (p := p) (pos := pos) F hr hg hm hk hb .nil hx ha hdb he hpl
  intro pins s σ H Q I h
  refine z pins s σ H Q I ?_
  have e1 : tCall sp [] E t = tCallE sp E t := by
    funext σ H Q
    show t σ H (fun vs H1 => sp (vs ++ []) H1 Q E) = t σ H (fun vs H1 => sp vs H1 Q E)
    simp only [List.append_nil]
  rw [e1]; exact h
end


theorem b_len : bootBuiltins "len" = some (.builtin "len") := by decide +kernel
theorem b_isinstance : bootBuiltins "isinstance" = some (.builtin "isinstance") := by decide +kernel
theorem b_max : bootBuiltins "max" = some (.builtin "max") := by decide +kernel
theorem b_int : bootBuiltins "int" = some (.type "int") := by decide +kernel
theorem b_list : bootBuiltins "list" = some (.type "list") := by decide +kernel
def rFld (K : PySem.W.Frag) (f : Str) : V → Hp → VK → Prop := fun x H1 Q => ∃ a C dx fs v, x = .ref a ∧ H1 a = some (.ins C dx fs) ∧ Cls K C ∧ NoAttr K C f ∧ fs.lookup f = some v ∧ Q v H1
def sFldV (K : PySem.W.Frag) (f : Str) (y : V) (D : Ends) (σ : St) : V → Hp → Prop := fun x H2 => ∃ a C dx fs, x = .ref a ∧ H2 a = some (.ins C dx fs) ∧ Cls K C ∧ NoAttr K C f ∧ fs.length < 1000 ∧ D.nx σ (upd H2 a (.ins C dx (putF f y fs)))
def rLen (K : PySem.W.Frag) : List V → Hp → VK → Prop := fun xs H Q => ∃ x n, xs = [x] ∧ LenV K x H n ∧ Q (.int n) H
theorem call_lenA {X : Cx} : CallR X (.builtin "len") (rLen X.K) := call_len
theorem r_lenL {K : PySem.W.Frag} {p : Addr} {xs : List V} {H : Hp} {Q : VK} (h : SqL K H p xs) (q : Q (.int xs.length) H) : rLen K [.ref p] H Q := ⟨.ref p, xs.length, rfl, .inl ⟨xs, h, rfl⟩, q⟩
def rLst (K : PySem.W.Frag) : List V → Hp → VK → Prop := fun xs H Q => ∃ p ys, xs = [.ref p] ∧ (SqL K H p ys ∨ SqT K H p ys) ∧ ∀ l, H l = none → Q (.ref l) (upd H l (.lst ys))
theorem call_listA {X : Cx} : CallR X (.type "list") (rLst X.K) := call_list_of
theorem r_listL {K : PySem.W.Frag} {p : Addr} {xs : List V} {H : Hp} {Q : VK} (h : SqL K H p xs) (q : ∀ l, H l = none → Q (.ref l) (upd H l (.lst xs))) : rLst K [.ref p] H Q := ⟨p, xs, rfl, .inl h, q⟩
theorem r_listT {K : PySem.W.Frag} {p : Addr} {xs : List V} {H : Hp} {Q : VK} (h : SqT K H p xs) (q : ∀ l, H l = none → Q (.ref l) (upd H l (.lst xs))) : rLst K [.ref p] H Q := ⟨p, xs, rfl, .inr h, q⟩
def rTwo (g : Int → Int → Int) : List V → Hp → VK → Prop := fun xs H Q => ∃ i j, xs = [.int i, .int j] ∧ Q (.int (g i j)) H
theorem call_maxA {X : Cx} (hc : X.calm = true) : CallR X (.builtin "max") (rTwo fun i j => if j > i then j else i) := call_max2 hc
theorem r_two {g : Int → Int → Int} {i j : Int} {H : Hp} {Q : VK} (q : Q (.int (g i j)) H) : rTwo g [.int i, .int j] H Q := ⟨i, j, rfl, q⟩
theorem r_slL {K : PySem.W.Frag} {p : Addr} {xs : List V} {lo hi : Option Int} {H : Hp} {Q : VK} (h : SqL K H p xs) (q : ∀ l, H l = none → Q (.ref l) (upd H l (.lst (cutV xs lo hi)))) : rSlA K (.ref p) lo hi H Q := .inl ⟨p, xs, rfl, h, q⟩
def rTru (K : PySem.W.Frag) (x : V) (H : Hp) (Q : Bool → Hp → Prop) : Prop := ∃ k, TruV K x H k ∧ Q k H
theorem r_truB {K : PySem.W.Frag} {b : Bool} {H : Hp} {Q : Bool → Hp → Prop} (q : Q b H) : rTru K (.bl b) H Q := ⟨b, rfl, q⟩
theorem iteNT {A B : Prop} (h : B) : if (!true) = true then A else B := h
theorem sql_new {K : PySem.W.Frag} {H : Hp} {a p : Addr} {xs : List V} {o : HO} (h : SqL K H a xs) (hp : H p = none) : SqL K (upd H p o) a xs := Same.seq (same_new hp) h
theorem sqt_new {K : PySem.W.Frag} {H : Hp} {a p : Addr} {xs : List V} {o : HO} (h : SqT K H a xs) (hp : H p = none) : SqT K (upd H p o) a xs := SqT_same (same_new hp) h
theorem same_at {H H' : Hp} {q : Addr} {u : HO} (s : Same H H') (h : H q = some u) : H' q = some u := s _ _ h
theorem r_append {l : Addr} {xs : List V} {y : V} {H : Hp} {Q : VK} (h : H l = some (.lst xs)) (z : xs.length < sizeLine) (q : Q .non (upd H l (.lst (xs ++ [y])))) : rAppend (.ref l) [y] H Q := ⟨l, xs, y, rfl, rfl, h, z, q⟩
theorem ty_list {K : PySem.W.Frag} {H : Hp} {p : Addr} {xs : List V} (h : H p = some (.lst xs)) : tyV K "list" (.ref p) H := .inl ⟨rfl, xs, SqL.of h⟩

def ForW (J : It) (g : TG) (tb : TS) (D : Ends) (σ : St) (H1 : Hp) : Prop := ∃ W : Nat → Nat → St → Hp → Prop, (∃ m, W 0 m σ H1) ∧ ∀ i m σ H, W i m σ H →
  (J.stop i H ∧ D.nx σ H) ∨ (J.go i H ∧ ∃ N : St → Hp → Prop, (∀ σ' H', N σ' H' → ∃ m', m' < m ∧ W (i + 1) m' σ' H') ∧ ∀ x H', J.yld i H x H' → g x σ H' fun σ2 H2 => tb { D with nx := N, ct := N, bk := D.nx } σ2 H2)
theorem r_for {wi : TI} {g : TG} {tb : TS} {D : Ends} {σ : St} {H : Hp} (q : wi σ H fun J H1 => ForW J g tb D σ H1) : tFor wi g tb D σ H := q

def iSeq (K : PySem.W.Frag) (tl : TE) : TI := fun σ H R => tl σ H fun x H1 => ∃ a, x = .ref a ∧ (((∃ xs, SqL K H1 a xs) ∧ R (Itl K a) H1) ∨ ((∃ xs, SqT K H1 a xs) ∧ R (Itt K a) H1))
theorem r_iSeq {K : PySem.W.Frag} {tl : TE} {σ : St} {H : Hp} {R : It → Hp → Prop} (q : tl σ H fun x H1 => ∃ a, x = .ref a ∧ (((∃ xs, SqL K H1 a xs) ∧ R (Itl K a) H1) ∨ ((∃ xs, SqT K H1 a xs) ∧ R (Itt K a) H1))) : iSeq K tl σ H R := q
theorem r_rng1 {ta : TA} {σ : St} {H : Hp} {R : It → Hp → Prop} (q : ta σ H fun vs H1 => ∃ j : Int, vs = [.int j] ∧ -(2 ^ 62) ≤ j ∧ j < 2 ^ 62 ∧ R (Itr 0 j.toNat) H1) : iRng1 ta σ H R := q
theorem pi_seq {X : Cx} {tg l : Expr} {tl : TE} (hl : PE X l tl) : PI X tg l (iSeq X.K tl) := by
  intro pins s σ H R I h
  refine thn (hl pins s σ H _ I h) fun v s1 ⟨x, H1, I1, r1, q1⟩ => ?_
  obtain ⟨a, e, hq⟩ := q1
  subst e
  cases r1
  rcases hq with ⟨⟨xs, hq⟩, q⟩ | ⟨⟨xs, hq⟩, q⟩
  · obtain ⟨its, rv, p, hz⟩ := I1.list hq
    refine wpAny_pyIter_list p.isList ?_
    refine ⟨s1.heap.objs.size, [s1.heap.objs.size], _, _, H1, rfl, I1.kept (t' := s1.toks) fun b o e => Heap.get?_push_of_some _ e, turn_list a _, ⟨_, Heap.get?_push_size _ rfl, rfl, rfl⟩, fun b hb => ?_, q⟩
    have e : b = s1.heap.objs.size := by simpa using hb
    subst e
    exact I1.fpOk (Nat.le_refl _) (I1.hok.fresh (Nat.le_refl _))
  · obtain ⟨its, rv, p, hz⟩ := I1.tuple hq
    refine wpAny_pyIter_tuple (show s1.heap.IsTuple a its.toArray from p) ?_
    refine ⟨s1.heap.objs.size, [s1.heap.objs.size], _, _, H1, rfl, I1.kept (t' := s1.toks) fun b o e => Heap.get?_push_of_some _ e, turn_tuple a _, ⟨_, Heap.get?_push_size _ rfl, rfl, rfl⟩, fun b hb => ?_, q⟩
    have e : b = s1.heap.objs.size := by simpa using hb
    subst e
    exact I1.fpOk (Nat.le_refl _) (I1.hok.fresh (Nat.le_refl _))
section
variable {σ : St} {H : Hp} {Q : VK}
theorem r_var {i : Nat} {v : V} (h : σ[i]? = some (some v)) (q : Q v H) : tVar i σ H Q := ⟨v, h, q⟩
theorem r_c {v : V} (q : Q v H) : tC v σ H Q := q
theorem r_op {r : R2} {ta tb : TE} (q : ta σ H fun x H1 => tb σ H1 fun y H2 => r x y H2 Q) : tOp r ta tb σ H Q := q
theorem r_un {r : V → Hp → VK → Prop} {ta : TE} (q : ta σ H fun x H1 => r x H1 Q) : tUn r ta σ H Q := q
theorem r_U {g : Int → V} {i : Int} (q : Q (g i) H) : rU g (.int i) H Q := ⟨i, rfl, q⟩
theorem r_I0 {g : Int → Int → V} {i j : Int} (q : Q (g i j) H) : rI0 g (.int i) (.int j) H Q := ⟨i, j, rfl, rfl, q⟩
theorem r_I {C : Int → Int → Prop} {g : Int → Int → V} {i j : Int} (h : C i j) (q : Q (g i j) H) : rI C g (.int i) (.int j) H Q := ⟨i, j, rfl, rfl, h, q⟩
theorem r_cb {r : List V → Hp → VK → Prop} {t : TA} (q : t σ H fun vs H1 => r vs H1 Q) : tCB r t σ H Q := q
theorem r_callE {sp : Sp} {E : XK} {t : TA} (q : t σ H fun vs H1 => sp vs H1 Q E) : tCallE sp E t σ H Q := q
theorem r_fld {K : PySem.W.Frag} {ta : TE} {f : Str} (q : ta σ H fun x H1 => rFld K f x H1 Q) : tFld K ta f σ H Q := q
theorem r_fldV {K : PySem.W.Frag} {f : Str} {p C dx : Addr} {fs : List (Str × V)} {v : V} (h : H p = some (.ins C dx fs)) (c : Cls K C) (n : NoAttr K C f) (l : fs.lookup f = some v) (q : Q v H) : rFld K f (.ref p) H Q := ⟨p, C, dx, fs, v, rfl, h, c, n, l, q⟩
theorem r_tup {t : TA} (q : t σ H fun xs H1 => xs.length ≤ sizeLine ∧ ∀ p, H1 p = none → Q (.ref p) (upd H1 p (.tup xs))) : tTup t σ H Q := q
theorem r_lst {t : TA} (q : t σ H fun xs H1 => xs.length ≤ sizeLine ∧ ∀ p, H1 p = none → Q (.ref p) (upd H1 p (.lst xs))) : tLst t σ H Q := q
theorem r_andV {ta tb : TE} (q : ta σ H fun x H1 => ∃ c, x = .bl c ∧ if c = true then tb σ H1 Q else Q (.bl false) H1) : tAndV ta tb σ H Q := q
theorem r_if {t : TT} {ta tb : TE} (q : t σ H fun c H1 => if c = true then ta σ H1 Q else tb σ H1 Q) : tIf t ta tb σ H Q := q
theorem r_sl {r : V → Option Int → Option Int → Hp → VK → Prop} {te : TE} {tl th : TO} (q : te σ H fun x H1 => tl σ H1 fun l H2 => th σ H2 fun u H3 => r x l u H3 Q) : tSl r te tl th σ H Q := q
theorem r_bm {K : PySem.W.Frag} {T : String} {r : V → List V → Hp → VK → Prop} {to : TE} {t : TA} (q : to σ H fun x H1 => tyV K T x H1 ∧ t σ H1 fun xs H2 => r x xs H2 Q) : tBM K T r to t σ H Q := q
theorem r_bm0 {K : PySem.W.Frag} {T : String} {r : V → List V → Hp → VK → Prop} {to : TE} (q : to σ H fun x H1 => tyV K T x H1 ∧ r x [] H1 Q) : tBM0 K T r to σ H Q := q
end
section
variable {σ : St} {H : Hp} {Q : List V → Hp → Prop}
theorem r_nil (q : Q [] H) : tNil σ H Q := q
theorem r_cons {ta : TE} {tr : TA} (q : ta σ H fun x H1 => tr σ H1 fun xs H2 => Q (x :: xs) H2) : tCons ta tr σ H Q := q
end
section
variable {σ : St} {H : Hp} {Q : Option Int → Hp → Prop}
theorem r_noPart (q : Q none H) : tNoPart σ H Q := q
theorem r_part {t : TE} (q : t σ H fun x H1 => ∃ i, x = .int i ∧ Q (some i) H1) : tPart t σ H Q := q
end
section
variable {σ : St} {H : Hp} {Q : Bool → Hp → Prop}
theorem r_test {t : TE} (q : t σ H fun x H' => ∃ k, x = .bl k ∧ Q k H') : tTest t σ H Q := q
theorem r_and {t u : TT} (q : t σ H fun c H1 => if c = true then u σ H1 Q else Q false H1) : tAnd t u σ H Q := q
theorem r_or {t u : TT} (q : t σ H fun c H1 => if c = true then Q true H1 else u σ H1 Q) : tOr t u σ H Q := q
theorem r_not {t : TT} (q : t σ H fun c H1 => Q (!c) H1) : tNot t σ H Q := q
theorem r_true (q : Q true H) : tTrue σ H Q := q
def tTru (K : PySem.W.Frag) (ta : TE) : TT := fun σ H Q => ta σ H fun x H' => rTru K x H' Q
theorem pt_tru {X : Cx} {a : Expr} {ta : TE} (ha : PE X a ta) (he : ∀ whole, isTrue a X.env whole = (do let v ← whole; standAt a.pos; holding [v] (truthy v)) := by intro _; rfl) : PT X a (tTru X.K ta) := pt_truth ha he
theorem r_tru {K : PySem.W.Frag} {ta : TE} (q : ta σ H fun x H' => rTru K x H' Q) : tTru K ta σ H Q := q
end
section
variable {D : Ends} {σ : St} {H : Hp}
theorem r_next (q : D.nx σ H) : tNext D σ H := q
theorem r_seq {t u : TS} (q : t { D with nx := u D } σ H) : tSeq t u D σ H := q
theorem r_ret {te : TE} (q : te σ H D.rt) : tRet te D σ H := q
theorem r_ifS {c : TT} {t u : TS} (q : c σ H fun b H1 => if b = true then t D σ H1 else u D σ H1) : tIfS c t u D σ H := q
theorem r_asg {te : TE} {g : TG} (q : te σ H fun x H1 => g x σ H1 D.nx) : tAsg te g D σ H := q
theorem r_drop {te : TE} (q : te σ H fun _ H1 => D.nx σ H1) : tDrop te D σ H := q
theorem r_sFld {K : PySem.W.Frag} {ta tv : TE} {f : Str} (q : tv σ H fun y H1 => ta σ H1 fun x H2 => sFldV K f y D σ x H2) : sFld K ta tv f D σ H := q
theorem r_sFldV {K : PySem.W.Frag} {f : Str} {y : V} {p C dx : Addr} {fs : List (Str × V)} (h : H p = some (.ins C dx fs)) (c : Cls K C) (n : NoAttr K C f) (l : fs.length < 1000) (q : D.nx σ (upd H p (.ins C dx (putF f y fs)))) : sFldV K f y D σ (.ref p) H := ⟨p, C, dx, fs, rfl, h, c, n, l, q⟩
end
theorem ifDec {c A B : Prop} [Decidable c] (h1 : c → A) (h2 : ¬ c → B) : if decide c = true then A else B := by
  by_cases h : c
  · rw [if_pos (decide_eq_true h)]; exact h1 h
  · rw [if_neg (by rw [decide_eq_false h]; exact Bool.false_ne_true)]; exact h2 h
theorem ifDecN {c A B : Prop} [Decidable c] (h1 : ¬ c → A) (h2 : c → B) : if (!decide c) = true then A else B := by
  by_cases h : c
  · rw [if_neg (by rw [decide_eq_true h]; decide)]; exact h2 h
  · rw [if_pos (by rw [decide_eq_false h]; rfl)]; exact h1 h
theorem ifInt {a b : Int} {A B : Prop} (h1 : a = b → A) (h2 : a ≠ b → B) : if decide (V.int a = V.int b) = true then A else B :=
  ifDec (fun e => h1 (by cases e; rfl)) fun e => h2 fun z => e (by rw [z])
theorem ifIntN {a b : Int} {A B : Prop} (h1 : a ≠ b → A) (h2 : a = b → B) : if (!decide (V.int a = V.int b)) = true then A else B :=
  ifDecN (fun e => h1 fun z => e (by rw [z])) fun e => h2 (by cases e; rfl)
end L3
namespace L3
open PySem PySem.Spec PyProof.Rows L2
section
variable {P : Program} {w : World} {K : PySem.W.Frag} {mg : Str → Option Value} {base : Heap} {x qual : Str} {st : Stmt} {N ps : List Str} {sp : Sp} {C : Addr}

def BodyOk (P : Program) (w : World) (K : PySem.W.Frag) (mg : Str → Option Value) (base : Heap) (k : Nat) (qual : Str) (st : Stmt) (N : List Str) (sp : Sp) : Prop :=
  ∀ (f : Addr) (cdv : Value) (A : Around) (outer : List Env) (s : Shared) (H : Hp) (vs : List V) (Q : VK) (E : XK), Room k (A.deeper (envOfC qual (defScope st) s.heap.objs.size f cdv)) → sp vs H Q E →
    ∃ t, PSs (cxOf CX0 P w K mg base N qual (defScope st) f cdv A outer s H E).nox (defBody st) t ∧ t { nx := fun _ H' => Q .non H', rt := Q } (start N vs) H
theorem fnE_of (k : Nat) (h : ∃ f fd, Fun K x qual st f fd ∧ mg x = some (.ref f) ∧ Binds K fd ps []) (S : FnScope N ps (defScope st)) (len : ∀ vs H Q E, sp vs H Q E → vs.length = ps.length)
    (hbody : BodyOk P w K mg base k qual st N sp) : FnE P w K mg base CX0 (k + 1) x sp := by
  obtain ⟨f, fd, F, hm, hb⟩ := h
  exact ⟨f, fd, ps, F.ok S len (hbody f), hm, F.kp, hb⟩
end
end L3

namespace L3
open PySem PySem.Spec PyProof.Rows L2 PySem.SeqAt

section
variable {X : Cx} {K : PySem.W.Frag}
theorem op_plusK (h : X.K = K) : OpR X (binaryOp .Add) (rPlus K) := by subst h; exact op_plus
theorem op_eqK (h : X.K = K) (hu : X.A.units + 64 < cLine) : OpR X (compareOp .Eq) (rEqA K) := by subst h; exact op_eqA hu
theorem op_neK (h : X.K = K) (hu : X.A.units + 64 < cLine) : OpR X (compareOp .NotEq) (rNeA K) := by subst h; exact op_neA hu
theorem op_inK (h : X.K = K) : OpR X (compareOp .In) (rIn K false) := by subst h; exact op_in_seq
theorem ix_K (h : X.K = K) : IxR X (rIxA K) := by subst h; exact ix_any
theorem sl_K (h : X.K = K) : SlR X (rSlA K) := by subst h; exact sl_any
theorem pi_seqK {tg l : Expr} {tl : TE} (h : X.K = K) (hl : PE X l tl) : PI X tg l (iSeq K tl) := by subst h; exact pi_seq hl
theorem call_lenK (h : X.K = K) : CallR X (.builtin "len") (rLen K) := by subst h; exact call_lenA
theorem call_listK (h : X.K = K) : CallR X (.type "list") (rLst K) := by subst h; exact call_listA
theorem pe_fldK {e : Expr} {f : Str} {pos : Pos} {ta : TE} (h : X.K = K) (he : PE X e ta) (hb : attributeBase e f X.env (eval e X.env) = eval e X.env := by rfl) : PE X (.Attribute e f pos) (tFld K ta f) := by subst h; exact pe_fld he hb
theorem ps_fldK {o value : Expr} {f : Str} {pos pos' : Pos} {ta tv : TE} (h : X.K = K) (ha : PE X o ta) (hv : PE X value tv) (hs : swapsWith value (some (.Attribute o f pos')) pos.line X.env = pure false := by rfl) :
    PS X (.Assign [.Attribute o f pos'] value pos) (sFld K ta tv f) := by subst h; exact ps_fld ha hv hs
theorem pt_truK {a : Expr} {ta : TE} (h : X.K = K) (ha : PE X a ta) (he : ∀ whole, isTrue a X.env whole = (do let v ← whole; standAt a.pos; holding [v] (truthy v)) := by intro _; rfl) : PT X a (tTru K ta) := by subst h; exact pt_tru ha he
theorem pg_tupK {es : List Expr} {k : Nat} {t : TGs} {n : Nat} {pos : Pos} (hK : X.K = K) (hc : X.calm = true) (h : PGs X es t)
    (hn : (assignEach es X.env).length = n := by rfl) (hst : (assignEach es X.env).findIdx? (·.1) = none := by rfl) : PG X (.Tuple es k pos) (gTup K n t) := by subst hK; exact pg_tup hc h hn hst
theorem pe_bm0K {o : Expr} {to : TE} {name : Str} {apos cpos : Pos} {T id : String} {r : V → List V → Hp → VK → Prop} (h : X.K = K) (pa : PlainAttrs T) (slot : Slot T name id) (hty : typeOf (.builtin id) = pure (.type "method_descriptor")) (hm : MtR X id r) (ho : PE X o to)
    (hbase : attributeBase o name X.env (eval o X.env) = eval o X.env := by rfl) (hline : (apos.endLine == cpos.line) = true := by rfl) : PE X (.Call (.Attribute o name apos) [] [] cpos) (tBM0 K T r to) := by subst h; exact pe_bm0 pa slot hty hm ho hbase hline
theorem pe_bmK {o e : Expr} {es : List Expr} {to : TE} {t : TA} {name : Str} {apos cpos : Pos} {T id : String} {r : V → List V → Hp → VK → Prop} (h : X.K = K) (pa : PlainAttrs T) (slot : Slot T name id) (hty : typeOf (.builtin id) = pure (.type "method_descriptor")) (hm : MtR X id r) (ho : PE X o to) (ha : PA X (e :: es) t)
    (hbase : attributeBase o name X.env (eval o X.env) = eval o X.env := by rfl)
    (hfew : ((backTo cpos (starEach (e :: es) X.env)).all (fun x => !x.1) && (backToKw cpos (keywordEach [] X.env)).all (fun x => x.1.isSome)
      && decide ((e :: es).length + ([] : List Keyword).length + (if ([] : List Keyword).isEmpty then 0 else 1) < 30)) = true := by rfl)
    (hline : (apos.endLine == cpos.line) = true := by rfl) (hs : starEach (e :: es) X.env = (false, eval e X.env) :: starEach es X.env := by rfl) (hplain : (backTo cpos (starEach es X.env)).any (·.1) = false := by rfl) :
    PE X (.Call (.Attribute o name apos) (e :: es) [] cpos) (tBM K T r to t) := by subst h; exact pe_bm pa slot hty hm ho ha hbase hfew hline hs hplain
end
section
variable {X : Cx} {P : Program} {w : World} {K : PySem.W.Frag} {mg : Str → Option Value} {base : Heap} {CX : CXT} {k : Nat} {E : XK} {m : Str} {pos apos : Pos} {e o : Expr} {es : List Expr} {ta : TE} {t : TA}
end
end L3
namespace L3
open PySem PySem.Spec PyProof.Rows L2 PySem.SeqAt

theorem r_alloc {H : Hp} {R : Addr → Prop} (q : ∀ p, H p = none → R p) : ∀ p, H p = none → R p := q
theorem r_small {n : Nat} {R : Prop} (h : n ≤ sizeLine) (q : R) : n ≤ sizeLine ∧ R := ⟨h, q⟩
theorem none_same {H H' : Hp} {q : Addr} (s : Same H H') (h : H' q = none) : H q = none := by
  cases e : H q with
  | none => rfl
  | some u => rw [s _ _ e] at h; cases h
theorem same_none {H H1 : Hp} {p : Addr} {o : HO} (s : Same H H1) (h : H1 p = none) : Same H (upd H1 p o) := s.trans (same_new h)

def CInv {α : Type} (xs : List α) (f : α → V) (Sg : St → Prop) (H : Hp) (i : Nat) (ys : List V) (σ : St) (H1 : Hp) : Prop := Same H H1 ∧ Sg σ ∧ ys = (xs.take i).map f
theorem CInv.next {α : Type} {xs : List α} {f : α → V} {Sg : St → Prop} {H H1 H5 : Hp} {i : Nat} {ys : List V} {σ σ3 : St} {x : α} {y : V} (c : CInv xs f Sg H i ys σ H1) (hx : xs[i]? = some x) (e : y = f x) (s : Same H H5) (sg : Sg σ3) : CInv xs f Sg H (i + 1) (ys ++ [y]) σ3 H5 := by
  obtain ⟨_, _, rfl⟩ := c
  refine ⟨s, sg, ?_⟩
  subst e
  rw [List.take_add_one, hx, Option.toList_some, List.map_append]; rfl
theorem comp_mapR {g : TG} {tc : TT} {te : TE} {fin : List V → Hp → Prop} {σ0 : St} {H : Hp} {lo : Int} {n : Nat} (f : Nat → V) (Sg : St → Prop) (hz : n ≤ sizeLine) (h0 : Sg σ0)
    (hs : ∀ (i : Nat) (ys : List V) (σ : St) (H1 : Hp), i < n → CInv (List.range n) f Sg H i ys σ H1 → Same H H1 → Sg σ →
      g (.int (lo + i)) σ H1 fun σ3 H3 => tc σ3 H3 fun b H4 => if b = true then te σ3 H4 fun y H5 => CInv (List.range n) f Sg H (i + 1) (ys ++ [y]) σ3 H5 else CInv (List.range n) f Sg H (i + 1) ys σ3 H4)
    (hd : ∀ H1, Same H H1 → fin ((List.range n).map f) H1) : CompW (Itr lo n) g tc te fin σ0 H := by
  refine comp_range (CInv (List.range n) f Sg H) ⟨Same.refl _, h0, rfl⟩ ?_ ?_ ?_
  · rintro i ys σ H1 hi ⟨s, _, rfl⟩
    rw [List.length_map, List.length_take, List.length_range]; omega
  · intro i ys σ H1 hi c
    exact hs i ys σ H1 hi c c.1 c.2.1
  · rintro ys σ H1 ⟨s, _, rfl⟩
    rw [List.take_of_length_le (by rw [List.length_range]; exact Nat.le_refl _)]
    exact hd H1 s
theorem range_get {n i : Nat} (h : i < n) : (List.range n)[i]? = some i := by rw [List.getElem?_range h]

theorem r_62 {j : Int} {R : Prop} (h1 : -(2 ^ 62) ≤ j) (h2 : j < 2 ^ 62) (q : R) : -(2 ^ 62) ≤ j ∧ j < 2 ^ 62 ∧ R := ⟨h1, h2, q⟩
theorem r_itL {K : PySem.W.Frag} {H : Hp} {a : Addr} {xs : List V} {A B : Prop} (h : SqL K H a xs) (q : A) : ((∃ xs, SqL K H a xs) ∧ A) ∨ ((∃ xs, SqT K H a xs) ∧ B) := .inl ⟨⟨xs, h⟩, q⟩
theorem r_itT {K : PySem.W.Frag} {H : Hp} {a : Addr} {xs : List V} {A B : Prop} (h : SqT K H a xs) (q : B) : ((∃ xs, SqL K H a xs) ∧ A) ∨ ((∃ xs, SqT K H a xs) ∧ B) := .inr ⟨⟨xs, h⟩, q⟩
theorem r_tyL {K : PySem.W.Frag} {H : Hp} {p : Addr} {xs : List V} {R : Prop} (h : H p = some (.lst xs)) (q : R) : tyV K "list" (.ref p) H ∧ R := ⟨ty_list h, q⟩
theorem map_int {α : Type} (l : List α) (f : α → Int) : l.map (fun k => V.int (f k)) = (l.map f).map V.int := by rw [List.map_map]; rfl
theorem r_gN {i : Nat} {v : V} {σ σ' : St} {H : Hp} {Q : St → Hp → Prop} (h : σ.set i (some v) = σ') (q : Q σ' H) : gName i v σ H Q := by subst h; exact q
theorem r_st {N : List Str} {vs : List V} {σ' : St} {t : TS} {D : Ends} {H : Hp} (h : start N vs = σ') (q : t D σ' H) : t D (start N vs) H := by subst h; exact q
theorem r_compS' {i : Nat} {own : List Str} {fr : List (Str × Nat)} {wi : TI} {g : TG} {tc : TT} {te : TE} {D : Ends} {σ σi : St} {H : Hp} (h : innerS own fr σ = σi) (q : wi σ H fun J H1 => CompW J g tc te (fun ys H3 => ∀ p, H3 p = none → gName i (.ref p) σ (upd H3 p (.lst ys)) D.nx) σi H1) : tCompS i own fr wi g tc te D σ H := by subst h; exact q
def rIsN : R2 := fun x y H Q => y = .non ∧ Q (.bl (decide (x = .non))) H
theorem op_isNA {X : Cx} : OpR X (compareOp .Is) rIsN := op_isN
theorem r_isNr {p : Addr} {H : Hp} {Q : VK} (q : Q (.bl false) H) : rIsN (.ref p) .non H Q := ⟨rfl, q⟩
theorem r_isNn {H : Hp} {Q : VK} (q : Q (.bl true) H) : rIsN .non .non H Q := ⟨rfl, q⟩
def CShl (i j : Int) : Prop := 0 ≤ j ∧ j ≤ 1000000 ∧ ∃ k : Nat, k ≤ 1000000 ∧ i.natAbs < 2 ^ k
theorem op_shlB {X : Cx} : OpR X (binaryOp .LShift) (rI CShl fun i j => .int (i * 2 ^ j.toNat)) := opI fun i j _ _ _ _ _ hc q => by
  obtain ⟨h0, h1, k, hk, hb⟩ := hc
  have := PySem.intBits_le_iff.mpr hb
  exact lshift_int h0 (by have e : (2 : Int) ^ 27 = 134217728 := rfl; rw [e]; omega) q
theorem shl_one {j : Int} (h0 : 0 ≤ j) (h1 : j ≤ 1000000) : CShl 1 j := ⟨h0, h1, 1, by decide, by decide⟩
theorem bitAnd_wo (s t : Nat) : Builtin.bitAnd (s : Int) (Builtin.bitNot (t : Int)) = ((Bt.wo s t : Nat) : Int) := by
  have hn : ¬ (0 : Int) ≤ Builtin.bitNot (t : Int) := by unfold Builtin.bitNot; omega
  have e : (Builtin.bitNot (Builtin.bitNot (t : Int))).toNat = t := by unfold Builtin.bitNot; omega
  unfold Builtin.bitAnd
  rw [decide_eq_true (Int.natCast_nonneg s), decide_eq_false hn]
  show (s : Int) - (((s : Int).toNat &&& (Builtin.bitNot (Builtin.bitNot (t : Int))).toNat : Nat) : Int) = _
  rw [Int.toNat_natCast, e]
  have : (s &&& t) ≤ s := Nat.and_le_left
  unfold Bt.wo; omega
end L3
namespace L3
open PySem PySem.Spec PyProof.Rows L2 PySem.SeqAt

def rDict : List V → Hp → VK → Prop := fun xs H Q => ∃ a kvs, xs = [.ref a] ∧ Rd H a (.dK kvs) ∧ ∀ p, H p = none → Q (.ref p) (upd H p (.dK kvs))
theorem call_dict1 {X : Cx} : CallR X (.type "dict") rDict := by
  intro pins s σ H xs us Q I r h
  obtain ⟨a, kvs, rfl, e, q⟩ := h
  obtain ⟨u, rfl, rx⟩ := vals1 r
  cases rx
  exact d_copyOf I e fun p s' hp I' => ⟨.ref p, _, I', rfl, q p hp⟩
theorem r_dict {a : Addr} {kvs : List (Key × V)} {H : Hp} {Q : VK} (h : H a = some (.dK kvs)) (q : ∀ p, H p = none → Q (.ref p) (upd H p (.dK kvs))) : rDict [.ref a] H Q := ⟨a, kvs, rfl, .inl h, q⟩
theorem r_dnew {σ : St} {H : Hp} {Q : VK} (q : ∀ p, H p = none → Q (.ref p) (upd H p (.dK []))) : tDNewK σ H Q := q
def rBitLen : V → List V → Hp → VK → Prop := fun x xs H Q => ∃ i, x = .int i ∧ xs = [] ∧ Q (.int ((Builtin.Int.intBits i : Nat) : Int)) H
theorem mt_bitlen {X : Cx} : MtR X "int.bit_length" rBitLen := by
  intro pins s σ H x xs v us Q I rx rs h
  obtain ⟨i, rfl, rfl, q⟩ := h
  cases rs
  obtain ⟨t, rfl⟩ := (show ∃ t, v = Value.int i t from rx)
  refine call_gives F.slot_int_bit_length (typeIs_int s i t) F.entry_int_bit_length (F.args_int_bit_length_1 _) (AutoIntG2.int_bit_length_int_0 i t) ?_
  exact ⟨.int _, H, I.tok _, ⟨_, rfl⟩, q⟩
theorem r_bitlen {i : Int} {H : Hp} {Q : VK} (q : Q (.int ((Builtin.Int.intBits i : Nat) : Int)) H) : rBitLen (.int i) [] H Q := ⟨i, rfl, rfl, q⟩
theorem r_tyI {K : PySem.W.Frag} {H : Hp} {i : Int} {R : Prop} (q : R) : tyV K "int" (.int i) H ∧ R := ⟨rfl, q⟩

structure FunD (K : PySem.W.Frag) (x qual : Str) (st : Stmt) (f : Addr) (fd : FuncData) : Prop where
  ex : ∃ (oc : Value) (od : Option Addr) (da : Addr) (kV doc pm : Value) (an : Option Addr) (cdv ct : Value) (osl : Array (Option Value)) (o : Obj) (n : Nat),
    fd = PySem.W.fnOf x qual (defArgs st) (defBody st) (defScope st) (.ref da) kV doc pm an cdv ct ∧ K.lookup f = some ⟨oc, od, .func fd, osl⟩ ∧ PySem.W.codeIn K cdv qual = true ∧ K.lookup da = some o ∧ o.data = .seq #[.none] n
  kp : PySem.W.keepIn K (.ref f) = true
theorem funD_mk {K : PySem.W.Frag} {x qual : Str} {st : Stmt} {f da : Addr} {o : Obj} {oc : Value} {od an : Option Addr} {osl : Array (Option Value)} {kV doc pm cdv ct : Value} (l : K.lookup f = some ⟨oc, od, .func (PySem.W.fnOf x qual (defArgs st) (defBody st) (defScope st) (.ref da) kV doc pm an cdv ct), osl⟩)
    (d : K.lookup da = some o ∧ ∃ n, o.data = .seq #[.none] n) (c : PySem.W.codeIn K cdv qual = true) (k : PySem.W.keepIn K (.ref f) = true) : FunD K x qual st f (PySem.W.fnOf x qual (defArgs st) (defBody st) (defScope st) (.ref da) kV doc pm an cdv ct) :=
  let ⟨n, e⟩ := d.2; ⟨⟨oc, od, da, kV, doc, pm, an, cdv, ct, osl, o, n, rfl, l, c, d.1, e⟩, k⟩
section
variable {P : Program} {w : World} {K : PySem.W.Frag} {mg : Str → Option Value} {base : Heap}
theorem FunD.ok {x qual : Str} {st : Stmt} {f : Addr} {fd : FuncData} {N ps : List Str} {k : Nat} {sp : Sp} (F : FunD K x qual st f fd) (S : FnScope N ps (defScope st)) (len : ∀ vs H Q E, sp vs H Q E → vs.length = ps.length)
    (hbody : ∀ (cdv : Value) (A : Around) (outer : List Env) (s : Shared) (H : Hp) (vs : List V) (Q : VK) (E : XK), Room k (A.deeper (envOfC qual (defScope st) s.heap.objs.size f cdv)) → sp vs H Q E →
      ∃ t, PSs (cxOf CX0 P w K mg base N qual (defScope st) f cdv A outer s H E).nox (defBody st) t ∧ t { nx := fun _ H' => Q .non H', rt := Q } (start N vs) H) : FnOk P w K mg base CX0 (k + 1) f fd ps sp := by
  obtain ⟨oc, od, da, kV, doc, pm, an, cdv, ct, osl, o, n, rfl, lk, hcd, _, _⟩ := F.ex
  refine fn_of lk hcd S len fun A outer s H vs Q E hr hsp => ?_
  obtain ⟨t, h, q⟩ := hbody cdv A outer s H vs Q E hr hsp
  exact ⟨t, h.nox, q⟩
theorem FunD.bindsD {x qual : Str} {st : Stmt} {f : Addr} {fd : FuncData} {ps : List Str} (F : FunD K x qual st f fd)
    (h : ∀ (da : Addr) (kV doc pm : Value) (an : Option Addr) (cdv ct : Value) (us : List Value), us.length + 1 = ps.length → ∃ k : Option (Array Value) → Sem (List (Str × Value)), bindArgs (PySem.W.fnOf x qual (defArgs st) (defBody st) (defScope st) (.ref da) kV doc pm an cdv ct) ⟨us, []⟩ = seqItems? (.ref da) >>= k ∧ k (some #[.none]) = pure (ps.zip (us ++ [.none]))) : Binds K fd ps [.none] := by
  obtain ⟨oc, od, da, kV, doc, pm, an, cdv, ct, osl, o, n, rfl, lk, hcd, ld, ed⟩ := F.ex
  intro s us KX hl
  obtain ⟨k, h1, h2⟩ := h da kV doc pm an cdv ct us (by rw [List.length_append] at hl; exact hl)
  exact .of_defaults rfl (KX _ _ ld) ed h1 h2
end
structure MkD (P : Program) (w : World) (K : PySem.W.Frag) (mg : Str → Option Value) (base : Heap) (CX : CXT) (k : Nat) (x : Str) (C : Addr) (sp : Sp) : Prop where
  ex : ∃ (f : Addr) (fd : FuncData) (ps : List Str), Mk K C f ∧ FnOk P w K mg base CX k f fd ps sp ∧ mg x = some (.ref C) ∧ Binds K fd ps [.none]
def tMakeD (C : Addr) (sp : Sp) (E : XK) (t : TA) : TE := fun σ H Q => t σ H fun vs H1 => ∀ x dx, H1 x = none → H1 dx = none → dx ≠ x →
  sp (.ref x :: (vs ++ [.non])) (upd (upd H1 dx (.own x)) x (.ins C dx [])) (fun v H2 => v = .non ∧ Q (.ref x) H2) E
section
variable {X : Cx} {CX : CXT} {k : Nat} {C : Addr} {sp : Sp} {E : XK} {x m : Str} {p pos apos : Pos} {e o : Expr} {es : List Expr} {ta : TE} {t : TA}
theorem pe_makeD (G : MkD X.prog X.w X.K X.mg X.base CX k x C sp) (hr : Room (k + 1) X.A) (hx : Passes CX X E) (hg : Gl X x) (ha : PA X (e :: es) t) (hdb : (x == ("__debug__" : Str)) = false := by decide)
    (he : starEach (e :: es) X.env = (false, eval e X.env) :: starEach es X.env := by rfl) (hpl : (backTo pos (starEach es X.env)).any (·.1) = false := by rfl) : PE X (.Call (.Name x p) (e :: es) [] pos) (tMakeD C sp E t) := by
  obtain ⟨f, fd, ps, M, F, hm, hb⟩ := G.ex
  exact pe_make (p := p) (pos := pos) M F hr hg hm hb (.cons (show RelV .non _ from rfl) .nil) hx ha hdb he hpl
theorem r_makeD (σ : St) (H : Hp) (Q : VK) (q : t σ H fun vs H1 => ∀ x dx, H1 x = none → H1 dx = none → dx ≠ x → sp (.ref x :: (vs ++ [.non])) (upd (upd H1 dx (.own x)) x (.ins C dx [])) (fun v H2 => v = .non ∧ Q (.ref x) H2) E) : tMakeD C sp E t σ H Q := q
end
section
variable {P : Program} {w : World} {K : PySem.W.Frag} {mg : Str → Option Value} {base : Heap} {x qual : Str} {st : Stmt} {N ps : List Str} {sp : Sp} {C : Addr}
theorem mkE_ofD {y : Str} (k : Nat) (hy : mg y = some (.ref C)) (h : ∃ f fd, FunD K "__init__" qual st f fd ∧ Mk K C f ∧ Binds K fd ps [] ∧ Binds K fd ps [.none]) (S : FnScope N ps (defScope st)) (len : ∀ vs H Q E, sp vs H Q E → vs.length = ps.length)
    (hbody : BodyOk P w K mg base k qual st N sp) : MkE P w K mg base CX0 (k + 1) y C sp ∧ MkD P w K mg base CX0 (k + 1) y C sp := by
  obtain ⟨f, fd, F, hm, hb, hb2⟩ := h
  exact ⟨⟨f, fd, ps, hm, F.ok S len (hbody f), hy, hb⟩, ⟨f, fd, ps, hm, F.ok S len (hbody f), hy, hb2⟩⟩
end

theorem r_inL {K : PySem.W.Frag} {neg : Bool} {x : V} {p : Addr} {xs : List V} {H : Hp} {Q : VK} (h : SqL K H p xs) (hx : flatV x = true) (hs : xs.all flatV = true) (q : Q (.bl (if neg then !inV x xs else inV x xs)) H) : rIn K neg x (.ref p) H Q := ⟨p, xs, rfl, .inl h, hx, hs, q⟩
section
variable {K : PySem.W.Frag} {a : Addr} {xs : List V} {g : TG} {tc : TT} {te : TE} {fin : List V → Hp → Prop} {H : Hp}
theorem comp_tup {σ0 : St} (Pv : Nat → List V → St → Hp → Prop) (h0 : Pv 0 [] σ0 H) (hl : ∀ i ys σ H, i ≤ xs.length → Pv i ys σ H → SqT K H a xs ∧ ys.length ≤ sizeLine)
    (hs : ∀ i x ys σ H, xs[i]? = some x → Pv i ys σ H → g x σ H fun σ3 H3 => tc σ3 H3 fun b H4 => if b = true then te σ3 H4 fun y H5 => Pv (i + 1) (ys ++ [y]) σ3 H5 else Pv (i + 1) ys σ3 H4)
    (hd : ∀ ys σ H, Pv xs.length ys σ H → fin ys H) : CompW (Itt K a) g tc te fin σ0 H := by
  refine ⟨fun i m ys σ H => m = xs.length - i ∧ i ≤ xs.length ∧ Pv i ys σ H, ⟨xs.length, by simp, Nat.zero_le _, h0⟩, ?_⟩
  rintro i m ys σ H ⟨rfl, hi, p⟩
  obtain ⟨q, hz⟩ := hl i ys σ H hi p
  by_cases hlt : i < xs.length
  · refine .inr ⟨⟨xs, xs[i], q, by simp [hlt]⟩, Pv (i + 1), fun ys2 σ2 H2 p' => ⟨(hl (i + 1) ys2 σ2 H2 hlt p').2, xs.length - (i + 1), by omega, rfl, hlt, p'⟩, fun x H2 y => ?_⟩
    obtain ⟨e, y⟩ := y
    subst e
    exact hs i x ys σ _ (y xs q) p
  · have e : i = xs.length := by omega
    subst e
    exact .inl ⟨⟨xs, q, Nat.le_refl _⟩, hz, hd ys σ H p⟩
theorem comp_mapT {α : Type} {xs : List α} {emb : α → V} {σ0 : St} (f : α → V) (Sg : St → Prop) (hl : SqT K H a (xs.map emb)) (hz : xs.length ≤ sizeLine) (h0 : Sg σ0)
    (hs : ∀ (i : Nat) (x : α) (ys : List V) (σ : St) (H1 : Hp), xs[i]? = some x → CInv xs f Sg H i ys σ H1 → Same H H1 → Sg σ →
      g (emb x) σ H1 fun σ3 H3 => tc σ3 H3 fun b H4 => if b = true then te σ3 H4 fun y H5 => CInv xs f Sg H (i + 1) (ys ++ [y]) σ3 H5 else CInv xs f Sg H (i + 1) ys σ3 H4)
    (hd : ∀ H1, Same H H1 → fin (xs.map f) H1) : CompW (Itt K a) g tc te fin σ0 H := by
  refine comp_tup (xs := xs.map emb) (CInv xs f Sg H) ⟨Same.refl _, h0, rfl⟩ ?_ ?_ ?_
  · rintro i ys σ H1 hi ⟨s, _, rfl⟩
    refine ⟨SqT_same s hl, ?_⟩
    rw [List.length_map, List.length_take]; omega
  · intro i x ys σ H1 hx c
    rw [List.getElem?_map] at hx
    obtain ⟨z, hz, rfl⟩ := Option.map_eq_some_iff.mp hx
    exact hs i z ys σ H1 hz c c.1 c.2.1
  · rintro ys σ H1 ⟨s, _, rfl⟩
    rw [List.length_map, List.take_length]
    exact hd H1 s
end
end L3
namespace L3
open PySem PySem.Spec PyProof.Rows

section
variable {prog : Program} {w : World} {A : Around} {E : Value → Shared → Prop} {s : Shared}

end
section
variable {prog : Program} {w : World} {A : Around} {E : Value → Shared → Prop} {s : Shared}
end
end L3
namespace L3
open PySem PySem.Spec PyProof.Rows L2

end L3
namespace L3
open PySem PySem.Spec PyProof.Rows L2

end L3

namespace L3
open PySem PySem.Spec PyProof.Rows L2 PySem.SeqAt

theorem PS.nox {X : Cx} {st : Stmt} {t : TS} (h : PS X.nox st t) : PS X st t := fun pins s σ H D I hw =>
  wpAny_mono (h pins s σ H D (I.wish _) hw) (fun _ _ q => q.unwish) fun _ _ z => z.elim
theorem PA.nox {X : Cx} {es : List Expr} {t : TA} (h : PA X.nox es t) : PA X es t := fun pos pins s σ H Q I hw =>
  wpAny_mono (h pos pins s σ H Q (I.wish _) hw) (fun _ _ ⟨v, H', I', r, q⟩ => ⟨v, H', I'.unwish, r, q⟩) fun _ _ z => z.elim


theorem hok_stays {P : Program} {w : World} {H : Hp} {h0 h5 : Heap} {l : List Addr} (x : HOk P w H h0) (hl : ∀ b ∈ l, H b = none) (k : (PySem.W.hideAll h0 l).StaysIn h5) : HOk P w H h5 := fun a o e => by
  refine (x a o e).stay (fun b u hb q => k b u (PySem.W.hideAll_get _ q fun hm => ?_)) (fun _ q => q) fun _ _ q => q
  have hn := hl b hm
  rcases hb with rfl | hb
  · rw [e] at hn; cases hn
  · rw [hb] at hn; cases hn
theorem un_stays {fs : List Addr} {H H' : Hp} {h h0 h5 : Heap} {l : List Addr} (u : Un fs [] H H' h h0) (hl : ∀ b ∈ l, b ∈ fs ∨ h.objs.size ≤ b) (k : (PySem.W.hideAll h0 l).StaysIn h5) (up : h0.UpToSlots h5)
    (hf : ∀ b ∈ fs, H b = none ∧ ∀ o, h.get? b = some o → ∀ vs, o.data ≠ .fields vs) : Un fs [] H H' h h5 := by
  have nl : ∀ b o, h.get? b = some o → b ∉ fs → b ∉ l := fun b o q hb hm => by
    rcases hl b hm with z | z
    · exact hb z
    · exact absurd (Nat.lt_of_lt_of_le (Heap.lt_size q) z) (Nat.lt_irrefl _)
  have sl : ∀ b o, h.get? b = some o → b ∈ fs → ∃ sl, h5.get? b = some { o with slots := sl } := fun b o q hb => by
    obtain ⟨s1, e1⟩ := u.slot b o q (hf b hb).1 hb (by simp)
    obtain ⟨s2, e2⟩ := up b _ e1 ((hf b hb).2 o q)
    exact ⟨s2, e2⟩
  refine ⟨fun b o q n hb hx => k b o (PySem.W.hideAll_get _ (u.keep b o q n hb hx) (nl b o q hb)), fun b o q _ hb _ => sl b o q hb, u.free, fun b o q hx => ?_, u.tups, u.frzs, u.tbls⟩
  by_cases hb : b ∈ fs
  · obtain ⟨s2, e2⟩ := sl b o q hb
    exact ⟨_, e2⟩
  · obtain ⟨o', e'⟩ := u.there b o q hx
    exact ⟨o', k b o' (PySem.W.hideAll_get _ e' (nl b o q hb))⟩


end L3
namespace L3
open PySem PySem.Spec PyProof.Rows L2 PySem.SeqAt

theorem frs_body {X : Cx} (hst : X.stack = X.env :: X.outer) (hfr : X.env.frame = some X.env.locals) : frs X.stack = X.env.locals :: frs X.outer := by
  rw [hst]; unfold frs; rw [List.filterMap_cons, hfr]

end L3
namespace L3
open PySem PySem.Spec PyProof.Rows L2 PySem.SeqAt
section
variable {P : Program} {w : World} {K : PySem.W.Frag} {mg : Str → Option Value} {base : Heap} {x qual : Str} {st : Stmt} {N ps : List Str} {sp : Sp} {C : Addr} {k : Nat}

end

section
variable {X : Cx} {pins : List (Addr × Obj)} {σ : St} {H : Hp} {s : Shared}

theorem goes_ok {M : Model} {A : Around} {E : Value → Shared → Prop} {i : Nat} {n : Str} {pos : Pos} {Q : Unit → Shared → Prop} (I : Inv X pins σ H s) (hN : X.N.Nodup) (hi : X.N[i]? = some n) (hk : X.env.scope.names.lookup n = some .local)
    (h : ∀ s', Inv X pins (σ.set i none) H s' → Q () s') : wpAny M A (do bindName X.env n .none; unbindBehindTheSuite X.env n pos) Q E s := by
  obtain ⟨m, hn, hl⟩ := id I.loc
  have hiσ : i < σ.length := by rw [I.len]; exact (List.getElem?_eq_some_iff.mp hi).1
  have cne := I.cne
  obtain ⟨oL, _, _, hoL, _⟩ := id hn
  refine wpAny_nameGoes_keeps hk hn (by rw [I.ok.kind]; rfl) fun h' v hn' hs => h _ ?_
  have lo : ∀ b o, X.s₀.heap.get? b = some o → h'.get? b = s.heap.get? b := fun b o e => hs.2 b (Nat.ne_of_lt (Nat.lt_of_lt_of_le (Heap.lt_size e) I.ok.above))
  refine ⟨I.ok, I.os, I.bare, ⟨fun b o e n hb hx => ?_, fun b o e n hb hx => ?_, I.base.free, fun b o e hx => ?_, I.base.tups, I.base.frzs, I.base.tbls⟩, ⟨_, hn', fun j y v' e1 e2 e3 => ?_⟩, fun y c e => ?_, I.free, I.freeC, fun p hp => ?_, fun b ob e => ?_, by simpa using I.len⟩
  · rw [lo b o e]; exact I.base.keep b o e n hb hx
  · rw [lo b o e]; exact I.base.slot b o e n hb hx
  · rw [lo b o e]; exact I.base.there b o e hx
  · by_cases hj : j = i
    · subst hj
      rw [List.getElem?_set_self hiσ] at e2
      cases e2
    · rw [List.getElem?_set_ne (Ne.symm hj)] at e2
      obtain ⟨u', r', q⟩ := hl j y v' e1 e2 e3
      refine ⟨u', r', ?_⟩
      rcases q with ⟨k, e⟩ | ⟨k, c, e, z⟩
      · have ne : y ≠ n := fun e => hj (nodup_ix hN e1 (e ▸ hi))
        exact .inl ⟨k, by simp [ne, e]⟩
      · exact .inr ⟨k, c, e, z.sameBut hs (cne y c e)⟩
  · obtain ⟨w', z⟩ := I.cell y c e
    exact ⟨w', z.sameBut hs (cne y c e)⟩
  · obtain ⟨e, n, ne, nf, d⟩ := I.pin p hp
    exact ⟨(hs.2 p.1 ne).trans e, n, ne, nf, d⟩
  · refine (I.hok b ob e).stay (fun c w' hc q => (hs.2 c ?_).trans q) (fun _ q => q) fun _ _ q => q
    rintro rfl
    have hf := I.free
    rcases hc with hc | hc
    · rw [hc, e] at hf; cases hf
    · rw [hc] at hf; cases hf


abbrev Cx.sup (X : Cx) (e : Addr) (pl : List (Addr × Obj)) : Cx := { X with A := X.A.mark (some (.ref e)), calm := false, xe := fun _ _ => False, pn := X.pn ++ pl }
theorem Cx.Ok.sup {e : Addr} {pl : List (Addr × Obj)} (ok : X.Ok) : (Cx.sup X e pl).Ok :=
  ⟨ok.mod, ok.kind, ok.glob, ok.blt, ok.above, ok.inj, ok.has, ok.cab, (fun z => by cases z), ok.frames, ok.stk, ok.exf, ok.bs, ok.bsz, ok.noex, ok.exfs, ok.funs, ok.frf⟩
theorem Cx.Ok.unsup {e : Addr} {pl : List (Addr × Obj)} (ok : (Cx.sup X e pl).Ok) (h : X.calm = true → X.A.handled = none) : X.Ok :=
  ⟨ok.mod, ok.kind, ok.glob, ok.blt, ok.above, ok.inj, ok.has, ok.cab, h, ok.frames, ok.stk, ok.exf, ok.bs, ok.bsz, ok.noex, ok.exfs, ok.funs, ok.frf⟩
theorem Inv.sup {e : Addr} {pl : List (Addr × Obj)} (I : Inv X pins σ H s) (h : ∀ p ∈ pl, s.heap.get? p.1 = some p.2 ∧ H p.1 = none ∧ p.1 ≠ X.env.locals ∧ p.1 ∉ X.fs ∧ ∀ v, p.2.data ≠ .cell v) : Inv (Cx.sup X e pl) pins σ H s :=
  ⟨Cx.Ok.sup I.ok, I.os, I.bare, I.base, I.loc, I.cell, I.free, I.freeC, fun p hp => by
    rcases List.mem_append.mp hp with hp | hp
    · rcases List.mem_append.mp hp with hp | hp
      · exact I.pin p (List.mem_append_left _ hp)
      · exact h p hp
    · exact I.pin p (List.mem_append_right _ hp), I.hok, I.len⟩
theorem Inv.unsup {e : Addr} {pl : List (Addr × Obj)} (I : Inv (Cx.sup X e pl) pins σ H s) (h : X.calm = true → X.A.handled = none) : Inv X pins σ H s :=
  ⟨Cx.Ok.unsup I.ok h, I.os, I.bare, I.base, I.loc, I.cell, I.free, I.freeC, fun p hp => by
    rcases List.mem_append.mp hp with hp | hp
    · exact I.pin p (List.mem_append_left _ (List.mem_append_left _ hp))
    · exact I.pin p (List.mem_append_right _ hp), I.hok, I.len⟩
end
end L3
namespace L3
open PySem PySem.Spec PyProof.Rows L2 PySem.SeqAt


abbrev TB := Ends → XK → St → Hp → Prop
section
variable {X : Cx} {pins : List (Addr × Obj)} {σ : St} {H : Hp} {s : Shared} {k : Nat} {g x n : Str} {sp : Sp} {e : Expr} {es : List Expr} {t : TA} {gp cpos pos py : Pos}

end
end L3
namespace L3
open PySem PySem.Spec PyProof.Rows L2 PySem.SeqAt
section
variable {X : Cx} {pins : List (Addr × Obj)} {σ : St} {H H1 H' : Hp} {s s1 s' : Shared} {ea C : Addr}

theorem landed_at {h0 h5 : Heap} {l : List Addr} (I : Inv X pins σ H1 s1) (os : s'.os = s1.os) (bare : AllBare s'.gens) (u : Un (frs X.stack) [] H1 H' s1.heap h0) (hok : HOk X.prog X.w H' h0)
    (hl : ∀ b ∈ l, H' b = none ∧ (b ∈ frs X.stack ∨ s1.heap.objs.size ≤ b)) (k : (PySem.W.hideAll h0 l).StaysIn h5) (up : h0.UpToSlots h5) : Inv X pins σ H' { s' with heap := h5 } :=
  I.call' (s' := { s' with heap := h5 }) os (un_stays u (fun b hb => (hl b hb).2) k up fun b hb => ⟨I.stkFree b hb, fun o q => by
    obtain ⟨_, o', q', d⟩ := I.stack.mem hb
    rw [q] at q'; cases q'; exact d⟩) (hok_stays hok (fun b hb => (hl b hb).1) k) bare (fun b z => absurd z (by simp))

end
end L3
namespace L3
open PySem PySem.Spec PyProof.Rows L2 PySem.SeqAt PySem.W Builtin Builtin.ObjectAttr Builtin.Getset_descriptor

structure ExcK (K : PySem.W.Frag) (C : Addr) : Prop where
  cl : (PySem.W.clsIn K C).isSome = true
  ga : PySem.W.findIn K (.ref C) "__getattribute__" = some (some (.builtin "BaseException.__getattribute__"))
  gt : PySem.W.findIn K (.ref C) "__getattr__" = some none
  co : PySem.W.findIn K (.ref C) "__class__" = some (some (.builtin "object.__class__"))
  gs : PySem.W.specialIn K (.builtin "object.__class__") "__get__" = some (some (.builtin "getset_descriptor.__get__"))
  tk : PySem.W.takesIn K (.builtin "object.__class__") = some true
  mo : PySem.W.mroIn K C (.type "object") = some true
  mb : PySem.W.mroIn K C (.type "BaseException") = some true
section
variable {prog : Program} {w : World} {A : Around} {E : Value → Shared → Prop} {s : Shared} {K : PySem.W.Frag} {x C : Addr} {ox : Obj}
theorem exc_type {M : Model} {h : Heap} (hx : h.get? x = some ox) (hc : ox.cls = .ref C) : Looks M h (typeOf (.ref x)) (.ref C) := by
  rw [← hc]; exact (Looks.ld hx).andThen .now
theorem exc_get {R : Result → Shared → Prop} {tp : Value} (X : K.In s.heap) (hx : s.heap.get? x = some ox) (hc : ox.cls = .ref C) (F : ExcK K C) (h : R (.ok (.ret (.ref C))) s) :
    codeAny (model prog w) A (.call (.builtin "getset_descriptor.__get__") ⟨[.builtin "object.__class__", .ref x, tp], []⟩) R s := by
  obtain ⟨hh, g, dr, t, os⟩ := s
  have LT := exc_type (M := model prog w) hx hc
  have LM := looks_mroIn (M := model prog w) X F.mo
  have hty : Shared.TypeIs ⟨hh, g, dr, t, os⟩ (.builtin "object.__class__") "getset_descriptor" := KF.type_class
  refine codeAny_call_builtin KF.slot_gs.plain KF.entry_gs ?_
  refine KF.slot_gs.check _ _ _ _ _ _ _ _ hty (KF.args_gs _ _ _) ?_
  unfold Builtin.«getset_descriptor.__get__» descrGet
  rw [dga_obj]
  refine wpAny_bind (wpAny_pure ?_)
  unfold descrGetter descrCheckInstance descrNameAndClass PySem.isInstance
  simp only [KF.owner_class]
  repeat lk
  refine ⟨Code.quiet_builtin _ (by decide +kernel), codeAny_builtin KF.entry_class ?_⟩
  unfold Builtin.«object.__class__» PySem.shownTypeOf
  repeat lk
  exact h
theorem exc_find {M : Model} {h : Heap} (X : K.In h) (F : ExcK K C) : Looks M h (find (.ref x) (.ref C) "__class__") (.bind (.builtin "getset_descriptor.__get__") (.builtin "object.__class__")) := by
  refine (looks_findIn (M := M) X F.co).andThen ?_
  refine (show Looks M h (getOf (some (.builtin "object.__class__"))) (some (.builtin "getset_descriptor.__get__")) from looks_specialIn X F.gs).andThen ?_
  have L3 := looks_takesIn (M := M) X F.tk
  exact (show Looks M h (dataDescriptor? (some (.builtin "object.__class__")) (some (.builtin "getset_descriptor.__get__"))) (some (.builtin "getset_descriptor.__get__", .builtin "object.__class__")) from L3.andThen .now).andThen (Looks.tag .now)
end
end L3
namespace L3
open PySem PySem.Spec PyProof.Rows L2 PySem.SeqAt PySem.W Builtin Builtin.ObjectAttr Builtin.Getset_descriptor
section
variable {prog : Program} {w : World} {A : Around} {E : Value → Shared → Prop} {s : Shared} {K : PySem.W.Frag} {x C : Addr} {ox : Obj}
theorem exc_entry {Q : Fin → Shared → Prop} {tk : Tok} (X : K.In s.heap) (hx : s.heap.get? x = some ox) (hc : ox.cls = .ref C) (F : ExcK K C) (h : Q (.done (.ret (.ref C))) s) :
    wpAny (model prog w) A (Builtin.«object.__getattribute__» ⟨[.ref x, .str "__class__" tk], []⟩) Q E s := by
  obtain ⟨hh, g, dr, t, os⟩ := s
  have LT := exc_type (M := model prog w) hx hc
  have LF := exc_find (M := model prog w) (x := x) X F
  unfold Builtin.«object.__getattribute__»
  repeat (first | with_reducible refine wpAny_call ?_ | lk)
  refine exc_get X hx hc F ?_
  repeat lk
  exact h
theorem exc_check {M : Model} {nameV : Value} {Q : Unit → Shared → Prop} (X : K.In s.heap) (hx : s.heap.get? x = some ox) (hc : ox.cls = .ref C) (F : ExcK K C) (h : Q () s) :
    wpAny M A (checkBuiltinCall "BaseException.__getattribute__" ⟨[.ref x, nameV], []⟩) Q E s := by
  obtain ⟨hh, g, dr, t, os⟩ := s
  have LT := exc_type (M := M) hx hc
  have LM := looks_mroIn (M := M) X F.mb
  have k1 : builtinKind "BaseException.__getattribute__" = some .slot := by decide +kernel
  have k2 : splitId "BaseException.__getattribute__" = some ("BaseException", "__getattribute__") := by decide +kernel
  have k3 := PySem.F.args_bexc_ga (.ref x) nameV
  simp only [checkBuiltinCall, k1, k2]
  refine wpAny_bind ?_
  unfold PySem.isInstance
  repeat lk
  exact h
theorem exc_class {Q : Option Value → Shared → Prop} (X : K.In s.heap) (hx : s.heap.get? x = some ox) (hc : ox.cls = .ref C) (F : ExcK K C) (h : Q (some (.ref C)) { s with toks := s.toks + 1 }) :
    wpAny (model prog w) A (getAttr? (.ref x) "__class__") Q E s := by
  obtain ⟨hh, g, dr, t, os⟩ := s
  have LT := exc_type (M := model prog w) hx hc
  have LG := looks_findIn (M := model prog w) X F.ga
  have LH := looks_findIn (M := model prog w) X F.gt
  unfold getAttr? getAttrBy? getAttrBy
  refine wpAny_bind (wpAny_mkText (wpAny_bind (wpAny_attempt (wpAny_holding (wpAny_bind (LT.at ?_))))))
  refine wpAny_bind (LG.at ?_)
  have n1 : (onTheHeap (.ref C) && Value.builtin "BaseException.__getattribute__" == Value.builtin "object.__getattribute__") = false := by
    show (true && Value.builtin "BaseException.__getattribute__" == Value.builtin "object.__getattribute__") = false
    decide +kernel
  show wpAny _ _ (if (onTheHeap (.ref C) && Value.builtin "BaseException.__getattribute__" == Value.builtin "object.__getattribute__") = true then _ else getAttrByItsOwn _ _ _ _ _ _) _ _ _
  rw [n1, if_neg Bool.false_ne_true]
  unfold getAttrByItsOwn hookBefore
  refine wpAny_bind (LH.at ?_)
  refine wpAny_bind (wpAny_attempt (wpAny_holding ?_))
  have b1 := PySem.F.excAttr_ValueError.ga.bind (.ref x)
  show wpAny _ _ (boundAndCalled _ _ _) _ _ _
  unfold boundAndCalled
  rw [b1]
  refine wpAny_bind (wpAny_pure ?_)
  refine wpAny_call (codeAny_call_builtin PySem.F.excAttr_ValueError.ga.plain PySem.F.entry_bexc_ga (exc_check (s := ⟨hh, g, dr, t + 1, os⟩) X hx hc F (exc_entry (s := ⟨hh, g, dr, t + 1, os⟩) X hx hc F ?_)))
  exact handed_on rfl (wpAny_pure h)
theorem exc_kit (hc : ox.cls = .ref C) (F : ExcK K C) : KitX K (.ref x) (.ref C) (fun h => h.get? x = some ox) where
  ty := fun _ _ _ p => exc_type p hc
  it := fun _ _ X _ => by
    obtain ⟨cd, hcd⟩ := Option.isSome_iff_exists.mp F.cl
    unfold clsIn at hcd
    split at hcd
    · rename_i hlk
      intro A' Q' E' s' k q
      unfold isType loadHead
      exact wpAny_bind (wpAny_loadPart (k _ _ (X _ _ hlk)) (wpAny_pure q))
    · cases hcd
  ne := fun h tp dd its n sl X htp => by
    obtain ⟨cd, hcd⟩ := Option.isSome_iff_exists.mp F.cl
    refine Bool.eq_false_iff.mpr fun q => ?_
    have e : C = tp := Value.ref.inj (beq_iff_eq.mp q)
    subst e
    unfold clsIn at hcd
    split at hcd
    · rename_i hlk
      have z := (X _ _ hlk).symm.trans htp
      cases z
    · cases hcd
  ca := fun X p k => exc_class X p hc F k

def rIsiX (K : PySem.W.Frag) (ea C : Addr) : List V → Hp → VK → Prop := fun xs H Q => ∃ c b, xs = [.ref ea, c] ∧ clsOf c ≠ .none ∧ kitOne K (.ref C) (clsOf c) = some b ∧ Q (.bl b) H
theorem call_isiX {X : Cx} {ea : Addr} {oe : Obj} (hp : (ea, oe) ∈ X.pn) (hc : oe.cls = .ref C) (F : ExcK X.K C) : CallR X (.builtin "isinstance") (rIsiX X.K ea C) := by
  intro pins s σ H xs us Q I r h
  obtain ⟨c, b, rfl, hn, e, q⟩ := h
  obtain ⟨u, w', rfl, rx, rc⟩ := vals2 r
  cases clsOf_eq rc hn
  cases (show u = Value.ref ea from rx)
  exact kia_one (exc_kit hc F) I.kIn (I.pin (ea, oe) (List.mem_append_left _ hp)).1 e (fun z => nomatch z) fun tk => ⟨.bl b, H, I.tok _, rfl, q⟩
theorem r_isiX {K : PySem.W.Frag} {ea C : Addr} {c : V} {H : Hp} {Q : VK} {b : Bool} (hc : clsOf c ≠ .none) (e : kitOne K (.ref C) (clsOf c) = some b) (q : Q (.bl b) H) : rIsiX K ea C [.ref ea, c] H Q := ⟨c, b, rfl, hc, e, q⟩
theorem call_isiXK {X : Cx} {K : PySem.W.Frag} {ea C : Addr} {oe : Obj} (h : X.K = K) (hp : (ea, oe) ∈ X.pn) (hc : oe.cls = .ref C) (F : ExcK K C) : CallR X (.builtin "isinstance") (rIsiX K ea C) := by subst h; exact call_isiX hp hc F

end
end L3
namespace L3
open PySem PySem.Spec PyProof.Rows L2 PySem.SeqAt

section
variable {X : Cx} {k : Nat} {g : Str} {sp : Sp} {e c : Expr} {es : List Expr} {t : TA} {gp cpos pos : Pos} {b1 b2 : List Stmt} {tc : TT} {t1 t2 : TB}
end
section
variable {X : Cx} {v : Expr} {tv : TE} {x y : Str} {j1 j2 : Nat} {p0 p1 p2 p3 : Pos}
end
end L3
namespace L3
open PySem PySem.Spec PyProof.Rows

section
variable {prog : Program} {w : World} {A : Around} {E : Value → Shared → Prop} {s : Shared}
end
section
variable {prog : Program} {w : World} {A : Around} {E : Value → Shared → Prop} {s : Shared}
end
end L3
namespace L3
open PySem PySem.Spec PyProof.Rows L2

end L3
namespace L3
open PySem PySem.Spec PyProof.Rows L2 PySem.SeqAt

end L3
namespace FB
open PySem PySem.Spec PyProof.Rows L2 L3 PySem.SeqAt


def gI (xs : List Int) (i : Int) : Int := xs.getD i.toNat 0
def sI (xs : List Int) (i v : Int) : List Int := xs.set i.toNat v
theorem sI_len (xs : List Int) (i v : Int) : (sI xs i v).length = xs.length := by unfold sI; exact List.length_set ..
theorem gI_at {xs : List Int} {i : Int} (h0 : 0 ≤ i) (h1 : i < xs.length) : atI (xs.map V.int) i = some (.int (gI xs i)) := by
  have e : i = ((i.toNat : Nat) : Int) := by omega
  have hl : i.toNat < xs.length := by omega
  have z : atI (xs.map V.int) ((i.toNat : Nat) : Int) = some (.int (gI xs i)) := atI_nat (by
    rw [List.getElem?_map, List.getElem?_eq_getElem hl]
    simp [gI, List.getD, List.getElem?_eq_getElem hl])
  rw [← e] at z; exact z
theorem r_lenI {K : PySem.W.Frag} {p : Addr} {xs : List Int} {H : Hp} {Q : VK} (h : SqL K H p (xs.map V.int)) (q : Q (.int xs.length) H) : rLen K [.ref p] H Q := r_lenL h (by rw [List.length_map]; exact q)
def cutI (xs : List Int) (lo hi : Option Int) : List Int := (xs.drop (HT.sIx xs.length 0 lo)).take (HT.sIx xs.length xs.length hi - HT.sIx xs.length 0 lo)
theorem cutV_map (xs : List Int) (lo hi : Option Int) : cutV (xs.map V.int) lo hi = (cutI xs lo hi).map V.int := by
  unfold cutV cutI; rw [List.length_map, List.map_take, List.map_drop]
theorem cutI_len (xs : List Int) (lo hi : Option Int) : (cutI xs lo hi).length ≤ xs.length := by
  unfold cutI; rw [List.length_take, List.length_drop]; omega
theorem cutI_take (xs : List Int) {k : Int} (h0 : 0 ≤ k) : cutI xs none (some k) = xs.take k.toNat := by
  unfold cutI
  have e : HT.sIx xs.length 0 none = 0 := rfl
  have e2 : HT.sIx xs.length xs.length (some k) = min k.toNat xs.length := by
    show (if k < 0 then _ else _) = _
    rw [if_neg (by omega)]
  rw [e, e2, List.drop_zero, Nat.sub_zero]
  rcases Nat.le_total k.toNat xs.length with h | h
  · rw [Nat.min_eq_left h]
  · rw [Nat.min_eq_right h, List.take_length, List.take_of_length_le h]
theorem r_slI {K : PySem.W.Frag} {p : Addr} {xs : List Int} {lo hi : Option Int} {H : Hp} {Q : VK} (h : SqL K H p (xs.map V.int)) (q : ∀ l, H l = none → Q (.ref l) (upd H l (.lst ((cutI xs lo hi).map V.int)))) : rSlA K (.ref p) lo hi H Q :=
  r_slL h (by rw [cutV_map]; exact q)
structure Adr where
  C_Row : Addr
  C_Set : Addr
  C_Copy : Addr
  C_Add : Addr
  C_Sub : Addr
  C_Mul : Addr
  C_Less : Addr
  C_Grow : Addr
  C_Shrink : Addr
  C_Put : Addr
  C_Get : Addr
  C_Jump : Addr
  C_Branch : Addr
  C_Call : Addr
  C_Back : Addr
  C_Drop : Addr
  C_Reckoning : Addr
  C_Reaching : Addr
  C_FrameError : Addr
  C_NoRow : Addr
  C_NoTable : Addr
  C_NoText : Addr
  C_Table : Addr
  C_Reading : Addr
  C_Machine : Addr
  C_Astray : Addr
  C_NoProgram : Addr
  C_NoLine : Addr
  C_NoName : Addr
  G_START : Addr
  G_WHICH : Addr
  G_COUNTS : Addr
def cellAt (ns : List Int) (k : Int) : Int := ns.getD k.toNat 0
def spCellAt (K : PySem.W.Frag) : Sp := fun vs H Q _ => ∃ (p : Addr) (ns : List Int) (k : Int), vs = [.ref p, .int k] ∧ SqL K H p (ns.map V.int) ∧ 0 ≤ k ∧ Q (.int (cellAt ns k)) H
theorem r_cellAt {K : PySem.W.Frag} {p : Addr} {ns : List Int} {k : Int} {H : Hp} {Q : VK} {E : XK} (h : SqL K H p (ns.map V.int)) (h0 : 0 ≤ k) (q : Q (.int (cellAt ns k)) H) : spCellAt K [.ref p, .int k] H Q E := ⟨p, ns, k, rfl, h, h0, q⟩
theorem cellAt_out {ns : List Int} {k : Int} (h0 : 0 ≤ k) (h : ¬ k < ns.length) : cellAt ns k = 0 := by
  unfold cellAt
  rw [List.getD_eq_getElem?_getD, List.getElem?_eq_none (by omega)]
  rfl
def spLaw (K : PySem.W.Frag) : Sp := fun vs H Q _ => ∃ (a : Addr) (ns : List Int), vs = [.ref a] ∧ SqL K H a (ns.map V.int) ∧ ns.length ≤ 63 ∧ ∀ H', Q (.bl true) H'
theorem look_of {fs : List (Str × V)} {f g : Str} {v w : V} (h : f ≠ g) (e : fs.lookup f = some w) : (putF g v fs).lookup f = some w := by rw [lookup_putF, if_neg h]; exact e
theorem look_hit {fs : List (Str × V)} {f : Str} {v : V} : (putF f v fs).lookup f = some v := by rw [lookup_putF, if_pos rfl]
theorem len_of {fs : List (Str × V)} {f : Str} {v : V} {n : Nat} (e : fs.length ≤ n) : (putF f v fs).length ≤ n + 1 := Nat.le_trans (length_putF _ _ _) (Nat.succ_le_succ e)
end FB
namespace L3
open PySem PySem.Spec PyProof.Rows L2 PySem.SeqAt

section
variable {prog : Program} {w : World} {A : Around} {E : Value → Shared → Prop} {h : Heap} {g : Array GenState} {d : Drawn} {t : Nat} {os : OsState}
variable {nm q : Str} {C N : Addr} {bs bm bmB : List Value} {hdct : Bool} {sn : List Str} {sub : List Value} {ab : Bool} {col : Option Bool} {dd : Option Addr} {k0 k1 k2 k3 k5 : Option Value} {B Bn newId nid initId inN : String} {bmN : List Value}
theorem exc_made_init (Fn : ExcBaseFacts Bn newId inN bmN) (hBn : bmB.contains (.type Bn) = true) (F : ExcBaseFacts B nid initId bmB) (T : OwnTail h bmB bm) {mN : Str → Option Value} {rest : List Value} {fI : Addr} {oI : Obj} {Q : Fin → Shared → Prop}
    (hC : h.get? C = some (excClassObj nm q C N bs bm hdct sn sub ab col dd k0 k1 k2 k3 k5 newId)) (hn : h.Ns N mN) (hi : mN "__init__" = some (.ref fI)) (hfI : h.get? fI = some oI) (hfc : oI.cls = .type "function")
    (hq : ∀ h' e, Heap.MadeExcOf h h' e (.ref C) rest → h.objs.size ≤ e → wpAny (model prog w) A (call (.ref fI) (.ref e :: rest)) (fun r s' => r = .none ∧ Q (.done (.ret (.ref e))) s') E ⟨h', g, d, t, os⟩) (hrest : rest.length ≤ sizeLine) :
    wpAny (model prog w) A (Builtin.«type.__call__» ⟨.ref C :: rest, []⟩) Q E ⟨h, g, d, t, os⟩ := by
  repeat (first | with_reducible refine wpAny_loadPart_at hC ?_ | with_reducible refine wpAny_madeBy_exc hC ?_ | wp_step)
  refine codeAny_call_builtin_code (Code.quiet_builtin _ Fn.quiet) (wpAny_check_new_subU Fn hBn T hC (codeAny_exc_new_subU Fn hBn F T hC ?_ hrest))
  show wpAny _ _ _ _ _ _
  have up : ∀ b o, h.get? b = some o → ((h.push { cls := .type "tuple", data := .seq rest.toArray }).push { cls := .ref C, data := .fields #[.ref h.objs.size, .none, .none, .none, .bool false, .none] }).get? b = some o :=
    fun b o e => Heap.get?_push_of_some _ (Heap.get?_push_of_some _ e)
  have hget : ((h.push { cls := .type "tuple", data := .seq rest.toArray }).push { cls := .ref C, data := .fields #[.ref h.objs.size, .none, .none, .none, .bool false, .none] }).get? (h.objs.size + 1) = some
      { cls := .ref C, data := .fields #[.ref h.objs.size, .none, .none, .none, .bool false, .none] } := by heap_get
  have htup : ((h.push { cls := .type "tuple", data := .seq rest.toArray }).push { cls := .ref C, data := .fields #[.ref h.objs.size, .none, .none, .none, .bool false, .none] }).get? h.objs.size = some { cls := .type "tuple", data := .seq rest.toArray } :=
    Heap.get?_push_of_some _ (Heap.get?_push_at rfl rfl)
  have hC' := up _ _ hC
  have hf' := up _ _ hfI
  have hn' := hn.keeps up
  have T' := T.keeps up
  have hm : Heap.MadeExcOf h ((h.push { cls := .type "tuple", data := .seq rest.toArray }).push { cls := .ref C, data := .fields #[.ref h.objs.size, .none, .none, .none, .bool false, .none] }) (h.objs.size + 1) (.ref C) rest :=
    ⟨up, Heap.get?_none_of_le (Nat.le_succ _), h.objs.size, hget, Heap.get?_none_of_le (Nat.le_refl _), htup⟩
  have go := hq _ _ hm (Nat.le_succ _)
  generalize ((h.push { cls := .type "tuple", data := .seq rest.toArray }).push { cls := .ref C, data := .fields #[.ref h.objs.size, .none, .none, .none, .bool false, .none] }) = h1 at *
  generalize h.objs.size + 1 = e at *
  have hcC : (Value.ref C :: bm).contains (.ref C) = true := by simp
  unfold isInstance
  repeat (first | with_reducible refine wpAny_loadPart_at hget ?_ | (with_reducible refine wpAny_isSubtype_exc hC' ?_; rw [hcC]) | wp_step)
  show wpAny _ _ (typeLookup (.ref C) _) _ _ _
  refine wpAny_typeLookup_tail hC' hn' T' F.mroIs F.init.lookup ?_
  rw [hi]
  refine wpAny_holding (wpAny_bind ?_)
  unfold bindSpecial
  refine wpAny_bind (wpAny_typeOf (T := "function") ⟨_, hf', hfc⟩ ?_)
  rw [if_pos (by decide)]
  refine wpAny_pure (wpAny_bind (wpAny_mono go (fun r s' hr => ?_) fun _ _ x => x))
  obtain ⟨rfl, hQ⟩ := hr
  wp_walk
  exact hQ
theorem exc_call_init (Fn : ExcBaseFacts Bn newId inN bmN) (hBn : bmB.contains (.type Bn) = true) (F : ExcBaseFacts B nid initId bmB) (T : OwnTail h bmB bm) {mN : Str → Option Value} {rest : List Value} {fI : Addr} {oI : Obj} {Q : Value → Shared → Prop}
    (hC : h.get? C = some (excClassObj nm q C N bs bm hdct sn sub ab col dd k0 k1 k2 k3 k5 newId)) (hn : h.Ns N mN) (hi : mN "__init__" = some (.ref fI)) (hfI : h.get? fI = some oI) (hfc : oI.cls = .type "function")
    (hq : ∀ h' e, Heap.MadeExcOf h h' e (.ref C) rest → h.objs.size ≤ e → wpAny (model prog w) (A.under (.builtin "type.__call__" ⟨.ref C :: rest, []⟩)) (call (.ref fI) (.ref e :: rest)) (fun r s' => r = .none ∧ Q (.ref e) s') E ⟨h', g, d, t, os⟩) (hrest : rest.length ≤ sizeLine) :
    wpAny (model prog w) A (call (.ref C) rest) Q E ⟨h, g, d, t, os⟩ := by
  have f1 := tc_lookup
  have f2 := tc_bind (.ref C)
  have hT : (⟨h, g, d, t, os⟩ : Shared).TypeIs (.ref C) "type" := ⟨_, hC, rfl⟩
  refine wpAny_call (codeAny_of_tree ?_)
  show wpAny _ _ (callAny (.ref C) _) _ _ _
  repeat (any_goals (first | assumption | with_reducible refine wpAny_loadPart_at hC ?_ | wp_step))
  exact ⟨rfl, codeAny_call_builtin_at (Code.quiet_builtin _ (by decide +kernel)) entry_typeCall (wpAny_check_type_call_sub hC (exc_made_init Fn hBn F T hC hn hi hfI hfc (fun h' e hm hz => hq h' e hm hz) hrest))⟩
end
end L3
namespace L3
open PySem PySem.Spec PyProof.Rows L2 PySem.SeqAt

def XB (e C : Addr) (od : Option Addr) : HO := .ext fun h => ∃ t, h.get? e = some { cls := .ref C, dict := od, data := .fields #[.ref t, .none, .none, .none, .bool false, .none] }
theorem xb_ok {P : Program} {w : World} {H : Hp} {h : Heap} {e C t : Addr} {od : Option Addr} (q : h.get? e = some { cls := .ref C, dict := od, data := .fields #[.ref t, .none, .none, .none, .bool false, .none] }) : ObjOk P w H h e (XB e C od) :=
  ⟨⟨t, q⟩, ⟨_, q⟩, fun _ _ ⟨t, z⟩ k => ⟨t, k _ z⟩⟩
theorem xb_at {P : Program} {w : World} {H : Hp} {h : Heap} {e C : Addr} {od : Option Addr} (x : HOk P w H h) (q : H e = some (XB e C od)) : ∃ t, h.get? e = some { cls := .ref C, dict := od, data := .fields #[.ref t, .none, .none, .none, .bool false, .none] } := (x e _ q).1
theorem upd_id {H : Hp} {a : Addr} {o : HO} (h : H a = some o) : upd H a o = H := by
  funext b; unfold upd; split
  · rename_i z; rw [z, h]
  · rfl
theorem ns_some_of {K : PySem.W.Frag} {h : Heap} {N : Addr} {mN : Str → Option Value} {n : Str} {v : Value} (X : K.In h) (G : h.Ns N mN) (e : PySem.W.nsIn K N n = some (some v)) : mN n = some v := by
  obtain ⟨o, es, ep, ho, hd, _, hf⟩ := G
  unfold PySem.W.nsIn at e
  split at e
  · rename_i q
    have := X _ _ q
    rw [ho] at this
    cases this
    cases hd
    split at e
    · rename_i y he
      rw [← hf]
      unfold nsFind findBy
      rw [← Array.find?_toList, he]
      exact Option.some.inj e
    · split at e <;> cases e
  · cases e

def excWith (K : PySem.W.Frag) (C f : Addr) : Bool := match K.lookup C with
  | some ⟨.type "type", _, .cls cd, sl⟩ => (match cd.mro, sl.toList with
    | .ref C' :: bm, [_, _, _, _, some (.builtin n), _] => C' == C && n == "ValueError.__new__" && !cd.hasDel && PySem.W.tailIn K [.type "ValueError", .type "Exception", .type "BaseException", .type "object"] bm && PySem.W.nsOkIn K cd.ns && PySem.W.nsIn K cd.ns "__init__" == some (some (.ref f)) && PySem.W.typeIn K (.ref f) == some (.type "function")
    | _, _ => false)
  | _ => false
structure ExcI (K : PySem.W.Frag) (mg : Str → Option Value) (x : Str) (C f : Addr) : Prop where
  glob : mg x = some (.ref C)
  ex : excWith K C f = true
theorem ExcI.obj {K : PySem.W.Frag} {mg : Str → Option Value} {x : Str} {C f : Addr} {h : Heap} (c : ExcI K mg x C f) (X : K.In h) :
    ∃ (bm : List Value) (N : Addr) (nm qn : Str) (bs : List Value) (hd : Bool) (sn : List Str) (sub : List Value) (ab : Bool) (col : Option Bool) (dd : Option Addr) (k0 k1 k2 k3 k5 : Option Value) (mN : Str → Option Value) (o : Obj),
      h.get? C = some (excClassObj nm qn C N bs bm hd sn sub ab col dd k0 k1 k2 k3 k5 "ValueError.__new__") ∧ h.Ns N mN ∧ mN "__init__" = some (.ref f) ∧
      OwnTail h [.type "ValueError", .type "Exception", .type "BaseException", .type "object"] bm ∧ h.get? f = some o ∧ o.cls = .type "function" := by
  have hq := c.ex
  unfold excWith at hq
  split at hq
  · rename_i dd cd sl hlk
    split at hq
    · rename_i C' bm k0 k1 k2 k3 id k5 hmro hsl
      simp only [Bool.and_eq_true, Bool.not_eq_true', beq_iff_eq] at hq
      obtain ⟨⟨⟨⟨⟨⟨e1, e2⟩, e3⟩, e4⟩, e5⟩, e6⟩, e7⟩ := hq
      subst e1 e2
      obtain ⟨nm, bs, mro, ns, qn, hd, sn, sub, ab, col, del⟩ := cd
      dsimp only at hmro e3 e5 e6
      subst hmro e3
      obtain ⟨sl⟩ := sl
      dsimp only at hsl
      subst hsl
      obtain ⟨o, ho, hoc⟩ := Option.map_eq_some_iff.mp e7
      have G : h.Ns ns (h.nsMap ns) := .of_isNs (PySem.W.isNs_of_in X e5)
      exact ⟨bm, ns, nm, qn, bs, hd, sn, sub, ab, col, dd, k0, k1, k2, k3, k5, _, o, X _ _ hlk, G, ns_some_of X G e6, PySem.W.tail_of_in X e4, X _ _ ho, hoc⟩
    · cases hq
  · cases hq

structure BaseI (K : PySem.W.Frag) (mg : Str → Option Value) (x : Str) (B : Addr) : Prop where
  glob : mg x = some (.ref B)
  sp : PySem.W.specialIn K (.ref B) "__getattribute__" = some (some (.builtin "type.__getattribute__"))
  rd : PySem.W.readsIn K B (.type "type") = true
  fc : (match PySem.W.findCls K (.ref B) (.type "type") "__init__" with | some (.val v) => v == .builtin "ValueError.__init__" | _ => false) = true
def tBase (C : Addr) (t : TA) : TE := fun σ H Q => t σ H fun vs H1 => ∃ e u, vs = [.ref e, u] ∧ H1 e = some (XB e C none) ∧ Q .non H1
theorem pe_baseInit {X : Cx} {x y : Str} {B C f : Addr} {np apos cpos : Pos} {a0 : Expr} {as : List Expr} {t : TA} {pl : Sem Bool} (b : BaseI X.K X.mg x B) (c : ExcI X.K X.mg y C f) (hg : Gl X x) (ha : PA X (a0 :: as) t) (hdb : (x == ("__debug__" : Str)) = false := by decide)
    (hs : starEach (a0 :: as) X.env = (false, eval a0 X.env) :: starEach as X.env := by rfl) (hplain : (backTo cpos (starEach as X.env)).any (·.1) = false := by rfl)
    (ht : eval (.Call (.Attribute (.Name x np) "__init__" apos) (a0 :: as) [] cpos) X.env = (do
      let ov ← eval (.Name x np) X.env
      standAt apos.atName
      let (f, first) ← holding [ov] (getMethod ov "__init__" pl)
      callWith cpos f first (backTo cpos (starEach (a0 :: as) X.env)) (backToKw cpos (keywordEach [] X.env))) := by rfl) :
    PE X (.Call (.Attribute (.Name x np) "__init__" apos) (a0 :: as) [] cpos) (tBase C t) := by
  intro pins s σ H Q I h
  refine PySem.W.methodCall_KW (pl := pl) (ld_glob I hg b.glob ?_ hdb) ht
  have fc := b.fc
  split at fc
  · rename_i v hv
    have ev : v = .builtin "ValueError.__init__" := beq_iff_eq.mp fc
    subst ev
    refine PySem.W.method_cls I.kIn b.sp (PySem.W.cls_value I.kIn b.rd hv (by decide +kernel) ?_)
    have hA := ha cpos pins _ σ H _ (I.tok (s.toks + 1)) h
    rw [hs] at hA ⊢
    refine Calls.callWith_builtin (first := []) (by show (false || (backTo cpos (starEach as X.env)).any (·.1)) = false; rw [hplain] <;> rfl) (Calls.evalArgs_plain ?_)
    refine thn hA fun us s2 ⟨vs, H2, I2, r2, e, u, ev, he, q⟩ => ?_
    subst ev
    obtain ⟨t, he'⟩ := xb_at I2.hok he
    obtain ⟨bm, N', nm, qn, bs, hd, sn, sub, ab, col, dd, k0, k1, k2, k3, k5, mN, o, hC, hN, hni, TL, hf, hfc⟩ := c.obj I2.kIn
    obtain ⟨v1, v2, rfl, rv1, rv2⟩ := vals2 r2
    cases (show v1 = Value.ref e from rv1)
    obtain ⟨hp, g, d, tk, os⟩ := s2
    refine wpAny_call (codeAny_call_builtin PySem.F.excBase_ValueError.init.plain PySem.F.excBase_ValueError.initEntry (wpAny_check_init_subU PySem.F.excBase_ValueError TL hC he' rfl ?_))
    wp_walk
    refine ⟨.non, H2, ?_, rfl, q⟩
    have ep : (hp.push { cls := .type "tuple", data := .seq #[v2] }).get? e = some { cls := .ref C, dict := none, data := .fields #[.ref t, .none, .none, .none, .bool false, .none] } := Heap.get?_push_of_some _ he'
    have e0 : ((hp.push { cls := .type "tuple", data := .seq #[v2] }).update e (Obj.mapFields (·.setIfInBounds 0 (Value.ref hp.objs.size)))).get? e = some { cls := .ref C, dict := none, data := .fields #[.ref hp.objs.size, .none, .none, .none, .bool false, .none] } :=
      Heap.get?_update_self _ ep rfl
    have I3 := I2.write (t' := tk) (x := e) (e := e) (o := XB e C none) (h' := (hp.push { cls := .type "tuple", data := .seq #[v2] }).update e (Obj.mapFields (·.setIfInBounds 0 (Value.ref hp.objs.size)))) (by rw [he]; exact True.intro) (.inl rfl)
      (fun b u hb z => (Heap.get?_update_other _ _ (Ne.symm hb)).trans (Heap.get?_push_of_some _ z)) ⟨_, e0⟩ (xb_ok (t := hp.objs.size) e0)
    rw [upd_id he] at I3
    exact I3
  · cases fc
end L3
namespace L3
open PySem PySem.Spec PyProof.Rows L2 PySem.SeqAt PySem.W Builtin Builtin.ObjectAttr

abbrev excTail : List Value := [.type "ValueError", .type "Exception", .type "BaseException", .type "object"]
def onlyExc : List Value → Bool
  | .ref _ :: r => onlyExc r
  | l => l == excTail
theorem refuse_exc (self : Value) : ∀ {l : List Value}, onlyExc l = true → refuseLoop self "__setattr__" l = pure ()
  | [], e => by cases e
  | v :: r, e => by
    cases v with
    | ref c => rw [refuseLoop_ref]; exact refuse_exc self e
    | _ => rw [beq_iff_eq.mp (show ((_ :: r) == excTail) = true from e)]; exact PySem.F.store_ValueError.passes self
theorem exc_has : ∀ {l : List Value}, onlyExc l = true → l.contains (.type "object") = true
  | [], e => by cases e
  | v :: r, e => by
    cases v with
    | ref c => rw [List.contains_cons, exc_has (l := r) e, Bool.or_true]
    | _ => rw [beq_iff_eq.mp (show ((_ :: r) == excTail) = true from e)]; decide +kernel
structure ExcS (K : PySem.W.Frag) (C : Addr) (name : Str) : Prop where
  sa : PySem.W.findIn K (.ref C) "__setattr__" = some (some (.builtin "object.__setattr__"))
  mro : ((PySem.W.clsIn K C).any fun cd => onlyExc cd.mro) = true
  no : PySem.W.findIn K (.ref C) name = some none
  hd : ((PySem.W.clsIn K C).any (·.hasDict)) = true
section
variable {prog : Program} {w : World} {A : Around} {E : Value → Shared → Prop} {s : Shared} {K : PySem.W.Frag} {x C t : Addr} {name : Str} {v : Value}
theorem osa_exc {ox : Obj} {tk : Tok} {R : Result → Shared → Prop} (X : K.In s.heap) (I : PySem.W.InstAt s.heap x ox C none) (S : ExcS K C name)
    (h : ∀ b, wpAny (model prog w) A.in1 (storeInOwnDict (.ref x) (.ref C) (.str name tk) name v b) (fun fin s' => match fin with | .done f => R (.ok f) s' | .again c' => c'.quiet = true ∧ codeAny (model prog w) A c' R s') (fun e s' => R (.error e) s') s) :
    codeAny (model prog w) A (.call (.builtin "object.__setattr__") ⟨[.ref x, .str name tk, v], []⟩) R s := by
  have SF := PySem.F.store_object
  obtain ⟨cd, hc, ho⟩ := PySem.W.any_some S.mro
  have ne : cd.mro.isEmpty = false := by cases q : cd.mro with | nil => rw [q] at ho; cases ho | cons _ _ => rfl
  have sub : PySem.W.Looks (model prog w) s.heap (isInstance (.ref x) (.type "object")) true := I.type.andThen (PySem.W.looks_mroIn X (by unfold PySem.W.mroIn; rw [hc, Option.bind_some, if_neg (by rw [ne]; decide), exc_has ho]))
  refine codeAny_call_builtin SF.slot.plain SF.entry (@check_slot (model prog w) _ _ s "object.__setattr__" "object" "__setattr__" (.ref x) [.str name tk, v] [] _ SF.kind SF.split sub (SF.args (.ref x) (.str name tk) v) ?_)
  have hm : PySem.W.Looks (model prog w) s.heap (mroOf (.ref C)) cd.mro := (PySem.W.looks_clsIn X hc).andThen .now
  rw [PySem.W.osa_eq, refuse_eq]
  refine wpAny_bind (wpAny_bind (I.type.here (wpAny_bind (hm.here ?_))))
  rw [refuse_exc _ ho]
  refine wpAny_pure (wpAny_bind (I.type.here (wpAny_bind ((PySem.W.looks_findIn X S.no).here (wpAny_bind (wpAny_pure ?_))))))
  exact h _
theorem set_exc {Q : Unit → Shared → Prop} (X : K.In s.heap) (hx : s.heap.get? x = some { cls := .ref C, dict := none, data := .fields #[.ref t, .none, .none, .none, .bool false, .none] }) (S : ExcS K C name)
    (h : ∀ h' tk, h'.Ns1 s.heap.objs.size (fun y => if y = name then some v else none) → h'.get? x = some { cls := .ref C, dict := some s.heap.objs.size, data := .fields #[.ref t, .none, .none, .none, .bool false, .none] } → (∀ b o, b ≠ x → s.heap.get? b = some o → h'.get? b = some o) → Q () { s with heap := h', toks := tk }) :
    wpAny (model prog w) A (setAttr (.ref x) name v) Q E s := by
  have J : PySem.W.InstAt s.heap x { cls := .ref C, dict := none, data := .fields #[.ref t, .none, .none, .none, .bool false, .none] } C none := ⟨hx, rfl, rfl, True.intro⟩
  refine PySem.W.set_plain X J S.sa (osa_exc (s := { s with toks := s.toks + 1 }) X J S fun b => ?_)
  obtain ⟨cd, hc, hd'⟩ := PySem.W.any_some S.hd
  obtain ⟨hp, g, d, tk, os⟩ := s
  have hx₁ : (hp.push { cls := .type "dict", data := .dict #[] }).get? x = some { cls := .ref C, dict := none, data := .fields #[.ref t, .none, .none, .none, .bool false, .none] } := Heap.get?_push_of_some _ hx
  have hxs : x ≠ hp.objs.size := Nat.ne_of_lt (Heap.lt_size hx)
  refine wpAny_bind (wpAny_pure (wpAny_bind (wpAny_bind (wpAny_loadPart hx (wpAny_bind (PySem.W.Looks.here (s := ⟨hp, g, d, tk + 1, os⟩) (PySem.W.looks_clsIn X hc) ?_))))))
  rw [hd']
  refine wpAny_bind (wpAny_alloc' ?_)
  refine wpAny_bind (wpAny_update' hx₁ ?_)
  have hgd : ((hp.push { cls := .type "dict", data := .dict #[] }).update x fun o => { cls := o.cls, dict := some hp.objs.size, data := o.data, slots := o.slots }).get? hp.objs.size = some { cls := .type "dict", data := .dict #[] } :=
    (Heap.get?_update_ne _ _ _ _ hxs.symm).trans (Heap.get?_push_at rfl rfl)
  have hge : ((hp.push { cls := .type "dict", data := .dict #[] }).update x fun o => { cls := o.cls, dict := some hp.objs.size, data := o.data, slots := o.slots }).get? x = some { cls := .ref C, dict := some hp.objs.size, data := .fields #[.ref t, .none, .none, .none, .bool false, .none] } :=
    Heap.get?_update_self _ hx₁ rfl
  have hnd : ((hp.push { cls := .type "dict", data := .dict #[] }).update x fun o => { cls := o.cls, dict := some hp.objs.size, data := o.data, slots := o.slots }).Ns hp.objs.size (fun _ => none) :=
    ⟨_, #[], _, hgd, rfl, fun e he => absurd he (by simp), fun _ => rfl⟩
  refine wpAny_pure ?_
  show wpAny _ _ (storeInDict hp.objs.size (.str name tk) name v) _ _ _
  unfold storeInDict newKeyGuard
  refine wpAny_bind (wpAny_pure (wpAny_bind (wpAny_nsSet1 (Heap.Ns1.of_empty hnd) fun h' hn' hs => ?_)))
  obtain ⟨oD, esD, epD, hoD, hdD, hcD⟩ := hn'.count (Within.cons name v Within.nil)
  refine wpAny_bind (wpAny_lookBehind hoD (by rw [hdD]; exact pastItsLine_dict (Nat.le_trans hcD (by rw [List.length_cons, List.length_nil, sizeLine_eq]; omega))) ?_)
  refine wpAny_pure ?_
  exact h h' _ hn' ((hs.2 x hxs).trans hge) fun b o hb z => (hs.2 b (Nat.ne_of_lt (Heap.lt_size z))).trans ((Heap.get?_update_ne _ _ _ _ hb).trans (Heap.get?_push_of_some _ z))
end
end L3
namespace L3
open PySem PySem.Spec PyProof.Rows L2 PySem.SeqAt
section
variable {X : Cx} {pins : List (Addr × Obj)} {σ : L2.St} {H : Hp} {s : Shared} {a C : Addr} {f : Str} {A : Around} {E : Value → Shared → Prop}
theorem setattrX_ok {y : V} {u : Value} {Q : Unit → Shared → Prop} (I : Inv X pins σ H s) (e : H a = some (XB a C none)) (S : ExcS X.K C f) (ry : RelV y u)
    (h : ∀ d s', H d = none → Inv X pins σ (upd (upd H d (.xd [(f, y)])) a (XB a C (some d))) s' → Q () s') : wpAny (model X.prog X.w) A (setAttr (.ref a) f u) Q E s := by
  obtain ⟨t, hx⟩ := xb_at I.hok e
  refine set_exc I.kIn hx S fun h' tk hn hx' hk => h s.heap.objs.size _ (I.hok.fresh (Nat.le_refl _)) ?_
  have fr := I.hok.fresh (Nat.le_refl s.heap.objs.size)
  have na : a ≠ s.heap.objs.size := Nat.ne_of_lt (Heap.lt_size hx)
  have nd : ∀ b o, s.heap.get? b = some o → b ≠ s.heap.objs.size := fun b o z => Nat.ne_of_lt (Heap.lt_size z)
  have oth : ∀ b, b ≠ a → b ≠ s.heap.objs.size → upd (upd H s.heap.objs.size (.xd [(f, y)])) a (XB a C (some s.heap.objs.size)) b = H b := fun b h1 h2 => by rw [upd_ne h1, upd_ne h2]
  have nm : ∀ b, H b = none → b ≠ a := fun b z q => by rw [q, e] at z; cases z
  have nt : ∀ b o, H b = some o → (∀ φ, o ≠ .ext φ) → b ≠ a := fun b o z q r => by rw [r, e] at z; exact q _ (Option.some.inj z).symm
  refine I.un (t' := tk) ⟨fun b o q n hb _ => hk b o (nm b n) q, fun b o q n hb _ => ⟨o.slots, hk b o (nm b n) q⟩, fun b o q n _ => ?_, fun b o q _ => ?_, fun b xs q => ?_, fun b o u q => ?_, fun b ps q => ⟨#[], ?_⟩⟩ fun b o q => ?_
  · rw [oth b (nm b n) (nd b o q)]; exact n
  · by_cases hb : b = a
    · subst hb; exact ⟨_, hx'⟩
    · exact ⟨o, hk b o hb q⟩
  · rw [oth b (nt b _ q fun _ z => nomatch z) (ne_of_none q fr)]; exact q
  · rw [oth b (nt b _ q fun _ z => nomatch z) (ne_of_none q fr)]; exact q
  · rw [oth b (nt b _ q fun _ z => nomatch z) (ne_of_none q fr), Array.append_empty]; exact q
  · by_cases hb : b = a
    · subst hb
      rw [upd_same] at q
      cases q
      exact xb_ok hx'
    · rw [upd_ne hb] at q
      by_cases hd : b = s.heap.objs.size
      · subst hd
        rw [upd_same] at q
        cases q
        refine ⟨_, hn, fun g => ?_⟩
        show RelO (List.lookup g [(f, y)]) (if g = f then some u else none)
        by_cases z : g = f
        · subst z
          rw [if_pos rfl, List.lookup_cons, beq_self_eq_true]; exact ry
        · rw [if_neg z, List.lookup_cons, beq_eq_false_iff_ne.mpr z]; exact True.intro
      · rw [upd_ne hd] at q
        refine (I.hok b o q).stay (fun c v hc z => hk c v (fun r => ?_) z) (fun c z => ?_) fun c xs z => ?_
        · subst r
          rcases hc with hc | hc
          · exact hb hc.symm
          · rw [e] at hc; cases hc
        · rw [oth c (nt c _ z fun _ z => nomatch z) (ne_of_none z fr)]; exact z
        · rw [oth c (nt c _ z fun _ z => nomatch z) (ne_of_none z fr)]; exact z
end

def sX (K : PySem.W.Frag) (ta tv : TE) (f : Str) : TS := fun D σ H => tv σ H fun y H1 => ta σ H1 fun x H2 => ∃ a C, x = .ref a ∧ H2 a = some (XB a C none) ∧ ExcS K C f ∧ ∀ d, H2 d = none → D.nx σ (upd (upd H2 d (.xd [(f, y)])) a (XB a C (some d)))
theorem ps_setX {X : Cx} {o value : Expr} {ta tv : TE} {f : Str} {pos pos' : Pos} (ha : PE X o ta) (hv : PE X value tv) (hs : swapsWith value (some (.Attribute o f pos')) pos.line X.env = pure false) : PS X (.Assign [.Attribute o f pos'] value pos) (sX X.K ta tv f) := by
  intro pins s σ H D I h
  refine plainObj_wpAny_Assign_Attribute (thn (hv pins s σ H _ I h) fun u s1 ⟨y, H1, I1, ry, q⟩ => thn (ha pins s1 σ H1 _ I1 q) fun ov s2 ⟨x, H2, I2, rx, a, C, ex, ea, S, q2⟩ => ?_) hs
  subst ex
  obtain rfl : ov = Value.ref a := rx
  exact setattrX_ok I2 ea S ry fun d s3 hd I3 => ⟨σ, _, I3, q2 d hd⟩

def spXInit (C : Addr) (f : Str) : Sp := fun vs H Q _ => ∃ (e : Addr) (i : Int), vs = [.ref e, .int i] ∧ H e = some (XB e C none) ∧ i.natAbs.log2 < 1900 ∧ ∀ d, H d = none → Q .non (upd (upd H d (.xd [(f, .int i)])) e (XB e C (some d)))
end L3
namespace L3
open PySem PySem.Spec PyProof.Rows L2 PySem.SeqAt

def FlyD (base : Heap) (l : List Env) (e : Addr) (cls : Value) (od : Option Addr) (fl : Value) (h : Heap) : Prop :=
  base.StaysIn h ∧ base.get? e = none ∧ h.FunFrames base l ∧ ∃ oe vs T oT ts, h.get? e = some oe ∧ oe.cls = cls ∧ oe.dict = od ∧ oe.data = .fields vs ∧ vs[1]? = some (.ref T) ∧ base.get? T = none ∧ T ≠ e ∧ h.get? T = some oT ∧ oT.data = .fields ts ∧ ts[3]? = some fl
theorem mapFields_dict (f : Array Value → Array Value) (o : Obj) : (Obj.mapFields f o).dict = o.dict := by
  obtain ⟨c, d, dt, sl⟩ := o
  cases dt <;> rfl
section
variable {M : Model} {A : Around} {E : Value → Shared → Prop} {s : Shared}

theorem not_rec {h : Heap} {x : Addr} {o : Obj} {vs : Array Value} (hx : h.get? x = some o) (hd : o.data = .fields vs) {b : Addr} {u : Obj} (hb : h.get? b = some u) (hn : ∀ ws, u.data ≠ .fields ws) : b ≠ x := fun q => by
  rw [q, hx] at hb
  cases hb
  exact hn vs hd
theorem entryD {base : Heap} {env : Env} {outer : List Env} {L e : Addr} {oe : Obj} {vs : Array Value} {head : Value} {hadNext : Bool} {Q : Unit → Shared → Prop}
    (hfr : A.frames = some (env :: outer)) (hl : s.heap.FunFrames base (env :: outer)) (hf : env.frame = some L) (he : s.heap.get? e = some oe) (hkb : base.StaysIn s.heap) (hen : base.get? e = none) (hd : oe.data = .fields vs) (hsz : 1 < vs.size)
    (h : ∀ h', FlyD base (env :: outer) e oe.cls oe.dict (rawInt L) h' → s.heap.UpToSlots h' → Q () { s with heap := h' }) :
    wpAny M A (do let a ← frameOf env; let pl ← entryPlaceOf L hadNext; let b ← EntryCells.newEntry head a .none (rawInt L) .none pl; setField (.ref e) 1 b) Q E s := by
  have hene : e ∉ (env :: outer).filterMap (·.frame) := fun hm => by
    obtain ⟨_, o, ho, hnf⟩ := hl.mem hm
    exact not_rec he hd ho hnf rfl
  refine wpAny_bind (wpAny_frameOf_fun hfr hl hf fun h₁ hs₁ => wpAny_bind (wpAny_entryPlaceOf fun pl hpl => ?_))
  unfold EntryCells.newEntry newFields
  refine wpAny_bind (wpAny_newObj_type ?_ (hpl.sizeOk5 _ _ _ _ _))
  have he₁ : h₁.get? e = some oe := (hs₁.2.1 e hene).trans he
  have kb₁ : base.StaysIn h₁ := fun b o hbo => (hs₁.2.1 b fun hm => by rw [(hl.mem hm).1] at hbo; cases hbo).trans (hkb b o hbo)
  have hts : ∃ ts : Array Value, ([head, .ref L, .none, rawInt L, .none] ++ (if pl.isEmpty then List.replicate 6 Value.none else pl)).toArray = ts ∧ ts[3]? = some (rawInt L) := ⟨_, rfl, by first | (simp; done) | (rcases hpl with rfl | ⟨_, _, _, _, _, _, _, rfl⟩ <;> simp)⟩
  obtain ⟨ts, ets, h3⟩ := hts
  rw [ets]
  have he₂ := Heap.get?_push_of_some (h := h₁) { cls := .type "traceback", dict := none, data := .fields ts } he₁
  have hTe : h₁.objs.size ≠ e := Nat.ne_of_gt (Heap.lt_size he₁)
  refine wpAny_setField he₂ hd hsz (h _ ?_ ?_)
  · have hd₃ := Obj.data_mapFields hd (·.setIfInBounds 1 (Value.ref h₁.objs.size))
    have he₃ := Heap.get?_update_self (Obj.mapFields (·.setIfInBounds 1 (Value.ref h₁.objs.size))) he₂ (Obj.isFreed_of_fields hd₃)
    have ot : ∀ b o, b ≠ e → h₁.get? b = some o → ((h₁.push { cls := .type "traceback", dict := none, data := .fields ts }).update e (Obj.mapFields (·.setIfInBounds 1 (Value.ref h₁.objs.size)))).get? b = some o := fun b o hb z =>
      (Heap.get?_update_other _ _ (Ne.symm hb)).trans (Heap.get?_push_of_some _ z)
    refine ⟨fun b o z => ot b o (fun q => by rw [q, hen] at z; cases z) (kb₁ b o z), hen, hl.of_keeps fun b o z hn => ?_, ?_⟩
    · obtain ⟨sl, z'⟩ := hs₁.2.2 b o z
      exact ⟨_, ot b _ (not_rec he hd z hn) z', rfl⟩
    · refine ⟨_, _, h₁.objs.size, { cls := .type "traceback", dict := none, data := .fields ts }, ts, he₃, Obj.cls_mapFields _ _, mapFields_dict _ _, hd₃, by simp [hsz], kb₁.fresh, hTe, ?_, rfl, h3⟩
      exact (Heap.get?_update_other _ _ (Ne.symm hTe)).trans (Heap.get?_push_size h₁ rfl)
  · intro b o z hn
    obtain ⟨sl, z'⟩ := hs₁.2.2 b o z
    exact ⟨sl, (Heap.get?_update_other _ _ (Ne.symm (not_rec he hd z hn))).trans (Heap.get?_push_of_some _ z')⟩

theorem noteD {base : Heap} {env : Env} {outer : List Env} {L e : Addr} {cls : Value} {od : Option Addr} {Q : Unit → Shared → Prop} (hfr : A.frames = some (env :: outer)) (hf : env.frame = some L) (hfl : FlyD base (env :: outer) e cls od .none s.heap)
    (h : ∀ h', FlyD base (env :: outer) e cls od (rawInt L) h' → s.heap.UpToSlots h' → Q () { s with heap := h' }) : wpAny M A (noteFrame (.ref e) env) Q E s := by
  obtain ⟨hkb, hen, hl, oe, vs, T, oT, ts, he, rfl, rfl, hd, h1, hnT, hTe, hT, hdT, h3⟩ := hfl
  unfold noteFrame
  simp only [hf]
  refine wpAny_bind (wpAny_field he hd h1 ?_)
  rw [if_pos (show (Value.ref T != Value.none) = true from by simp)]
  refine wpAny_bind (wpAny_field hT hdT h3 ?_)
  rw [if_neg (show ¬ ((Value.none == rawInt L) = true) from by simp [rawInt])]
  refine wpAny_bind (wpAny_setField hT hdT (Array.getElem?_eq_some_iff.mp h3).1 ?_)
  have ot : ∀ b, b ≠ T → (s.heap.update T (Obj.mapFields (·.setIfInBounds 3 Value.none))).get? b = s.heap.get? b := fun b hb => Heap.get?_update_other _ _ (Ne.symm hb)
  refine entryD hfr (hl.of_keeps fun b o hb hnf => ⟨o, (ot b (not_rec hT hdT hb hnf)).trans hb, rfl⟩) hf ((ot e (Ne.symm hTe)).trans he) (fun b o z => (ot b fun q => by rw [q, hnT] at z; cases z).trans (hkb b o z)) hen hd (Array.getElem?_eq_some_iff.mp h1).1
    fun h' f1 f2 => h h' f1 fun b o z hn => f2 b o ((ot b (not_rec hT hdT z hn)).trans z) hn
theorem flightD {base : Heap} {l : List Env} {e : Addr} {cls fl : Value} {od : Option Addr} {Q : Unit → Shared → Prop} (hfl : FlyD base l e cls od fl s.heap)
    (h : ∀ h', FlyD base l e cls od .none h' → s.heap.UpToSlots h' → Q () { s with heap := h' }) : wpAny M A (setFlight (.ref e) none) Q E s := by
  obtain ⟨hkb, hen, hl, oe, vs, T, oT, ts, he, rfl, rfl, hd, h1, hnT, hTe, hT, hdT, h3⟩ := hfl
  have hsz3 : 3 < ts.size := (Array.getElem?_eq_some_iff.mp h3).1
  unfold setFlight
  refine wpAny_bind (wpAny_field he hd h1 ?_)
  rw [if_pos (show (Value.ref T != Value.none) = true from by simp)]
  have ot : ∀ b, b ≠ T → (s.heap.update T (Obj.mapFields (·.setIfInBounds 3 ((none : Option Addr).elim Value.none fun f => rawInt f)))).get? b = s.heap.get? b := fun b hb => Heap.get?_update_other _ _ (Ne.symm hb)
  refine wpAny_setField hT hdT hsz3 (h _ ⟨fun b o z => (ot b fun q => by rw [q, hnT] at z; cases z).trans (hkb b o z), hen, hl.of_keeps fun b o hb hnf => ⟨o, (ot b (not_rec hT hdT hb hnf)).trans hb, rfl⟩, ?_⟩ fun b o hb hnf => ⟨o.slots, (ot b (not_rec hT hdT hb hnf)).trans hb⟩)
  exact ⟨oe, vs, T, _, _, (ot e (Ne.symm hTe)).trans he, rfl, rfl, hd, h1, hnT, hTe, Heap.get?_update_self _ hT (Obj.isFreed_of_fields (Obj.data_mapFields hdT _)), Obj.data_mapFields hdT _, by simp [hsz3]⟩
theorem FlyD.out {base h : Heap} {env : Env} {outer : List Env} {e : Addr} {cls fl : Value} {od : Option Addr} (x : FlyD base (env :: outer) e cls od fl h) : FlyD base outer e cls od fl h := ⟨x.1, x.2.1, x.2.2.1.2.2, x.2.2.2⟩

theorem leavesD {base : Heap} {env : Env} {outer : List Env} {L e : Addr} {cls : Value} {od : Option Addr} {Q : Unit → Shared → Prop} (hfr : A.frames = some (env :: outer)) (hf : env.frame = some L) (hfl : FlyD base (env :: outer) e cls od .none s.heap)
    (h : ∀ h', FlyD base outer e cls od .none h' → s.heap.UpToSlots h' → Q () { s with heap := h' }) : wpAny M A (leaving env (.ref e)) Q E s := by
  unfold leaving
  refine wpAny_bind (noteD hfr hf hfl fun h1 f1 u1 => flightD f1 fun h2 f2 u2 => h h2 f2.out (u1.trans u2))

theorem leavesFirst {base : Heap} {env : Env} {outer : List Env} {L e : Addr} {oe : Obj} {vs : Array Value} {Q : Unit → Shared → Prop} (hfr : A.frames = some (env :: outer)) (hl : s.heap.FunFrames base (env :: outer)) (hf : env.frame = some L)
    (he : s.heap.get? e = some oe) (hkb : base.StaysIn s.heap) (hen : base.get? e = none) (hd : oe.data = .fields vs) (h1 : vs[1]? = some .none)
    (h : ∀ h', FlyD base outer e oe.cls oe.dict .none h' → s.heap.UpToSlots h' → Q () { s with heap := h' }) : wpAny M A (leaving env (.ref e)) Q E s := by
  unfold leaving noteFrame
  simp only [hf]
  refine wpAny_bind (wpAny_bind (wpAny_field he hd h1 ?_))
  rw [if_neg (by decide)]
  exact entryD hfr hl hf he hkb hen hd (Array.getElem?_eq_some_iff.mp h1).1 fun h1 f1 u1 => flightD f1 fun h2 f2 u2 => h h2 f2.out (u1.trans u2)
end
end L3
namespace L3
open PySem PySem.Spec PyProof.Rows L2 PySem.SeqAt
section
variable {M : Model} {A : Around} {E : Value → Shared → Prop} {env : Env}
variable {nm q : Str} {C N : Addr} {bs bm : List Value} {hdct : Bool} {sn : List Str} {sub : List Value} {ab : Bool} {col : Option Bool} {dd : Option Addr} {k0 k1 k2 k3 k5 : Option Value} {newId : String}
theorem raise_any {s : Shared} {x : Sem Value} {Q : Flow → Shared → Prop} (hbase : bm.contains (.type "BaseException") = true) (hh : A.handled = none)
    (h : wpAny M A x (fun v s₁ => ∃ e t od, v = .ref e ∧ s₁.heap.get? C = some (excClassObj nm q C N bs bm hdct sn sub ab col dd k0 k1 k2 k3 k5 newId) ∧ s₁.heap.get? e = some { cls := .ref C, dict := od, data := .fields #[.ref t, .none, .none, .none, .bool false, .none] } ∧ E (.ref e) s₁) E s) : wpAny M A (raiseStmt env (some x) none) Q E s := by
  have hcB : (Value.ref C :: bm).contains (.type "BaseException") = true := by rw [List.contains_cons, hbase, Bool.or_true]
  unfold raiseStmt
  refine wpAny_bind (wpAny_mono h (fun v s₁ h₁ => ?_) fun _ _ x => x)
  obtain ⟨e, t, od, rfl, hC, he, hE⟩ := h₁
  obtain ⟨hp, g, d, tk, os⟩ := s₁
  repeat (first | with_reducible refine wpAny_loadPart_at he ?_ | with_reducible refine wpAny_loadPart_at hC ?_ | (with_reducible refine wpAny_isSubtype_exc hC ?_; rw [hcB]) | wp_step)
  exact wpAny_raiseNew_none hh hE
end
section
variable {prog : Program} {w : World} {A : Around} {E : Value → Shared → Prop} {s : Shared} {env : Env}
variable {nm q : Str} {C N : Addr} {bs bm bmB : List Value} {hdct : Bool} {sn : List Str} {sub : List Value} {ab : Bool} {col : Option Bool} {dd : Option Addr} {k0 k1 k2 k3 k5 : Option Value} {B Bn newId nid initId inN : String} {bmN : List Value}
theorem raise_init (Fn : ExcBaseFacts Bn newId inN bmN) (hBn : bmB.contains (.type Bn) = true) (F : ExcBaseFacts B nid initId bmB) {mN : Str → Option Value} {x : Str} {np cpos pos : Pos} {args : List Expr} {fI : Addr} {oI : Obj} {Q : Flow → Shared → Prop}
    (hbase : bm.contains (.type "BaseException") = true) (hh : A.handled = none) (hplain : (backTo cpos (starEach args env)).any (·.1) = false) (hi : mN "__init__" = some (.ref fI)) (hfc : oI.cls = .type "function")
    (h : wpAny (model prog w) A (eval (.Name x np) env) (fun f s₁ => f = .ref C ∧ wpAny (model prog w) A (evalArgs (.ref C) true (backTo cpos (starEach args env)) [])
      (fun a s₂ => a.kw = [] ∧ a.pos.length ≤ sizeLine ∧ s₂.heap.get? C = some (excClassObj nm q C N bs bm hdct sn sub ab col dd k0 k1 k2 k3 k5 newId) ∧ s₂.heap.Ns N mN ∧ OwnTail s₂.heap bmB bm ∧ s₂.heap.get? fI = some oI ∧
        ∀ h' e, Heap.MadeExcOf s₂.heap h' e (.ref C) a.pos → s₂.heap.objs.size ≤ e → wpAny (model prog w) (A.under (.builtin "type.__call__" ⟨.ref C :: a.pos, []⟩)) (call (.ref fI) (.ref e :: a.pos))
          (fun r s' => r = .none ∧ s'.heap.get? C = some (excClassObj nm q C N bs bm hdct sn sub ab col dd k0 k1 k2 k3 k5 newId) ∧ (∃ t od, s'.heap.get? e = some { cls := .ref C, dict := od, data := .fields #[.ref t, .none, .none, .none, .bool false, .none] }) ∧ E (.ref e) s') E { s₂ with heap := h' }) E s₁) E s) :
    wpAny (model prog w) A (exec (.Raise (some (.Call (.Name x np) args [] cpos)) none pos) env) Q E s := by
  rw [arm_exec_Raise]
  refine wpAny_bind (wpAny_standAt (raise_any (C := C) (nm := nm) (q := q) (N := N) (bs := bs) (bm := bm) (hdct := hdct) (sn := sn) (sub := sub) (ab := ab) (col := col) (dd := dd) (k0 := k0) (k1 := k1) (k2 := k2) (k3 := k3) (k5 := k5) (newId := newId) hbase hh ?_))
  refine wpAny_bind (wpAny_mono (wpAny_Call_ofName (wpAny_mono h (fun f s₁ h₁ => ?_) fun _ _ x => x)) (fun v s₃ h₃ => wpAny_bind (wpAny_standAt (wpAny_pure h₃))) fun _ _ x => x)
  obtain ⟨rfl, h₁⟩ := h₁
  unfold callWith
  refine wpAny_bind (wpAny_holding (wpAny_mono h₁ (fun a s₂ h₂ => wpAny_bind (wpAny_standAt ?_)) fun _ _ x => x))
  obtain ⟨apos, akw⟩ := a
  obtain ⟨hkw, hlen, hC, hn, T, hf, h₂⟩ := h₂
  obtain rfl : akw = [] := hkw
  obtain ⟨hp, g, d, tk, os⟩ := s₂
  simp only [hplain]
  refine wpAny_bind (wpAny_keeperOf_exc hC ?_)
  refine wpAny_bind (exc_call_init Fn hBn F T hC hn hi hf hfc (fun h' e hm hz => wpAny_mono (h₂ h' e hm hz) (fun r s' z => ⟨z.1, ?_⟩) fun _ _ z => z) hlen)
  obtain ⟨_, hC', ⟨t, od, hoe⟩, hE⟩ := z
  exact wpAny_bind (wpAny_holding (wpAny_point (wpAny_pure ⟨e, t, od, rfl, hC', hoe, hE⟩)))
end

structure ThrownD (P : Program) (w : World) (outer : List Env) (H : Hp) (s : Shared) (ea C : Addr) (od : Option Addr) (H' : Hp) (s' : Shared) : Prop where
  os : s'.os = s.os
  bare : AllBare s'.gens
  fr : H' ea = none
  hi : s.heap.objs.size ≤ ea
  ex : ∃ (h0 : Heap) (l : List Addr), Un (frs outer) [] H H' s.heap h0 ∧ HOk P w H' h0 ∧ (∀ b ∈ l, H' b = none ∧ (b ∈ frs outer ∨ s.heap.objs.size ≤ b)) ∧ FlyD (PySem.W.hideAll h0 l) outer ea (.ref C) od .none s'.heap ∧ h0.UpToSlots s'.heap
def CXD (P : Program) (w : World) : CXT := fun outer H s E e s' => ∃ (ea C : Addr) (od : Option Addr) (H' : Hp), e = .ref ea ∧ ThrownD P w outer H s ea C od H' s' ∧ E (.ref C) od H'

theorem leaves_made {X : Cx} {pins : List (Addr × Obj)} {σ : L2.St} {H H' : Hp} {s : Shared} {e C : Addr} {od : Option Addr} {Q : Unit → Shared → Prop} {Ex : Value → Shared → Prop} (I : Inv X pins σ H s)
    (hst : X.stack = X.env :: X.outer) (hfr : X.env.frame = some X.env.locals) (hex : X.ex = []) (he : H e = some (XB e C od)) (hi : X.s₀.heap.objs.size ≤ e) (h0 : H' e = none) (h1 : ∀ b, b ≠ e → H' b = H b)
    (hQ : ∀ s', ThrownD X.prog X.w X.outer X.H₀ X.s₀ e C od H' s' → Q () s') : wpAny (model X.prog X.w) X.A (leaving X.env (.ref e)) Q Ex s := by
  obtain ⟨t, hx⟩ := xb_at I.hok he
  have hfs := frs_body hst hfr
  have hin : ∀ env ∈ X.stack, ∀ a, env.frame = some a → a ∈ e :: frs X.stack := fun env hm b hb => List.mem_cons_of_mem _ (List.mem_filterMap.mpr ⟨env, hm, hb⟩)
  have hl : s.heap.FunFrames (PySem.W.hideAll s.heap (e :: frs X.stack)) (X.env :: X.outer) := by
    have z := PySem.W.funFrames_hide I.stack hin
    rw [hst] at z ⊢; exact z
  have nx : ∀ b o, H b = some o → (∀ φ, o ≠ .ext φ) → b ≠ e := fun b o z q r => by rw [r, he] at z; exact q _ (Option.some.inj z).symm
  have hb := I.base
  rw [hex] at hb
  refine leavesFirst (base := PySem.W.hideAll s.heap (e :: frs X.stack)) (by rw [← hst]; exact I.ok.frames) hl hfr hx (fun b o q => PySem.W.of_hideAll _ q) (PySem.W.hideAll_none _ (.head _)) rfl rfl fun h' f u => hQ _ ⟨I.os, I.bare, h0, hi, s.heap, e :: frs X.stack, ?_, ?_, ?_, f, u⟩
  · refine ⟨hb.keep, hb.slot, fun b o q n hx' => ?_, hb.there, fun b xs q => ?_, fun b o u q => ?_, fun b ps q => ?_⟩
    · by_cases z : b = e
      · rw [z]; exact h0
      · rw [h1 b z]; exact hb.free b o q n hx'
    · have z := hb.tups b xs q
      rw [h1 b (nx b _ z fun _ z => nomatch z)]; exact z
    · have z := hb.frzs b o u q
      rw [h1 b (nx b _ z fun _ z => nomatch z)]; exact z
    · obtain ⟨m, z⟩ := hb.tbls b ps q
      exact ⟨m, by rw [h1 b (nx b _ z fun _ z => nomatch z)]; exact z⟩
  · intro b o q
    by_cases z : b = e
    · rw [z, h0] at q; cases q
    · rw [h1 b z] at q
      refine (I.hok b o q).stay (fun c v _ z => z) (fun c z' => ?_) fun c xs z' => ?_
      · rw [h1 c (nx c _ z' fun _ z => nomatch z)]; exact z'
      · rw [h1 c (nx c _ z' fun _ z => nomatch z)]; exact z'
  · intro b hm
    rcases List.mem_cons.mp hm with rfl | hm
    · exact ⟨h0, .inr hi⟩
    · have hn := I.stkFree b hm
      have nb : b ≠ e := fun z => by rw [z, he] at hn; cases hn
      refine ⟨by rw [h1 b nb]; exact hn, ?_⟩
      rw [hfs] at hm
      rcases List.mem_cons.mp hm with rfl | hm
      · exact .inr I.ok.above
      · exact .inl hm

def tRaiseI (C : Addr) (f : Str) (E : XK) (t : TA) : TS := fun _ σ H => t σ H fun vs H1 => ∃ i : Int, vs = [.int i] ∧ i.natAbs.log2 < 1900 ∧ ∀ d, H1 d = none → E (.ref C) (some d) (upd H1 d (.xd [(f, .int i)]))
theorem ps_raiseI {P : Program} {w : World} {K : PySem.W.Frag} {mg : Str → Option Value} {base : Heap} {N : List Str} {qual : Str} {scope : Scope} {f : Addr} {cd : Value} {A : Around} {outer : List Env} {s0 : Shared} {H0 : Hp} {E : XK}
    {C fI : Addr} {fd : FuncData} {ps : List Str} {fn x : Str} {k : Nat} {np cpos pos : Pos} {e0 : Expr} {es : List Expr} {t : TA} (c : ExcI K mg x C fI) (F : FnOk P w K mg base CX0 k fI fd ps (spXInit C fn)) (hb : Binds K fd ps [])
    (hr : Room (k + 1) (cxOf (CXD P w) P w K mg base N qual scope f cd A outer s0 H0 E).A) (hg : Gl (cxOf (CXD P w) P w K mg base N qual scope f cd A outer s0 H0 E) x)
    (ha : PA (cxOf (CXD P w) P w K mg base N qual scope f cd A outer s0 H0 E).nox (e0 :: es) t) (hdb : (x == ("__debug__" : Str)) = false := by decide)
    (he : starEach (e0 :: es) (cxOf (CXD P w) P w K mg base N qual scope f cd A outer s0 H0 E).env = (false, eval e0 (cxOf (CXD P w) P w K mg base N qual scope f cd A outer s0 H0 E).env) :: starEach es (cxOf (CXD P w) P w K mg base N qual scope f cd A outer s0 H0 E).env := by rfl)
    (hpl : (backTo cpos (starEach es (cxOf (CXD P w) P w K mg base N qual scope f cd A outer s0 H0 E).env)).any (·.1) = false := by rfl) :
    PS (cxOf (CXD P w) P w K mg base N qual scope f cd A outer s0 H0 E) (.Raise (some (.Call (.Name x np) (e0 :: es) [] cpos)) none pos) (tRaiseI C fn E t) := by
  intro pins s σ H D I h
  obtain ⟨bm, N', nm, qn, bs, hd, sn, sub, ab, col, dd, k0, k1, k2, k3, k5, mN, o, hC, hN, hni, TL, hf, hfc⟩ := c.obj I.ok.mod.kin
  refine raise_init (C := C) (mN := mN) (N := N') (nm := nm) (q := qn) (bs := bs) (bm := bm) (hdct := hd) (sn := sn) (sub := sub) (ab := ab) (col := col) (dd := dd) (k0 := k0) (k1 := k1) (k2 := k2) (k3 := k3) (k5 := k5)
    PySem.F.excBase_ValueError (by decide +kernel) PySem.F.excBase_ValueError (TL.hasType (by decide +kernel)) (I.ok.hd rfl) (by rw [he]; show (false || (backTo cpos (starEach es _)).any (·.1)) = false; rw [hpl]; rfl) hni hfc ?_
  refine ld_glob I hg c.glob ⟨rfl, ?_⟩ hdb
  have hargs := (L3.PA.nox ha) cpos pins s σ H _ I h
  rw [he] at hargs ⊢
  refine Calls.evalArgs_plain (thn hargs fun us s1 ⟨vs, H1, I1, r, i, ev, hlg, q⟩ => ?_)
  subst ev
  obtain ⟨u, rfl, ru⟩ := vals1 r
  refine ⟨rfl, by show 1 ≤ sizeLine; decide +kernel, I1.bk _ _ hC, hN.keeps I1.bk, TL.keeps I1.bk, I1.bk _ _ hf, fun h' e hm hz => ?_⟩
  obtain ⟨t', hte, _, _⟩ := hm.there
  have I2 := I1.laid (a := e) (o := XB e C none) (h' := h') (t' := s1.toks) hm.keeps hz (xb_ok hte)
  have fr1 : H1 e = none := I1.hok.fresh hz
  have hl : [Value.ref e, u].length = ps.length := by
    have := F.len [.ref e, .int i] (upd H1 e (XB e C none)) (fun _ _ => True) E ⟨e, i, rfl, upd_same, hlg, fun _ _ => True.intro⟩
    simpa using this
  have hbd := hb { s1 with heap := h' } [.ref e, u] I2.kIn (by rw [List.append_nil]; exact hl)
  rw [List.append_nil] at hbd
  refine wpAny_call (codeAny_mono (F.run _ _ _ (upd H1 e (XB e C none)) ⟨[.ref e, u], []⟩ [.ref e, u] [.ref e, .int i] (fun v H2 => v = .non ∧ ∃ d, upd H1 e (XB e C none) d = none ∧ H2 = upd (upd (upd H1 e (XB e C none)) d (.xd [(fn, .int i)])) e (XB e C (some d))) E (hr.make C [u] []) (I2.env0.make C [u] []) hbd (.cons rfl (.cons ru .nil)) ⟨e, i, rfl, upd_same, hlg, fun d hd => ⟨rfl, d, hd, rfl⟩⟩) fun r2 s' hq => ?_)
  cases r2 with
  | error ex => exact (show False from hq).elim
  | ok fl =>
    cases fl with
    | ret u2 =>
      obtain ⟨v, H2, I3, rv, ev, d, hd0, eH⟩ := I2.after hq
      subst ev eH
      have nd : d ≠ e := (none_upd hd0).2
      have hd1 : H1 d = none := (none_upd hd0).1
      obtain ⟨t3, h3⟩ := xb_at I3.hok upd_same
      refine ⟨rv, I3.bk _ _ hC, ⟨_, _, h3⟩, ?_⟩
      exact leaves_made (X := cxOf (CXD P w) P w K mg base N qual scope f cd A outer s0 H0 E) (H' := upd H1 d (.xd [(fn, .int i)])) I3 rfl rfl rfl upd_same (Nat.le_trans I1.sz hz) (by rw [upd_ne nd.symm]; exact fr1) (fun b hbe => by
        rw [upd_ne hbe]
        by_cases z : b = d
        · rw [z, upd_same, upd_same]
        · rw [upd_ne z, upd_ne z, upd_ne hbe]) fun s'' th => ⟨e, C, some d, _, rfl, th, q d hd1⟩
    | next => exact False.elim hq
    | brk => exact False.elim hq
    | cont => exact False.elim hq
end L3
namespace L3
open PySem PySem.Spec PyProof.Rows L2 PySem.SeqAt

theorem pass_onD {P : Program} {w : World} {K : PySem.W.Frag} {mg : Str → Option Value} {base : Heap} {N : List Str} {qual : Str} {scope : Scope} {f : Addr} {cd : Value} {A : Around} {outer : List Env} {s0 : Shared} {H0 : Hp} {E : XK} :
    Passes (CXD P w) (cxOf (CXD P w) P w K mg base N qual scope f cd A outer s0 H0 E) E := by
  intro pins σ H s e s' I h
  obtain ⟨ea, C, od, H', rfl, ⟨os, bare, fr, hi, h0, l, u, hok, hl, fl, up⟩, q⟩ := h
  show wpAny _ _ (leaving _ (.ref ea)) _ _ s'
  refine leavesD (outer := outer) I.ok.frames rfl fl fun h2 fl2 up2 => ⟨ea, C, od, H', rfl, ⟨os.trans I.os, bare, fr, Nat.le_trans I.sz hi, h0, l, ?_, hok, fun b hb => ⟨(hl b hb).1, ?_⟩, fl2, up.trans up2⟩, q⟩
  · have J := I.call (h' := h0) (g' := s'.gens) (d' := s'.drawn) (t' := s'.toks) (ch := []) u hok bare (fun b z => absurd z (by simp))
    exact J.base
  · rcases (hl b hb).2 with z | z
    · have z' : b ∈ frs (envOfC qual scope s0.heap.objs.size f cd :: outer) := z
      have e1 : frs (envOfC qual scope s0.heap.objs.size f cd :: outer) = s0.heap.objs.size :: frs outer := by unfold frs; rw [List.filterMap_cons]; rfl
      rw [e1] at z'
      rcases List.mem_cons.mp z' with rfl | z'
      · exact .inr (Nat.le_refl _)
      · exact .inl z'
    · exact .inr (Nat.le_trans I.sz z)
section
variable {P : Program} {w : World} {K : PySem.W.Frag} {mg : Str → Option Value} {base : Heap} {x qual : Str} {st : Stmt} {N ps : List Str} {sp : Sp} {C : Addr} {k : Nat}
def BodyD (P : Program) (w : World) (K : PySem.W.Frag) (mg : Str → Option Value) (base : Heap) (k : Nat) (qual : Str) (st : Stmt) (N : List Str) (sp : Sp) : Prop :=
  ∀ (f : Addr) (cdv : Value) (A : Around) (outer : List Env) (s : Shared) (H : Hp) (vs : List V) (Q : VK) (E : XK), Room k (A.deeper (envOfC qual (defScope st) s.heap.objs.size f cdv)) → sp vs H Q E →
    ∃ t, PSs (cxOf (CXD P w) P w K mg base N qual (defScope st) f cdv A outer s H E) (defBody st) t ∧ t { nx := fun _ H' => Q .non H', rt := Q } (start N vs) H
theorem fnD_of (k : Nat) (h : ∃ f fd, Fun K x qual st f fd ∧ mg x = some (.ref f) ∧ Binds K fd ps []) (S : FnScope N ps (defScope st)) (len : ∀ vs H Q E, sp vs H Q E → vs.length = ps.length)
    (hbody : BodyD P w K mg base k qual st N sp) : FnE P w K mg base (CXD P w) (k + 1) x sp := by
  obtain ⟨f, fd, F, hm, hb⟩ := h
  obtain ⟨oc, od, kV, doc, pm, an, cdv, ct, osl, rfl, lk, hcd⟩ := F.ex
  exact ⟨f, _, ps, fn_of lk hcd S len fun A outer s H vs Q E hr hsp => hbody f cdv A outer s H vs Q E hr hsp, hm, F.kp, hb⟩

structure XInit (P : Program) (w : World) (K : PySem.W.Frag) (mg : Str → Option Value) (base : Heap) (k : Nat) (x : Str) (C : Addr) (fn : Str) : Prop where
  ex : ∃ (f : Addr) (fd : FuncData) (ps : List Str), ExcI K mg x C f ∧ FnOk P w K mg base CX0 k f fd ps (spXInit C fn) ∧ Binds K fd ps []
end

def ThrewD (X : Cx) (pins : List (Addr × Obj)) (σ : L2.St) (Ew : XK) (ex : Value) (s' : Shared) : Prop :=
  ∃ (ea C : Addr) (od : Option Addr) (H1 : Hp) (s1 : Shared) (H' : Hp), ex = .ref ea ∧ Inv X pins σ H1 s1 ∧ ThrownD X.prog X.w X.stack H1 s1 ea C od H' s' ∧ Ew (.ref C) od H'
abbrev TEX := L2.St → Hp → VK → XK → Prop
abbrev TAX := L2.St → Hp → (List V → Hp → Prop) → XK → Prop
def PEX (X : Cx) (e : Expr) (t : TEX) : Prop := ∀ (pins : List (Addr × Obj)) (s : Shared) (σ : L2.St) (H : Hp) (Q : VK) (Ew : XK), Inv X pins σ H s → t σ H Q Ew → wpAny (model X.prog X.w) X.A (eval e X.env) (EP X pins σ Q) (ThrewD X pins σ Ew) s
def PAX (X : Cx) (es : List Expr) (t : TAX) : Prop := ∀ (pos : Pos) (pins : List (Addr × Obj)) (s : Shared) (σ : L2.St) (H : Hp) (Q : List V → Hp → Prop) (Ew : XK), Inv X pins σ H s → t σ H Q Ew → wpAny (model X.prog X.w) X.A (spliced (backTo pos (starEach es X.env))) (AP X pins σ Q) (ThrewD X pins σ Ew) s
section
variable {X : Cx} {pins : List (Addr × Obj)} {σ : L2.St} {H : Hp} {s : Shared} {k : Nat} {g x n : Str} {sp : Sp} {e : Expr} {es : List Expr} {t : TA} {tx : TEX} {ta : TAX} {te : TE} {gp cpos pos py : Pos}
def xPl (te : TE) : TEX := fun σ H Q _ => te σ H Q
def xNil : TAX := fun _ H Q _ => Q [] H
def xCons (tx : TEX) (ta : TAX) : TAX := fun σ H Q Ew => tx σ H (fun x H1 => ta σ H1 (fun xs H2 => Q (x :: xs) H2) Ew) Ew
def xTup (ta : TAX) : TEX := fun σ H Q Ew => ta σ H (fun xs H1 => xs.length ≤ sizeLine ∧ ∀ p, H1 p = none → Q (.ref p) (upd H1 p (.tup xs))) Ew
def xCall (sp : Sp) (t : TA) : TEX := fun σ H Q Ew => t σ H fun vs H1 => sp vs H1 Q Ew
theorem px_plain (h : PE X.nox e te) : PEX X e (xPl te) := fun pins s σ H Q Ew I q =>
  wpAny_mono (h pins s σ H Q (I.wish _) q) (fun _ _ ⟨v, H', I', r, q⟩ => ⟨v, H', I'.unwish, r, q⟩) fun _ _ z => z.elim
theorem px_nil : PAX X [] xNil := fun _ _ _ _ H Q _ I h => Calls.spliced_nil ⟨[], H, I, .nil, h⟩
theorem px_cons (ha : PEX X e tx) (hr : PAX X es ta) (hs : starEach (e :: es) X.env = (false, eval e X.env) :: starEach es X.env := by rfl) : PAX X (e :: es) (xCons tx ta) := by
  intro pos pins s σ H Q Ew I h
  rw [hs]
  show wpAny _ _ (spliced ((false, eval e X.env) :: backTo pos (starEach es X.env))) _ _ s
  refine Calls.spliced_cons (thn (ha pins s σ H _ Ew I h) fun u s1 ⟨x, H1, I1, r1, q1⟩ => ?_)
  exact thn (hr pos pins s1 σ H1 _ Ew I1 q1) fun us s2 ⟨xs, H2, I2, r2, q2⟩ => ⟨x :: xs, H2, I2, .cons r1 r2, q2⟩
theorem px_tup {x1} (h : PAX X es ta) : PEX X (.Tuple es x1 pos) (xTup ta) := by
  intro pins s σ H Q Ew I hq
  refine wpAny_Tuple_spliced (thn (h pos pins s σ H _ Ew I hq) fun us s1 ⟨xs, H1, I1, r, z, q⟩ => ⟨by rw [← r.length]; exact z, ?_⟩)
  have hf : H1 s1.heap.objs.size = none := I1.hok.fresh (Nat.le_refl _)
  refine ⟨.ref s1.heap.objs.size, upd H1 s1.heap.objs.size (.tup xs), I1.laid (t' := s1.toks) (fun b u e => Heap.get?_push_of_some _ e) (Nat.le_refl _) ?_, rfl, q _ hf⟩
  exact ⟨z, us, r, ⟨_, Heap.get?_push_size _ rfl, rfl, _, rfl⟩⟩
theorem px_call (G : FnE X.prog X.w X.K X.mg X.base (CXD X.prog X.w) k g sp) (hr : Room k X.A) (hg : Gl X g) (ha : PA X.nox (e :: es) t) (hdb : (g == ("__debug__" : Str)) = false := by decide)
    (he : starEach (e :: es) X.env = (false, eval e X.env) :: starEach es X.env := by rfl) (hpl : (backTo cpos (starEach es X.env)).any (·.1) = false := by rfl) : PEX X (.Call (.Name g gp) (e :: es) [] cpos) (xCall sp t) := by
  intro pins s σ H Q Ew I h
  obtain ⟨f, fd, ps, F, hm, hk, hb⟩ := G.ex
  refine wpAny_Call_Name_kw (ld_glob I hg hm ?_ hdb)
  refine PySem.W.callWith_K (h₀ := X.base) I.ok.mod.kin hk (wpAny_mono (ha cpos pins s σ H _ (I.wish _) h) (fun us s1 ⟨vs, H1, I1, r, q⟩ => ⟨I1.kIn, ?_⟩) fun _ _ z => z.elim) he hpl
  have J : Inv X pins σ H1 s1 := I1.unwish
  have hl : us.length = ps.length := by rw [← r.length]; exact F.len _ _ _ _ q
  have hbd := hb s1 us J.kIn (by rw [List.append_nil]; exact hl)
  rw [List.append_nil] at hbd
  refine wpAny_call (codeAny_mono (F.run X.A X.stack s1 H1 ⟨us, []⟩ us vs Q Ew hr J.env0 hbd r q) fun r2 s' hq => ?_)
  cases r2 with
  | error ex =>
    obtain ⟨ea, C, od, H', rfl, th, q2⟩ := (show CXD X.prog X.w X.stack H1 s1 Ew ex s' from hq)
    exact ⟨ea, C, od, H1, s1, H', rfl, J, th, q2⟩
  | ok fl =>
    cases fl with
    | ret u => exact J.after hq
    | next => exact False.elim hq
    | brk => exact False.elim hq
    | cont => exact False.elim hq
def PBD (X : Cx) (body : List Stmt) (tb : TB) : Prop :=
  ∀ (pins : List (Addr × Obj)) (s : Shared) (σ : L2.St) (H : Hp) (D : Ends) (Ew : XK), Inv X pins σ H s → tb D Ew σ H → wpAny (model X.prog X.w) X.A (execs body X.env) (SP X pins D) (ThrewD X pins σ Ew) s
def bSet (i : Nat) (tx : TEX) : TB := fun D Ew σ H => tx σ H (fun v H2 => D.nx (σ.set i (some v)) H2) Ew
theorem pbD_set {i : Nat} {v : Expr} (hN : X.N.Nodup) (hi : X.N[i]? = some x) (hx : Loc X.env.scope x) (hv : PEX X v tx) (hw : swapsWith v (some (.Name x py)) pos.line X.env = pure false := by rfl)
    (hf : X.fn x = true ∨ X.env.scope.names.lookup x = some .local := by first | exact .inl rfl | exact .inr rfl | assumption) : PBD X [.Assign [.Name x py] v pos] (bSet i tx) := by
  intro pins s σ H D Ew I h
  refine wpAny_execs_cons (wpAny_Assign_Name (wpAny_mono (hv pins s σ H _ Ew I h) (fun v s1 ⟨y, H1, I1, r1, q1⟩ => ?_) fun _ _ z => z) hw)
  exact store_ok I1 hN hi hx r1 (fun s2 I2 => wpAny_execs_nil ⟨_, H1, I2, q1⟩) hf
end
end L3
namespace L3
open PySem PySem.Spec PyProof.Rows L2 PySem.SeqAt PySem.W Builtin Builtin.ObjectAttr
section
variable {prog : Program} {w : World} {A : Around} {E : Value → Shared → Prop} {s : Shared} {K : PySem.W.Frag} {x C dx : Addr} {ox od : Obj} {name : Str} {v : Value}
theorem exc_entryV {Q : Fin → Shared → Prop} {tk : Tok} (X : K.In s.heap) (I : PySem.W.InstAt s.heap x ox C (some od)) (hf : findObj K C (some od) name = some (.value v)) (h : Q (.done (.ret v)) s) :
    wpAny (model prog w) A (Builtin.«object.__getattribute__» ⟨[.ref x, .str name tk], []⟩) Q E s := by
  obtain ⟨hh, g, d, t, os⟩ := s
  have LT := I.type (M := model prog w)
  have LF := looks_find (M := model prog w) X I hf
  unfold Builtin.«object.__getattribute__»
  repeat (first | with_reducible refine wpAny_call ?_ | lk)
  exact h
theorem exc_getV {expr : Bool} {Q : Value → Shared → Prop} (X : K.In s.heap) (I : PySem.W.InstAt s.heap x ox C (some od)) (F : ExcK K C) (hf : findObj K C (some od) name = some (.value v)) (hv : handedIn v = true) (h : Q v { s with toks := s.toks + 1 }) :
    wpAny (model prog w) A (getAttr (.ref x) name expr) Q E s := by
  obtain ⟨hh, g, d, t, os⟩ := s
  have LT := I.type (M := model prog w)
  have LG := looks_findIn (M := model prog w) X F.ga
  have LH := looks_findIn (M := model prog w) X F.gt
  unfold getAttr getAttrBy
  refine wpAny_bind (wpAny_mkText (wpAny_holding (wpAny_bind (LT.at (wpAny_bind (LG.at ?_))))))
  have n1 : (onTheHeap (.ref C) && Value.builtin "BaseException.__getattribute__" == Value.builtin "object.__getattribute__") = false := by
    show (true && Value.builtin "BaseException.__getattribute__" == Value.builtin "object.__getattribute__") = false
    decide +kernel
  show wpAny _ _ (if (onTheHeap (.ref C) && Value.builtin "BaseException.__getattribute__" == Value.builtin "object.__getattribute__") = true then _ else getAttrByItsOwn _ _ _ _ _ _) _ _ _
  rw [n1, if_neg Bool.false_ne_true]
  unfold getAttrByItsOwn hookBefore
  refine wpAny_bind (LH.at ?_)
  refine wpAny_bind (wpAny_attempt (wpAny_holding ?_))
  have b1 := PySem.F.excAttr_ValueError.ga.bind (.ref x)
  unfold callGetattribute
  rw [show (expr && onTheHeap (Value.builtin "BaseException.__getattribute__")) = false from Bool.and_false _, if_neg Bool.false_ne_true]
  unfold boundAndCalled
  rw [b1]
  refine wpAny_bind (wpAny_pure ?_)
  refine wpAny_call (codeAny_call_builtin PySem.F.excAttr_ValueError.ga.plain PySem.F.entry_bexc_ga (exc_check (s := ⟨hh, g, d, t + 1, os⟩) X I.at_ I.cls F (exc_entryV (s := ⟨hh, g, d, t + 1, os⟩) X I hf ?_)))
  exact handed_on hv h
end

def tXFld (ea d : Addr) (f : Str) (ta : TE) : TE := fun σ H Q => ta σ H fun x H1 => x = .ref ea ∧ ∃ fs v, H1 d = some (.xd fs) ∧ fs.lookup f = some v ∧ Q v H1
theorem pe_xfld {X : Cx} {ea d C : Addr} {oe : Obj} {vs : Array Value} {o : Expr} {f : Str} {pos : Pos} {ta : TE} (hp : (ea, oe) ∈ X.pn) (hc : oe.cls = .ref C) (hod : oe.dict = some d) (hdt : oe.data = .fields vs) (F : ExcK X.K C) (n : PySem.W.findIn X.K (.ref C) f = some none)
    (hh : ((PySem.W.clsIn X.K C).any (·.hasDict)) = true) (ho : PE X o ta) (hb : attributeBase o f X.env (eval o X.env) = eval o X.env := by rfl) : PE X (.Attribute o f pos) (tXFld ea d f ta) := by
  intro pins s σ H Q I h
  refine attr_of hb (thn (ho pins s σ H _ I h) fun u s1 ⟨x, H1, I1, r, e, fs, v, hd, hl, q⟩ => ?_)
  subst e
  obtain rfl : u = Value.ref ea := r
  obtain ⟨mA, hns, hr⟩ := (show ∃ mA, s1.heap.Ns1 d mA ∧ ∀ f, RelO (fs.lookup f) (mA f) from I1.hok d _ hd)
  obtain ⟨od, hod', hlk⟩ := lookIn_ns hns
  obtain ⟨uv, hu, ru⟩ := RelO.some_of (v := v) (o := mA f) (by rw [← hl]; exact hr f)
  have hx := (I1.pin (ea, oe) (List.mem_append_left _ hp)).1
  have J : PySem.W.InstAt s1.heap ea oe C (some od) := ⟨hx, hc, by unfold notCls; rw [hdt], by rw [hod]; exact hod'⟩
  exact exc_getV I1.kIn J F (findObj_own hh n rfl (by rw [hlk, hu])) (handed_of ru) ⟨v, H1, I1.tok _, ru, q⟩
section
variable {X : Cx} {pins : List (Addr × Obj)} {σ : L2.St} {C fI : Addr}
def tTryD (tb : TB) (C : Addr) (i : Nat) (th : Addr → Addr → TS) : TS := fun D σ H =>
  tb D (fun c od H2 => c = .ref C ∧ ∃ d, od = some d ∧ ∀ ea, H2 ea = none → th ea d { nx := fun σ' H' => D.nx (σ'.set i none) H', rt := fun _ _ => False } (σ.set i (some (.ref ea))) H2) σ H

theorem ps_tryD {body : List Stmt} {tb : TB} {x n : Str} {np hpos pos : Pos} {b0 : Stmt} {suite : List Stmt} {i : Nat} {th : Addr → Addr → TS} (hst : X.stack = X.env :: X.outer) (hfr : X.env.frame = some X.env.locals) (hc : X.calm = true)
    (hb : PBD X body tb) (c : ExcI X.K X.mg x C fI) (hg : Gl X x) (hN : X.N.Nodup) (hi : X.N[i]? = some n) (hn : X.env.scope.names.lookup n = some .local)
    (hs : ∀ ea d oe vs, oe.cls = .ref C → oe.dict = some d → oe.data = .fields vs → PSs (Cx.sup X ea [(ea, oe)]) (b0 :: suite) (th ea d)) (hdb : (x == ("__debug__" : Str)) = false := by decide) :
    PS X (.Try body [.ExceptHandler (some (.Name x np)) (some n) (b0 :: suite) hpos] [] [] pos) (tTryD tb C i th) := by
  intro pins s σ H D I0 h
  refine wpAny_Try_except (wpAny_mono (hb pins s σ H D _ I0 h) (fun f s1 q => ?_) fun ex s' q => ?_)
  · cases f with
    | next => exact wpAny_execs_nil q
    | brk => exact q
    | cont => exact q
    | ret u => exact q
  obtain ⟨ea, C', od, H1, s1, H', rfl, I, ⟨os, bare, fr, hz, h0, l, u, hok, hl, fl, up⟩, ec, d, ed, q⟩ := q
  cases ec
  subst ed
  have hh : X.calm = true → X.A.handled = none := I.ok.hd
  have fl' : FlyD (PySem.W.hideAll h0 l) (X.env :: X.outer) ea (.ref C) (some d) .none s'.heap := by rw [← hst]; exact fl
  have ap : ea ≠ X.env.locals ∧ ea ∉ X.fs := by
    refine ⟨fun z => ?_, fun z => ?_⟩
    · obtain ⟨m, ⟨o, _, _, e, _⟩, _⟩ := I.loc
      have := Heap.lt_size e
      rw [← z] at this
      exact absurd this (Nat.not_lt.mpr hz)
    · obtain ⟨_, o, e, _⟩ := I.funs.mem z
      exact absurd (Heap.lt_size e) (Nat.not_lt.mpr hz)
  refine noteD (by rw [← hst]; exact I.ok.frames) hfr fl' fun h4 held4 up4 => ?_
  refine flightD held4 fun h5 fl5 up5 => ?_
  have I5 : Inv X pins σ H' { s' with heap := h5 } := landed_at I os bare u hok hl fl5.1 ((up.trans up4).trans up5)
  obtain ⟨oe, vs, T, oT, ts, hoe, hoec, hoedd, hoed, _⟩ := fl5.2.2.2
  refine wpAny_handleBy_cons (codeAny_handlers_test (ld_glob (X := Cx.sup X ea []) (Inv.sup I5 (fun p hp => nomatch hp)) hg c.glob ?_ hdb)) (by intro z; cases z)
  obtain ⟨bm, N', nm, qn, bs, hd, sn, sub, ab, col, dd, k0, k1, k2, k3, k5, mN, o, hC, hNs, hni, TL, hf, hfc⟩ := c.obj I5.kIn
  refine wpAny_excMatches_sub_self hC hoe hoec (TL.hasType (by decide +kernel)) (codeAny_handlers_suite_as ?_)
  refine flightD fl5 fun h6 fl6 up6 => ?_
  have I6 : Inv X pins σ H' { s' with heap := h6 } := landed_at I os bare u hok hl fl6.1 (((up.trans up4).trans up5).trans up6)
  obtain ⟨oe6, vs6, T6, oT6, ts6, hoe6, hoec6, hoedd6, hoed6, _⟩ := fl6.2.2.2
  have I6p : Inv (Cx.sup X ea [(ea, oe6)]) pins σ H' { s' with heap := h6 } := Inv.sup I6 fun p hp => by
    have e : p = (ea, oe6) := by simpa using hp
    subst e
    exact ⟨hoe6, fr, ap.1, ap.2, fun v z => by rw [hoed6] at z; cases z⟩
  refine store_ok (X := Cx.sup X ea [(ea, oe6)]) I6p hN hi (.inl hn) (show RelV (.ref ea) (.ref ea) from rfl) (fun s7 I7 => ?_) (.inr hn)
  refine wpAny_mono (hs ea d oe6 vs6 hoec6 hoedd6 hoed6 pins s7 _ H' _ I7 (q ea fr)) (fun f s8 q8 => ?_) fun _ _ z => z.elim
  cases f with
  | next =>
    obtain ⟨σ', H'', I8, q9⟩ := q8
    exact goes_ok (Inv.unsup I8 hh) hN hi hn fun s9 I9 => ⟨_, H'', I9, q9⟩
  | brk => obtain ⟨_, _, _, z⟩ := q8; exact z.elim
  | cont => obtain ⟨_, _, _, z⟩ := q8; exact z.elim
  | ret v => obtain ⟨_, _, _, _, _, z⟩ := q8; exact z.elim
end
end L3
namespace L3
open PySem PySem.Spec PyProof.Rows L2 PySem.SeqAt

def tFst2 (x : Str) (tv : TE) : TE := fun σ H Q => tv σ H fun u H1 => ∃ i, u = .int i ∧ i.natAbs.log2 < 1900 ∧ Q (.str (Str.empty ++ x ++ Str.ofString (toString i))) H1
theorem pe_fst2 {X : Cx} {v : Expr} {tv : TE} {x : Str} {j1 : Nat} {p0 p1 p2 : Pos} (hv : PE X v tv) (hx : (Str.empty ++ x).length ≤ 1000 := by decide +kernel) : PE X (.JoinedStr [.Constant (.str x) j1 p1, .FormattedValue v (-1) none p2] p0) (tFst2 x tv) := by
  intro pins s σ H Q I h
  refine JoinedStr_many (joinParts_cons (thn (pe_str (X := X) pins s σ H (fun u H' => u = .str x ∧ H' = H) I ⟨rfl, rfl⟩) fun u1 s1 ⟨v1, H1, I1, r1, e1, e2⟩ => ?_))
  subst e1 e2
  obtain ⟨t1, rfl⟩ := r1
  refine ⟨by rw [sizeLine_eq]; omega, joinParts_cons (FormattedValue_plain (thn (hv pins s1 σ H1 _ I1 h) fun u2 s2 ⟨v2, H2, I2, r2, i, e, hd, q⟩ => ?_))⟩
  subst e
  obtain ⟨t2, rfl⟩ := r2
  have hl := int_text_len_1921 (i := i) (by omega)
  have hz : (Str.empty ++ x ++ Str.ofString (toString i)).length ≤ sizeLine := by
    rw [sizeLine_eq]
    have : (Str.empty ++ x ++ Str.ofString (toString i)).length = (Str.empty ++ x).length + (Str.ofString (toString i)).length := by
      show Array.size _ = Array.size _ + Array.size _
      exact Array.size_append
    omega
  refine formatField_int_small (by omega) ?_
  exact ⟨hz, joinParts_nil ⟨.str _, _, (I2.tok _).tok _, ⟨_, rfl⟩, q⟩ hz⟩
theorem ps_setXK {X : Cx} {K : PySem.W.Frag} {o value : Expr} {ta tv : TE} {f : Str} {pos pos' : Pos} (h : X.K = K) (ha : PE X o ta) (hv : PE X value tv) (hs : swapsWith value (some (.Attribute o f pos')) pos.line X.env = pure false := by rfl) : PS X (.Assign [.Attribute o f pos'] value pos) (sX K ta tv f) := by
  subst h; exact ps_setX ha hv hs
theorem ps_raiseX {P : Program} {w : World} {K : PySem.W.Frag} {mg : Str → Option Value} {base : Heap} {N : List Str} {qual : Str} {scope : Scope} {f : Addr} {cd : Value} {A : Around} {outer : List Env} {s0 : Shared} {H0 : Hp} {E : XK}
    {C : Addr} {fn x : Str} {k : Nat} {np cpos pos : Pos} {e0 : Expr} {es : List Expr} {t : TA} (G : XInit P w K mg base k x C fn)
    (hr : Room (k + 1) (cxOf (CXD P w) P w K mg base N qual scope f cd A outer s0 H0 E).A) (hg : Gl (cxOf (CXD P w) P w K mg base N qual scope f cd A outer s0 H0 E) x)
    (ha : PA (cxOf (CXD P w) P w K mg base N qual scope f cd A outer s0 H0 E).nox (e0 :: es) t) (hdb : (x == ("__debug__" : Str)) = false := by decide)
    (he : starEach (e0 :: es) (cxOf (CXD P w) P w K mg base N qual scope f cd A outer s0 H0 E).env = (false, eval e0 (cxOf (CXD P w) P w K mg base N qual scope f cd A outer s0 H0 E).env) :: starEach es (cxOf (CXD P w) P w K mg base N qual scope f cd A outer s0 H0 E).env := by rfl)
    (hpl : (backTo cpos (starEach es (cxOf (CXD P w) P w K mg base N qual scope f cd A outer s0 H0 E).env)).any (·.1) = false := by rfl) :
    PS (cxOf (CXD P w) P w K mg base N qual scope f cd A outer s0 H0 E) (.Raise (some (.Call (.Name x np) (e0 :: es) [] cpos)) none pos) (tRaiseI C fn E t) := by
  obtain ⟨fI, fd, ps, c, F, hb⟩ := G.ex
  exact ps_raiseI c F hb hr hg ha hdb he hpl
theorem r_raiseI {C : Addr} {f : Str} {E : XK} {t : TA} {D : Ends} {σ : L2.St} {H : Hp} (h : t σ H fun vs H1 => ∃ i : Int, vs = [.int i] ∧ i.natAbs.log2 < 1900 ∧ ∀ d, H1 d = none → E (.ref C) (some d) (upd H1 d (.xd [(f, .int i)]))) : tRaiseI C f E t D σ H := h
theorem r_base {C : Addr} {t : TA} {σ : L2.St} {H : Hp} {Q : VK} (h : t σ H fun vs H1 => ∃ e u, vs = [.ref e, u] ∧ H1 e = some (XB e C none) ∧ Q .non H1) : tBase C t σ H Q := h
theorem r_fst2 {x : Str} {tv : TE} {σ : L2.St} {H : Hp} {Q : VK} (h : tv σ H fun u H1 => ∃ i, u = .int i ∧ i.natAbs.log2 < 1900 ∧ Q (.str (Str.empty ++ x ++ Str.ofString (toString i))) H1) : tFst2 x tv σ H Q := h
theorem r_sX {K : PySem.W.Frag} {ta tv : TE} {f : Str} {D : Ends} {σ : L2.St} {H : Hp} (h : tv σ H fun y H1 => ta σ H1 fun x H2 => ∃ a C, x = .ref a ∧ H2 a = some (XB a C none) ∧ ExcS K C f ∧ ∀ d, H2 d = none → D.nx σ (upd (upd H2 d (.xd [(f, y)])) a (XB a C (some d)))) : sX K ta tv f D σ H := h
theorem r_xfld {ea d : Addr} {f : Str} {ta : TE} {σ : L2.St} {H : Hp} {Q : VK} (h : ta σ H fun x H1 => x = .ref ea ∧ ∃ fs v, H1 d = some (.xd fs) ∧ fs.lookup f = some v ∧ Q v H1) : tXFld ea d f ta σ H Q := h
theorem r_tryD {tb : TB} {C : Addr} {i : Nat} {th : Addr → Addr → TS} {D : Ends} {σ : L2.St} {H : Hp}
    (h : tb D (fun c od H2 => c = .ref C ∧ ∃ d, od = some d ∧ ∀ ea, H2 ea = none → th ea d { nx := fun σ' H' => D.nx (σ'.set i none) H', rt := fun _ _ => False } (σ.set i (some (.ref ea))) H2) σ H) : tTryD tb C i th D σ H := h
theorem log_small {i : Int} (h1 : -(2 ^ 62) ≤ i) (h2 : i < 2 ^ 62) : i.natAbs.log2 < 1900 := by
  have h3 : i.natAbs < 2 ^ 63 := by omega
  by_cases h0 : i.natAbs = 0
  · rw [h0]; decide
  · have := (Nat.log2_lt h0).mpr h3
    omega
end L3
namespace L3
open PySem PySem.Spec PyProof.Rows L2 PySem.SeqAt
theorem r_bSet {i : Nat} {tx : TEX} {D : Ends} {Ew : XK} {σ : L2.St} {H : Hp} (h : tx σ H (fun v H2 => D.nx (σ.set i (some v)) H2) Ew) : bSet i tx D Ew σ H := h
theorem r_xTup {ta : TAX} {σ : L2.St} {H : Hp} {Q : VK} {Ew : XK} (h : ta σ H (fun xs H1 => xs.length ≤ sizeLine ∧ ∀ p, H1 p = none → Q (.ref p) (upd H1 p (.tup xs))) Ew) : xTup ta σ H Q Ew := h
theorem r_xCons {tx : TEX} {ta : TAX} {σ : L2.St} {H : Hp} {Q : List V → Hp → Prop} {Ew : XK} (h : tx σ H (fun x H1 => ta σ H1 (fun xs H2 => Q (x :: xs) H2) Ew) Ew) : xCons tx ta σ H Q Ew := h
theorem r_xNil {σ : L2.St} {H : Hp} {Q : List V → Hp → Prop} {Ew : XK} (h : Q [] H) : xNil σ H Q Ew := h
theorem r_xPl {te : TE} {σ : L2.St} {H : Hp} {Q : VK} {Ew : XK} (h : te σ H Q) : xPl te σ H Q Ew := h
theorem r_xCall {sp : Sp} {t : TA} {σ : L2.St} {H : Hp} {Q : VK} {Ew : XK} (h : t σ H fun vs H1 => sp vs H1 Q Ew) : xCall sp t σ H Q Ew := h
end L3

namespace FB
open PySem PySem.Spec PyProof.Rows L2 L3 PySem.SeqAt
local macro_rules | `(tactic| walk_at "clok") => `(tactic| repeat (first | exact True.intro | refine ⟨rfl, ?_⟩))
local macro_rules | `(tactic| walk_at "frok") => `(tactic| repeat (first | exact True.intro | refine ⟨⟨rfl, (by first | exact Or.inl rfl | exact Or.inr rfl), (by first | exact Or.inl rfl | exact Or.inr rfl), rfl⟩, ?_⟩))
local macro_rules | `(tactic| walk_at "hlk") => `(tactic| first | (with_reducible assumption) | (exact upd_same) | ((with_reducible refine' look_new ?x ?y); (case y => with_reducible assumption); (case x => walk_at "hlk")) | ((fail_if_success (((with_reducible refine' look_new ?x ?y); (case y => with_reducible assumption)))); (with_reducible refine' look_ne ?x ?y); (case x => walk_at "ne"); (case y => walk_at "hlk")) | ((with_reducible refine' same_at ?x ?y); (case x => with_reducible assumption); (case y => walk_at "hlk")))
local macro_rules | `(tactic| walk_at "ne") => `(tactic| first | (with_reducible assumption) | (apply Ne.symm; (with_reducible assumption)) | ((with_reducible refine' ne_of_none ?x ?y); (case y => with_reducible assumption); (case x => walk_at "hlk")) | (apply Ne.symm; (with_reducible refine' ne_of_none ?x ?y); (case y => with_reducible assumption); (case x => walk_at "hlk")))
local macro_rules | `(tactic| walk_at "sql") => `(tactic| first | (with_reducible assumption) | (refine' SqL.of ?x; (case x => first | (with_reducible assumption) | (exact upd_same))) | ((with_reducible refine' sql_new ?x ?y); (case y => with_reducible assumption); (case x => walk_at "sql")) | ((fail_if_success (((with_reducible refine' sql_new ?x ?y); (case y => with_reducible assumption)))); first | ((with_reducible refine' sql_upd ?s ?h ?q); (case h => with_reducible assumption); (case s => walk_at "same"); (case q => walk_at "sql")) | (refine' SqL.of ?x; (case x => (with_reducible refine' look_ne ?x2 ?y2); (case x2 => walk_at "ne"); (case y2 => walk_at "hlk")))) | ((with_reducible refine' Same.seq ?x ?y); (case x => with_reducible assumption); (case y => walk_at "sql")))
local macro_rules | `(tactic| walk_at "sqt") => `(tactic| first | (with_reducible assumption) | (refine' SqT.of ?x; (case x => first | (with_reducible assumption) | (exact upd_same))) | ((with_reducible refine' sqt_new ?x ?y); (case y => with_reducible assumption); (case x => walk_at "sqt")) | ((fail_if_success (((with_reducible refine' sqt_new ?x ?y); (case y => with_reducible assumption)))); first | ((with_reducible refine' sqt_upd ?s ?h ?q); (case h => with_reducible assumption); (case s => walk_at "same"); (case q => walk_at "sqt")) | (refine' SqT.of ?x; (case x => (with_reducible refine' look_ne ?x2 ?y2); (case x2 => walk_at "ne"); (case y2 => walk_at "hlk")))) | ((with_reducible refine' SqT_same ?x ?y); (case x => with_reducible assumption); (case y => walk_at "sqt")))
local macro_rules | `(tactic| walk_at "lk") => `(tactic| first | (with_reducible exact look_hit) | (refine' look_of ?x ?y; (case x => decide +kernel); (case y => walk_at "lk")) | exact look_hit)
local macro_rules | `(tactic| walk_at "nolk") => `(tactic| first | (with_reducible rfl) | (refine' look_no ?x ?y; (case x => decide +kernel); (case y => walk_at "nolk")) | rfl)
local macro_rules | `(tactic| walk_at "fewf") => `(tactic| first | exact Nat.lt_of_le_of_lt (Nat.le_refl 0) (by decide) | exact Nat.lt_of_le_of_lt (len_of (Nat.le_refl 0)) (by decide) | exact Nat.lt_of_le_of_lt (len_of (len_of (Nat.le_refl 0))) (by decide) | exact Nat.lt_of_le_of_lt (len_of (len_of (len_of (Nat.le_refl 0)))) (by decide))
local macro_rules | `(tactic| walk_at "small") => `(tactic| first | exact Nat.le_of_ble_eq_true rfl | (show _ ≤ sizeLine; rw [sizeLine_eq]; first | omega | (simp only [List.length_map, List.length_cons, List.length_nil, List.length_append, List.length_replicate, List.length_set, List.length_range]; omega)))
local macro_rules | `(tactic| walk_at "r1") => `(tactic| with_reducible first
  | refine r_var (by with_unfolding_all rfl) ?_
  | refine r_c ?_ | refine r_op ?_ | refine r_I0 ?_ | refine r_plusI ?_ | refine r_seq ?_ | refine r_asg ?_ | (refine' r_gN ?x ?_; (case x => simp only [List.set_cons_succ, List.set_cons_zero]; rfl)) | refine r_ret ?_ | refine r_ifS ?_ | refine r_test ?_
  | refine r_cons ?_ | refine r_nil ?_ | refine r_cb ?_ | refine r_callE ?_ | refine r_makeE ?_ | refine r_methE ?_ | refine r_fld ?_ | refine r_tru ?_ | refine r_truB ?_ | refine r_truI ?_
  | refine r_not ?_ | refine r_and ?_ | refine r_or ?_ | refine r_next ?_ | refine r_drop ?_ | refine r_sFld ?_ | refine r_retN ?_ | refine r_un ?_ | refine r_U ?_ | refine r_if ?_
  | refine r_andV ?_ | refine r_orV ?_ | refine r_notV ?_ | refine r_sl ?_ | refine r_part ?_ | refine r_noPart ?_ | refine r_bm ?_ | refine r_bm0 ?_ | refine r_tup ?_ | refine r_lst ?_ | refine r_two ?_
  | (refine' r_compE' ?x ?_; (case x => with_unfolding_all rfl)) | (refine' r_compS' ?x ?_; (case x => with_unfolding_all rfl)) | refine r_for ?_ | refine r_iSeq ?_ | refine r_rng1 ?_ | refine r_rng2 ?_ | refine r_true ?_
  | refine r_isNr ?_ | refine r_isNn ?_ | refine r_isNi ?_ | refine r_notNr ?_ | refine r_notNn ?_ | refine r_notNi ?_
  | refine iteT ?_ | refine iteF ?_ | refine iteNT ?_ | refine iteNF ?_
  | refine ⟨_, rfl, ?_⟩)
local macro_rules | `(tactic| walk_at "r2") => `(tactic| first
  | ((with_reducible refine' r_fldV ?h ?c ?n ?l ?_); (case h => walk_at "hlk"); (case c => walk_at "cls"); (case n => walk_at "noat"); (case l => walk_at "lk"))
  | ((with_reducible refine' r_sFldV ?h ?c ?n ?l ?_); (case h => walk_at "hlk"); (case c => walk_at "cls"); (case n => walk_at "noat"); (case l => walk_at "fewf"))
  | ((with_reducible refine' r_lenI ?h ?_); (case h => walk_at "sql"))
  | ((with_reducible refine' r_lenL ?h ?_); (case h => walk_at "sql"))
  | ((with_reducible refine' r_lenT ?h ?_); (case h => walk_at "sqt"))
  | ((with_reducible refine' r_listL ?h ?_); (case h => walk_at "sql"))
  | ((with_reducible refine' r_listT ?h ?_); (case h => walk_at "sqt"))
  | ((with_reducible refine' r_eqS ?h ?_); (case h => rfl))
  | ((with_reducible refine' r_neS ?h ?_); (case h => rfl)))
local macro_rules | `(tactic| walk_at "none") => `(tactic| first | (with_reducible assumption) | ((with_reducible refine' none_same ?x ?y); (case y => with_reducible assumption); (case x => walk_at "same")))
local macro_rules | `(tactic| walk_at "same") => `(tactic| first | (with_reducible assumption) | (with_reducible exact Same.refl _) | ((with_reducible refine' same_none ?x ?y); (case y => with_reducible assumption); (case x => walk_at "same")) | ((fail_if_success (((with_reducible refine' same_none ?x ?y); (case y => with_reducible assumption)))); (with_reducible refine' same_upd ?x ?y); (case y => walk_at "none"); (case x => walk_at "same")) | ((with_reducible refine' Same.trans ?x ?y); (case y => with_reducible assumption); (case x => walk_at "same")))
local macro_rules | `(tactic| walk_at "tt") => `(tactic| first | assumption | omega | with_unfolding_all rfl | decide | (simp only [List.length_map, List.length_cons, List.length_nil, List.length_append, List.length_replicate, List.length_set, sI_len]; omega))
local macro_rules | `(tactic| walk_at "nn") => `(tactic| first | assumption | omega | decide | (simp only [List.length_map, List.length_cons, List.length_nil, List.length_append, List.length_replicate, List.length_set, sI_len]; omega))
local macro_rules | `(tactic| walk_at "cond") => `(tactic| first
  | ((with_reducible refine' r_I ?h ?_); (case h => first | exact ⟨by decide, by decide⟩ | (show (0 : Int) < _; first | decide | omega) | (show (0 : Int) ≤ _; first | decide | omega)))
  | ((with_reducible refine' r_ifB ?x ?_); (case x => intro hh; exact absurd hh (by decide)); intro _)
  | ((with_reducible refine' r_ifB ?_ ?x); (case x => intro hh; exact absurd hh (by decide)); intro _)
  | ((with_reducible refine' ifInt ?x ?_); (case x => intro hh; exact absurd hh (by walk_at "nn")); intro _)
  | ((with_reducible refine' ifInt ?_ ?x); (case x => intro hh; exact absurd (by walk_at "tt") hh); intro _)
  | ((with_reducible refine' ifIntN ?x ?_); (case x => intro hh; exact absurd (by walk_at "tt") hh); intro _)
  | ((with_reducible refine' ifIntN ?_ ?x); (case x => intro hh; exact absurd hh (by walk_at "nn")); intro _)
  | ((with_reducible refine' ifDec ?x ?_); (case x => intro hh; exact absurd hh (by walk_at "nn")); intro _)
  | ((with_reducible refine' ifDec ?_ ?x); (case x => intro hh; exact absurd (by walk_at "tt") hh); intro _)
  | ((with_reducible refine' ifDecN ?x ?_); (case x => intro hh; exact absurd (by walk_at "tt") hh); intro _)
  | ((with_reducible refine' ifDecN ?_ ?x); (case x => intro hh; exact absurd hh (by walk_at "nn")); intro _))
local macro_rules | `(tactic| walk_at "at") => `(tactic| first | assumption | ((with_reducible refine' gI_at ?x ?y); (case x => walk_at "tt"); (case y => walk_at "tt")) | ((with_reducible refine' gI_neg ?x ?y); (case x => walk_at "tt"); (case y => walk_at "tt")) | rfl)
local macro_rules | `(tactic| walk_at "calls") => `(tactic| first
  | ((with_reducible refine' r_bounded ?a ?b ?_); (case a => omega); (case b => omega))
  | ((with_reducible refine' r_withBox ?h ?a ?b ?_); (case h => walk_at "sql"); (case a => omega); (case b => omega))
  | ((with_reducible refine' r_cellAt ?h ?a ?_); (case h => walk_at "sql"); (case a => omega))
  | (with_reducible refine r_whole ?_) | (with_reducible refine r_without ?_) | (with_reducible refine r_filled ?_)
  | ((with_reducible refine' r_boxPl ?a ?b ?_); (case a => omega); (case b => omega))
  | ((with_reducible refine' r_cellPl ?a ?b ?c ?_); (case a => omega); (case b => omega); (case c => omega))
  | ((with_reducible refine' r_setI ?x ?y ?z ?_); (case x => walk_at "hlk"); (case y => walk_at "tt"); (case z => walk_at "tt"))
  | ((with_reducible refine' r_setIN ?x ?y ?z ?_); (case x => walk_at "hlk"); (case y => walk_at "tt"); (case z => walk_at "tt"))
  | ((with_reducible refine' r_ixT ?h ?e ?_); (case h => walk_at "sqt"); (case e => walk_at "at"))
  | ((with_reducible refine' r_ixL ?h ?e ?_); (case h => walk_at "sql"); (case e => walk_at "at"))
  | (with_reducible refine r_gSub ?_))
local macro_rules | `(tactic| walk_at "ty") => `(tactic| first | (with_reducible exact TyOf.int _) | (with_reducible exact TyOf.bl _) | (with_reducible exact TyOf.str _) | (with_reducible exact TyOf.non) | (refine' TyOf.lst ?x; (case x => walk_at "hlk")) | (refine' TyOf.tup ?x; (case x => walk_at "hlk")))
local macro_rules | `(tactic| walk_at "dp") => `(tactic| first | (with_reducible exact dp_int _) | (with_reducible exact dp_str _) | (with_reducible exact dp_bool _) | (with_reducible exact dp_none) | ((with_reducible refine' dp_ints ?x); (case x => walk_at "sql")) | ((with_reducible refine' dp_lst ?x ?y); (case x => walk_at "sql"); (case y => walk_at "dps")) | ((with_reducible refine' dp_tup ?x ?y); (case x => walk_at "sqt"); (case y => walk_at "dps")))
local macro_rules | `(tactic| walk_at "dps") => `(tactic| first | (with_reducible exact dpAll_nil) | ((with_reducible refine' dpAll_cons ?x ?y); (case x => walk_at "dp"); (case y => walk_at "dps")))
local macro_rules | `(tactic| walk_at "shaped") => `(tactic| first | exact shaped_ints _ | (unfold shaped; simp [PyData.canLay0, PyData.canLayAll0, canLay_ints, PyData.depth, PyData.depthAll, depth_ints]))
local macro_rules | `(tactic| walk_at "eqd") => `(tactic| first
  | ((with_reducible refine' r_eqT ?d ?x ?y ?s ?_); (case x => walk_at "dp"); (case y => walk_at "dp"); (case s => walk_at "shaped"))
  | ((with_reducible refine' r_neT ?d ?x ?y ?s ?_); (case x => walk_at "dp"); (case y => walk_at "dp"); (case s => walk_at "shaped")))
local macro_rules | `(tactic| walk_at "r3") => `(tactic| first
  | (with_reducible refine r_alloc (fun _ _ => ?_))
  | ((with_reducible refine' r_small ?x ?_); (case x => walk_at "small"))
  | ((with_reducible refine' r_62 ?x ?y ?_); (case x => walk_at "tt"); (case y => walk_at "tt"))
  | ((with_reducible refine' r_62b ?x ?y ?z ?u ?_); (case x => walk_at "tt"); (case y => walk_at "tt"); (case z => walk_at "tt"); (case u => walk_at "tt"))
  | ((with_reducible refine' r_itL ?x ?_); (case x => walk_at "sql"))
  | ((with_reducible refine' r_itT ?x ?_); (case x => walk_at "sqt"))
  | ((with_reducible refine' r_slI ?x ?_); (case x => walk_at "sql"))
  | ((with_reducible refine' r_slL ?x ?_); (case x => walk_at "sql"))
  | ((with_reducible refine' r_timesZ ?x ?y ?z ?_); (case x => walk_at "hlk"); (case y => walk_at "tt"); (case z => walk_at "tt"))
  | ((with_reducible refine' r_plusII ?x ?y ?z ?_); (case x => walk_at "hlk"); (case y => walk_at "hlk"); (case z => walk_at "small"))
  | ((with_reducible refine' r_tyL ?x ?_); (case x => walk_at "hlk"))
  | ((with_reducible refine' r_timesI ?h ?_); (case h => walk_at "cmul"))
  | ((with_reducible refine' r_sum ?h ?_); (case h => walk_at "sql"))
  | ((with_reducible refine' r_inT ?h ?x ?y ?_); (case h => walk_at "sqt"); (case x => rfl); (case y => rfl))
  | ((with_reducible refine' r_clear ?x ?_); (case x => walk_at "hlk"))
  | ((with_reducible refine' r_append ?x ?y ?_); (case x => walk_at "hlk"); (case y => walk_at "small"))
  | ((with_reducible refine' r_isi ?c ?t ?e ?_); (case c => exact fun z => nomatch z); (case t => walk_at "ty"); (case e => walk_at "kit")))
local macro_rules | `(tactic| walk_at "rd") => `(tactic| repeat (first | walk_at "r1" | walk_at "r3" | walk_at "r2" | walk_at "cond" | walk_at "calls" | walk_at "mine"))
local macro_rules | `(tactic| walk_at "rds") => `(tactic| repeat' (first | walk_at "r1" | walk_at "r3" | walk_at "r2" | walk_at "cond" | walk_at "calls" | walk_at "mine" | walk_at "cs"))
local macro_rules | `(tactic| walk_at "sp") => `(tactic| (repeat' split) <;> first | assumption | rfl | (exfalso; omega))
local macro_rules | `(tactic| walk_at "rok") => `(tactic| first | assumption | exact ⟨by omega, by omega⟩)
local macro_rules | `(tactic| walk_at "cmul") => `(tactic| first | exact Or.inl ⟨by decide, by decide⟩ | exact Or.inr ⟨by decide, by decide⟩ | exact Or.inl ⟨by omega, by omega⟩ | exact Or.inr ⟨by omega, by omega⟩)

set_option hygiene false
local macro_rules | `(tactic| walk_at "cs") => `(tactic| with_reducible first | refine ifInt (fun hh => ?_) (fun hh => ?_) | refine ifIntN (fun hh => ?_) (fun hh => ?_) | refine ifDec (fun hh => ?_) (fun hh => ?_) | refine ifDecN (fun hh => ?_) (fun hh => ?_) | (refine' r_ixDi ?h (fun hh => ?_) (fun hh => ?_); (case h => walk_at "sql")) | (refine' r_ixD ?h (fun hh => ?_) (fun hh => ?_); (case h => walk_at "sql")))
local macro_rules | `(tactic| walk_at "tf") => `(tactic| (show Q _ _; refine' q _ _ _ _ ?zs ?znt ?znb ?znp ?ze1 ?ze2 ?ze3 ?zt ?zb ?zp; (case zt => walk_at "hlk"); (case zb => walk_at "hlk"); (case zp => walk_at "hlk"); (case zs => walk_at "same"); (case znt => walk_at "none"); (case znb => walk_at "none"); (case znp => walk_at "none"); (case ze1 => walk_at "ne"); (case ze2 => walk_at "ne"); (case ze3 => walk_at "ne")))

local macro_rules | `(tactic| walk_at "cls") => `(tactic| first | assumption | exact T.cl_Table)
local macro_rules | `(tactic| walk_at "noat") => `(tactic| first | assumption | exact T.n_Table_entries | exact T.n_Table_landings)
local macro_rules | `(tactic| walk_at "kit") => `(tactic| first | assumption)
set_option hygiene true
def top (i : Nat) : Stmt := PySem.Challenge.pw_frameback_k22_astray.main.body.getD i (.Pass ⟨0, 0, 0, 0⟩)
abbrev s_Astray_init : Stmt := inClass (top 2) 0
theorem sc_Astray_init : FnScope ["self", "row"] ["self", "row"] (defScope s_Astray_init) := ⟨rfl, rfl, rfl, by decide +kernel, rfl, by decide +kernel, by decide +kernel⟩
abbrev s_Table_init : Stmt := inClass (top 5) 0
theorem sc_Table_init : FnScope ["self", "entries", "landings"] ["self", "entries", "landings"] (defScope s_Table_init) := ⟨rfl, rfl, rfl, by decide +kernel, rfl, by decide +kernel, by decide +kernel⟩
abbrev s_sets_of : Stmt := top 6
theorem sc_sets_of : FnScope ["entry", "kept"] ["entry"] (defScope s_sets_of) := ⟨rfl, rfl, rfl, by decide +kernel, rfl, by decide +kernel, by decide +kernel⟩
abbrev s_lowest_place : Stmt := top 9
theorem sc_lowest_place : FnScope ["places"] ["places"] (defScope s_lowest_place) := ⟨rfl, rfl, rfl, by decide +kernel, rfl, by decide +kernel, by decide +kernel⟩
abbrev s_looked_up : Stmt := top 10
theorem sc_looked_up : FnScope ["places", "known", "piece", "place", "cell"] ["places", "known", "piece"] (defScope s_looked_up) := ⟨rfl, rfl, rfl, by decide +kernel, rfl, by decide +kernel, by decide +kernel⟩
abbrev s_newest_caller : Stmt := top 11
theorem sc_newest_caller : FnScope ["entries", "at", "known", "pile", "entry", "length", "piece", "found"] ["entries", "at", "known", "pile"] (defScope s_newest_caller) := ⟨rfl, rfl, rfl, by decide +kernel, rfl, by decide +kernel, by decide +kernel⟩
abbrev s_callers : Stmt := top 12
theorem sc_callers : FnScope ["table", "row", "boxes", "pile", "home", "told", "at", "known", "left", "caller"] ["table", "row", "boxes", "pile"] (defScope s_callers) := ⟨rfl, rfl, rfl, by decide +kernel, rfl, by decide +kernel, by decide +kernel⟩
abbrev s_law_cell_at : Stmt := top 14
theorem sc_law_cell_at : FnScope ["_law_script", "_law_k"] ["_law_script", "_law_k"] (defScope s_law_cell_at) := ⟨rfl, rfl, rfl, by decide +kernel, rfl, by decide +kernel, by decide +kernel⟩
abbrev s_law_cell : Stmt := top 15
theorem sc_law_cell : FnScope ["_law_cell_here", "_law_many"] ["_law_cell_here", "_law_many"] (defScope s_law_cell) := ⟨rfl, rfl, rfl, by decide +kernel, rfl, by decide +kernel, by decide +kernel⟩
abbrev s_law_set : Stmt := top 16
theorem sc_law_set : FnScope ["_law_cell_here", "_law_height"] ["_law_cell_here", "_law_height"] (defScope s_law_set) := ⟨rfl, rfl, rfl, by decide +kernel, rfl, by decide +kernel, by decide +kernel⟩
abbrev s_law_entry : Stmt := top 17
theorem sc_law_entry : FnScope ["_law_cell_here", "_law_height", "_law_part", "_law_kept"] ["_law_cell_here"] (defScope s_law_entry) := ⟨rfl, rfl, rfl, by decide +kernel, rfl, by decide +kernel, by decide +kernel⟩
abbrev s_law_value : Stmt := top 18
theorem sc_law_value : FnScope ["_law_places", "_law_entry_here", "_law_boxes", "_law_pile", "_law_length", "_law_low"] ["_law_places", "_law_entry_here", "_law_boxes", "_law_pile", "_law_length"] (defScope s_law_value) := ⟨rfl, rfl, rfl, by decide +kernel, rfl, by decide +kernel, by decide +kernel⟩
abbrev s_law_up : Stmt := top 19
theorem sc_law_up : FnScope ["_law_entry_here", "_law_boxes", "_law_pile", "_law_length", "_law_found", "_law_places"] ["_law_entry_here", "_law_boxes", "_law_pile", "_law_length"] (defScope s_law_up) := ⟨rfl, rfl, rfl, by decide +kernel, rfl, by decide +kernel, by decide +kernel⟩
abbrev s_law_due : Stmt := top 20
theorem sc_law_due : FnScope ["_law_entries", "_law_row", "_law_boxes", "_law_pile", "_law_found", "_law_length", "_law_told_here", "_law_kept"] ["_law_entries", "_law_row", "_law_boxes", "_law_pile"] (defScope s_law_due) := ⟨rfl, rfl, rfl, by decide +kernel, rfl, by decide +kernel, by decide +kernel⟩
abbrev s_law_told : Stmt := top 21
theorem sc_law_told : FnScope ["_law_table", "_law_row", "_law_boxes", "_law_pile", "_law_told_here", "_law_right", "e"] ["_law_table", "_law_row", "_law_boxes", "_law_pile"] (defScope s_law_told) := ⟨rfl, rfl, rfl, by decide +kernel, rfl, by decide +kernel, by decide +kernel⟩
abbrev s_law : Stmt := top 22
theorem sc_law : FnScope ["_law_script", "_law_many", "_law_entries", "_law_row", "_law_boxes", "_law_pile", "_law_cell_here", "_law_handed", "_law_due_here", "_law_found"] ["_law_script"] (defScope s_law) := ⟨rfl, rfl, rfl, by decide +kernel, rfl, by decide +kernel, by decide +kernel⟩
structure Txt (K : PySem.W.Frag) (mg : Str → Option Value) (a : Adr) : Prop where
  z_ValueError : mg "ValueError" = none
  z_dict : mg "dict" = none
  z_int : mg "int" = none
  z_isinstance : mg "isinstance" = none
  z_len : mg "len" = none
  z_list : mg "list" = none
  z_max : mg "max" = none
  z_range : mg "range" = none
  g_FIRST_CELL_BIT : ∃ t, mg "FIRST_CELL_BIT" = some (Value.int 8 t)
  g_MOST_CALLERS : ∃ t, mg "MOST_CALLERS" = some (Value.int 5000 t)
  c_Astray : mg "Astray" = some (.ref a.C_Astray)
  c_FrameError : mg "FrameError" = some (.ref a.C_FrameError)
  c_Table : mg "Table" = some (.ref a.C_Table)
  cl_Table : Cls K a.C_Table
  n_Table_entries : NoAttr K a.C_Table "entries"
  n_Table_landings : NoAttr K a.C_Table "landings"
  i_Table : ∃ f fd, FunD K "__init__" "Table.__init__" s_Table_init f fd ∧ Mk K a.C_Table f ∧ Binds K fd ["self", "entries", "landings"] [] ∧ Binds K fd ["self", "entries", "landings"] [.none]
  xi_Astray : ∃ f fd, Fun K "__init__" "Astray.__init__" s_Astray_init f fd ∧ ExcI K mg "Astray" a.C_Astray f ∧ Binds K fd ["self", "row"] []
  xo_Astray : ∃ f, ExcI K mg "Astray" a.C_Astray f
  xk_Astray : ExcK K a.C_Astray
  xs_Astray : ExcS K a.C_Astray "row"
  xn_Astray : PySem.W.findIn K (.ref a.C_Astray) "row" = some none
  xh_Astray : ((PySem.W.clsIn K a.C_Astray).any (·.hasDict)) = true
  xb_FrameError : BaseI K mg "FrameError" a.C_FrameError
  is_Astray_FrameError : PySem.W.kitOne K (.ref a.C_Astray) (.ref a.C_FrameError) = some true
  is_Astray_ValueError : PySem.W.kitOne K (.ref a.C_Astray) (.type "ValueError") = some true
  fn_sets_of : ∃ f fd, Fun K "sets_of" "sets_of" s_sets_of f fd ∧ mg "sets_of" = some (.ref f) ∧ Binds K fd ["entry"] []
  fn_lowest_place : ∃ f fd, Fun K "lowest_place" "lowest_place" s_lowest_place f fd ∧ mg "lowest_place" = some (.ref f) ∧ Binds K fd ["places"] []
  fn_looked_up : ∃ f fd, Fun K "looked_up" "looked_up" s_looked_up f fd ∧ mg "looked_up" = some (.ref f) ∧ Binds K fd ["places", "known", "piece"] []
  fn_newest_caller : ∃ f fd, Fun K "newest_caller" "newest_caller" s_newest_caller f fd ∧ mg "newest_caller" = some (.ref f) ∧ Binds K fd ["entries", "at", "known", "pile"] []
  fn_callers : ∃ f fd, Fun K "callers" "callers" s_callers f fd ∧ mg "callers" = some (.ref f) ∧ Binds K fd ["table", "row", "boxes", "pile"] []
  fn_law_cell_at : ∃ f fd, Fun K "_law_cell_at" "_law_cell_at" s_law_cell_at f fd ∧ mg "_law_cell_at" = some (.ref f) ∧ Binds K fd ["_law_script", "_law_k"] []
  fn_law_cell : ∃ f fd, Fun K "_law_cell" "_law_cell" s_law_cell f fd ∧ mg "_law_cell" = some (.ref f) ∧ Binds K fd ["_law_cell_here", "_law_many"] []
  fn_law_set : ∃ f fd, Fun K "_law_set" "_law_set" s_law_set f fd ∧ mg "_law_set" = some (.ref f) ∧ Binds K fd ["_law_cell_here", "_law_height"] []
  fn_law_entry : ∃ f fd, Fun K "_law_entry" "_law_entry" s_law_entry f fd ∧ mg "_law_entry" = some (.ref f) ∧ Binds K fd ["_law_cell_here"] []
  fn_law_value : ∃ f fd, Fun K "_law_value" "_law_value" s_law_value f fd ∧ mg "_law_value" = some (.ref f) ∧ Binds K fd ["_law_places", "_law_entry_here", "_law_boxes", "_law_pile", "_law_length"] []
  fn_law_up : ∃ f fd, Fun K "_law_up" "_law_up" s_law_up f fd ∧ mg "_law_up" = some (.ref f) ∧ Binds K fd ["_law_entry_here", "_law_boxes", "_law_pile", "_law_length"] []
  fn_law_due : ∃ f fd, Fun K "_law_due" "_law_due" s_law_due f fd ∧ mg "_law_due" = some (.ref f) ∧ Binds K fd ["_law_entries", "_law_row", "_law_boxes", "_law_pile"] []
  fn_law_told : ∃ f fd, Fun K "_law_told" "_law_told" s_law_told f fd ∧ mg "_law_told" = some (.ref f) ∧ Binds K fd ["_law_table", "_law_row", "_law_boxes", "_law_pile"] []
  fn_law : ∃ f fd, Fun K "law" "law" s_law f fd ∧ mg "law" = some (.ref f) ∧ Binds K fd ["_law_script"] []


def lowP (p : Int) : Int := ((Builtin.Int.intBits (Builtin.bitAnd p (-p)) : Nat) : Int) - 1
theorem low_wo {n : Nat} (h : 0 < n) : Builtin.bitAnd (n : Int) (-(n : Int)) = ((Bt.wo n (n - 1) : Nat) : Int) := by
  rw [show -(n : Int) = Builtin.bitNot ((n - 1 : Nat) : Int) from by unfold Builtin.bitNot; omega, bitAnd_wo]
structure Ent where
  h : Int
  b : Int
  v4 : Int
  v5 : Int
  v6 : Int
def Ent.sets (e : Ent) : List Int := [e.b, e.v4, e.v5, e.v6]
def EntAt (K : PySem.W.Frag) (H : Hp) (p : Addr) (e : Ent) : Prop := ∃ q, SqT K H p [.int e.h, .int e.b, .ref q] ∧ SqT K H q [.int e.v4, .int e.v5, .int e.v6]
theorem EntAt.same {K : PySem.W.Frag} {H H' : Hp} {p : Addr} {e : Ent} (h : EntAt K H p e) (s : Same H H') : EntAt K H' p e := let ⟨q, h1, h2⟩ := h; ⟨q, SqT_same s h1, SqT_same s h2⟩

def EntV (K : PySem.W.Frag) (H : Hp) (v : V) : Option Ent → Prop
  | none => v = .non
  | some e => ∃ p, v = .ref p ∧ EntAt K H p e
theorem EntV.same {K : PySem.W.Frag} {H H' : Hp} {v : V} {oe : Option Ent} (h : EntV K H v oe) (s : Same H H') : EntV K H' v oe := by
  cases oe with
  | none => exact h
  | some e => obtain ⟨p, e1, e2⟩ := h; exact ⟨p, e1, e2.same s⟩
def EntVs (K : PySem.W.Frag) (H : Hp) (vs : List V) (es : List (Option Ent)) : Prop := vs.length = es.length ∧ ∀ (i : Nat) (oe : Option Ent), es[i]? = some oe → ∃ v, vs[i]? = some v ∧ EntV K H v oe
theorem EntVs.same {K : PySem.W.Frag} {H H' : Hp} {vs : List V} {es : List (Option Ent)} (h : EntVs K H vs es) (s : Same H H') : EntVs K H' vs es :=
  ⟨h.1, fun i oe e => let ⟨v, e1, e2⟩ := h.2 i oe e; ⟨v, e1, e2.same s⟩⟩
theorem EntVs.snoc {K : PySem.W.Frag} {H : Hp} {vs : List V} {es : List (Option Ent)} {v : V} {oe : Option Ent} (h : EntVs K H vs es) (hv : EntV K H v oe) : EntVs K H (vs ++ [v]) (es ++ [oe]) := by
  refine ⟨by rw [List.length_append, List.length_append, h.1]; rfl, fun i o e => ?_⟩
  by_cases hi : i < es.length
  · rw [List.getElem?_append_left hi] at e
    obtain ⟨u, e1, e2⟩ := h.2 i o e
    exact ⟨u, by rw [List.getElem?_append_left (by rw [h.1]; exact hi)]; exact e1, e2⟩
  · rw [List.getElem?_append_right (by omega)] at e
    have hi' : i - es.length = 0 := by
      rcases Nat.eq_zero_or_pos (i - es.length) with z | z
      · exact z
      · rw [List.getElem?_eq_none (by simp; omega)] at e; cases e
    rw [hi'] at e
    cases e
    exact ⟨v, by rw [List.getElem?_append_right (by rw [h.1]; omega), h.1, hi']; rfl, hv⟩
theorem EntVs.nil {K : PySem.W.Frag} {H : Hp} : EntVs K H [] [] := ⟨rfl, fun i oe e => by simp at e⟩
structure Cal where
  r : Int
  a : Int
  b : Int
  c : Int
  n : Int
def CalV (H : Hp) (v : V) (c : Cal) : Prop := ∃ t q, v = .ref t ∧ H t = some (.tup [.int c.r, .ref q, .int c.n]) ∧ H q = some (.tup [.int c.a, .int c.b, .int c.c])
theorem CalV.same {H H' : Hp} {v : V} {c : Cal} (h : CalV H v c) (s : Same H H') : CalV H' v c := let ⟨t, q, e, h1, h2⟩ := h; ⟨t, q, e, s _ _ h1, s _ _ h2⟩
def CalVs (H : Hp) : List V → List Cal → Prop
  | [], [] => True
  | v :: vs, c :: cs => CalV H v c ∧ CalVs H vs cs
  | _, _ => False
theorem CalVs.same {H H' : Hp} (s : Same H H') : ∀ {vs : List V} {cs : List Cal}, CalVs H vs cs → CalVs H' vs cs
  | [], [], _ => True.intro
  | _ :: _, _ :: _, h => ⟨h.1.same s, CalVs.same s h.2⟩
  | [], _ :: _, h => h.elim
  | _ :: _, [], h => h.elim
theorem CalVs.snoc {H : Hp} {v : V} {c : Cal} (hv : CalV H v c) : ∀ {vs : List V} {cs : List Cal}, CalVs H vs cs → CalVs H (vs ++ [v]) (cs ++ [c])
  | [], [], _ => ⟨hv, True.intro⟩
  | _ :: _, _ :: _, h => ⟨h.1, CalVs.snoc hv h.2⟩
  | [], _ :: _, h => h.elim
  | _ :: _, [], h => h.elim
theorem CalVs.len {H : Hp} : ∀ {vs : List V} {cs : List Cal}, CalVs H vs cs → vs.length = cs.length
  | [], [], _ => rfl
  | _ :: _, _ :: _, h => by rw [List.length_cons, List.length_cons, CalVs.len h.2]
  | [], _ :: _, h => h.elim
  | _ :: _, [], h => h.elim
theorem CalV.upd {H : Hp} {v : V} {c : Cal} {p : Addr} {ys : List V} {o : HO} (hp : H p = some (.lst ys)) (h : CalV H v c) : CalV (upd H p o) v c := by
  obtain ⟨t, q, e, h1, h2⟩ := h
  refine ⟨t, q, e, ?_, ?_⟩
  · rw [upd_ne (fun z => by subst z; rw [hp] at h1; cases h1)]; exact h1
  · rw [upd_ne (fun z => by subst z; rw [hp] at h2; cases h2)]; exact h2
theorem CalVs.upd {H : Hp} {p : Addr} {ys : List V} {o : HO} (hp : H p = some (.lst ys)) : ∀ {vs : List V} {cs : List Cal}, CalVs H vs cs → CalVs (upd H p o) vs cs
  | [], [], _ => True.intro
  | _ :: _, _ :: _, h => ⟨h.1.upd hp, CalVs.upd hp h.2⟩
  | [], _ :: _, h => h.elim
  | _ :: _, [], h => h.elim
def calD (c : Cal) : PyData := .tuple [.int c.r, .tuple [.int c.a, .int c.b, .int c.c], .int c.n]
theorem CalVs.dp {K : PySem.W.Frag} {H : Hp} : ∀ {vs : List V} {cs : List Cal}, CalVs H vs cs → DpAll K H (cs.map calD) vs
  | [], [], _ => dpAll_nil
  | v :: vs, c :: cs, h => by
    obtain ⟨⟨t, q, rfl, h1, h2⟩, h3⟩ := h
    exact dpAll_cons (dp_tup (SqT.of h1) (dpAll_cons (dp_int _) (dpAll_cons (dp_tup (SqT.of h2) (dpAll_cons (dp_int _) (dpAll_cons (dp_int _) (dpAll_cons (dp_int _) dpAll_nil)))) (dpAll_cons (dp_int _) dpAll_nil)))) (CalVs.dp h3)
  | [], _ :: _, h => h.elim
  | _ :: _, [], h => h.elim
theorem cals_lay : ∀ es : List Cal, PyData.canLayAll0 (es.map calD) = true
  | [] => rfl
  | e :: es => by
    rw [List.map_cons, PyData.canLayAll0, cals_lay es]
    rfl
theorem cals_depth : ∀ es : List Cal, PyData.depthAll (es.map calD) ≤ 2
  | [] => by decide
  | e :: es => by
    have h1 : (calD e).depth ≤ 2 := by simp [calD, PyData.depth, PyData.depthAll]
    have h2 := cals_depth es
    rw [List.map_cons, PyData.depthAll]
    omega
theorem r_gTup {K : PySem.W.Frag} {p : Addr} {xs : List V} {n : Nat} {t : TGs} {σ : L2.St} {H : Hp} {Q : L2.St → Hp → Prop} (h : SqT K H p xs) (hl : xs.length = n) (q : t xs σ H Q) : gTup K n t (.ref p) σ H Q := ⟨p, xs, rfl, h, hl, q⟩
theorem r_gCons {t : TG} {u : TGs} {v : V} {r : List V} {σ : L2.St} {H : Hp} {Q : L2.St → Hp → Prop} (q : t v σ H fun σ' H' => u r σ' H' Q) : gCons t u (v :: r) σ H Q := ⟨v, r, rfl, q⟩
theorem r_gNil {σ : L2.St} {H : Hp} {Q : L2.St → Hp → Prop} (q : Q σ H) : gNil [] σ H Q := ⟨rfl, q⟩
theorem b_dict : bootBuiltins "dict" = some (.type "dict") := by decide +kernel
def tabF (l d : Addr) : List (Str × V) := putF "landings" (.ref d) (putF "entries" (.ref l) [])

def spTab (K : PySem.W.Frag) (C : Addr) : Sp := fun vs H Q _ => ∃ (x dx pe : Addr) (lv : V) (xs : List V) (kvs : List (Key × V)), vs = [.ref x, .ref pe, lv] ∧ H x = some (.ins C dx []) ∧ SqL K H pe xs ∧
  ((lv = .non ∧ kvs = []) ∨ ∃ pd, lv = .ref pd ∧ H pd = some (.dK kvs)) ∧
  ∀ l d H', H l = none → H d = none → l ≠ d → (∀ b o, H b = some o → b ≠ x → H' b = some o) → H' x = some (.ins C dx (tabF l d)) → H' l = some (.lst xs) → H' d = some (.dK kvs) → Q .non H'
def spSets (K : PySem.W.Frag) : Sp := fun vs H Q _ => ∃ (p : Addr) (e : Ent), vs = [.ref p] ∧ EntAt K H p e ∧ ∀ t, H t = none → Q (.ref t) (upd H t (.tup (e.sets.map V.int)))
def spLow : Sp := fun vs H Q _ => ∃ i : Int, vs = [.int i] ∧ Q (.int (lowP i)) H
theorem r_low {i : Int} {H : Hp} {Q : VK} {E : XK} (q : Q (.int (lowP i)) H) : spLow [.int i] H Q E := ⟨i, rfl, q⟩
def lookM (s : Int) (kn : List V) (pc : List Int) : V := if s ≤ 0 then .non else if lowP s < 8 then kn.getD (lowP s).toNat .non else if lowP s - 8 < pc.length then .int (gI pc (lowP s - 8)) else .non
def spLook (K : PySem.W.Frag) : Sp := fun vs H Q _ => ∃ (s : Int) (pk pp : Addr) (kn : List V) (pc : List Int), vs = [.int s, .ref pk, .ref pp] ∧ SqL K H pk kn ∧ kn.length = 8 ∧ SqL K H pp (pc.map V.int) ∧ (0 < s → 0 ≤ lowP s) ∧ Q (lookM s kn pc) H
theorem r_look {K : PySem.W.Frag} {s : Int} {pk pp : Addr} {kn : List V} {pc : List Int} {H : Hp} {Q : VK} {E : XK} (h1 : SqL K H pk kn) (h8 : kn.length = 8) (h2 : SqL K H pp (pc.map V.int)) (h0 : 0 < s → 0 ≤ lowP s) (q : Q (lookM s kn pc) H) : spLook K [.int s, .ref pk, .ref pp] H Q E := ⟨s, pk, pp, kn, pc, rfl, h1, h8, h2, h0, q⟩

def knOf (c : Cal) : List V := [.non, .non, .non, .non, .int c.a, .int c.b, .int c.c, .non]

theorem cutI_drop (xs : List Int) {k : Int} (h0 : 0 ≤ k) (h1 : k ≤ xs.length) : cutI xs (some k) none = xs.drop k.toNat := by
  unfold cutI
  have e2 : HT.sIx xs.length 0 (some k) = k.toNat := by
    show (if k < 0 then _ else _) = _
    rw [if_neg (by omega)]; omega
  have e3 : HT.sIx xs.length xs.length none = xs.length := rfl
  rw [e2, e3, List.take_of_length_le (by rw [List.length_drop]; exact Nat.le_refl _)]
theorem lookM_in {s : Int} {kn : List V} {pc : List Int} (h : 0 < s) (h0 : 0 ≤ lowP s) (h1 : lowP s < 8) (h8 : kn.length = 8) : atI kn (lowP s) = some (lookM s kn pc) := by
  unfold lookM
  rw [if_neg (by omega), if_pos h1]
  have e : lowP s = (((lowP s).toNat : Nat) : Int) := by omega
  rw [e]
  exact atI_nat (by rw [Int.toNat_natCast, List.getD_eq_getElem?_getD, List.getElem?_eq_getElem (by omega)]; rfl)

theorem r_chain {r r' : R2} {ta tb tc : TE} {σ : L2.St} {H : Hp} {Q : VK} (h : ta σ H fun x H1 => tb σ H1 fun y H2 => r x y H2 fun z H3 => ∃ k, z = .bl k ∧ (if k then tc σ H3 fun u H4 => r' y u H4 Q else Q (.bl false) H3)) : tChain r r' ta tb tc σ H Q := h
theorem b_ValueError : bootBuiltins "ValueError" = some (.type "ValueError") := by decide +kernel
theorem low_nn {s : Int} (h : 0 < s) : 0 ≤ lowP s := by
  obtain ⟨n, rfl⟩ : ∃ n : Nat, s = (n : Int) := ⟨s.toNat, by omega⟩
  have hn : 0 < n := by omega
  unfold lowP
  rw [low_wo hn]
  have hw : 0 < Bt.wo n (n - 1) := by
    unfold Bt.wo
    have := Nat.and_le_right (n := n) (m := n - 1)
    omega
  have : ¬ Builtin.Int.intBits ((Bt.wo n (n - 1) : Nat) : Int) ≤ 0 := fun z => by
    have := PySem.intBits_le_iff.mp z
    rw [Int.natAbs_natCast] at this
    omega
  omega

def near (i : Int) : Prop := -(2 ^ 61) ≤ i ∧ i < 2 ^ 61
def OkV (v : V) : Prop := v = .non ∨ ∃ i, v = .int i ∧ near i
def KnOk (kn : List V) : Prop := kn.length = 8 ∧ ∀ v ∈ kn, OkV v
def PlOk (pl : List Int) : Prop := ∀ i ∈ pl, near i
theorem PlOk.take {pl : List Int} (h : PlOk pl) (n : Nat) : PlOk (pl.take n) := fun i hi => h i (List.mem_of_mem_take hi)
theorem PlOk.drop {pl : List Int} (h : PlOk pl) (n : Nat) : PlOk (pl.drop n) := fun i hi => h i (List.mem_of_mem_drop hi)
theorem look_ok {s : Int} {kn : List V} {pc : List Int} (hk : KnOk kn) (hp : PlOk pc) : OkV (lookM s kn pc) := by
  unfold lookM
  split
  · exact .inl rfl
  · rename_i hs
    split
    · rename_i hl
      have h0 := low_nn (s := s) (by omega)
      rw [List.getD_eq_getElem?_getD, List.getElem?_eq_getElem (by rw [hk.1]; omega)]
      exact hk.2 _ (List.getElem_mem _)
    · rename_i hl
      split
      · rename_i hc
        refine .inr ⟨_, rfl, ?_⟩
        unfold gI
        rw [List.getD_eq_getElem?_getD, List.getElem?_eq_getElem (by omega)]
        exact hp _ (List.getElem_mem _)
      · exact .inl rfl
def vi : V → Option Int
  | .int i => some i
  | _ => none
def calOf (e : Ent) (kn : List V) (pl : List Int) : Option Cal :=
  match vi (lookM e.b kn (pl.drop ((pl.length : Int) - e.h).toNat)), vi (lookM e.v4 kn (pl.drop ((pl.length : Int) - e.h).toNat)), vi (lookM e.v5 kn (pl.drop ((pl.length : Int) - e.h).toNat)), vi (lookM e.v6 kn (pl.drop ((pl.length : Int) - e.h).toNat)) with
  | some r, some a, some b, some c => some ⟨r, a, b, c, (pl.length : Int) - e.h⟩
  | _, _, _, _ => none
def upO (oe : Option Ent) (kn : List V) (pl : List Int) : Option Cal := match oe with
  | none => none
  | some e => if 0 ≤ e.h ∧ e.h ≤ pl.length then calOf e kn pl else none
def stepR (es : List (Option Ent)) (at' : Int) (kn : List V) (pl : List Int) : Option Cal :=
  if 0 ≤ at' ∧ at' < es.length then upO (es.getD at'.toNat none) kn pl else none
def walkF (es : List (Option Ent)) : Nat → Int → List V → List Int → List Cal × Option Int
  | 0, at', _, _ => ([], if at' = es.length then none else some at')
  | f + 1, at', kn, pl => if at' = es.length then ([], none) else match stepR es at' kn pl with
    | none => ([], some at')
    | some c => (c :: (walkF es f c.r (knOf c) (pl.take c.n.toNat)).1, (walkF es f c.r (knOf c) (pl.take c.n.toNat)).2)
theorem walk_home {es : List (Option Ent)} {f : Nat} {at' : Int} {kn : List V} {pl : List Int} (h : at' = es.length) : walkF es f at' kn pl = ([], none) := by
  cases f with
  | zero => unfold walkF; rw [if_pos h]
  | succ f => unfold walkF; rw [if_pos h]
theorem walk_lost {es : List (Option Ent)} {f : Nat} {at' : Int} {kn : List V} {pl : List Int} (h : at' ≠ es.length) (hs : f = 0 ∨ stepR es at' kn pl = none) : walkF es f at' kn pl = ([], some at') := by
  cases f with
  | zero => unfold walkF; rw [if_neg h]
  | succ f =>
    unfold walkF
    rw [if_neg h]
    rcases hs with hs | hs
    · cases hs
    · rw [hs]
theorem walk_next {es : List (Option Ent)} {f : Nat} {at' : Int} {kn : List V} {pl : List Int} {c : Cal} (h : at' ≠ es.length) (hs : stepR es at' kn pl = some c) :
    walkF es (f + 1) at' kn pl = (c :: (walkF es f c.r (knOf c) (pl.take c.n.toNat)).1, (walkF es f c.r (knOf c) (pl.take c.n.toNat)).2) := by
  rw [walkF, if_neg h, hs]
theorem in_four {v1 v2 v3 v4 : V} (h1 : OkV v1) (h2 : OkV v2) (h3 : OkV v3) (h4 : OkV v4) : (inV .non [v1, v2, v3, v4] = true ∧ (vi v1 = none ∨ vi v2 = none ∨ vi v3 = none ∨ vi v4 = none)) ∨
    (inV .non [v1, v2, v3, v4] = false ∧ ∃ r a b c, v1 = .int r ∧ v2 = .int a ∧ v3 = .int b ∧ v4 = .int c ∧ near r ∧ near a ∧ near b ∧ near c) := by
  rcases h1 with rfl | ⟨r, rfl, n1⟩
  · exact .inl ⟨rfl, .inl rfl⟩
  rcases h2 with rfl | ⟨a, rfl, n2⟩
  · exact .inl ⟨rfl, .inr (.inl rfl)⟩
  rcases h3 with rfl | ⟨b, rfl, n3⟩
  · exact .inl ⟨rfl, .inr (.inr (.inl rfl))⟩
  rcases h4 with rfl | ⟨c, rfl, n4⟩
  · exact .inl ⟨rfl, .inr (.inr (.inr rfl))⟩
  exact .inr ⟨rfl, r, a, b, c, rfl, rfl, rfl, rfl, n1, n2, n3, n4⟩
theorem flat_four {v1 v2 v3 v4 : V} (h1 : OkV v1) (h2 : OkV v2) (h3 : OkV v3) (h4 : OkV v4) : [v1, v2, v3, v4].all flatV = true := by
  have f : ∀ {v : V}, OkV v → flatV v = true := fun h => by rcases h with rfl | ⟨i, rfl, _⟩ <;> rfl
  simp [f h1, f h2, f h3, f h4]
theorem cal_none {e : Ent} {kn : List V} {pl : List Int} (h : vi (lookM e.b kn (pl.drop ((pl.length : Int) - e.h).toNat)) = none ∨ vi (lookM e.v4 kn (pl.drop ((pl.length : Int) - e.h).toNat)) = none ∨ vi (lookM e.v5 kn (pl.drop ((pl.length : Int) - e.h).toNat)) = none ∨ vi (lookM e.v6 kn (pl.drop ((pl.length : Int) - e.h).toNat)) = none) : calOf e kn pl = none := by
  unfold calOf
  rcases h with h | h | h | h <;> rw [h]
  · cases vi (lookM e.b kn (pl.drop ((pl.length : Int) - e.h).toNat)) <;> rfl
  · cases vi (lookM e.b kn (pl.drop ((pl.length : Int) - e.h).toNat)) <;> cases vi (lookM e.v4 kn (pl.drop ((pl.length : Int) - e.h).toNat)) <;> rfl
  · cases vi (lookM e.b kn (pl.drop ((pl.length : Int) - e.h).toNat)) <;> cases vi (lookM e.v4 kn (pl.drop ((pl.length : Int) - e.h).toNat)) <;> cases vi (lookM e.v5 kn (pl.drop ((pl.length : Int) - e.h).toNat)) <;> rfl
theorem cal_some {e : Ent} {kn : List V} {pl : List Int} {r a b c : Int} (h1 : lookM e.b kn (pl.drop ((pl.length : Int) - e.h).toNat) = .int r) (h2 : lookM e.v4 kn (pl.drop ((pl.length : Int) - e.h).toNat) = .int a) (h3 : lookM e.v5 kn (pl.drop ((pl.length : Int) - e.h).toNat) = .int b) (h4 : lookM e.v6 kn (pl.drop ((pl.length : Int) - e.h).toNat) = .int c) :
    calOf e kn pl = some ⟨r, a, b, c, (pl.length : Int) - e.h⟩ := by
  unfold calOf
  rw [h1, h2, h3, h4]; rfl

theorem step_ok {es : List (Option Ent)} {at' : Int} {kn : List V} {pl : List Int} {c : Cal} (hk : KnOk kn) (hp : PlOk pl) (h : stepR es at' kn pl = some c) : near c.r ∧ KnOk (knOf c) ∧ 0 ≤ c.n ∧ c.n ≤ pl.length := by
  unfold stepR at h
  split at h
  · unfold upO at h
    split at h
    · cases h
    · rename_i e _
      split at h
      · rename_i hh
        rcases in_four (look_ok (s := e.b) hk (hp.drop ((pl.length : Int) - e.h).toNat)) (look_ok (s := e.v4) hk (hp.drop ((pl.length : Int) - e.h).toNat)) (look_ok (s := e.v5) hk (hp.drop ((pl.length : Int) - e.h).toNat)) (look_ok (s := e.v6) hk (hp.drop ((pl.length : Int) - e.h).toNat)) with ⟨_, z⟩ | ⟨_, r, a, b, c', h1, h2, h3, h4, n1, n2, n3, n4⟩
        · rw [cal_none z] at h; cases h
        · rw [cal_some h1 h2 h3 h4] at h
          cases h
          refine ⟨n1, ⟨rfl, fun v hv => ?_⟩, (show 0 ≤ (pl.length : Int) - e.h by omega), (show (pl.length : Int) - e.h ≤ pl.length by omega)⟩
          simp only [knOf, List.mem_cons, List.not_mem_nil, or_false] at hv
          rcases hv with rfl | rfl | rfl | rfl | rfl | rfl | rfl | rfl
          · exact .inl rfl
          · exact .inl rfl
          · exact .inl rfl
          · exact .inl rfl
          · exact .inr ⟨_, rfl, n2⟩
          · exact .inr ⟨_, rfl, n3⟩
          · exact .inr ⟨_, rfl, n4⟩
          · exact .inl rfl
      · cases h
  · cases h

theorem eta_app (r : List Cal × Option Int) : r = ([] ++ r.1, r.2) := by cases r; rfl
theorem walk_push {es : List (Option Ent)} {f : Nat} {at' : Int} {kn : List V} {pl : List Int} {c : Cal} {ds : List Cal} {r : List Cal × Option Int} (h : at' ≠ es.length) (hs : stepR es at' kn pl = some c) (hw : r = (ds ++ (walkF es (f + 1) at' kn pl).1, (walkF es (f + 1) at' kn pl).2)) :
    r = ((ds ++ [c]) ++ (walkF es f c.r (knOf c) (pl.take c.n.toNat)).1, (walkF es f c.r (knOf c) (pl.take c.n.toNat)).2) := by
  rw [hw, walk_next h hs, List.append_assoc]; rfl
theorem pc_len {P : List Int} {n : Nat} {h : Int} (h0 : 0 ≤ h) (h1 : h ≤ n) (h2 : n ≤ P.length) : (((P.take n).drop ((n : Int) - h).toNat).length : Int) = h := by
  rw [List.length_drop, List.length_take]; omega
theorem pc_at {P : List Int} {n : Nat} {h j : Int} (h0 : 0 ≤ h) (h1 : h ≤ n) (h2 : n ≤ P.length) (j0 : 0 ≤ j) (j1 : j < h) : gI ((P.take n).drop ((n : Int) - h).toNat) j = gI P ((n : Int) - h + j) := by
  unfold gI
  rw [List.getD_eq_getElem?_getD, List.getD_eq_getElem?_getD, List.getElem?_drop, List.getElem?_take, if_pos (by omega), show ((n : Int) - h).toNat + j.toNat = ((n : Int) - h + j).toNat by omega]
theorem take_len {P : List Int} {n : Nat} (h : n ≤ P.length) : ((P.take n).length : Int) = n := by rw [List.length_take]; omega
def spNewX (K : PySem.W.Frag) (C : Addr) : Sp := fun vs H Q E => ∃ (pe pk pp : Addr) (at' : Int) (ev : List V) (es : List (Option Ent)) (kn : List V) (pl : List Int), vs = [.ref pe, .int at', .ref pk, .ref pp] ∧ SqL K H pe ev ∧ EntVs K H ev es ∧ SqL K H pk kn ∧ KnOk kn ∧ SqL K H pp (pl.map V.int) ∧ PlOk pl ∧ near at' ∧
  (∀ c v H', stepR es at' kn pl = some c → Same H H' → CalV H' v c → Q v H') ∧ (stepR es at' kn pl = none → ∀ d H', Same H H' → H' d = some (.xd [("row", .int at')]) → E (.ref C) (some d) H')
def spCallX (K : PySem.W.Frag) (a : Adr) : Sp := fun vs H Q E => ∃ (x dx l d pk pp : Addr) (at' : Int) (ev : List V) (es : List (Option Ent)) (kn : List V) (pl : List Int), vs = [.ref x, .int at', .ref pk, .ref pp] ∧ H x = some (.ins a.C_Table dx (tabF l d)) ∧ H l = some (.lst ev) ∧ EntVs K H ev es ∧ SqL K H pk kn ∧ KnOk kn ∧ SqL K H pp (pl.map V.int) ∧ PlOk pl ∧ near at' ∧
  ((walkF es 5000 at' kn pl).2 = none → ∀ p vs H', Same H H' → H p = none → H' p = some (.lst vs) → CalVs H' vs (walkF es 5000 at' kn pl).1 → Q (.ref p) H') ∧
  (∀ r, (walkF es 5000 at' kn pl).2 = some r → ∀ d H', Same H H' → H' d = some (.xd [("row", .int r)]) → E (.ref a.C_Astray) (some d) H')
def cellV (c m : Int) : Int := c / 3 % (if c % 3 = 0 then 4294967296 else m + 1)
def spCellV : Sp := fun vs H Q _ => ∃ c m : Int, vs = [.int c, .int m] ∧ 0 ≤ m ∧ m ≤ 100 ∧ ∀ H', Same H H' → Q (.int (cellV c m)) H'
def spAnyI : Sp := fun vs H Q _ => ∃ c h : Int, vs = [.int c, .int h] ∧ h ≤ 100 ∧ ∀ s H', Same H H' → Q (.int s) H'
theorem r_anyI {c h : Int} {H : Hp} {Q : VK} {E : XK} (h1 : h ≤ 100) (q : ∀ s H', Same H H' → Q (.int s) H') : spAnyI [.int c, .int h] H Q E := ⟨c, h, rfl, h1, q⟩
def spAnyE (K : PySem.W.Frag) : Sp := fun vs H Q _ => ∃ c : Int, vs = [.int c] ∧ ∀ v oe H', Same H H' → EntV K H' v oe → Q v H'
def spVal (K : PySem.W.Frag) : Sp := fun vs H Q _ => ∃ (s : Int) (pe pk pp : Addr) (n : Nat) (e : Ent) (kn : List V) (P : List Int), vs = [.int s, .ref pe, .ref pk, .ref pp, .int n] ∧ EntAt K H pe e ∧ SqL K H pk kn ∧ kn.length = 8 ∧ SqL K H pp (P.map V.int) ∧ 0 ≤ e.h ∧ e.h ≤ n ∧ n ≤ P.length ∧ Q (lookM s kn ((P.take n).drop ((n : Int) - e.h).toNat)) H
def spUp (K : PySem.W.Frag) : Sp := fun vs H Q _ => ∃ (v : V) (pk pp : Addr) (n : Nat) (oe : Option Ent) (kn : List V) (P : List Int), vs = [v, .ref pk, .ref pp, .int n] ∧ EntV K H v oe ∧ SqL K H pk kn ∧ KnOk kn ∧ SqL K H pp (P.map V.int) ∧ PlOk P ∧ n ≤ P.length ∧
  (upO oe kn (P.take n) = none → ∀ H', Same H H' → Q .non H') ∧ ∀ c v' H', upO oe kn (P.take n) = some c → Same H H' → CalV H' v' c → Q v' H'
def DueV (H : Hp) (v : V) (r : List Cal × Option Int) : Prop := ∃ t, v = .ref t ∧ ((r.2 = none ∧ ∃ p vs, H t = some (.tup [.str "callers", .ref p]) ∧ H p = some (.lst vs) ∧ CalVs H vs r.1) ∨ ∃ z, r.2 = some z ∧ H t = some (.tup [.str "astray", .int z]))
theorem DueV.same {H H' : Hp} {v : V} {r : List Cal × Option Int} (h : DueV H v r) (s : Same H H') : DueV H' v r := by
  obtain ⟨t, e, h | h⟩ := h
  · obtain ⟨h1, p, vs, h2, h3, h4⟩ := h
    exact ⟨t, e, .inl ⟨h1, p, vs, s _ _ h2, s _ _ h3, h4.same s⟩⟩
  · obtain ⟨z, h1, h2⟩ := h
    exact ⟨t, e, .inr ⟨z, h1, s _ _ h2⟩⟩
def dueD (r : List Cal × Option Int) : PyData := match r.2 with
  | none => .tuple [.str "callers", .list (r.1.map calD)]
  | some z => .tuple [.str "astray", .int z]
theorem DueV.dp {K : PySem.W.Frag} {H : Hp} {v : V} {r : List Cal × Option Int} (h : DueV H v r) : Dp K H (dueD r) v := by
  obtain ⟨t, rfl, h | h⟩ := h
  · obtain ⟨h1, p, vs, h2, h3, h4⟩ := h
    unfold dueD
    rw [h1]
    exact dp_tup (SqT.of h2) (dpAll_cons (dp_str _) (dpAll_cons (dp_lst (SqL.of h3) h4.dp) dpAll_nil))
  · obtain ⟨z, h1, h2⟩ := h
    unfold dueD
    rw [h1]
    exact dp_tup (SqT.of h2) (dpAll_cons (dp_str _) (dpAll_cons (dp_int _) dpAll_nil))
theorem shaped_due (r : List Cal × Option Int) : shaped (dueD r) = true := by
  unfold dueD
  split
  · have hs : PyData.strOk (Str.ofString "callers") = true := by decide +kernel
    have hd := cals_depth r.1
    unfold shaped
    simp [PyData.canLay0, PyData.canLayAll0, PyData.depth, PyData.depthAll, cals_lay, hs]
    omega
  · have hs : PyData.strOk (Str.ofString "astray") = true := by decide +kernel
    unfold shaped
    simp [PyData.canLay0, PyData.canLayAll0, PyData.depth, PyData.depthAll, hs]
def spDue (K : PySem.W.Frag) : Sp := fun vs H Q _ => ∃ (pe pk pp : Addr) (at' : Int) (ev : List V) (es : List (Option Ent)) (kn : List V) (pl : List Int), vs = [.ref pe, .int at', .ref pk, .ref pp] ∧ H pe = some (.lst ev) ∧ EntVs K H ev es ∧ H pk = some (.lst kn) ∧ KnOk kn ∧ H pp = some (.lst (pl.map V.int)) ∧ PlOk pl ∧
  ∀ v H', Same H H' → DueV H' v (walkF es 5000 at' kn pl) → Q v H'
def spToldX (K : PySem.W.Frag) (a : Adr) : Sp := fun vs H Q _ => ∃ (x dx l d pk pp : Addr) (at' : Int) (ev : List V) (es : List (Option Ent)) (kn : List V) (pl : List Int), vs = [.ref x, .int at', .ref pk, .ref pp] ∧ H x = some (.ins a.C_Table dx (tabF l d)) ∧ H l = some (.lst ev) ∧ EntVs K H ev es ∧ SqL K H pk kn ∧ KnOk kn ∧ SqL K H pp (pl.map V.int) ∧ PlOk pl ∧ near at' ∧
  ∀ v H', Same H H' → DueV H' v (walkF es 5000 at' kn pl) → Q v H'

theorem cellV_ok {c m : Int} (h0 : 0 ≤ m) (h1 : m ≤ 100) : near (cellV c m) := by
  unfold cellV near
  split
  · omega
  · have a := Int.emod_nonneg (c / 3) (show m + 1 ≠ 0 by omega)
    have b := Int.emod_lt_of_pos (c / 3) (show 0 < m + 1 by omega)
    omega
theorem kn_ints {bs : List Int} (h8 : bs.length = 8) (h : ∀ i ∈ bs, near i) : KnOk (bs.map V.int) := ⟨by rw [List.length_map]; exact h8, fun v hv => by
  obtain ⟨i, hi, rfl⟩ := List.mem_map.mp hv
  exact .inr ⟨i, rfl, h i hi⟩⟩
theorem r_tab {K : PySem.W.Frag} {C pe x dx : Addr} {lv : V} {xs : List V} {kvs : List (Key × V)} {H : Hp} {R : VK} {E : XK} (hx : H x = none) (hdx : H dx = none) (h1 : SqL K H pe xs) (h2 : (lv = .non ∧ kvs = []) ∨ ∃ pd, lv = .ref pd ∧ H pd = some (.dK kvs))
    (q : ∀ l d H', Same H H' → H l = none → H d = none → l ≠ d → x ≠ l → x ≠ d → H' x = some (.ins C dx (putF "landings" (.ref d) (putF "entries" (.ref l) []))) → H' l = some (.lst xs) → H' d = some (.dK kvs) → R .non H') :
    spTab K C [.ref x, .ref pe, lv] (upd (upd H dx (.own x)) x (.ins C dx [])) R E := by
  have s1 : Same H (upd (upd H dx (.own x)) x (.ins C dx [])) := fun b o e => by rw [upd_ne (ne_of_none e hx), upd_ne (ne_of_none e hdx)]; exact e
  refine ⟨x, dx, pe, lv, xs, kvs, rfl, upd_same, Same.seq s1 h1, ?_, fun l d H' nl nd nld kp hx' hl' hd' => ?_⟩
  · rcases h2 with h2 | ⟨pd, e, h2⟩
    · exact .inl h2
    · exact .inr ⟨pd, e, s1 _ _ h2⟩
  · have nl1 := none_upd nl
    have nd1 := none_upd nd
    exact q l d H' (fun b o e => kp b o (s1 b o e) (ne_of_none e hx)) (none_upd nl1.1).1 (none_upd nd1.1).1 nld nl1.2.symm nd1.2.symm hx' hl' hd'

local macro_rules | `(tactic| walk_at "mine") => `(tactic| first
  | (with_reducible refine r_chain ?_) | (with_reducible refine r_raiseI ?_) | (with_reducible refine r_base ?_) | (with_reducible refine r_fst2 ?_) | (with_reducible refine r_sX ?_) | (with_reducible refine r_xfld ?_) | (with_reducible refine r_tryD ?_) | (with_reducible refine r_bSet ?_) | (with_reducible refine r_xTup ?_) | (with_reducible refine r_xCons ?_) | (with_reducible refine r_xNil ?_) | (with_reducible refine r_xPl ?_) | (with_reducible refine r_xCall ?_) | (with_reducible refine r_int1b ?_)
  | (with_reducible refine r_dnew ?_) | (with_reducible refine r_dPut ?_) | (with_reducible refine r_makeD _ _ _ ?_) | (with_reducible refine r_bitlen ?_) | (with_reducible refine r_tyI ?_) | (with_reducible refine r_low ?_) | (with_reducible refine r_gCons ?_) | (with_reducible refine r_gNil ?_)
  | ((with_reducible refine' r_gTup ?x ?y ?_); (case x => walk_at "sqt"); (case y => with_unfolding_all rfl))
  | ((with_reducible refine' r_dict ?x ?_); (case x => walk_at "hlk"))
  | ((with_reducible refine' r_dputI ?x ?y ?_); (case x => walk_at "hlk"); (case y => walk_at "small"))
  | ((with_reducible refine' r_plusL ?x ?y ?z ?_); (case x => walk_at "hlk"); (case y => walk_at "hlk"); (case z => walk_at "small")))

section
variable {P : Program} {w : World} {K : PySem.W.Frag} {mg : Str → Option Value} {base : Heap} {a : Adr}
set_option maxHeartbeats 4000000 in
theorem xinit_Astray (T : Txt K mg a) : XInit P w K mg base 1 "Astray" a.C_Astray "row" := by
  obtain ⟨f0, fd0, F, c0, hb0⟩ := T.xi_Astray
  refine ⟨f0, fd0, _, c0, F.ok (k := 0) sc_Astray_init (fun vs H Q E h => ?_) (fun cdv A outer s H vs Q E hr h => ?_), hb0⟩
  · obtain ⟨e, i, rfl, _⟩ := h
    rfl
  · obtain ⟨e, i, rfl, he, hlg, q⟩ := h
    refine ⟨_, (pss_cons (ps_expr (pe_baseInit T.xb_FrameError T.xo_Astray.choose_spec rfl (pa_cons (pv 0) (pa_cons (pe_fst2 (pv 1)) pa_nil))))
      (pss_one (ps_setXK (K := K) rfl (pv 0) (pv 1)))), ?_⟩
    refine r_st (σ' := [some _, some _]) rfl ?_
    walk_at "rd"
    refine ⟨hlg, ?_⟩
    walk_at "rd"
    refine ⟨e, _, rfl, he, ?_⟩
    walk_at "rd"
    refine ⟨e, a.C_Astray, rfl, he, T.xs_Astray, fun d hd => ?_⟩
    walk_at "rd"
    exact q d hd
end
section
variable {P : Program} {w : World} {K : PySem.W.Frag} {mg : Str → Option Value} {base : Heap} {a : Adr}
set_option maxHeartbeats 4000000 in
theorem mkb_Table (T : Txt K mg a) : MkE P w K mg base CX0 1 "Table" a.C_Table (spTab K a.C_Table) ∧ MkD P w K mg base CX0 1 "Table" a.C_Table (spTab K a.C_Table) := by
  refine mkE_ofD (sp := (spTab K a.C_Table)) 0 T.c_Table T.i_Table sc_Table_init (fun vs H Q E h => ?_) (fun f cdv A outer s H vs Q E hr h => ?_)
  · obtain ⟨x, dx, pe, lv, xs, kvs, rfl, _⟩ := h
    rfl
  · obtain ⟨x, dx, pe, lv, xs, kvs, rfl, hx, hS, hd, q⟩ := h
    refine ⟨_, (pss_cons (ps_fldK (K := K) rfl (pv 0) (pe_callTy (call_listK (K := K) rfl) rfl T.z_list b_list (pa_cons (pv 1) pa_nil)))
      (pss_one (ps_fldK (K := K) rfl (pv 0) (pe_ifExp (pt_cmpR op_isNA (pv 2) pe_non (nomark _)) pe_dnewK (pe_callTy call_dict1 rfl T.z_dict b_dict (pa_cons (pv 2) pa_nil)))))), ?_⟩
    refine r_st (σ' := [some _, some _, some _]) rfl ?_
    rcases hd with ⟨rfl, rfl⟩ | ⟨pd, rfl, hd⟩
    · walk_at "rd"
      rename_i l hl d hd
      have nx := none_upd hd
      have nl := none_upd nx.1
      refine q l d _ hl nl.1 nl.2.symm (fun b o e ne => ?_) upd_same ?_ ?_
      · rw [upd_ne ne, upd_ne (ne_of_none (show upd (upd H l (.lst xs)) x _ b = some o from by rw [upd_ne ne, upd_ne (ne_of_none e hl)]; exact e) hd), upd_ne ne, upd_ne (ne_of_none e hl)]; exact e
      · rw [upd_ne (ne_of_none hx hl).symm, upd_ne nl.2.symm, upd_ne (ne_of_none hx hl).symm, upd_same]
      · rw [upd_ne nx.2, upd_same]
    · have npx : pd ≠ x := ne_of hd hx (by intro z; cases z)
      walk_at "rd"
      rename_i l hl d hd'
      have nx := none_upd hd'
      have nl := none_upd nx.1
      refine q l d _ hl nl.1 nl.2.symm (fun b o e ne => ?_) upd_same ?_ ?_
      · rw [upd_ne ne, upd_ne (ne_of_none (show upd (upd H l (.lst xs)) x _ b = some o from by rw [upd_ne ne, upd_ne (ne_of_none e hl)]; exact e) hd'), upd_ne ne, upd_ne (ne_of_none e hl)]; exact e
      · rw [upd_ne (ne_of_none hx hl).symm, upd_ne nl.2.symm, upd_ne (ne_of_none hx hl).symm, upd_same]
      · rw [upd_ne nx.2, upd_same]
theorem mkd_Table (T : Txt K mg a) : MkD P w K mg base CX0 1 "Table" a.C_Table (spTab K a.C_Table) := (mkb_Table T).2
end
section
variable {P : Program} {w : World} {K : PySem.W.Frag} {mg : Str → Option Value} {base : Heap} {a : Adr}
set_option maxHeartbeats 4000000 in
theorem ok_sets_of (T : Txt K mg a) : FnE P w K mg base CX0 1 "sets_of" (spSets K) := by
  refine fnE_of (sp := (spSets K)) 0 T.fn_sets_of sc_sets_of (fun vs H Q E h => ?_) (fun f cdv A outer s H vs Q E hr h => ?_)
  · obtain ⟨p, e, rfl, _⟩ := h
    rfl
  · obtain ⟨p, e, rfl, ⟨pk, h1, h2⟩, q⟩ := h
    refine ⟨_, (pss_cons (ps_set (i := 1) sc_sets_of.nd rfl (Or.inl rfl) (pe_ix (ix_K (K := K) rfl) (pv 0) pe_int (fun _ _ => rfl)))
      (pss_one (ps_ret (pe_tup (pa_cons (pe_ix (ix_K (K := K) rfl) (pv 0) pe_int (fun _ _ => rfl)) (pa_cons (pe_ix (ix_K (K := K) rfl) (pv 1) pe_int (fun _ _ => rfl)) (pa_cons (pe_ix (ix_K (K := K) rfl) (pv 1) pe_int (fun _ _ => rfl)) (pa_cons (pe_ix (ix_K (K := K) rfl) (pv 1) pe_int (fun _ _ => rfl)) pa_nil)))))))), ?_⟩
    refine r_st (σ' := [some _, none]) rfl ?_
    walk_at "rd"
    exact q _ (by assumption)
end
section
variable {P : Program} {w : World} {K : PySem.W.Frag} {mg : Str → Option Value} {base : Heap} {a : Adr}
set_option maxHeartbeats 4000000 in
theorem ok_lowest_place (T : Txt K mg a) : FnE P w K mg base CX0 1 "lowest_place" spLow := by
  refine fnE_of (sp := spLow) 0 T.fn_lowest_place sc_lowest_place (fun vs H Q E h => ?_) (fun f cdv A outer s H vs Q E hr h => ?_)
  · obtain ⟨i, rfl, _⟩ := h
    rfl
  · obtain ⟨i, rfl, q⟩ := h
    refine ⟨_, (pss_one (ps_ret (pe_op op_sub (pe_bm0K (K := K) rfl PySem.F.plainAttrs_int PySem.F.slot_int_bit_length PySem.F.type_int_bit_length mt_bitlen (pe_op op_and (pv 0) (pe_un un_neg (pv 0)))) pe_int))), ?_⟩
    refine r_st (σ' := [some _]) rfl ?_
    walk_at "rd"
    exact q
end
section
variable {P : Program} {w : World} {K : PySem.W.Frag} {mg : Str → Option Value} {base : Heap} {a : Adr}
set_option maxHeartbeats 4000000 in
theorem ok_law_cell_at (T : Txt K mg a) : FnE P w K mg base CX0 1 "_law_cell_at" (spCellAt K) := by
  refine fnE_of (sp := (spCellAt K)) 0 T.fn_law_cell_at sc_law_cell_at (fun vs H Q E h => ?_) (fun f cdv A outer s H vs Q E hr h => ?_)
  · obtain ⟨p, ns, k, rfl, _⟩ := h
    rfl
  · obtain ⟨p, ns, k, rfl, hS, h0, q⟩ := h
    refine ⟨_, (pss_cons (ps_if (pt_cmpR op_lt (pv 1) (pe_callB (call_lenK (K := K) rfl) rfl T.z_len b_len (pa_cons (pv 0) pa_nil)) (nomark _)) (pss_one (ps_ret (pe_ix (ix_K (K := K) rfl) (pv 0) (pv 1) (fun _ _ => rfl)))) pss_nil)
      (pss_one (ps_ret pe_int))), ?_⟩
    refine r_st (σ' := [some _, some _]) rfl ?_
    walk_at "rd"
    refine ifDec (fun hh => ?_) (fun hh => ?_)
    · walk_at "rd"
      exact q
    · walk_at "rd"
      have e := cellAt_out h0 hh
      rw [e] at q
      exact q
end
section
variable {P : Program} {w : World} {K : PySem.W.Frag} {mg : Str → Option Value} {base : Heap} {a : Adr}
set_option maxHeartbeats 4000000 in
theorem ok_law_cell (T : Txt K mg a) : FnE P w K mg base CX0 1 "_law_cell" spCellV := by
  refine fnE_of (sp := spCellV) 0 T.fn_law_cell sc_law_cell (fun vs H Q E h => ?_) (fun f cdv A outer s H vs Q E hr h => ?_)
  · obtain ⟨c, m, rfl, _⟩ := h
    rfl
  · obtain ⟨c, m, rfl, h0, h1, q⟩ := h
    refine ⟨_, (pss_one (ps_ret (pe_op op_mod (pe_op op_fdiv (pv 0) pe_int) (pe_ix (ix_K (K := K) rfl) (pe_lst (pa_cons pe_int (pa_cons (pe_op (op_plusK (K := K) rfl) (pv 1) pe_int) (pa_cons (pe_op (op_plusK (K := K) rfl) (pv 1) pe_int) pa_nil)))) (pe_op op_mod (pv 0) pe_int) (fun _ _ => rfl))))), ?_⟩
    refine r_st (σ' := [some _, some _]) rfl ?_
    walk_at "rd"
    unfold cellV at q
    have hm : c % 3 = 0 ∨ c % 3 = 1 ∨ c % 3 = 2 := by omega
    rcases hm with hm | hm | hm
    all_goals
      rw [hm] at q ⊢
      refine r_ixL (SqL.of upd_same) rfl ?_
      walk_at "rd"
      exact q _ (by walk_at "same")
end
section
variable {P : Program} {w : World} {K : PySem.W.Frag} {mg : Str → Option Value} {base : Heap} {a : Adr}
set_option maxHeartbeats 4000000 in
theorem ok_law_set (T : Txt K mg a) : FnE P w K mg base CX0 1 "_law_set" spAnyI := by
  refine fnE_of (sp := spAnyI) 0 T.fn_law_set sc_law_set (fun vs H Q E h => ?_) (fun f cdv A outer s H vs Q E hr h => ?_)
  · obtain ⟨c, h, rfl, _⟩ := h
    rfl
  · obtain ⟨c, h, rfl, hh0, q⟩ := h
    refine ⟨_, (pss_cons (ps_if (pt_cmpR (op_eqK (K := K) rfl hr.units) (pe_op op_mod (pv 0) pe_int) pe_int (nomark _)) (pss_one (ps_ret (pe_un un_neg (pe_op op_mod (pe_op op_fdiv (pv 0) pe_int) pe_int)))) pss_nil)
      (pss_cons (ps_if (pt_cmpR (op_eqK (K := K) rfl hr.units) (pe_op op_mod (pv 0) pe_int) pe_int (nomark _)) (pss_one (ps_ret (pe_op op_shlB pe_int (pe_op (op_plusK (K := K) rfl) pe_int (pe_op op_mod (pe_op op_fdiv (pv 0) pe_int) (pe_callB (call_maxA rfl) rfl T.z_max b_max (pa_cons pe_int (pa_cons (pe_op (op_plusK (K := K) rfl) (pv 1) (pe_callTy call_int1 rfl T.z_int b_int (pa_cons (pe_cmpR (op_eqK (K := K) rfl hr.units) (pe_op op_mod (pv 0) pe_int) pe_int (nomark _)) pa_nil))) pa_nil)))))))) pss_nil)
      (pss_one (ps_ret (pe_op op_shlB pe_int (pe_ix (ix_K (K := K) rfl) (pe_lst (pa_cons (pe_op op_mod (pe_op op_fdiv (pv 0) pe_int) pe_int) (pa_cons (pe_op (op_plusK (K := K) rfl) pe_int (pe_op op_mod (pe_op op_fdiv (pv 0) pe_int) pe_int)) pa_nil))) (pe_op op_mod (pv 0) pe_int) (fun _ _ => rfl))))))), ?_⟩
    refine r_st (σ' := [some _, some _]) rfl ?_
    walk_at "rd"
    walk_at "cs"
    · walk_at "rd"
      exact q _ _ (Same.refl _)
    walk_at "rd"
    refine ifInt (fun hh2 => ?_) (fun hh2 => ?_)
    · walk_at "rd"
      refine .inr ⟨_, rfl, ?_⟩
      have hb : 0 ≤ (if decide (V.int (c % 7) = V.int 0) = true then (1 : Int) else 0) ∧ (if decide (V.int (c % 7) = V.int 0) = true then (1 : Int) else 0) ≤ 1 := by split <;> omega
      generalize (if decide (V.int (c % 7) = V.int 0) = true then (1 : Int) else 0) = b at hb ⊢
      refine r_plusI ?_
      walk_at "rd"
      have hM : 1 ≤ (if h + b > 1 then h + b else 1) ∧ (if h + b > 1 then h + b else 1) ≤ 101 := by split <;> omega
      generalize (if h + b > 1 then h + b else 1) = M at hM ⊢
      walk_at "rd"
      have m0 := Int.emod_nonneg (c / 3) (show M ≠ 0 by omega)
      have m1 := Int.emod_lt_of_pos (c / 3) (show 0 < M by omega)
      refine r_I (shl_one (by omega) (by omega)) ?_
      walk_at "rd"
      exact q _ _ (Same.refl _)
    · walk_at "rd"
      have hm : c % 2 = 0 ∨ c % 2 = 1 := by omega
      rcases hm with hm | hm
      all_goals
        rw [hm]
        refine r_ixL (SqL.of upd_same) rfl ?_
        refine r_I (shl_one (by omega) (by omega)) ?_
        walk_at "rd"
        exact q _ _ (by walk_at "same")
end
section
variable {P : Program} {w : World} {K : PySem.W.Frag} {mg : Str → Option Value} {base : Heap} {a : Adr}
set_option maxHeartbeats 4000000 in
theorem ok_law_value (T : Txt K mg a) : FnE P w K mg base CX0 1 "_law_value" (spVal K) := by
  refine fnE_of (sp := (spVal K)) 0 T.fn_law_value sc_law_value (fun vs H Q E h => ?_) (fun f cdv A outer s H vs Q E hr h => ?_)
  · obtain ⟨s, pe, pk, pp, n, e, kn, P, rfl, _⟩ := h
    rfl
  · obtain ⟨s, pe, pk, pp, n, e, kn, P, rfl, ⟨qe, he1, he2⟩, hk, h8, hp, h0, h1, h2, q⟩ := h
    have hpl := pc_len (P := P) h0 h1 h2
    refine ⟨_, (pss_cons (ps_if (pt_cmpR op_lt (pv 0) pe_int (nomark _)) (pss_one (ps_ret pe_non)) pss_nil)
      (pss_cons (ps_set (i := 5) sc_law_value.nd rfl (Or.inl rfl) (pe_op op_sub (pe_bm0K (K := K) rfl PySem.F.plainAttrs_int PySem.F.slot_int_bit_length PySem.F.type_int_bit_length mt_bitlen (pe_op op_and (pv 0) (pe_un un_neg (pv 0)))) pe_int))
      (pss_cons (ps_if (pt_cmpR op_lt (pv 5) pe_int (nomark _)) (pss_one (ps_ret (pe_ix (ix_K (K := K) rfl) (pv 2) (pv 5) (fun _ _ => rfl)))) pss_nil)
      (pss_cons (ps_if (pt_cmpR op_ge (pe_op op_sub (pv 5) pe_int) (pe_ix (ix_K (K := K) rfl) (pv 1) pe_int (fun _ _ => rfl)) (nomark _)) (pss_one (ps_ret pe_non)) pss_nil)
      (pss_one (ps_ret (pe_ix (ix_K (K := K) rfl) (pv 3) (pe_op op_sub (pe_op (op_plusK (K := K) rfl) (pe_op op_sub (pv 4) (pe_ix (ix_K (K := K) rfl) (pv 1) pe_int (fun _ _ => rfl))) (pv 5)) pe_int) (fun _ _ => rfl)))))))), ?_⟩
    refine r_st (σ' := [some _, some _, some _, some _, some _, none]) rfl ?_
    walk_at "rd"
    walk_at "cs"
    · walk_at "rd"
      rw [show lookM s kn ((P.take n).drop ((n : Int) - e.h).toNat) = .non from by unfold lookM; rw [if_pos (by omega)]] at q
      exact q
    have hs : 0 < s := by omega
    have hl := low_nn hs
    walk_at "rd"
    rw [show ((Builtin.Int.intBits (Builtin.bitAnd s (-s)) : Nat) : Int) - 1 = lowP s from rfl]
    refine ifDec (fun hh2 => ?_) (fun hh2 => ?_)
    · walk_at "rd"
      exact r_ixL hk (lookM_in hs hl hh2 h8) q
    have e1 : lookM s kn ((P.take n).drop ((n : Int) - e.h).toNat) = if lowP s - 8 < ((P.take n).drop ((n : Int) - e.h).toNat).length then .int (gI ((P.take n).drop ((n : Int) - e.h).toNat) (lowP s - 8)) else .non := by unfold lookM; rw [if_neg (by omega), if_neg hh2]
    rw [e1, hpl] at q
    walk_at "rd"
    refine ifDec (fun hh3 => ?_) (fun hh3 => ?_)
    · rw [if_neg (by omega)] at q
      walk_at "rd"
      exact q
    · rw [if_pos (by omega), pc_at h0 h1 h2 (by omega) (by omega), show (n : Int) - e.h + (lowP s - 8) = (n : Int) - e.h + lowP s - 8 by omega] at q
      walk_at "rd"
      exact q
end
section
variable {P : Program} {w : World} {K : PySem.W.Frag} {mg : Str → Option Value} {base : Heap} {a : Adr}
set_option maxHeartbeats 4000000 in
theorem ok_looked_up (T : Txt K mg a) : FnE P w K mg base CX0 2 "looked_up" (spLook K) := by
  refine fnE_of (sp := (spLook K)) 1 T.fn_looked_up sc_looked_up (fun vs H Q E h => ?_) (fun f cdv A outer s H vs Q E hr h => ?_)
  · obtain ⟨s, pk, pp, kn, pc, rfl, _⟩ := h
    rfl
  · obtain ⟨s, pk, pp, kn, pc, rfl, h1, h8, h2, h0, q⟩ := h
    refine ⟨_, (pss_cons (ps_if (pt_cmpR op_le (pv 0) pe_int (nomark _)) (pss_one (ps_ret pe_non)) pss_nil)
      (pss_cons (ps_set (i := 3) sc_looked_up.nd rfl (Or.inl rfl) (pe_callE (ok_lowest_place (K := K) T) (hr.mono (by decide)) pass0 rfl (pa_cons (pv 0) pa_nil)))
      (pss_cons (ps_if (pt_cmpR op_lt (pv 3) (pe_glob (v := .int 8) rfl T.g_FIRST_CELL_BIT.choose_spec ⟨_, rfl⟩) (nomark _)) (pss_one (ps_ret (pe_ix (ix_K (K := K) rfl) (pv 1) (pv 3) (fun _ _ => rfl)))) pss_nil)
      (pss_cons (ps_set (i := 4) sc_looked_up.nd rfl (Or.inl rfl) (pe_op op_sub (pv 3) (pe_glob (v := .int 8) rfl T.g_FIRST_CELL_BIT.choose_spec ⟨_, rfl⟩)))
      (pss_one (ps_ret (pe_ifExp (pt_cmpR op_lt (pv 4) (pe_callB (call_lenK (K := K) rfl) rfl T.z_len b_len (pa_cons (pv 2) pa_nil)) (nomark _)) (pe_ix (ix_K (K := K) rfl) (pv 2) (pv 4) (fun _ _ => rfl)) pe_non))))))), ?_⟩
    refine r_st (σ' := [some _, some _, some _, none, none]) rfl ?_
    walk_at "rd"
    walk_at "cs"
    · walk_at "rd"
      rw [show lookM s kn pc = .non from by unfold lookM; rw [if_pos hh]] at q
      exact q
    have hp : 0 < s := by omega
    have hl := h0 hp
    walk_at "rd"
    walk_at "cs"
    · walk_at "rd"
      exact r_ixL h1 (lookM_in hp hl (by assumption) h8) q
    have h9 := hh
    have e : lookM s kn pc = if lowP s - 8 < pc.length then .int (gI pc (lowP s - 8)) else .non := by unfold lookM; rw [if_neg (by omega), if_neg h9]
    rw [e] at q
    walk_at "rd"
    walk_at "cs"
    · have h10 := hh
      rw [if_pos h10] at q
      walk_at "rd"
      exact q
    · have h10 := hh
      rw [if_neg h10] at q
      walk_at "rd"
      exact q
end
section
variable {P : Program} {w : World} {K : PySem.W.Frag} {mg : Str → Option Value} {base : Heap} {a : Adr}
set_option maxHeartbeats 4000000 in
theorem ok_law_entry (T : Txt K mg a) : FnE P w K mg base CX0 2 "_law_entry" (spAnyE K) := by
  refine fnE_of (sp := (spAnyE K)) 1 T.fn_law_entry sc_law_entry (fun vs H Q E h => ?_) (fun f cdv A outer s H vs Q E hr h => ?_)
  · obtain ⟨c, rfl, _⟩ := h
    rfl
  · obtain ⟨c, rfl, q⟩ := h
    refine ⟨_, (pss_cons (ps_if (pt_cmpR (op_eqK (K := K) rfl hr.units) (pe_op op_mod (pv 0) pe_int) pe_int (nomark _)) (pss_one (ps_ret pe_non)) pss_nil)
      (pss_cons (ps_set (i := 1) sc_law_entry.nd rfl (Or.inl rfl) (pe_op op_sub (pe_op op_mod (pe_op op_fdiv (pv 0) pe_int) pe_int) (pe_callTy call_int1 rfl T.z_int b_int (pa_cons (pe_cmpR (op_eqK (K := K) rfl hr.units) (pe_op op_mod (pe_op op_fdiv (pv 0) pe_int) pe_int) pe_int (nomark _)) pa_nil))))
      (pss_cons (ps_set (i := 2) sc_law_entry.nd rfl (Or.inl rfl) (pe_op op_fdiv (pv 0) pe_int))
      (pss_cons (ps_set (i := 3) sc_law_entry.nd rfl (Or.inl rfl) (pe_tup (pa_cons (pe_callE (ok_law_set (K := K) T) (hr.mono (by decide)) pass0 rfl (pa_cons (pe_op op_fdiv (pv 2) pe_int) (pa_cons (pv 1) pa_nil))) (pa_cons (pe_callE (ok_law_set (K := K) T) (hr.mono (by decide)) pass0 rfl (pa_cons (pe_op op_fdiv (pv 2) pe_int) (pa_cons (pv 1) pa_nil))) (pa_cons (pe_callE (ok_law_set (K := K) T) (hr.mono (by decide)) pass0 rfl (pa_cons (pe_op op_fdiv (pv 2) pe_int) (pa_cons (pv 1) pa_nil))) pa_nil)))))
      (pss_one (ps_ret (pe_tup (pa_cons (pv 1) (pa_cons (pe_callE (ok_law_set (K := K) T) (hr.mono (by decide)) pass0 rfl (pa_cons (pv 2) (pa_cons (pv 1) pa_nil))) (pa_cons (pv 3) pa_nil)))))))))), ?_⟩
    refine r_st (σ' := [some _, none, none, none]) rfl ?_
    walk_at "rd"
    walk_at "cs"
    · walk_at "rd"
      exact q _ none _ (Same.refl _) rfl
    walk_at "rd"
    refine .inr ⟨_, rfl, ?_⟩
    have hb : 0 ≤ (if decide (V.int (c / 36 % 7) = V.int 0) = true then (1 : Int) else 0) ∧ (if decide (V.int (c / 36 % 7) = V.int 0) = true then (1 : Int) else 0) ≤ 1 := by split <;> omega
    generalize (if decide (V.int (c / 36 % 7) = V.int 0) = true then (1 : Int) else 0) = b at hb ⊢
    refine r_I0 ?_
    walk_at "rd"
    refine r_anyI (by omega) fun s1 G1 g1 => ?_
    walk_at "rd"
    refine r_anyI (by omega) fun s2 G2 g2 => ?_
    walk_at "rd"
    refine r_anyI (by omega) fun s3 G3 g3 => ?_
    walk_at "rd"
    rename_i t1 ht1
    refine r_anyI (by omega) fun s4 G4 g4 => ?_
    walk_at "rd"
    rename_i t2 ht2
    exact q _ (some ⟨c / 6 % 6 - b, s4, s1, s2, s3⟩) _ (by walk_at "same") ⟨t2, rfl, t1, SqT.of upd_same, by walk_at "sqt"⟩
end
section
variable {P : Program} {w : World} {K : PySem.W.Frag} {mg : Str → Option Value} {base : Heap} {a : Adr}
set_option maxHeartbeats 4000000 in
theorem ok_law_up (T : Txt K mg a) : FnE P w K mg base CX0 2 "_law_up" (spUp K) := by
  refine fnE_of (sp := (spUp K)) 1 T.fn_law_up sc_law_up (fun vs H Q E h => ?_) (fun f cdv A outer s H vs Q E hr h => ?_)
  · obtain ⟨v, pk, pp, n, oe, kn, P, rfl, _⟩ := h
    rfl
  · obtain ⟨v, pk, pp, n, oe, kn, P, rfl, hv, hk, hkn, hp, hpo, hn, qn, q⟩ := h
    have h8 := hkn.1
    refine ⟨_, (pss_cons (ps_if (PW.pt (pw_or (pt_cmpR op_isNA (pv 0) pe_non (nomark _)) (pw_or (pt_cmpR op_lt (pe_ix (ix_K (K := K) rfl) (pv 0) pe_int (fun _ _ => rfl)) pe_int (nomark _)) (pw_or1 (pt_cmpR op_gt (pe_ix (ix_K (K := K) rfl) (pv 0) pe_int (fun _ _ => rfl)) (pv 3) (nomark _)))))) (pss_one (ps_ret pe_non)) pss_nil)
      (pss_cons (ps_set (i := 4) sc_law_up.nd rfl (Or.inl rfl) (pe_lst pa_nil))
      (pss_cons (ps_for PassesOwn.never rfl (pi_seqK (K := K) rfl (pe_lst (pa_cons (pe_ix (ix_K (K := K) rfl) (pv 0) pe_int (fun _ _ => rfl)) (pa_cons (pe_ix (ix_K (K := K) rfl) (pe_ix (ix_K (K := K) rfl) (pv 0) pe_int (fun _ _ => rfl)) pe_int (fun _ _ => rfl)) (pa_cons (pe_ix (ix_K (K := K) rfl) (pe_ix (ix_K (K := K) rfl) (pv 0) pe_int (fun _ _ => rfl)) pe_int (fun _ _ => rfl)) (pa_cons (pe_ix (ix_K (K := K) rfl) (pe_ix (ix_K (K := K) rfl) (pv 0) pe_int (fun _ _ => rfl)) pe_int (fun _ _ => rfl)) pa_nil)))))) (pg_name (i := 5) sc_law_up.nd rfl (Or.inl rfl)) (pss_one (ps_expr (pe_bmK (K := K) rfl PySem.F.plainAttrs_list PySem.F.slot_list_append PySem.F.type_list_append mt_append (pv 4) (pa_cons (pe_callE (ok_law_value (K := K) T) (hr.mono (by decide)) pass0 rfl (pa_cons (pv 5) (pa_cons (pv 0) (pa_cons (pv 1) (pa_cons (pv 2) (pa_cons (pv 3) pa_nil)))))) pa_nil)))))
      (pss_cons (ps_if (pt_cmpR (op_inK (K := K) rfl) pe_non (pv 4) rfl) (pss_one (ps_ret pe_non)) pss_nil)
      (pss_one (ps_ret (pe_tup (pa_cons (pe_ix (ix_K (K := K) rfl) (pv 4) pe_int (fun _ _ => rfl)) (pa_cons (pe_tup (pa_cons (pe_ix (ix_K (K := K) rfl) (pv 4) pe_int (fun _ _ => rfl)) (pa_cons (pe_ix (ix_K (K := K) rfl) (pv 4) pe_int (fun _ _ => rfl)) (pa_cons (pe_ix (ix_K (K := K) rfl) (pv 4) pe_int (fun _ _ => rfl)) pa_nil)))) (pa_cons (pe_op op_sub (pv 3) (pe_ix (ix_K (K := K) rfl) (pv 0) pe_int (fun _ _ => rfl))) pa_nil)))))))))), ?_⟩
    refine r_st (σ' := [some _, some _, some _, some _, none, none]) rfl ?_
    cases oe with
    | none =>
      cases hv
      walk_at "rd"
      exact qn rfl _ (Same.refl _)
    | some e =>
      obtain ⟨pe, rfl, ⟨qe, he1, he2⟩⟩ := hv
      have hup : upO (some e) kn (P.take n) = if 0 ≤ e.h ∧ e.h ≤ (P.take n).length then calOf e kn (P.take n) else none := rfl
      rw [hup, take_len hn] at qn q
      by_cases h0 : e.h < 0
      · walk_at "rd"
        exact qn (by rw [if_neg (by omega)]) _ (Same.refl _)
      by_cases h1 : (n : Int) < e.h
      · walk_at "rd"
        exact qn (by rw [if_neg (by omega)]) _ (Same.refl _)
      rw [if_pos (by omega)] at qn q
      walk_at "rd"
      rename_i pf hpf l0 hl0
      have nf : pf ≠ l0 := (none_upd hl0).2.symm
      refine for_list (K := K) (a := l0) (xs := e.sets.map V.int) (fun i σ H2 => ∃ (pv : Option V), σ = [some (.ref pe), some (.ref pk), some (.ref pp), some (.int n), some (.ref pf), pv] ∧ Same H H2 ∧ H2 l0 = some (.lst (e.sets.map V.int)) ∧ H2 pf = some (.lst ((e.sets.take i).map fun s => lookM s kn ((P.take n).drop ((n : Int) - e.h).toNat)))) ⟨none, rfl, by walk_at "same", upd_same, by walk_at "hlk"⟩ (fun i σ H2 _ ⟨pv, _, _, h, _⟩ => SqL.of h) ?_ ?_
      · rintro i x σ H2 hx ⟨pv, rfl, s2, hl2, hf2⟩
        rw [List.getElem?_map] at hx
        obtain ⟨s, hs, rfl⟩ := Option.map_eq_some_iff.mp hx
        have hi : i < 4 := (List.getElem?_eq_some_iff.mp hs).1
        walk_at "rd"
        refine ⟨s, pe, pk, pp, n, e, kn, P, rfl, ⟨qe, by walk_at "sqt", by walk_at "sqt"⟩, by walk_at "sql", h8, by walk_at "sql", by omega, by omega, hn, ?_⟩
        walk_at "rd"
        refine r_append hf2 (by rw [List.length_map, List.length_take]; walk_at "small") ?_
        walk_at "rd"
        refine ⟨by walk_at "same", by walk_at "hlk", ?_⟩
        rw [List.take_add_one, hs, Option.toList_some, List.map_append]
        exact upd_same
      · rintro σ H2 ⟨pv, rfl, s2, hl2, hf2⟩
        rw [show (e.sets.take (e.sets.map V.int).length).map (fun s => lookM s kn ((P.take n).drop ((n : Int) - e.h).toNat)) = [lookM e.b kn ((P.take n).drop ((n : Int) - e.h).toNat), lookM e.v4 kn ((P.take n).drop ((n : Int) - e.h).toNat), lookM e.v5 kn ((P.take n).drop ((n : Int) - e.h).toNat), lookM e.v6 kn ((P.take n).drop ((n : Int) - e.h).toNat)] from rfl] at hf2
        have o1 := look_ok (s := e.b) hkn ((hpo.take n).drop ((n : Int) - e.h).toNat)
        have o2 := look_ok (s := e.v4) hkn ((hpo.take n).drop ((n : Int) - e.h).toNat)
        have o3 := look_ok (s := e.v5) hkn ((hpo.take n).drop ((n : Int) - e.h).toNat)
        have o4 := look_ok (s := e.v6) hkn ((hpo.take n).drop ((n : Int) - e.h).toNat)
        walk_at "rd"
        refine r_inL (SqL.of hf2) rfl (flat_four o1 o2 o3 o4) ?_
        rw [if_neg Bool.false_ne_true]
        rcases in_four o1 o2 o3 o4 with ⟨hin, hno⟩ | ⟨hin, r, a1, b1, c1, g1, g2, g3, g4, _⟩
        · rw [hin]
          walk_at "rd"
          exact qn (cal_none (by rw [take_len hn]; exact hno)) _ s2
        · rw [hin]
          rw [g1, g2, g3, g4] at hf2
          walk_at "rd"
          rename_i t2 ht2 t3 ht3
          have hc := cal_some (e := e) (kn := kn) (pl := P.take n) (r := r) (a := a1) (b := b1) (c := c1) (by rw [take_len hn]; exact g1) (by rw [take_len hn]; exact g2) (by rw [take_len hn]; exact g3) (by rw [take_len hn]; exact g4)
          rw [take_len hn] at hc
          exact q _ _ _ hc (by walk_at "same") ⟨t3, t2, rfl, by rw [upd_same], look_new upd_same ht3⟩
end
section
variable {P : Program} {w : World} {K : PySem.W.Frag} {mg : Str → Option Value} {base : Heap} {a : Adr}
set_option maxHeartbeats 4000000 in
theorem ok_newest_caller (T : Txt K mg a) : FnE P w K mg base (CXD P w) 3 "newest_caller" (spNewX K a.C_Astray) := by
  refine fnD_of (sp := (spNewX K a.C_Astray)) 2 T.fn_newest_caller sc_newest_caller (fun vs H Q E h => ?_) (fun f cdv A outer s H vs Q E hr h => ?_)
  · obtain ⟨pe, pk, pp, at', ev, es, kn, pl, rfl, _⟩ := h
    rfl
  · obtain ⟨pe, pk, pp, at', ev, es, kn, pl, rfl, hpe, hev, hk, hkn, hpl, hpo, hnear, q, hE⟩ := h
    have hel := hev.1
    have h8 := hkn.1
    refine ⟨_, (pss_cons (ps_if (PT.nox (PW.pt (pw_or (pt_cmpR op_lt (pv 1) pe_int (nomark _)) (pw_or (pt_cmpR op_ge (pv 1) (pe_callB (call_lenK (K := K) rfl) rfl T.z_len b_len (pa_cons (pv 0) pa_nil)) (nomark _)) (pw_or1 (pt_cmpR op_isNA (pe_ix (ix_K (K := K) rfl) (pv 0) (pv 1) (fun _ _ => rfl)) pe_non (nomark _))))))) (pss_one (ps_raiseX (xinit_Astray (K := K) T) (hr.mono (by decide)) rfl (pa_cons (pv 1) pa_nil))) pss_nil)
      (pss_cons (PS.nox (ps_set (i := 4) sc_newest_caller.nd rfl (Or.inl rfl) (pe_ix (ix_K (K := K) rfl) (pv 0) (pv 1) (fun _ _ => rfl))))
      (pss_cons (PS.nox (ps_set (i := 5) sc_newest_caller.nd rfl (Or.inl rfl) (pe_op op_sub (pe_callB (call_lenK (K := K) rfl) rfl T.z_len b_len (pa_cons (pv 3) pa_nil)) (pe_ix (ix_K (K := K) rfl) (pv 4) pe_int (fun _ _ => rfl)))))
      (pss_cons (ps_if (PT.nox (PW.pt (pw_or (pt_cmpR op_lt (pv 5) pe_int (nomark _)) (pw_or1 (pt_cmpR op_gt (pv 5) (pe_callB (call_lenK (K := K) rfl) rfl T.z_len b_len (pa_cons (pv 3) pa_nil)) (nomark _)))))) (pss_one (ps_raiseX (xinit_Astray (K := K) T) (hr.mono (by decide)) rfl (pa_cons (pv 1) pa_nil))) pss_nil)
      (pss_cons (PS.nox (ps_set (i := 6) sc_newest_caller.nd rfl (Or.inr rfl) (pe_slice (sl_K (K := K) rfl) (pv 3) (po_some (pv 5)) po_none)))
      (pss_cons (PS.nox (ps_setC (i := 7) sc_newest_caller.nd rfl rfl (own := ["places"]) (fr := [("known", 2), ("piece", 6)]) rfl ⟨rfl, (by walk_at "clok"), (by walk_at "frok"), rfl, (by decide +kernel), (by decide +kernel), rfl⟩ (pi_seqK (K := K) rfl (pe_callE (ok_sets_of (K := K) T) (hr.mono (by decide)) pass0 rfl (pa_cons (pv 4) pa_nil))) (fun _ _ _ _ => (pg_name (i := 0) (show List.Nodup [("places" : Str), ("known" : Str), ("piece" : Str)] from by decide +kernel) rfl (Or.inl rfl))) (fun _ _ _ _ => pts_nil) (fun _ _ _ _ => (pe_callE (ok_looked_up (K := K) T) (hr.mono (by decide)) pass0 rfl (pa_cons (pv 0) (pa_cons (pv 1) (pa_cons (pv 2) pa_nil)))))))
      (pss_cons (ps_if (PT.nox (pt_cmpR (op_inK (K := K) rfl) pe_non (pv 7) rfl)) (pss_one (ps_raiseX (xinit_Astray (K := K) T) (hr.mono (by decide)) rfl (pa_cons (pv 1) pa_nil))) pss_nil)
      (pss_one (PS.nox (ps_ret (pe_tup (pa_cons (pe_ix (ix_K (K := K) rfl) (pv 7) pe_int (fun _ _ => rfl)) (pa_cons (pe_tup (pa_cons (pe_ix (ix_K (K := K) rfl) (pv 7) pe_int (fun _ _ => rfl)) (pa_cons (pe_ix (ix_K (K := K) rfl) (pv 7) pe_int (fun _ _ => rfl)) (pa_cons (pe_ix (ix_K (K := K) rfl) (pv 7) pe_int (fun _ _ => rfl)) pa_nil)))) (pa_cons (pv 5) pa_nil)))))))))))))), ?_⟩
    refine r_st (σ' := [some _, some _, some _, some _, none, none, none, none]) rfl ?_
    by_cases h0 : at' < 0
    · walk_at "rd"
      refine ⟨log_small (by have := hnear.1; omega) (by have := hnear.2; omega), fun d hd => ?_⟩
      exact hE (by unfold stepR; rw [if_neg (by omega)]) d _ (by walk_at "same") upd_same
    by_cases h1 : (ev.length : Int) ≤ at'
    · walk_at "rd"
      refine ⟨log_small (by have := hnear.1; omega) (by have := hnear.2; omega), fun d hd => ?_⟩
      exact hE (by unfold stepR; rw [if_neg (by omega)]) d _ (by walk_at "same") upd_same
    have hi : at'.toNat < es.length := by omega
    obtain ⟨v, e1, e2⟩ := hev.2 at'.toNat _ (List.getElem?_eq_getElem hi)
    have hat : atI ev at' = some v := by
      rw [show at' = ((at'.toNat : Nat) : Int) from by omega]
      exact atI_nat e1
    have hst : stepR es at' kn pl = upO es[at'.toNat] kn pl := by
      unfold stepR
      rw [if_pos (by omega), List.getD_eq_getElem?_getD, List.getElem?_eq_getElem hi]; rfl
    rw [hst] at q hE
    generalize es[at'.toNat] = oe at e2 q hE
    clear hst
    cases oe with
    | none =>
      cases e2
      walk_at "rd"
      refine ⟨log_small (by have := hnear.1; omega) (by have := hnear.2; omega), fun d hd => ?_⟩
      exact hE rfl d _ (by walk_at "same") upd_same
    | some e =>
      obtain ⟨p, rfl, ⟨qe, he1, he2⟩⟩ := e2
      have hup : upO (some e) kn pl = if 0 ≤ e.h ∧ e.h ≤ pl.length then calOf e kn pl else none := rfl
      rw [hup] at q hE
      by_cases h2 : 0 ≤ e.h ∧ e.h ≤ pl.length
      · rw [if_pos h2] at q hE
        walk_at "rd"
        rename_i lp hlp
        rw [cutI_drop pl (by omega) (by omega)]
        refine ⟨p, e, rfl, ⟨qe, by walk_at "sqt", by walk_at "sqt"⟩, fun t ht => ?_⟩
        walk_at "rd"
        refine comp_mapT (fun s => lookM s kn (pl.drop ((pl.length : Int) - e.h).toNat)) (fun σ => ∃ v, σ = [v, some (.ref pk), some (.ref lp)]) (SqT.of upd_same) (by show 4 ≤ sizeLine; decide) ⟨_, rfl⟩ ?_ ?_
        · rintro i x ys σ H1 hx cc ss ⟨v, rfl⟩
          walk_at "rd"
          refine r_look (by walk_at "sql") h8 (by walk_at "sql") (fun z => low_nn z) ?_
          exact cc.next hx rfl (by walk_at "same") ⟨_, rfl⟩
        intro H3 s5 f hf
        rw [show e.sets.map (fun s => lookM s kn (pl.drop ((pl.length : Int) - e.h).toNat)) = [lookM e.b kn (pl.drop ((pl.length : Int) - e.h).toNat), lookM e.v4 kn (pl.drop ((pl.length : Int) - e.h).toNat), lookM e.v5 kn (pl.drop ((pl.length : Int) - e.h).toNat), lookM e.v6 kn (pl.drop ((pl.length : Int) - e.h).toNat)] from rfl]
        have o1 := look_ok (s := e.b) hkn (hpo.drop ((pl.length : Int) - e.h).toNat)
        have o2 := look_ok (s := e.v4) hkn (hpo.drop ((pl.length : Int) - e.h).toNat)
        have o3 := look_ok (s := e.v5) hkn (hpo.drop ((pl.length : Int) - e.h).toNat)
        have o4 := look_ok (s := e.v6) hkn (hpo.drop ((pl.length : Int) - e.h).toNat)
        walk_at "rd"
        refine r_inL (SqL.of upd_same) rfl (flat_four o1 o2 o3 o4) ?_
        rw [if_neg Bool.false_ne_true]
        rcases in_four o1 o2 o3 o4 with ⟨hin, hno⟩ | ⟨hin, r, a1, b1, c1, g1, g2, g3, g4, _⟩
        · rw [hin]
          walk_at "rd"
          refine ⟨log_small (by have := hnear.1; omega) (by have := hnear.2; omega), fun d hd => ?_⟩
          exact hE (cal_none hno) d _ (by walk_at "same") upd_same
        · rw [hin, g1, g2, g3, g4]
          walk_at "rd"
          rename_i t2 ht2 t3 ht3
          exact q _ _ _ (cal_some g1 g2 g3 g4) (by walk_at "same") ⟨t3, t2, rfl, by rw [upd_same], look_new upd_same ht3⟩
      · rw [if_neg h2] at q hE
        by_cases h3 : (pl.length : Int) - e.h < 0
        · walk_at "rd"
          refine ⟨log_small (by have := hnear.1; omega) (by have := hnear.2; omega), fun d hd => ?_⟩
          exact hE rfl d _ (by walk_at "same") upd_same
        · walk_at "rd"
          refine ⟨log_small (by have := hnear.1; omega) (by have := hnear.2; omega), fun d hd => ?_⟩
          exact hE rfl d _ (by walk_at "same") upd_same
end
section
variable {P : Program} {w : World} {K : PySem.W.Frag} {mg : Str → Option Value} {base : Heap} {a : Adr}
set_option maxHeartbeats 4000000 in
theorem ok_law_due (T : Txt K mg a) : FnE P w K mg base CX0 3 "_law_due" (spDue K) := by
  refine fnE_of (sp := (spDue K)) 2 T.fn_law_due sc_law_due (fun vs H Q E h => ?_) (fun f cdv A outer s H vs Q E hr h => ?_)
  · obtain ⟨pe, pk, pp, at0, ev, es, kn, pl, rfl, _⟩ := h
    rfl
  · obtain ⟨pe, pk0, pp, at0, ev, es, kn0, P, rfl, hpe, hev, hk0, hkn0, hp, hpo, q⟩ := h
    have hel := hev.1
    refine ⟨_, (pss_cons (ps_set (i := 4) sc_law_due.nd rfl (Or.inl rfl) (pe_lst pa_nil))
      (pss_cons (ps_set (i := 5) sc_law_due.nd rfl (Or.inl rfl) (pe_callB (call_lenK (K := K) rfl) rfl T.z_len b_len (pa_cons (pv 3) pa_nil)))
      (pss_cons (ps_while PassesOwn.never (pt_cmpR (op_neK (K := K) rfl hr.units) (pv 1) (pe_callB (call_lenK (K := K) rfl) rfl T.z_len b_len (pa_cons (pv 0) pa_nil)) (nomark _)) (pss_cons (ps_set (i := 6) sc_law_due.nd rfl (Or.inl rfl) pe_non)
      (pss_cons (ps_if (PW.pt (pw_and (pt_chain op_le op_lt pe_int (pv 1) (pe_callB (call_lenK (K := K) rfl) rfl T.z_len b_len (pa_cons (pv 0) pa_nil))) (pw_and1 (pt_cmpR op_lt (pe_callB (call_lenK (K := K) rfl) rfl T.z_len b_len (pa_cons (pv 4) pa_nil)) pe_int (nomark _))))) (pss_one (ps_set (i := 6) sc_law_due.nd rfl (Or.inl rfl) (pe_callE (ok_law_up (K := K) T) (hr.mono (by decide)) pass0 rfl (pa_cons (pe_ix (ix_K (K := K) rfl) (pv 0) (pv 1) (fun _ _ => rfl)) (pa_cons (pv 2) (pa_cons (pv 3) (pa_cons (pv 5) pa_nil))))))) pss_nil)
      (pss_cons (ps_if (pt_cmpR op_isNA (pv 6) pe_non (nomark _)) (pss_one (ps_ret (pe_tup (pa_cons pe_str (pa_cons (pv 1) pa_nil))))) pss_nil)
      (pss_cons (ps_expr (pe_bmK (K := K) rfl PySem.F.plainAttrs_list PySem.F.slot_list_append PySem.F.type_list_append mt_append (pv 4) (pa_cons (pv 6) pa_nil)))
      (pss_cons (ps_asg (pv 6) (pg_tupK (K := K) rfl rfl (pgs_cons (pg_name (i := 1) sc_law_due.nd rfl (Or.inl rfl)) (pgs_cons (pg_name (i := 7) sc_law_due.nd rfl (Or.inl rfl)) (pgs_cons (pg_name (i := 5) sc_law_due.nd rfl (Or.inl rfl)) pgs_nil)))))
      (pss_one (ps_set (i := 2) sc_law_due.nd rfl (Or.inl rfl) (pe_lst (pa_cons pe_non (pa_cons pe_non (pa_cons pe_non (pa_cons pe_non (pa_cons (pe_ix (ix_K (K := K) rfl) (pv 7) pe_int (fun _ _ => rfl)) (pa_cons (pe_ix (ix_K (K := K) rfl) (pv 7) pe_int (fun _ _ => rfl)) (pa_cons (pe_ix (ix_K (K := K) rfl) (pv 7) pe_int (fun _ _ => rfl)) (pa_cons pe_non pa_nil)))))))))))))))))
      (pss_one (ps_ret (pe_tup (pa_cons pe_str (pa_cons (pv 4) pa_nil)))))))), ?_⟩
    refine r_st (σ' := [some _, some _, some _, some _, none, none, none, none]) rfl ?_
    walk_at "rd"
    rename_i pf hpf
    generalize hW : walkF es 5000 at0 kn0 P = W at q
    refine ⟨fun m σ H' => ∃ (at' : Int) (kn : List V) (n : Nat) (vs : List V) (ds : List Cal) (pk : Addr) (tv kv : Option V), ds.length + m = 5000 ∧ W = (ds ++ (walkF es m at' kn (P.take n)).1, (walkF es m at' kn (P.take n)).2) ∧ σ = [some (.ref pe), some (.int at'), some (.ref pk), some (.ref pp), some (.ref pf), some (.int n), tv, kv] ∧ Same H H' ∧ H' pf = some (.lst vs) ∧ CalVs H' vs ds ∧
      H' pk = some (.lst kn) ∧ KnOk kn ∧ n ≤ P.length ∧ pf ≠ pk, ⟨5000, at0, kn0, P.length, [], [], pk0, none, none, rfl, (by rw [List.take_length]; exact hW.symm.trans (eta_app _)), rfl, by walk_at "same", by walk_at "hlk", True.intro, by walk_at "hlk", hkn0, Nat.le_refl _, (ne_of_none hk0 hpf).symm⟩, ?_⟩
    clear hW
    rintro m σ H' ⟨at', kn, n, vs, ds, pk, tv, kv, hf, hw, rfl, sH, hvs, hcv, hk, hkn, hn, ne1⟩
    have hlen := hcv.len
    by_cases hhome : at' = ev.length
    · rw [walk_home (by omega)] at hw
      subst hhome
      walk_at "rd"
      rename_i t ht
      rw [List.append_nil] at hw
      subst hw
      exact q _ _ (by walk_at "same") ⟨t, rfl, .inl ⟨rfl, pf, vs, upd_same, by walk_at "hlk", hcv.same (by walk_at "same")⟩⟩
    have hne : at' ≠ es.length := by omega
    walk_at "rd"
    refine ⟨_, fun σ' H' h => h, ?_⟩
    by_cases hfull : m = 0
    · by_cases hin : 0 ≤ at' ∧ at' < ev.length
      · obtain ⟨hi1, hi2⟩ := hin
        walk_at "rd"
        rename_i t ht
        exact q _ _ (by walk_at "same") ⟨t, rfl, .inr ⟨at', by rw [hw, walk_lost hne (.inl hfull)], upd_same⟩⟩
      · by_cases hlo : 0 ≤ at'
        · walk_at "rd"
          rename_i t ht
          exact q _ _ (by walk_at "same") ⟨t, rfl, .inr ⟨at', by rw [hw, walk_lost hne (.inl hfull)], upd_same⟩⟩
        · walk_at "rd"
          rename_i t ht
          exact q _ _ (by walk_at "same") ⟨t, rfl, .inr ⟨at', by rw [hw, walk_lost hne (.inl hfull)], upd_same⟩⟩
    obtain ⟨m, rfl⟩ : ∃ m', m = m' + 1 := ⟨m - 1, by omega⟩
    by_cases hlo : 0 ≤ at'
    case neg =>
      walk_at "rd"
      rename_i t ht
      exact q _ _ (by walk_at "same") ⟨t, rfl, .inr ⟨at', by rw [hw, walk_lost hne (.inr (by unfold stepR; rw [if_neg (by omega)]))], upd_same⟩⟩
    by_cases hhi : at' < ev.length
    case neg =>
      walk_at "rd"
      rename_i t ht
      exact q _ _ (by walk_at "same") ⟨t, rfl, .inr ⟨at', by rw [hw, walk_lost hne (.inr (by unfold stepR; rw [if_neg (by omega)]))], upd_same⟩⟩
    have hi : at'.toNat < es.length := by omega
    obtain ⟨v, e1, e2⟩ := hev.2 at'.toNat _ (List.getElem?_eq_getElem hi)
    have hat : atI ev at' = some v := by
      rw [show at' = ((at'.toNat : Nat) : Int) from by omega]
      exact atI_nat e1
    have hst : stepR es at' kn (P.take n) = upO es[at'.toNat] kn (P.take n) := by
      unfold stepR
      rw [if_pos (by omega), List.getD_eq_getElem?_getD, List.getElem?_eq_getElem hi]; rfl
    walk_at "rd"
    refine ⟨v, pk, pp, n, es[at'.toNat], kn, P, rfl, e2.same sH, by walk_at "sql", hkn, by walk_at "sql", hpo, hn, fun hu H2 s2 => ?_, fun c v' H2 hu s2 hcal => ?_⟩
    · walk_at "rd"
      rename_i t ht
      exact q _ _ (by walk_at "same") ⟨t, rfl, .inr ⟨at', by rw [hw, walk_lost hne (.inr (hst.trans hu))], upd_same⟩⟩
    · obtain ⟨t, qq, rfl, ht, hqq⟩ := id hcal
      obtain ⟨o1, o2, o3, o4⟩ := step_ok hkn (hpo.take n) (hst.trans hu)
      rw [take_len hn] at o4
      have hvs2 := s2 _ _ hvs
      have net : pf ≠ t := fun z => by subst z; rw [hvs2] at ht; cases ht
      have neq : pf ≠ qq := fun z => by subst z; rw [hvs2] at hqq; cases hqq
      have sH2 : Same H H2 := sH.trans s2
      have hk2 := s2 _ _ hk
      have hcv2 : CalVs H2 vs ds := hcv.same s2
      clear s2 sH
      walk_at "rd"
      rename_i pk2 hpk2
      have hw2 := walk_push hne (hst.trans hu) hw
      rw [List.take_take, show min c.n.toNat n = c.n.toNat by omega] at hw2
      refine ⟨m, by omega, c.r, knOf c, c.n.toNat, vs ++ [.ref t], ds ++ [c], pk2, _, _, by rw [List.length_append, List.length_singleton]; omega, hw2, by rw [show ((c.n.toNat : Nat) : Int) = c.n by omega], by walk_at "same", by walk_at "hlk", ?_, by walk_at "hlk", o2, by omega, by walk_at "ne"⟩
      refine CalVs.same (H := upd H2 pf (.lst (vs ++ [.ref t]))) (by walk_at "same") (CalVs.snoc ?_ ?_)
      · exact ⟨t, qq, rfl, by rw [upd_ne net.symm]; exact ht, by rw [upd_ne neq.symm]; exact hqq⟩
      · exact CalVs.upd hvs2 hcv2
end
section
variable {P : Program} {w : World} {K : PySem.W.Frag} {mg : Str → Option Value} {base : Heap} {a : Adr}
set_option maxHeartbeats 4000000 in
theorem ok_callers (T : Txt K mg a) : FnE P w K mg base (CXD P w) 4 "callers" (spCallX K a) := by
  refine fnD_of (sp := (spCallX K a)) 3 T.fn_callers sc_callers (fun vs H Q E h => ?_) (fun f cdv A outer s H vs Q E hr h => ?_)
  · obtain ⟨x, dx, l, d, pk, pp, at0, ev, es, kn, pl, rfl, _⟩ := h
    rfl
  · obtain ⟨x, dx, l, d, pk, pp, at0, ev, es, kn0, pl0, rfl, hx, hl, hev, hk, hkn0, hpl, hpo0, hn0, q, hE⟩ := h
    have hel := hev.1
    refine ⟨_, (pss_cons (PS.nox (ps_set (i := 4) sc_callers.nd rfl (Or.inl rfl) (pe_callB (call_lenK (K := K) rfl) rfl T.z_len b_len (pa_cons (pe_fldK (K := K) rfl (pv 0)) pa_nil))))
      (pss_cons (PS.nox (ps_set (i := 5) sc_callers.nd rfl (Or.inl rfl) (pe_lst pa_nil)))
      (pss_cons (PS.nox (ps_set (i := 6) sc_callers.nd rfl (Or.inl rfl) (pv 1)))
      (pss_cons (PS.nox (ps_set (i := 7) sc_callers.nd rfl (Or.inl rfl) (pe_callTy (call_listK (K := K) rfl) rfl T.z_list b_list (pa_cons (pv 2) pa_nil))))
      (pss_cons (PS.nox (ps_set (i := 8) sc_callers.nd rfl (Or.inl rfl) (pe_callTy (call_listK (K := K) rfl) rfl T.z_list b_list (pa_cons (pv 3) pa_nil))))
      (pss_cons (ps_while PassesOwn.leaving (PT.nox (pt_cmpR (op_neK (K := K) rfl hr.units) (pv 6) (pv 4) (nomark _))) (pss_cons (ps_if (PT.nox (pt_cmpR (op_eqK (K := K) rfl hr.units) (pe_callB (call_lenK (K := K) rfl) rfl T.z_len b_len (pa_cons (pv 5) pa_nil)) (pe_glob (v := .int 5000) rfl T.g_MOST_CALLERS.choose_spec ⟨_, rfl⟩) (nomark _))) (pss_one (ps_raiseX (xinit_Astray (K := K) T) (hr.mono (by decide)) rfl (pa_cons (pv 6) pa_nil))) pss_nil)
      (pss_cons (ps_set (i := 9) sc_callers.nd rfl (Or.inl rfl) (pe_callE (ok_newest_caller (K := K) T) (hr.mono (by decide)) pass_onD rfl (pa_cons (pe_fldK (K := K) rfl (pv 0)) (pa_cons (pv 6) (pa_cons (pv 7) (pa_cons (pv 8) pa_nil))))))
      (pss_cons (PS.nox (ps_expr (pe_bmK (K := K) rfl PySem.F.plainAttrs_list PySem.F.slot_list_append PySem.F.type_list_append mt_append (pv 5) (pa_cons (pv 9) pa_nil))))
      (pss_cons (PS.nox (ps_set (i := 6) sc_callers.nd rfl (Or.inl rfl) (pe_ix (ix_K (K := K) rfl) (pv 9) pe_int (fun _ _ => rfl))))
      (pss_cons (PS.nox (ps_set (i := 7) sc_callers.nd rfl (Or.inl rfl) (pe_op (op_plusK (K := K) rfl) (pe_op (op_plusK (K := K) rfl) (pe_lst (pa_cons pe_non (pa_cons pe_non (pa_cons pe_non (pa_cons pe_non pa_nil))))) (pe_callTy (call_listK (K := K) rfl) rfl T.z_list b_list (pa_cons (pe_ix (ix_K (K := K) rfl) (pv 9) pe_int (fun _ _ => rfl)) pa_nil))) (pe_lst (pa_cons pe_non pa_nil)))))
      (pss_one (PS.nox (ps_set (i := 8) sc_callers.nd rfl (Or.inl rfl) (pe_slice (sl_K (K := K) rfl) (pv 8) po_none (po_some (pe_ix (ix_K (K := K) rfl) (pv 9) pe_int (fun _ _ => rfl)))))))))))))
      (pss_one (PS.nox (ps_ret (pv 5)))))))))), ?_⟩
    refine r_st (σ' := [some _, some _, some _, some _, none, none, none, none, none, none]) rfl ?_
    unfold tabF at hx
    walk_at "rd"
    rename_i pt hpt p1 hp1 p2 hp2
    have n1 := none_upd hp1
    have n2 := none_upd hp2
    have n3 := none_upd n2.1
    generalize hW : walkF es 5000 at0 kn0 pl0 = W at q hE
    refine ⟨fun m σ H' => ∃ (at' : Int) (kn : List V) (pl : List Int) (vs : List V) (ds : List Cal) (pk' pl' : Addr) (cv : Option V), ds.length + m = 5000 ∧ W = (ds ++ (walkF es m at' kn pl).1, (walkF es m at' kn pl).2) ∧ σ = [some (.ref x), some (.int at0), some (.ref pk), some (.ref pp), some (.int ev.length), some (.ref pt), some (.int at'), some (.ref pk'), some (.ref pl'), cv] ∧ Same H H' ∧ H' pt = some (.lst vs) ∧ CalVs H' vs ds ∧
      H' pk' = some (.lst kn) ∧ KnOk kn ∧ H' pl' = some (.lst (pl.map V.int)) ∧ PlOk pl ∧ near at' ∧ pt ≠ pk' ∧ pt ≠ pl', ⟨5000, at0, kn0, pl0, [], [], p1, p2, none, rfl, hW.symm.trans (eta_app _), rfl, by walk_at "same", by walk_at "hlk", True.intro, by walk_at "hlk", hkn0, by walk_at "hlk", hpo0, hn0, n1.2.symm, n3.2.symm⟩, ?_⟩
    clear hW
    rintro m σ H' ⟨at', kn, pl, vs, ds, pk', pl', cv, hf, hw, rfl, sH, hvs, hcv, hk', hkn, hl', hpo, hnear, ne1, ne2⟩
    have hlen := hcv.len
    by_cases hhome : at' = ev.length
    · rw [walk_home (by omega)] at hw
      subst hhome
      walk_at "rd"
      rw [List.append_nil] at hw
      subst hw
      exact q rfl _ _ _ sH hpt hvs hcv
    have hne : at' ≠ es.length := by omega
    walk_at "rd"
    refine ⟨_, fun σ' H' h => h, ?_⟩
    by_cases hfull : m = 0
    · walk_at "rd"
      refine ⟨log_small (by have := hnear.1; omega) (by have := hnear.2; omega), fun d hd => ?_⟩
      exact hE at' (by rw [hw, walk_lost hne (.inl hfull)]) d _ (by walk_at "same") upd_same
    obtain ⟨m, rfl⟩ : ∃ m', m = m' + 1 := ⟨m - 1, by omega⟩
    walk_at "rd"
    refine ⟨_, _, _, at', ev, es, kn, pl, rfl, by walk_at "sql", hev.same (by walk_at "same"), by walk_at "sql", hkn, by walk_at "sql", hpo, hnear, fun c v H2 hst s2 hcal => ?_, fun hst d H2 s2 hd => ?_⟩
    · obtain ⟨t, qq, rfl, ht, hqq⟩ := id hcal
      obtain ⟨o1, o2, o3, o4⟩ := step_ok hkn hpo hst
      have hvs2 := s2 _ _ hvs
      have net : pt ≠ t := fun z => by subst z; rw [hvs2] at ht; cases ht
      have neq : pt ≠ qq := fun z => by subst z; rw [hvs2] at hqq; cases hqq
      have sH2 : Same H H2 := sH.trans s2
      have hk2 := s2 _ _ hk'
      have hl2 := s2 _ _ hl'
      have hcv2 : CalVs H2 vs ds := hcv.same s2
      walk_at "rd"
      rw [cutI_take _ o3]
      refine ⟨m, by omega, c.r, knOf c, pl.take c.n.toNat, vs ++ [.ref t], ds ++ [c], _, _, _, by rw [List.length_append, List.length_singleton]; omega, walk_push hne hst hw, rfl, by walk_at "same", by walk_at "hlk", ?_, by walk_at "hlk", o2, by walk_at "hlk", hpo.take _, o1, by walk_at "ne", by walk_at "ne"⟩
      refine CalVs.same (H := upd H2 pt (.lst (vs ++ [.ref t]))) (by walk_at "same") (CalVs.snoc ?_ ?_)
      · exact ⟨t, qq, rfl, by rw [upd_ne net.symm]; exact ht, by rw [upd_ne neq.symm]; exact hqq⟩
      · exact CalVs.upd hvs2 hcv2
    · exact hE at' (by rw [hw, walk_lost hne (.inr hst)]) d H2 (sH.trans s2) hd
end
section
variable {P : Program} {w : World} {K : PySem.W.Frag} {mg : Str → Option Value} {base : Heap} {a : Adr}
set_option maxHeartbeats 4000000 in
theorem ok_law_told (T : Txt K mg a) : FnE P w K mg base CX0 5 "_law_told" (spToldX K a) := by
  refine fnE_of (sp := (spToldX K a)) 4 T.fn_law_told sc_law_told (fun vs H Q E h => ?_) (fun f cdv A outer s H vs Q E hr h => ?_)
  · obtain ⟨x, dx, l, d, pk, pp, at0, ev, es, kn, pl, rfl, _⟩ := h
    rfl
  · obtain ⟨x, dx, l, d, pk, pp, at0, ev, es, kn, pl, rfl, hx, hl, hev, hk, hkn, hp, hpo, hn, q⟩ := h
    refine ⟨_, (pss_cons (ps_set (i := 4) sc_law_told.nd rfl (Or.inl rfl) pe_non)
      (pss_cons (ps_set (i := 5) sc_law_told.nd rfl (Or.inl rfl) pe_bl)
      (pss_cons (ps_tryD (i := 6) rfl rfl rfl (pbD_set (i := 4) sc_law_told.nd rfl (Or.inl rfl) (px_tup (px_cons (px_plain pe_str) (px_cons (px_call (ok_callers (K := K) T) (hr.mono (by decide)) rfl (pa_cons (pv 0) (pa_cons (pv 1) (pa_cons (pv 2) (pa_cons (pv 3) pa_nil))))) px_nil)))) T.xo_Astray.choose_spec rfl sc_law_told.nd rfl rfl (fun ea d oe vs hxc hxd hxv => (pss_cons (ps_set (i := 4) sc_law_told.nd rfl (Or.inl rfl) (pe_tup (pa_cons pe_str (pa_cons (pe_xfld (List.mem_append_right _ (List.mem_singleton.mpr rfl)) hxc hxd hxv T.xk_Astray T.xn_Astray T.xh_Astray (pv 6)) pa_nil))))
      (pss_one (ps_set (i := 5) sc_law_told.nd rfl (Or.inl rfl) (pe_and (pe_callB (call_isiXK (K := K) rfl (List.mem_append_right _ (List.mem_singleton.mpr rfl)) hxc T.xk_Astray) rfl T.z_isinstance b_isinstance (pa_cons (pv 6) (pa_cons (pe_glob (v := .ref a.C_FrameError) rfl T.c_FrameError rfl) pa_nil))) (pe_one (pe_callB (call_isiXK (K := K) rfl (List.mem_append_right _ (List.mem_singleton.mpr rfl)) hxc T.xk_Astray) rfl T.z_isinstance b_isinstance (pa_cons (pv 6) (pa_cons (pe_bltn (v := .ty "ValueError") rfl T.z_ValueError b_ValueError rfl) pa_nil))))))))))
      (pss_cons (ps_if (pt_not (pt_truK (K := K) rfl (pv 5))) (pss_one (ps_ret (pe_tup (pa_cons pe_str (pa_cons pe_int pa_nil))))) pss_nil)
      (pss_one (ps_ret (pv 4))))))), ?_⟩
    refine r_st (σ' := [some _, some _, some _, some _, none, none, none]) rfl ?_
    walk_at "rd"
    refine ⟨x, dx, l, d, pk, pp, at0, ev, es, kn, pl, rfl, hx, hl, hev, hk, hkn, hp, hpo, hn, fun hnone p vs H' s' np hp' hcv => ?_, fun r hr d' H' s' hd => ?_⟩
    · walk_at "rd"
      rename_i t ht
      exact q _ _ (by walk_at "same") ⟨t, rfl, .inl ⟨hnone, p, vs, upd_same, by walk_at "hlk", hcv.same (by walk_at "same")⟩⟩
    · refine ⟨rfl, d', rfl, fun ea hea => ?_⟩
      walk_at "rd"
      refine ⟨rfl, _, .int r, hd, rfl, ?_⟩
      walk_at "rd"
      rename_i t ht
      refine r_isiX (fun z => nomatch z) T.is_Astray_FrameError ?_
      walk_at "rd"
      refine r_isiX (fun z => nomatch z) T.is_Astray_ValueError ?_
      walk_at "rd"
      exact q _ _ (by walk_at "same") ⟨t, rfl, .inr ⟨r, hr, by walk_at "hlk"⟩⟩
end
section
variable {P : Program} {w : World} {K : PySem.W.Frag} {mg : Str → Option Value} {base : Heap} {a : Adr}
set_option maxHeartbeats 4000000 in
theorem law_fn {fa : Addr} {fd : FuncData} (T : Txt K mg a) (F : Fun K "law" "law" s_law fa fd) : FnOk P w K mg base CX0 6 fa fd ["_law_script"] (spLaw K) := by
  refine F.ok (k := 5) sc_law (fun vs H Q E h => ?_) (fun cdv A outer s H vs Q E hr h => ?_)
  · obtain ⟨a0, ns, rfl, _⟩ := h
    rfl
  · obtain ⟨a0, ns, rfl, hS, h63, q⟩ := h
    refine ⟨_, (pss_cons (ps_set (i := 1) sc_law.nd rfl (Or.inr rfl) (pe_op (op_plusK (K := K) rfl) pe_int (pe_op op_mod (pe_callE (ok_law_cell_at (K := K) T) (hr.mono (by decide)) pass0 rfl (pa_cons (pv 0) (pa_cons pe_int pa_nil))) pe_int)))
      (pss_cons (ps_setC (i := 2) sc_law.nd rfl rfl (own := ["_law_k"]) (fr := [("_law_script", 0)]) rfl ⟨rfl, (by walk_at "clok"), (by walk_at "frok"), rfl, (by decide +kernel), (by decide +kernel), rfl⟩ (pi_range1 rfl T.z_range (pa_cons (pv 1) pa_nil)) (fun _ _ _ _ => (pg_name (i := 0) (show List.Nodup [("_law_k" : Str), ("_law_script" : Str)] from by decide +kernel) rfl (Or.inl rfl))) (fun _ _ _ _ => pts_nil) (fun _ _ _ _ => (pe_callE (ok_law_entry (K := K) T) (hr.mono (by decide)) pass0 rfl (pa_cons (pe_callE (ok_law_cell_at (K := K) T) (hr.mono (by decide)) pass0 rfl (pa_cons (pv 1) (pa_cons (pe_op (op_plusK (K := K) rfl) pe_int (pv 0)) pa_nil))) pa_nil))))
      (pss_cons (ps_set (i := 3) sc_law.nd rfl (Or.inl rfl) (pe_op op_mod (pe_callE (ok_law_cell_at (K := K) T) (hr.mono (by decide)) pass0 rfl (pa_cons (pv 0) (pa_cons pe_int pa_nil))) (pv 1)))
      (pss_cons (ps_if (pt_cmpR (op_eqK (K := K) rfl hr.units) (pe_op op_mod (pe_op op_fdiv (pe_callE (ok_law_cell_at (K := K) T) (hr.mono (by decide)) pass0 rfl (pa_cons (pv 0) (pa_cons pe_int pa_nil))) pe_int) pe_int) pe_int (nomark _)) (pss_one (ps_set (i := 3) sc_law.nd rfl (Or.inl rfl) (pe_op op_sub (pe_op op_mod (pe_op op_fdiv (pe_callE (ok_law_cell_at (K := K) T) (hr.mono (by decide)) pass0 rfl (pa_cons (pv 0) (pa_cons pe_int pa_nil))) pe_int) (pe_op (op_plusK (K := K) rfl) (pv 1) pe_int)) pe_int))) pss_nil)
      (pss_cons (ps_setC (i := 4) sc_law.nd rfl rfl (own := ["_law_k"]) (fr := [("_law_script", 0), ("_law_many", 1)]) rfl ⟨rfl, (by walk_at "clok"), (by walk_at "frok"), rfl, (by decide +kernel), (by decide +kernel), rfl⟩ (pi_range1 rfl T.z_range (pa_cons pe_int pa_nil)) (fun _ _ _ _ => (pg_name (i := 0) (show List.Nodup [("_law_k" : Str), ("_law_script" : Str), ("_law_many" : Str)] from by decide +kernel) rfl (Or.inl rfl))) (fun _ _ _ _ => pts_nil) (fun _ _ _ _ => (pe_callE (ok_law_cell (K := K) T) (hr.mono (by decide)) pass0 rfl (pa_cons (pe_callE (ok_law_cell_at (K := K) T) (hr.mono (by decide)) pass0 rfl (pa_cons (pv 1) (pa_cons (pe_op (op_plusK (K := K) rfl) pe_int (pv 0)) pa_nil))) (pa_cons (pv 2) pa_nil)))))
      (pss_cons (ps_set (i := 5) sc_law.nd rfl (Or.inl rfl) (pe_lst pa_nil))
      (pss_cons (ps_for PassesOwn.never rfl (pi_seqK (K := K) rfl (pe_slice (sl_K (K := K) rfl) (pv 0) (po_some pe_int) (po_some (pe_op (op_plusK (K := K) rfl) pe_int (pe_op op_mod (pe_callE (ok_law_cell_at (K := K) T) (hr.mono (by decide)) pass0 rfl (pa_cons (pv 0) (pa_cons pe_int pa_nil))) pe_int))))) (pg_name (i := 6) sc_law.nd rfl (Or.inl rfl)) (pss_one (ps_expr (pe_bmK (K := K) rfl PySem.F.plainAttrs_list PySem.F.slot_list_append PySem.F.type_list_append mt_append (pv 5) (pa_cons (pe_callE (ok_law_cell (K := K) T) (hr.mono (by decide)) pass0 rfl (pa_cons (pv 6) (pa_cons (pv 1) pa_nil))) pa_nil)))))
      (pss_cons (ps_set (i := 7) sc_law.nd rfl (Or.inl rfl) (pe_lst (pa_cons (pe_callTy (call_listK (K := K) rfl) rfl T.z_list b_list (pa_cons (pv 4) pa_nil)) (pa_cons (pe_callTy (call_listK (K := K) rfl) rfl T.z_list b_list (pa_cons (pv 5) pa_nil)) pa_nil))))
      (pss_cons (ps_set (i := 8) sc_law.nd rfl (Or.inl rfl) (pe_callE (ok_law_due (K := K) T) (hr.mono (by decide)) pass0 rfl (pa_cons (pv 2) (pa_cons (pv 3) (pa_cons (pv 4) (pa_cons (pv 5) pa_nil))))))
      (pss_cons (ps_set (i := 9) sc_law.nd rfl (Or.inl rfl) (pe_callE (ok_law_told (K := K) T) (hr.mono (by decide)) pass0 rfl (pa_cons (pe_makeD (mkd_Table (K := K) T) (hr.mono (by decide)) pass0 rfl (pa_cons (pv 2) pa_nil)) (pa_cons (pv 3) (pa_cons (pe_ix (ix_K (K := K) rfl) (pv 7) pe_int (fun _ _ => rfl)) (pa_cons (pe_ix (ix_K (K := K) rfl) (pv 7) pe_int (fun _ _ => rfl)) pa_nil))))))
      (pss_cons (ps_if (pt_cmpR (op_neK (K := K) rfl hr.units) (pv 7) (pe_lst (pa_cons (pv 4) (pa_cons (pv 5) pa_nil))) (nomark _)) (pss_one (ps_ret pe_bl)) pss_nil)
      (pss_one (ps_ret (pe_cmpR (op_eqK (K := K) rfl hr.units) (pv 9) (pv 8) (nomark _))))))))))))))), ?_⟩
    refine r_st (σ' := [some _, none, none, none, none, none, none, none, none, none]) rfl ?_
    walk_at "rd"
    obtain ⟨n, hn⟩ : ∃ n : Nat, 1 + cellAt ns 0 % 5 = n := ⟨(1 + cellAt ns 0 % 5).toNat, by omega⟩
    have hn2 : 1 ≤ n ∧ n ≤ 5 := by omega
    rw [hn, Int.toNat_natCast]
    refine comp_range (fun i ys σ H2 => Same H H2 ∧ (∃ v, σ = [v, some (.ref a0)]) ∧ ∃ es, EntVs K H2 ys es ∧ es.length = i) ⟨Same.refl _, ⟨_, rfl⟩, [], EntVs.nil, rfl⟩ ?_ ?_ ?_
    · rintro i ys σ H2 hi ⟨_, _, es, hev, hel⟩
      rw [hev.1, hel, sizeLine_eq]; omega
    · rintro i ys σ H2 hi ⟨s2, ⟨v, rfl⟩, es, hev, hel⟩
      walk_at "rd"
      refine ⟨_, rfl, fun v oe H3 s3 hv => ?_⟩
      exact ⟨s2.trans s3, ⟨_, rfl⟩, es ++ [oe], (hev.same s3).snoc hv, by rw [List.length_append, List.length_singleton, hel]⟩
    rintro ev σ H2 ⟨s2, _, es, hev0, hel⟩
    intro pe0 hpe0
    obtain ⟨pe, hpe', H3, hH3⟩ : ∃ (pe : Addr), pe0 = pe ∧ ∃ H3, H3 = upd H2 pe (.lst ev) := ⟨pe0, rfl, _, rfl⟩
    subst hpe'
    have hpe : H3 pe0 = some (.lst ev) := by rw [hH3]; exact upd_same
    have sH3 : Same H H3 := by rw [hH3]; walk_at "same"
    have hev : EntVs K H3 ev es := by rw [hH3]; exact hev0.same (by walk_at "same")
    have hS3 : SqL K H3 a0 (ns.map V.int) := Same.seq sH3 hS
    rw [← hH3]
    clear hH3 hpe0 hev0 s2 sH3
    walk_at "rd"
    have hrow1 : near (cellAt ns 1 % (n : Int)) := by
      have m0 := Int.emod_nonneg (cellAt ns 1) (show (n : Int) ≠ 0 by omega)
      have m1 := Int.emod_lt_of_pos (cellAt ns 1) (show (0 : Int) < n by omega)
      unfold near; omega
    have hrow2 : near (cellAt ns 1 / 30 % ((n : Int) + 5) - 2) := by
      have m0 := Int.emod_nonneg (cellAt ns 1 / 30) (show (n : Int) + 5 ≠ 0 by omega)
      have m1 := Int.emod_lt_of_pos (cellAt ns 1 / 30) (show (0 : Int) < (n : Int) + 5 by omega)
      unfold near; omega
    walk_at "cs"
    · walk_at "rd"
      generalize cellAt ns 1 / 30 % ((n : Int) + 5) - 2 = row at hrow2 ⊢
      have hrow := hrow2
      walk_at "rd"
      refine comp_mapR (fun k => .int (cellV (cellAt ns (2 + (0 + (k : Int)))) n)) (fun σ => ∃ v, σ = [v, some (.ref a0), some (.int n)]) (by walk_at "small") ⟨_, rfl⟩ ?_ ?_
      · rintro i ys σ H1 hi cc ss ⟨v, rfl⟩
        walk_at "rd"
        refine ⟨_, _, rfl, by omega, by omega, fun H2 s2 => ?_⟩
        exact cc.next (range_get hi) rfl (by walk_at "same") ⟨_, rfl⟩
      intro H4 s4
      rw [map_int, show (8 : Int).toNat = 8 from rfl]
      have hb8 : ((List.range 8).map fun k => cellV (cellAt ns (2 + (0 + ((k : Nat) : Int)))) n).length = 8 := by rw [List.length_map, List.length_range]
      have hbn : ∀ i ∈ ((List.range 8).map fun k => cellV (cellAt ns (2 + (0 + ((k : Nat) : Int)))) n), near i := fun i hi => by
        obtain ⟨k, _, rfl⟩ := List.mem_map.mp hi
        exact cellV_ok (by omega) (by omega)
      generalize ((List.range 8).map fun k => cellV (cellAt ns (2 + (0 + ((k : Nat) : Int)))) n) = bs at hb8 hbn ⊢
      have hkn := kn_ints hb8 hbn
      walk_at "rd"
      rename_i pb hpb ppl hppl lq hlq
      have hml := cutI_len ns (some 20) (some (20 + cellAt ns 10 % 10))
      generalize cutI ns (some 20) (some (20 + cellAt ns 10 % 10)) = ms at hml ⊢
      refine for_list (K := K) (a := lq) (xs := ms.map V.int) (fun i σ H2 => ∃ (pl : List Int) (cv : Option V), σ = [some (.ref a0), some (.int n), some (.ref pe0), some (.int row), some (.ref pb), some (.ref ppl), cv, none, none, none] ∧ Same H3 H2 ∧ H2 lq = some (.lst (ms.map V.int)) ∧ H2 pb = some (.lst (bs.map V.int)) ∧ H2 ppl = some (.lst (pl.map V.int)) ∧ PlOk pl ∧ pl.length = i) ⟨[], none, rfl, by walk_at "same", upd_same, by walk_at "hlk", by walk_at "hlk", (fun i z => nomatch z), rfl⟩ (fun i σ H2 _ ⟨pl, cv, _, _, h, _⟩ => SqL.of h) ?_ ?_
      · rintro i v σ H2 hv ⟨pl, cv, rfl, s2, hq2, hb2, hp2, hpo, hpl⟩
        have hi : i < ms.length := by have := (List.getElem?_eq_some_iff.mp hv).1; rwa [List.length_map] at this
        rw [List.getElem?_map] at hv
        obtain ⟨c, _, rfl⟩ := Option.map_eq_some_iff.mp hv
        have nlq : ppl ≠ lq := (none_upd hlq).2.symm
        have npb : ppl ≠ pb := (none_upd hppl).2
        walk_at "rd"
        refine ⟨_, _, rfl, by omega, by omega, fun H5 s5 => ?_⟩
        have hp5 := s5 _ _ hp2
        have hq5 := s5 _ _ hq2
        have hb5 := s5 _ _ hb2
        have s25 := s2.trans s5
        clear s2 s5
        walk_at "rd"
        refine ⟨pl ++ [cellV c n], _, rfl, by walk_at "same", by walk_at "hlk", by walk_at "hlk", by rw [List.map_append]; exact upd_same, ?_, by rw [List.length_append, List.length_singleton, hpl]⟩
        intro j hj
        rcases List.mem_append.mp hj with z | z
        · exact hpo j z
        · rw [List.mem_singleton.mp z]; exact cellV_ok (by omega) (by omega)
      · rintro σ H2 ⟨pl, cv, rfl, s2, hq2, hb2, hp2, hpo, hpl⟩
        rw [List.length_map] at hpl
        have hpe2 := s2 _ _ hpe
        have hev2 := hev.same s2
        clear s2 hq2 hpe hev s4 hlq hppl hpb
        walk_at "rd"
        rename_i h1 hh1 h2 hh2 ph hph
        refine ⟨pe0, pb, ppl, row, ev, es, bs.map V.int, pl, rfl, by walk_at "hlk", hev2.same (by walk_at "same"), by walk_at "hlk", hkn, by walk_at "hlk", hpo, fun vd H6 s6 hdue => ?_⟩
        have s26 : Same H2 H6 := by walk_at "same"
        have hpe6 := s26 _ _ hpe2
        have hev6 := hev2.same s26
        have hb6 := s26 _ _ hb2
        have hp6 := s26 _ _ hp2
        have hh16 : H6 h1 = some (.lst (bs.map V.int)) := s6 _ _ (by walk_at "hlk")
        have hh26 : H6 h2 = some (.lst (pl.map V.int)) := s6 _ _ (by walk_at "hlk")
        have hph6 : H6 ph = some (.lst [.ref h1, .ref h2]) := s6 _ _ upd_same
        clear s6 s26 hpe2 hev2 hb2 hp2 hh1 hh2 hph
        walk_at "rd"
        intro x dx nx ndx nne
        refine' r_tab (kvs := []) (xs := ev) nx ndx ?h1 ?h2 ?q
        case h1 => exact SqL.of hpe6
        case h2 => exact .inl ⟨rfl, rfl⟩
        intro l4 d4 H7 s7 nl4 nd4 nld4 nxl4 nxd4 hx7 hl7 hd7
        refine ⟨rfl, ?_⟩
        have hev7 := hev6.same s7
        have hdue7 := hdue.same s7
        have hb7 := s7 _ _ hb6
        have hp7 := s7 _ _ hp6
        have hh17 := s7 _ _ hh16
        have hh27 := s7 _ _ hh26
        have hph7 := s7 _ _ hph6
        clear s7 hpe6 hev6 hdue hb6 hp6 hh16 hh26 hph6 nl4 nd4 nx ndx
        walk_at "rd"
        refine ⟨x, dx, l4, d4, h1, h2, row, ev, es, bs.map V.int, pl, rfl, hx7, hl7, hev7, SqL.of hh17, hkn, SqL.of hh27, hpo, hrow, fun vt H8 s8 htold => ?_⟩
        have hdue8 := hdue7.same s8
        have hb8' := s8 _ _ hb7
        have hp8 := s8 _ _ hp7
        have hh18 := s8 _ _ hh17
        have hh28 := s8 _ _ hh27
        have hph8 := s8 _ _ hph7
        clear s8 hev7 hdue7 hb7 hp7 hh17 hh27 hph7 hx7 hl7 hd7
        walk_at "rd"
        rename_i lz hlz
        refine r_neT (.list [.list (bs.map PyData.int), .list (pl.map PyData.int)]) (dp_lst (SqL.of (xs := [.ref h1, .ref h2]) (by walk_at "hlk")) (dpAll_cons (dp_ints (by walk_at "sql")) (dpAll_cons (dp_ints (by walk_at "sql")) dpAll_nil))) (dp_lst (SqL.of upd_same) (dpAll_cons (dp_ints (by walk_at "sql")) (dpAll_cons (dp_ints (by walk_at "sql")) dpAll_nil))) (by walk_at "shaped") ?_
        walk_at "rd"
        refine r_eqT (dueD (walkF es 5000 row (bs.map V.int) pl)) (htold.same (by walk_at "same")).dp (hdue8.same (by walk_at "same")).dp (shaped_due _) ?_
        exact q _
    · walk_at "rd"
      generalize cellAt ns 1 % (n : Int) = row at hrow1 ⊢
      have hrow := hrow1
      walk_at "rd"
      refine comp_mapR (fun k => .int (cellV (cellAt ns (2 + (0 + (k : Int)))) n)) (fun σ => ∃ v, σ = [v, some (.ref a0), some (.int n)]) (by walk_at "small") ⟨_, rfl⟩ ?_ ?_
      · rintro i ys σ H1 hi cc ss ⟨v, rfl⟩
        walk_at "rd"
        refine ⟨_, _, rfl, by omega, by omega, fun H2 s2 => ?_⟩
        exact cc.next (range_get hi) rfl (by walk_at "same") ⟨_, rfl⟩
      intro H4 s4
      rw [map_int, show (8 : Int).toNat = 8 from rfl]
      have hb8 : ((List.range 8).map fun k => cellV (cellAt ns (2 + (0 + ((k : Nat) : Int)))) n).length = 8 := by rw [List.length_map, List.length_range]
      have hbn : ∀ i ∈ ((List.range 8).map fun k => cellV (cellAt ns (2 + (0 + ((k : Nat) : Int)))) n), near i := fun i hi => by
        obtain ⟨k, _, rfl⟩ := List.mem_map.mp hi
        exact cellV_ok (by omega) (by omega)
      generalize ((List.range 8).map fun k => cellV (cellAt ns (2 + (0 + ((k : Nat) : Int)))) n) = bs at hb8 hbn ⊢
      have hkn := kn_ints hb8 hbn
      walk_at "rd"
      rename_i pb hpb ppl hppl lq hlq
      have hml := cutI_len ns (some 20) (some (20 + cellAt ns 10 % 10))
      generalize cutI ns (some 20) (some (20 + cellAt ns 10 % 10)) = ms at hml ⊢
      refine for_list (K := K) (a := lq) (xs := ms.map V.int) (fun i σ H2 => ∃ (pl : List Int) (cv : Option V), σ = [some (.ref a0), some (.int n), some (.ref pe0), some (.int row), some (.ref pb), some (.ref ppl), cv, none, none, none] ∧ Same H3 H2 ∧ H2 lq = some (.lst (ms.map V.int)) ∧ H2 pb = some (.lst (bs.map V.int)) ∧ H2 ppl = some (.lst (pl.map V.int)) ∧ PlOk pl ∧ pl.length = i) ⟨[], none, rfl, by walk_at "same", upd_same, by walk_at "hlk", by walk_at "hlk", (fun i z => nomatch z), rfl⟩ (fun i σ H2 _ ⟨pl, cv, _, _, h, _⟩ => SqL.of h) ?_ ?_
      · rintro i v σ H2 hv ⟨pl, cv, rfl, s2, hq2, hb2, hp2, hpo, hpl⟩
        have hi : i < ms.length := by have := (List.getElem?_eq_some_iff.mp hv).1; rwa [List.length_map] at this
        rw [List.getElem?_map] at hv
        obtain ⟨c, _, rfl⟩ := Option.map_eq_some_iff.mp hv
        have nlq : ppl ≠ lq := (none_upd hlq).2.symm
        have npb : ppl ≠ pb := (none_upd hppl).2
        walk_at "rd"
        refine ⟨_, _, rfl, by omega, by omega, fun H5 s5 => ?_⟩
        have hp5 := s5 _ _ hp2
        have hq5 := s5 _ _ hq2
        have hb5 := s5 _ _ hb2
        have s25 := s2.trans s5
        clear s2 s5
        walk_at "rd"
        refine ⟨pl ++ [cellV c n], _, rfl, by walk_at "same", by walk_at "hlk", by walk_at "hlk", by rw [List.map_append]; exact upd_same, ?_, by rw [List.length_append, List.length_singleton, hpl]⟩
        intro j hj
        rcases List.mem_append.mp hj with z | z
        · exact hpo j z
        · rw [List.mem_singleton.mp z]; exact cellV_ok (by omega) (by omega)
      · rintro σ H2 ⟨pl, cv, rfl, s2, hq2, hb2, hp2, hpo, hpl⟩
        rw [List.length_map] at hpl
        have hpe2 := s2 _ _ hpe
        have hev2 := hev.same s2
        clear s2 hq2 hpe hev s4 hlq hppl hpb
        walk_at "rd"
        rename_i h1 hh1 h2 hh2 ph hph
        refine ⟨pe0, pb, ppl, row, ev, es, bs.map V.int, pl, rfl, by walk_at "hlk", hev2.same (by walk_at "same"), by walk_at "hlk", hkn, by walk_at "hlk", hpo, fun vd H6 s6 hdue => ?_⟩
        have s26 : Same H2 H6 := by walk_at "same"
        have hpe6 := s26 _ _ hpe2
        have hev6 := hev2.same s26
        have hb6 := s26 _ _ hb2
        have hp6 := s26 _ _ hp2
        have hh16 : H6 h1 = some (.lst (bs.map V.int)) := s6 _ _ (by walk_at "hlk")
        have hh26 : H6 h2 = some (.lst (pl.map V.int)) := s6 _ _ (by walk_at "hlk")
        have hph6 : H6 ph = some (.lst [.ref h1, .ref h2]) := s6 _ _ upd_same
        clear s6 s26 hpe2 hev2 hb2 hp2 hh1 hh2 hph
        walk_at "rd"
        intro x dx nx ndx nne
        refine' r_tab (kvs := []) (xs := ev) nx ndx ?k1 ?k2 ?k3
        case k1 => exact SqL.of hpe6
        case k2 => exact .inl ⟨rfl, rfl⟩
        intro l4 d4 H7 s7 nl4 nd4 nld4 nxl4 nxd4 hx7 hl7 hd7
        refine ⟨rfl, ?_⟩
        have hev7 := hev6.same s7
        have hdue7 := hdue.same s7
        have hb7 := s7 _ _ hb6
        have hp7 := s7 _ _ hp6
        have hh17 := s7 _ _ hh16
        have hh27 := s7 _ _ hh26
        have hph7 := s7 _ _ hph6
        clear s7 hpe6 hev6 hdue hb6 hp6 hh16 hh26 hph6 nl4 nd4 nx ndx
        walk_at "rd"
        refine ⟨x, dx, l4, d4, h1, h2, row, ev, es, bs.map V.int, pl, rfl, hx7, hl7, hev7, SqL.of hh17, hkn, SqL.of hh27, hpo, hrow, fun vt H8 s8 htold => ?_⟩
        have hdue8 := hdue7.same s8
        have hb8' := s8 _ _ hb7
        have hp8 := s8 _ _ hp7
        have hh18 := s8 _ _ hh17
        have hh28 := s8 _ _ hh27
        have hph8 := s8 _ _ hph7
        clear s8 hev7 hdue7 hb7 hp7 hh17 hh27 hph7 hx7 hl7 hd7
        walk_at "rd"
        rename_i lz hlz
        refine r_neT (.list [.list (bs.map PyData.int), .list (pl.map PyData.int)]) (dp_lst (SqL.of (xs := [.ref h1, .ref h2]) (by walk_at "hlk")) (dpAll_cons (dp_ints (by walk_at "sql")) (dpAll_cons (dp_ints (by walk_at "sql")) dpAll_nil))) (dp_lst (SqL.of upd_same) (dpAll_cons (dp_ints (by walk_at "sql")) (dpAll_cons (dp_ints (by walk_at "sql")) dpAll_nil))) (by walk_at "shaped") ?_
        walk_at "rd"
        refine r_eqT (dueD (walkF es 5000 row (bs.map V.int) pl)) (htold.same (by walk_at "same")).dp (hdue8.same (by walk_at "same")).dp (shaped_due _) ?_
        exact q _
end
theorem funD_mk2 {K : PySem.W.Frag} {x qual : Str} {st : Stmt} {f da : Addr} {n : Nat} {oc dc : Value} {od an dd : Option Addr} {osl dl : Array (Option Value)} {kV doc pm cdv ct : Value} (l : K.lookup f = some ⟨oc, od, .func (PySem.W.fnOf x qual (defArgs st) (defBody st) (defScope st) (.ref da) kV doc pm an cdv ct), osl⟩)
    (d : K.lookup da = some ⟨dc, dd, .seq #[.none] n, dl⟩) (c : PySem.W.codeIn K cdv qual = true) (k : PySem.W.keepIn K (.ref f) = true) : FunD K x qual st f (PySem.W.fnOf x qual (defArgs st) (defBody st) (defScope st) (.ref da) kV doc pm an cdv ct) := funD_mk l ⟨d, n, rfl⟩ c k
theorem bindsF {K : PySem.W.Frag} {x qual : Str} {st : Stmt} {f : Addr} {fd : FuncData} {ps : List Str} (F : FunD K x qual st f fd)
    (h : ∀ (da : Addr) (kV doc pm : Value) (an : Option Addr) (cdv ct : Value) (us : List Value), us.length = ps.length → ∃ k : Option (Array Value) → Sem (List (Str × Value)), bindArgs (PySem.W.fnOf x qual (defArgs st) (defBody st) (defScope st) (.ref da) kV doc pm an cdv ct) ⟨us, []⟩ = seqItems? (.ref da) >>= k ∧ k (some #[.none]) = pure (ps.zip us)) : Binds K fd ps [] := by
  obtain ⟨oc, od, da, kV, doc, pm, an, cdv, ct, osl, o, n, rfl, lk, hcd, ld, ed⟩ := F.ex
  intro s us KX hl
  rw [List.append_nil] at hl ⊢
  obtain ⟨k, h1, h2⟩ := h da kV doc pm an cdv ct us hl
  exact .of_defaults rfl (KX _ _ ld) ed h1 h2
set_option maxHeartbeats 8000000 in
theorem txt_mk {K : PySem.W.Frag} {h : Heap} {mg : Str → Option Value} {fa : Addr} (X : K.In h) (G : h.Ns mainGlobals mg) (hfa : mg "law" = some (.ref fa))
    {t_FIRST_CELL_BIT : Tok}
    {t_MOST_CALLERS : Tok}
    {C_Astray : Addr}
    {C_FrameError : Addr}
    {C_Table : Addr}
    {f1 : Addr} {od1 an1 : Option Addr} {sl1 : Array (Option Value)} {oc1 kV1 dc1 pm1 cd1 ct1 : Value}
    {da1 : Addr} {dc1' : Value} {dd1 : Option Addr} {dn1 : Nat} {dl1 : Array (Option Value)}
    {f2 : Addr} {od2 an2 : Option Addr} {sl2 : Array (Option Value)} {oc2 kV2 dc2 pm2 cd2 ct2 : Value}
    {f3 : Addr} {od3 an3 : Option Addr} {sl3 : Array (Option Value)} {oc3 kV3 dc3 pm3 cd3 ct3 : Value}
    {f4 : Addr} {od4 an4 : Option Addr} {sl4 : Array (Option Value)} {oc4 kV4 dc4 pm4 cd4 ct4 : Value}
    {f5 : Addr} {od5 an5 : Option Addr} {sl5 : Array (Option Value)} {oc5 kV5 dc5 pm5 cd5 ct5 : Value}
    {f6 : Addr} {od6 an6 : Option Addr} {sl6 : Array (Option Value)} {oc6 kV6 dc6 pm6 cd6 ct6 : Value}
    {f7 : Addr} {od7 an7 : Option Addr} {sl7 : Array (Option Value)} {oc7 kV7 dc7 pm7 cd7 ct7 : Value}
    {f8 : Addr} {od8 an8 : Option Addr} {sl8 : Array (Option Value)} {oc8 kV8 dc8 pm8 cd8 ct8 : Value}
    {f9 : Addr} {od9 an9 : Option Addr} {sl9 : Array (Option Value)} {oc9 kV9 dc9 pm9 cd9 ct9 : Value}
    {f10 : Addr} {od10 an10 : Option Addr} {sl10 : Array (Option Value)} {oc10 kV10 dc10 pm10 cd10 ct10 : Value}
    {f11 : Addr} {od11 an11 : Option Addr} {sl11 : Array (Option Value)} {oc11 kV11 dc11 pm11 cd11 ct11 : Value}
    {f12 : Addr} {od12 an12 : Option Addr} {sl12 : Array (Option Value)} {oc12 kV12 dc12 pm12 cd12 ct12 : Value}
    {f13 : Addr} {od13 an13 : Option Addr} {sl13 : Array (Option Value)} {oc13 kV13 dc13 pm13 cd13 ct13 : Value}
    {f14 : Addr} {od14 an14 : Option Addr} {sl14 : Array (Option Value)} {oc14 kV14 dc14 pm14 cd14 ct14 : Value}
    {f15 : Addr} {od15 an15 : Option Addr} {sl15 : Array (Option Value)} {oc15 kV15 dc15 pm15 cd15 ct15 : Value}
    {f16 : Addr} {od16 an16 : Option Addr} {sl16 : Array (Option Value)} {oc16 kV16 dc16 pm16 cd16 ct16 : Value}
    (z_ValueError : PySem.W.nsIn K mainGlobals "ValueError" = some none)
    (z_dict : PySem.W.nsIn K mainGlobals "dict" = some none)
    (z_int : PySem.W.nsIn K mainGlobals "int" = some none)
    (z_isinstance : PySem.W.nsIn K mainGlobals "isinstance" = some none)
    (z_len : PySem.W.nsIn K mainGlobals "len" = some none)
    (z_list : PySem.W.nsIn K mainGlobals "list" = some none)
    (z_max : PySem.W.nsIn K mainGlobals "max" = some none)
    (z_range : PySem.W.nsIn K mainGlobals "range" = some none)
    (g_FIRST_CELL_BIT : PySem.W.nsIn K mainGlobals "FIRST_CELL_BIT" = some (some (Value.int 8 t_FIRST_CELL_BIT)))
    (g_MOST_CALLERS : PySem.W.nsIn K mainGlobals "MOST_CALLERS" = some (some (Value.int 5000 t_MOST_CALLERS)))
    (c_Astray : PySem.W.nsIn K mainGlobals "Astray" = some (some (.ref C_Astray)))
    (c_FrameError : PySem.W.nsIn K mainGlobals "FrameError" = some (some (.ref C_FrameError)))
    (c_Table : PySem.W.nsIn K mainGlobals "Table" = some (some (.ref C_Table)))
    (pg_Table : PySem.W.plainGet K C_Table Str.empty = true)
    (hd_Table : PySem.W.hasDictIn K C_Table = true)
    (po_Table : PySem.W.plainOver K C_Table = true)
    (sa_Table : PySem.W.findIn K (.ref C_Table) "__setattr__" = some (some (.builtin "object.__setattr__")))
    (mk_Table : PySem.W.makesIn K C_Table = true)
    (kc_Table : PySem.W.keepIn K (.ref C_Table) = true)
    (n_Table_entries : PySem.W.findIn K (.ref C_Table) "entries" = some none)
    (n_Table_landings : PySem.W.findIn K (.ref C_Table) "landings" = some none)
    (a1 : PySem.W.findIn K (.ref C_Table) "__init__" = some (some (.ref f1)))
    (i1 : PySem.W.isFn K (.ref f1) = true)
    (l1 : K.lookup f1 = some ⟨oc1, od1, .func (PySem.W.fnOf "__init__" "Table.__init__" (defArgs s_Table_init) (defBody s_Table_init) (defScope s_Table_init) (.ref da1) kV1 dc1 pm1 an1 cd1 ct1), sl1⟩)
    (d1 : K.lookup da1 = some ⟨dc1', dd1, .seq #[.none] dn1, dl1⟩)
    (c1 : PySem.W.codeIn K cd1 "Table.__init__" = true) (k1 : PySem.W.keepIn K (.ref f1) = true)
    (a2 : PySem.W.findIn K (.ref C_Astray) "__init__" = some (some (.ref f2)))
    (i2 : PySem.W.isFn K (.ref f2) = true)
    (l2 : K.lookup f2 = some ⟨oc2, od2, .func (PySem.W.fnOf "__init__" "Astray.__init__" (defArgs s_Astray_init) (defBody s_Astray_init) (defScope s_Astray_init) .none kV2 dc2 pm2 an2 cd2 ct2), sl2⟩)
    (c2 : PySem.W.codeIn K cd2 "Astray.__init__" = true) (k2 : PySem.W.keepIn K (.ref f2) = true)
    (xw_Astray : excWith K C_Astray f2 = true)
    (xa_Astray : (PySem.W.clsIn K C_Astray).isSome = true)
    (xb_Astray : PySem.W.findIn K (.ref C_Astray) "__getattribute__" = some (some (.builtin "BaseException.__getattribute__")))
    (xc_Astray : PySem.W.findIn K (.ref C_Astray) "__getattr__" = some none)
    (xd_Astray : PySem.W.findIn K (.ref C_Astray) "__class__" = some (some (.builtin "object.__class__")))
    (xf_Astray : PySem.W.specialIn K (.builtin "object.__class__") "__get__" = some (some (.builtin "getset_descriptor.__get__")))
    (xg_Astray : PySem.W.takesIn K (.builtin "object.__class__") = some true)
    (xh_Astray : PySem.W.mroIn K C_Astray (.type "object") = some true)
    (xi_Astray : PySem.W.mroIn K C_Astray (.type "BaseException") = some true)
    (xj_Astray : PySem.W.findIn K (.ref C_Astray) "__setattr__" = some (some (.builtin "object.__setattr__")))
    (xl_Astray : ((PySem.W.clsIn K C_Astray).any fun cd => onlyExc cd.mro) = true)
    (xm_Astray : PySem.W.findIn K (.ref C_Astray) "row" = some none)
    (xn_Astray : ((PySem.W.clsIn K C_Astray).any (·.hasDict)) = true)
    (xp_Astray : PySem.W.specialIn K (.ref C_FrameError) "__getattribute__" = some (some (.builtin "type.__getattribute__")))
    (xq_Astray : PySem.W.readsIn K C_FrameError (.type "type") = true)
    (xr_Astray : (match PySem.W.findCls K (.ref C_FrameError) (.type "type") "__init__" with | some (.val v) => v == .builtin "ValueError.__init__" | _ => false) = true)
    (is_Astray_FrameError : PySem.W.kitOne K (.ref C_Astray) (.ref C_FrameError) = some true)
    (is_Astray_ValueError : PySem.W.kitOne K (.ref C_Astray) (.type "ValueError") = some true)
    (a3 : PySem.W.nsIn K mainGlobals "sets_of" = some (some (.ref f3)))
    (l3 : K.lookup f3 = some ⟨oc3, od3, .func (PySem.W.fnOf "sets_of" "sets_of" (defArgs s_sets_of) (defBody s_sets_of) (defScope s_sets_of) .none kV3 dc3 pm3 an3 cd3 ct3), sl3⟩)
    (c3 : PySem.W.codeIn K cd3 "sets_of" = true) (k3 : PySem.W.keepIn K (.ref f3) = true)
    (a4 : PySem.W.nsIn K mainGlobals "lowest_place" = some (some (.ref f4)))
    (l4 : K.lookup f4 = some ⟨oc4, od4, .func (PySem.W.fnOf "lowest_place" "lowest_place" (defArgs s_lowest_place) (defBody s_lowest_place) (defScope s_lowest_place) .none kV4 dc4 pm4 an4 cd4 ct4), sl4⟩)
    (c4 : PySem.W.codeIn K cd4 "lowest_place" = true) (k4 : PySem.W.keepIn K (.ref f4) = true)
    (a5 : PySem.W.nsIn K mainGlobals "looked_up" = some (some (.ref f5)))
    (l5 : K.lookup f5 = some ⟨oc5, od5, .func (PySem.W.fnOf "looked_up" "looked_up" (defArgs s_looked_up) (defBody s_looked_up) (defScope s_looked_up) .none kV5 dc5 pm5 an5 cd5 ct5), sl5⟩)
    (c5 : PySem.W.codeIn K cd5 "looked_up" = true) (k5 : PySem.W.keepIn K (.ref f5) = true)
    (a6 : PySem.W.nsIn K mainGlobals "newest_caller" = some (some (.ref f6)))
    (l6 : K.lookup f6 = some ⟨oc6, od6, .func (PySem.W.fnOf "newest_caller" "newest_caller" (defArgs s_newest_caller) (defBody s_newest_caller) (defScope s_newest_caller) .none kV6 dc6 pm6 an6 cd6 ct6), sl6⟩)
    (c6 : PySem.W.codeIn K cd6 "newest_caller" = true) (k6 : PySem.W.keepIn K (.ref f6) = true)
    (a7 : PySem.W.nsIn K mainGlobals "callers" = some (some (.ref f7)))
    (l7 : K.lookup f7 = some ⟨oc7, od7, .func (PySem.W.fnOf "callers" "callers" (defArgs s_callers) (defBody s_callers) (defScope s_callers) .none kV7 dc7 pm7 an7 cd7 ct7), sl7⟩)
    (c7 : PySem.W.codeIn K cd7 "callers" = true) (k7 : PySem.W.keepIn K (.ref f7) = true)
    (a8 : PySem.W.nsIn K mainGlobals "_law_cell_at" = some (some (.ref f8)))
    (l8 : K.lookup f8 = some ⟨oc8, od8, .func (PySem.W.fnOf "_law_cell_at" "_law_cell_at" (defArgs s_law_cell_at) (defBody s_law_cell_at) (defScope s_law_cell_at) .none kV8 dc8 pm8 an8 cd8 ct8), sl8⟩)
    (c8 : PySem.W.codeIn K cd8 "_law_cell_at" = true) (k8 : PySem.W.keepIn K (.ref f8) = true)
    (a9 : PySem.W.nsIn K mainGlobals "_law_cell" = some (some (.ref f9)))
    (l9 : K.lookup f9 = some ⟨oc9, od9, .func (PySem.W.fnOf "_law_cell" "_law_cell" (defArgs s_law_cell) (defBody s_law_cell) (defScope s_law_cell) .none kV9 dc9 pm9 an9 cd9 ct9), sl9⟩)
    (c9 : PySem.W.codeIn K cd9 "_law_cell" = true) (k9 : PySem.W.keepIn K (.ref f9) = true)
    (a10 : PySem.W.nsIn K mainGlobals "_law_set" = some (some (.ref f10)))
    (l10 : K.lookup f10 = some ⟨oc10, od10, .func (PySem.W.fnOf "_law_set" "_law_set" (defArgs s_law_set) (defBody s_law_set) (defScope s_law_set) .none kV10 dc10 pm10 an10 cd10 ct10), sl10⟩)
    (c10 : PySem.W.codeIn K cd10 "_law_set" = true) (k10 : PySem.W.keepIn K (.ref f10) = true)
    (a11 : PySem.W.nsIn K mainGlobals "_law_entry" = some (some (.ref f11)))
    (l11 : K.lookup f11 = some ⟨oc11, od11, .func (PySem.W.fnOf "_law_entry" "_law_entry" (defArgs s_law_entry) (defBody s_law_entry) (defScope s_law_entry) .none kV11 dc11 pm11 an11 cd11 ct11), sl11⟩)
    (c11 : PySem.W.codeIn K cd11 "_law_entry" = true) (k11 : PySem.W.keepIn K (.ref f11) = true)
    (a12 : PySem.W.nsIn K mainGlobals "_law_value" = some (some (.ref f12)))
    (l12 : K.lookup f12 = some ⟨oc12, od12, .func (PySem.W.fnOf "_law_value" "_law_value" (defArgs s_law_value) (defBody s_law_value) (defScope s_law_value) .none kV12 dc12 pm12 an12 cd12 ct12), sl12⟩)
    (c12 : PySem.W.codeIn K cd12 "_law_value" = true) (k12 : PySem.W.keepIn K (.ref f12) = true)
    (a13 : PySem.W.nsIn K mainGlobals "_law_up" = some (some (.ref f13)))
    (l13 : K.lookup f13 = some ⟨oc13, od13, .func (PySem.W.fnOf "_law_up" "_law_up" (defArgs s_law_up) (defBody s_law_up) (defScope s_law_up) .none kV13 dc13 pm13 an13 cd13 ct13), sl13⟩)
    (c13 : PySem.W.codeIn K cd13 "_law_up" = true) (k13 : PySem.W.keepIn K (.ref f13) = true)
    (a14 : PySem.W.nsIn K mainGlobals "_law_due" = some (some (.ref f14)))
    (l14 : K.lookup f14 = some ⟨oc14, od14, .func (PySem.W.fnOf "_law_due" "_law_due" (defArgs s_law_due) (defBody s_law_due) (defScope s_law_due) .none kV14 dc14 pm14 an14 cd14 ct14), sl14⟩)
    (c14 : PySem.W.codeIn K cd14 "_law_due" = true) (k14 : PySem.W.keepIn K (.ref f14) = true)
    (a15 : PySem.W.nsIn K mainGlobals "_law_told" = some (some (.ref f15)))
    (l15 : K.lookup f15 = some ⟨oc15, od15, .func (PySem.W.fnOf "_law_told" "_law_told" (defArgs s_law_told) (defBody s_law_told) (defScope s_law_told) .none kV15 dc15 pm15 an15 cd15 ct15), sl15⟩)
    (c15 : PySem.W.codeIn K cd15 "_law_told" = true) (k15 : PySem.W.keepIn K (.ref f15) = true)
    (a16 : PySem.W.nsIn K mainGlobals "law" = some (some (.ref f16)))
    (l16 : K.lookup f16 = some ⟨oc16, od16, .func (PySem.W.fnOf "law" "law" (defArgs s_law) (defBody s_law) (defScope s_law) .none kV16 dc16 pm16 an16 cd16 ct16), sl16⟩)
    (c16 : PySem.W.codeIn K cd16 "law" = true) (k16 : PySem.W.keepIn K (.ref f16) = true) :
    ∃ (a : Adr) (fd : FuncData), Txt K mg a ∧ Fun K "law" "law" s_law fa fd ∧ ∀ (s : Shared) (v : Value), BindsTo s fd ⟨[v], []⟩ [("_law_script", v)] := by
  have e := hfa.symm.trans (PySem.W.mg_of X G a16)
  cases e
  refine ⟨⟨0, 0, 0, 0, 0, 0, 0, 0, 0, 0, 0, 0, 0, 0, 0, 0, 0, 0, C_FrameError, 0, 0, 0, C_Table, 0, 0, C_Astray, 0, 0, 0, 0, 0, 0⟩, _, ?_, fun_mk (st := s_law) l16 c16 k16, fun s v => .of_eq rfl⟩
  exact {
    z_ValueError := PySem.W.mg_none_of X G z_ValueError
    z_dict := PySem.W.mg_none_of X G z_dict
    z_int := PySem.W.mg_none_of X G z_int
    z_isinstance := PySem.W.mg_none_of X G z_isinstance
    z_len := PySem.W.mg_none_of X G z_len
    z_list := PySem.W.mg_none_of X G z_list
    z_max := PySem.W.mg_none_of X G z_max
    z_range := PySem.W.mg_none_of X G z_range
    g_FIRST_CELL_BIT := ⟨_, PySem.W.mg_of X G g_FIRST_CELL_BIT⟩
    g_MOST_CALLERS := ⟨_, PySem.W.mg_of X G g_MOST_CALLERS⟩
    c_Astray := PySem.W.mg_of X G c_Astray
    c_FrameError := PySem.W.mg_of X G c_FrameError
    c_Table := PySem.W.mg_of X G c_Table
    cl_Table := ⟨pg_Table, hd_Table, po_Table, sa_Table⟩
    n_Table_entries := n_Table_entries
    n_Table_landings := n_Table_landings
    i_Table := ⟨_, _, funD_mk2 (st := s_Table_init) l1 d1 c1 k1, ⟨mk_Table, a1, i1, kc_Table⟩, bindsF (funD_mk2 (st := s_Table_init) l1 d1 c1 k1) (ps := ["self", "entries", "landings"]) fun _ _ _ _ _ _ _ us hl => match us, hl with | [_, _, _], _ => ⟨_, rfl, rfl⟩, (funD_mk2 (st := s_Table_init) l1 d1 c1 k1).bindsD (ps := ["self", "entries", "landings"]) fun _ _ _ _ _ _ _ us hl => match us, hl with | [_, _], _ => ⟨_, rfl, rfl⟩⟩
    xi_Astray := ⟨_, _, fun_mk (st := s_Astray_init) l2 c2 k2, ⟨PySem.W.mg_of X G c_Astray, xw_Astray⟩, (fun_mk (st := s_Astray_init) l2 c2 k2).binds (ps := ["self", "row"]) fun _ _ _ _ _ _ us hl => match us, hl with | [_, _], _ => rfl⟩
    xo_Astray := ⟨_, PySem.W.mg_of X G c_Astray, xw_Astray⟩
    xk_Astray := ⟨xa_Astray, xb_Astray, xc_Astray, xd_Astray, xf_Astray, xg_Astray, xh_Astray, xi_Astray⟩
    xs_Astray := ⟨xj_Astray, xl_Astray, xm_Astray, xn_Astray⟩
    xn_Astray := xm_Astray
    xh_Astray := xn_Astray
    xb_FrameError := ⟨PySem.W.mg_of X G c_FrameError, xp_Astray, xq_Astray, xr_Astray⟩
    is_Astray_FrameError := is_Astray_FrameError
    is_Astray_ValueError := is_Astray_ValueError
    fn_sets_of := ⟨_, _, fun_mk (st := s_sets_of) l3 c3 k3, PySem.W.mg_of X G a3, (fun_mk (st := s_sets_of) l3 c3 k3).binds (ps := ["entry"]) fun _ _ _ _ _ _ us hl => match us, hl with | [_], _ => rfl⟩
    fn_lowest_place := ⟨_, _, fun_mk (st := s_lowest_place) l4 c4 k4, PySem.W.mg_of X G a4, (fun_mk (st := s_lowest_place) l4 c4 k4).binds (ps := ["places"]) fun _ _ _ _ _ _ us hl => match us, hl with | [_], _ => rfl⟩
    fn_looked_up := ⟨_, _, fun_mk (st := s_looked_up) l5 c5 k5, PySem.W.mg_of X G a5, (fun_mk (st := s_looked_up) l5 c5 k5).binds (ps := ["places", "known", "piece"]) fun _ _ _ _ _ _ us hl => match us, hl with | [_, _, _], _ => rfl⟩
    fn_newest_caller := ⟨_, _, fun_mk (st := s_newest_caller) l6 c6 k6, PySem.W.mg_of X G a6, (fun_mk (st := s_newest_caller) l6 c6 k6).binds (ps := ["entries", "at", "known", "pile"]) fun _ _ _ _ _ _ us hl => match us, hl with | [_, _, _, _], _ => rfl⟩
    fn_callers := ⟨_, _, fun_mk (st := s_callers) l7 c7 k7, PySem.W.mg_of X G a7, (fun_mk (st := s_callers) l7 c7 k7).binds (ps := ["table", "row", "boxes", "pile"]) fun _ _ _ _ _ _ us hl => match us, hl with | [_, _, _, _], _ => rfl⟩
    fn_law_cell_at := ⟨_, _, fun_mk (st := s_law_cell_at) l8 c8 k8, PySem.W.mg_of X G a8, (fun_mk (st := s_law_cell_at) l8 c8 k8).binds (ps := ["_law_script", "_law_k"]) fun _ _ _ _ _ _ us hl => match us, hl with | [_, _], _ => rfl⟩
    fn_law_cell := ⟨_, _, fun_mk (st := s_law_cell) l9 c9 k9, PySem.W.mg_of X G a9, (fun_mk (st := s_law_cell) l9 c9 k9).binds (ps := ["_law_cell_here", "_law_many"]) fun _ _ _ _ _ _ us hl => match us, hl with | [_, _], _ => rfl⟩
    fn_law_set := ⟨_, _, fun_mk (st := s_law_set) l10 c10 k10, PySem.W.mg_of X G a10, (fun_mk (st := s_law_set) l10 c10 k10).binds (ps := ["_law_cell_here", "_law_height"]) fun _ _ _ _ _ _ us hl => match us, hl with | [_, _], _ => rfl⟩
    fn_law_entry := ⟨_, _, fun_mk (st := s_law_entry) l11 c11 k11, PySem.W.mg_of X G a11, (fun_mk (st := s_law_entry) l11 c11 k11).binds (ps := ["_law_cell_here"]) fun _ _ _ _ _ _ us hl => match us, hl with | [_], _ => rfl⟩
    fn_law_value := ⟨_, _, fun_mk (st := s_law_value) l12 c12 k12, PySem.W.mg_of X G a12, (fun_mk (st := s_law_value) l12 c12 k12).binds (ps := ["_law_places", "_law_entry_here", "_law_boxes", "_law_pile", "_law_length"]) fun _ _ _ _ _ _ us hl => match us, hl with | [_, _, _, _, _], _ => rfl⟩
    fn_law_up := ⟨_, _, fun_mk (st := s_law_up) l13 c13 k13, PySem.W.mg_of X G a13, (fun_mk (st := s_law_up) l13 c13 k13).binds (ps := ["_law_entry_here", "_law_boxes", "_law_pile", "_law_length"]) fun _ _ _ _ _ _ us hl => match us, hl with | [_, _, _, _], _ => rfl⟩
    fn_law_due := ⟨_, _, fun_mk (st := s_law_due) l14 c14 k14, PySem.W.mg_of X G a14, (fun_mk (st := s_law_due) l14 c14 k14).binds (ps := ["_law_entries", "_law_row", "_law_boxes", "_law_pile"]) fun _ _ _ _ _ _ us hl => match us, hl with | [_, _, _, _], _ => rfl⟩
    fn_law_told := ⟨_, _, fun_mk (st := s_law_told) l15 c15 k15, PySem.W.mg_of X G a15, (fun_mk (st := s_law_told) l15 c15 k15).binds (ps := ["_law_table", "_law_row", "_law_boxes", "_law_pile"]) fun _ _ _ _ _ _ us hl => match us, hl with | [_, _, _, _], _ => rfl⟩
    fn_law := ⟨_, _, fun_mk (st := s_law) l16 c16 k16, PySem.W.mg_of X G a16, (fun_mk (st := s_law) l16 c16 k16).binds (ps := ["_law_script"]) fun _ _ _ _ _ _ us hl => match us, hl with | [_], _ => rfl⟩ }
theorem walk {l : PySem.W.OpenLaw} {q : Program} {loose : List Str} {XP : (Str → Option Value) → Heap → Prop} {YP : World → Heap → Prop} {d : DefRec} {K : Params → PySem.W.Frag} (hn : l.most = some 63) (hdf : d.params.defaults = [])
    (hY : ∀ (w : World) (h : Heap), YP w h → (K w.params).In h)
    (F : ∀ (w : World) (mg : Str → Option Value) (fa : Addr) (h : Heap), (K w.params).In h → h.Ns mainGlobals mg → mg d.name = some (.ref fa) →
      ∃ fd : FuncData, (∀ (s : Shared) (u : Value), BindsTo s fd ⟨[u], []⟩ [("_law_script", u)]) ∧ ∀ base : Heap, (K w.params).In base → base.Ns mainGlobals mg → FnOk l.prog w (K w.params) mg base CX0 6 fa fd ["_law_script"] (spLaw (K w.params))) :
    PySem.W.WalkO q loose XP YP l.row.toRowW d [] (fun f vs => PySem.call f vs) :=
  L2.walk_of (n := 63) (k := 6) (x := "_law_script") (CX := fun _ => CX0) (sp := fun w => spLaw (K w.params)) hn (by decide) hdf ⟨rfl, by decide, by decide⟩ hY F (fun _ _ a ns hl _ hS => ⟨a, ns, rfl, hS, hl, fun _ => rfl⟩) fun _ _ _ _ _ z => z
end FB
open PySem PySem.W PyProof.Rows
set_option maxRecDepth 100000 in
set_option maxHeartbeats 0 in
theorem PySem.Challenge.cw_frameback_k22_astray_holds : PySem.Challenge.rw_frameback_k22_astray.Holds := by
  w_on; o_law; k_head; (case hw => w_witness2)
  k_fill
  refine FB.walk (l := PySem.Challenge.rw_frameback_k22_astray) rfl rfl (fun w h Y => PySem.W.kIn_of Y) ?F
  case F =>
    intro w mg fa h KX G hmg
    have T : ∃ (a : FB.Adr) (fd : FuncData), FB.Txt (L2.KOf KX) mg a ∧ L2.Fun (L2.KOf KX) "law" "law" FB.s_law fa fd ∧ ∀ (s : Shared) (v : Value), BindsTo s fd ⟨[v], []⟩ [("_law_script", v)] := by
      dsimp only [L2.KOf]
      refine' FB.txt_mk KX G hmg ?z_ValueError ?z_dict ?z_int ?z_isinstance ?z_len ?z_list ?z_max ?z_range ?g_FIRST_CELL_BIT ?g_MOST_CALLERS ?c_Astray ?c_FrameError ?c_Table ?pg_Table ?hd_Table ?po_Table ?sa_Table ?mk_Table ?kc_Table ?n_Table_entries ?n_Table_landings ?a1 ?i1 ?l1 ?d1 ?c1 ?k1 ?a2 ?i2 ?l2 ?c2 ?k2 ?xw_Astray ?xa_Astray ?xb_Astray ?xc_Astray ?xd_Astray ?xf_Astray ?xg_Astray ?xh_Astray ?xi_Astray ?xj_Astray ?xl_Astray ?xm_Astray ?xn_Astray ?xp_Astray ?xq_Astray ?xr_Astray ?is_Astray_FrameError ?is_Astray_ValueError ?a3 ?l3 ?c3 ?k3 ?a4 ?l4 ?c4 ?k4 ?a5 ?l5 ?c5 ?k5 ?a6 ?l6 ?c6 ?k6 ?a7 ?l7 ?c7 ?k7 ?a8 ?l8 ?c8 ?k8 ?a9 ?l9 ?c9 ?k9 ?a10 ?l10 ?c10 ?k10 ?a11 ?l11 ?c11 ?k11 ?a12 ?l12 ?c12 ?k12 ?a13 ?l13 ?c13 ?k13 ?a14 ?l14 ?c14 ?k14 ?a15 ?l15 ?c15 ?k15 ?a16 ?l16 ?c16 ?k16
      (case z_ValueError => first | k_is | kit_is | rfl | kernel_rfl)
      (case z_dict => first | k_is | kit_is | rfl | kernel_rfl)
      (case z_int => first | k_is | kit_is | rfl | kernel_rfl)
      (case z_isinstance => first | k_is | kit_is | rfl | kernel_rfl)
      (case z_len => first | k_is | kit_is | rfl | kernel_rfl)
      (case z_list => first | k_is | kit_is | rfl | kernel_rfl)
      (case z_max => first | k_is | kit_is | rfl | kernel_rfl)
      (case z_range => first | k_is | kit_is | rfl | kernel_rfl)
      (case g_FIRST_CELL_BIT => first | k_is | kit_is | rfl | kernel_rfl)
      (case g_MOST_CALLERS => first | k_is | kit_is | rfl | kernel_rfl)
      (case c_Astray => first | k_is | kit_is | rfl | kernel_rfl)
      (case c_FrameError => first | k_is | kit_is | rfl | kernel_rfl)
      (case c_Table => first | k_is | kit_is | rfl | kernel_rfl)
      (case pg_Table => first | k_is | kit_is | rfl | kernel_rfl)
      (case hd_Table => first | k_is | kit_is | rfl | kernel_rfl)
      (case po_Table => first | k_is | kit_is | rfl | kernel_rfl)
      (case sa_Table => first | k_is | kit_is | rfl | kernel_rfl)
      (case mk_Table => first | k_is | kit_is | rfl | kernel_rfl)
      (case kc_Table => first | k_is | kit_is | rfl | kernel_rfl)
      (case n_Table_entries => first | k_is | kit_is | rfl | kernel_rfl)
      (case n_Table_landings => first | k_is | kit_is | rfl | kernel_rfl)
      (case a1 => first | k_is | kit_is | rfl | kernel_rfl)
      (case i1 => first | k_is | kit_is | rfl | kernel_rfl)
      (case l1 => first | k_is | kit_is | rfl | kernel_rfl)
      (case d1 => first | k_is | kit_is | rfl | kernel_rfl)
      (case c1 => first | k_is | kit_is | rfl | kernel_rfl)
      (case k1 => first | k_is | kit_is | rfl | kernel_rfl)
      (case a2 => first | k_is | kit_is | rfl | kernel_rfl)
      (case i2 => first | k_is | kit_is | rfl | kernel_rfl)
      (case l2 => first | k_is | kit_is | rfl | kernel_rfl)
      (case c2 => first | k_is | kit_is | rfl | kernel_rfl)
      (case k2 => first | k_is | kit_is | rfl | kernel_rfl)
      (case xw_Astray => first | k_is | kit_is | rfl | kernel_rfl)
      (case xa_Astray => first | k_is | kit_is | rfl | kernel_rfl)
      (case xb_Astray => first | k_is | kit_is | rfl | kernel_rfl)
      (case xc_Astray => first | k_is | kit_is | rfl | kernel_rfl)
      (case xd_Astray => first | k_is | kit_is | rfl | kernel_rfl)
      (case xf_Astray => first | k_is | kit_is | rfl | kernel_rfl)
      (case xg_Astray => first | k_is | kit_is | rfl | kernel_rfl)
      (case xh_Astray => first | k_is | kit_is | rfl | kernel_rfl)
      (case xi_Astray => first | k_is | kit_is | rfl | kernel_rfl)
      (case xj_Astray => first | k_is | kit_is | rfl | kernel_rfl)
      (case xl_Astray => first | k_is | kit_is | rfl | kernel_rfl)
      (case xm_Astray => first | k_is | kit_is | rfl | kernel_rfl)
      (case xn_Astray => first | k_is | kit_is | rfl | kernel_rfl)
      (case xp_Astray => first | k_is | kit_is | rfl | kernel_rfl)
      (case xq_Astray => first | k_is | kit_is | rfl | kernel_rfl)
      (case xr_Astray => first | k_is | kit_is | rfl | kernel_rfl)
      (case is_Astray_FrameError => first | k_is | kit_is | rfl | kernel_rfl)
      (case is_Astray_ValueError => first | k_is | kit_is | rfl | kernel_rfl)
      (case a3 => first | k_is | kit_is | rfl | kernel_rfl)
      (case l3 => first | k_is | kit_is | rfl | kernel_rfl)
      (case c3 => first | k_is | kit_is | rfl | kernel_rfl)
      (case k3 => first | k_is | kit_is | rfl | kernel_rfl)
      (case a4 => first | k_is | kit_is | rfl | kernel_rfl)
      (case l4 => first | k_is | kit_is | rfl | kernel_rfl)
      (case c4 => first | k_is | kit_is | rfl | kernel_rfl)
      (case k4 => first | k_is | kit_is | rfl | kernel_rfl)
      (case a5 => first | k_is | kit_is | rfl | kernel_rfl)
      (case l5 => first | k_is | kit_is | rfl | kernel_rfl)
      (case c5 => first | k_is | kit_is | rfl | kernel_rfl)
      (case k5 => first | k_is | kit_is | rfl | kernel_rfl)
      (case a6 => first | k_is | kit_is | rfl | kernel_rfl)
      (case l6 => first | k_is | kit_is | rfl | kernel_rfl)
      (case c6 => first | k_is | kit_is | rfl | kernel_rfl)
      (case k6 => first | k_is | kit_is | rfl | kernel_rfl)
      (case a7 => first | k_is | kit_is | rfl | kernel_rfl)
      (case l7 => first | k_is | kit_is | rfl | kernel_rfl)
      (case c7 => first | k_is | kit_is | rfl | kernel_rfl)
      (case k7 => first | k_is | kit_is | rfl | kernel_rfl)
      (case a8 => first | k_is | kit_is | rfl | kernel_rfl)
      (case l8 => first | k_is | kit_is | rfl | kernel_rfl)
      (case c8 => first | k_is | kit_is | rfl | kernel_rfl)
      (case k8 => first | k_is | kit_is | rfl | kernel_rfl)
      (case a9 => first | k_is | kit_is | rfl | kernel_rfl)
      (case l9 => first | k_is | kit_is | rfl | kernel_rfl)
      (case c9 => first | k_is | kit_is | rfl | kernel_rfl)
      (case k9 => first | k_is | kit_is | rfl | kernel_rfl)
      (case a10 => first | k_is | kit_is | rfl | kernel_rfl)
      (case l10 => first | k_is | kit_is | rfl | kernel_rfl)
      (case c10 => first | k_is | kit_is | rfl | kernel_rfl)
      (case k10 => first | k_is | kit_is | rfl | kernel_rfl)
      (case a11 => first | k_is | kit_is | rfl | kernel_rfl)
      (case l11 => first | k_is | kit_is | rfl | kernel_rfl)
      (case c11 => first | k_is | kit_is | rfl | kernel_rfl)
      (case k11 => first | k_is | kit_is | rfl | kernel_rfl)
      (case a12 => first | k_is | kit_is | rfl | kernel_rfl)
      (case l12 => first | k_is | kit_is | rfl | kernel_rfl)
      (case c12 => first | k_is | kit_is | rfl | kernel_rfl)
      (case k12 => first | k_is | kit_is | rfl | kernel_rfl)
      (case a13 => first | k_is | kit_is | rfl | kernel_rfl)
      (case l13 => first | k_is | kit_is | rfl | kernel_rfl)
      (case c13 => first | k_is | kit_is | rfl | kernel_rfl)
      (case k13 => first | k_is | kit_is | rfl | kernel_rfl)
      (case a14 => first | k_is | kit_is | rfl | kernel_rfl)
      (case l14 => first | k_is | kit_is | rfl | kernel_rfl)
      (case c14 => first | k_is | kit_is | rfl | kernel_rfl)
      (case k14 => first | k_is | kit_is | rfl | kernel_rfl)
      (case a15 => first | k_is | kit_is | rfl | kernel_rfl)
      (case l15 => first | k_is | kit_is | rfl | kernel_rfl)
      (case c15 => first | k_is | kit_is | rfl | kernel_rfl)
      (case k15 => first | k_is | kit_is | rfl | kernel_rfl)
      (case a16 => first | k_is | kit_is | rfl | kernel_rfl)
      (case l16 => first | k_is | kit_is | rfl | kernel_rfl)
      (case c16 => first | k_is | kit_is | rfl | kernel_rfl)
      (case k16 => first | k_is | kit_is | rfl | kernel_rfl)
    obtain ⟨a, fd, T, FF, B⟩ := T
    exact ⟨fd, B, fun base _ _ => FB.law_fn T FF⟩
