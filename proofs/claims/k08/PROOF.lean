import PyProof.Rows.All
import Wide.All
import OpenK.AllK
import Wide.FinOn
import Lean
import PyProof.EqAt
import PyProof.EqKinds
import PyProof.TupleCall
import PySem.Challenge.RW_frameback_k08_rows_told_and_laid
set_option Elab.async false
set_option linter.all false
set_option maxRecDepth 100000

namespace L2
open PySem PySem.Spec PyProof.Rows


abbrev Key := Sum Int Str
def keyIs : Key → Value → Bool
  | .inl k, v => Value.isInt k v
  | .inr x, v => Value.isStrOf x v
def keyH (w : World) : Key → Int
  | .inl k => hashInt k
  | .inr x => hashStr w x
theorem keyIs_shape : ∀ {k : Key} {v : Value}, keyIs k v = true → (∃ i t, k = Sum.inl i ∧ v = Value.int i t) ∨ (∃ x t, k = Sum.inr x ∧ v = Value.str x t)
  | .inl i, v, h => by
    obtain ⟨t, e⟩ := Value.isInt_shape (k := i) (v := v) h
    exact .inl ⟨i, t, rfl, e⟩
  | .inr x, v, h => by
    obtain ⟨t, e⟩ := Value.isStrOf_shape (x := x) (v := v) h
    exact .inr ⟨x, t, rfl, e⟩
theorem key_ll (a b : Int) : decide ((Sum.inl a : Key) = Sum.inl b) = (a == b) := by
  by_cases e : a = b
  · subst e; simp
  · have h : ¬ (Sum.inl a : Key) = Sum.inl b := fun q => e (Sum.inl.inj q)
    rw [decide_eq_false h]
    exact (beq_eq_false_iff_ne.mpr e).symm
theorem key_rr (a b : Str) : decide ((Sum.inr a : Key) = Sum.inr b) = decide (a = b) := by
  by_cases e : a = b
  · subst e; simp
  · have h : ¬ (Sum.inr a : Key) = Sum.inr b := fun q => e (Sum.inr.inj q)
    rw [decide_eq_false h, decide_eq_false e]
theorem key_lr (a : Int) (b : Str) : decide ((Sum.inl a : Key) = Sum.inr b) = false := decide_eq_false (fun q => nomatch q)
theorem key_rl (a : Str) (b : Int) : decide ((Sum.inr a : Key) = Sum.inl b) = false := decide_eq_false (fun q => nomatch q)

def mixKind (prog : Program) (w : World) : PySem.KeyKind prog w Key where
  is := keyIs
  hash := keyH w
  inj := fun v a b ha hb => by
    rcases keyIs_shape ha with ⟨i, t, rfl, rfl⟩ | ⟨x, t, rfl, rfl⟩
    · rcases keyIs_shape hb with ⟨j, u, rfl, e⟩ | ⟨y, u, rfl, e⟩
      · injection e with e1 _; rw [e1]
      · exact nomatch e
    · rcases keyIs_shape hb with ⟨j, u, rfl, e⟩ | ⟨y, u, rfl, e⟩
      · exact nomatch e
      · injection e with e1 _; rw [e1]
  byValue := fun k v h => by
    rcases keyIs_shape h with ⟨i, t, rfl, rfl⟩ | ⟨x, t, rfl, rfl⟩ <;> rfl
  pyHash := fun hv h => by
    rcases keyIs_shape hv with ⟨i, t, rfl, rfl⟩ | ⟨x, t, rfl, rfl⟩
    · exact wpAny_pyHash_int h
    · exact wpAny_pyHash_str h
  eqBool := fun hu hv h => by
    rcases keyIs_shape hu with ⟨i, t, rfl, rfl⟩ | ⟨x, t, rfl, rfl⟩
    · rcases keyIs_shape hv with ⟨j, u, rfl, rfl⟩ | ⟨y, u, rfl, rfl⟩
      · rw [key_ll] at h; exact wpAny_eqBool_int h
      · rw [key_lr] at h; exact SeqAt.EqAt.int_str i t y u _ _ _ _ h
    · rcases keyIs_shape hv with ⟨j, u, rfl, rfl⟩ | ⟨y, u, rfl, rfl⟩
      · rw [key_rl] at h; exact SeqAt.EqAt.str_int x t j u _ _ _ _ h
      · rw [key_rr] at h; exact wpAny_eqBool_str h
  «strs» := fun k x t v h => by
    rcases keyIs_shape h with ⟨i, u, rfl, e⟩ | ⟨y, u, rfl, e⟩
    · exact nomatch e
    · injection e with e1 _
      subst e1
      cases v <;> rfl

end L2

namespace L2
open PySem PySem.Spec PyProof.Rows


inductive V where
  | non | bl (b : Bool) | int (i : Int) | str (x : Str) | byt (b : Array UInt8) | flt (b : UInt64) | ref (a : Addr) | ty (n : String)
  deriving DecidableEq

def RelV : V → Value → Prop
  | .non, u => u = Value.none
  | .bl b, u => u = Value.bool b
  | .int i, u => ∃ t, u = Value.int i t
  | .str x, u => ∃ t, u = Value.str x t
  | .byt b, u => ∃ t, u = Value.bytes b t
  | .flt b, u => ∃ t, u = Value.float b t
  | .ref a, u => u = Value.ref a
  | .ty n, u => u = Value.type n

abbrev Vals : List V → List Value → Prop := Paired RelV
theorem Vals.length {xs : List V} {us : List Value} (r : Vals xs us) : xs.length = us.length := Paired.length r
theorem Vals.get : ∀ {xs : List V} {us : List Value} {i : Nat} {x : V}, Vals xs us → xs[i]? = some x → ∃ u, us[i]? = some u ∧ RelV x u
  | _, _, _, _, .nil, e => by simp at e
  | _, _, 0, _, .cons r _, e => by simp at e; subst e; exact ⟨_, rfl, r⟩
  | _, _, i + 1, x, .cons _ t, e => by
    obtain ⟨u, h1, h2⟩ := Vals.get (i := i) (x := x) t (by simpa using e)
    exact ⟨u, by simpa using h1, h2⟩
theorem Vals.append : ∀ {xs ys : List V} {us ws : List Value}, Vals xs us → Vals ys ws → Vals (xs ++ ys) (us ++ ws)
  | _, _, _, _, .nil, s => s
  | _, _, _, _, .cons r t, s => .cons r (Vals.append t s)
theorem Vals.take : ∀ {xs : List V} {us : List Value} (n : Nat), Vals xs us → Vals (xs.take n) (us.take n)
  | _, _, 0, _ => .nil
  | _, _, _ + 1, .nil => .nil
  | _, _, n + 1, .cons r t => .cons r (Vals.take n t)
theorem Vals.drop : ∀ {xs : List V} {us : List Value} (n : Nat), Vals xs us → Vals (xs.drop n) (us.drop n)
  | _, _, 0, r => r
  | _, _, _ + 1, .nil => .nil
  | _, _, n + 1, .cons _ t => Vals.drop n t
def RelO : Option V → Option Value → Prop
  | some v, some u => RelV v u
  | none, none => True
  | _, _ => False
def KV {κ : Type} : List (κ × V) → List (κ × Value) → Prop := Paired fun (p : κ × V) (q : κ × Value) => p.1 = q.1 ∧ RelV p.2 q.2


def kV : Key → V
  | .inl i => .int i
  | .inr x => .str x


inductive HO where
  
  | lst (xs : List V)
  
  | tup (xs : List V)
  
  | dK (kvs : List (Key × V)) | dT (kvs : List (List Key × V))
  
  | set (S : Int → Bool) (n : Nat)
  
  | ins (C dx : Addr) (fs : List (Str × V))
  
  | own (x : Addr)
  
  | xd (fs : List (Str × V))
  
  | met (f x : Addr)
  
  | rng (lo hi : Int)
  
  | frz (o : Obj) (u : HO)
  
  | tbl (ps : Array Value)
  
  | ext (φ : Heap → Prop)

abbrev Hp := Addr → Option HO
def upd (H : Hp) (a : Addr) (o : HO) : Hp := fun b => if b = a then some o else H b
theorem upd_same {H : Hp} {a : Addr} {o : HO} : upd H a o a = some o := by unfold upd; rw [if_pos rfl]
theorem upd_ne {H : Hp} {a b : Addr} {o : HO} (h : b ≠ a) : upd H a o b = H b := by unfold upd; rw [if_neg h]
theorem ne_of_none {H : Hp} {a b : Addr} {o : HO} (h : H a = some o) (h' : H b = none) : a ≠ b := by
  intro e; subst e; rw [h] at h'; cases h'

section
variable (P : Program) (w : World)
def ObjOk (H : Hp) (h : Heap) (a : Addr) : HO → Prop
  | .lst xs => xs.length ≤ sizeLine ∧ ∃ (its : List Value) (n : Nat), Vals xs its ∧ h.get? a = some { cls := .type "list", data := .seq its.toArray n }
  | .tup xs => xs.length ≤ sizeLine ∧ ∃ its : List Value, Vals xs its ∧ IsTup h a its.toArray
  | .dK kvs => kvs.length ≤ sizeLine ∧ (a == sysModules) = false ∧ ∃ vs, KV kvs vs ∧ h.DictOf (mixKind P w) a vs
  | .dT kvs => kvs.length ≤ sizeLine ∧ (a == sysModules) = false ∧ ∃ xs : List (List Key × Addr × Value),
      Paired (fun (p : List Key × V) (q : List Key × Addr × Value) => p.1 = q.1 ∧ H q.2.1 = some (.tup (p.1.map kV)) ∧ RelV p.2 q.2.2) kvs xs ∧
      ∃ o es ep, h.get? a = some o ∧ o.ExactDict ∧ o.data = .dict es ep ∧ es.toList = xs.map (entryOfKey (tupleKind (mixKind P w))) ∧ (xs.map (·.1)).Nodup
  | .set S n => h.SetOf (intKind P w) a S n
  | .ins C dx fs => H dx = some (.own a) ∧ fs.length ≤ 1000 ∧ dx ≠ a ∧ h.get? a = some (PySem.W.instObj C dx) ∧
      ∃ mA, h.Ns1 dx mA ∧ (∀ f, RelO (fs.lookup f) (mA f)) ∧ PySem.Within mA (fs.map (·.1))
  | .own _ => ∃ o, h.get? a = some o
  | .xd fs => ∃ mA, h.Ns1 a mA ∧ ∀ f, RelO (fs.lookup f) (mA f)
  | .rng lo hi => ∃ t u v, h.get? a = some { cls := .type "range", data := .fields #[.int lo t, .int hi u, .int 1 v] }
  | .frz o u => h.get? a = some o ∧ ObjOk H h a u
  | .tbl ps => h.get? a = some { cls := .none, data := .fields ps }
  | .met f x => h.get? a = some (PySem.W.methodObj (.ref f) (.ref x))
  | .ext φ => φ h ∧ (∃ o, h.get? a = some o) ∧ ∀ h1 h2 : Heap, φ h1 → (∀ o, h1.get? a = some o → h2.get? a = some o) → φ h2

def HOk (H : Hp) (h : Heap) : Prop := ∀ a o, H a = some o → ObjOk P w H h a o
end

section
variable {P : Program} {w : World} {H H' : Hp} {h h' : Heap} {a : Addr} {o : HO}
theorem ObjOk.lt (x : ObjOk P w H h a o) : a < h.objs.size := by
  cases o with
  | lst xs => obtain ⟨_, _, _, _, e⟩ := x; exact Heap.lt_size e
  | tup xs => obtain ⟨_, _, _, p⟩ := x; exact p.lt
  | dK kvs => obtain ⟨_, _, _, _, o, _, _, e, _⟩ := x; exact Heap.lt_size e
  | dT kvs => obtain ⟨_, _, _, _, o, _, _, e, _⟩ := x; exact Heap.lt_size e
  | set S n => obtain ⟨o, _, _, _, e, _⟩ := x; exact Heap.lt_size e
  | ins C dx fs => obtain ⟨_, _, _, e, _⟩ := x; exact Heap.lt_size e
  | own y => obtain ⟨_, e⟩ := x; exact Heap.lt_size e
  | xd fs => obtain ⟨_, ⟨_, _, _, e, _⟩, _⟩ := x; exact Heap.lt_size e
  | rng lo hi => obtain ⟨_, _, _, e⟩ := x; exact Heap.lt_size e
  | frz ob u => obtain ⟨e, _⟩ := x; exact Heap.lt_size e
  | tbl ps => exact Heap.lt_size (show h.get? a = some _ from x)
  | met f y => exact Heap.lt_size (show h.get? a = some _ from x)
  | ext φ => obtain ⟨_, ⟨_, e⟩, _⟩ := x; exact Heap.lt_size e
theorem Paired.mapP {α β : Type} {F G : α → β → Prop} : ∀ {l₁ : List α} {l₂ : List β}, Paired F l₁ l₂ → (∀ a b, F a b → G a b) → Paired G l₁ l₂
  | _, _, .nil, _ => .nil
  | _, _, .cons r t, f => .cons (f _ _ r) (Paired.mapP t f)
theorem ObjOk.stay (x : ObjOk P w H h a o) (k : ∀ b u, (b = a ∨ H b = some (.own a)) → h.get? b = some u → h'.get? b = some u)
    (ho : ∀ b, H b = some (.own a) → H' b = some (.own a)) (ht : ∀ b xs, H b = some (.tup xs) → H' b = some (.tup xs)) : ObjOk P w H' h' a o := by
  induction o with
  | lst xs => obtain ⟨z, its, n, r, e⟩ := x; exact ⟨z, its, n, r, k _ _ (.inl rfl) e⟩
  | tup xs => obtain ⟨z, its, r, ob, e, c⟩ := x; exact ⟨z, its, r, ob, k _ _ (.inl rfl) e, c⟩
  | dK kvs => obtain ⟨z, y, vs, r, ob, es, ep, e, c⟩ := x; exact ⟨z, y, vs, r, ob, es, ep, k _ _ (.inl rfl) e, c⟩
  | dT kvs =>
    obtain ⟨z, y, xs, r, ob, es, ep, e, c⟩ := x
    exact ⟨z, y, xs, Paired.mapP r fun p q z => ⟨z.1, ht _ _ z.2.1, z.2.2⟩, ob, es, ep, k _ _ (.inl rfl) e, c⟩
  | set S n => obtain ⟨ob, es, ep, t, e, c⟩ := x; exact ⟨ob, es, ep, t, k _ _ (.inl rfl) e, c⟩
  | ins C dx fs =>
    obtain ⟨d, z, ne, e, mA, ⟨od, es, ep, e2, c⟩, r⟩ := x
    exact ⟨ho _ d, z, ne, k _ _ (.inl rfl) e, mA, ⟨od, es, ep, k _ _ (.inr d) e2, c⟩, r⟩
  | own y => obtain ⟨ob, e⟩ := x; exact ⟨ob, k _ _ (.inl rfl) e⟩
  | xd fs => obtain ⟨mA, ⟨od, es, ep, e, c⟩, r⟩ := x; exact ⟨mA, ⟨od, es, ep, k _ _ (.inl rfl) e, c⟩, r⟩
  | rng lo hi => obtain ⟨t, u, v, e⟩ := x; exact ⟨t, u, v, k _ _ (.inl rfl) e⟩
  | frz ob u ih => obtain ⟨e, q⟩ := x; exact ⟨k _ _ (.inl rfl) e, ih q⟩
  | tbl ps =>
    have e : h.get? a = some { cls := .none, data := .fields ps } := x
    show h'.get? a = some { cls := .none, data := .fields ps }
    exact k a _ (.inl rfl) e
  | met f y =>
    have e : h.get? a = some (PySem.W.methodObj (.ref f) (.ref y)) := x
    show h'.get? a = some (PySem.W.methodObj (.ref f) (.ref y))
    exact k a _ (.inl rfl) e
  | ext φ => obtain ⟨p, ⟨o, e⟩, st⟩ := x; exact ⟨st _ _ p fun o q => k _ _ (.inl rfl) q, ⟨o, k _ _ (.inl rfl) e⟩, st⟩
theorem HOk.lt (x : HOk P w H h) (e : H a = some o) : a < h.objs.size := (x a o e).lt
theorem HOk.fresh (x : HOk P w H h) (e : h.objs.size ≤ a) : H a = none := by
  cases q : H a with
  | none => rfl
  | some u => exact absurd (Nat.lt_of_lt_of_le (x.lt q) e) (Nat.lt_irrefl _)

theorem HOk.kept (x : HOk P w H h) (k : ∀ b u, h.get? b = some u → h'.get? b = some u) : HOk P w H h' := fun a o e =>
  (x a o e).stay (fun b u _ q => k b u q) (fun _ q => q) fun _ _ q => q

theorem HOk.laid (x : HOk P w H h) (k : ∀ b u, h.get? b = some u → h'.get? b = some u) (hp : h.objs.size ≤ a) (new : ObjOk P w (upd H a o) h' a o) : HOk P w (upd H a o) h' := fun b u e => by
  have hn := x.fresh hp
  by_cases hb : b = a
  · subst hb; rw [upd_same] at e; cases e; exact new
  · rw [upd_ne hb] at e
    exact (x b u e).stay (fun c v _ q => k c v q) (fun c q => by rw [upd_ne (ne_of_none q hn)]; exact q) fun c xs q => by rw [upd_ne (ne_of_none q hn)]; exact q
end


def Rd (H : Hp) (a : Addr) (u : HO) : Prop := H a = some u ∨ ∃ o, H a = some (.frz o u)
theorem Rd.ok {P : Program} {w : World} {H : Hp} {h : Heap} {a : Addr} {u : HO} (r : Rd H a u) (x : HOk P w H h) : ObjOk P w H h a u := by
  rcases r with r | ⟨o, r⟩
  · exact x a u r
  · obtain ⟨_, q⟩ := x a _ r
    exact q

def Mut : Option HO → Prop
  | some (.lst _) => True
  | some (.dK _) => True
  | some (.dT _) => True
  | some (.set _ _) => True
  | some (.ins _ _ _) => True
  | some (.ext _) => True
  | _ => False
section
variable {P : Program} {w : World} {H : Hp} {h h' : Heap} {x e : Addr} {o' : HO}

theorem HOk.write (ok : HOk P w H h) (mu : Mut (H x)) (he : e = x ∨ H e = some (.own x)) (k : ∀ b u, b ≠ e → h.get? b = some u → h'.get? b = some u) (heo : ∃ u, h'.get? e = some u)
    (new : ObjOk P w (upd H x o') h' x o') : HOk P w (upd H x o') h' := fun b u q => by
  have nown : ∀ c y, H c = some (.own y) → c ≠ x := fun c y r z => by subst z; rw [r] at mu; exact mu
  have ntup : ∀ c xs, H c = some (.tup xs) → c ≠ x := fun c xs r z => by subst z; rw [r] at mu; exact mu
  by_cases hb : b = x
  · subst hb; rw [upd_same] at q; cases q; exact new
  · rw [upd_ne hb] at q
    by_cases hbe : b = e
    · have q' : H b = some (.own x) := by
        rcases he with z | z
        · exact absurd (hbe.trans z) hb
        · rw [hbe]; exact z
      rw [q] at q'; cases q'
      obtain ⟨v, hv⟩ := heo
      exact ⟨v, by rw [hbe]; exact hv⟩
    · refine (ok b u q).stay (fun c v hc r => k c v ?_ r) (fun c r => by rw [upd_ne (nown c b r)]; exact r) fun c xs r => by rw [upd_ne (ntup c xs r)]; exact r
      rcases hc with rfl | hc
      · exact hbe
      · rintro rfl
        rcases he with z | z
        · exact nown c b hc z
        · rw [hc] at z; cases z; exact hb rfl
end


structure Un (fs ex : List Addr) (H H' : Hp) (h h' : Heap) : Prop where
  keep : ∀ b o, h.get? b = some o → H b = none → b ∉ fs → b ∉ ex → h'.get? b = some o
  slot : ∀ b o, h.get? b = some o → H b = none → b ∈ fs → b ∉ ex → ∃ sl, h'.get? b = some { o with slots := sl }
  free : ∀ b o, h.get? b = some o → H b = none → b ∉ ex → H' b = none
  there : ∀ b o, h.get? b = some o → b ∉ ex → ∃ o', h'.get? b = some o'
  tups : ∀ b xs, H b = some (.tup xs) → H' b = some (.tup xs)
  frzs : ∀ b o u, H b = some (.frz o u) → H' b = some (.frz o u)
  tbls : ∀ b ps, H b = some (.tbl ps) → ∃ more, H' b = some (.tbl (ps ++ more))
section
variable {fs fs' ex ex' : List Addr} {H H1 H2 : Hp} {h h1 h2 h' : Heap} {a x e : Addr} {o : HO}
theorem Un.any (u : Un fs ex H H1 h h1) {b : Addr} {ob : Obj} (q : h.get? b = some ob) (n : H b = none) (hx : b ∉ ex) : ∃ sl, h1.get? b = some { ob with slots := sl } := by
  by_cases hb : b ∈ fs
  · exact u.slot b ob q n hb hx
  · exact ⟨ob.slots, u.keep b ob q n hb hx⟩
theorem Un.kept (k : ∀ b u, h.get? b = some u → h'.get? b = some u) : Un fs ex H H h h' :=
  ⟨fun b ob q _ _ _ => k b ob q, fun b ob q _ _ _ => ⟨ob.slots, k b ob q⟩, fun _ _ _ n _ => n, fun b ob q _ => ⟨ob, k b ob q⟩, fun _ _ q => q, fun _ _ _ q => q, fun _ ps q => ⟨#[], by rw [q]; simp⟩⟩
theorem Un.refl : Un fs ex H H h h := Un.kept fun _ _ q => q
theorem Un.laid (k : ∀ b u, h.get? b = some u → h'.get? b = some u) (hp : h.objs.size ≤ a) (hn : H a = none) : Un fs ex H (upd H a o) h h' where
  keep := fun b u q _ _ _ => k b u q
  slot := fun b u q _ _ _ => ⟨u.slots, k b u q⟩
  free := fun b u q n _ => by rw [upd_ne (Nat.ne_of_lt (Nat.lt_of_lt_of_le (Heap.lt_size q) hp))]; exact n
  there := fun b u q _ => ⟨u, k b u q⟩
  tups := fun b xs q => by rw [upd_ne (ne_of_none q hn)]; exact q
  frzs := fun b u xs q => by rw [upd_ne (ne_of_none q hn)]; exact q
  tbls := fun b ps q => ⟨#[], by rw [upd_ne (ne_of_none q hn), q]; simp⟩
theorem Un.write (mu : Mut (H x)) (he : e = x ∨ H e = some (.own x)) (k : ∀ b u, b ≠ e → h.get? b = some u → h'.get? b = some u) (heo : ∃ u, h'.get? e = some u) : Un fs ex H (upd H x o) h h' := by
  have hx : ∀ b, H b = none → b ≠ x := fun b n z => by subst z; rw [n] at mu; exact mu
  have hb : ∀ b, H b = none → b ≠ e := fun b n z => by
    subst z
    rcases he with r | r
    · exact hx b n r
    · rw [n] at r; cases r
  have hm : ∀ b u, H b = some u → ¬ Mut (some u) → b ≠ x := fun b u q nm z => by subst z; rw [q] at mu; exact nm mu
  refine ⟨fun b u q n _ _ => k b u (hb b n) q, fun b u q n _ _ => ⟨u.slots, k b u (hb b n) q⟩, fun b u q n _ => by rw [upd_ne (hx b n)]; exact n, fun b u q _ => ?_,
    fun b xs q => by rw [upd_ne (hm b _ q fun z => z)]; exact q, fun b u xs q => by rw [upd_ne (hm b _ q fun z => z)]; exact q, fun b ps q => ⟨#[], by rw [upd_ne (hm b _ q fun z => z), q]; simp⟩⟩
  by_cases hbe : b = e
  · subst hbe; exact heo
  · exact ⟨u, k b u hbe q⟩
end


def trk (h : Heap) (H : Hp) : List Addr := (List.range h.objs.size).filter fun a => (H a).isSome
def hidT (h : Heap) (H : Hp) : Heap := PySem.W.hideAll h (trk h H)
theorem hidT_size (h : Heap) (H : Hp) : (hidT h H).objs.size = h.objs.size := PySem.W.hideAll_size _ _
theorem hidT_get {h : Heap} {H : Hp} {b : Addr} {o : Obj} (e : h.get? b = some o) (n : H b = none) : (hidT h H).get? b = some o :=
  PySem.W.hideAll_get _ e fun hm => by
    have q : (H b).isSome = true := (List.mem_filter.mp hm).2
    rw [n] at q; simp at q
theorem of_hidT {h : Heap} {H : Hp} {b : Addr} {o : Obj} (e : (hidT h H).get? b = some o) : h.get? b = some o ∧ H b = none := by
  have e' : h.get? b = some o := PySem.W.of_hideAll (trk h H) e
  refine ⟨e', ?_⟩
  cases q : H b with
  | none => rfl
  | some x =>
    have hm : b ∈ trk h H := List.mem_filter.mpr ⟨List.mem_range.mpr (Heap.lt_size e'), by simp [q]⟩
    have z : (hidT h H).get? b = none := PySem.W.hideAll_none (trk h H) hm
    rw [z] at e; cases e


end L2

namespace L2
open PySem PySem.Spec PyProof.Rows


structure Mod (K : PySem.W.Frag) (mg : Str → Option Value) (base : Heap) : Prop where
  kin : K.In base
  glob : base.Ns mainGlobals mg
  blt : ∃ mb, base.Ns builtinsNs mb ∧ ∀ x : Str, x ≠ "__name__" → mb x = bootBuiltins x
  nolimit : base.NoLimit


structure Cx where
  prog : Program
  w : World
  K : PySem.W.Frag
  mg : Str → Option Value
  base : Heap
  A : Around
  N : List Str
  s₀ : Shared
  H₀ : Hp
  env : Env
  outer : List Env
  stack : List Env
  ex : List Addr
  fn : Str → Bool
  calm : Bool
  pn : List (Addr × Obj)
  xe : Value → Shared → Prop

def frs (l : List Env) : List Addr := l.filterMap (·.frame)
abbrev Cx.fs (X : Cx) : List Addr := frs X.outer

def Vis (sc : Scope) (x : Str) : Prop := sc.names.lookup x = some .local ∨ sc.names.lookup x = some .cell ∨ sc.names.lookup x = some .free
def Loc (sc : Scope) (x : Str) : Prop := sc.names.lookup x = some .local ∨ sc.names.lookup x = some .cell
def Look (env : Env) (h : Heap) (m : Str → Option Value) (x : Str) (u : Value) : Prop :=
  (env.kindOf x = some .local ∧ m x = some u) ∨ ((env.kindOf x = some .cell ∨ env.kindOf x = some .free) ∧ ∃ c, env.cells.lookup x = some c ∧ h.IsCell c (some u))

structure Cx.Ok (X : Cx) : Prop where
  mod : Mod X.K X.mg X.base
  kind : X.env.scope.kind = .function
  glob : X.env.globals = mainGlobals
  blt : X.env.builtins = builtinsNs
  above : X.s₀.heap.objs.size ≤ X.env.locals
  inj : ∀ x y c, X.env.cells.lookup x = some c → X.env.cells.lookup y = some c → x = y
  has : ∀ x, (X.env.kindOf x = some .cell ∨ X.env.kindOf x = some .free) → ∃ c, X.env.cells.lookup x = some c
  cab : ∀ x c, X.fn x = true → X.env.cells.lookup x = some c → X.s₀.heap.objs.size ≤ c
  hd : X.calm = true → X.A.handled = none
  frames : X.A.frames = some X.stack
  stk : X.stack = X.outer ∨ (X.stack = X.env :: X.outer ∧ X.env.frame = some X.env.locals)
  exf : ∀ b ∈ X.ex, b ≠ X.env.locals ∧ ∀ x c, X.env.cells.lookup x = some c → c ≠ b
  bs : ∀ b o, X.base.get? b = some o → X.s₀.heap.get? b = some o ∧ X.H₀ b = none
  bsz : X.base.objs.size ≤ X.s₀.heap.objs.size
  noex : ∀ b o, X.base.get? b = some o → b ∉ X.ex
  exfs : ∀ b ∈ X.ex, b ∉ X.fs
  funs : X.s₀.heap.FunFrames X.base X.outer
  frf : ∀ b ∈ X.fs, X.H₀ b = none

structure Inv (X : Cx) (pins : List (Addr × Obj)) (σ : List (Option V)) (H : Hp) (s : Shared) : Prop where
  ok : X.Ok
  os : s.os = X.s₀.os
  bare : AllBare s.gens
  base : Un X.fs X.ex X.H₀ H X.s₀.heap s.heap
  loc : ∃ m, s.heap.Ns X.env.locals m ∧ ∀ (i : Nat) (x : Str) (v : V), X.N[i]? = some x → σ[i]? = some (some v) → Vis X.env.scope x → ∃ u, RelV v u ∧ Look X.env s.heap m x u
  cell : ∀ x c, X.env.cells.lookup x = some c → ∃ v, s.heap.IsCell c v
  free : H X.env.locals = none
  freeC : ∀ x c, X.env.cells.lookup x = some c → H c = none
  pin : ∀ p ∈ X.pn ++ pins, s.heap.get? p.1 = some p.2 ∧ H p.1 = none ∧ p.1 ≠ X.env.locals ∧ p.1 ∉ X.fs ∧ ∀ v, p.2.data ≠ .cell v
  hok : HOk X.prog X.w H s.heap
  len : σ.length = X.N.length

section
variable {X : Cx} {pins : List (Addr × Obj)} {σ : List (Option V)} {H H' : Hp} {s : Shared} {h' : Heap}

theorem Cx.Ok.nofr (ok : X.Ok) {b : Addr} {o : Obj} (e : X.base.get? b = some o) : b ∉ X.fs := fun hb => by
  have := (ok.funs.mem hb).1
  rw [e] at this; cases this
theorem Inv.bs (I : Inv X pins σ H s) : ∀ b o, X.base.get? b = some o → s.heap.get? b = some o ∧ H b = none := fun b o e =>
  ⟨I.base.keep b o (I.ok.bs b o e).1 (I.ok.bs b o e).2 (I.ok.nofr e) (I.ok.noex b o e), I.base.free b o (I.ok.bs b o e).1 (I.ok.bs b o e).2 (I.ok.noex b o e)⟩
theorem Inv.bk (I : Inv X pins σ H s) : ∀ b o, X.base.get? b = some o → s.heap.get? b = some o := fun b o e => (I.bs b o e).1
theorem Inv.mod (I : Inv X pins σ H s) : Mod X.K X.mg X.base := I.ok.mod
theorem Inv.kIn (I : Inv X pins σ H s) : X.K.In s.heap := I.ok.mod.kin.keeps I.bk
theorem Inv.lt (I : Inv X pins σ H s) : X.env.locals < s.heap.objs.size := let ⟨_, hn, _⟩ := I.loc; hn.lt
theorem Inv.sz (I : Inv X pins σ H s) : X.s₀.heap.objs.size ≤ s.heap.objs.size := Nat.le_trans I.ok.above (Nat.le_of_lt I.lt)
theorem Inv.nofs (I : Inv X pins σ H s) {a : Addr} (h : s.heap.objs.size ≤ a) : a ∉ X.fs := fun hb => by
  obtain ⟨_, o, ho, _⟩ := I.ok.funs.mem hb
  exact absurd (Nat.lt_of_lt_of_le (Heap.lt_size ho) (Nat.le_trans I.sz h)) (Nat.lt_irrefl _)
theorem Inv.cne (I : Inv X pins σ H s) : ∀ x c, X.env.cells.lookup x = some c → c ≠ X.env.locals := fun x c e z => by
  obtain ⟨v, o, ho, hd⟩ := I.cell x c e
  obtain ⟨m, ⟨o', es, ep, ho', hd', _⟩, _⟩ := I.loc
  rw [z, ho'] at ho; cases ho; rw [hd'] at hd; cases hd
theorem Inv.funs (I : Inv X pins σ H s) : s.heap.FunFrames X.base X.outer := by
  have all : ∀ (l : List Env), (∀ b ∈ frs l, b ∈ X.fs) → X.s₀.heap.FunFrames X.base l → s.heap.FunFrames X.base l := by
    intro l
    induction l with
    | nil => intro _ _; trivial
    | cons env r ih =>
      intro hs hl
      obtain ⟨hk, ⟨L, o, hf, hn, ho, hd⟩, hr⟩ := hl
      have hL : L ∈ X.fs := hs L (by unfold frs; rw [List.filterMap_cons, hf]; exact List.mem_cons_self)
      obtain ⟨sl, e⟩ := I.base.slot L o ho (I.ok.frf L hL) hL fun z => I.ok.exfs L z hL
      exact ⟨hk, ⟨L, _, hf, hn, e, hd⟩, ih (fun b hb => hs b (by unfold frs; rw [List.filterMap_cons, hf]; exact List.mem_cons_of_mem _ hb)) hr⟩
  exact all X.outer (fun _ hb => hb) I.ok.funs


theorem Inv.stack (I : Inv X pins σ H s) : s.heap.FunFrames X.base X.stack := by
  rcases I.ok.stk with e | ⟨e, hf⟩
  · rw [e]; exact I.funs
  · rw [e]
    obtain ⟨m, hn, _⟩ := I.loc
    refine .cons (by rw [I.ok.kind]; decide) hf hn ?_ I.funs
    exact Heap.get?_none_of_le (Nat.le_trans I.ok.bsz I.ok.above)
theorem Inv.stkSub (I : Inv X pins σ H s) : ∀ b ∈ frs X.stack, b ∈ X.env.locals :: X.fs := fun b hb => by
  rcases I.ok.stk with e | ⟨e, hf⟩
  · rw [e] at hb; exact List.mem_cons_of_mem _ hb
  · rw [e] at hb
    unfold frs at hb
    rw [List.filterMap_cons, hf] at hb
    exact hb
theorem Inv.stkFree (I : Inv X pins σ H s) : ∀ b ∈ frs X.stack, H b = none := fun b hb => by
  rcases List.mem_cons.mp (I.stkSub b hb) with e | hb
  · rw [e]; exact I.free
  · obtain ⟨_, o, ho, _⟩ := I.ok.funs.mem hb
    exact I.base.free b o ho (I.ok.frf b hb) fun z => I.ok.exfs b z hb


theorem Inv.step {g' : Array GenState} {t' : Nat} {d' : Drawn} {ch : List Addr} (I : Inv X pins σ H s)
    (hch : ∀ b ∈ ch, (b ∈ X.ex ∨ X.s₀.heap.objs.size ≤ b) ∧ b ≠ X.env.locals ∧ (∀ x c, X.env.cells.lookup x = some c → c ≠ b) ∧ ∀ p ∈ X.pn ++ pins, p.1 ≠ b)
    (keep : ∀ b o, b ≠ X.env.locals → b ∉ X.fs → b ∉ ch → s.heap.get? b = some o → H b = none → h'.get? b = some o)
    (slot : ∀ b o, b ≠ X.env.locals → b ∈ X.fs → b ∉ ch → s.heap.get? b = some o → H b = none → ∃ sl, h'.get? b = some { o with slots := sl }) (free : ∀ b o, b ∉ ch → s.heap.get? b = some o → H b = none → H' b = none)
    (there : ∀ b o, b ∉ ch → s.heap.get? b = some o → ∃ o', h'.get? b = some o')
    (tups : ∀ b xs, H b = some (.tup xs) → H' b = some (.tup xs)) (frzs : ∀ b o u, H b = some (.frz o u) → H' b = some (.frz o u)) (tbls : ∀ b ps, H b = some (.tbl ps) → ∃ more, H' b = some (.tbl (ps ++ more)))
    (ns : ∀ m, s.heap.Ns X.env.locals m → h'.Ns X.env.locals m) (hok : HOk X.prog X.w H' h') (hg : AllBare g') :
    Inv X pins σ H' { s with heap := h', gens := g', drawn := d', toks := t' } := by
  have neL : ∀ b o, X.s₀.heap.get? b = some o → b ≠ X.env.locals := fun b o e => Nat.ne_of_lt (Nat.lt_of_lt_of_le (Heap.lt_size e) I.ok.above)
  have neC : ∀ b o, X.s₀.heap.get? b = some o → b ∉ X.ex → b ∉ ch := fun b o e hx hb => by
    rcases (hch b hb).1 with z | z
    · exact hx z
    · exact absurd (Nat.lt_of_lt_of_le (Heap.lt_size e) z) (Nat.lt_irrefl _)
  have cellK : ∀ x c, X.env.cells.lookup x = some c → ∀ v, s.heap.IsCell c v → h'.IsCell c v := fun x c e v ⟨o, ho, hd⟩ => by
    have nch : c ∉ ch := fun z => (hch c z).2.2.1 x c e rfl
    by_cases hc : c ∈ X.fs
    · obtain ⟨sl, q⟩ := slot c o (I.cne x c e) hc nch ho (I.freeC x c e)
      exact ⟨_, q, hd⟩
    · exact ⟨o, keep c o (I.cne x c e) hc nch ho (I.freeC x c e), hd⟩
  refine ⟨I.ok, I.os, hg, ⟨fun b o e n hb hx => ?_, fun b o e n hb hx => ?_, fun b o e n hx => ?_, fun b o e hx => ?_, fun b xs e => tups b xs (I.base.tups b xs e), fun b o xs e => frzs b o xs (I.base.frzs b o xs e), fun b ps e => ?_⟩, ?_, fun x c e => ?_, ?_, fun x c e => ?_, fun p hp => ?_, hok, I.len⟩
  · exact keep b o (neL b o e) hb (neC b o e hx) (I.base.keep b o e n hb hx) (I.base.free b o e n hx)
  · obtain ⟨sl, e1⟩ := I.base.slot b o e n hb hx
    obtain ⟨sl', e2⟩ := slot b _ (neL b o e) hb (neC b o e hx) e1 (I.base.free b o e n hx)
    exact ⟨sl', e2⟩
  · obtain ⟨o', e1⟩ := I.base.there b o e hx
    exact free b o' (neC b o e hx) e1 (I.base.free b o e n hx)
  · obtain ⟨o', e1⟩ := I.base.there b o e hx
    exact there b o' (neC b o e hx) e1
  · obtain ⟨m1, e1⟩ := I.base.tbls b ps e
    obtain ⟨m2, e2⟩ := tbls b _ e1
    exact ⟨m1 ++ m2, by rw [e2, Array.append_assoc]⟩
  · obtain ⟨m, hn, hl⟩ := I.loc
    refine ⟨m, ns m hn, fun i x v e1 e2 e3 => ?_⟩
    obtain ⟨u, r, l⟩ := hl i x v e1 e2 e3
    refine ⟨u, r, ?_⟩
    rcases l with l | ⟨k, c, e, z⟩
    · exact .inl l
    · exact .inr ⟨k, c, e, cellK x c e _ z⟩
  · obtain ⟨v, z⟩ := I.cell x c e
    exact ⟨v, cellK x c e v z⟩
  · obtain ⟨m, ⟨o, _, _, ho, _⟩, _⟩ := I.loc
    exact free _ o (fun z => (hch _ z).2.1 rfl) ho I.free
  · obtain ⟨v, o, ho, hd⟩ := I.cell x c e
    exact free c o (fun z => (hch c z).2.2.1 x c e rfl) ho (I.freeC x c e)
  · obtain ⟨e, n, ne, nf, d⟩ := I.pin p hp
    have nch : p.1 ∉ ch := fun z => (hch p.1 z).2.2.2 p hp rfl
    exact ⟨keep p.1 p.2 ne nf nch e n, free p.1 p.2 nch e n, ne, nf, d⟩

theorem Inv.un {t' : Nat} (I : Inv X pins σ H s) (u : Un X.fs [] H H' s.heap h') (hok : HOk X.prog X.w H' h') : Inv X pins σ H' { s with heap := h', toks := t' } := by
  obtain ⟨m, ⟨o, es, ep, ho, r⟩, _⟩ := id I.loc
  obtain ⟨sl, hL⟩ := u.any ho I.free (by simp)
  exact I.step (g' := s.gens) (d' := s.drawn) (ch := []) (fun _ z => nomatch z) (fun b o _ hb _ e n => u.keep b o e n hb (by simp)) (fun b o _ hb _ e n => u.slot b o e n hb (by simp)) (fun b o _ e n => u.free b o e n (by simp)) (fun b o _ e => u.there b o e (by simp)) u.tups u.frzs u.tbls (fun m' hm => by
    obtain ⟨o', es', ep', ho', r'⟩ := hm
    rw [ho] at ho'; cases ho'
    exact ⟨_, es', ep', hL, r'⟩) hok I.bare

theorem Inv.call {g' : Array GenState} {t' : Nat} {d' : Drawn} {ch : List Addr} (I : Inv X pins σ H s) (u : Un (frs X.stack) ch H H' s.heap h') (hok : HOk X.prog X.w H' h') (hg : AllBare g')
    (hch : ∀ b ∈ ch, (b ∈ X.ex ∨ X.s₀.heap.objs.size ≤ b) ∧ b ≠ X.env.locals ∧ (∀ x c, X.env.cells.lookup x = some c → c ≠ b) ∧ ∀ p ∈ X.pn ++ pins, p.1 ≠ b) :
    Inv X pins σ H' { s with heap := h', gens := g', drawn := d', toks := t' } := by
  obtain ⟨m, ⟨o, es, ep, ho, r⟩, _⟩ := id I.loc
  obtain ⟨sl, hL⟩ := u.any ho I.free fun z => (hch _ z).2.1 rfl
  exact I.step (ch := ch) hch (fun b o hL hb hc e n => u.keep b o e n (fun z => (List.mem_cons.mp (I.stkSub b z)).elim hL hb) hc) (fun b o _ _ hc e n => u.any e n hc) (fun b o hc e n => u.free b o e n hc) (fun b o hc e => u.there b o e hc) u.tups u.frzs u.tbls (fun m' hm => by
    obtain ⟨o', es', ep', ho', r'⟩ := hm
    rw [ho] at ho'; cases ho'
    exact ⟨_, es', ep', hL, r'⟩) hok hg

theorem Inv.turned {t' : Nat} {it : Addr} (I : Inv X pins σ H s) (k : ∀ b o, b ≠ it → s.heap.get? b = some o → h'.get? b = some o) (hn : H it = none) (hL : it ≠ X.env.locals)
    (h1 : it ∈ X.ex ∨ X.s₀.heap.objs.size ≤ it) (h2 : ∀ x c, X.env.cells.lookup x = some c → c ≠ it) (h3 : ∀ p ∈ X.pn ++ pins, p.1 ≠ it) : Inv X pins σ H { s with heap := h', toks := t' } := by
  have nit : ∀ b u, H b = some u → b ≠ it := fun b u e z => by rw [z, hn] at e; cases e
  refine I.step (g' := s.gens) (d' := s.drawn) (ch := [it]) (fun b hb => ?_) (fun b o _ _ hc e _ => k b o (fun z => hc (by simp [z])) e) (fun b o _ _ hc e _ => ⟨o.slots, k b o (fun z => hc (by simp [z])) e⟩) (fun _ _ _ _ n => n)
    (fun b o hc e => ⟨o, k b o (fun z => hc (by simp [z])) e⟩) (fun _ _ e => e) (fun _ _ _ e => e) (fun b ps e => ⟨#[], by rw [e]; simp⟩) (fun m hm => ?_) (fun b u e => ?_) I.bare
  · have e : b = it := by simpa using hb
    subst e
    exact ⟨h1, hL, h2, h3⟩
  · obtain ⟨o, es, ep, ho, r⟩ := hm
    exact ⟨o, es, ep, k _ o (Ne.symm hL) ho, r⟩
  · refine (I.hok b u e).stay (fun c v hc q => k c v ?_ q) (fun _ q => q) fun _ _ q => q
    rcases hc with z | z
    · rw [z]; exact nit b u e
    · exact nit c _ z
theorem Inv.tok (I : Inv X pins σ H s) (t : Nat) : Inv X pins σ H { s with toks := t } := I.un (h' := s.heap) (t' := t) Un.refl I.hok

theorem Inv.kept {t' : Nat} (I : Inv X pins σ H s) (k : ∀ b u, s.heap.get? b = some u → h'.get? b = some u) : Inv X pins σ H { s with heap := h', toks := t' } := I.un (Un.kept k) (I.hok.kept k)

theorem Inv.laid {a : Addr} {o : HO} {t' : Nat} (I : Inv X pins σ H s) (k : ∀ b u, s.heap.get? b = some u → h'.get? b = some u) (hp : s.heap.objs.size ≤ a) (new : ObjOk X.prog X.w (upd H a o) h' a o) :
    Inv X pins σ (upd H a o) { s with heap := h', toks := t' } := I.un (Un.laid k hp (I.hok.fresh hp)) (I.hok.laid k hp new)

theorem Inv.write {x e : Addr} {o : HO} {t' : Nat} (I : Inv X pins σ H s) (mu : Mut (H x)) (he : e = x ∨ H e = some (.own x)) (k : ∀ b u, b ≠ e → s.heap.get? b = some u → h'.get? b = some u) (heo : ∃ u, h'.get? e = some u)
    (new : ObjOk X.prog X.w (upd H x o) h' x o) : Inv X pins σ (upd H x o) { s with heap := h', toks := t' } := I.un (Un.write mu he k heo) (I.hok.write mu he k heo new)

theorem Inv.pins_of {pins' : List (Addr × Obj)} (I : Inv X pins σ H s) (h : ∀ p ∈ pins', s.heap.get? p.1 = some p.2 ∧ H p.1 = none ∧ p.1 ≠ X.env.locals ∧ p.1 ∉ X.fs ∧ ∀ v, p.2.data ≠ .cell v) : Inv X pins' σ H s :=
  ⟨I.ok, I.os, I.bare, I.base, I.loc, I.cell, I.free, I.freeC, fun p hp => (List.mem_append.mp hp).elim (fun z => I.pin p (List.mem_append_left _ z)) (h p), I.hok, I.len⟩

theorem nodup_ix {N : List Str} (hN : N.Nodup) {i j : Nat} {x : Str} (a : N[i]? = some x) (b : N[j]? = some x) : i = j := by
  obtain ⟨h1, e1⟩ := List.getElem?_eq_some_iff.mp a
  obtain ⟨h2, e2⟩ := List.getElem?_eq_some_iff.mp b
  exact (List.getElem_inj hN).mp (e1.trans e2.symm)


theorem store_ok2 {M : Model} {A : Around} {E : Value → Shared → Prop} {i : Nat} {x : Str} {v : V} {u : Value} {Q : Unit → Shared → Prop} (I : Inv X pins σ H s) (hN : X.N.Nodup) (hi : X.N[i]? = some x) (hx : Loc X.env.scope x) (r : RelV v u)
    (h : ∀ s', Inv X pins (σ.set i (some v)) H s' → (∃ a, Heap.SameBut a s.heap s'.heap ∧ (a = X.env.locals ∨ X.env.cells.lookup x = some a)) → Q () s') (hf : X.fn x = true ∨ X.env.scope.names.lookup x = some .local := by first | exact .inl rfl | exact .inr rfl | assumption) : wpAny M A (storeName X.env x u) Q E s := by
  obtain ⟨m, hn, hl⟩ := id I.loc
  have hcls : (X.env.scope.kind == .class || (X.env.scope.kind == .module && X.env.locals != X.env.globals)) = false := by rw [I.ok.kind]; rfl
  have hiσ : i < σ.length := by rw [I.len]; exact (List.getElem?_eq_some_iff.mp hi).1
  have cne := I.cne
  have tracked : ∀ {a : Addr} {h' : Heap}, (∃ o, s.heap.get? a = some o ∧ H a = none) → Heap.SameBut a s.heap h' → HOk X.prog X.w H h' := fun {a h'} ha hs b ob e => by
    obtain ⟨_, _, hfree⟩ := ha
    refine (I.hok b ob e).stay (fun c w' hc q => (hs.2 c ?_).trans q) (fun _ q => q) fun _ _ q => q
    rintro rfl
    rcases hc with rfl | hc
    · rw [hfree] at e; cases e
    · rw [hfree] at hc; cases hc
  rcases hx with hk | hk
  · refine wpAny_storeName_local hk hn (fun h' hn' hs => ?_) hcls
    obtain ⟨oL, _, _, hoL, _⟩ := id hn
    refine h _ ⟨I.ok, I.os, I.bare, ⟨fun b o e n hb hx => ?_, fun b o e n hb hx => ?_, I.base.free, fun b o e hx => ?_, I.base.tups, I.base.frzs, I.base.tbls⟩, ⟨_, hn', fun j y v' e1 e2 e3 => ?_⟩, fun y c e => ?_, I.free, I.freeC, fun p hp => ?_, tracked ⟨oL, hoL, I.free⟩ hs, by simpa using I.len⟩ ⟨_, hs, .inl rfl⟩
    · exact (hs.2 b (Nat.ne_of_lt (Nat.lt_of_lt_of_le (Heap.lt_size e) I.ok.above))).trans (I.base.keep b o e n hb hx)
    · obtain ⟨sl, e1⟩ := I.base.slot b o e n hb hx
      exact ⟨sl, (hs.2 b (Nat.ne_of_lt (Nat.lt_of_lt_of_le (Heap.lt_size e) I.ok.above))).trans e1⟩
    · obtain ⟨o', e1⟩ := I.base.there b o e hx
      exact ⟨o', (hs.2 b (Nat.ne_of_lt (Nat.lt_of_lt_of_le (Heap.lt_size e) I.ok.above))).trans e1⟩
    · by_cases hj : j = i
      · subst hj
        rw [hi] at e1; cases e1
        rw [List.getElem?_set_self hiσ] at e2
        cases e2
        exact ⟨u, r, .inl ⟨hk, by simp⟩⟩
      · rw [List.getElem?_set_ne (Ne.symm hj)] at e2
        obtain ⟨u', r', q⟩ := hl j y v' e1 e2 e3
        refine ⟨u', r', ?_⟩
        rcases q with ⟨k, e⟩ | ⟨k, c, e, z⟩
        · refine .inl ⟨k, ?_⟩
          have : y ≠ x := fun e => hj (nodup_ix hN e1 (e ▸ hi))
          simp [this, e]
        · exact .inr ⟨k, c, e, z.sameBut hs (cne y c e)⟩
    · obtain ⟨w', z⟩ := I.cell y c e
      exact ⟨w', z.sameBut hs (cne y c e)⟩
    · obtain ⟨e, n, ne, nf, d⟩ := I.pin p hp
      exact ⟨(hs.2 p.1 ne).trans e, n, ne, nf, d⟩
  · have hfn : X.fn x = true := by
      rcases hf with z | z
      · exact z
      · rw [z] at hk; cases hk
    obtain ⟨c, hc⟩ := I.ok.has x (.inl hk)
    obtain ⟨w', z⟩ := I.cell x c hc
    refine wpAny_storeName_cell I.ok.kind hk hc z (fun h' hc' hs => ?_)
    obtain ⟨oc, hoc, hocd⟩ := id z
    refine h { s with heap := h' } ⟨I.ok, I.os, I.bare, ⟨fun b o e n hb hx => ?_, fun b o e n hb hx => ?_, I.base.free, fun b o e hx => ?_, I.base.tups, I.base.frzs, I.base.tbls⟩, ⟨m, hn.sameBut hs (Ne.symm (cne x c hc)), fun j y v' e1 e2 e3 => ?_⟩, fun y c' e => ?_, I.free, I.freeC, fun p hp => ?_, tracked ⟨oc, hoc, I.freeC x c hc⟩ hs, by simpa using I.len⟩ ⟨c, hs, .inr hc⟩
    · exact (hs.2 b (Nat.ne_of_lt (Nat.lt_of_lt_of_le (Heap.lt_size e) (I.ok.cab x c hfn hc)))).trans (I.base.keep b o e n hb hx)
    · obtain ⟨sl, e1⟩ := I.base.slot b o e n hb hx
      exact ⟨sl, (hs.2 b (Nat.ne_of_lt (Nat.lt_of_lt_of_le (Heap.lt_size e) (I.ok.cab x c hfn hc)))).trans e1⟩
    · obtain ⟨o', e1⟩ := I.base.there b o e hx
      exact ⟨o', (hs.2 b (Nat.ne_of_lt (Nat.lt_of_lt_of_le (Heap.lt_size e) (I.ok.cab x c hfn hc)))).trans e1⟩
    · by_cases hj : j = i
      · subst hj
        rw [hi] at e1; cases e1
        rw [List.getElem?_set_self hiσ] at e2
        cases e2
        exact ⟨u, r, .inr ⟨.inl hk, c, hc, hc'⟩⟩
      · rw [List.getElem?_set_ne (Ne.symm hj)] at e2
        obtain ⟨u', r', q⟩ := hl j y v' e1 e2 e3
        refine ⟨u', r', ?_⟩
        rcases q with q | ⟨k, c', e, z'⟩
        · exact .inl q
        · refine .inr ⟨k, c', e, z'.sameBut hs ?_⟩
          rintro rfl
          exact hj (nodup_ix hN e1 (I.ok.inj _ _ _ e hc ▸ hi))
    · by_cases hcc : c' = c
      · subst hcc; exact ⟨_, hc'⟩
      · obtain ⟨w2, z2⟩ := I.cell y c' e
        exact ⟨w2, z2.sameBut hs hcc⟩
    · obtain ⟨e, n, ne, nf, d⟩ := I.pin p hp
      refine ⟨(hs.2 p.1 ?_).trans e, n, ne, nf, d⟩
      intro q
      rw [q, hoc] at e
      have q' : oc = p.2 := Option.some.inj e
      exact d w' (by rw [← q']; exact hocd)
theorem store_ok {M : Model} {A : Around} {E : Value → Shared → Prop} {i : Nat} {x : Str} {v : V} {u : Value} {Q : Unit → Shared → Prop} (I : Inv X pins σ H s) (hN : X.N.Nodup) (hi : X.N[i]? = some x) (hx : Loc X.env.scope x) (r : RelV v u)
    (h : ∀ s', Inv X pins (σ.set i (some v)) H s' → Q () s') (hf : X.fn x = true ∨ X.env.scope.names.lookup x = some .local := by first | exact .inl rfl | exact .inr rfl | assumption) : wpAny M A (storeName X.env x u) Q E s :=
  store_ok2 I hN hi hx r (fun s' I' _ => h s' I') hf

theorem Inv.call' {s' : Shared} {ch : List Addr} (I : Inv X pins σ H s) (ho : s'.os = s.os) (u : Un (frs X.stack) ch H H' s.heap s'.heap) (hok : HOk X.prog X.w H' s'.heap) (hg : AllBare s'.gens)
    (hch : ∀ b ∈ ch, (b ∈ X.ex ∨ X.s₀.heap.objs.size ≤ b) ∧ b ≠ X.env.locals ∧ (∀ x c, X.env.cells.lookup x = some c → c ≠ b) ∧ ∀ p ∈ X.pn ++ pins, p.1 ≠ b) : Inv X pins σ H' s' := by
  obtain ⟨h', g', d', t', o'⟩ := s'
  have e : o' = s.os := ho
  subst e
  exact I.call (g' := g') (t' := t') (d' := d') u hok hg hch
end



abbrev XK := Value → Option Addr → Hp → Prop
abbrev St := List (Option V)
abbrev VK := V → Hp → Prop

abbrev TE := St → Hp → VK → Prop
abbrev TT := St → Hp → (Bool → Hp → Prop) → Prop
abbrev TA := St → Hp → (List V → Hp → Prop) → Prop

structure Ends where
  nx : St → Hp → Prop
  rt : VK
  bk : St → Hp → Prop := fun _ _ => False
  ct : St → Hp → Prop := fun _ _ => False
abbrev TS := Ends → St → Hp → Prop

def EP (X : Cx) (pins : List (Addr × Obj)) (σ : St) (Q : VK) (u : Value) (s' : Shared) : Prop := ∃ v H', Inv X pins σ H' s' ∧ RelV v u ∧ Q v H'
def TP (X : Cx) (pins : List (Addr × Obj)) (σ : St) (Q : Bool → Hp → Prop) (b : Bool) (s' : Shared) : Prop := ∃ H', Inv X pins σ H' s' ∧ Q b H'
def AP (X : Cx) (pins : List (Addr × Obj)) (σ : St) (Q : List V → Hp → Prop) (us : List Value) (s' : Shared) : Prop := ∃ vs H', Inv X pins σ H' s' ∧ Vals vs us ∧ Q vs H'
def SP (X : Cx) (pins : List (Addr × Obj)) (D : Ends) (f : Flow) (s' : Shared) : Prop :=
  match f with
  | .next => ∃ σ' H', Inv X pins σ' H' s' ∧ D.nx σ' H'
  | .brk => ∃ σ' H', Inv X pins σ' H' s' ∧ D.bk σ' H'
  | .cont => ∃ σ' H', Inv X pins σ' H' s' ∧ D.ct σ' H'
  | .ret u => ∃ v σ' H', Inv X pins σ' H' s' ∧ RelV v u ∧ D.rt v H'

def PE (X : Cx) (e : Expr) (t : TE) : Prop :=
  ∀ (pins : List (Addr × Obj)) (s : Shared) (σ : St) (H : Hp) (Q : VK), Inv X pins σ H s → t σ H Q → wpAny (model X.prog X.w) X.A (eval e X.env) (EP X pins σ Q) X.xe s
def PT (X : Cx) (e : Expr) (t : TT) : Prop :=
  ∀ (pins : List (Addr × Obj)) (s : Shared) (σ : St) (H : Hp) (Q : Bool → Hp → Prop), Inv X pins σ H s → t σ H Q → wpAny (model X.prog X.w) X.A (isTrue e X.env (eval e X.env)) (TP X pins σ Q) X.xe s

def PW (X : Cx) (e : Expr) (t : TT) : Prop :=
  ∀ (whole : Sem Value) (pins : List (Addr × Obj)) (s : Shared) (σ : St) (H : Hp) (Q : Bool → Hp → Prop), Inv X pins σ H s → t σ H Q → wpAny (model X.prog X.w) X.A (isTrue e X.env whole) (TP X pins σ Q) X.xe s
theorem PW.pt {X : Cx} {e : Expr} {t : TT} (h : PW X e t) : PT X e t := h _

def PA (X : Cx) (es : List Expr) (t : TA) : Prop :=
  ∀ (pos : Pos) (pins : List (Addr × Obj)) (s : Shared) (σ : St) (H : Hp) (Q : List V → Hp → Prop), Inv X pins σ H s → t σ H Q → wpAny (model X.prog X.w) X.A (spliced (backTo pos (starEach es X.env))) (AP X pins σ Q) X.xe s
def PS (X : Cx) (st : Stmt) (t : TS) : Prop :=
  ∀ (pins : List (Addr × Obj)) (s : Shared) (σ : St) (H : Hp) (D : Ends), Inv X pins σ H s → t D σ H → wpAny (model X.prog X.w) X.A (exec st X.env) (SP X pins D) X.xe s
def PSs (X : Cx) (st : List Stmt) (t : TS) : Prop :=
  ∀ (pins : List (Addr × Obj)) (s : Shared) (σ : St) (H : Hp) (D : Ends), Inv X pins σ H s → t D σ H → wpAny (model X.prog X.w) X.A (execs st X.env) (SP X pins D) X.xe s

theorem thn {α : Type} {t : Sem α} {Q Q' : α → Shared → Prop} {M : Model} {A : Around} {E : Value → Shared → Prop} {s : Shared} (h : wpAny M A t Q E s) (hQ : ∀ a s, Q a s → Q' a s) : wpAny M A t Q' E s := wpAny_mono h hQ fun _ _ x => x
end L2

namespace L2
open PySem PySem.Spec PyProof.Rows
section
variable {X : Cx}


def tVar (i : Nat) : TE := fun σ H Q => ∃ v, σ[i]? = some (some v) ∧ Q v H
def tC (v : V) : TE := fun _ H Q => Q v H
theorem pe_var {i : Nat} {x : Str} {pos : Pos} (hN : X.N[i]? = some x) (hv : Vis X.env.scope x) (hd : (x == ("__debug__" : Str)) = false := by decide) (hcd : (x == ("__classdict__" : Str)) = false := by decide) : PE X (.Name x pos) (tVar i) := by
  intro pins s σ H Q I h
  obtain ⟨v, e, h⟩ := h
  obtain ⟨m, hn, hl⟩ := I.loc
  obtain ⟨u, r, l⟩ := hl i x v hN e hv
  have fin : EP X pins σ Q u s := ⟨v, H, I, r, h⟩
  rcases l with ⟨hk, hm⟩ | ⟨hk, c, hc, hcell⟩
  · exact wpAny_Name (wpAny_loadName_local I.ok.kind hk hn hm fin) hd
  · rcases hk with hk | hk
    · exact wpAny_Name (wpAny_loadName_cell I.ok.kind hk hc hcell fin) hd
    · exact wpAny_Name (wpAny_loadName_free I.ok.kind hk hc hcell fin hcd) hd
theorem pe_int {i j pos} : PE X (.Constant (.int i) j pos) (tC (.int i)) := fun _ _ _ H _ I h => wpAny_Constant_int ⟨.int i, H, I.tok _, ⟨_, rfl⟩, h⟩
theorem pe_bl {b j pos} : PE X (.Constant (.bool b) j pos) (tC (.bl b)) := fun _ _ _ H _ I h => Constant_bool ⟨.bl b, H, I, rfl, h⟩
theorem pe_non {j pos} : PE X (.Constant .none j pos) (tC .non) := fun _ _ _ H _ I h => Constant_none ⟨.non, H, I, rfl, h⟩
theorem pe_str {x j pos} : PE X (.Constant (.str x) j pos) (tC (.str x)) := fun _ _ _ H _ I h => Calls.Constant_str ⟨.str x, H, I.tok _, ⟨_, rfl⟩, h⟩


def Gl (X : Cx) (x : Str) : Prop := X.env.kindOf x = some .globalImplicit
theorem ld_glob {E : Value → Shared → Prop} {pins : List (Addr × Obj)} {s : Shared} {σ : St} {H : Hp} {x : Str} {u : Value} {pos : Pos} {Q : Value → Shared → Prop} (I : Inv X pins σ H s) (hg : Gl X x) (hm : X.mg x = some u) (h : Q u s)
    (hd : (x == ("__debug__" : Str)) = false := by decide) : wpAny (model X.prog X.w) X.A (eval (.Name x pos) X.env) Q E s :=
  Calls.Name_function_global I.ok.kind hg (Calls.loadGlobal_global (by rw [I.ok.glob]; exact I.mod.glob.keeps I.bk) hm h) hd
theorem ld_blt {E : Value → Shared → Prop} {pins : List (Addr × Obj)} {s : Shared} {σ : St} {H : Hp} {x : Str} {u : Value} {pos : Pos} {Q : Value → Shared → Prop} (I : Inv X pins σ H s) (hg : Gl X x) (hm : X.mg x = none) (hv : bootBuiltins x = some u) (h : Q u s)
    (hn : x ≠ "__name__" := by decide) (hd : (x == ("__debug__" : Str)) = false := by decide) : wpAny (model X.prog X.w) X.A (eval (.Name x pos) X.env) Q E s := by
  obtain ⟨mb, h1, h2⟩ := I.mod.blt
  exact Calls.Name_function_global I.ok.kind hg (Calls.loadGlobal_builtin (by rw [I.ok.glob]; exact I.mod.glob.keeps I.bk) hm (by rw [I.ok.blt]; exact h1.keeps I.bk) ((h2 x hn).trans hv) h) hd

theorem pe_glob {x : Str} {v : V} {u : Value} {pos : Pos} (hg : Gl X x) (hm : X.mg x = some u) (r : RelV v u) (hd : (x == ("__debug__" : Str)) = false := by decide) : PE X (.Name x pos) (tC v) :=
  fun _ _ _ H _ I h => ld_glob I hg hm ⟨v, H, I, r, h⟩ hd
theorem pe_bltn {x : Str} {v : V} {u : Value} {pos : Pos} (hg : Gl X x) (hm : X.mg x = none) (hv : bootBuiltins x = some u) (r : RelV v u) (hn : x ≠ "__name__" := by decide) (hd : (x == ("__debug__" : Str)) = false := by decide) : PE X (.Name x pos) (tC v) :=
  fun _ _ _ H _ I h => ld_blt I hg hm hv ⟨v, H, I, r, h⟩ hn hd



variable {a b : Expr} {ta tb : TE} {pos : Pos}
variable {tA tB' : TT} {rest : List Expr}
def tOr (t u : TT) : TT := fun σ H Q => t σ H fun c H1 => if c = true then Q true H1 else u σ H1 Q
def tNot (t : TT) : TT := fun σ H Q => t σ H fun c H1 => Q (!c) H1
theorem pw_or1 (ha : PT X a tA) : PW X (.BoolOp .Or [a] pos) tA := by
  intro wh pins s σ H Q I h
  refine isTrue_or (thn (ha pins s σ H Q I h) fun c s1 e => ?_)
  cases c with
  | false => exact isTrue_or_nil e
  | true => exact e
theorem pw_or (ha : PT X a tA) (hb : PW X (.BoolOp .Or (b :: rest) pos) tB') : PW X (.BoolOp .Or (a :: b :: rest) pos) (tOr tA tB') := by
  intro wh pins s σ H Q I h
  refine isTrue_or (thn (ha pins s σ H _ I h) fun c s1 ⟨H1, I1, q1⟩ => ?_)
  cases c with
  | true => exact ⟨H1, I1, q1⟩
  | false => exact hb wh pins s1 σ H1 Q I1 q1
theorem pt_not (ha : PT X a tA) : PT X (.UnaryOp .Not a pos) (tNot tA) := by
  intro pins s σ H Q I h
  exact isTrue_not (ha pins s σ H (fun c H1 => Q (!c) H1) I h)

def tAndV (ta tb : TE) : TE := fun σ H Q => ta σ H fun x H1 => ∃ c, x = .bl c ∧ if c = true then tb σ H1 Q else Q (.bl false) H1
def tNotV (ta : TE) : TE := fun σ H Q => ta σ H fun x H1 => ∃ c, x = .bl c ∧ Q (.bl (!c)) H1
theorem pe_one {op} {t : TE} (h : PE X a t) : PE X (.BoolOp op [a] pos) t := fun pins s σ H Q I hw => BoolOp_one (h pins s σ H Q I hw)
theorem pe_and (ha : PE X a ta) (hb : PE X (.BoolOp .And (b :: rest) pos) tb) : PE X (.BoolOp .And (a :: b :: rest) pos) (tAndV ta tb) := by
  intro pins s σ H Q I h
  refine BoolOp_and (thn (ha pins s σ H _ I h) fun v s1 ⟨x, H1, I1, r1, q1⟩ => ?_)
  obtain ⟨c, rfl, q1⟩ := q1
  cases r1
  refine wpAny_truthy_bool ?_
  cases c with
  | true => exact hb pins s1 σ H1 Q I1 q1
  | false => exact ⟨.bl false, H1, I1, rfl, q1⟩
theorem pe_not (ha : PE X a ta) : PE X (.UnaryOp .Not a pos) (tNotV ta) := by
  intro pins s σ H Q I h
  refine UnaryOp_ (thn (ha pins s σ H _ I h) fun v s1 ⟨x, H1, I1, r1, q1⟩ => ?_)
  obtain ⟨c, rfl, q1⟩ := q1
  cases r1
  exact not_of (wpAny_truthy_bool ⟨.bl (!c), H1, I1, rfl, q1⟩)

end
end L2

namespace L2
open PySem PySem.Spec PyProof.Rows


def SqL (K : PySem.W.Frag) (H : Hp) (a : Addr) (xs : List V) : Prop :=
  Rd H a (.lst xs) ∨
    ∃ (o : Obj) (its : Array Value) (n : Nat), K.lookup a = some o ∧ o.cls = .type "list" ∧ o.dict = none ∧ o.data = .seq its n ∧ its.size ≤ sizeLine ∧ Vals xs its.toList
def SqT (K : PySem.W.Frag) (H : Hp) (a : Addr) (xs : List V) : Prop :=
  Rd H a (.tup xs) ∨
    ∃ (o : Obj) (its : Array Value) (n : Nat), K.lookup a = some o ∧ o.cls = .type "tuple" ∧ o.data = .seq its n ∧ its.size ≤ sizeLine ∧ Vals xs its.toList
section
variable {X : Cx} {pins : List (Addr × Obj)} {σ : St} {H : Hp} {s : Shared} {a : Addr} {xs ys : List V}
theorem SqL.of {K : PySem.W.Frag} (h : H a = some (.lst xs)) : SqL K H a xs := .inl (.inl h)
theorem SqT.of {K : PySem.W.Frag} (h : H a = some (.tup xs)) : SqT K H a xs := .inl (.inl h)
theorem Inv.list (I : Inv X pins σ H s) (h : SqL X.K H a xs) : ∃ its : List Value, Vals xs its ∧ PlainL s.heap a its.toArray ∧ xs.length ≤ sizeLine := by
  rcases h with h | ⟨o, its, n, hk, hc, hd, hs, hz, r⟩
  · obtain ⟨z, its, n, r, e⟩ := h.ok I.hok
    exact ⟨its, r, ⟨_, n, e, rfl, rfl, rfl⟩, z⟩
  · refine ⟨its.toList, r, ⟨o, n, I.kIn a o hk, hc, hd, by simpa using hs⟩, ?_⟩
    have e := r.length
    simp only [Array.length_toList] at e
    omega
theorem Inv.tuple (I : Inv X pins σ H s) (h : SqT X.K H a xs) : ∃ its : List Value, Vals xs its ∧ IsTup s.heap a its.toArray ∧ xs.length ≤ sizeLine := by
  rcases h with h | ⟨o, its, n, hk, hc, hs, hz, r⟩
  · obtain ⟨z, its, r, p⟩ := h.ok I.hok
    exact ⟨its, r, p, z⟩
  · refine ⟨its.toList, r, ⟨o, I.kIn a o hk, hc, n, by simpa using hs⟩, ?_⟩
    have e := r.length
    simp only [Array.length_toList] at e
    omega
end


abbrev Cx.wish (X : Cx) (E : Value → Shared → Prop) : Cx := { X with xe := E }

abbrev Cx.nox (X : Cx) : Cx := X.wish fun _ _ => False
theorem Cx.Ok.wish {X : Cx} (ok : X.Ok) (E : Value → Shared → Prop) : (X.wish E).Ok :=
  ⟨ok.mod, ok.kind, ok.glob, ok.blt, ok.above, ok.inj, ok.has, ok.cab, ok.hd, ok.frames, ok.stk, ok.exf, ok.bs, ok.bsz, ok.noex, ok.exfs, ok.funs, ok.frf⟩
theorem Cx.Ok.unwish {X : Cx} {E : Value → Shared → Prop} (ok : (X.wish E).Ok) : X.Ok :=
  ⟨ok.mod, ok.kind, ok.glob, ok.blt, ok.above, ok.inj, ok.has, ok.cab, ok.hd, ok.frames, ok.stk, ok.exf, ok.bs, ok.bsz, ok.noex, ok.exfs, ok.funs, ok.frf⟩
section
variable {X : Cx} {pins : List (Addr × Obj)} {σ : St} {H : Hp} {s : Shared} {E : Value → Shared → Prop}
theorem Inv.wish (I : Inv X pins σ H s) (E : Value → Shared → Prop) : Inv (X.wish E) pins σ H s := ⟨I.ok.wish E, I.os, I.bare, I.base, I.loc, I.cell, I.free, I.freeC, I.pin, I.hok, I.len⟩
theorem Inv.unwish (I : Inv (X.wish E) pins σ H s) : Inv X pins σ H s := ⟨I.ok.unwish, I.os, I.bare, I.base, I.loc, I.cell, I.free, I.freeC, I.pin, I.hok, I.len⟩
theorem SP.unwish {D : Ends} {f : Flow} {s' : Shared} (h : SP (X.wish E) pins D f s') : SP X pins D f s' := by
  cases f with
  | next => obtain ⟨σ', H', I, q⟩ := h; exact ⟨σ', H', I.unwish, q⟩
  | brk => obtain ⟨σ', H', I, q⟩ := h; exact ⟨σ', H', I.unwish, q⟩
  | cont => obtain ⟨σ', H', I, q⟩ := h; exact ⟨σ', H', I.unwish, q⟩
  | ret u => obtain ⟨v, σ', H', I, r, q⟩ := h; exact ⟨v, σ', H', I.unwish, r, q⟩
theorem PT.nox {e : Expr} {t : TT} (h : PT X.nox e t) : PT X e t := fun pins s σ H Q I hw =>
  wpAny_mono (h pins s σ H Q (I.wish _) hw) (fun _ _ ⟨H', I', q⟩ => ⟨H', I'.unwish, q⟩) fun _ _ z => False.elim z
theorem PSs.nox {st : List Stmt} {t : TS} (h : PSs X.nox st t) : PSs X st t := fun pins s σ H D I hw =>
  wpAny_mono (h pins s σ H D (I.wish _) hw) (fun _ _ q => q.unwish) fun _ _ z => False.elim z
end


section
variable {X : Cx} {st : Stmt} {rest : List Stmt} {t u : TS} {e : Expr} {te : TE} {pos : Pos}
def tNext : TS := fun D σ H => D.nx σ H
def tSeq (t u : TS) : TS := fun D σ H => t { D with nx := u D } σ H
theorem pss_nil : PSs X [] tNext := fun _ _ σ H _ I h => wpAny_execs_nil ⟨σ, H, I, h⟩
theorem pss_cons (h1 : PS X st t) (h2 : PSs X rest u) : PSs X (st :: rest) (tSeq t u) := by
  intro pins s σ H D I h
  refine wpAny_execs_cons (thn (h1 pins s σ H { D with nx := u D } I h) fun f s1 q => ?_)
  cases f with
  | next =>
    obtain ⟨σ', H', I', q⟩ := q
    exact h2 pins s1 σ' H' D I' q
  | ret v => exact q
  | brk => exact q
  | cont => exact q
theorem pss_one (h1 : PS X st t) : PSs X [st] t := by
  intro pins s σ H D I h
  refine wpAny_execs_cons (thn (h1 pins s σ H D I h) fun f s1 q => ?_)
  cases f with
  | next => exact wpAny_execs_nil q
  | ret v => exact q
  | brk => exact q
  | cont => exact q
def tRet (te : TE) : TS := fun D σ H => te σ H D.rt
theorem ps_ret (he : PE X e te) : PS X (.Return (some e) pos) (tRet te) := by
  intro pins s σ H D I h
  exact wpAny_Return_some (thn (he pins s σ H _ I h) fun v s1 ⟨x, H1, I1, r1, q1⟩ => ⟨x, σ, H1, I1, r1, q1⟩)
def tIfS (c : TT) (t u : TS) : TS := fun D σ H => c σ H fun b H1 => if b = true then t D σ H1 else u D σ H1
theorem ps_if {c : Expr} {a b : List Stmt} {tc : TT} (hc : PT X c tc) (ha : PSs X a t) (hb : PSs X b u) : PS X (.If c a b pos) (tIfS tc t u) := by
  intro pins s σ H D I h
  refine wpAny_If (thn (hc pins s σ H _ I h) fun d s1 ⟨H1, I1, q1⟩ => ?_)
  cases d with
  | true => exact ha pins s1 σ H1 D I1 q1
  | false => exact hb pins s1 σ H1 D I1 q1

end


abbrev TG := V → St → Hp → (St → Hp → Prop) → Prop
abbrev TGs := List V → St → Hp → (St → Hp → Prop) → Prop
def PG (X : Cx) (target : Expr) (t : TG) : Prop :=
  ∀ (pins : List (Addr × Obj)) (s : Shared) (σ : St) (H : Hp) (v : V) (u : Value) (Q : St → Hp → Prop), Inv X pins σ H s → RelV v u → t v σ H Q →
    wpAny (model X.prog X.w) X.A (assign target X.env u) (fun _ s' => ∃ σ' H', Inv X pins σ' H' s' ∧ Q σ' H') X.xe s

def PGs (X : Cx) (ts : List Expr) (t : TGs) : Prop :=
  ∀ (pins : List (Addr × Obj)) (s : Shared) (σ : St) (H : Hp) (vs : List V) (us : List Value) (Q : St → Hp → Prop), Inv X pins σ H s → Vals vs us → t vs σ H Q →
    wpAny (model X.prog X.w) X.A (assignInOrder ((assignEach ts X.env).map (·.2)) us) (fun _ s' => ∃ σ' H', Inv X pins σ' H' s' ∧ Q σ' H') X.xe s

section
variable {X : Cx} {pos : Pos}
def gName (i : Nat) : TG := fun v σ H Q => Q (σ.set i (some v)) H
theorem pg_name {i : Nat} {x : Str} (hN : X.N.Nodup) (hi : X.N[i]? = some x) (hx : Loc X.env.scope x) (hf : X.fn x = true ∨ X.env.scope.names.lookup x = some .local := by first | exact .inl rfl | exact .inr rfl | assumption) : PG X (.Name x pos) (gName i) := by
  intro pins s σ H v u Q I r h
  exact wpAny_assign_Name (store_ok I hN hi hx r (fun s' I' => ⟨_, H, I', h⟩) hf)
def gNil : TGs := fun vs σ H Q => vs = [] ∧ Q σ H
def gCons (t : TG) (u : TGs) : TGs := fun vs σ H Q => ∃ v r, vs = v :: r ∧ t v σ H fun σ' H' => u r σ' H' Q
theorem pgs_nil : PGs X [] gNil := by
  intro pins s σ H vs us Q I r h
  obtain ⟨e, h⟩ := h
  subst e
  cases r
  exact assignInOrder_nil ⟨σ, H, I, h⟩
theorem pgs_cons {e : Expr} {es : List Expr} {t : TG} {u : TGs} (h1 : PG X e t) (h2 : PGs X es u)
    (hs : (assignEach (e :: es) X.env).map (·.2) = assign e X.env :: (assignEach es X.env).map (·.2) := by rfl) : PGs X (e :: es) (gCons t u) := by
  intro pins s σ H vs us Q I r h
  obtain ⟨v, vr, e1, h⟩ := h
  subst e1
  cases r with
  | cons r rr =>
    rw [hs]
    refine assignInOrder_cons (thn (h1 pins s σ H _ _ _ I r h) fun _ s1 ⟨σ1, H1, I1, q1⟩ => ?_)
    exact h2 pins s1 σ1 H1 _ _ Q I1 rr q1

def gTup (K : PySem.W.Frag) (n : Nat) (t : TGs) : TG := fun v σ H Q => ∃ a xs, v = .ref a ∧ SqT K H a xs ∧ xs.length = n ∧ t xs σ H Q
theorem pg_tup {es : List Expr} {k : Nat} {t : TGs} {n : Nat} (hc : X.calm = true) (h : PGs X es t)
    (hn : (assignEach es X.env).length = n := by rfl) (hst : (assignEach es X.env).findIdx? (·.1) = none := by rfl) : PG X (.Tuple es k pos) (gTup X.K n t) := by
  intro pins s σ H v u Q I r hw
  obtain ⟨a, xs, e1, hq, hl, hw⟩ := hw
  subst e1
  cases r
  obtain ⟨its, rv, ht, hz⟩ := I.tuple hq
  refine assign_Tuple_tuple (I.ok.hd hc) ht (by simp [hn, ← hl, rv.length]) hst fun h' hx => ?_
  have I1 : Inv X pins σ H { s with heap := h' } := I.kept (t' := s.toks) fun b o e => hx b o (Nat.ne_of_lt (Heap.lt_size e)) e
  exact h pins _ σ H xs _ Q I1 (by simpa using rv) hw

def tAsg (te : TE) (g : TG) : TS := fun D σ H => te σ H fun x H1 => g x σ H1 D.nx
theorem ps_asg {tg e : Expr} {te : TE} {g : TG} (he : PE X e te) (hg : PG X tg g) (hs : swapsWithSole [tg] e pos.line X.env = pure false := by rfl) (hw : swappedStores [tg] e X.env = pure none := by rfl)
    (h1 : (assignEach [tg] X.env).map (·.2) = [assign tg X.env] := by rfl) : PS X (.Assign [tg] e pos) (tAsg te g) := by
  intro pins s σ H D I h
  refine wpAny_Assign_stores (thn (he pins s σ H _ I h) fun v s1 ⟨x, H1, I1, r1, q1⟩ => ?_) hs hw
  rw [h1]
  exact thn (hg pins s1 σ H1 x v _ I1 r1 q1) fun _ s2 q => q

theorem ps_set {i : Nat} {x : Str} {e : Expr} {te : TE} {pos' : Pos} (hN : X.N.Nodup) (hi : X.N[i]? = some x) (hx : Loc X.env.scope x) (he : PE X e te) (hs : swapsWith e (some (.Name x pos')) pos.line X.env = pure false := by rfl) (hf : X.fn x = true ∨ X.env.scope.names.lookup x = some .local := by first | exact .inl rfl | exact .inr rfl | assumption) :
    PS X (.Assign [.Name x pos'] e pos) (tAsg te (gName i)) := by
  intro pins s σ H D I h
  refine wpAny_Assign_Name (thn (he pins s σ H _ I h) fun v s1 ⟨y, H1, I1, r1, q1⟩ => ?_) hs
  exact store_ok I1 hN hi hx r1 (fun s2 I2 => ⟨_, H1, I2, q1⟩) hf

end


section
variable {X : Cx} {pos : Pos}

end



structure It where
  go : Nat → Hp → Prop
  yld : Nat → Hp → V → Hp → Prop
  stop : Nat → Hp → Prop

def FpOk (X : Cx) (pins : List (Addr × Obj)) (H : Hp) (b : Addr) : Prop :=
  H b = none ∧ b ≠ X.env.locals ∧ b ∉ X.fs ∧ (b ∈ X.ex ∨ X.s₀.heap.objs.size ≤ b) ∧ (∀ x c, X.env.cells.lookup x = some c → c ≠ b) ∧ ∀ p ∈ X.pn ++ pins, p.1 ≠ b
theorem Inv.fpOk {X : Cx} {pins : List (Addr × Obj)} {σ : St} {H H' : Hp} {s : Shared} {b : Addr} (I : Inv X pins σ H s) (hb : s.heap.objs.size ≤ b) (hn : H' b = none) : FpOk X pins H' b := by
  refine ⟨hn, Nat.ne_of_gt (Nat.lt_of_lt_of_le I.lt hb), I.nofs hb, .inr (Nat.le_trans I.sz hb), fun x c e z => ?_, fun p hp z => ?_⟩
  · obtain ⟨v, q⟩ := I.cell x c e
    exact absurd (Nat.lt_of_lt_of_le q.lt (by rw [z]; exact hb)) (Nat.lt_irrefl _)
  · exact absurd (Nat.lt_of_lt_of_le (Heap.lt_size (I.pin p hp).1) (by rw [z]; exact hb)) (Nat.lt_irrefl _)
structure Turn (P : Program) (w : World) (K : PySem.W.Frag) (tg : Expr) (J : It) (fp : List Addr) (it : Addr) (tn : Nat → Heap → Prop) : Prop where
  mem : it ∈ fp
  obj : ∀ i h, tn i h → ∀ b ∈ fp, ∃ o, h.get? b = some o ∧ ∀ v, o.data ≠ .cell v
  keep : ∀ i h h', tn i h → (∀ b ∈ fp, ∀ o, h.get? b = some o → h'.get? b = some o) → tn i h'
  item : ∀ (X : Cx), X.prog = P → X.w = w → X.K = K → X.calm = true → ∀ (i : Nat) (pins : List (Addr × Obj)) (s : Shared) (σ : St) (H : Hp) (E : Value → Shared → Prop), Inv X pins σ H s → (∀ b ∈ fp, FpOk X pins H b) → tn i s.heap → J.go i H →
    wpAny (model P w) X.A (pyNext (.ref it)) (fun r s1 => ∃ u, r = some u ∧
      wpAny (model P w) X.A (letOwnedTupleGo tg (.ref it) u) (fun _ s2 => ∃ x H', Inv X pins σ H' s2 ∧ RelV x u ∧ J.yld i H x H' ∧ tn (i + 1) s2.heap ∧ ∀ b ∈ fp, H' b = none) E s1) E s
  done : ∀ (X : Cx), X.prog = P → X.w = w → X.K = K → X.calm = true → ∀ (i : Nat) (pins : List (Addr × Obj)) (s : Shared) (σ : St) (H : Hp) (E : Value → Shared → Prop), Inv X pins σ H s → (∀ b ∈ fp, FpOk X pins H b) → tn i s.heap → J.stop i H →
    wpAny (model P w) X.A (pyNext (.ref it)) (fun r s1 => r = none ∧ Inv X pins σ H s1) E s
  self : ∀ (A : Around) (i : Nat) (s : Shared) (Q : Value → Shared → Prop) (E : Value → Shared → Prop), tn i s.heap → Q (.ref it) s → wpAny (model P w) A (pyIter (.ref it)) Q E s
abbrev TI := St → Hp → (It → Hp → Prop) → Prop

def PIE (X : Cx) (pins : List (Addr × Obj)) (σ : St) (tg : Expr) (R : It → Hp → Prop) (itv : Value) (s2 : Shared) : Prop :=
  ∃ (it : Addr) (fp : List Addr) (tn : Nat → Heap → Prop) (J : It) (H' : Hp), itv = .ref it ∧ Inv X pins σ H' s2 ∧ Turn X.prog X.w X.K tg J fp it tn ∧ tn 0 s2.heap ∧ (∀ b ∈ fp, FpOk X pins H' b) ∧ R J H'
def PI (X : Cx) (tg iter : Expr) (wi : TI) : Prop :=
  ∀ (pins : List (Addr × Obj)) (s : Shared) (σ : St) (H : Hp) (R : It → Hp → Prop), Inv X pins σ H s → wi σ H R →
    wpAny (model X.prog X.w) X.A (eval iter X.env) (fun v s1 => wpAny (model X.prog X.w) X.A (pyIter v) (PIE X pins σ tg R) X.xe s1) X.xe s


theorem go_of {M : Model} {A : Around} {E : Value → Shared → Prop} {s : Shared} {tg : Expr} {it : Addr} {u : Value} {o : Obj} {n : String} {vs : Array Value} {Q : Unit → Shared → Prop} (ho : s.heap.get? it = some o) (hc : o.cls = .type n) (hd : o.data = .fields vs)
    (hn : ["enumerate", "zip", "dict_itemiterator", "dict_reverseitemiterator", "odict_iterator", "itertools.zip_longest", "itertools.pairwise"].contains n = false) (hQ : Q () s) : wpAny M A (letOwnedTupleGo tg (.ref it) u) Q E s := by
  unfold letOwnedTupleGo
  cases tg <;> first
    | exact wpAny_pure hQ
    | (cases u <;> first
        | exact wpAny_pure hQ
        | (refine wpAny_bind (wpAny_load ho ?_)
           rw [hc, hd]
           show wpAny M A (if (["enumerate", "zip", "dict_itemiterator", "dict_reverseitemiterator", "odict_iterator", "itertools.zip_longest", "itertools.pairwise"].contains n && vs[0]? == some (rawInt _)) = true then _ else _) Q E s
           rw [if_neg (by intro h; rw [hn, Bool.false_and] at h; cases h)]
           exact wpAny_pure hQ))


def Itr (lo : Int) (n : Nat) : It := ⟨fun i _ => i < n, fun i H x H' => H' = H ∧ x = .int (lo + i), fun i _ => n ≤ i⟩
theorem turn_range {P : Program} {w : World} {K : PySem.W.Frag} {tg : Expr} (it : Addr) (lo : Int) (n : Nat) : Turn P w K tg (Itr lo n) [it] it (fun i h => IsRangeIter h it (lo + (i : Nat) * 1) ((n : Int) - (i : Nat)) 1) where
  mem := by simp
  obj := fun i h st b hb => by
    have e : b = it := by simpa using hb
    subst e
    exact ⟨_, st, fun v z => by
      have z' : Data.fields _ = Data.cell v := z
      cases z'⟩
  keep := fun i h h' st k => k it (by simp) _ st
  item := by
    intro X hP hw hK hc i pins s σ H E I hf st hg
    subst hP hw hK
    obtain ⟨f0, f1, f2, f3, f4, f5⟩ := hf it (by simp)
    have W := Walks.range (prog := X.prog) (w := X.w) (I.ok.hd hc) it lo 1 n
    refine W.item i s _ _ hg st fun v h' tk hv st' kk => ?_
    obtain ⟨t, rfl⟩ := hv
    have I1 : Inv X pins σ H { s with heap := h', toks := tk } := I.turned (fun b o hb e => kk b o (by simpa using hb) e) f0 f1 f3 f4 f5
    refine ⟨_, rfl, go_of (s := { s with heap := h', toks := tk }) (n := "range_iterator") st' rfl rfl (by decide) ⟨.int (lo + i), H, I1, ⟨t, ?_⟩, ⟨rfl, rfl⟩, st', fun b hb => (hf b hb).1⟩⟩
    rw [Int.mul_one]
  done := by
    intro X hP hw hK hc i pins s σ H E I hf st hg
    subst hP hw hK
    obtain ⟨f0, f1, f2, f3, f4, f5⟩ := hf it (by simp)
    exact wpAny_pyNext_range_end (I.ok.hd hc) st (by have : n ≤ i := hg; omega) fun h' eb => ⟨rfl, I.turned (t' := s.toks) (fun b o hb e => eb b o hb e) f0 f1 f3 f4 f5⟩
  self := fun _ _ _ _ _ st h => wpAny_pyIter_rangeiter st h
end L2

namespace L2
open PySem PySem.Spec PyProof.Rows
section
variable {X : Cx} {tg : Expr}
theorem range_it {pins : List (Addr × Obj)} {σ : St} {H : Hp} {s : Shared} {R : It → Hp → Prop} {E : Value → Shared → Prop} {lo hi : Int} {t u v : Tok} {tk : Nat} (I : Inv X pins σ H s) (h1 : -(2 ^ 62) ≤ lo) (h2 : lo < 2 ^ 62) (h3 : -(2 ^ 62) ≤ hi) (h4 : hi < 2 ^ 62)
    (q : R (Itr lo (hi - lo).toNat) H) : wpAny (model X.prog X.w) X.A (pyIter (.ref s.heap.objs.size)) (PIE X pins σ tg R) E { s with heap := s.heap.push { cls := .type "range", data := .fields #[.int lo t, .int hi u, .int 1 v] }, toks := tk } := by
  refine wpAny_pyIter_range (IsRange.new ..) (small_one h1 h2 h3 h4) ?_
  have I1 : Inv X pins σ H { s with heap := s.heap.push { cls := .type "range", data := .fields #[.int lo t, .int hi u, .int 1 v] }, toks := tk } := I.kept fun b o e => Heap.get?_push_of_some _ e
  refine ⟨(s.heap.push { cls := .type "range", data := .fields #[.int lo t, .int hi u, .int 1 v] }).objs.size, [(s.heap.push { cls := .type "range", data := .fields #[.int lo t, .int hi u, .int 1 v] }).objs.size], _, _, H, rfl,
    I1.kept (t' := tk) fun b o e => Heap.get?_push_of_some _ e, turn_range _ lo (hi - lo).toNat, ?_, fun b hb => ?_, q⟩
  · have e1 : lo + ((0 : Nat) : Int) * 1 = lo := by simp
    have e2 : (((hi - lo).toNat : Nat) : Int) - ((0 : Nat) : Int) = Builtin.Range.rangeSize lo hi 1 := by rw [rangeSize_one]; split <;> omega
    show IsRangeIter _ _ (lo + ((0 : Nat) : Int) * 1) ((((hi - lo).toNat : Nat) : Int) - ((0 : Nat) : Int)) 1
    rw [e1, e2]
    exact Heap.get?_push_size _ rfl
  · have e : b = (s.heap.push { cls := .type "range", data := .fields #[.int lo t, .int hi u, .int 1 v] }).objs.size := by simpa using hb
    subst e
    exact I1.fpOk (Nat.le_refl _) (I1.hok.fresh (Nat.le_refl _))
def iRng2 (ta : TA) : TI := fun σ H R => ta σ H fun vs H1 => ∃ i j : Int, vs = [.int i, .int j] ∧ (-(2 ^ 62) ≤ i ∧ i < 2 ^ 62 ∧ -(2 ^ 62) ≤ j ∧ j < 2 ^ 62) ∧ R (Itr i (j - i).toNat) H1
theorem pi_range2 {a b : Expr} {ta : TA} {p pos : Pos} (hg : Gl X "range") (hm : X.mg "range" = none) (ha : PA X [a, b] ta) (hs : starEach [a, b] X.env = [(false, eval a X.env), (false, eval b X.env)] := by rfl) (hs2 : starEach [b] X.env = [(false, eval b X.env)] := by rfl) :
    PI X tg (.Call (.Name "range" p) [a, b] [] pos) (iRng2 ta) := by
  intro pins s σ H R I h
  refine Call_ (ld_blt I hg hm boot_range (PyProof.Rows.callWith_type1 (thn (ha pos pins s σ H _ I h) fun us s1 ⟨vs, H1, I1, r1, q1⟩ => ?_) (by rw [hs, hs2]) (by rw [hs2]; rfl)))
  obtain ⟨i, j, e, ⟨q1, q2, q3, q4⟩, q⟩ := q1
  subst e
  cases r1 with
  | cons r rr =>
    cases rr with
    | cons r' rr =>
      cases rr
      obtain ⟨t, rfl⟩ := r
      obtain ⟨t', rfl⟩ := r'
      exact call_range_2 (range_it I1 q1 q2 q3 q4 q)



def pinsAt (fp : List Addr) (h : Heap) : List (Addr × Obj) := fp.filterMap fun b => (h.get? b).map fun o => (b, o)
theorem mem_pinsAt {fp : List Addr} {h : Heap} {b : Addr} {o : Obj} (hb : b ∈ fp) (e : h.get? b = some o) : (b, o) ∈ pinsAt fp h := List.mem_filterMap.mpr ⟨b, hb, by rw [e]; rfl⟩
theorem of_pinsAt {fp : List Addr} {h : Heap} {p : Addr × Obj} (hp : p ∈ pinsAt fp h) : p.1 ∈ fp ∧ h.get? p.1 = some p.2 := by
  obtain ⟨b, hb, e⟩ := List.mem_filterMap.mp hp
  cases q : h.get? b with
  | none => rw [q] at e; cases e
  | some o =>
    rw [q] at e
    have e' : (b, o) = p := Option.some.inj e
    subst e'
    exact ⟨hb, q⟩
theorem Inv.pinned {pins : List (Addr × Obj)} {σ : St} {H : Hp} {s : Shared} {fp : List Addr} (I : Inv X pins σ H s) (hf : ∀ b ∈ fp, FpOk X pins H b) (ho : ∀ b ∈ fp, ∃ o, s.heap.get? b = some o ∧ ∀ v, o.data ≠ .cell v) : Inv X (pins ++ pinsAt fp s.heap) σ H s :=
  I.pins_of fun p hp => (List.mem_append.mp hp).elim (fun z => I.pin p (List.mem_append_right _ z)) fun z => by
    obtain ⟨hb, e⟩ := of_pinsAt z
    obtain ⟨f0, f1, f2, _⟩ := hf p.1 hb
    obtain ⟨o, e', d⟩ := ho p.1 hb
    rw [e] at e'; cases e'
    exact ⟨e, f0, f1, f2, d⟩
theorem Inv.unpinned {pins pl : List (Addr × Obj)} {σ : St} {H : Hp} {s : Shared} (I : Inv X (pins ++ pl) σ H s) : Inv X pins σ H s := I.pins_of fun p hp => I.pin p (List.mem_append_right _ (List.mem_append_left _ hp))
end



end L2

namespace L2
open PySem PySem.Spec PyProof.Rows

abbrev R2 := V → V → Hp → VK → Prop

def OpR (X : Cx) (f : Value → Value → Sem Value) (r : R2) : Prop :=
  ∀ (pins : List (Addr × Obj)) (s : Shared) (σ : St) (H : Hp) (x y : V) (v u : Value) (Q : VK), Inv X pins σ H s → RelV x v → RelV y u → r x y H Q →
    wpAny (model X.prog X.w) X.A (f v u) (EP X pins σ Q) X.xe s

def UnR (X : Cx) (f : Value → Sem Value) (r : V → Hp → VK → Prop) : Prop :=
  ∀ (pins : List (Addr × Obj)) (s : Shared) (σ : St) (H : Hp) (x : V) (v : Value) (Q : VK), Inv X pins σ H s → RelV x v → r x H Q →
    wpAny (model X.prog X.w) X.A (f v) (EP X pins σ Q) X.xe s

def CallR (X : Cx) (f : Value) (r : List V → Hp → VK → Prop) : Prop :=
  ∀ (pins : List (Addr × Obj)) (s : Shared) (σ : St) (H : Hp) (xs : List V) (us : List Value) (Q : VK), Inv X pins σ H s → Vals xs us → r xs H Q →
    wpAny (model X.prog X.w) X.A (call f us) (EP X pins σ Q) X.xe s

def TruR (X : Cx) (r : V → Hp → (Bool → Hp → Prop) → Prop) : Prop :=
  ∀ (pins : List (Addr × Obj)) (s : Shared) (σ : St) (H : Hp) (x : V) (v : Value) (Q : Bool → Hp → Prop), Inv X pins σ H s → RelV x v → r x H Q →
    wpAny (model X.prog X.w) X.A (truthy v) (TP X pins σ Q) X.xe s

def tOp (r : R2) (ta tb : TE) : TE := fun σ H Q => ta σ H fun x H1 => tb σ H1 fun y H2 => r x y H2 Q
def tUn (r : V → Hp → VK → Prop) (ta : TE) : TE := fun σ H Q => ta σ H fun x H1 => r x H1 Q

def rI (C : Int → Int → Prop) (g : Int → Int → V) : R2 := fun x y H Q => ∃ i j, x = .int i ∧ y = .int j ∧ C i j ∧ Q (g i j) H
def rI0 (g : Int → Int → V) : R2 := fun x y H Q => ∃ i j, x = .int i ∧ y = .int j ∧ Q (g i j) H
def rU (g : Int → V) : V → Hp → VK → Prop := fun x H Q => ∃ i, x = .int i ∧ Q (g i) H

section
variable {X : Cx} {a b c : Expr} {ta tb tc : TE} {pos : Pos}

theorem binT (ha : PE X a ta) (hb : PE X b tb) {pins : List (Addr × Obj)} {s : Shared} {σ : St} {H : Hp} {R : V → V → Hp → Prop} (I : Inv X pins σ H s)
    (h : ta σ H fun x H1 => tb σ H1 fun y H2 => R x y H2) {Q : Value → Shared → Prop} {f : Value → Value → Sem Value}
    (hf : ∀ v u s2 x y H2, Inv X pins σ H2 s2 → RelV x v → RelV y u → R x y H2 → wpAny (model X.prog X.w) X.A (f v u) Q X.xe s2) :
    wpAny (model X.prog X.w) X.A (eval a X.env) (fun v s₁ => wpAny (model X.prog X.w) X.A (eval b X.env) (fun u s₂ => wpAny (model X.prog X.w) X.A (f v u) Q X.xe s₂) X.xe s₁) X.xe s := by
  refine thn (ha pins s σ H _ I h) fun v s1 ⟨x, H1, I1, r1, q1⟩ => ?_
  refine thn (hb pins s1 σ H1 _ I1 q1) fun u s2 ⟨y, H2, I2, r2, q2⟩ => ?_
  exact hf v u s2 x y H2 I2 r1 r2 q2

theorem pe_op {op : Operator} {r : R2} (ho : OpR X (binaryOp op) r) (ha : PE X a ta) (hb : PE X b tb) : PE X (.BinOp a op b pos) (tOp r ta tb) := by
  intro pins s σ H Q I h
  exact wpAny_BinOp (binT ha hb I h fun v u s2 x y H2 I2 rx ry q => ho pins s2 σ H2 x y v u Q I2 rx ry q)
theorem pe_un {op : UnaryOp} {r : V → Hp → VK → Prop} (ho : UnR X (unaryOp op) r) (ha : PE X a ta) : PE X (.UnaryOp op a pos) (tUn r ta) := by
  intro pins s σ H Q I h
  exact UnaryOp_ (thn (ha pins s σ H _ I h) fun v s1 ⟨x, H1, I1, r1, q1⟩ => ho pins s1 σ H1 x v Q I1 r1 q1)

theorem opI {f : Value → Value → Sem Value} {C : Int → Int → Prop} {g : Int → Int → Int}
    (rule : ∀ (i j : Int) (t u : Tok) (s : Shared) (Q : Value → Shared → Prop) (E : Value → Shared → Prop), C i j → Q (.int (g i j) s.toks) { s with toks := s.toks + 1 } → wpAny (model X.prog X.w) X.A (f (.int i t) (.int j u)) Q E s) :
    OpR X f (rI C fun i j => .int (g i j)) := by
  intro pins s σ H x y v u Q I rx ry h
  obtain ⟨i, j, rfl, rfl, hc, q⟩ := h
  obtain ⟨t, rfl⟩ := rx
  obtain ⟨t', rfl⟩ := ry
  exact rule i j t t' s _ _ hc ⟨.int (g i j), H, I.tok _, ⟨_, rfl⟩, q⟩
theorem opI0 {f : Value → Value → Sem Value} {g : Int → Int → Int}
    (rule : ∀ (i j : Int) (t u : Tok) (s : Shared) (Q : Value → Shared → Prop) (E : Value → Shared → Prop), Q (.int (g i j) s.toks) { s with toks := s.toks + 1 } → wpAny (model X.prog X.w) X.A (f (.int i t) (.int j u)) Q E s) :
    OpR X f (rI0 fun i j => .int (g i j)) := by
  intro pins s σ H x y v u Q I rx ry h
  obtain ⟨i, j, rfl, rfl, q⟩ := h
  obtain ⟨t, rfl⟩ := rx
  obtain ⟨t', rfl⟩ := ry
  exact rule i j t t' s _ _ ⟨.int (g i j), H, I.tok _, ⟨_, rfl⟩, q⟩
theorem opB0 {f : Value → Value → Sem Value} {g : Int → Int → Bool}
    (rule : ∀ (i j : Int) (t u : Tok) (s : Shared) (Q : Value → Shared → Prop) (E : Value → Shared → Prop), Q (.bool (g i j)) s → wpAny (model X.prog X.w) X.A (f (.int i t) (.int j u)) Q E s) :
    OpR X f (rI0 fun i j => .bl (g i j)) := by
  intro pins s σ H x y v u Q I rx ry h
  obtain ⟨i, j, rfl, rfl, q⟩ := h
  obtain ⟨t, rfl⟩ := rx
  obtain ⟨t', rfl⟩ := ry
  exact rule i j t t' s _ _ ⟨.bl (g i j), H, I, rfl, q⟩

def CDiv (i j : Int) : Prop := 0 < j ∧ j < 1073741824
theorem op_add : OpR X (binaryOp .Add) (rI0 fun i j => .int (i + j)) := opI0 fun _ _ _ _ _ _ _ q => add_int q
theorem op_sub : OpR X (binaryOp .Sub) (rI0 fun i j => .int (i - j)) := opI0 fun _ _ _ _ _ _ _ q => sub_int q
theorem op_fdiv : OpR X (binaryOp .FloorDiv) (rI CDiv fun i j => .int (i / j)) := opI fun i j _ _ _ _ _ hc q => by
  have h1 : (0 : Int) < j := hc.1
  have h2 : j < 1073741824 := hc.2
  exact floordiv_int (by omega) (by rw [Int.fdiv_eq_ediv_of_nonneg i (by omega)]; exact q) (.inl (PyProof.noPylong_small (by omega)))
theorem op_mod : OpR X (binaryOp .Mod) (rI (fun _ j => 0 < j) fun i j => .int (i % j)) := opI fun i j _ _ _ _ _ hc q => by
  have h1 : (0 : Int) < j := hc
  exact mod_int' (by omega) (by rw [Int.fmod_eq_emod_of_nonneg i (by omega)]; exact q)
theorem unI {f : Value → Sem Value} {g : Int → Int}
    (rule : ∀ (i : Int) (t : Tok) (s : Shared) (Q : Value → Shared → Prop) (E : Value → Shared → Prop), Q (.int (g i) s.toks) { s with toks := s.toks + 1 } → wpAny (model X.prog X.w) X.A (f (.int i t)) Q E s) :
    UnR X f (rU fun i => .int (g i)) := by
  intro pins s σ H x v Q I rx h
  obtain ⟨i, rfl, q⟩ := h
  obtain ⟨t, rfl⟩ := rx
  exact rule i t s _ _ ⟨.int (g i), H, I.tok _, ⟨_, rfl⟩, q⟩
theorem un_neg : UnR X (unaryOp .USub) (rU fun i => .int (-i)) := unI fun _ _ _ _ _ q => neg_int q
end



def scal : V → V → Bool
  | .non, .non => true | .non, .int _ => true | .int _, .non => true | .non, .bl _ => true | .bl _, .non => true | .non, .str _ => true | .str _, .non => true
  | .int _, .int _ => true | .bl _, .bl _ => true | .str _, .str _ => true | .byt _, .byt _ => true
  | .int _, .str _ => true | .str _, .int _ => true | .bl _, .str _ => true | .str _, .bl _ => true
  | _, _ => false
def rEq : R2 := fun x y H Q => scal x y = true ∧ Q (.bl (decide (x = y))) H
def rNe : R2 := fun x y H Q => scal x y = true ∧ Q (.bl (!decide (x = y))) H

theorem dec_int {i j : Int} : decide (V.int i = V.int j) = (i == j) := by
  rw [Bool.eq_iff_iff]
  simp
theorem dec_bl {i j : Bool} : decide (V.bl i = V.bl j) = (i == j) := by
  rw [Bool.eq_iff_iff]
  simp
theorem dec_str {i j : Str} : decide (V.str i = V.str j) = (i == j) := by
  rw [Bool.eq_iff_iff]
  simp
theorem dec_byt {i j : Array UInt8} : decide (V.byt i = V.byt j) = (i.toList == j.toList) := by
  rw [Bool.eq_iff_iff]
  cases i
  cases j
  simp

section
variable {X : Cx} {a b c : Expr} {ta tb tc : TE} {pos : Pos}
theorem fin_bl {pins : List (Addr × Obj)} {σ : St} {H : Hp} {s : Shared} {Q : VK} {k k' : Bool} (I : Inv X pins σ H s) (q : Q (.bl k) H) (e : k = k') : EP X pins σ Q (.bool k') s := by
  subst e
  exact ⟨.bl k, H, I, rfl, q⟩
theorem op_eq : OpR X (compareOp .Eq) rEq := by
  intro pins s σ H x y v u Q I rx ry h
  obtain ⟨hs, q⟩ := h
  cases x with
  | non =>
    cases rx
    cases y with
    | non => cases ry; exact PySem.EqNone.eq_none_none (fin_bl I q (by simp))
    | bl j => cases ry; exact PySem.EqNone.eq_none_bool (fin_bl I q (by simp))
    | int j => obtain ⟨t', rfl⟩ := ry; exact PySem.EqNone.eq_none_int (fin_bl I q (by simp))
    | str j => obtain ⟨t', rfl⟩ := ry; exact PySem.EqNone.eq_none_str (fin_bl I q (by simp))
    | _ => exact absurd (show false = true from hs) Bool.false_ne_true
  | bl i =>
    cases rx
    cases y with
    | non => cases ry; exact PySem.EqNone.eq_bool_none (fin_bl I q (by simp))
    | bl j => cases ry; exact eq_bool (fin_bl I q dec_bl)
    | str j => obtain ⟨t', rfl⟩ := ry; exact PySem.EqMixed.eq_bool_str (fin_bl I q (by simp))
    | _ => exact absurd (show false = true from hs) Bool.false_ne_true
  | int i =>
    obtain ⟨t, rfl⟩ := rx
    cases y with
    | non => cases ry; exact PySem.EqNone.eq_int_none (fin_bl I q (by simp))
    | int j => obtain ⟨t', rfl⟩ := ry; exact eq_int (fin_bl I q dec_int)
    | str j => obtain ⟨t', rfl⟩ := ry; exact PySem.EqMixed.eq_int_str (fin_bl I q (by simp))
    | _ => exact absurd (show false = true from hs) Bool.false_ne_true
  | str i =>
    obtain ⟨t, rfl⟩ := rx
    cases y with
    | non => cases ry; exact PySem.EqNone.eq_str_none (fin_bl I q (by simp))
    | bl j => cases ry; exact PySem.EqMixed.eq_str_bool (fin_bl I q (by simp))
    | int j => obtain ⟨t', rfl⟩ := ry; exact PySem.EqMixed.eq_str_int (fin_bl I q (by simp))
    | str j => obtain ⟨t', rfl⟩ := ry; exact eq_str (fin_bl I q dec_str)
    | _ => exact absurd (show false = true from hs) Bool.false_ne_true
  | byt i =>
    obtain ⟨t, rfl⟩ := rx
    cases y with
    | byt j => obtain ⟨t', rfl⟩ := ry; exact PySem.W.eq_bytes (fin_bl I q dec_byt)
    | _ => exact absurd (show false = true from hs) Bool.false_ne_true
  | _ => cases y <;> exact absurd (show false = true from hs) Bool.false_ne_true
theorem op_ne : OpR X (compareOp .NotEq) rNe := by
  intro pins s σ H x y v u Q I rx ry h
  obtain ⟨hs, q⟩ := h
  cases x with
  | non =>
    cases rx
    cases y with
    | non => cases ry; exact PySem.EqNone.ne_none_none (fin_bl I q (by simp))
    | bl j => cases ry; exact PySem.EqNone.ne_none_bool (fin_bl I q (by simp))
    | int j => obtain ⟨t', rfl⟩ := ry; exact PySem.EqNone.ne_none_int (fin_bl I q (by simp))
    | str j => obtain ⟨t', rfl⟩ := ry; exact PySem.EqNone.ne_none_str (fin_bl I q (by simp))
    | _ => exact absurd (show false = true from hs) Bool.false_ne_true
  | bl i =>
    cases rx
    cases y with
    | non => cases ry; exact PySem.EqNone.ne_bool_none (fin_bl I q (by simp))
    | bl j => cases ry; exact ne_bool (fin_bl I q (congrArg not dec_bl))
    | str j => obtain ⟨t', rfl⟩ := ry; exact PySem.EqMixed.ne_bool_str (fin_bl I q (by simp))
    | _ => exact absurd (show false = true from hs) Bool.false_ne_true
  | int i =>
    obtain ⟨t, rfl⟩ := rx
    cases y with
    | non => cases ry; exact PySem.EqNone.ne_int_none (fin_bl I q (by simp))
    | int j => obtain ⟨t', rfl⟩ := ry; exact ne_int (fin_bl I q (congrArg not dec_int))
    | str j => obtain ⟨t', rfl⟩ := ry; exact PySem.EqMixed.ne_int_str (fin_bl I q (by simp))
    | _ => exact absurd (show false = true from hs) Bool.false_ne_true
  | str i =>
    obtain ⟨t, rfl⟩ := rx
    cases y with
    | non => cases ry; exact PySem.EqNone.ne_str_none (fin_bl I q (by simp))
    | bl j => cases ry; exact PySem.EqMixed.ne_str_bool (fin_bl I q (by simp))
    | int j => obtain ⟨t', rfl⟩ := ry; exact PySem.EqMixed.ne_str_int (fin_bl I q (by simp))
    | str j => obtain ⟨t', rfl⟩ := ry; exact ne_str (fin_bl I q (congrArg not dec_str))
    | _ => exact absurd (show false = true from hs) Bool.false_ne_true
  | byt i =>
    obtain ⟨t, rfl⟩ := rx
    cases y with
    | byt j => obtain ⟨t', rfl⟩ := ry; exact PySem.W.ne_bytes (fin_bl I q (congrArg not dec_byt))
    | _ => exact absurd (show false = true from hs) Bool.false_ne_true
  | _ => cases y <;> exact absurd (show false = true from hs) Bool.false_ne_true

theorem op_lt : OpR X (compareOp .Lt) (rI0 fun i j => .bl (decide (i < j))) := opB0 fun _ _ _ _ _ _ _ q => lt_int q
theorem op_gt : OpR X (compareOp .Gt) (rI0 fun i j => .bl (decide (j < i))) := opB0 fun _ _ _ _ _ _ _ q => gt_int q
theorem op_isN : OpR X (compareOp .Is) (fun x y H Q => y = .non ∧ Q (.bl (decide (x = .non))) H) := by
  intro pins s σ H x y v u Q I rx ry h
  obtain ⟨rfl, q⟩ := h
  cases ry
  refine is_none_gen (fin_bl I q ?_)
  cases x <;> first
    | (cases rx; rfl)
    | (obtain ⟨t, rfl⟩ := rx; rfl)
theorem OpR.or {f : Value → Value → Sem Value} {r r' : R2} (h : OpR X f r) (h' : OpR X f r') : OpR X f (fun x y H Q => r x y H Q ∨ r' x y H Q) := by
  intro pins s σ H x y v u Q I rx ry q
  rcases q with q | q
  · exact h pins s σ H x y v u Q I rx ry q
  · exact h' pins s σ H x y v u Q I rx ry q

theorem nomark (b : Expr) {op : CmpOp} (h : op ≠ .In := by decide) (h2 : op ≠ .NotIn := by decide) : behindInMarks op b = false := by
  have e1 : (op == CmpOp.In) = false := by cases op <;> first | rfl | exact absurd rfl h
  have e2 : (op == CmpOp.NotIn) = false := by cases op <;> first | rfl | exact absurd rfl h2
  cases b <;> simp [behindInMarks, e1, e2]

theorem pe_cmpR {op : CmpOp} {r : R2} (ho : OpR X (compareOp op) r) (ha : PE X a ta) (hb : PE X b tb) (hm : behindInMarks op b = false) : PE X (.Compare a [op] [b] pos) (tOp r ta tb) := by
  intro pins s σ H Q I h
  exact wpAny_Compare1 (binT ha hb I h fun v u s2 x y H2 I2 rx ry q => ho pins s2 σ H2 x y v u Q I2 rx ry q) hm

def tTest (t : TE) : TT := fun σ H Q => t σ H fun x H' => ∃ k, x = .bl k ∧ Q k H'
theorem pt_cmpR {op : CmpOp} {r : R2} (ho : OpR X (compareOp op) r) (ha : PE X a ta) (hb : PE X b tb) (hm : behindInMarks op b = false) : PT X (.Compare a [op] [b] pos) (tTest (tOp r ta tb)) := by
  intro pins s σ H Q I h
  refine wpAny_isTrue_Compare1 (thn (ha pins s σ H _ I h) fun v s1 ⟨x, H1, I1, r1, q1⟩ => thn (hb pins s1 σ H1 _ I1 q1) fun u s2 ⟨y, H2, I2, r2, q2⟩ =>
    thn (ho pins s2 σ H2 x y v u _ I2 r1 r2 q2) fun c s3 ⟨z, H3, I3, r3, k, e, q3⟩ => ?_) hm
  subst e
  cases r3
  exact wpAny_truthy_bool ⟨H3, I3, q3⟩

def TruV (K : PySem.W.Frag) (x : V) (H : Hp) (k : Bool) : Prop :=
  match x with
  | .non => k = false
  | .bl b => k = b
  | .int i => k = (i != 0)
  | .str y => y.length ≤ sizeLine ∧ k = ((y.length : Int) != 0)
  | .byt y => y.size ≤ sizeLine ∧ k = ((y.size : Int) != 0)
  | .ref p => (∃ xs, SqL K H p xs ∧ k = !xs.isEmpty) ∨ (∃ xs, SqT K H p xs ∧ k = !xs.isEmpty) ∨ ∃ kvs, H p = some (.dK kvs) ∧ k = !kvs.isEmpty
  | _ => False
theorem isEmpty_kv {κ : Type} {kvs : List (κ × V)} {vs : List (κ × Value)} (r : KV kvs vs) : (!vs.isEmpty) = !kvs.isEmpty := by
  cases r <;> rfl
theorem isEmpty_of {xs : List V} {its : List Value} (r : Vals xs its) : (!its.toArray.isEmpty) = !xs.isEmpty := by
  cases r <;> simp
theorem line63 : (sizeLine : Nat) < 2 ^ 63 := by rw [sizeLine_eq]; decide
theorem tru_ok : TruR X (fun x H Q => ∃ k, TruV X.K x H k ∧ Q k H) := by
  intro pins s σ H x v Q I rx h
  obtain ⟨k, e, q⟩ := h
  have hl := line63
  have hs : sizeLine = 16777216 := sizeLine_eq
  cases x with
  | non =>
    cases rx
    have e' : k = false := e
    subst e'
    exact truthy_none ⟨H, I, q⟩
  | bl b =>
    cases rx
    have e' : k = b := e
    subst e'
    exact wpAny_truthy_bool ⟨H, I, q⟩
  | int i =>
    obtain ⟨t, rfl⟩ := rx
    have e' : k = (i != 0) := e
    subst e'
    exact PySem.P.truthy_int ⟨H, I, q⟩
  | str y =>
    obtain ⟨t, rfl⟩ := rx
    obtain ⟨hy, e'⟩ : y.length ≤ sizeLine ∧ k = ((y.length : Int) != 0) := e
    subst e'
    exact PySem.P.truthy_str (by omega) ⟨H, I.tok _, q⟩
  | byt y =>
    obtain ⟨t, rfl⟩ := rx
    obtain ⟨hy, e'⟩ : y.size ≤ sizeLine ∧ k = ((y.size : Int) != 0) := e
    subst e'
    exact PySem.W.truthy_bytes (by omega) ⟨H, I.tok _, q⟩
  | ref p =>
    cases rx
    have e' : (∃ xs, SqL X.K H p xs ∧ k = !xs.isEmpty) ∨ (∃ xs, SqT X.K H p xs ∧ k = !xs.isEmpty) ∨ ∃ kvs, H p = some (.dK kvs) ∧ k = !kvs.isEmpty := e
    rcases e' with ⟨xs, hx, e'⟩ | ⟨xs, hx, e'⟩ | ⟨kvs, hx, e'⟩
    · subst e'
      obtain ⟨its, r, pl, hz⟩ := I.list hx
      have hlen := r.length
      exact wpAny_truthy_list pl.isList (by simp only [List.size_toArray]; omega) ⟨H, I.tok _, by rw [isEmpty_of r]; exact q⟩
    · subst e'
      obtain ⟨its, r, pl, hz⟩ := I.tuple hx
      have hlen := r.length
      exact truthy_tuple pl (by simp only [List.size_toArray]; omega) ⟨H, I.tok _, by rw [isEmpty_of r]; exact q⟩
    · subst e'
      obtain ⟨hz, hS, vs, r, m⟩ : kvs.length ≤ sizeLine ∧ (p == sysModules) = false ∧ ∃ vs, KV kvs vs ∧ s.heap.DictOf (mixKind X.prog X.w) p vs := I.hok p _ hx
      have hlen : kvs.length = vs.length := Paired.length r
      exact wpAny_truthy_dict hS m (by omega) ⟨H, I.tok _, by rw [isEmpty_kv r]; exact q⟩
  | _ => exact (show False from e).elim

theorem pt_truth (ha : PE X a ta) (he : ∀ whole, isTrue a X.env whole = (do let v ← whole; standAt a.pos; holding [v] (truthy v))) :
    PT X a (fun σ H Q => ta σ H fun x H' => ∃ k, TruV X.K x H' k ∧ Q k H') := by
  intro pins s σ H Q I h
  exact isTrue_plain (thn (ha pins s σ H _ I h) fun v s1 ⟨x, H1, I1, r1, q1⟩ => tru_ok pins s1 σ H1 x v Q I1 r1 q1) (he _)


theorem op_add_str : OpR X (binaryOp .Add) (fun x y H Q => ∃ i j, x = .str i ∧ y = .str j ∧ i.length + j.length ≤ sizeLine ∧ Q (.str (i ++ j)) H) := by
  intro pins s σ H x y v u Q I rx ry h
  obtain ⟨i, j, rfl, rfl, hz, q⟩ := h
  obtain ⟨t, rfl⟩ := rx
  obtain ⟨t', rfl⟩ := ry
  exact add_str (fun t' tk => ⟨.str (i ++ j), H, I.tok _, ⟨_, rfl⟩, q⟩) hz
theorem vals1 {x : V} {us : List Value} (r : Vals [x] us) : ∃ u, us = [u] ∧ RelV x u := by
  cases r with
  | cons r1 r2 => cases r2; exact ⟨_, rfl, r1⟩
theorem vals2 {x y : V} {us : List Value} (r : Vals [x, y] us) : ∃ u w', us = [u, w'] ∧ RelV x u ∧ RelV y w' := by
  cases r with
  | cons r1 r2 =>
    cases r2 with
    | cons r3 r4 => cases r4; exact ⟨_, _, rfl, r1, r3⟩
def LenV (K : PySem.W.Frag) (x : V) (H : Hp) (n : Nat) : Prop :=
  match x with
  | .str y => y.length ≤ sizeLine ∧ n = y.length
  | .byt y => y.size ≤ sizeLine ∧ n = y.size
  | .ref p => (∃ xs, SqL K H p xs ∧ n = xs.length) ∨ ∃ xs, SqT K H p xs ∧ n = xs.length
  | _ => False
theorem call_len : CallR X (.builtin "len") (fun xs H Q => ∃ x n, xs = [x] ∧ LenV X.K x H n ∧ Q (.int n) H) := by
  intro pins s σ H xs us Q I r h
  obtain ⟨x, n, rfl, e, q⟩ := h
  obtain ⟨u, rfl, rx⟩ := vals1 r
  have hl := line63
  have hs : sizeLine = 16777216 := sizeLine_eq
  cases x with
  | str y =>
    obtain ⟨t, rfl⟩ := rx
    obtain ⟨hy, e'⟩ : y.length ≤ sizeLine ∧ n = y.length := e
    subst e'
    exact len_str (by omega) ⟨.int _, H, I.tok _, ⟨_, rfl⟩, q⟩
  | byt y =>
    obtain ⟨t, rfl⟩ := rx
    obtain ⟨hy, e'⟩ : y.size ≤ sizeLine ∧ n = y.size := e
    subst e'
    exact PySem.W.len_bytes (by omega) ⟨.int _, H, I.tok _, ⟨_, rfl⟩, q⟩
  | ref p =>
    cases rx
    have e' : (∃ xs, SqL X.K H p xs ∧ n = xs.length) ∨ ∃ xs, SqT X.K H p xs ∧ n = xs.length := e
    rcases e' with ⟨xs, hx, e'⟩ | ⟨xs, hx, e'⟩
    · subst e'
      obtain ⟨its, r', pl, hz⟩ := I.list hx
      have hlen := r'.length
      exact Calls.call_len_list pl.isList (by simp only [List.size_toArray]; omega) ⟨.int xs.length, H, I.tok _, ⟨_, by simp only [List.size_toArray]; rw [hlen]⟩, q⟩
    · subst e'
      obtain ⟨its, r', pl, hz⟩ := I.tuple hx
      have hlen := r'.length
      exact len_tuple pl (by simp only [List.size_toArray]; omega) ⟨.int xs.length, H, I.tok _, ⟨_, by simp only [List.size_toArray]; rw [hlen]⟩, q⟩
  | _ => exact (show False from e).elim

end
end L2

namespace L2
open PySem PySem.Spec PyProof.Rows


structure ObjM (h : Heap) (x dx C : Addr) (mA : Str → Option Value) : Prop where
  obj : h.get? x = some (PySem.W.instObj C dx)
  ns : h.Ns1 dx mA
  ne : dx ≠ x

theorem lookIn_ns {h : Heap} {dx : Addr} {mA : Str → Option Value} (n : h.Ns1 dx mA) : ∃ od, h.get? dx = some od ∧ ∀ name, PySem.W.lookIn name od = some (mA name) := by
  obtain ⟨o, es, ep, ho, hd, hk, _, hm⟩ := n
  refine ⟨o, ho, fun name => ?_⟩
  have e := hm name
  unfold nsFind findBy at e
  rw [← Array.find?_toList] at e
  unfold PySem.W.lookIn
  rw [hd]
  dsimp only
  split
  · rename_i y q
    rw [q] at e
    exact congrArg some e
  · rename_i q
    rw [q] at e
    have a : es.toList.any (·.refKey) = false := by
      rw [List.any_eq_false]
      intro y hy
      obtain ⟨z, t, hkey⟩ := hk y (Array.mem_toList_iff.mp hy)
      simp [DictEntry.refKey, hkey]
    have a' : ¬ es.toList.any (·.refKey) = true := by rw [a]; exact Bool.false_ne_true
    rw [if_neg a']
    exact congrArg some e

theorem ObjM.look {h : Heap} {x dx C : Addr} {mA : Str → Option Value} (I : ObjM h x dx C mA) : ∃ od, PySem.W.InstAt h x (PySem.W.instObj C dx) C (some od) ∧ ∀ name, PySem.W.lookIn name od = some (mA name) :=
  let ⟨od, ho, hl⟩ := lookIn_ns I.ns
  ⟨od, ⟨I.obj, rfl, rfl, ho⟩, hl⟩

section
variable {prog : Program} {w : World} {A : Around} {E : Value → Shared → Prop} {s : Shared} {K : PySem.W.Frag} {x dx C f : Addr} {mA : Str → Option Value} {name : Str} {v : Value}

theorem get_map {expr : Bool} {Q : Value → Shared → Prop} (X : K.In s.heap) (I : ObjM s.heap x dx C mA) (hg : PySem.W.plainGet K C name = true) (hh : PySem.W.hasDictIn K C = true)
    (ha : PySem.W.findIn K (.ref C) name = some none) (hv : mA name = some v) (hv' : PySem.W.handedIn v = true) (h : Q v { s with toks := s.toks + 1 }) :
    wpAny (model prog w) A (getAttr (.ref x) name expr) Q E s := by
  obtain ⟨od, J, hl⟩ := I.look
  exact PySem.W.get_value X J (PySem.W.plainGet_of hg).1 (PySem.W.findObj_own hh ha rfl (by rw [hl, hv])) hv' h

theorem get_meth {pl : Sem Bool} {Q : Value × List Value → Shared → Prop} (X : K.In s.heap) (I : ObjM s.heap x dx C mA) (hg : PySem.W.plainGet K C name = true)
    (hf : PySem.W.findIn K (.ref C) name = some (some (.ref f))) (ht : PySem.W.isFn K (.ref f) = true) (hv : mA name = none) (h : Q (.ref f, [.ref x]) s) :
    wpAny (model prog w) A (getMethod (.ref x) name pl) Q E s := by
  obtain ⟨od, J, hl⟩ := I.look
  exact PySem.W.method_fn X J (PySem.W.plainGet_of hg).1 (PySem.W.plainGet_of hg).2 hf (beq_iff_eq.mp ht) (by show (PySem.W.lookIn name od).map (·.isSome) = some false; rw [hl, hv]; rfl) h

theorem set_map {ns : List Str} {Q : Unit → Shared → Prop} (X : K.In s.heap) (I : ObjM s.heap x dx C mA)
    (hs : PySem.W.findIn K (.ref C) "__setattr__" = some (some (.builtin "object.__setattr__"))) (hp : PySem.W.plainOver K C = true) (ht : PySem.W.takerIn K C name = some none) (hh : PySem.W.hasDictIn K C = true)
    (hw : PySem.Within mA ns) (hsz : ns.length ≤ sizeLine)
    (h : ∀ h', ObjM h' x dx C (fun y => if y = name then some v else mA y) → Heap.SameBut dx s.heap h' → Q () { s with heap := h', toks := s.toks + 2 }) :
    wpAny (model prog w) A (setAttr (.ref x) name v) Q E s := by
  obtain ⟨od, J, hl⟩ := I.look
  refine PySem.W.set_plain X J hs (PySem.W.osa_open (s := { s with toks := s.toks + 1 }) (r := none) X J hp ht fun b => ?_)
  obtain ⟨cd, hc, hd'⟩ := PySem.W.any_some hh
  have hx : s.heap.get? x = some ⟨.ref C, some dx, .plain, #[]⟩ := I.obj
  refine wpAny_bind (wpAny_pure (wpAny_bind (wpAny_bind (wpAny_loadPart hx (wpAny_bind (PySem.W.Looks.here (s := { s with toks := s.toks + 1 }) (PySem.W.looks_clsIn X hc) ?_))))))
  rw [hd']
  refine wpAny_pure (a := some dx) (wpAny_bind (wpAny_pure (wpAny_bind ?_)))
  refine wpAny_nsSet1 (s := { s with toks := s.toks + 1 }) I.ns fun h' hn2 hs2 => ?_
  obtain ⟨oD, esD, epD, hoD, hdD, hcD⟩ := hn2.count (PySem.Within.cons name v hw)
  refine wpAny_bind (wpAny_lookBehind hoD (by rw [hdD]; exact pastItsLine_dict (Nat.le_trans hcD (by rw [List.length_cons]; omega))) ?_)
  exact wpAny_pure (h _ ⟨(hs2.2 _ (Ne.symm I.ne)).trans I.obj, hn2, I.ne⟩ hs2)


theorem make_map {R : Result → Shared → Prop} {vs : List Value} {kw : List (Str × Value)} (X : K.In s.heap) (hm : PySem.W.makesIn K C = true)
    (hi : PySem.W.findIn K (.ref C) "__init__" = some (some (.ref f))) (hf : PySem.W.typeIn K (.ref f) = some (.type "function"))
    (h : codeAny (model prog w) (A.under (.builtin "type.__call__" ⟨.ref C :: vs, kw⟩)) (.call (.ref f) ⟨.ref (s.heap.objs.size + 1) :: vs, kw⟩) (PySem.W.InitBack (s.heap.objs.size + 1) R)
      { s with heap := (s.heap.push PySem.W.emptyDict).push (PySem.W.instObj C s.heap.objs.size) }) :
    codeAny (model prog w) A (.call (.ref C) ⟨vs, kw⟩) R s := by
  obtain ⟨hh, g, d, t, os⟩ := s
  exact PySem.W.make_core (PySem.W.makes_of X hm) (PySem.W.looks_findIn X hi) (fun self => PySem.W.bind_fn X self hf) (.inl rfl) h

end


def putF (f : Str) (v : V) : List (Str × V) → List (Str × V)
  | [] => [(f, v)]
  | (g, x) :: r => if g = f then (g, v) :: r else (g, x) :: putF f v r
theorem lookup_putF (f g : Str) (v : V) : ∀ fs : List (Str × V), (putF f v fs).lookup g = if g = f then some v else fs.lookup g
  | [] => by
    show List.lookup g [(f, v)] = _
    by_cases h : g = f
    · have hb : (g == f) = true := beq_iff_eq.mpr h
      simp only [List.lookup, hb, if_pos h]
    · have hb : (g == f) = false := beq_eq_false_iff_ne.mpr h
      simp only [List.lookup, hb, if_neg h]
  | (k, x) :: r => by
    have ih := lookup_putF f g v r
    rw [show putF f v ((k, x) :: r) = (if k = f then (k, v) :: r else (k, x) :: putF f v r) from rfl]
    by_cases hk : k = f
    · rw [if_pos hk]
      by_cases h : g = k
      · have hb : (g == k) = true := beq_iff_eq.mpr h
        simp only [List.lookup, hb, if_pos (h.trans hk)]
      · have hb : (g == k) = false := beq_eq_false_iff_ne.mpr h
        simp only [List.lookup, hb, if_neg (fun e : g = f => h (e.trans hk.symm))]
    · rw [if_neg hk]
      by_cases h : g = k
      · have hb : (g == k) = true := beq_iff_eq.mpr h
        simp only [List.lookup, hb, if_neg (fun e : g = f => hk (h.symm.trans e))]
      · have hb : (g == k) = false := beq_eq_false_iff_ne.mpr h
        simp only [List.lookup, hb]
        exact ih
theorem keys_putF (f : Str) (v : V) : ∀ fs : List (Str × V), f ∈ (putF f v fs).map (·.1) ∧ ∀ g, g ∈ fs.map (·.1) → g ∈ (putF f v fs).map (·.1)
  | [] => ⟨by simp [putF], fun g h => by simp at h⟩
  | (k, x) :: r => by
    obtain ⟨i1, i2⟩ := keys_putF f v r
    rw [show putF f v ((k, x) :: r) = (if k = f then (k, v) :: r else (k, x) :: putF f v r) from rfl]
    by_cases hk : k = f
    · rw [if_pos hk]
      subst hk
      exact ⟨by simp, fun g h => by simpa using h⟩
    · rw [if_neg hk]
      refine ⟨?_, fun g h => ?_⟩
      · rw [List.map_cons]
        exact List.mem_cons_of_mem _ i1
      · rw [List.map_cons] at h ⊢
        rcases List.mem_cons.mp h with e | e
        · exact List.mem_cons.mpr (.inl e)
        · exact List.mem_cons_of_mem _ (i2 g e)
theorem length_putF (f : Str) (v : V) : ∀ fs : List (Str × V), (putF f v fs).length ≤ fs.length + 1
  | [] => by simp [putF]
  | (k, x) :: r => by
    have ih := length_putF f v r
    rw [show putF f v ((k, x) :: r) = (if k = f then (k, v) :: r else (k, x) :: putF f v r) from rfl]
    by_cases hk : k = f
    · rw [if_pos hk, List.length_cons, List.length_cons]; omega
    · rw [if_neg hk, List.length_cons, List.length_cons]; omega

theorem RelO.some_of {v : V} {o : Option Value} (r : RelO (some v) o) : ∃ u, o = some u ∧ RelV v u := by
  cases o with
  | none => exact (show False from r).elim
  | some u => exact ⟨u, rfl, r⟩
theorem RelO.none_of {o : Option Value} (r : RelO none o) : o = none := by
  cases o with
  | none => rfl
  | some u => exact (show False from r).elim
theorem handed_of {v : V} {u : Value} (r : RelV v u) : PySem.W.handedIn u = true := by
  cases v with
  | non => cases (show u = Value.none from r); rfl
  | bl b => cases (show u = Value.bool b from r); rfl
  | int i => obtain ⟨t, e⟩ := (show ∃ t, u = Value.int i t from r); cases e; rfl
  | str x => obtain ⟨t, e⟩ := (show ∃ t, u = Value.str x t from r); cases e; rfl
  | byt b => obtain ⟨t, e⟩ := (show ∃ t, u = Value.bytes b t from r); cases e; rfl
  | flt b => obtain ⟨t, e⟩ := (show ∃ t, u = Value.float b t from r); cases e; rfl
  | ref a => cases (show u = Value.ref a from r); rfl
  | ty n => cases (show u = Value.type n from r); rfl

section
variable {P : Program} {w : World} {H H' : Hp} {h h' : Heap} {a C dx : Addr} {fs fs' : List (Str × V)}
theorem ins_get (hok : HOk P w H h) (e : H a = some (.ins C dx fs)) : ∃ mA, ObjM h a dx C mA ∧ (∀ f, RelO (fs.lookup f) (mA f)) ∧ PySem.Within mA (fs.map (·.1)) ∧ fs.length ≤ 1000 ∧ H dx = some (.own a) := by
  obtain ⟨d, z, ne, ob, mA, n, r, q⟩ := (show ObjOk P w H h a (.ins C dx fs) from hok a _ e)
  exact ⟨mA, ⟨ob, n, ne⟩, r, q, z, d⟩
end


structure Cls (K : PySem.W.Frag) (C : Addr) : Prop where
  pg : PySem.W.plainGet K C Str.empty = true
  hd : PySem.W.hasDictIn K C = true
  po : PySem.W.plainOver K C = true
  sa : PySem.W.findIn K (.ref C) "__setattr__" = some (some (.builtin "object.__setattr__"))
theorem Cls.get {K : PySem.W.Frag} {C : Addr} (c : Cls K C) (f : Str) : PySem.W.plainGet K C f = true := c.pg

def NoAttr (K : PySem.W.Frag) (C : Addr) (f : Str) : Prop := PySem.W.findIn K (.ref C) f = some none
theorem NoAttr.taker {K : PySem.W.Frag} {C : Addr} {f : Str} (n : NoAttr K C f) : PySem.W.takerIn K C f = some none := by
  unfold PySem.W.takerIn
  rw [show PySem.W.findIn K (.ref C) f = some none from n]
  rfl

structure Meth (K : PySem.W.Frag) (C : Addr) (m : Str) (f : Addr) : Prop where
  at_ : PySem.W.findIn K (.ref C) m = some (some (.ref f))
  fn : PySem.W.isFn K (.ref f) = true
  kp : PySem.W.keepIn K (.ref f) = true

section
variable {X : Cx} {pins : List (Addr × Obj)} {σ : St} {H : Hp} {s : Shared} {a C dx : Addr} {fs : List (Str × V)} {f : Str} {v : V} {A : Around} {E : Value → Shared → Prop}

theorem getattr_ok {b : Bool} {Q : Value → Shared → Prop} (I : Inv X pins σ H s) (e : H a = some (.ins C dx fs)) (c : Cls X.K C) (n : NoAttr X.K C f) (l : fs.lookup f = some v)
    (h : ∀ u s', Inv X pins σ H s' → RelV v u → Q u s') : wpAny (model X.prog X.w) A (getAttr (.ref a) f b) Q E s := by
  obtain ⟨mA, O, r, _, _, _⟩ := ins_get I.hok e
  obtain ⟨u, hu, ru⟩ := RelO.some_of (v := v) (o := mA f) (by rw [← l]; exact r f)
  exact get_map I.kIn O (c.get f) c.hd n hu (handed_of ru) (h u _ (I.tok _) ru)

theorem getmeth_ok {m : Str} {g : Addr} {pl : Sem Bool} {Q : Value × List Value → Shared → Prop} (I : Inv X pins σ H s) (e : H a = some (.ins C dx fs)) (c : Cls X.K C) (k : Meth X.K C m g) (l : fs.lookup m = none)
    (h : Q (.ref g, [.ref a]) s) : wpAny (model X.prog X.w) A (getMethod (.ref a) m pl) Q E s := by
  obtain ⟨mA, O, r, _, _, _⟩ := ins_get I.hok e
  have hn : mA m = none := RelO.none_of (by rw [← l]; exact r m)
  exact get_meth I.kIn O (c.get m) k.at_ k.fn hn h

theorem setattr_ok {y : V} {u : Value} {Q : Unit → Shared → Prop} (I : Inv X pins σ H s) (e : H a = some (.ins C dx fs)) (c : Cls X.K C) (n : NoAttr X.K C f) (hl : fs.length < 1000) (ry : RelV y u)
    (h : ∀ s', Inv X pins σ (upd H a (.ins C dx (putF f y fs))) s' → Q () s') : wpAny (model X.prog X.w) A (setAttr (.ref a) f u) Q E s := by
  obtain ⟨mA, O, r, wi, _, ho⟩ := ins_get I.hok e
  have hz : (fs.map (·.1)).length ≤ sizeLine := by rw [List.length_map, sizeLine_eq]; omega
  refine set_map I.kIn O c.sa c.po n.taker c.hd wi hz fun h' O' sb => h _ ?_
  have hd : ∃ o, h'.get? dx = some o := let ⟨o, _, _, e', _⟩ := O'.ns; ⟨o, e'⟩
  refine I.write (x := a) (e := dx) (by rw [e]; exact True.intro) (.inr ho) (fun b q hb z => (sb.2 b hb).trans z) hd ?_
  refine ⟨by rw [upd_ne O.ne]; exact ho, ?_, O.ne, O'.obj, _, O'.ns, fun g => ?_, fun g hg => ?_⟩
  · have := length_putF f y fs; omega
  · show RelO ((putF f y fs).lookup g) (if g = f then some u else mA g)
    rw [lookup_putF]
    by_cases q : g = f
    · rw [if_pos q, if_pos q]; exact ry
    · rw [if_neg q, if_neg q]; exact r g
  · by_cases q : g = f
    · rw [q]; exact (keys_putF f y fs).1
    · refine (keys_putF f y fs).2 g (wi g fun z => hg ?_)
      show (if g = f then some u else mA g) = none
      rw [if_neg q]; exact z


theorem Inv.made (I : Inv X pins σ H s) : Inv X pins σ (upd (upd H s.heap.objs.size (.own (s.heap.objs.size + 1))) (s.heap.objs.size + 1) (.ins C s.heap.objs.size []))
    { s with heap := (s.heap.push PySem.W.emptyDict).push (PySem.W.instObj C s.heap.objs.size) } := by
  have e1 : (s.heap.push PySem.W.emptyDict).get? s.heap.objs.size = some PySem.W.emptyDict := Heap.get?_push_size s.heap rfl
  have e2 : ((s.heap.push PySem.W.emptyDict).push (PySem.W.instObj C s.heap.objs.size)).get? (s.heap.objs.size + 1) = some (PySem.W.instObj C s.heap.objs.size) := by
    have := Heap.get?_push_size (s.heap.push PySem.W.emptyDict) (o := PySem.W.instObj C s.heap.objs.size) rfl
    rwa [Heap.size_push] at this
  have e3 : (s.heap.push PySem.W.emptyDict).Ns s.heap.objs.size (fun _ => none) := ⟨PySem.W.emptyDict, #[], _, e1, rfl, (fun e he => absurd he (by simp)), fun _ => rfl⟩
  have I1 := I.laid (a := s.heap.objs.size) (o := .own (s.heap.objs.size + 1)) (h' := s.heap.push PySem.W.emptyDict) (t' := s.toks) (fun b u q => Heap.get?_push_of_some _ q) (Nat.le_refl _) ⟨_, e1⟩
  refine I1.laid (a := s.heap.objs.size + 1) (o := .ins C s.heap.objs.size []) (t' := s.toks) (fun b u q => Heap.get?_push_of_some _ q) (Nat.le_of_eq (Heap.size_push _ _)) ?_
  have ne : s.heap.objs.size ≠ s.heap.objs.size + 1 := Nat.ne_of_lt (Nat.lt_succ_self _)
  refine ⟨by rw [upd_ne ne, upd_same], Nat.zero_le _, ne, e2, fun _ => none, (Heap.Ns1.of_empty e3).at fun o q => Heap.get?_push_of_some _ q, fun _ => True.intro, fun y hy => absurd rfl hy⟩


theorem attr_of {prog : Program} {w : World} {env : Env} {e : Expr} {f : Str} {pos : Pos} {s : Shared} {Q : Value → Shared → Prop} (hb : attributeBase e f env (eval e env) = eval e env)
    (h : wpAny (model prog w) A (eval e env) (fun o s₁ => wpAny (model prog w) A (getAttr o f true) Q E s₁) E s) : wpAny (model prog w) A (eval (.Attribute e f pos) env) Q E s :=
  Attribute_any_ h (by rw [arm_eval_Attribute, hb])
end



def tFld (K : PySem.W.Frag) (ta : TE) (f : Str) : TE := fun σ H Q => ta σ H fun x H1 => ∃ a C dx fs v, x = .ref a ∧ H1 a = some (.ins C dx fs) ∧ Cls K C ∧ NoAttr K C f ∧ fs.lookup f = some v ∧ Q v H1

def sFld (K : PySem.W.Frag) (ta tv : TE) (f : Str) : TS := fun D σ H => tv σ H fun y H1 => ta σ H1 fun x H2 => ∃ a C dx fs, x = .ref a ∧ H2 a = some (.ins C dx fs) ∧ Cls K C ∧ NoAttr K C f ∧ fs.length < 1000 ∧
  D.nx σ (upd H2 a (.ins C dx (putF f y fs)))

section
variable {X : Cx} {o e value : Expr} {f : Str} {pos pos' tpos : Pos} {ta tv : TE}
theorem pe_fld (he : PE X e ta) (hb : attributeBase e f X.env (eval e X.env) = eval e X.env) : PE X (.Attribute e f pos) (tFld X.K ta f) := by
  intro pins s σ H Q I h
  refine attr_of hb (thn (he pins s σ H _ I h) fun u s1 ⟨x, H1, I1, rx, a, C, dx, fs, v, ex, ea, c, n, l, q⟩ => ?_)
  subst ex
  obtain rfl : u = Value.ref a := rx
  exact getattr_ok I1 ea c n l fun u' s2 I2 ru => ⟨v, H1, I2, ru, q⟩
theorem ps_fld (ha : PE X o ta) (hv : PE X value tv) (hs : swapsWith value (some (.Attribute o f pos')) pos.line X.env = pure false) : PS X (.Assign [.Attribute o f pos'] value pos) (sFld X.K ta tv f) := by
  intro pins s σ H D I h
  refine plainObj_wpAny_Assign_Attribute (thn (hv pins s σ H _ I h) fun u s1 ⟨y, H1, I1, ry, q⟩ => thn (ha pins s1 σ H1 _ I1 q) fun ov s2 ⟨x, H2, I2, rx, a, C, dx, fs, ex, ea, c, n, l, q2⟩ => ?_) hs
  subst ex
  obtain rfl : ov = Value.ref a := rx
  exact setattr_ok I2 ea c n l ry fun s3 I3 => ⟨σ, _, I3, q2⟩
end


section
variable {X : Cx} {pins : List (Addr × Obj)} {σ : St} {H : Hp} {s : Shared} {A : Around} {E : Value → Shared → Prop} {Q : Value → Shared → Prop} {c : Value} {b : Bool}

inductive TyOf (K : PySem.W.Frag) (H : Hp) : V → Value → Prop where
  | non : TyOf K H .non (.type "NoneType")
  | bl (x : Bool) : TyOf K H (.bl x) (.type "bool")
  | int (i : Int) : TyOf K H (.int i) (.type "int")
  | str (x : Str) : TyOf K H (.str x) (.type "str")
  | flt (x : UInt64) : TyOf K H (.flt x) (.type "float")
  | lst {a : Addr} {xs : List V} (e : H a = some (.lst xs)) : TyOf K H (.ref a) (.type "list")
  | frz {a : Addr} {o : Obj} {xs : List V} (e : H a = some (.frz o (.lst xs))) : TyOf K H (.ref a) (.type "list")
  | tup {a : Addr} {xs : List V} (e : H a = some (.tup xs)) : TyOf K H (.ref a) (.type "tuple")
  | dK {a : Addr} {kvs : List (Key × V)} (e : H a = some (.dK kvs)) : TyOf K H (.ref a) (.type "dict")
  | dT {a : Addr} {kvs : List (List Key × V)} (e : H a = some (.dT kvs)) : TyOf K H (.ref a) (.type "dict")
  | ins {a C dx : Addr} {fs : List (Str × V)} (e : H a = some (.ins C dx fs)) (cl : Cls K C) (ha : PySem.W.findIn K (.ref C) "__class__" = some (some (.builtin "object.__class__")))
      (hn : PySem.W.specialIn K (.builtin "object.__class__") "__get__" = some (some (.builtin "getset_descriptor.__get__"))) (htk : PySem.W.takesIn K (.builtin "object.__class__") = some true)
      (hm : PySem.W.mroIn K C (.type "object") = some true) : TyOf K H (.ref a) (.ref C)

theorem isinst_ok {x : V} {u t : Value} (I : Inv X pins σ H s) (rx : RelV x u) (ty : TyOf X.K H x t) (e : PySem.W.kitOne X.K t c = some b) (h : ∀ tk, Q (.bool b) { s with toks := tk }) :
    wpAny (model X.prog X.w) A (call (.builtin "isinstance") [u, c]) Q E s := by
  cases ty with
  | non => cases (show u = Value.none from rx); exact PySem.W.kia_one PySem.W.kitx_none I.kIn True.intro e (fun z => nomatch z) h
  | bl y => cases (show u = Value.bool y from rx); exact PySem.W.kia_one PySem.W.kitx_bool I.kIn True.intro e (fun z => nomatch z) h
  | int i => obtain ⟨t, q⟩ := (show ∃ t, u = Value.int i t from rx); cases q; exact PySem.W.kia_one PySem.W.kitx_int I.kIn True.intro e (fun z => nomatch z) h
  | str y => obtain ⟨t, q⟩ := (show ∃ t, u = Value.str y t from rx); cases q; exact PySem.W.kia_one PySem.W.kitx_str I.kIn True.intro e (fun z => nomatch z) h
  | flt y => obtain ⟨t, q⟩ := (show ∃ t, u = Value.float y t from rx); cases q; exact PySem.W.kia_one PySem.W.kitx_float I.kIn True.intro e (fun z => nomatch z) h
  | @lst a xs ea =>
    cases (show u = Value.ref a from rx)
    obtain ⟨_, _, n, _, h1⟩ := (show ObjOk X.prog X.w H s.heap a (.lst xs) from I.hok a _ ea)
    exact PySem.W.kia_one PySem.W.kitx_list I.kIn ⟨_, h1, rfl⟩ e (fun z => nomatch z) h
  | @frz a ob xs ea =>
    cases (show u = Value.ref a from rx)
    obtain ⟨_, _, _, n, _, h1⟩ := (show ObjOk X.prog X.w H s.heap a (.frz ob (.lst xs)) from I.hok a _ ea)
    exact PySem.W.kia_one PySem.W.kitx_list I.kIn ⟨_, h1, rfl⟩ e (fun z => nomatch z) h
  | @tup a xs ea =>
    cases (show u = Value.ref a from rx)
    obtain ⟨_, _, _, p⟩ := (show ObjOk X.prog X.w H s.heap a (.tup xs) from I.hok a _ ea)
    obtain ⟨o, h1, h2, _⟩ := p
    exact PySem.W.kia_one PySem.W.kitx_tuple I.kIn ⟨o, h1, h2⟩ e (fun z => nomatch z) h
  | @dK a kvs ea =>
    cases (show u = Value.ref a from rx)
    obtain ⟨_, _, vs, _, p⟩ := (show ObjOk X.prog X.w H s.heap a (.dK kvs) from I.hok a _ ea)
    obtain ⟨o, es, ep, h1, h2, _⟩ := p
    exact PySem.W.kia_one PySem.W.kitx_dict I.kIn ⟨o, h1, h2.1⟩ e (fun z => nomatch z) h
  | @dT a kvs ea =>
    cases (show u = Value.ref a from rx)
    obtain ⟨_, _, xs, _, o, es, ep, h1, h2, _⟩ := (show ObjOk X.prog X.w H s.heap a (.dT kvs) from I.hok a _ ea)
    exact PySem.W.kia_one PySem.W.kitx_dict I.kIn ⟨o, h1, h2.1⟩ e (fun z => nomatch z) h
  | @ins a C dx fs ea cl ha hn htk hm =>
    cases (show u = Value.ref a from rx)
    obtain ⟨mA, O, _⟩ := ins_get I.hok ea
    obtain ⟨od, J, _⟩ := O.look
    exact PySem.W.kia_one (PySem.W.kitx_own (cl.get _) cl.hd ha hn htk hm) I.kIn J e (fun z => nomatch z) h
end
end L2

namespace L2
open PySem PySem.Spec PyProof.Rows


structure Room (k : Nat) (A : Around) : Prop where
  hd : A.handled = none
  dp : A.depth + 3 * k + 5 < recursionLimit
  un : A.units + 16 * k + 200 < cLine
theorem Room.mono {j k : Nat} {A : Around} (r : Room k A) (h : j ≤ k) : Room j A := ⟨r.hd, by have := r.dp; omega, by have := r.un; omega⟩
theorem Room.deeper {k : Nat} {A : Around} (r : Room (k + 1) A) (env : Env) : Room k (A.deeper env) :=
  ⟨r.hd, by have := r.dp; show A.depth + 1 + 3 * k + 5 < _; omega, by have := r.un; show A.units + 3 + 16 * k + 200 < _; omega⟩
theorem make_depth {A : Around} {C : Addr} {us : List Value} {kw : List (Str × Value)} : (A.under (.builtin "type.__call__" ⟨.ref C :: us, kw⟩)).depth = A.depth + 1 := by
  first | rfl | simp [Around.under, Code.weight, Code.isCreation, Code.isGuard, Code.isCaller, Code.frames, Code.isFrame, guardIds]
theorem make_units {A : Around} {C : Addr} {us : List Value} {kw : List (Str × Value)} : (A.under (.builtin "type.__call__" ⟨.ref C :: us, kw⟩)).units = A.units + 1 := by
  first | rfl | simp [Around.under, Code.cUnits, Code.frames, Code.isFrame]
theorem Room.make {k : Nat} {A : Around} (r : Room (k + 1) A) (C : Addr) (us : List Value) (kw : List (Str × Value)) : Room k (A.under (.builtin "type.__call__" ⟨.ref C :: us, kw⟩)) :=
  ⟨r.hd, by have := r.dp; rw [make_depth]; omega, by have := r.un; rw [make_units]; omega⟩
theorem Room.depth {k : Nat} {A : Around} (r : Room k A) : A.depth < recursionLimit := by have := r.dp; omega
theorem Room.units {k : Nat} {A : Around} (r : Room k A) : A.units + 64 < cLine := by have := r.un; omega
def tNil : TA := fun _ H Q => Q [] H
def tCons (ta : TE) (tr : TA) : TA := fun σ H Q => ta σ H fun x H1 => tr σ H1 fun xs H2 => Q (x :: xs) H2
section
variable {X : Cx} {e : Expr} {es : List Expr} {te : TE} {t : TA} {pos : Pos}
theorem pa_nil : PA X [] tNil := fun _ _ _ _ H Q I h => Calls.spliced_nil ⟨[], H, I, .nil, h⟩
theorem pa_cons (ha : PE X e te) (hr : PA X es t) (hs : starEach (e :: es) X.env = (false, eval e X.env) :: starEach es X.env := by rfl) : PA X (e :: es) (tCons te t) := by
  intro pos pins s σ H Q I h
  rw [hs]
  show wpAny _ _ (spliced ((false, eval e X.env) :: backTo pos (starEach es X.env))) _ _ s
  refine Calls.spliced_cons (thn (ha pins s σ H _ I h) fun u s1 ⟨x, H1, I1, r1, q1⟩ => ?_)
  exact thn (hr pos pins s1 σ H1 _ I1 q1) fun us s2 ⟨xs, H2, I2, r2, q2⟩ => ⟨x :: xs, H2, I2, .cons r1 r2, q2⟩


def tTup (t : TA) : TE := fun σ H Q => t σ H fun xs H1 => xs.length ≤ sizeLine ∧ ∀ p, H1 p = none → Q (.ref p) (upd H1 p (.tup xs))
def tLst (t : TA) : TE := fun σ H Q => t σ H fun xs H1 => xs.length ≤ sizeLine ∧ ∀ p, H1 p = none → Q (.ref p) (upd H1 p (.lst xs))
theorem pe_tup {x1} (h : PA X es t) : PE X (.Tuple es x1 pos) (tTup t) := by
  intro pins s σ H Q I hq
  refine wpAny_Tuple_spliced (thn (h pos pins s σ H _ I hq) fun us s1 ⟨xs, H1, I1, r, z, q⟩ => ⟨by rw [← r.length]; exact z, ?_⟩)
  have hf : H1 s1.heap.objs.size = none := I1.hok.fresh (Nat.le_refl _)
  refine ⟨.ref s1.heap.objs.size, upd H1 s1.heap.objs.size (.tup xs), I1.laid (t' := s1.toks) (fun b u e => Heap.get?_push_of_some _ e) (Nat.le_refl _) ?_, rfl, q _ hf⟩
  exact ⟨z, us, r, ⟨_, Heap.get?_push_size _ rfl, rfl, _, rfl⟩⟩
theorem pe_lst (h : PA X es t) : PE X (.List es pos) (tLst t) := by
  intro pins s σ H Q I hq
  refine wpAny_List_spliced (thn (h pos pins s σ H _ I hq) fun us s1 ⟨xs, H1, I1, r, z, q⟩ => ⟨by rw [← r.length]; exact z, ?_⟩)
  have hf : H1 s1.heap.objs.size = none := I1.hok.fresh (Nat.le_refl _)
  refine ⟨.ref s1.heap.objs.size, upd H1 s1.heap.objs.size (.lst xs), I1.laid (t' := s1.toks) (fun b u e => Heap.get?_push_of_some _ e) (Nat.le_refl _) ?_, rfl, q _ hf⟩
  exact ⟨z, us, 0, r, Heap.get?_push_size _ rfl⟩
end



abbrev Sp := List V → Hp → VK → XK → Prop

abbrev CXT := List Env → Hp → Shared → XK → Value → Shared → Prop


structure Env0 (P : Program) (w : World) (K : PySem.W.Frag) (mg : Str → Option Value) (base : Heap) (A : Around) (outer : List Env) (s : Shared) (H : Hp) : Prop where
  frames : A.frames = some outer
  mod : Mod K mg base
  bs : ∀ b o, base.get? b = some o → s.heap.get? b = some o ∧ H b = none
  bsz : base.objs.size ≤ s.heap.objs.size
  funs : s.heap.FunFrames base outer
  frf : ∀ b ∈ frs outer, H b = none
  hok : HOk P w H s.heap
  bare : AllBare s.gens

def CE (outer : List Env) (P : Program) (w : World) (H : Hp) (s : Shared) (Q : VK) (u : Value) (s' : Shared) : Prop :=
  ∃ v H', s'.os = s.os ∧ AllBare s'.gens ∧ Un (frs outer) [] H H' s.heap s'.heap ∧ HOk P w H' s'.heap ∧ RelV v u ∧ Q v H'
def CR (CX : CXT) (outer : List Env) (P : Program) (w : World) (H : Hp) (s : Shared) (Q : VK) (E : XK) (r : Result) (s' : Shared) : Prop :=
  match r with
  | .ok (.ret u) => CE outer P w H s Q u s'
  | .ok _ => False
  | .error e => CX outer H s E e s'
structure FnOk (P : Program) (w : World) (K : PySem.W.Frag) (mg : Str → Option Value) (base : Heap) (CX : CXT) (k : Nat) (f : Addr) (fd : FuncData) (ps : List Str) (sp : Sp) : Prop where
  len : ∀ vs H Q E, sp vs H Q E → vs.length = ps.length
  run : ∀ (A : Around) (outer : List Env) (s : Shared) (H : Hp) (args : Args) (us : List Value) (vs : List V) (Q : VK) (E : XK), Room k A → Env0 P w K mg base A outer s H → BindsTo s fd args (ps.zip us) → Vals vs us → sp vs H Q E →
    codeAny (model P w) A (.call (.ref f) args) (CR CX outer P w H s Q E) s
theorem FnOk.mono {P : Program} {w : World} {K : PySem.W.Frag} {mg : Str → Option Value} {base : Heap} {CX : CXT} {j k : Nat} {f : Addr} {fd : FuncData} {ps : List Str} {sp : Sp} (F : FnOk P w K mg base CX j f fd ps sp) (h : j ≤ k) :
    FnOk P w K mg base CX k f fd ps sp := ⟨F.len, fun A outer s H args us vs Q E hr => F.run A outer s H args us vs Q E (hr.mono h)⟩

theorem Env0.make {P : Program} {w : World} {K : PySem.W.Frag} {mg : Str → Option Value} {base : Heap} {A : Around} {outer : List Env} {s : Shared} {H : Hp} (e : Env0 P w K mg base A outer s H) (C : Addr) (us : List Value) (kw : List (Str × Value)) :
    Env0 P w K mg base (A.under (.builtin "type.__call__" ⟨.ref C :: us, kw⟩)) outer s H := ⟨by first | exact e.frames | (simpa [Around.under, Code.envs, Code.isFrame, pushEnvs] using e.frames), e.mod, e.bs, e.bsz, e.funs, e.frf, e.hok, e.bare⟩
section
variable {X : Cx} {pins : List (Addr × Obj)} {σ : St} {H : Hp} {s s' : Shared}

theorem Inv.env0 (I : Inv X pins σ H s) : Env0 X.prog X.w X.K X.mg X.base X.A X.stack s H :=
  ⟨I.ok.frames, I.ok.mod, I.bs, Nat.le_trans I.ok.bsz I.sz, I.stack, I.stkFree, I.hok, I.bare⟩

theorem Inv.after {Q : VK} {u : Value} (I : Inv X pins σ H s) (h : CE X.stack X.prog X.w H s Q u s') : EP X pins σ Q u s' := by
  obtain ⟨v, H', os, bare, un, hok, r, q⟩ := h
  obtain ⟨hh, g, d, t, os'⟩ := s'
  obtain rfl : os' = s.os := os
  exact ⟨v, H', I.call (h' := hh) (g' := g) (d' := d) (t' := t) (ch := []) un hok bare (fun b z => absurd z (by simp)), r, q⟩
end



def tCall (sp : Sp) (dvs : List V) (E : XK) (t : TA) : TE := fun σ H Q => t σ H fun vs H1 => sp (vs ++ dvs) H1 Q E

def tMake (C : Addr) (sp : Sp) (dvs : List V) (E : XK) (t : TA) : TE := fun σ H Q => t σ H fun vs H1 => ∀ x dx, H1 x = none → H1 dx = none → dx ≠ x →
  sp (.ref x :: (vs ++ dvs)) (upd (upd H1 dx (.own x)) x (.ins C dx [])) (fun v H2 => v = .non ∧ Q (.ref x) H2) E


def Binds (K : PySem.W.Frag) (fd : FuncData) (ps : List Str) (ds : List Value) : Prop :=
  ∀ (s : Shared) (us : List Value), K.In s.heap → (us ++ ds).length = ps.length → BindsTo s fd ⟨us, []⟩ (ps.zip (us ++ ds))

theorem Binds.all {K : PySem.W.Frag} {fd : FuncData} {ps : List Str} (h : ∀ us : List Value, us.length = ps.length → bindArgs fd ⟨us, []⟩ = pure (ps.zip us)) : Binds K fd ps [] := fun s us _ hl => by
  rw [List.append_nil] at hl ⊢
  exact .of_eq (h us hl)


def Passes (CX : CXT) (X : Cx) (E : XK) : Prop := ∀ (pins : List (Addr × Obj)) (σ : St) (H : Hp) (s : Shared) (e : Value) (s' : Shared), Inv X pins σ H s → CX X.stack H s E e s' → X.xe e s'

section
variable {X : Cx} {CX : CXT} {k : Nat} {f C : Addr} {fd : FuncData} {ps : List Str} {sp : Sp} {dvs : List V} {ds : List Value} {E : XK} {x m : Str} {p pos apos : Pos} {e o : Expr} {es : List Expr} {ta : TE} {t : TA}


theorem run_fn {pins : List (Addr × Obj)} {σ : St} {H : Hp} {s : Shared} {Q : VK} {us : List Value} {vs : List V} (F : FnOk X.prog X.w X.K X.mg X.base CX k f fd ps sp) (hr : Room k X.A) (hb : Binds X.K fd ps ds) (hd : Vals dvs ds) (hx : Passes CX X E)
    (I : Inv X pins σ H s) (r : Vals vs us) (h : sp (vs ++ dvs) H Q E) : wpAny (model X.prog X.w) X.A (call (.ref f) us) (EP X pins σ Q) X.xe s := by
  have r2 : Vals (vs ++ dvs) (us ++ ds) := r.append hd
  have hl : (us ++ ds).length = ps.length := by rw [← r2.length]; exact F.len _ _ _ _ h
  refine wpAny_call (codeAny_mono (F.run X.A X.stack s H ⟨us, []⟩ (us ++ ds) (vs ++ dvs) Q E hr I.env0 (hb s us I.kIn hl) r2 h) fun r s' hq => ?_)
  cases r with
  | error e => exact hx pins σ H s e s' I hq
  | ok fl =>
    cases fl with
    | ret u => exact I.after hq
    | next => exact False.elim hq
    | brk => exact False.elim hq
    | cont => exact False.elim hq

theorem pe_call (F : FnOk X.prog X.w X.K X.mg X.base CX k f fd ps sp) (hr : Room k X.A) (hg : Gl X x) (hm : X.mg x = some (.ref f)) (hk : PySem.W.keepIn X.K (.ref f) = true) (hb : Binds X.K fd ps ds) (hd : Vals dvs ds) (hx : Passes CX X E)
    (ha : PA X (e :: es) t) (hdb : (x == ("__debug__" : Str)) = false := by decide) (he : starEach (e :: es) X.env = (false, eval e X.env) :: starEach es X.env := by rfl) (hpl : (backTo pos (starEach es X.env)).any (·.1) = false := by rfl) :
    PE X (.Call (.Name x p) (e :: es) [] pos) (tCall sp dvs E t) := by
  intro pins s σ H Q I h
  refine wpAny_Call_Name_kw (ld_glob I hg hm ?_ hdb)
  refine PySem.W.callWith_K (h₀ := X.base) I.ok.mod.kin hk (thn (ha pos pins s σ H _ I h) fun us s1 ⟨vs, H1, I1, r, q⟩ => ⟨I1.kIn, ?_⟩) he hpl
  exact run_fn F hr hb hd hx I1 r q
structure Mk (K : PySem.W.Frag) (C f : Addr) : Prop where
  makes : PySem.W.makesIn K C = true
  init : PySem.W.findIn K (.ref C) "__init__" = some (some (.ref f))
  fn : PySem.W.isFn K (.ref f) = true
  kp : PySem.W.keepIn K (.ref C) = true

theorem run_make {pins : List (Addr × Obj)} {σ : St} {H : Hp} {s : Shared} {Q : VK} {us : List Value} {vs : List V} (M : Mk X.K C f) (F : FnOk X.prog X.w X.K X.mg X.base CX k f fd ps sp) (hr : Room (k + 1) X.A) (hb : Binds X.K fd ps ds) (hd : Vals dvs ds)
    (hx : Passes CX X E) (I : Inv X pins σ H s) (r : Vals vs us)
    (h : ∀ x dx, H x = none → H dx = none → dx ≠ x → sp (.ref x :: (vs ++ dvs)) (upd (upd H dx (.own x)) x (.ins C dx [])) (fun v H2 => v = .non ∧ Q (.ref x) H2) E) :
    wpAny (model X.prog X.w) X.A (call (.ref C) us) (EP X pins σ Q) X.xe s := by
  have hq := h (s.heap.objs.size + 1) s.heap.objs.size (I.hok.fresh (Nat.le_succ _)) (I.hok.fresh (Nat.le_refl _)) (Nat.ne_of_lt (Nat.lt_succ_self _))
  have I2 := Inv.made (C := C) I
  have r2 : Vals (V.ref (s.heap.objs.size + 1) :: (vs ++ dvs)) (Value.ref (s.heap.objs.size + 1) :: (us ++ ds)) := .cons rfl (r.append hd)
  have hl : (Value.ref (s.heap.objs.size + 1) :: us ++ ds).length = ps.length := by
    have e := r2.length
    rw [F.len _ _ _ _ hq] at e
    exact e.symm
  refine wpAny_call (make_map (f := f) I.kIn M.makes M.init (beq_iff_eq.mp M.fn) (codeAny_mono (F.run _ X.stack _ _ ⟨Value.ref (s.heap.objs.size + 1) :: us, []⟩ (Value.ref (s.heap.objs.size + 1) :: (us ++ ds)) _ _ E (hr.make C us [])
    (I2.env0.make C us []) (hb _ (Value.ref (s.heap.objs.size + 1) :: us) I2.kIn hl) r2 hq) fun r s' hq' => ?_))
  cases r with
  | error e => exact hx pins σ _ _ e s' I2 hq'
  | ok fl =>
    cases fl with
    | ret u =>
      obtain ⟨v, H', I3, rv, ev, q3⟩ := I2.after hq'
      subst ev
      exact ⟨rv, ⟨V.ref (s.heap.objs.size + 1), H', I3, rfl, q3⟩⟩
    | next => exact False.elim hq'
    | brk => exact False.elim hq'
    | cont => exact False.elim hq'
theorem pe_make (M : Mk X.K C f) (F : FnOk X.prog X.w X.K X.mg X.base CX k f fd ps sp) (hr : Room (k + 1) X.A) (hg : Gl X x) (hm : X.mg x = some (.ref C)) (hb : Binds X.K fd ps ds) (hd : Vals dvs ds) (hx : Passes CX X E)
    (ha : PA X (e :: es) t) (hdb : (x == ("__debug__" : Str)) = false := by decide) (he : starEach (e :: es) X.env = (false, eval e X.env) :: starEach es X.env := by rfl) (hpl : (backTo pos (starEach es X.env)).any (·.1) = false := by rfl) :
    PE X (.Call (.Name x p) (e :: es) [] pos) (tMake C sp dvs E t) := by
  intro pins s σ H Q I h
  refine wpAny_Call_Name_kw (ld_glob I hg hm ?_ hdb)
  refine PySem.W.callWith_K (h₀ := X.base) I.ok.mod.kin M.kp (thn (ha pos pins s σ H _ I h) fun us s1 ⟨vs, H1, I1, r, q⟩ => ⟨I1.kIn, ?_⟩) he hpl
  exact run_make M F hr hb hd hx I1 r q
end



section
variable {X : Cx} {CX : CXT} {k : Nat} {f C : Addr} {fd : FuncData} {ps ks : List Str} {sp : Sp} {E : XK} {x m : Str} {p pos apos kpos : Pos} {e o : Expr} {es : List Expr} {kws : List Keyword} {te ta : TE} {t tk : TA} {nm : Option Str}
variable {g : List Value → List Value → List Value} {gV : List V → List V → List V}
end



structure FnScope (N P : List Str) (sc : Scope) : Prop where
  kind : sc.kind = .function
  co : sc.isCoroutine = false
  gen : sc.isGenerator = false
  nd : N.Nodup
  pre : N.take P.length = P
  par : ∀ x ∈ P, sc.names.lookup x = some .local ∨ sc.names.lookup x = some .cell
  nofree : ∀ y ∈ sc.names, y.2 ≠ .free

theorem bindL_out {kindOf : Str → Option NameKind} {x : Str} : ∀ {binds : List (Str × Value)} {m : Str → Option Value}, (∀ v, (x, v) ∉ binds) → bindL kindOf binds m x = m x
  | [], _, _ => rfl
  | (n, v) :: r, m, h => by
    unfold bindL
    rw [bindL_out fun w hw => h w (List.mem_cons_of_mem _ hw)]
    split
    · have : x ≠ n := by rintro rfl; exact h v List.mem_cons_self
      simp [this]
    · rfl
theorem bindC_out {kindOf : Str → Option NameKind} {x : Str} : ∀ {binds : List (Str × Value)} {m : Str → Option Value}, (∀ v, (x, v) ∉ binds) → bindC kindOf binds m x = m x
  | [], _, _ => rfl
  | (n, v) :: r, m, h => by
    unfold bindC
    rw [bindC_out fun w hw => h w (List.mem_cons_of_mem _ hw)]
    split
    · rfl
    · have : x ≠ n := by rintro rfl; exact h v List.mem_cons_self
      simp [this]
theorem bindL_get {kindOf : Str → Option NameKind} {x : Str} {v : Value} : ∀ {P : List Str} {vs : List Value} {i : Nat} {m : Str → Option Value}, P.Nodup → P[i]? = some x → vs[i]? = some v → kindOf x = some .local →
    bindL kindOf (P.zip vs) m x = some v
  | [], _, _, _, _, h, _, _ => by simp at h
  | _ :: _, [], _, _, _, _, h, _ => by simp at h
  | p :: P, w :: vs, 0, m, nd, h1, h2, hk => by
    simp at h1 h2; subst h1; subst h2
    show bindL kindOf ((p, w) :: P.zip vs) m p = _
    unfold bindL
    rw [bindL_out fun v hv => (List.nodup_cons.mp nd).1 (List.of_mem_zip hv).1, if_pos hk]
    simp
  | p :: P, w :: vs, i + 1, m, nd, h1, h2, hk => by
    show bindL kindOf ((p, w) :: P.zip vs) m x = _
    unfold bindL
    exact bindL_get (i := i) (List.nodup_cons.mp nd).2 (by simpa using h1) (by simpa using h2) hk
theorem bindC_get {kindOf : Str → Option NameKind} {x : Str} {v : Value} : ∀ {P : List Str} {vs : List Value} {i : Nat} {m : Str → Option Value}, P.Nodup → P[i]? = some x → vs[i]? = some v → kindOf x ≠ some .local →
    bindC kindOf (P.zip vs) m x = some v
  | [], _, _, _, _, h, _, _ => by simp at h
  | _ :: _, [], _, _, _, _, h, _ => by simp at h
  | p :: P, w :: vs, 0, m, nd, h1, h2, hk => by
    simp at h1 h2; subst h1; subst h2
    show bindC kindOf ((p, w) :: P.zip vs) m p = _
    unfold bindC
    rw [bindC_out fun v hv => (List.nodup_cons.mp nd).1 (List.of_mem_zip hv).1, if_neg hk]
    simp
  | p :: P, w :: vs, i + 1, m, nd, h1, h2, hk => by
    show bindC kindOf ((p, w) :: P.zip vs) m x = _
    unfold bindC
    exact bindC_get (i := i) (List.nodup_cons.mp nd).2 (by simpa using h1) (by simpa using h2) hk


def start (N : List Str) (vs : List V) : St := vs.map some ++ List.replicate (N.length - vs.length) none


def cxOf (CX : CXT) (P : Program) (w : World) (K : PySem.W.Frag) (mg : Str → Option Value) (base : Heap) (N : List Str) (qual : Str) (scope : Scope) (f : Addr) (cd : Value) (A : Around) (outer : List Env) (s : Shared) (H : Hp) (E : XK) : Cx where
  prog := P
  w := w
  K := K
  mg := mg
  base := base
  A := A.deeper (envOfC qual scope s.heap.objs.size f cd)
  N := N
  s₀ := s
  H₀ := H
  env := envOfC qual scope s.heap.objs.size f cd
  outer := outer
  stack := envOfC qual scope s.heap.objs.size f cd :: outer
  ex := []
  calm := true
  fn := fun _ => true
  pn := []
  xe := fun e s' => wpAny (model P w) (A.deeper (envOfC qual scope s.heap.objs.size f cd)) (leaving (envOfC qual scope s.heap.objs.size f cd) e) (fun _ s'' => CX outer H s E e s'') (fun e' s'' => CX outer H s E e' s'') s'

theorem cell_has {sc : Scope} {n : Nat} {x : Str} (h : sc.names.lookup x = some .cell) : ∃ c, (cellsFrom n sc.names []).lookup x = some c := by
  have q := PySem.W.cellsFrom_some sc.names n [] (.inl h)
  exact Option.isSome_iff_exists.mp q

theorem inv_start {CX : CXT} {P : Program} {w : World} {K : PySem.W.Frag} {mg : Str → Option Value} {base : Heap} {N ps : List Str} {qual : Str} {scope : Scope} {f : Addr} {cd : Value} {A : Around} {outer : List Env} {s s1 : Shared} {H : Hp} {E : XK} {us : List Value} {vs : List V}
    (S : FnScope N ps scope) (hd : A.handled = none) (e0 : Env0 P w K mg base A outer s H) (hl : vs.length = ps.length) (r : Vals vs us)
    (x : InCallC s s.heap.objs.size (bindL (envOfC qual scope s.heap.objs.size f cd).kindOf (ps.zip us) fun _ => none) (cellsFrom (s.heap.objs.size + 1) scope.names []) (bindC (envOfC qual scope s.heap.objs.size f cd).kindOf (ps.zip us) fun _ => none) s1) :
    Inv (cxOf CX P w K mg base N qual scope f cd A outer s H E) [] (start N vs) H s1 := by
  have hpl : ps.length ≤ N.length := by have := congrArg List.length S.pre; rw [List.length_take] at this; omega
  obtain ⟨h1, tk, rfl, hk⟩ := x.done
  have noA : ∀ b : Addr, b ∉ (cxOf CX P w K mg base N qual scope f cd A outer s H E).ex := fun b z => absurd (show b ∈ ([] : List Addr) from z) (by simp)
  refine ⟨⟨e0.mod, S.kind, rfl, rfl, Nat.le_refl _, fun y z c h1 h2 => ?_, fun y hy => ?_, fun y c _ h => ?_, fun _ => hd, Around.frames_deeper e0.frames, .inr ⟨rfl, rfl⟩, fun b z => absurd z (noA b), e0.bs, e0.bsz, fun b _ _ => noA b, fun b z => absurd z (noA b), e0.funs, e0.frf⟩,
    rfl, e0.bare, Un.kept hk, ⟨_, x.toInCall.ns, fun i y v h1 h2 h3 => ?_⟩, fun y c h => ⟨_, x.cell y c h⟩, e0.hok.fresh (Nat.le_refl _), fun y c h => ?_, fun p hp => absurd (show p ∈ ([] : List (Addr × Obj)) from hp) (by simp), e0.hok.kept hk, ?_⟩
  · exact name_of_addr x.apart (PySem.mem_of_lookup h1) (PySem.mem_of_lookup h2)
  · have hy : scope.names.lookup y = some .cell ∨ scope.names.lookup y = some .free := hy
    rcases hy with hy | hy
    · exact cell_has hy
    · exact absurd rfl (S.nofree _ (PySem.mem_of_lookup hy))
  · exact Nat.le_of_lt (x.above y c (PySem.mem_of_lookup h))
  · have hi : i < vs.length := by
      unfold start at h2
      by_cases hi : i < vs.length
      · exact hi
      · rw [List.getElem?_append_right (by simpa using hi)] at h2
        rw [List.getElem?_replicate] at h2
        split at h2 <;> cases h2
    have ha : vs[i]? = some v := by
      unfold start at h2
      rw [List.getElem?_append_left (by simpa using hi), List.getElem?_map] at h2
      cases e : vs[i]? with
      | none => rw [e] at h2; cases h2
      | some a => rw [e] at h2; cases h2; rfl
    obtain ⟨u, hu, rv⟩ := r.get ha
    have hp : ps[i]? = some y := by
      rw [← S.pre, List.getElem?_take_of_lt (by omega)]; exact h1
    have ndP : ps.Nodup := by rw [← S.pre]; exact S.nd.sublist (List.take_sublist _ _)
    refine ⟨u, rv, ?_⟩
    rcases S.par y (List.mem_of_getElem? hp) with k | k
    · exact .inl ⟨k, bindL_get ndP hp hu k⟩
    · obtain ⟨c, e⟩ := cell_has (n := s.heap.objs.size + 1) k
      refine .inr ⟨.inl k, c, e, ?_⟩
      have q := x.cell y c e
      rw [bindC_get ndP hp hu (by show scope.names.lookup y ≠ _; rw [k]; decide)] at q
      exact q
  · exact e0.hok.fresh (Nat.le_of_lt (x.above y c (PySem.mem_of_lookup h)))
  · unfold start
    show _ = N.length
    rw [List.length_append, List.length_map, List.length_replicate]
    omega


theorem fn_of {CX : CXT} {P : Program} {w : World} {K : PySem.W.Frag} {mg : Str → Option Value} {base : Heap} {k : Nat} {f : Addr} {name qual : Str} {params : Arguments} {body : List Stmt} {scope : Scope} {dV kV doc pm cdv ct oc : Value} {an od : Option Addr}
    {osl : Array (Option Value)} {N ps : List Str} {sp : Sp} (lk : K.lookup f = some ⟨oc, od, .func (PySem.W.fnOf name qual params body scope dV kV doc pm an cdv ct), osl⟩) (hcd : PySem.W.codeIn K cdv qual = true) (S : FnScope N ps scope)
    (len : ∀ vs H Q E, sp vs H Q E → vs.length = ps.length)
    (hbody : ∀ (A : Around) (outer : List Env) (s : Shared) (H : Hp) (vs : List V) (Q : VK) (E : XK), Room k (A.deeper (envOfC qual scope s.heap.objs.size f cdv)) → sp vs H Q E →
      ∃ t, PSs (cxOf CX P w K mg base N qual scope f cdv A outer s H E) body t ∧ t { nx := fun _ H' => Q .non H', rt := Q } (start N vs) H) :
    FnOk P w K mg base CX (k + 1) f (PySem.W.fnOf name qual params body scope dV kV doc pm an cdv ct) ps sp := by
  refine ⟨len, fun A outer s H args us vs Q E hr e0 hb r hsp => ?_⟩
  have hl := len _ _ _ _ hsp
  have KX : K.In s.heap := e0.mod.kin.keeps fun b o e => (e0.bs b o e).1
  have lim : s.heap.NoLimit := e0.mod.nolimit.keeps fun b o e => (e0.bs b o e).1
  have hkind : ∀ y ∈ ps.zip us, scope.names.lookup y.1 = some .local ∨ (scope.names.lookup y.1 = some .cell ∧ ((cellsFrom (s.heap.objs.size + 1) scope.names []).lookup y.1).isSome = true) := fun ⟨n, v⟩ hy => by
    rcases S.par n (List.of_mem_zip hy).1 with q | q
    · exact .inl q
    · exact .inr ⟨q, PySem.W.cellsFrom_some _ _ _ (.inl q)⟩
  refine codeAny_call_function hr.depth (KX _ _ lk) rfl S.co S.gen rfl (PySem.W.codeRec_of KX hcd) (hb _ _ _ _ ?_)
  refine wpAny_newFunctionEnv_cells S.kind hkind fun env he s1 x => ?_
  subst he
  refine ⟨lim.keeps x.toInCall.keep, codeAny_func ?_⟩
  obtain ⟨t, ht, hq⟩ := hbody A outer s H vs Q E (hr.deeper _) hsp
  have I : Inv (cxOf CX P w K mg base N qual scope f cdv A outer s H E) [] (start N vs) H s1 := inv_start S hr.hd e0 hl r x
  refine wpAny_mono (ht [] s1 (start N vs) H _ I hq) (fun fl s' hs => ?_) fun e s' hs => hs
  have fin : ∀ {σ' : St} {H' : Hp} {v : V} {u : Value}, Inv (cxOf CX P w K mg base N qual scope f cdv A outer s H E) [] σ' H' s' → RelV v u → Q v H' → CE outer P w H s Q u s' :=
    fun {σ' H' v u} J rv q => ⟨v, H', J.os, J.bare, J.base, J.hok, rv, q⟩
  cases fl with
  | ret u =>
    obtain ⟨v, σ', H', J, rv, q⟩ := hs
    exact fin J rv q
  | next =>
    obtain ⟨σ', H', J, q⟩ := hs
    exact fin (v := V.non) (u := Value.none) J rfl q
  | brk =>
    obtain ⟨_, _, _, q⟩ := hs
    exact False.elim q
  | cont =>
    obtain ⟨_, _, _, q⟩ := hs
    exact False.elim q
end L2

namespace L2
open PySem PySem.Spec PyProof.Rows
section
variable {X : Cx} {x : Str} {p pos : Pos} {e : Expr} {es : List Expr} {t : TA} {id T : String} {r : List V → Hp → VK → Prop}

def tCB (r : List V → Hp → VK → Prop) (t : TA) : TE := fun σ H Q => t σ H fun vs H1 => r vs H1 Q

theorem pe_callB (hc : CallR X (.builtin id) r) (hg : Gl X x) (hm : X.mg x = none) (hv : bootBuiltins x = some (.builtin id)) (ha : PA X (e :: es) t) (hn : x ≠ "__name__" := by decide) (hdb : (x == ("__debug__" : Str)) = false := by decide)
    (he : starEach (e :: es) X.env = (false, eval e X.env) :: starEach es X.env := by rfl) (hpl : (backTo pos (starEach es X.env)).any (·.1) = false := by rfl) : PE X (.Call (.Name x p) (e :: es) [] pos) (tCB r t) := by
  intro pins s σ H Q I h
  refine wpAny_Call_Name_kw (ld_blt I hg hm hv ?_ hn hdb)
  exact PyProof.Rows.callWith_builtin1 (thn (ha pos pins s σ H _ I h) fun us s1 ⟨vs, H1, I1, r1, q1⟩ => hc pins s1 σ H1 vs us Q I1 r1 q1) he hpl

end
end L2

namespace HT
open PySem PyProof.Rows


section
open PySem.SeqAt
open PySem.AutoSeq1 (wpAny_loadPart')
open PySem.MeetsSeq PySem.MeetsSeq2 PySem.MeetsSeq3

end

section
variable {prog : Program} {w : World} {A : Around} {E : Value → Shared → Prop} {s : Shared}

theorem cat_tup {t b : Addr} {vs ws : List Value} {Q : Value → Shared → Prop} (ht : IsTup s.heap t vs.toArray) (hb : IsTup s.heap b ws.toArray) (hv : vs ≠ [])
    (h1 : ws = [] → Q (.ref t) s) (h2 : ws ≠ [] → Q (.ref s.heap.objs.size) { s with heap := s.heap.push { cls := .type "tuple", data := .seq (vs ++ ws).toArray } })
    (hsz : vs.length + ws.length ≤ sizeLine) : wpAny (model prog w) A (binaryOp .Add (.ref t) (.ref b)) Q E s := by
  obtain ⟨⟨cls, dd, data, sl⟩, ho, hc, n, hd⟩ := id ht
  obtain ⟨⟨cls2, dd2, data2, sl2⟩, ho2, hc2, n2, hd2⟩ := id hb
  simp only at hc hd hc2 hd2
  subst hc hd hc2 hd2
  have e : vs.toArray ++ ws.toArray = (vs ++ ws).toArray := by simp
  by_cases hw : ws = []
  · exact concat_meets ⟨_, ho, rfl⟩ ⟨_, ho2, rfl⟩ noFill_tuple_add seq_tuple_add PySem.F.slot_tuple_add PySem.F.entry_tuple_add (PySem.F.args_tuple_add_2 _ _)
      (tuple_addW1 t b vs.toArray ws.toArray n n2 dd dd2 sl sl2 (by simpa using hv) (by simp [hw])) ⟨ho, ho2, h1 hw⟩
  · refine concat_meets ⟨_, ho, rfl⟩ ⟨_, ho2, rfl⟩ noFill_tuple_add seq_tuple_add PySem.F.slot_tuple_add PySem.F.entry_tuple_add (PySem.F.args_tuple_add_2 _ _)
      (tuple_addW2 t b vs.toArray ws.toArray n n2 dd dd2 sl sl2 (by simpa using hv) (by simpa using hw) (by rw [List.size_toArray, List.size_toArray]; exact hsz)) ⟨ho, ho2, ?_⟩
    rw [e]
    exact h2 hw



def sIx (n d : Nat) : Option Int → Nat
  | none => d
  | some v => if v < 0 then (v + (n : Int)).toNat else min v.toNat n
theorem sIx_le (n d : Nat) (hd : d ≤ n) (o : Option Int) : sIx n d o ≤ n := by
  cases o with
  | none => exact hd
  | some v =>
    show (if v < 0 then (v + (n : Int)).toNat else min v.toNat n) ≤ n
    by_cases hv : v < 0
    · rw [if_pos hv]; omega
    · rw [if_neg hv]; exact Nat.min_le_right _ _
theorem clip_eq (v : Int) (n d : Nat) : (if v < 0 then max (v + (n : Int)) 0 else min v (n : Int)) = ((sIx n d (some v) : Nat) : Int) := by
  show (if v < 0 then max (v + (n : Int)) 0 else min v (n : Int)) = (((if v < 0 then (v + (n : Int)).toNat else min v.toNat n) : Nat) : Int)
  by_cases hv : v < 0
  · simp only [if_pos hv]; omega
  · simp only [if_neg hv]; omega
theorem adjust_gen (lo hi : Option Int) (n : Nat) : Builtin.Slice.sliceAdjust lo hi 1 (n : Int) = (((sIx n 0 lo : Nat) : Int), ((sIx n n hi : Nat) : Int)) := by
  have h1 : ¬ ((1 : Int) < 0) := by omega
  unfold Builtin.Slice.sliceAdjust
  simp only [h1, if_false]
  refine Prod.ext ?_ ?_
  · cases lo with
    | none => rfl
    | some v => exact clip_eq v n 0
  · cases hi with
    | none => rfl
    | some v => exact clip_eq v n n
theorem places_gen (i j : Nat) : Builtin.Slice.slicePlaces (i : Int) (j : Int) 1 = j - i := by
  unfold Builtin.Slice.slicePlaces
  have h1 : (1 : Int) > 0 := by omega
  simp only [h1, if_true, Int.ediv_one]
  split <;> omega
theorem slicePart_ {v : Value} {o : Option Int} {Q : Option Int → Shared → Prop} (p : IsPart v o) (h : Q o s) : wpAny (model prog w) A (Builtin.Slice.slicePartIndex v) Q E s := by
  cases p with
  | none => exact slicePart_none h
  | int i t => exact slicePart_int h
theorem sliceApplied_gen {sl : Addr} {vl vu : Value} {lo hi : Option Int} {n : Nat} {Q : Int × Int × Nat → Shared → Prop} (hs : s.heap.IsSliceOf sl vl vu .none) (pl : IsPart vl lo) (pu : IsPart vu hi)
    (h : Q (((sIx n 0 lo : Nat) : Int), 1, sIx n n hi - sIx n 0 lo) s) : wpAny (model prog w) A (Builtin.Slice.sliceApplied (.ref sl) (pure (n : Int))) Q E s := by
  obtain ⟨os, hos, hcs, hds⟩ := id hs
  unfold Builtin.Slice.sliceApplied Builtin.Slice.sliceFields
  refine wpAny_bind (wpAny_bind (wpAny_field hos hds (x := vl) rfl (wpAny_bind (wpAny_field hos hds (x := vu) rfl (wpAny_bind (wpAny_field hos hds (x := .none) rfl (wpAny_pure ?_)))))))
  refine wpAny_bind (slicePart_none ?_)
  show wpAny _ _ (if ((1 : Int) == 0) = true then _ else _) _ _ s
  rw [if_neg (by decide)]
  refine wpAny_bind (slicePart_ pl (wpAny_bind (slicePart_ pu (wpAny_bind (wpAny_pure ?_)))))
  show wpAny _ _ (match Builtin.Slice.sliceAdjust lo hi 1 (n : Int) with | (lo, hi) => pure (lo, (1 : Int), Builtin.Slice.slicePlaces lo hi 1)) _ _ s
  rw [adjust_gen lo hi n]
  show wpAny _ _ (pure (((sIx n 0 lo : Nat) : Int), (1 : Int), Builtin.Slice.slicePlaces ((sIx n 0 lo : Nat) : Int) ((sIx n n hi : Nat) : Int) 1)) _ _ s
  rw [places_gen]
  exact wpAny_pure h
theorem pick_gen (xs : Array Value) (i k : Nat) : ((List.range k).filterMap fun (m : Nat) => xs[((i : Int) + (m : Int) * 1).toNat]?).toArray = ((xs.toList.drop i).take k).toArray := by
  have e : (fun (m : Nat) => xs[((i : Int) + (m : Int) * 1).toNat]?) = fun m => xs[i + m]? := by
    funext m
    have : ((i : Int) + (m : Int) * 1).toNat = i + m := by omega
    rw [this]
  rw [e]
  have := pick_run xs i k
  rw [List.filterMap_map] at this
  have e2 : ((fun x => xs[x]?) ∘ fun x => i + x) = fun m => xs[i + m]? := rfl
  rw [e2] at this
  rw [this]

theorem getItem_tuple_cut {t sl : Addr} {items : Array Value} {vl vu : Value} {lo hi : Option Int} {Q : Value → Shared → Prop} (ht : IsTup s.heap t items) (hs : s.heap.IsSliceOf sl vl vu .none) (pl : IsPart vl lo) (pu : IsPart vu hi)
    (hw : ¬ (sIx items.size 0 lo = 0 ∧ sIx items.size items.size hi = items.size))
    (h : Q (.ref s.heap.objs.size) { s with heap := s.heap.push { cls := .type "tuple", data := .seq ((items.toList.drop (sIx items.size 0 lo)).take (sIx items.size items.size hi - sIx items.size 0 lo)).toArray } })
    (hsz : items.size ≤ sizeLine) : wpAny (model prog w) A (getItem (.ref t) (.ref sl)) Q E s := by
  have htake : sizeOk (.seq ((items.toList.drop (sIx items.size 0 lo)).take (sIx items.size items.size hi - sIx items.size 0 lo)).toArray) := by
    show ((items.toList.drop (sIx items.size 0 lo)).take (sIx items.size items.size hi - sIx items.size 0 lo)).toArray.size ≤ sizeLine
    rw [List.size_toArray, List.length_take, List.length_drop, Array.length_toList]
    omega
  have hj : sIx items.size items.size hi ≤ items.size := sIx_le _ _ (Nat.le_refl _) hi
  obtain ⟨os, hos, hcs, hds⟩ := id hs
  have hTs : s.TypeIs (.ref sl) "slice" := ⟨os, hos, hcs⟩
  unfold getItem
  try with_reducible refine wpAny_holding ?_
  first | refine wpAny_bind (wpAny_pure ?_) | skip
  refine wpAny_bind (wpAny_sequenceKey ht.typeIs (by decide) ?_)
  refine wpAny_bind (wpAny_callSpecial?_slot (name := Str.ofString "__getitem__") ht.typeIs PyProof.Rows.slot_tuple_getitem
    (wpAny_call_entry PyProof.Rows.slot_tuple_getitem ht.typeIs entry_tuple_getitem ?_ (args_tuple_getitem _ _)))
  show wpAny _ _ (Builtin.Tuple.tupleItemsOf (.ref t) >>= _) _ _ s
  refine wpAny_bind (tupleItemsOf_ ht ?_)
  refine wpAny_bind (wpAny_typeOf hTs ?_)
  rw [if_pos (by decide)]
  refine wpAny_bind (sliceApplied_gen hs pl pu ?_)
  have hno : ¬ ((((sIx items.size 0 lo : Nat) : Int) == 0 && (1 : Int) == 1 && (sIx items.size items.size hi - sIx items.size 0 lo) == items.size) = true) := by
    intro q
    rw [Bool.and_eq_true, Bool.and_eq_true] at q
    have q1 : ((sIx items.size 0 lo : Nat) : Int) = 0 := eq_of_beq q.1.1
    have q2 : sIx items.size items.size hi - sIx items.size 0 lo = items.size := eq_of_beq q.2
    exact hw ⟨by omega, by omega⟩
  show wpAny _ _ (if (((sIx items.size 0 lo : Nat) : Int) == 0 && (1 : Int) == 1 && (sIx items.size items.size hi - sIx items.size 0 lo) == items.size) = true then _ else _) _ _ s
  rw [if_neg hno, pick_gen]
  first
    | exact wpAny_bind (m := Builtin.Tuple.tupleExact _) (wpAny_newObj_type (wpAny_pure ⟨_, rfl, wpAny_pure h⟩) htake)
    | exact wpAny_bind (m := Builtin.Tuple.tupleExact _) (wpAny_newObj_type (wpAny_bind (wpAny_pure (wpAny_pure ⟨_, rfl, wpAny_pure h⟩))) htake)
    | exact wpAny_bind (wpAny_bind (m := Builtin.Tuple.tupleExact _) (wpAny_newObj_type (wpAny_pure (wpAny_pure ⟨_, rfl, wpAny_pure h⟩)) htake))
    | exact wpAny_bind (wpAny_bind (m := Builtin.Tuple.tupleExact _) (wpAny_newObj_type (wpAny_pure ⟨_, rfl, wpAny_pure h⟩) htake))
end
end HT

namespace L2
open PySem PySem.Spec PyProof.Rows


abbrev TO := St → Hp → (Option Int → Hp → Prop) → Prop

def PO (X : Cx) (e : Option Expr) (t : TO) : Prop :=
  ∀ (pins : List (Addr × Obj)) (s : Shared) (σ : St) (H : Hp) (Q : Option Int → Hp → Prop), Inv X pins σ H s → t σ H Q →
    wpAny (model X.prog X.w) X.A (evalPart e X.env) (fun u s' => ∃ o H', Inv X pins σ H' s' ∧ IsPart u o ∧ Q o H') X.xe s
def tNoPart : TO := fun _ H Q => Q none H
def tPart (t : TE) : TO := fun σ H Q => t σ H fun x H1 => ∃ i, x = .int i ∧ Q (some i) H1

section
variable {X : Cx} {e : Expr} {te : TE} {lo hi : Option Expr} {tl th : TO} {pos p2 : Pos}

theorem po_none : PO X none tNoPart := by
  intro pins s σ H Q I h
  rw [evalPart_none]
  exact wpAny_pure ⟨none, H, I, .none, h⟩
theorem po_some (h : PE X e te) : PO X (some e) (tPart te) := by
  intro pins s σ H Q I hw
  rw [evalPart_some]
  refine thn (h pins s σ H _ I hw) fun u s1 ⟨x, H1, I1, r1, q1⟩ => ?_
  obtain ⟨i, rfl, q⟩ := q1
  obtain ⟨t, rfl⟩ := r1
  exact ⟨some i, H1, I1, .int i t, q⟩


def SlR (X : Cx) (r : V → Option Int → Option Int → Hp → VK → Prop) : Prop :=
  ∀ (pins : List (Addr × Obj)) (s : Shared) (σ : St) (H : Hp) (x : V) (v vl vu : Value) (lo hi : Option Int) (sl : Addr) (Q : VK), Inv X pins σ H s → RelV x v → s.heap.IsSliceOf sl vl vu .none → IsPart vl lo → IsPart vu hi → r x lo hi H Q →
    ∃ T id, typeLookup (.type T) "__getitem__" = pure (some (.builtin id)) ∧ s.TypeIs v T ∧ wpAny (model X.prog X.w) X.A (getItem v (.ref sl)) (EP X pins σ Q) X.xe s
theorem SlR.or {r r' : V → Option Int → Option Int → Hp → VK → Prop} (h : SlR X r) (h' : SlR X r') : SlR X (fun x lo hi H Q => r x lo hi H Q ∨ r' x lo hi H Q) := by
  intro pins s σ H x v vl vu lo hi sl Q I rx hs pl pu q
  rcases q with q | q
  · exact h pins s σ H x v vl vu lo hi sl Q I rx hs pl pu q
  · exact h' pins s σ H x v vl vu lo hi sl Q I rx hs pl pu q
def tSl (r : V → Option Int → Option Int → Hp → VK → Prop) (te : TE) (tl th : TO) : TE := fun σ H Q => te σ H fun x H1 => tl σ H1 fun l H2 => th σ H2 fun u H3 => r x l u H3 Q

theorem pe_slice {r : V → Option Int → Option Int → Hp → VK → Prop} (hr : SlR X r) (he : PE X e te) (hl : PO X lo tl) (hu : PO X hi th) : PE X (.Subscript e (.Slice lo hi none p2) pos) (tSl r te tl th) := by
  intro pins s σ H Q I h
  refine Subscript_ (thn (he pins s σ H _ I h) fun v s1 ⟨x, H1, I1, r1, q1⟩ => ?_)
  refine wpAny_Slice (thn (hl pins s1 σ H1 _ I1 q1) fun vl s2 ⟨l, H2, I2, pl, q2⟩ => thn (hu pins s2 σ H2 _ I2 q2) fun vu s3 ⟨u, H3, I3, pu, q3⟩ => ?_)
  rw [evalPart_none]
  refine wpAny_pure ?_
  have I4 : Inv X pins σ H3 { s3 with heap := s3.heap.push { cls := .type "slice", data := .fields #[vl, vu, .none] } } := I3.kept (t' := s3.toks) fun b ob q => Heap.get?_push_of_some _ q
  obtain ⟨T, id, hT, ht, hg⟩ := hr pins { s3 with heap := s3.heap.push { cls := .type "slice", data := .fields #[vl, vu, .none] } } σ H3 x v vl vu l u s3.heap.objs.size Q I4 r1 (Heap.IsSliceOf.new ..) pl pu q3
  show wpAny (model X.prog X.w) X.A (subscriptTail e (.Slice lo hi none p2) v (.ref s3.heap.objs.size)) (EP X pins σ Q) X.xe { s3 with heap := s3.heap.push { cls := .type "slice", data := .fields #[vl, vu, .none] } }
  exact tail_any (ops := [.ref s3.heap.objs.size, v]) ht hT hg (by with_unfolding_all rfl)


def cutV (xs : List V) (lo hi : Option Int) : List V := (xs.drop (HT.sIx xs.length 0 lo)).take (HT.sIx xs.length xs.length hi - HT.sIx xs.length 0 lo)
theorem cutV_length (xs : List V) (lo hi : Option Int) : (cutV xs lo hi).length ≤ xs.length := by
  unfold cutV
  rw [List.length_take, List.length_drop]
  omega

def rSlT (K : PySem.W.Frag) : V → Option Int → Option Int → Hp → VK → Prop := fun x lo hi H Q => ∃ a xs, x = .ref a ∧ SqT K H a xs ∧
  ¬ (HT.sIx xs.length 0 lo = 0 ∧ HT.sIx xs.length xs.length hi = xs.length) ∧ ∀ p, H p = none → Q (.ref p) (upd H p (.tup (cutV xs lo hi)))
theorem sl_tup : SlR X (rSlT X.K) := by
  intro pins s σ H x v vl vu lo hi sl Q I rx hs pl pu h
  obtain ⟨a, xs, rfl, hx, hw, q⟩ := h
  cases rx
  obtain ⟨its, r, ht, hz⟩ := I.tuple hx
  have hlen : its.toArray.size = xs.length := by rw [List.size_toArray]; exact r.length.symm
  refine ⟨"tuple", _, PyProof.Rows.slot_tuple_getitem.lookup, ht.typeIs, ?_⟩
  refine HT.getItem_tuple_cut ht hs pl pu (by rw [hlen]; exact hw) ?_ (by rw [hlen]; exact hz)
  rw [hlen]
  refine ⟨.ref s.heap.objs.size, _, I.laid (t' := s.toks) (o := .tup (cutV xs lo hi)) (fun b ob q => Heap.get?_push_of_some _ q) (Nat.le_refl _) ?_, rfl, q _ (I.hok.fresh (Nat.le_refl _))⟩
  exact ⟨Nat.le_trans (cutV_length xs lo hi) hz, _, (r.drop (HT.sIx xs.length 0 lo)).take (HT.sIx xs.length xs.length hi - HT.sIx xs.length 0 lo), IsTup.new _ _⟩


def rCatT (K : PySem.W.Frag) : R2 := fun x y H Q => ∃ a b xs ys, x = .ref a ∧ y = .ref b ∧ SqT K H a xs ∧ SqT K H b ys ∧ xs ≠ [] ∧ xs.length + ys.length ≤ sizeLine ∧
  (ys = [] → Q (.ref a) H) ∧ (ys ≠ [] → ∀ p, H p = none → Q (.ref p) (upd H p (.tup (xs ++ ys))))
theorem Vals.nil_iff {xs : List V} {us : List Value} (r : Vals xs us) : us = [] ↔ xs = [] := by
  cases r with
  | nil => simp
  | cons _ _ => simp
theorem op_catT : OpR X (binaryOp .Add) (rCatT X.K) := by
  intro pins s σ H x y v u Q I rx ry h
  obtain ⟨a, b, xs, ys, rfl, rfl, ha, hb, hx, hz, q1, q2⟩ := h
  cases rx
  cases ry
  obtain ⟨its, r1, p1, _⟩ := I.tuple ha
  obtain ⟨its2, r2, p2, _⟩ := I.tuple hb
  refine HT.cat_tup p1 p2 (fun z => hx (r1.nil_iff.mp z)) (fun z => ⟨.ref a, H, I, rfl, q1 (r2.nil_iff.mp z)⟩) (fun z => ?_) (by rw [← r1.length, ← r2.length]; exact hz)
  refine ⟨.ref s.heap.objs.size, _, I.laid (t' := s.toks) (o := .tup (xs ++ ys)) (fun b ob q => Heap.get?_push_of_some _ q) (Nat.le_refl _) ?_, rfl, q2 (fun w => z (r2.nil_iff.mpr w)) _ (I.hok.fresh (Nat.le_refl _))⟩
  exact ⟨by rw [List.length_append]; exact hz, _, r1.append r2, IsTup.new _ _⟩

end
end L2

namespace L2
open PySem PySem.Spec PyProof.Rows



def ixN (n : Nat) (i : Int) : Option Nat := if 0 ≤ i then (if i < n then some i.toNat else none) else if -(n : Int) ≤ i then some (i + n).toNat else none
def atI {α : Type} (xs : List α) (i : Int) : Option α := (ixN xs.length i).bind fun j => xs[j]?
theorem ixN_seq {n : Nat} {i : Int} {j : Nat} (h : ixN n i = some j) : seqIndex? i n = some j ∧ j < n ∧ -(n : Int) ≤ i ∧ i < n := by
  unfold ixN at h
  by_cases h0 : 0 ≤ i
  · rw [if_pos h0] at h
    by_cases h1 : i < n
    · rw [if_pos h1] at h
      have e : i.toNat = j := Option.some.inj h
      exact ⟨by rw [seqIndex_of h0 h1, e], by omega, by omega, h1⟩
    · rw [if_neg h1] at h; cases h
  · rw [if_neg h0] at h
    by_cases h1 : -(n : Int) ≤ i
    · rw [if_pos h1] at h
      have e : (i + n).toNat = j := Option.some.inj h
      exact ⟨by rw [seqIndex_neg (by omega) h1, e], by omega, h1, by omega⟩
    · rw [if_neg h1] at h; cases h
theorem atI_get {α : Type} {xs : List α} {i : Int} {v : α} (h : atI xs i = some v) : ∃ j, seqIndex? i xs.length = some j ∧ xs[j]? = some v ∧ j < xs.length ∧ -(xs.length : Int) ≤ i ∧ i < xs.length := by
  unfold atI at h
  cases e : ixN xs.length i with
  | none => rw [e] at h; cases h
  | some j =>
    rw [e] at h
    obtain ⟨h1, h2, h3, h4⟩ := ixN_seq e
    exact ⟨j, h1, h, h2, h3, h4⟩
theorem atI_nat {α : Type} {xs : List α} {j : Nat} {v : α} (h : xs[j]? = some v) : atI xs (j : Int) = some v := by
  have hj : j < xs.length := (List.getElem?_eq_some_iff.mp h).1
  have e : ixN xs.length (j : Int) = some j := by
    unfold ixN
    rw [if_pos (by omega), if_pos (by omega)]; simp
  unfold atI; rw [e]; exact h
def PlainIx (b : Expr) : Prop := ∀ o i, subscripted b false o i = operate [o, i] (getItem o i)

def IxR (X : Cx) (r : R2) : Prop :=
  ∀ (value slice : Expr) (pins : List (Addr × Obj)) (s : Shared) (σ : St) (H : Hp) (x y : V) (v u : Value) (Q : VK), Inv X pins σ H s → RelV x v → RelV y u → r x y H Q →
    subscripted slice false v u = operate [v, u] (getItem v u) → wpAny (model X.prog X.w) X.A (subscriptTail value slice v u) (EP X pins σ Q) X.xe s

def MtR (X : Cx) (id : String) (r : V → List V → Hp → VK → Prop) : Prop :=
  ∀ (pins : List (Addr × Obj)) (s : Shared) (σ : St) (H : Hp) (x : V) (xs : List V) (v : Value) (us : List Value) (Q : VK), Inv X pins σ H s → RelV x v → Vals xs us → r x xs H Q →
    wpAny (model X.prog X.w) X.A (call (.builtin id) (v :: us)) (EP X pins σ Q) X.xe s
section
variable {X : Cx} {a b : Expr} {ta tb : TE} {pos : Pos}
theorem IxR.or {r r' : R2} (h : IxR X r) (h' : IxR X r') : IxR X (fun x y H Q => r x y H Q ∨ r' x y H Q) := by
  intro value slice pins s σ H x y v u Q I rx ry q hs
  rcases q with q | q
  · exact h value slice pins s σ H x y v u Q I rx ry q hs
  · exact h' value slice pins s σ H x y v u Q I rx ry q hs
theorem pe_ix {r : R2} (hr : IxR X r) (ha : PE X a ta) (hb : PE X b tb) (hs : PlainIx b) : PE X (.Subscript a b pos) (tOp r ta tb) := by
  intro pins s σ H Q I h
  exact Subscript_ (binT ha hb I h fun v u s2 x y H2 I2 rx ry q => hr a b pins s2 σ H2 x y v u Q I2 rx ry q (hs _ _))

def rIxL (K : PySem.W.Frag) : R2 := fun x y H Q => ∃ p xs i v, x = .ref p ∧ y = .int i ∧ SqL K H p xs ∧ atI xs i = some v ∧ Q v H
def rIxT (K : PySem.W.Frag) : R2 := fun x y H Q => ∃ p xs i v, x = .ref p ∧ y = .int i ∧ SqT K H p xs ∧ atI xs i = some v ∧ Q v H
def rIxS : R2 := fun x y H Q => ∃ z i c, x = .str z ∧ y = .int i ∧ z.length ≤ sizeLine ∧ atI z.cps.toList i = some c ∧ Q (.str ⟨#[c]⟩) H
theorem ix_list : IxR X (rIxL X.K) := by
  intro value slice pins s σ H x y v u Q I rx ry h hs
  obtain ⟨p, xs, i, z, rfl, rfl, hq, he, q⟩ := h
  cases rx
  obtain ⟨t, rfl⟩ := ry
  obtain ⟨its, r, pl, hz⟩ := I.list hq
  obtain ⟨j, h1, h2, h3, h4, h5⟩ := atI_get he
  obtain ⟨w, ew, rw'⟩ := r.get h2
  have hl := r.length
  have hn := line63
  have fin : EP X pins σ Q w s := ⟨z, H, I, rw', q⟩
  by_cases h0 : 0 ≤ i
  · have hj : i.toNat = j := by
      rw [seqIndex_of h0 h5] at h1
      exact Option.some.inj h1
    exact item_listR pl.isList h0 (by omega) (by rw [hj]; simpa using ew) fin hs
  · have hj : (i + (its.toArray.size : Int)).toNat = j := by
      rw [seqIndex_neg (by omega) h4] at h1
      rw [List.size_toArray, ← hl]
      exact Option.some.inj h1
    exact subscriptTail_builtinR (x := w) pl.isList.typeIs slot_list_getitem.lookup
      (wpAny_getItem_list_neg (Q := fun r s' => r = w ∧ EP X pins σ Q r s') pl.isList (by omega) (by rw [List.size_toArray] <;> omega) (by omega) (by rw [hj]; simpa using ew) ⟨rfl, fin⟩) hs
theorem ix_tup : IxR X (rIxT X.K) := by
  intro value slice pins s σ H x y v u Q I rx ry h hs
  obtain ⟨p, xs, i, z, rfl, rfl, hq, he, q⟩ := h
  cases rx
  obtain ⟨t, rfl⟩ := ry
  obtain ⟨its, r, pl, hz⟩ := I.tuple hq
  obtain ⟨j, h1, h2, h3, h4, h5⟩ := atI_get he
  obtain ⟨w, ew, rw'⟩ := r.get h2
  have hl := r.length
  have hn := line63
  have fin : EP X pins σ Q w s := ⟨z, H, I, rw', q⟩
  exact subscriptTail_builtinR (x := w) pl.typeIs slot_tuple_getitem.lookup
    (getItem_tuple (j := j) (Q := fun r s' => r = w ∧ EP X pins σ Q r s') pl (by omega) (by omega) (by rw [List.size_toArray, ← hl]; exact h1) (by simpa using ew) ⟨rfl, fin⟩) hs
theorem ix_str : IxR X rIxS := by
  intro value slice pins s σ H x y v u Q I rx ry h hs
  obtain ⟨z, i, c, rfl, rfl, hz, he, q⟩ := h
  obtain ⟨t, rfl⟩ := rx
  obtain ⟨t', rfl⟩ := ry
  obtain ⟨j, h1, h2, h3, h4, h5⟩ := atI_get he
  have hl : z.cps.toList.length = z.length := by simp [Str.length]
  rw [hl] at h1 h4 h5
  have hn := line63
  exact tail_any (typeIs_str s z t) slot_str_getitem.lookup (getItem_str (c := c) (by
    have e1 : decide (i < -(2 ^ 63 : Int)) = false := decide_eq_false (by omega)
    have e2 : decide (i ≥ 2 ^ 63) = false := decide_eq_false (by omega)
    rw [e1, e2, Bool.or_false]) (by rw [h1]; simpa using h2) ⟨.str ⟨#[c]⟩, H, I.tok _, ⟨_, rfl⟩, q⟩) hs

def rIx (K : PySem.W.Frag) : R2 := fun x y H Q => rIxL K x y H Q ∨ rIxT K x y H Q ∨ rIxS x y H Q
theorem ix_seq : IxR X (rIx X.K) := ix_list.or (ix_tup.or ix_str)



theorem slice_bounds (lo hi : Option Int) (n : Nat) : (sliceBounds lo hi none n).1 = ((HT.sIx n 0 lo : Nat) : Int) ∧ (sliceBounds lo hi none n).2.1 = ((HT.sIx n n hi : Nat) : Int) ∧ (sliceBounds lo hi none n).2.2 = 1 := by
  refine ⟨?_, ?_, rfl⟩
  · cases lo with
    | none => simp [sliceBounds, HT.sIx]
    | some i =>
      simp only [sliceBounds, HT.sIx, Option.getD_none, show (1 : Int) > 0 by decide, if_true]
      by_cases h : i < 0
      · simp only [h, if_true] <;> omega
      · simp only [h, if_false] <;> omega
  · cases hi with
    | none => simp [sliceBounds, HT.sIx]
    | some i =>
      simp only [sliceBounds, HT.sIx, Option.getD_none, show (1 : Int) > 0 by decide, if_true]
      by_cases h : i < 0
      · simp only [h, if_true] <;> omega
      · simp only [h, if_false] <;> omega
theorem slicePick_cut (its : List Value) (lo hi : Option Int) : slicePick its.toArray lo hi none = ((its.drop (HT.sIx its.length 0 lo)).take (HT.sIx its.length its.length hi - HT.sIx its.length 0 lo)).toArray := by
  obtain ⟨h1, h2, h3⟩ := slice_bounds lo hi its.toArray.size
  unfold slicePick
  rw [h1, h2, h3]
  simp only [sliceRange_one, pick_run, List.size_toArray] <;> rfl

def rSlL (K : PySem.W.Frag) : V → Option Int → Option Int → Hp → VK → Prop := fun x lo hi H Q => ∃ a xs, x = .ref a ∧ SqL K H a xs ∧ ∀ p, H p = none → Q (.ref p) (upd H p (.lst (cutV xs lo hi)))
theorem sl_list : SlR X (rSlL X.K) := by
  intro pins s σ H x v vl vu lo hi sl Q I rx hs pl pu h
  obtain ⟨a, xs, rfl, hx, q⟩ := h
  cases rx
  obtain ⟨its, r, ht, hz⟩ := I.list hx
  have hlen := r.length
  refine ⟨"list", _, slot_list_getitem.lookup, ht.isList.typeIs, ?_⟩
  refine wpAny_getItem_list_slice ht.isList hs pl pu .none (by simp) ?_ (by rw [List.size_toArray] <;> omega)
  rw [slicePick_cut, ← hlen]
  refine ⟨.ref s.heap.objs.size, _, I.laid (t' := s.toks) (o := .lst (cutV xs lo hi)) (fun b ob q => Heap.get?_push_of_some _ q) (Nat.le_refl _) ?_, rfl, q _ (I.hok.fresh (Nat.le_refl _))⟩
  exact ⟨Nat.le_trans (cutV_length xs lo hi) hz, _, 0, (r.drop (HT.sIx xs.length 0 lo)).take (HT.sIx xs.length xs.length hi - HT.sIx xs.length 0 lo), Heap.get?_push_size _ rfl⟩


def tyV (K : PySem.W.Frag) (T : String) (x : V) (H : Hp) : Prop := match x with
  | .str _ => T = "str"
  | .int _ => T = "int"
  | .ref p => (T = "list" ∧ ∃ xs, SqL K H p xs) ∨ (T = "tuple" ∧ ∃ o, K.lookup p = some o ∧ o.cls = .type "tuple" ∧ o.dict = none) ∨
      (T = "dict" ∧ ((∃ kvs, H p = some (.dK kvs)) ∨ ∃ kvs, H p = some (.dT kvs))) ∨ (T = "set" ∧ ∃ S n, H p = some (.set S n))
  | _ => False
theorem tyV_is {pins : List (Addr × Obj)} {σ : St} {H : Hp} {s : Shared} {T : String} {x : V} {v : Value} (I : Inv X pins σ H s) (r : RelV x v) (ty : tyV X.K T x H) :
    s.TypeIs v T ∧ ∀ a, v = .ref a → ∃ ob, s.heap.get? a = some ob ∧ ob.dict = none := by
  cases x with
  | str z =>
    obtain ⟨t, rfl⟩ := r
    cases (show T = "str" from ty)
    exact ⟨typeIs_str s z t, fun _ e => nomatch e⟩
  | int i =>
    obtain ⟨t, rfl⟩ := r
    cases (show T = "int" from ty)
    exact ⟨typeIs_int s i t, fun _ e => nomatch e⟩
  | ref p =>
    cases r
    rcases ty with ⟨rfl, xs, hq⟩ | ⟨rfl, o, hk, hc, hd⟩ | ⟨rfl, hk⟩ | ⟨rfl, S, n, hk⟩
    · obtain ⟨its, _, pl, _⟩ := I.list hq
      refine ⟨pl.isList.typeIs, fun a e => ?_⟩
      cases e
      obtain ⟨o, n, e, c, hd, _⟩ := pl
      exact ⟨o, e, hd⟩
    · refine ⟨⟨o, I.kIn p o hk, hc⟩, fun a e => ?_⟩
      cases e
      exact ⟨o, I.kIn _ o hk, hd⟩
    · have z : ∃ o, s.heap.get? p = some o ∧ o.ExactDict := by
        rcases hk with ⟨kvs, hk⟩ | ⟨kvs, hk⟩
        · obtain ⟨_, _, _, _, o, _, _, e, ex, _⟩ := I.hok p _ hk
          exact ⟨o, e, ex⟩
        · obtain ⟨_, _, _, _, o, _, _, e, ex, _⟩ := I.hok p _ hk
          exact ⟨o, e, ex⟩
      obtain ⟨o, e, ex⟩ := z
      refine ⟨⟨o, e, ex.1⟩, fun a e2 => ?_⟩
      cases e2
      exact ⟨o, e, ex.2.1⟩
    · obtain ⟨o, _, _, _, e, ex, _⟩ := I.hok p _ hk
      refine ⟨⟨o, e, ex.1⟩, fun a e2 => ?_⟩
      cases e2
      exact ⟨o, e, ex.2.1⟩
  | _ => exact False.elim ty
def tBM (K : PySem.W.Frag) (T : String) (r : V → List V → Hp → VK → Prop) (to : TE) (t : TA) : TE := fun σ H Q => to σ H fun x H1 => tyV K T x H1 ∧ t σ H1 fun xs H2 => r x xs H2 Q
variable {o e : Expr} {es : List Expr} {to : TE} {t : TA} {name : Str} {apos cpos : Pos} {T id : String} {r : V → List V → Hp → VK → Prop}
theorem pe_bm (pa : PlainAttrs T) (slot : Slot T name id) (hty : typeOf (.builtin id) = pure (.type "method_descriptor")) (hm : MtR X id r) (ho : PE X o to) (ha : PA X (e :: es) t)
    (hbase : attributeBase o name X.env (eval o X.env) = eval o X.env := by rfl)
    (hfew : ((backTo cpos (starEach (e :: es) X.env)).all (fun x => !x.1) && (backToKw cpos (keywordEach [] X.env)).all (fun x => x.1.isSome)
      && decide ((e :: es).length + ([] : List Keyword).length + (if ([] : List Keyword).isEmpty then 0 else 1) < 30)) = true := by rfl)
    (hline : (apos.endLine == cpos.line) = true := by rfl) (hs : starEach (e :: es) X.env = (false, eval e X.env) :: starEach es X.env := by rfl) (hplain : (backTo cpos (starEach es X.env)).any (·.1) = false := by rfl) :
    PE X (.Call (.Attribute o name apos) (e :: es) [] cpos) (tBM X.K T r to t) := by
  intro pins s σ H Q I h
  refine wpAny_Call_method_late hbase hfew hline rfl (thn (ho pins s σ H _ I h) fun v s1 ⟨x, H1, I1, r1, ty, q1⟩ => ?_)
  obtain ⟨h1, h2⟩ := tyV_is I1 r1 ty
  refine ⟨T, id, pa, slot, hty, h1, h2, ?_⟩
  have hA := ha cpos pins s1 σ H1 _ I1 q1
  rw [hs] at hA ⊢
  refine Calls.callWith_builtin (by show (false || (backTo cpos (starEach es X.env)).any (·.1)) = false; rw [hplain] <;> rfl) (Calls.evalArgs_plain ?_)
  exact thn hA fun us s2 ⟨vs, H2, I2, r2, q2⟩ => hm pins s2 σ H2 x vs v us Q I2 r1 r2 q2

end
end L2

namespace L2
open PySem PySem.Spec PyProof.Rows

theorem Vals.one : ∀ {x : V} {us : List Value}, Vals [x] us → ∃ u, us = [u] ∧ RelV x u
  | _, _, .cons r .nil => ⟨_, rfl, r⟩
section
variable {X : Cx} {pins : List (Addr × Obj)} {σ : St} {H : Hp} {s : Shared} {l b : Addr} {xs ys zs : List V}


theorem Inv.lnew {its : List Value} {t' : Nat} (I : Inv X pins σ H s) (hv : Vals ys its) (hz : ys.length ≤ sizeLine) :
    Inv X pins σ (upd H s.heap.objs.size (.lst ys)) { s with heap := s.heap.push { cls := .type "list", data := .seq its.toArray }, toks := t' } :=
  I.laid (fun _ _ q => Heap.get?_push_of_some _ q) (Nat.le_refl _) ⟨hz, its, 0, hv, Heap.get?_push_size _ rfl⟩
theorem Inv.fresh (I : Inv X pins σ H s) : H s.heap.objs.size = none := I.hok.fresh (Nat.le_refl _)
theorem Inv.lstM (I : Inv X pins σ H s) (hH : H l = some (.lst xs)) : xs.length ≤ sizeLine ∧ ∃ (its : List Value) (n : Nat), Vals xs its ∧ xs.length = its.length ∧ s.heap.get? l = some { cls := .type "list", data := .seq its.toArray n } := by
  obtain ⟨z, its, n, r, e⟩ := I.hok l _ hH
  exact ⟨z, its, n, r, r.length, e⟩

end

section
variable {X : Cx}


def rCat : R2 := fun x y H Q => ∃ l b xs zs, x = .ref l ∧ y = .ref b ∧ H l = some (.lst xs) ∧ H b = some (.lst zs) ∧ xs.length + zs.length ≤ sizeLine ∧ ∀ p, H p = none → Q (.ref p) (upd H p (.lst (xs ++ zs)))
theorem op_cat : OpR X (binaryOp .Add) rCat := by
  intro pins s σ H x y v u Q I rx ry h
  obtain ⟨l, b, xs, zs, rfl, rfl, hH, hB, hz, q⟩ := h
  cases rx
  cases ry
  obtain ⟨z, its, n, r, hl, e⟩ := I.lstM hH
  obtain ⟨z2, its2, n2, r2, hl2, e2⟩ := I.lstM hB
  refine PySem.P.add_list e e2 ?_ (by rw [List.size_toArray, List.size_toArray]; omega)
  have ea : its.toArray ++ its2.toArray = (its ++ its2).toArray := by simp
  rw [ea]
  exact ⟨.ref _, _, I.lnew (t' := s.toks) (r.append r2) (by rw [List.length_append]; omega), rfl, q _ I.fresh⟩

end


section
variable {prog : Program} {w : World} {A : Around} {E : Value → Shared → Prop} {s : Shared}
end

section
variable {X : Cx}

end
end L2

namespace L2
open PySem PySem.Spec PyProof.Rows


section
variable {κ : Type} [DecidableEq κ]
end



section
variable {P : Program} {w : World} {H : Hp} {h : Heap} {a : Addr}
end


section
variable {X : Cx} {pins : List (Addr × Obj)} {σ : St} {H : Hp} {s : Shared} {a : Addr} {y v : V} {u r : Value} {o : Option V} {A : Around} {E : Value → Shared → Prop}

end

section
variable {X : Cx} {pins : List (Addr × Obj)} {σ : St} {H : Hp} {s : Shared} {a : Addr} {kvs : List (Key × V)} {k : Key} {u : Value} {A : Around} {E : Value → Shared → Prop}

end




section
variable {X : Cx} {o i e value : Expr} {pos pos' tpos : Pos} {td ty tv : TE}
end



section
variable {X : Cx} {pos : Pos}
end


section
variable {X : Cx} {pins : List (Addr × Obj)} {σ : St} {H : Hp} {s : Shared} {a : Addr} {y d : V} {u r : Value} {o : Option V} {A : Around} {E : Value → Shared → Prop}

end

section
variable {X : Cx} {o e f : Expr} {apos cpos : Pos} {td ty tx : TE}
end


section
variable {X : Cx} {pins : List (Addr × Obj)} {σ : St} {H : Hp} {s : Shared} {a : Addr} {kvs : List (Key × V)} {A : Around} {E : Value → Shared → Prop}
end


section
variable {X : Cx} {pins : List (Addr × Obj)} {σ : St} {H : Hp} {s : Shared} {a : Addr} {y : V} {u : Value} {A : Around} {E : Value → Shared → Prop}

end
end L2

namespace Att
open PySem PySem.W PySem.Calls PyProof.Rows


theorem ints_of_wellAll {P : Params} {h : Heap} : ∀ (ns : List Int) (vs : List Value), WellAll P h vs (ns.map WData.int) → IntsAre vs ns := by
  intro ns
  induction ns with
  | nil =>
    intro vs w
    rw [List.map_nil] at w
    cases w
    exact .nil
  | cons n ns ih =>
    intro vs w
    rw [List.map_cons] at w
    cases w with
    | cons a b =>
      cases a
      exact .cons _ _ (ih _ b)

theorem script_of {l : OpenLaw} {n : Nat} (hn : l.most = some n) {P : Params} {h : Heap} {args : List WData} {vals : List Value}
    (hpre : l.row.toRowW.claim.pre args = true) (hwl : WellAll P h vals args) :
    ∃ a vs ns, vals = [Value.ref a] ∧ args = [WData.list (ns.map WData.int)] ∧ h.get? a = some { cls := .type "list", data := .seq vs.toArray } ∧ IntsAre vs ns ∧ ns.length ≤ n := by
  have hsh : WShape.hasAll [] args [.list .int] = true := (pre_splitW hpre).1
  have hc : l.pre.holds [] { args := args } = true := (pre_splitW hpre).2
  obtain ⟨d, r, rfl, h1, h2⟩ := hasAllW_cons hsh
  obtain rfl := hasAllW_nil h2
  obtain ⟨xs, rfl, h3⟩ := hasW_list h1
  obtain ⟨ns, rfl⟩ := items_int h3
  have hlen : ns.length ≤ n := by
    unfold OpenLaw.pre at hc
    have h4 : (WTm.not (.lt (.lit (.int (n : Int))) (.len (.arg 0)))).holds [] { args := [.list (ns.map .int)] } = true := by
      have h4 := (holds_andW hc).1
      rw [hn] at h4
      exact h4
    have h5 := condW_of h4 (w_not (w_lt w_lit (w_len_list (w_arg rfl))))
    rw [List.length_map] at h5
    refine Nat.le_of_not_lt fun q => ?_
    have q' : (n : Int) < ((ns.length : Nat) : Int) := by omega
    first
      | (rw [decide_eq_true q'] at h5; exact absurd h5 (by decide))
      | (simp at h5; omega)
  cases hwl with
  | cons w1 w2 =>
    cases w2
    cases w1 with
    | list ho hall => exact ⟨_, _, ns, rfl, rfl, ho, ints_of_wellAll ns _ hall, hlen⟩

theorem post_true (l : OpenLaw) (args : List WData) : l.row.toRowW.claim.post args (.bool true) args = true :=
  postW_of (r := l.row.toRowW) (X := (true == true))
    (show WShape.has [] (.bool true) .bool = true by first | rfl | decide | simp [WShape.has, WShape.arms, WShape.armsAll])
    (show (WTm.eq .res (.lit (.bool true))).value [] { args := args, res := some (.bool true), after := args } = some (.bool (true == true)) from w_eq_bool (w_res rfl) w_lit) rfl


theorem attach_call {l : OpenLaw} {n : Nat} {q : Program} {loose : List Str} {XP : (Str → Option Value) → Heap → Prop} {YP : World → Heap → Prop} {d : DefRec}
    (hn : l.most = some n) (hdf : d.params.defaults = [])
    (call : ∀ (w : World) (s₀ s₁ : Shared) (mg mb : Str → Option Value) (fa : Addr) (o : Obj) (pm cd doc : Value) (a : Addr) (vs : List Value) (ns : List Int),
      Ground q loose [] XP w s₀ mg mb s₁.heap → YP w s₁.heap →
      s₁.heap.get? fa = some o → o.data = .func (docDef d.name d.params d.body d.scope pm cd doc) → s₁.heap.CodeRec cd d.name → mg d.name = some (.ref fa) →
      s₁.heap.get? a = some { cls := .type "list", data := .seq vs.toArray } → IntsAre vs ns → ns.length ≤ n → s₁.gens = #[] →
      codeAny (model l.prog w) callerA (.call (.ref fa) ⟨[.ref a], []⟩) (fun r s' => r = .ok (.ret (.bool true)) ∧ OldK s₁.heap s'.heap ∧ s'.os = s₁.os ∧ AllBare s'.gens) s₁) :
    WalkO q loose XP YP l.row.toRowW d [] (fun f vs => PySem.call f vs) := by
  intro w s₀ s₁ mg mb G Y fa o pm cd doc dV kV ho hd hcd hD hmg hg args vals as hpre hlay hrd hwl hlo
  obtain rfl : dV = .none := Dflts.none hD hdf
  obtain rfl : kV = .none := Dflts.noKw hD
  obtain ⟨a, vs, ns, rfl, rfl, hobj, hints, hlen⟩ := script_of hn hpre hwl
  refine enter_call (codeAny_mono (call w s₀ s₁ mg mb fa o pm cd doc a vs ns G Y ho (fd_plain hd) hcd hmg hobj hints hlen hg) fun r s' hq => ?_)
  obtain ⟨rfl, h2, h3, h4⟩ := hq
  exact ⟨.inl ⟨.bool true, .bool true, [], rfl, fun _ => rfl, .bool true, post_true l _, fun _ => ⟨List.Pairwise.nil, fun _ hm => (nomatch hm)⟩⟩, h2, h3, h4⟩


section
variable {prog : Program} {w : World} {A : Around} {E : Value → Shared → Prop} {s : Shared} {K : Frag}


end
end Att

namespace L2
open PySem PySem.Spec PyProof.Rows

theorem vals_ints : ∀ {vs : List Value} {ns : List Int}, IntsAre vs ns → Vals (ns.map V.int) vs
  | _, _, .nil => .nil
  | _, _, .cons n t h => .cons ⟨t, rfl⟩ (vals_ints h)


def Only (H : Hp) : Prop := ∀ b, H b = none ∨ ∃ o xs, H b = some (.frz o (.lst xs))


theorem law_call {P : Program} {w : World} {K : PySem.W.Frag} {mg mb : Str → Option Value} {CX : CXT} {k : Nat} {fa a : Addr} {fd : FuncData} {x : Str} {sp : Sp} {s₁ : Shared} {vs : List Value} {ns : List Int}
    (KX : K.In s₁.heap) (hns : s₁.heap.Ns mainGlobals mg) (hb : s₁.heap.Ns builtinsNs mb) (hbb : ∀ x : Str, x ≠ "__name__" → mb x = bootBuiltins x) (hlim : s₁.heap.NoLimit) (hg : s₁.gens = #[])
    (ha : s₁.heap.get? a = some { cls := .type "list", data := .seq vs.toArray }) (hi : IntsAre vs ns) (hl : ns.length ≤ sizeLine) (hr : Room k callerA)
    (F : ∀ base : Heap, K.In base → base.Ns mainGlobals mg → FnOk P w K mg base CX k fa fd [x] sp) (hbind : ∀ (s : Shared) (u : Value), BindsTo s fd ⟨[u], []⟩ [(x, u)])
    (hsp : ∀ H : Hp, Only H → SqL K H a (ns.map V.int) → sp [.ref a] H (fun v _ => v = .bl true) fun _ _ _ => False)
    (hCX : ∀ H e s', CX [] H s₁ (fun _ _ _ => False) e s' → False) :
    codeAny (model P w) callerA (.call (.ref fa) ⟨[.ref a], []⟩) (fun r s' => r = .ok (.ret (.bool true)) ∧ OldK s₁.heap s'.heap ∧ s'.os = s₁.os ∧ AllBare s'.gens) s₁ := by
  have rv := vals_ints hi
  have lenV := hi.length
  -- from an abstract heap in which nothing but the script may be tracked
  have core : ∀ H : Hp, Only H → SqL K H a (ns.map V.int) → HOk P w H s₁.heap → (∀ b, H b ≠ none → b = a) → (H a ≠ none → K.lookup a = none) →
      codeAny (model P w) callerA (.call (.ref fa) ⟨[.ref a], []⟩) (fun r s' => r = .ok (.ret (.bool true)) ∧ OldK s₁.heap s'.heap ∧ s'.os = s₁.os ∧ AllBare s'.gens) s₁ := by
    intro H hO hS hok hA hK
    have base_of : ∀ {b : Addr} {o : Obj}, s₁.heap.get? b = some o → H b = none → (hidT s₁.heap H).get? b = some o := fun e n => hidT_get e n
    have noA : ∀ {b : Addr} {o : Obj} {es : Array DictEntry} {ep : Nat}, s₁.heap.get? b = some o → o.data = .dict es ep → H b = none := fun {b o es ep} e d => by
      cases q : H b with
      | none => rfl
      | some u =>
        have e' : b = a := hA b (by rw [q]; simp)
        subst e'
        rw [ha] at e; cases e
        have d' : Data.seq vs.toArray _ = Data.dict es ep := d
        cases d'
    have nsK : ∀ {b : Addr} {m : Str → Option Value}, s₁.heap.Ns b m → (hidT s₁.heap H).Ns b m := fun {b m} ⟨o, es, ep, e, d, r⟩ => ⟨o, es, ep, base_of e (noA e d), d, r⟩
    have hKb : K.In (hidT s₁.heap H) := fun b o e => base_of (KX b o e) (by
      cases q : H b with
      | none => rfl
      | some u =>
        have e' : b = a := hA b (by rw [q]; simp)
        subst e'
        rw [hK (by rw [q]; simp)] at e; cases e)
    have hM : Mod K mg (hidT s₁.heap H) := ⟨hKb, nsK hns, ⟨mb, nsK hb, hbb⟩, let ⟨mc, h1, h2⟩ := hlim; ⟨mc, nsK h1, h2⟩⟩
    have e0 : Env0 P w K mg (hidT s₁.heap H) callerA [] s₁ H := ⟨rfl, hM, fun b o e => of_hidT e, Nat.le_of_eq (hidT_size _ _), trivial, fun b hb => absurd (show b ∈ ([] : List Addr) from hb) (by simp), hok, .of_eq hg⟩
    refine codeAny_mono ((F _ hKb (nsK hns)).run callerA [] s₁ H ⟨[.ref a], []⟩ [.ref a] [.ref a] _ _ hr e0 (hbind s₁ (.ref a)) (.cons rfl .nil) (hsp H hO hS)) fun r s' h => ?_
    cases r with
    | error e => exact (hCX H e s' h).elim
    | ok fl =>
      cases fl with
      | next => exact False.elim h
      | brk => exact False.elim h
      | cont => exact False.elim h
      | ret u =>
        obtain ⟨v, H', os, bare, un, hok', r', q⟩ := h
        have q' : v = .bl true := q
        subst q'
        obtain rfl : u = Value.bool true := r'
        refine ⟨rfl, OldK.of_keep fun b o e => ?_, os, bare⟩
        cases q : H b with
        | none => exact un.keep b o e q (by intro z; exact absurd (show b ∈ ([] : List Addr) from z) (by simp)) (by simp)
        | some u =>
          rcases hO b with z | ⟨ob, xs, z⟩
          · rw [q] at z; cases z
          · have z2 := un.frzs b ob _ z
            obtain ⟨e1, _⟩ := hok b _ z
            obtain ⟨e2, _⟩ := hok' b _ z2
            rw [e] at e1; cases e1
            exact e2
  cases hk : K.lookup a with
  | some o =>
    -- the script is one of the module's own objects
    have e := KX a o hk
    rw [ha] at e
    cases e
    refine core (fun _ => none) (fun _ => .inl rfl) (.inr ⟨_, vs.toArray, _, hk, rfl, rfl, rfl, by rw [List.size_toArray, lenV]; exact hl, by simpa using rv⟩) (fun b u z => by have z' : (none : Option HO) = some u := z; cases z') (fun b z => absurd rfl z) fun z => absurd rfl z
  | none =>
    refine core (fun b => if b = a then some (.frz { cls := .type "list", data := .seq vs.toArray } (.lst (ns.map V.int))) else none) (fun b => ?_) (.inl (.inr ⟨{ cls := .type "list", data := .seq vs.toArray }, if_pos rfl⟩)) (fun b u z => ?_) (fun b z => ?_) fun _ => hk
    · by_cases hb : b = a
      · exact .inr ⟨_, _, if_pos hb⟩
      · exact .inl (if_neg hb)
    · by_cases hb : b = a
      · have z' := (if_pos hb).symm.trans z
        cases z'
        subst hb
        exact ⟨ha, by rw [List.length_map]; exact hl, vs, _, rv, ha⟩
      · have z' := (if_neg hb).symm.trans z
        cases z'
    · by_cases hb : b = a
      · exact hb
      · exact absurd (if_neg hb) z
end L2

namespace L2
open PySem PySem.Spec PyProof.Rows

abbrev KOf {K : PySem.W.Frag} {h : Heap} (_ : K.In h) : PySem.W.Frag := K


theorem walk_of {l : PySem.W.OpenLaw} {n k : Nat} {q : Program} {loose : List Str} {XP : (Str → Option Value) → Heap → Prop} {YP : World → Heap → Prop} {d : DefRec} {K : Params → PySem.W.Frag} {CX : World → CXT} {sp : World → Sp} {x : Str}
    (hn : l.most = some n) (hn2 : n ≤ sizeLine) (hdf : d.params.defaults = []) (hr : Room k callerA)
    (hY : ∀ (w : World) (h : Heap), YP w h → (K w.params).In h)
    (F : ∀ (w : World) (mg : Str → Option Value) (fa : Addr) (h : Heap), (K w.params).In h → h.Ns mainGlobals mg → mg d.name = some (.ref fa) →
      ∃ fd : FuncData, (∀ (s : Shared) (u : Value), BindsTo s fd ⟨[u], []⟩ [(x, u)]) ∧
        ∀ base : Heap, (K w.params).In base → base.Ns mainGlobals mg → FnOk l.prog w (K w.params) mg base (CX w) k fa fd [x] (sp w))
    (hsp : ∀ (w : World) (H : Hp) (a : Addr) (ns : List Int), ns.length ≤ n → Only H → SqL (K w.params) H a (ns.map V.int) → sp w [.ref a] H (fun v _ => v = .bl true) fun _ _ _ => False)
    (hCX : ∀ (w : World) (H : Hp) (s : Shared) (e : Value) (s' : Shared), CX w [] H s (fun _ _ _ => False) e s' → False) :
    PySem.W.WalkO q loose XP YP l.row.toRowW d [] (fun f vs => PySem.call f vs) := by
  refine Att.attach_call hn hdf fun w s₀ s₁ mg mb fa o pm cd doc a vs ns G Y ho hd hcd hmg hobj hints hlen hg => ?_
  have KX := hY w _ Y
  obtain ⟨fd, hb, hF⟩ := F w mg fa _ KX G.T.g hmg
  exact law_call KX G.T.g G.T.b G.T.builtins G.T.nolimit hg hobj hints (Nat.le_trans hlen hn2) hr hF hb (fun H hO hS => hsp w H a ns hlen hO hS) fun H e s' => hCX w H s₁ e s'

end L2




namespace L2
open PySem PySem.Spec PyProof.Rows



def inClass (s : Stmt) (j : Nat) : Stmt := match s with
  | .ClassDef _ _ _ body _ _ _ _ _ _ _ => body.getD j (.Pass ⟨0, 0, 0, 0⟩)
  | _ => .Pass ⟨0, 0, 0, 0⟩
def defArgs (s : Stmt) : Arguments := match s with
  | .FunctionDef _ a _ _ _ _ _ _ _ _ => a
  | _ => { posonlyargs := [], args := [], vararg := none, kwonlyargs := [], kw_defaults := [], kwarg := none, defaults := [] }
def defBody (s : Stmt) : List Stmt := match s with
  | .FunctionDef _ _ b _ _ _ _ _ _ _ => b
  | _ => []
def defScope (s : Stmt) : Scope := match s with
  | .FunctionDef _ _ _ _ _ _ sc _ _ _ => sc
  | _ => { kind := .function, names := [], isGenerator := false, isCoroutine := false }


abbrev CX0 : CXT := fun _ _ _ _ _ _ => False
abbrev E0 : XK := fun _ _ _ => False
theorem pass0 {X : Cx} : Passes CX0 X E0 := fun _ _ _ _ _ _ _ h => h.elim


structure Fun (K : PySem.W.Frag) (x qual : Str) (st : Stmt) (f : Addr) (fd : FuncData) : Prop where
  ex : ∃ (oc : Value) (od : Option Addr) (kV doc pm : Value) (an : Option Addr) (cdv ct : Value) (osl : Array (Option Value)),
    fd = PySem.W.fnOf x qual (defArgs st) (defBody st) (defScope st) .none kV doc pm an cdv ct ∧ K.lookup f = some ⟨oc, od, .func fd, osl⟩ ∧ PySem.W.codeIn K cdv qual = true
  kp : PySem.W.keepIn K (.ref f) = true
section
variable {P : Program} {w : World} {K : PySem.W.Frag} {mg : Str → Option Value} {base : Heap}

theorem Fun.ok {x qual : Str} {st : Stmt} {f : Addr} {fd : FuncData} {N ps : List Str} {k : Nat} {sp : Sp} (F : Fun K x qual st f fd) (S : FnScope N ps (defScope st)) (len : ∀ vs H Q E, sp vs H Q E → vs.length = ps.length)
    (hbody : ∀ (cdv : Value) (A : Around) (outer : List Env) (s : Shared) (H : Hp) (vs : List V) (Q : VK) (E : XK), Room k (A.deeper (envOfC qual (defScope st) s.heap.objs.size f cdv)) → sp vs H Q E →
      ∃ t, PSs (cxOf CX0 P w K mg base N qual (defScope st) f cdv A outer s H E).nox (defBody st) t ∧ t { nx := fun _ H' => Q .non H', rt := Q } (start N vs) H) : FnOk P w K mg base CX0 (k + 1) f fd ps sp := by
  obtain ⟨oc, od, kV, doc, pm, an, cdv, ct, osl, rfl, lk, hcd⟩ := F.ex
  refine fn_of lk hcd S len fun A outer s H vs Q E hr hsp => ?_
  obtain ⟨t, h, q⟩ := hbody cdv A outer s H vs Q E hr hsp
  exact ⟨t, h.nox, q⟩

theorem Fun.binds {x qual : Str} {st : Stmt} {f : Addr} {fd : FuncData} {ps : List Str} (F : Fun K x qual st f fd)
    (h : ∀ (kV doc pm : Value) (an : Option Addr) (cdv ct : Value) (us : List Value), us.length = ps.length → bindArgs (PySem.W.fnOf x qual (defArgs st) (defBody st) (defScope st) .none kV doc pm an cdv ct) ⟨us, []⟩ = pure (ps.zip us)) : Binds K fd ps [] := by
  obtain ⟨oc, od, kV, doc, pm, an, cdv, ct, osl, rfl, lk, hcd⟩ := F.ex
  exact .all (h kV doc pm an cdv ct)
theorem fun_mk {x qual : Str} {st : Stmt} {f : Addr} {oc : Value} {od an : Option Addr} {osl : Array (Option Value)} {kV doc pm cdv ct : Value} (l : K.lookup f = some ⟨oc, od, .func (PySem.W.fnOf x qual (defArgs st) (defBody st) (defScope st) .none kV doc pm an cdv ct), osl⟩)
    (c : PySem.W.codeIn K cdv qual = true) (k : PySem.W.keepIn K (.ref f) = true) : Fun K x qual st f (PySem.W.fnOf x qual (defArgs st) (defBody st) (defScope st) .none kV doc pm an cdv ct) := ⟨⟨oc, od, kV, doc, pm, an, cdv, ct, osl, rfl, l, c⟩, k⟩
end
section
variable {X : Cx}
theorem pv (i : Nat) {x : Str} {pos : Pos} (hN : X.N[i]? = some x := by rfl) (hv : Vis X.env.scope x := by first | exact Or.inl rfl | exact Or.inr (Or.inl rfl) | exact Or.inr (Or.inr rfl)) (hd : (x == ("__debug__" : Str)) = false := by decide)
    (hcd : (x == ("__classdict__" : Str)) = false := by decide) : PE X (.Name x pos) (tVar i) := pe_var hN hv hd hcd

end


theorem iteF {A B : Prop} (h : B) : if false = true then A else B := by
  rw [if_neg Bool.false_ne_true]
  exact h
theorem iteT {A B : Prop} (h : A) : if true = true then A else B := by
  rw [if_pos rfl]
  exact h
def Same (H H' : Hp) : Prop := ∀ b o, H b = some o → H' b = some o
theorem Same.refl (H : Hp) : Same H H := fun _ _ h => h
theorem Same.trans {H H1 H2 : Hp} (a : Same H H1) (b : Same H1 H2) : Same H H2 := fun c o h => b c o (a c o h)
theorem Same.seq {K : PySem.W.Frag} {H H' : Hp} {a : Addr} {xs : List V} (e : Same H H') (h : SqL K H a xs) : SqL K H' a xs := by
  rcases h with (h | ⟨o, h⟩) | h
  · exact .inl (.inl (e _ _ h))
  · exact .inl (.inr ⟨o, e _ _ h⟩)
  · exact .inr h


section
variable {κ : Type} [DecidableEq κ]
end
end L2

namespace Bt
end Bt
namespace L3
open PySem PySem.Spec PyProof.Rows L2
abbrev St := L2.St


def lstO (its : List Value) : Obj := { cls := .type "list", data := .seq its.toArray its.length }
theorem lstO_snoc (its : List Value) (y : Value) : ({ cls := .type "list", data := .seq (its.toArray.push y) (its.length + 1) } : Obj) = lstO (its ++ [y]) := by
  show ({ cls := .type "list", data := .seq (its.toArray.push y) (its.length + 1) } : Obj) = { cls := .type "list", data := .seq (its ++ [y]).toArray (its ++ [y]).length }
  rw [List.length_append, List.length_singleton, List.push_toArray]

section
variable {prog : Program} {w : World} {A : Around} {R : Result → Shared → Prop} {s : Shared}

theorem compLoop_go {elt target iter : Expr} {ifs : List Expr} {scope : Scope} {pos : Pos} {it acc : Value} {env : Env} (I : Nat → Shared → Prop)
    (turn : ∀ n s, I n s → wpAny (model prog w) A (pyNext it) (fun r s1 => match r with
      | none => R (.ok .next) s1
      | some v => wpAny (model prog w) A (letOwnedTupleGo target it v) (fun _ s2 => wpAny (model prog w) A (assign target env v) (fun _ s3 =>
          wpAny (model prog w) A (forIn ifs true fun c r => if r = true then do let ok ← isTrue c env (eval c env); pure (ForInStep.yield ok) else pure (ForInStep.yield r)) (fun ok s4 =>
            if ok = true then wpAny (model prog w) A (eval elt env) (fun x s5 =>
              wpAny (model prog w) A (call (.builtin "list.append") [acc, x]) (fun _ s6 => ∃ m, m < n ∧ I m s6) (notedBy (model prog w) A env fun e s' => R (.error e) s') s5) (notedBy (model prog w) A env fun e s' => R (.error e) s') s4
            else ∃ m, m < n ∧ I m s4) (notedBy (model prog w) A env fun e s' => R (.error e) s') s3) (notedBy (model prog w) A env fun e s' => R (.error e) s') s2)
          (notedBy (model prog w) A env fun e s' => R (.error e) s') s1) (notedBy (model prog w) A env fun e s' => R (.error e) s') s)
    (n : Nat) (h : I n s) :
    codeAny (model prog w) A (.compLoop (.ListComp elt [⟨target, iter, ifs, 0⟩] scope pos) 0 it acc env) R s := by
  refine codeAny_loop rfl I (fun n s hI => ?_) n h
  show wpAny _ A ((compTurn (.ListComp elt [⟨target, iter, ifs, 0⟩] scope pos) 0 it acc env).onRaise (fun x => do noteFrame x env; theTreesLotGoes x)) _ _ s
  refine wpAny_noted ?_
  rw [compTurn_list]
  refine wpAny_bind (wpAny_standAt (wpAny_bind (wpAny_mono (turn n s hI) (fun r s1 h1 => ?_) fun _ _ h' => h')))
  cases r with
  | none => exact wpAny_pure h1
  | some v =>
    refine wpAny_bind (wpAny_mono h1 (fun _ s2 h2 => ?_) fun _ _ h' => h')
    refine wpAny_bind (wpAny_mono h2 (fun _ s3 h3 => wpAny_bind (wpAny_mono h3 (fun ok s4 h4 => ?_) fun _ _ h' => h')) fun _ _ h' => h')
    cases ok with
    | false => exact wpAny_pure ⟨rfl, h4⟩
    | true =>
      exact wpAny_bind (wpAny_bind (wpAny_mono h4 (fun x s5 h5 => wpAny_bind (wpAny_mono h5 (fun _ s6 h6 => wpAny_pure (wpAny_pure ⟨rfl, h6⟩)) fun _ _ h' => h')) fun _ _ h' => h'))
end


def cxComp (X : Cx) (scope : Scope) (cl : List (Str × Addr)) (own : List Str) (fr : List (Str × Nat)) (C : Addr) (s2 : Shared) (H2 : Hp) (fp : List Addr) : Cx :=
  { prog := X.prog, w := X.w, K := X.K, mg := X.mg, base := X.base, A := X.A, N := own ++ fr.map (·.1), s₀ := s2, H₀ := H2, env := compEnvC scope cl C X.env, outer := X.stack, stack := X.stack,
    ex := fp, fn := fun _ => false, calm := X.calm, pn := [], xe := fun _ _ => False }

def innerS (own : List Str) (fr : List (Str × Nat)) (σ : St) : St := own.map (fun _ => none) ++ fr.map fun p => (σ[p.2]?).join
def ClOk (env : Env) : List (Str × Addr) → Prop
  | [] => True
  | (n, c) :: r => env.cells.lookup n = some c ∧ ClOk env r
theorem ClOk.get {env : Env} : ∀ {cl : List (Str × Addr)} {x : Str} {c : Addr}, ClOk env cl → cl.lookup x = some c → env.cells.lookup x = some c
  | [], _, _, _, h => by simp at h
  | (n, d) :: r, x, c, ok, h => by
    rw [List.lookup_cons] at h
    cases e : x == n with
    | true =>
      rw [e] at h
      have e' : x = n := by simpa using e
      cases h
      rw [e']
      exact ok.1
    | false =>
      rw [e] at h
      exact ClOk.get ok.2 h
def CellK (sc : Scope) (x : Str) : Prop := sc.names.lookup x = some .cell ∨ sc.names.lookup x = some .free
def FrOk (X : Cx) (scope : Scope) (cl : List (Str × Addr)) : List (Str × Nat) → Prop
  | [] => True
  | (x, j) :: r => (X.N[j]? = some x ∧ CellK X.env.scope x ∧ CellK (relabel scope X.env) x ∧ (cl.lookup x).isSome = true) ∧ FrOk X scope cl r
theorem FrOk.get {X : Cx} {scope : Scope} {cl : List (Str × Addr)} : ∀ {fr : List (Str × Nat)} {i : Nat} {p : Str × Nat}, FrOk X scope cl fr → fr[i]? = some p →
    X.N[p.2]? = some p.1 ∧ CellK X.env.scope p.1 ∧ CellK (relabel scope X.env) p.1 ∧ (cl.lookup p.1).isSome = true
  | [], _, _, _, h => by simp at h
  | (x, j) :: r, 0, p, ok, h => by
    simp at h
    subst h
    exact ok.1
  | (x, j) :: r, i + 1, p, ok, h => FrOk.get (i := i) ok.2 (by simpa using h)
structure CompSc (X : Cx) (scope : Scope) (cl : List (Str × Addr)) (own : List Str) (fr : List (Str × Nat)) : Prop where
  clos : closureFor scope X.env = pure cl
  cells : ClOk X.env cl
  frs : FrOk X scope cl fr
  kind : scope.kind = .function
  nocell : ∀ y ∈ scope.names, y.2 ≠ .cell
  names : ∀ y ∈ scope.names, y.2 = .local → scope.names.lookup y.1 = some .local
  has : (scope.names.all fun y => y.2 != .free || (cl.lookup y.1).isSome) = true

theorem lookup_relabel_has {env : Env} {cl : List (Str × Addr)} : ∀ {names : List (Str × NameKind)} {x : Str}, (∀ y ∈ names, y.2 ≠ .cell) → (names.all fun y => y.2 != .free || (cl.lookup y.1).isSome) = true →
    ((names.map fun (n, k) => if (k == NameKind.free && env.scope.kind == .function && env.kindOf n == some .cell) then (n, NameKind.cell) else (n, k)).lookup x = some .cell ∨
     (names.map fun (n, k) => if (k == NameKind.free && env.scope.kind == .function && env.kindOf n == some .cell) then (n, NameKind.cell) else (n, k)).lookup x = some .free) → ∃ c, cl.lookup x = some c
  | [], _, _, _, h => by rcases h with h | h <;> simp at h
  | (n, k) :: r, x, nc, ha, h => by
    rw [List.all_cons, Bool.and_eq_true] at ha
    have ih := @lookup_relabel_has env cl r x (fun y hy => nc y (List.mem_cons_of_mem _ hy)) ha.2
    have nk : k ≠ .cell := nc (n, k) List.mem_cons_self
    have hk := ha.1
    cases hx : x == n with
    | true =>
      have ex : x = n := by simpa using hx
      subst ex
      by_cases hf : k = .free
      · subst hf
        have z : (cl.lookup x).isSome = true := by simpa using hk
        exact Option.isSome_iff_exists.mp z
      · exfalso
        have hb : (k == NameKind.free) = false := by simpa using hf
        rcases h with h | h
        · rw [List.map_cons] at h
          simp only [hb, Bool.false_and, Bool.false_eq_true, if_false, List.lookup_cons, beq_self_eq_true] at h
          exact nk (Option.some.inj h)
        · rw [List.map_cons] at h
          simp only [hb, Bool.false_and, Bool.false_eq_true, if_false, List.lookup_cons, beq_self_eq_true] at h
          exact hf (Option.some.inj h)
    | false =>
      refine ih ?_
      rcases h with h | h
      · left
        rw [List.map_cons] at h
        by_cases hc : (k == NameKind.free && env.scope.kind == .function && env.kindOf n == some .cell) = true
        · simp only [hc, if_true, List.lookup_cons, hx] at h; exact h
        · simp only [hc, Bool.false_eq_true, if_false, List.lookup_cons, hx] at h; exact h
      · right
        rw [List.map_cons] at h
        by_cases hc : (k == NameKind.free && env.scope.kind == .function && env.kindOf n == some .cell) = true
        · simp only [hc, if_true, List.lookup_cons, hx] at h; exact h
        · simp only [hc, Bool.false_eq_true, if_false, List.lookup_cons, hx] at h; exact h


def PTs (Y : Cx) (ifs : List Expr) (t : TT) : Prop :=
  ∀ (pins : List (Addr × Obj)) (s : Shared) (σ : St) (H : Hp) (Q : Bool → Hp → Prop), Inv Y pins σ H s → t σ H Q →
    wpAny (model Y.prog Y.w) Y.A (forIn ifs true fun c r => if r = true then do let ok ← isTrue c Y.env (eval c Y.env); pure (ForInStep.yield ok) else pure (ForInStep.yield r)) (TP Y pins σ Q) Y.xe s
def tTrue : TT := fun _ H Q => Q true H
theorem pts_nil {Y : Cx} : PTs Y [] tTrue := fun _ _ _ H _ I h => wpAny_tests_nil ⟨H, I, h⟩
def tComp (own : List Str) (fr : List (Str × Nat)) (wi : TI) (g : TG) (tc : TT) (te : TE) (fin : List V → Hp → Prop) : St → Hp → Prop := fun σ H => wi σ H fun J H1 =>
  ∃ W : Nat → Nat → List V → St → Hp → Prop, (∃ m, W 0 m [] (innerS own fr σ) H1) ∧ ∀ i m ys σ' H', W i m ys σ' H' →
    (J.stop i H' ∧ ys.length ≤ sizeLine ∧ fin ys H') ∨
    (J.go i H' ∧ ∃ N : List V → St → Hp → Prop, (∀ ys2 σ2 H2, N ys2 σ2 H2 → ys2.length ≤ sizeLine ∧ ∃ m', m' < m ∧ W (i + 1) m' ys2 σ2 H2) ∧
      ∀ x H2, J.yld i H' x H2 → g x σ' H2 fun σ3 H3 => tc σ3 H3 fun b H4 => if b = true then te σ3 H4 fun y H5 => N (ys ++ [y]) σ3 H5 else N ys σ3 H4)


structure Off (X : Cx) (pins : List (Addr × Obj)) (H : Hp) (C : Addr) : Prop where
  none : H C = none
  loc : C ≠ X.env.locals
  above : X.s₀.heap.objs.size ≤ C
  cell : ∀ x c, X.env.cells.lookup x = some c → c ≠ C
  pin : ∀ p ∈ X.pn ++ pins, p.1 ≠ C

section
variable {X : Cx} {tg elt iter : Expr} {ifs : List Expr} {scope : Scope} {cl : List (Str × Addr)} {own : List Str} {fr : List (Str × Nat)} {wi : TI} {g : TG} {tc : TT} {te : TE} {pos : Pos}

theorem comp_core (hc : X.calm = true) (S : CompSc X scope cl own fr) (hi : PI X tg iter wi) (hg : ∀ C s2 H2 fp, PG (cxComp X scope cl own fr C s2 H2 fp) tg g)
    (ht : ∀ C s2 H2 fp, PTs (cxComp X scope cl own fr C s2 H2 fp) ifs tc) (he : ∀ C s2 H2 fp, PE (cxComp X scope cl own fr C s2 H2 fp) elt te)
    {pins : List (Addr × Obj)} {s : Shared} {σ : St} {H : Hp} {fin : List V → Hp → Prop} (I : Inv X pins σ H s) (h : tComp own fr wi g tc te fin σ H)
    {RR : Value → Addr → Result → Shared → Prop}
    (hR : ∀ (D C : Addr) (s4 : Shared) (H3 : Hp) (ys : List V) (m : Str → Option Value), H3 D = none → Inv X pins σ (upd H3 D (.lst ys)) s4 → s4.heap.Ns C m → Off X pins (upd H3 D (.lst ys)) C → fin ys H3 → RR (.ref D) C (.ok .next) s4) :
    wpAny (model X.prog X.w) X.A (eval iter X.env) (fun x s1 => wpAny (model X.prog X.w) X.A (pyIter x) (fun itv s2 => wpAny (model X.prog X.w) X.A (newList []) (fun acc s3 =>
      wpAny (model X.prog X.w) X.A (newFunctionEnv scope X.env.globals cl [] X.env.qual none .none (some X.env)) (fun cenv s4 =>
        codeAny (model X.prog X.w) X.A (.compStart (.ListComp elt [⟨tg, iter, ifs, 0⟩] scope pos) 0 itv acc { cenv with scope := relabel scope X.env }) (RR acc cenv.locals) s4) X.xe s3) X.xe s2) X.xe s1) X.xe s := by
  refine thn (hi pins s σ H _ I h) fun v s1 h1 => thn h1 fun itv s2 h2 => ?_
  obtain ⟨it, fp, tn, J, H2, rfl, I2, T, st2, f2, W, ⟨m0, w0⟩, turn⟩ := h2
  refine wpAny_newObj_type (wpAny_newFunctionEnv S.nocell (by intro y hy; simp at hy) (fun h1 hns1 hsb1 => ?_) S.kind)
  dsimp only at hns1 hsb1 ⊢
  generalize hHP : s2.heap.push { cls := .type "list", dict := none, data := .seq ([] : List Value).toArray } = HP at hns1 hsb1 ⊢
  have hC : HP.objs.size = s2.heap.objs.size + 1 := by rw [← hHP, Heap.size_push]
  have hDC : s2.heap.objs.size ≠ HP.objs.size := by rw [hC]; exact Nat.ne_of_lt (Nat.lt_succ_self _)
  have below : ∀ b, b < s2.heap.objs.size → b ≠ HP.objs.size ∧ b ≠ s2.heap.objs.size := fun b hb => ⟨by rw [hC]; exact Nat.ne_of_lt (Nat.lt_succ_of_lt hb), Nat.ne_of_lt hb⟩
  have old : ∀ b o, s2.heap.get? b = some o → h1.get? b = some o := fun b o e => hsb1.extBut b o (below b (Heap.lt_size e)).1 (Heap.get?_push_of_some _ (hHP ▸ Heap.get?_push_of_some _ e))
  have hacc : h1.get? s2.heap.objs.size = some (lstO []) := hsb1.extBut _ _ hDC (Heap.get?_push_of_some _ (hHP ▸ Heap.get?_push_size _ rfl))
  have hfpo : ∀ b ∈ fp, b < s2.heap.objs.size := fun b hb => by obtain ⟨o, e, _⟩ := T.obj 0 _ st2 b hb; exact Heap.lt_size e
  have hcells : ∀ x c, cl.lookup x = some c → X.env.cells.lookup x = some c := fun x c e => S.cells.get e
  have hcD : ∀ x c, X.env.cells.lookup x = some c → c < s2.heap.objs.size := fun x c e => by obtain ⟨v, q⟩ := I2.cell x c e; exact q.lt
  have st1 : tn 0 h1 := T.keep _ _ _ st2 fun b _ o e => old b o e
  have hDfree : H2 s2.heap.objs.size = none := I2.hok.fresh (Nat.le_refl _)
  have hCfree : H2 HP.objs.size = none := I2.hok.fresh (by rw [hC]; exact Nat.le_succ _)
  have nostk : ∀ b, s2.heap.objs.size ≤ b → b ∉ L2.frs X.stack := fun b hb hm => by
    rcases List.mem_cons.mp (I2.stkSub b hm) with e | e
    · exact absurd I2.lt (by rw [← e]; exact Nat.not_lt.mpr hb)
    · exact I2.nofs hb e
  have hDlt : s2.heap.objs.size < h1.objs.size := Heap.lt_size hacc
  -- the block's context
  have YOk : (cxComp X scope cl own fr HP.objs.size s2 H2 fp).Ok := by
    refine ⟨I2.ok.mod, S.kind, I2.ok.glob, I2.ok.blt, ?_, fun x y c e1 e2 => I2.ok.inj x y c (hcells _ _ e1) (hcells _ _ e2), fun x hx => ?_, fun x c hf => ?_, I2.ok.hd, I2.ok.frames, .inl rfl, fun b hb => ⟨?_, fun x c e => ?_⟩,
      I2.bs, Nat.le_trans I2.ok.bsz I2.sz, fun b o e hb => ?_, fun b hb hm => ?_, I2.stack, I2.stkFree⟩
    · show s2.heap.objs.size ≤ HP.objs.size
      rw [hC]; exact Nat.le_succ _
    · exact lookup_relabel_has (env := X.env) S.nocell S.has hx
    · cases hf
    · exact (below b (hfpo b hb)).1
    · exact (f2 b hb).2.2.2.2.1 x c (hcells _ _ e)
    · rcases (f2 b hb).2.2.2.1 with z | z
      · exact I2.ok.noex b o e z
      · exact absurd (Heap.lt_size (I2.ok.bs b o e).1) (Nat.not_lt.mpr z)
    · rcases List.mem_cons.mp (I2.stkSub b hm) with e | e
      · exact (f2 b hb).2.1 e
      · exact (f2 b hb).2.2.1 e
  have hpinD : ∀ {h' : Heap} {its : List Value} {H' : Hp}, h'.get? s2.heap.objs.size = some (lstO its) → H' s2.heap.objs.size = none → ∀ p ∈ ([(s2.heap.objs.size, lstO its)] : List (Addr × Obj)),
      h'.get? p.1 = some p.2 ∧ H' p.1 = none ∧ p.1 ≠ HP.objs.size ∧ p.1 ∉ L2.frs X.stack ∧ ∀ v, p.2.data ≠ .cell v := fun {h' its H'} e n p hp => by
    have e1 : p = (s2.heap.objs.size, lstO its) := by simpa using hp
    subst e1
    exact ⟨e, n, hDC, nostk _ (Nat.le_refl _), fun v z => by cases z⟩
  have IY : Inv (cxComp X scope cl own fr HP.objs.size s2 H2 fp) [(s2.heap.objs.size, lstO [])] (innerS own fr σ) H2 { s2 with heap := h1, toks := s2.toks + ([] : List (Str × Value)).length } := by
    refine ⟨YOk, rfl, I2.bare, Un.kept old, ⟨_, hns1, fun i x v e1 e2 e3 => ?_⟩, fun x c e => ?_, hCfree, fun x c e => I2.freeC x c (hcells _ _ e), hpinD hacc hDfree, I2.hok.kept old, ?_⟩
    · have e1' : (own ++ fr.map (·.1))[i]? = some x := e1
      have e2' : (own.map (fun _ => (none : Option V)) ++ fr.map fun p => (σ[p.2]?).join)[i]? = some (some v) := e2
      by_cases hi' : i < own.length
      · rw [List.getElem?_append_left (by simpa using hi'), List.getElem?_map] at e2'
        rw [List.getElem?_eq_getElem hi'] at e2'
        cases e2'
      · rw [List.getElem?_append_right (by simpa using hi'), List.getElem?_map] at e2'
        rw [List.getElem?_append_right (Nat.not_lt.mp hi'), List.getElem?_map] at e1'
        rw [List.length_map] at e2'
        cases ef : fr[i - own.length]? with
        | none => rw [ef] at e1'; cases e1'
        | some p =>
          rw [ef] at e1' e2'
          have ex : p.1 = x := Option.some.inj e1'
          have ev : (σ[p.2]?).join = some v := Option.some.inj e2'
          obtain ⟨hN, hk, hk2, hs⟩ := S.frs.get ef
          have eσ : σ[p.2]? = some (some v) := by
            cases q : σ[p.2]? with
            | none => rw [q] at ev; cases ev
            | some o => rw [q] at ev; exact congrArg some ev
          obtain ⟨m, hn, hl⟩ := I2.loc
          obtain ⟨u, r, l⟩ := hl p.2 p.1 v hN eσ (by rcases hk with k | k; exact .inr (.inl k); exact .inr (.inr k))
          subst ex
          obtain ⟨c, ec⟩ := Option.isSome_iff_exists.mp hs
          refine ⟨u, r, .inr ⟨hk2, c, ec, ?_⟩⟩
          rcases l with ⟨hl1, _⟩ | ⟨_, c', ec', z⟩
          · have hl1' : X.env.scope.names.lookup p.1 = some .local := hl1
            rcases hk with z | z
            · rw [z] at hl1'; cases hl1'
            · rw [z] at hl1'; cases hl1'
          · have := hcells _ _ ec
            rw [ec'] at this
            cases this
            exact z.keeps old
    · obtain ⟨v, z⟩ := I2.cell x c (hcells _ _ e)
      exact ⟨v, z.keeps old⟩
    · show (own.map (fun _ => (none : Option V)) ++ fr.map fun p => (σ[p.2]?).join).length = (own ++ fr.map (·.1)).length
      simp
  have stat : ∀ {its : List Value} {H' : Hp}, (∀ b ∈ fp, H' b = none) → ∀ b ∈ fp, FpOk (cxComp X scope cl own fr HP.objs.size s2 H2 fp) [(s2.heap.objs.size, lstO its)] H' b := fun {its H'} hn b hb =>
    ⟨hn b hb, (below b (hfpo b hb)).1, fun hm => by
        rcases List.mem_cons.mp (I2.stkSub b hm) with e | e
        · exact (f2 b hb).2.1 e
        · exact (f2 b hb).2.2.1 e, .inl hb, fun x c e => (f2 b hb).2.2.2.2.1 x c (hcells _ _ e), fun p hp => by
        have e1 : p = (s2.heap.objs.size, lstO its) := by
          have hp' : p ∈ ([] : List (Addr × Obj)) ++ [(s2.heap.objs.size, lstO its)] := hp
          simpa using hp'
        subst e1
        exact (below b (hfpo b hb)).2.symm⟩
  have loop : ∀ s3 : Shared, s3 = { s2 with heap := h1, toks := s2.toks + ([] : List (Str × Value)).length } →
      codeAny (model X.prog X.w) X.A (.compLoop (.ListComp elt [⟨tg, iter, ifs, 0⟩] scope pos) 0 (.ref it) (.ref s2.heap.objs.size) (compEnvC scope cl HP.objs.size X.env)) (RR (.ref s2.heap.objs.size) HP.objs.size) s3 := by
    rintro s3 rfl
    refine compLoop_go (fun n s' => ∃ i ys its σ' H', Inv (cxComp X scope cl own fr HP.objs.size s2 H2 fp) [(s2.heap.objs.size, lstO its)] σ' H' s' ∧ Vals ys its ∧ tn i s'.heap ∧ (∀ b ∈ fp, H' b = none) ∧ W i n ys σ' H') ?_ m0
      ⟨0, [], [], innerS own fr σ, H2, IY, .nil, st1, fun b hb => (f2 b hb).1, w0⟩
    rintro n s3 ⟨i, ys, its, σ3, H3, I3, rv, st3, fr3, w3⟩
    rcases turn i n ys σ3 H3 w3 with ⟨stop, hz, qn⟩ | ⟨go, N, hN, step⟩
    · refine wpAny_mono (T.done (cxComp X scope cl own fr HP.objs.size s2 H2 fp) rfl rfl rfl hc i _ s3 σ3 H3 (fun _ _ => False) I3 (stat fr3) st3 stop) (fun r s4 h4 => ?_) fun _ _ f => f.elim
      obtain ⟨hr, I4⟩ := h4
      subst hr
      obtain ⟨eD, nD, _⟩ := I4.pin (s2.heap.objs.size, lstO its) (by simp [cxComp])
      obtain ⟨m, hn, _⟩ := id I4.loc
      have nC : H3 HP.objs.size = none := I4.free
      have bu := I4.base
      have J4 : Inv X pins σ (upd H3 s2.heap.objs.size (.lst ys)) s4 := by
        refine I2.call' (ch := fp) I4.os ⟨fun b o e n hb hx => bu.keep b o e n hb hx, fun b o e n hb hx => bu.slot b o e n hb hx, fun b o e n hx => ?_, fun b o e hx => bu.there b o e hx, fun b xs e => ?_, fun b o u e => ?_, fun b ps e => ?_⟩ ?_ I4.bare ?_
        · rw [upd_ne (below b (Heap.lt_size e)).2]; exact bu.free b o e n hx
        · have z := bu.tups b xs e
          rw [upd_ne (ne_of_none z nD)]; exact z
        · have z := bu.frzs b o u e
          rw [upd_ne (ne_of_none z nD)]; exact z
        · obtain ⟨more, z⟩ := bu.tbls b ps e
          exact ⟨more, by rw [upd_ne (ne_of_none z nD)]; exact z⟩
        · intro b o e
          by_cases hb : b = s2.heap.objs.size
          · subst hb
            rw [upd_same] at e
            cases e
            exact ⟨hz, its, its.length, rv, eD⟩
          · rw [upd_ne hb] at e
            exact (I4.hok b o e).stay (fun c u _ q => q) (fun c q => by rw [upd_ne (ne_of_none q nD)]; exact q) fun c xs q => by rw [upd_ne (ne_of_none q nD)]; exact q
        · intro b hb
          exact ⟨(f2 b hb).2.2.2.1, (f2 b hb).2.1, (f2 b hb).2.2.2.2.1, (f2 b hb).2.2.2.2.2⟩
      refine hR _ _ s4 H3 ys m nD J4 hn ⟨?_, ?_, ?_, ?_, ?_⟩ qn
      · rw [upd_ne hDC.symm]; exact nC
      · exact Nat.ne_of_gt (Nat.lt_of_lt_of_le I2.lt (by rw [hC]; exact Nat.le_succ _))
      · exact Nat.le_trans I2.sz (by rw [hC]; exact Nat.le_succ _)
      · exact fun x c e => (below c (hcD x c e)).1
      · exact fun p hp => (below p.1 (Heap.lt_size (I2.pin p hp).1)).1
    · refine wpAny_mono (T.item (cxComp X scope cl own fr HP.objs.size s2 H2 fp) rfl rfl rfl hc i _ s3 σ3 H3 (fun _ _ => False) I3 (stat fr3) st3 go) (fun r s4 h4 => ?_) fun _ _ f => f.elim
      obtain ⟨u, hr, h4⟩ := h4
      subst hr
      refine wpAny_mono h4 (fun _ s5 h5 => ?_) fun _ _ f => f.elim
      obtain ⟨x, H5, I5, r5, y5, st5, fr5⟩ := h5
      have I5' := I5.pinned (stat fr5) (T.obj _ _ st5)
      refine wpAny_mono (hg _ _ _ _ _ s5 σ3 H5 x u _ I5' r5 (step x H5 y5)) (fun _ s6 h6 => ?_) fun _ _ f => f.elim
      obtain ⟨σ6, H6, I6, q6⟩ := h6
      refine wpAny_mono (ht _ _ _ _ _ s6 σ6 H6 _ I6 q6) (fun ok s7 h7 => ?_) fun _ _ f => f.elim
      obtain ⟨H7, I7, q7⟩ := h7
      have keepT : ∀ {σ8 : St} {H8 : Hp} {s8 : Shared} {l : List (Addr × Obj)}, Inv (cxComp X scope cl own fr HP.objs.size s2 H2 fp) (l ++ pinsAt fp s5.heap) σ8 H8 s8 → tn (i + 1) s8.heap ∧ ∀ b ∈ fp, H8 b = none := fun {σ8 H8 s8 l} I8 => by
        refine ⟨T.keep _ _ _ st5 fun b hb o e => (I8.pin (b, o) (List.mem_append_right _ (List.mem_append_right _ (mem_pinsAt hb e)))).1, fun b hb => ?_⟩
        obtain ⟨o, e, _⟩ := T.obj _ _ st5 b hb
        exact (I8.pin (b, o) (List.mem_append_right _ (List.mem_append_right _ (mem_pinsAt hb e)))).2.1
      cases ok with
      | false =>
        rw [if_neg Bool.false_ne_true] at q7 ⊢
        obtain ⟨_, m', hm, w7⟩ := hN _ _ _ q7
        exact ⟨m', hm, i + 1, ys, its, σ6, H7, I7.unpinned, rv, (keepT I7).1, (keepT I7).2, w7⟩
      | true =>
        rw [if_pos rfl] at q7 ⊢
        refine wpAny_mono (he _ _ _ _ _ s7 σ6 H7 _ I7 q7) (fun y s8 h8 => ?_) fun _ _ f => f.elim
        obtain ⟨yv, H8, I8, r8, n8⟩ := h8
        obtain ⟨hlt', m', hm, w8⟩ := hN _ _ _ n8
        have hlt : ys.length < sizeLine := by rw [List.length_append] at hlt'; exact hlt'
        obtain ⟨eD, nD, nL, _, _⟩ := I8.pin (s2.heap.objs.size, lstO its) (by simp [cxComp])
        refine append_at (its := its.toArray) (n := its.length) (hsz := by rw [List.size_toArray, ← rv.length]; exact Nat.le_of_lt hlt) eD fun h9 sb9 eD9 => ?_
        have I8p : Inv (cxComp X scope cl own fr HP.objs.size s2 H2 fp) (pinsAt fp s5.heap) σ6 H8 s8 := I8.pins_of fun p hp => I8.pin p (List.mem_append_right _ (List.mem_append_right _ hp))
        have I9p : Inv (cxComp X scope cl own fr HP.objs.size s2 H2 fp) (pinsAt fp s5.heap) σ6 H8 { s8 with heap := h9 } :=
          I8p.turned (t' := s8.toks) (fun b o hb e => (sb9.2 b hb).trans e) nD nL (.inr (Nat.le_refl _)) (fun x c e => (below c (hcD x c (hcells _ _ e))).2) fun p hp => by
            have hp' : p ∈ pinsAt fp s5.heap := by simpa [cxComp] using hp
            exact (below p.1 (hfpo _ (of_pinsAt hp').1)).2
        have eD9' : h9.get? s2.heap.objs.size = some (lstO (its ++ [y])) := eD9.trans (congrArg some (lstO_snoc its y))
        have I9 : Inv (cxComp X scope cl own fr HP.objs.size s2 H2 fp) [(s2.heap.objs.size, lstO (its ++ [y]))] σ6 H8 { s8 with heap := h9 } := I9p.pins_of (hpinD eD9' nD)
        have K9 := keepT (l := []) (by simpa using I9p)
        exact ⟨m', hm, i + 1, ys ++ [yv], its ++ [y], σ6, H8, I9, rv.append (.cons r8 .nil), K9.1, K9.2, w8⟩
  exact codeAny_compStart_list (loop _ rfl) (T.self _ 0 _ _ _ st1 (loop _ rfl))


def tCompS (i : Nat) (own : List Str) (fr : List (Str × Nat)) (wi : TI) (g : TG) (tc : TT) (te : TE) : TS := fun D σ H => tComp own fr wi g tc te (fun ys H3 => ∀ p, H3 p = none → D.nx (σ.set i (some (.ref p))) (upd H3 p (.lst ys))) σ H
theorem ps_setC {i : Nat} {y : Str} {py spos : Pos} (hN : X.N.Nodup) (hi' : X.N[i]? = some y) (hx : X.env.scope.names.lookup y = some .local) (hc : X.calm = true) (S : CompSc X scope cl own fr) (hi : PI X tg iter wi) (hg : ∀ C s2 H2 fp, PG (cxComp X scope cl own fr C s2 H2 fp) tg g)
    (ht : ∀ C s2 H2 fp, PTs (cxComp X scope cl own fr C s2 H2 fp) ifs tc) (he : ∀ C s2 H2 fp, PE (cxComp X scope cl own fr C s2 H2 fp) elt te)
    (hsw : swapsWith (.ListComp elt [⟨tg, iter, ifs, 0⟩] scope pos) (some (.Name y py)) spos.line X.env = pure true := by rfl)
    (hs : ∀ x, foldedSetIterable iter X.env x = pure x := by intro _; rfl) : PS X (.Assign [.Name y py] (.ListComp elt [⟨tg, iter, ifs, 0⟩] scope pos) spos) (tCompS i own fr wi g tc te) := by
  intro pins s σ H D I h
  rw [exec_Assign_Name_used _ _ _ _ hsw]
  refine wpAny_bind (wpAny_standAt (wpAny_bind ?_))
  show wpAny _ X.A (do let _ ← comprehension (.ListComp elt [⟨tg, iter, ifs, 0⟩] scope pos) scope X.env _ (newList []) false (eval iter X.env) (some (assign (.Name y py) X.env))) _ _ s
  refine wpAny_bind (wpAny_mono (wpAny_comprehension_free (use := some (assign (.Name y py) X.env)) (Q := fun _ s' => SP X pins D .next s') rfl hs S.clos S.kind S.names ?_) (fun _ s' hq => wpAny_pure (wpAny_pure hq)) fun _ _ e => e)
  refine comp_core hc S hi hg ht he I h fun Da C s4 H3 ys m nD J hn off q => ?_
  show wpAny _ X.A (assign (.Name y py) X.env (.ref Da)) _ _ _
  refine wpAny_assign_Name (store_ok2 J hN hi' (.inl hx) (v := .ref Da) rfl (fun s5 I5 hsb => ?_) (.inr hx))
  obtain ⟨a, sb, ha⟩ := hsb
  have nCa : C ≠ a := by
    rcases ha with z | z
    · rw [z]; exact off.loc
    · exact (off.cell _ _ z).symm
  refine ⟨m, hn.sameBut sb nCa, fun h' sb' => ⟨_, _, I5.turned (t' := s5.toks) (fun b o hb e => (sb'.2 b hb).trans e) off.none off.loc (.inr off.above) off.cell off.pin, q Da nD⟩⟩
end
section
variable {K : PySem.W.Frag} {a : Addr} {xs : List V} {own : List Str} {fr : List (Str × Nat)} {g : TG} {tc : TT} {te : TE} {fin : List V → Hp → Prop} {σ : St} {H : Hp}

def CompW (J : It) (g : TG) (tc : TT) (te : TE) (fin : List V → Hp → Prop) (σ0 : St) (H1 : Hp) : Prop :=
  ∃ W : Nat → Nat → List V → St → Hp → Prop, (∃ m, W 0 m [] σ0 H1) ∧ ∀ i m ys σ' H', W i m ys σ' H' →
    (J.stop i H' ∧ ys.length ≤ sizeLine ∧ fin ys H') ∨
    (J.go i H' ∧ ∃ N : List V → St → Hp → Prop, (∀ ys2 σ2 H2, N ys2 σ2 H2 → ys2.length ≤ sizeLine ∧ ∃ m', m' < m ∧ W (i + 1) m' ys2 σ2 H2) ∧
      ∀ x H2, J.yld i H' x H2 → g x σ' H2 fun σ3 H3 => tc σ3 H3 fun b H4 => if b = true then te σ3 H4 fun y H5 => N (ys ++ [y]) σ3 H5 else N ys σ3 H4)
theorem comp_range {σ0 : St} {lo : Int} {n : Nat} (Pv : Nat → List V → St → Hp → Prop) (h0 : Pv 0 [] σ0 H) (hl : ∀ i ys σ H, i ≤ n → Pv i ys σ H → ys.length ≤ sizeLine)
    (hs : ∀ i ys σ H, i < n → Pv i ys σ H → g (.int (lo + i)) σ H fun σ3 H3 => tc σ3 H3 fun b H4 => if b = true then te σ3 H4 fun y H5 => Pv (i + 1) (ys ++ [y]) σ3 H5 else Pv (i + 1) ys σ3 H4)
    (hd : ∀ ys σ H, Pv n ys σ H → fin ys H) : CompW (Itr lo n) g tc te fin σ0 H := by
  refine ⟨fun i m ys σ H => m = n - i ∧ i ≤ n ∧ Pv i ys σ H, ⟨n, by simp, Nat.zero_le _, h0⟩, ?_⟩
  rintro i m ys σ H ⟨rfl, hi, p⟩
  by_cases hlt : i < n
  · refine .inr ⟨hlt, Pv (i + 1), fun ys2 σ2 H2 p' => ⟨hl (i + 1) ys2 σ2 H2 hlt p', n - (i + 1), by omega, rfl, hlt, p'⟩, fun x H2 y => ?_⟩
    obtain ⟨e, y⟩ := y
    subst e y
    exact hs i ys σ _ hlt p
  · have e : i = n := by omega
    subst e
    exact .inl ⟨Nat.le_refl _, hl _ ys σ H hi p, hd ys σ H p⟩
end
end L3
namespace L3
open PySem PySem.Spec PyProof.Rows L2 PySem.SeqAt


theorem look_new {H : Hp} {p q : Addr} {o u : HO} (hq : H q = some u) (hp : H p = none) : upd H p o q = some u := by
  rw [upd_ne (ne_of_none hq hp)]; exact hq
theorem same_new {H : Hp} {p : Addr} {o : HO} (h : H p = none) : Same H (upd H p o) := fun b u q => look_new q h
theorem SqT_same {K : PySem.W.Frag} {H H' : Hp} {a : Addr} {xs : List V} (e : Same H H') (h : SqT K H a xs) : SqT K H' a xs := by
  rcases h with (h | ⟨o, h⟩) | h
  · exact .inl (.inl (e _ _ h))
  · exact .inl (.inr ⟨o, e _ _ h⟩)
  · exact .inr h


mutual
def Dp (K : PySem.W.Frag) (H : Hp) : PyData → V → Prop
  | .none, v => v = .non
  | .bool b, v => v = .bl b
  | .int i, v => v = .int i
  | .str x, v => v = .str x
  | .list ds, v => ∃ a xs, v = .ref a ∧ SqL K H a xs ∧ DpAll K H ds xs
  | .tuple ds, v => ∃ a xs, v = .ref a ∧ SqT K H a xs ∧ DpAll K H ds xs
  | .dict _, _ => False
def DpAll (K : PySem.W.Frag) (H : Hp) : List PyData → List V → Prop
  | [], vs => vs = []
  | d :: ds, vs => ∃ v r, vs = v :: r ∧ Dp K H d v ∧ DpAll K H ds r
end
theorem dpAll_ints {K : PySem.W.Frag} {H : Hp} : ∀ ns : List Int, DpAll K H (ns.map PyData.int) (ns.map V.int)
  | [] => by rw [List.map_nil, List.map_nil, DpAll]
  | n :: ns => by
    rw [List.map_cons, List.map_cons, DpAll]
    exact ⟨_, _, rfl, by rw [Dp], dpAll_ints ns⟩
theorem dp_str {K : PySem.W.Frag} {H : Hp} (x : Str) : Dp K H (.str x) (.str x) := by rw [Dp]
theorem dp_tup {K : PySem.W.Frag} {H : Hp} {a : Addr} {xs : List V} {ds : List PyData} (h : SqT K H a xs) (q : DpAll K H ds xs) : Dp K H (.tuple ds) (.ref a) := by
  rw [Dp]; exact ⟨a, _, rfl, h, q⟩
theorem dpAll_cons {K : PySem.W.Frag} {H : Hp} {d : PyData} {ds : List PyData} {v : V} {r : List V} (h : Dp K H d v) (q : DpAll K H ds r) : DpAll K H (d :: ds) (v :: r) := by
  rw [DpAll]; exact ⟨_, _, rfl, h, q⟩
theorem canLay_ints : ∀ ns : List Int, PyData.canLayAll0 (ns.map PyData.int) = true
  | [] => rfl
  | n :: ns => by
    rw [List.map_cons, PyData.canLayAll0, canLay_ints ns]; rfl
theorem depth_ints : ∀ ns : List Int, PyData.depthAll (ns.map PyData.int) = 0
  | [] => rfl
  | n :: ns => by
    rw [List.map_cons, PyData.depthAll, depth_ints ns]; rfl
section
variable {X : Cx} {pins : List (Addr × Obj)} {σ : St} {H : Hp} {s : Shared}
mutual
theorem dp_reads (I : Inv X pins σ H s) : ∀ (d : PyData) (v : V) (u : Value), Dp X.K H d v → RelV v u → ∃ as, Reads s.heap u d as
  | .none, v, u, h, r => by
    rw [Dp] at h; subst h; cases (show u = Value.none from r); exact ⟨_, .none⟩
  | .bool b, v, u, h, r => by
    rw [Dp] at h; subst h; cases (show u = Value.bool b from r); exact ⟨_, .bool b⟩
  | .int i, v, u, h, r => by
    rw [Dp] at h; subst h; obtain ⟨t, e⟩ := (show ∃ t, u = Value.int i t from r); subst e; exact ⟨_, .int i t⟩
  | .str x, v, u, h, r => by
    rw [Dp] at h; subst h; obtain ⟨t, e⟩ := (show ∃ t, u = Value.str x t from r); subst e; exact ⟨_, .str x t⟩
  | .list ds, v, u, h, r => by
    rw [Dp] at h
    obtain ⟨a, xs, e, hq, ha⟩ := h
    subst e
    cases (show u = Value.ref a from r)
    obtain ⟨its, rv, pl, hz⟩ := I.list hq
    obtain ⟨o, ho, hc, n, hd⟩ := pl.isList
    obtain ⟨as, z⟩ := dpAll_reads I ds xs its ha rv
    exact ⟨_, .list ho hc hd (by simpa using z)⟩
  | .tuple ds, v, u, h, r => by
    rw [Dp] at h
    obtain ⟨a, xs, e, hq, ha⟩ := h
    subst e
    cases (show u = Value.ref a from r)
    obtain ⟨its, rv, pl, hz⟩ := I.tuple hq
    obtain ⟨o, ho, hc, n, hd⟩ := pl
    obtain ⟨as, z⟩ := dpAll_reads I ds xs its ha rv
    exact ⟨_, .tuple ho hc hd (by simpa using z)⟩
  | .dict _, v, u, h, r => by rw [Dp] at h; exact h.elim
theorem dpAll_reads (I : Inv X pins σ H s) : ∀ (ds : List PyData) (vs : List V) (us : List Value), DpAll X.K H ds vs → Vals vs us → ∃ as, ReadsAll s.heap us ds as
  | [], vs, us, h, r => by
    rw [DpAll] at h; subst h; cases r; exact ⟨_, .nil⟩
  | d :: ds, vs, us, h, r => by
    rw [DpAll] at h
    obtain ⟨v, rr, e, h1, h2⟩ := h
    subst e
    cases r with
    | cons r1 r2 =>
      obtain ⟨as, z1⟩ := dp_reads I d _ _ h1 r1
      obtain ⟨bs, z2⟩ := dpAll_reads I ds _ _ h2 r2
      exact ⟨_, .cons z1 z2⟩
end
end
def rEqD (K : PySem.W.Frag) : R2 := fun x y H Q => ∃ dx dy, Dp K H dx x ∧ Dp K H dy y ∧ shaped dx = true ∧ shaped dy = true ∧ Q (.bl (PyData.eqv dx dy)) H
def rNeD (K : PySem.W.Frag) : R2 := fun x y H Q => ∃ dx dy, Dp K H dx x ∧ Dp K H dy y ∧ shaped dx = true ∧ shaped dy = true ∧ Q (.bl (!PyData.eqv dx dy)) H

def rEqA (K : PySem.W.Frag) : R2 := fun x y H Q => rEq x y H Q ∨ rEqD K x y H Q
def rNeA (K : PySem.W.Frag) : R2 := fun x y H Q => rNe x y H Q ∨ rNeD K x y H Q
section
variable {X : Cx}
theorem op_eqD (hu : X.A.units + 64 < cLine) : OpR X (compareOp .Eq) (rEqD X.K) := by
  intro pins s σ H x y v u Q I rx ry h
  obtain ⟨dx, dy, hx, hy, sx, sy, q⟩ := h
  obtain ⟨as, ra⟩ := dp_reads I dx x v hx rx
  obtain ⟨bs, rb⟩ := dp_reads I dy y u hy ry
  exact eq_dataH ra rb sx sy hu ⟨.bl _, H, I, rfl, q⟩
theorem op_neD (hu : X.A.units + 64 < cLine) : OpR X (compareOp .NotEq) (rNeD X.K) := by
  intro pins s σ H x y v u Q I rx ry h
  obtain ⟨dx, dy, hx, hy, sx, sy, q⟩ := h
  obtain ⟨as, ra⟩ := dp_reads I dx x v hx rx
  obtain ⟨bs, rb⟩ := dp_reads I dy y u hy ry
  exact ne_dataH ra rb sx sy hu ⟨.bl _, H, I, rfl, q⟩
theorem op_eqA (hu : X.A.units + 64 < cLine) : OpR X (compareOp .Eq) (rEqA X.K) := op_eq.or (op_eqD hu)
theorem op_neA (hu : X.A.units + 64 < cLine) : OpR X (compareOp .NotEq) (rNeA X.K) := op_ne.or (op_neD hu)
end
theorem canLay_of (d : PyData) (h : shaped d = true) : d.canLay0 = true := (Bool.and_eq_true_iff.mp h).1
theorem r_eqS {K : PySem.W.Frag} {x y : V} {H : Hp} {Q : VK} (h : scal x y = true) (q : Q (.bl (decide (x = y))) H) : rEqA K x y H Q := .inl ⟨h, q⟩
theorem r_eqT {K : PySem.W.Frag} {x y : V} {H : Hp} {Q : VK} (d : PyData) (hx : Dp K H d x) (hy : Dp K H d y) (hs : shaped d = true) (q : Q (.bl true) H) : rEqA K x y H Q :=
  .inr ⟨d, d, hx, hy, hs, hs, by rw [eqv_refl d (canLay_of d hs)]; exact q⟩
theorem r_neT {K : PySem.W.Frag} {x y : V} {H : Hp} {Q : VK} (d : PyData) (hx : Dp K H d x) (hy : Dp K H d y) (hs : shaped d = true) (q : Q (.bl false) H) : rNeA K x y H Q :=
  .inr ⟨d, d, hx, hy, hs, hs, by rw [eqv_refl d (canLay_of d hs)]; exact q⟩


def clsOf : V → Value
  | .ty n => .type n
  | .ref a => .ref a
  | _ => .none
theorem clsOf_eq {c : V} {u : Value} (r : RelV c u) (h : clsOf c ≠ .none) : u = clsOf c := by
  cases c <;> first | exact r | exact (h rfl).elim
def rIsi (K : PySem.W.Frag) : List V → Hp → VK → Prop := fun xs H Q => ∃ x c t b, xs = [x, c] ∧ clsOf c ≠ .none ∧ TyOf K H x t ∧ PySem.W.kitOne K t (clsOf c) = some b ∧ Q (.bl b) H
theorem call_isi {X : Cx} : CallR X (.builtin "isinstance") (rIsi X.K) := by
  intro pins s σ H xs us Q I r h
  obtain ⟨x, c, t, b, rfl, hc, ty, e, q⟩ := h
  obtain ⟨u, w', rfl, rx, rc⟩ := vals2 r
  cases clsOf_eq rc hc
  exact isinst_ok I rx ty e fun tk => ⟨.bl b, H, I.tok _, rfl, q⟩
theorem r_isi {K : PySem.W.Frag} {x c : V} {H : Hp} {Q : VK} {t : Value} {b : Bool} (hc : clsOf c ≠ .none) (ty : TyOf K H x t) (e : PySem.W.kitOne K t (clsOf c) = some b) (q : Q (.bl b) H) : rIsi K [x, c] H Q := ⟨x, c, t, b, rfl, hc, ty, e, q⟩


theorem bool_index : typeLookup (.type "bool") "__index__" = pure (some (.builtin "int.__index__")) := by rw [typeLookup_type, builtinLookup_eq_fast]; kernel_rfl
theorem listSubscript_bool {M : Model} {A : Around} {E : Value → Shared → Prop} {s : Shared} {b : Bool} {Q : Option Int → Shared → Prop} (h : Q (some (if b then 1 else 0)) s) :
    wpAny M A (Builtin.List.listSubscript? (.bool b)) Q E s := by
  unfold Builtin.List.listSubscript?
  refine wpAny_bind (wpAny_specialOf (T := "bool") (show s.TypeIs (.bool b) "bool" from rfl) bool_index ?_)
  show wpAny M A (asIndex (.bool b) >>= _) Q E s
  refine wpAny_bind (wpAny_of_eq (a := if b then 1 else 0) rfl ?_)
  show wpAny M A (if (!Builtin.List.listFitsIndex (if b then 1 else 0)) = true then _ else _) Q E s
  rw [if_neg (by cases b <;> decide)]
  exact wpAny_pure h
theorem getItem_list_bool {prog : Program} {w : World} {A : Around} {E : Value → Shared → Prop} {s : Shared} {l : Addr} {items : Array Value} {b : Bool} {x : Value} {Q : Value → Shared → Prop} (hl : s.heap.IsList l items)
    (hx : items[if b then 1 else 0]? = some x) (h : Q x s) : wpAny (model prog w) A (getItem (.ref l) (.bool b)) Q E s := by
  obtain ⟨o, ho, hc, ne, hd⟩ := id hl
  unfold getItem
  try with_reducible refine wpAny_holding ?_
  first | refine wpAny_bind (wpAny_pure ?_) | skip
  refine wpAny_bind (wpAny_sequenceKey hl.typeIs (by decide) ?_)
  refine wpAny_bind (wpAny_callSpecial?_slot (name := Str.ofString "__getitem__") hl.typeIs slot_list_getitem
    (wpAny_call_entry slot_list_getitem hl.typeIs entry_list_getitem ?_ (args_list_getitem _ _)))
  show wpAny _ _ (Builtin.List.listSubscript? (.bool b) >>= _) _ _ s
  refine wpAny_bind (listSubscript_bool ?_)
  cases b with
  | true =>
    have hx' : items[1]? = some x := hx
    show wpAny _ _ ((seqItemAt l 1 >>= fun r => pure (r.map (1, ·))) >>= _) _ _ s
    refine wpAny_bind (wpAny_bind (wpAny_seqItemAt ho hd (wpAny_pure ?_)))
    rw [hx']
    first
      | exact wpAny_bind (wpAny_pure (wpAny_pure ⟨x, rfl, wpAny_pure h⟩))
      | exact wpAny_pure ⟨x, rfl, wpAny_pure h⟩
  | false =>
    have hx' : items[0]? = some x := hx
    show wpAny _ _ ((seqItemAt l 0 >>= fun r => pure (r.map (0, ·))) >>= _) _ _ s
    refine wpAny_bind (wpAny_bind (wpAny_seqItemAt ho hd (wpAny_pure ?_)))
    rw [hx']
    first
      | exact wpAny_bind (wpAny_pure (wpAny_pure ⟨x, rfl, wpAny_pure h⟩))
      | exact wpAny_pure ⟨x, rfl, wpAny_pure h⟩
def rIxB (K : PySem.W.Frag) : R2 := fun x y H Q => ∃ p xs b v, x = .ref p ∧ y = .bl b ∧ SqL K H p xs ∧ xs[if b then 1 else 0]? = some v ∧ Q v H
theorem ix_bool {X : Cx} : IxR X (rIxB X.K) := by
  intro value slice pins s σ H x y v u Q I rx ry h hs
  obtain ⟨p, xs, b, z, rfl, rfl, hq, he, q⟩ := h
  cases rx
  cases ry
  obtain ⟨its, r, pl, hz⟩ := I.list hq
  obtain ⟨w, ew, rw'⟩ := r.get he
  exact subscriptTail_builtinR (x := w) pl.isList.typeIs slot_list_getitem.lookup
    (getItem_list_bool (Q := fun r s' => r = w ∧ EP X pins σ Q r s') pl.isList (by simpa using ew) ⟨rfl, z, H, I, rw', q⟩) hs

def rIxA (K : PySem.W.Frag) : R2 := fun x y H Q => rIx K x y H Q ∨ rIxB K x y H Q
theorem ix_any {X : Cx} : IxR X (rIxA X.K) := ix_seq.or ix_bool
theorem r_ixL {K : PySem.W.Frag} {p : Addr} {xs : List V} {i : Int} {v : V} {H : Hp} {Q : VK} (h : SqL K H p xs) (e : atI xs i = some v) (q : Q v H) : rIxA K (.ref p) (.int i) H Q := .inl (.inl ⟨p, xs, i, v, rfl, rfl, h, e, q⟩)
theorem r_ixT {K : PySem.W.Frag} {p : Addr} {xs : List V} {i : Int} {v : V} {H : Hp} {Q : VK} (h : SqT K H p xs) (e : atI xs i = some v) (q : Q v H) : rIxA K (.ref p) (.int i) H Q := .inl (.inr (.inl ⟨p, xs, i, v, rfl, rfl, h, e, q⟩))
def rStr : R2 := fun x y H Q => ∃ i j, x = .str i ∧ y = .str j ∧ i.length + j.length ≤ sizeLine ∧ Q (.str (i ++ j)) H
def rPlus (K : PySem.W.Frag) : R2 := fun x y H Q => rI0 (fun i j => .int (i + j)) x y H Q ∨ rCat x y H Q ∨ rCatT K x y H Q ∨ rStr x y H Q
theorem op_plus {X : Cx} : OpR X (binaryOp .Add) (rPlus X.K) := op_add.or (op_cat.or (op_catT.or op_add_str))
theorem r_plusI {K : PySem.W.Frag} {i j : Int} {H : Hp} {Q : VK} (q : Q (.int (i + j)) H) : rPlus K (.int i) (.int j) H Q := .inl ⟨i, j, rfl, rfl, q⟩
theorem r_plusL {K : PySem.W.Frag} {a b : Addr} {xs ys : List V} {H : Hp} {Q : VK} (ha : H a = some (.lst xs)) (hb : H b = some (.lst ys)) (hz : xs.length + ys.length ≤ sizeLine) (q : ∀ p, H p = none → Q (.ref p) (upd H p (.lst (xs ++ ys)))) :
    rPlus K (.ref a) (.ref b) H Q := .inr (.inl ⟨a, b, xs, ys, rfl, rfl, ha, hb, hz, q⟩)
def rSlA (K : PySem.W.Frag) : V → Option Int → Option Int → Hp → VK → Prop := fun x lo hi H Q => rSlL K x lo hi H Q ∨ rSlT K x lo hi H Q
theorem sl_any {X : Cx} : SlR X (rSlA X.K) := sl_list.or sl_tup


structure FnE (P : Program) (w : World) (K : PySem.W.Frag) (mg : Str → Option Value) (base : Heap) (CX : CXT) (k : Nat) (x : Str) (sp : Sp) : Prop where
  ex : ∃ (f : Addr) (fd : FuncData) (ps : List Str), FnOk P w K mg base CX k f fd ps sp ∧ mg x = some (.ref f) ∧ PySem.W.keepIn K (.ref f) = true ∧ Binds K fd ps []
structure MethE (P : Program) (w : World) (K : PySem.W.Frag) (mg : Str → Option Value) (base : Heap) (CX : CXT) (k : Nat) (C : Addr) (m : Str) (sp : Sp) : Prop where
  cl : Cls K C
  ex : ∃ (f : Addr) (fd : FuncData) (ps : List Str), Meth K C m f ∧ FnOk P w K mg base CX k f fd ps sp ∧ Binds K fd ps []
structure MkE (P : Program) (w : World) (K : PySem.W.Frag) (mg : Str → Option Value) (base : Heap) (CX : CXT) (k : Nat) (x : Str) (C : Addr) (sp : Sp) : Prop where
  ex : ∃ (f : Addr) (fd : FuncData) (ps : List Str), Mk K C f ∧ FnOk P w K mg base CX k f fd ps sp ∧ mg x = some (.ref C) ∧ Binds K fd ps []
theorem MethE.mono {P : Program} {w : World} {K : PySem.W.Frag} {mg : Str → Option Value} {base : Heap} {CX : CXT} {j k : Nat} {C : Addr} {m : Str} {sp : Sp} (M : MethE P w K mg base CX j C m sp) (h : j ≤ k) : MethE P w K mg base CX k C m sp := by
  obtain ⟨f, fd, ps, a, b, c⟩ := M.ex
  exact ⟨M.cl, f, fd, ps, a, b.mono h, c⟩
def tCallE (sp : Sp) (E : XK) (t : TA) : TE := fun σ H Q => t σ H fun vs H1 => sp vs H1 Q E
def tMakeE (C : Addr) (sp : Sp) (E : XK) (t : TA) : TE := fun σ H Q => t σ H fun vs H1 => ∀ x dx, H1 x = none → H1 dx = none → dx ≠ x →
  sp (.ref x :: vs) (upd (upd H1 dx (.own x)) x (.ins C dx [])) (fun v H2 => v = .non ∧ Q (.ref x) H2) E
def tMethE (P : Program) (w : World) (K : PySem.W.Frag) (mg : Str → Option Value) (base : Heap) (CX : CXT) (k : Nat) (m : Str) (E : XK) (ta : TE) (t : TA) : TE := fun σ H Q => ta σ H fun x H1 =>
  ∃ a C dx fs sp, x = .ref a ∧ H1 a = some (.ins C dx fs) ∧ fs.lookup m = none ∧ MethE P w K mg base CX k C m sp ∧ t σ H1 fun vs H2 => sp (.ref a :: vs) H2 Q E
section
variable {X : Cx} {CX : CXT} {k : Nat} {C : Addr} {sp : Sp} {E : XK} {x m : Str} {p pos apos : Pos} {e o : Expr} {es : List Expr} {ta : TE} {t : TA}
theorem pe_callE (G : FnE X.prog X.w X.K X.mg X.base CX k x sp) (hr : Room k X.A) (hx : Passes CX X E) (hg : Gl X x) (ha : PA X (e :: es) t) (hdb : (x == ("__debug__" : Str)) = false := by decide)
    (he : starEach (e :: es) X.env = (false, eval e X.env) :: starEach es X.env := by rfl) (hpl : (backTo pos (starEach es X.env)).any (·.1) = false := by rfl) : PE X (.Call (.Name x p) (e :: es) [] pos) (tCallE sp E t) := by
  obtain ⟨f, fd, ps, F, hm, hk, hb⟩ := G.ex
  have z := pe_call (p := p) (pos := pos) F hr hg hm hk hb .nil hx ha hdb he hpl
  intro pins s σ H Q I h
  refine z pins s σ H Q I ?_
  have e1 : tCall sp [] E t = tCallE sp E t := by
    funext σ H Q
    show t σ H (fun vs H1 => sp (vs ++ []) H1 Q E) = t σ H (fun vs H1 => sp vs H1 Q E)
    simp only [List.append_nil]
  rw [e1]; exact h
theorem pe_makeE (G : MkE X.prog X.w X.K X.mg X.base CX k x C sp) (hr : Room (k + 1) X.A) (hx : Passes CX X E) (hg : Gl X x) (ha : PA X (e :: es) t) (hdb : (x == ("__debug__" : Str)) = false := by decide)
    (he : starEach (e :: es) X.env = (false, eval e X.env) :: starEach es X.env := by rfl) (hpl : (backTo pos (starEach es X.env)).any (·.1) = false := by rfl) : PE X (.Call (.Name x p) (e :: es) [] pos) (tMakeE C sp E t) := by
  obtain ⟨f, fd, ps, M, F, hm, hb⟩ := G.ex
  have z := pe_make (p := p) (pos := pos) M F hr hg hm hb .nil hx ha hdb he hpl
  intro pins s σ H Q I h
  refine z pins s σ H Q I ?_
  have e1 : tMake C sp [] E t = tMakeE C sp E t := by
    funext σ H Q
    show t σ H (fun vs H1 => ∀ x dx, H1 x = none → H1 dx = none → dx ≠ x → sp (.ref x :: (vs ++ [])) _ _ E) = t σ H (fun vs H1 => ∀ x dx, H1 x = none → H1 dx = none → dx ≠ x → sp (.ref x :: vs) _ _ E)
    simp only [List.append_nil]
  rw [e1]; exact h
theorem pe_methE {pl : Sem Bool} (he : PE X o ta) (hr : Room k X.A) (hx : Passes CX X E) (ha : PA X (e :: es) t)
    (hst : starEach (e :: es) X.env = (false, eval e X.env) :: starEach es X.env := by rfl) (hpl : (backTo pos (starEach es X.env)).any (·.1) = false := by rfl)
    (ht : eval (.Call (.Attribute o m apos) (e :: es) [] pos) X.env = (do
      let ov ← eval o X.env
      standAt apos.atName
      let (f, first) ← holding [ov] (getMethod ov m pl)
      callWith pos f first (backTo pos (starEach (e :: es) X.env)) (backToKw pos (keywordEach [] X.env))) := by rfl) :
    PE X (.Call (.Attribute o m apos) (e :: es) [] pos) (tMethE X.prog X.w X.K X.mg X.base CX k m E ta t) := by
  intro pins s σ H Q I h
  refine PySem.W.methodCall_KW (pl := pl) (thn (he pins s σ H _ I h) fun u s1 ⟨x, H1, I1, rx, a, C, dx, fs, sp, ex, ea, l, M, q⟩ => ?_) ht
  subst ex
  obtain rfl : u = Value.ref a := rx
  obtain ⟨f, fd, ps, hm, F, hb⟩ := M.ex
  refine getmeth_ok I1 ea M.cl hm l ?_
  refine PySem.W.callWith_K (first := [.ref a]) (h₀ := X.base) I.ok.mod.kin hm.kp (thn (ha pos pins s1 σ H1 _ I1 q) fun us s2 ⟨vs, H2, I2, r, q2⟩ => ⟨I2.kIn, ?_⟩) hst hpl
  exact run_fn (us := .ref a :: us) (vs := .ref a :: vs) F hr hb .nil hx I2 (.cons rfl r) (by rw [List.append_nil]; exact q2)
theorem pe_methE0 {pl : Sem Bool} (he : PE X o ta) (hr : Room k X.A) (hx : Passes CX X E)
    (ht : eval (.Call (.Attribute o m apos) [] [] pos) X.env = (do
      let ov ← eval o X.env
      standAt apos.atName
      let (f, first) ← holding [ov] (getMethod ov m pl)
      callWith pos f first (backTo pos (starEach [] X.env)) (backToKw pos (keywordEach [] X.env))) := by rfl) :
    PE X (.Call (.Attribute o m apos) [] [] pos) (tMethE X.prog X.w X.K X.mg X.base CX k m E ta tNil) := by
  intro pins s σ H Q I h
  refine PySem.W.methodCall_KW (pl := pl) (thn (he pins s σ H _ I h) fun u s1 ⟨x, H1, I1, rx, a, C, dx, fs, sp, ex, ea, l, M, q⟩ => ?_) ht
  subst ex
  obtain rfl : u = Value.ref a := rx
  obtain ⟨f, fd, ps, hm, F, hb⟩ := M.ex
  refine getmeth_ok I1 ea M.cl hm l ?_
  exact PySem.W.callWith_K0 (first := [.ref a]) I1.kIn hm.kp (run_fn (us := [.ref a]) (vs := [.ref a]) F hr hb .nil hx I1 (.cons rfl .nil) q)
end


theorem b_len : bootBuiltins "len" = some (.builtin "len") := by decide +kernel
theorem b_isinstance : bootBuiltins "isinstance" = some (.builtin "isinstance") := by decide +kernel
theorem b_tuple : bootBuiltins "tuple" = some (.type "tuple") := by decide +kernel
def rFld (K : PySem.W.Frag) (f : Str) : V → Hp → VK → Prop := fun x H1 Q => ∃ a C dx fs v, x = .ref a ∧ H1 a = some (.ins C dx fs) ∧ Cls K C ∧ NoAttr K C f ∧ fs.lookup f = some v ∧ Q v H1
def rMeth (P : Program) (w : World) (K : PySem.W.Frag) (mg : Str → Option Value) (base : Heap) (CX : CXT) (k : Nat) (m : Str) (E : XK) (σ : St) (t : TA) : V → Hp → VK → Prop := fun x H1 Q =>
  ∃ a C dx fs sp, x = .ref a ∧ H1 a = some (.ins C dx fs) ∧ fs.lookup m = none ∧ MethE P w K mg base CX k C m sp ∧ t σ H1 fun vs H2 => sp (.ref a :: vs) H2 Q E
def sFldV (K : PySem.W.Frag) (f : Str) (y : V) (D : Ends) (σ : St) : V → Hp → Prop := fun x H2 => ∃ a C dx fs, x = .ref a ∧ H2 a = some (.ins C dx fs) ∧ Cls K C ∧ NoAttr K C f ∧ fs.length < 1000 ∧ D.nx σ (upd H2 a (.ins C dx (putF f y fs)))
def rLen (K : PySem.W.Frag) : List V → Hp → VK → Prop := fun xs H Q => ∃ x n, xs = [x] ∧ LenV K x H n ∧ Q (.int n) H
theorem call_lenA {X : Cx} : CallR X (.builtin "len") (rLen X.K) := call_len
theorem r_lenL {K : PySem.W.Frag} {p : Addr} {xs : List V} {H : Hp} {Q : VK} (h : SqL K H p xs) (q : Q (.int xs.length) H) : rLen K [.ref p] H Q := ⟨.ref p, xs.length, rfl, .inl ⟨xs, h, rfl⟩, q⟩
theorem r_slT {K : PySem.W.Frag} {p : Addr} {xs : List V} {lo hi : Option Int} {H : Hp} {Q : VK} (h : SqT K H p xs) (hn : ¬ (HT.sIx xs.length 0 lo = 0 ∧ HT.sIx xs.length xs.length hi = xs.length)) (q : ∀ l, H l = none → Q (.ref l) (upd H l (.tup (cutV xs lo hi)))) :
    rSlA K (.ref p) lo hi H Q := .inr ⟨p, xs, rfl, h, hn, q⟩
def rTru (K : PySem.W.Frag) (x : V) (H : Hp) (Q : Bool → Hp → Prop) : Prop := ∃ k, TruV K x H k ∧ Q k H
theorem r_truB {K : PySem.W.Frag} {b : Bool} {H : Hp} {Q : Bool → Hp → Prop} (q : Q b H) : rTru K (.bl b) H Q := ⟨b, rfl, q⟩
theorem iteNT {A B : Prop} (h : B) : if (!true) = true then A else B := h
theorem sql_new {K : PySem.W.Frag} {H : Hp} {a p : Addr} {xs : List V} {o : HO} (h : SqL K H a xs) (hp : H p = none) : SqL K (upd H p o) a xs := Same.seq (same_new hp) h
theorem sqt_new {K : PySem.W.Frag} {H : Hp} {a p : Addr} {xs : List V} {o : HO} (h : SqT K H a xs) (hp : H p = none) : SqT K (upd H p o) a xs := SqT_same (same_new hp) h
theorem ty_list {K : PySem.W.Frag} {H : Hp} {p : Addr} {xs : List V} (h : H p = some (.lst xs)) : tyV K "list" (.ref p) H := .inl ⟨rfl, xs, SqL.of h⟩

theorem r_rng2 {ta : TA} {σ : St} {H : Hp} {R : It → Hp → Prop} (q : ta σ H fun vs H1 => ∃ i j : Int, vs = [.int i, .int j] ∧ (-(2 ^ 62) ≤ i ∧ i < 2 ^ 62 ∧ -(2 ^ 62) ≤ j ∧ j < 2 ^ 62) ∧ R (Itr i (j - i).toNat) H1) : iRng2 ta σ H R := q
section
variable {σ : St} {H : Hp} {Q : VK}
theorem r_var {i : Nat} {v : V} (h : σ[i]? = some (some v)) (q : Q v H) : tVar i σ H Q := ⟨v, h, q⟩
theorem r_c {v : V} (q : Q v H) : tC v σ H Q := q
theorem r_op {r : R2} {ta tb : TE} (q : ta σ H fun x H1 => tb σ H1 fun y H2 => r x y H2 Q) : tOp r ta tb σ H Q := q
theorem r_un {r : V → Hp → VK → Prop} {ta : TE} (q : ta σ H fun x H1 => r x H1 Q) : tUn r ta σ H Q := q
theorem r_U {g : Int → V} {i : Int} (q : Q (g i) H) : rU g (.int i) H Q := ⟨i, rfl, q⟩
theorem r_I0 {g : Int → Int → V} {i j : Int} (q : Q (g i j) H) : rI0 g (.int i) (.int j) H Q := ⟨i, j, rfl, rfl, q⟩
theorem r_I {C : Int → Int → Prop} {g : Int → Int → V} {i j : Int} (h : C i j) (q : Q (g i j) H) : rI C g (.int i) (.int j) H Q := ⟨i, j, rfl, rfl, h, q⟩
theorem r_cb {r : List V → Hp → VK → Prop} {t : TA} (q : t σ H fun vs H1 => r vs H1 Q) : tCB r t σ H Q := q
theorem r_callE {sp : Sp} {E : XK} {t : TA} (q : t σ H fun vs H1 => sp vs H1 Q E) : tCallE sp E t σ H Q := q
theorem r_makeE {C : Addr} {sp : Sp} {E : XK} {t : TA} (q : t σ H fun vs H1 => ∀ x dx, H1 x = none → H1 dx = none → dx ≠ x → sp (.ref x :: vs) (upd (upd H1 dx (.own x)) x (.ins C dx [])) (fun v H2 => v = .non ∧ Q (.ref x) H2) E) : tMakeE C sp E t σ H Q := q
theorem r_methE {P : Program} {w : World} {K : PySem.W.Frag} {mg : Str → Option Value} {base : Heap} {CX : CXT} {k : Nat} {m : Str} {E : XK} {ta : TE} {t : TA} (q : ta σ H fun x H1 => rMeth P w K mg base CX k m E σ t x H1 Q) : tMethE P w K mg base CX k m E ta t σ H Q := q
theorem r_methV {P : Program} {w : World} {K : PySem.W.Frag} {mg : Str → Option Value} {base : Heap} {CX : CXT} {k : Nat} {m : Str} {E : XK} {t : TA} {p C dx : Addr} {fs : List (Str × V)} {sp : Sp} (h : H p = some (.ins C dx fs)) (l : fs.lookup m = none) (M : MethE P w K mg base CX k C m sp)
    (q : t σ H fun vs H2 => sp (.ref p :: vs) H2 Q E) : rMeth P w K mg base CX k m E σ t (.ref p) H Q := ⟨p, C, dx, fs, sp, rfl, h, l, M, q⟩
theorem r_fld {K : PySem.W.Frag} {ta : TE} {f : Str} (q : ta σ H fun x H1 => rFld K f x H1 Q) : tFld K ta f σ H Q := q
theorem r_fldV {K : PySem.W.Frag} {f : Str} {p C dx : Addr} {fs : List (Str × V)} {v : V} (h : H p = some (.ins C dx fs)) (c : Cls K C) (n : NoAttr K C f) (l : fs.lookup f = some v) (q : Q v H) : rFld K f (.ref p) H Q := ⟨p, C, dx, fs, v, rfl, h, c, n, l, q⟩
theorem r_tup {t : TA} (q : t σ H fun xs H1 => xs.length ≤ sizeLine ∧ ∀ p, H1 p = none → Q (.ref p) (upd H1 p (.tup xs))) : tTup t σ H Q := q
theorem r_lst {t : TA} (q : t σ H fun xs H1 => xs.length ≤ sizeLine ∧ ∀ p, H1 p = none → Q (.ref p) (upd H1 p (.lst xs))) : tLst t σ H Q := q
theorem r_andV {ta tb : TE} (q : ta σ H fun x H1 => ∃ c, x = .bl c ∧ if c = true then tb σ H1 Q else Q (.bl false) H1) : tAndV ta tb σ H Q := q
theorem r_notV {ta : TE} (q : ta σ H fun x H1 => ∃ c, x = .bl c ∧ Q (.bl (!c)) H1) : tNotV ta σ H Q := q
theorem r_sl {r : V → Option Int → Option Int → Hp → VK → Prop} {te : TE} {tl th : TO} (q : te σ H fun x H1 => tl σ H1 fun l H2 => th σ H2 fun u H3 => r x l u H3 Q) : tSl r te tl th σ H Q := q
theorem r_bm {K : PySem.W.Frag} {T : String} {r : V → List V → Hp → VK → Prop} {to : TE} {t : TA} (q : to σ H fun x H1 => tyV K T x H1 ∧ t σ H1 fun xs H2 => r x xs H2 Q) : tBM K T r to t σ H Q := q
end
section
variable {σ : St} {H : Hp} {Q : List V → Hp → Prop}
theorem r_nil (q : Q [] H) : tNil σ H Q := q
theorem r_cons {ta : TE} {tr : TA} (q : ta σ H fun x H1 => tr σ H1 fun xs H2 => Q (x :: xs) H2) : tCons ta tr σ H Q := q
end
section
variable {σ : St} {H : Hp} {Q : Option Int → Hp → Prop}
theorem r_noPart (q : Q none H) : tNoPart σ H Q := q
theorem r_part {t : TE} (q : t σ H fun x H1 => ∃ i, x = .int i ∧ Q (some i) H1) : tPart t σ H Q := q
end
section
variable {σ : St} {H : Hp} {Q : Bool → Hp → Prop}
theorem r_test {t : TE} (q : t σ H fun x H' => ∃ k, x = .bl k ∧ Q k H') : tTest t σ H Q := q
theorem r_or {t u : TT} (q : t σ H fun c H1 => if c = true then Q true H1 else u σ H1 Q) : tOr t u σ H Q := q
theorem r_not {t : TT} (q : t σ H fun c H1 => Q (!c) H1) : tNot t σ H Q := q
theorem r_true (q : Q true H) : tTrue σ H Q := q
def tTru (K : PySem.W.Frag) (ta : TE) : TT := fun σ H Q => ta σ H fun x H' => rTru K x H' Q
theorem pt_tru {X : Cx} {a : Expr} {ta : TE} (ha : PE X a ta) (he : ∀ whole, isTrue a X.env whole = (do let v ← whole; standAt a.pos; holding [v] (truthy v)) := by intro _; rfl) : PT X a (tTru X.K ta) := pt_truth ha he
theorem r_tru {K : PySem.W.Frag} {ta : TE} (q : ta σ H fun x H' => rTru K x H' Q) : tTru K ta σ H Q := q
end
section
variable {D : Ends} {σ : St} {H : Hp}
theorem r_next (q : D.nx σ H) : tNext D σ H := q
theorem r_seq {t u : TS} (q : t { D with nx := u D } σ H) : tSeq t u D σ H := q
theorem r_ret {te : TE} (q : te σ H D.rt) : tRet te D σ H := q
theorem r_ifS {c : TT} {t u : TS} (q : c σ H fun b H1 => if b = true then t D σ H1 else u D σ H1) : tIfS c t u D σ H := q
theorem r_asg {te : TE} {g : TG} (q : te σ H fun x H1 => g x σ H1 D.nx) : tAsg te g D σ H := q
theorem r_sFld {K : PySem.W.Frag} {ta tv : TE} {f : Str} (q : tv σ H fun y H1 => ta σ H1 fun x H2 => sFldV K f y D σ x H2) : sFld K ta tv f D σ H := q
theorem r_sFldV {K : PySem.W.Frag} {f : Str} {y : V} {p C dx : Addr} {fs : List (Str × V)} (h : H p = some (.ins C dx fs)) (c : Cls K C) (n : NoAttr K C f) (l : fs.length < 1000) (q : D.nx σ (upd H p (.ins C dx (putF f y fs)))) : sFldV K f y D σ (.ref p) H := ⟨p, C, dx, fs, rfl, h, c, n, l, q⟩
end
theorem ifDec {c A B : Prop} [Decidable c] (h1 : c → A) (h2 : ¬ c → B) : if decide c = true then A else B := by
  by_cases h : c
  · rw [if_pos (decide_eq_true h)]; exact h1 h
  · rw [if_neg (by rw [decide_eq_false h]; exact Bool.false_ne_true)]; exact h2 h
theorem ifInt {a b : Int} {A B : Prop} (h1 : a = b → A) (h2 : a ≠ b → B) : if decide (V.int a = V.int b) = true then A else B :=
  ifDec (fun e => h1 (by cases e; rfl)) fun e => h2 fun z => e (by rw [z])
end L3
namespace L3
open PySem PySem.Spec PyProof.Rows L2
section
variable {P : Program} {w : World} {K : PySem.W.Frag} {mg : Str → Option Value} {base : Heap} {x qual : Str} {st : Stmt} {N ps : List Str} {sp : Sp} {C : Addr}

def BodyOk (P : Program) (w : World) (K : PySem.W.Frag) (mg : Str → Option Value) (base : Heap) (k : Nat) (qual : Str) (st : Stmt) (N : List Str) (sp : Sp) : Prop :=
  ∀ (f : Addr) (cdv : Value) (A : Around) (outer : List Env) (s : Shared) (H : Hp) (vs : List V) (Q : VK) (E : XK), Room k (A.deeper (envOfC qual (defScope st) s.heap.objs.size f cdv)) → sp vs H Q E →
    ∃ t, PSs (cxOf CX0 P w K mg base N qual (defScope st) f cdv A outer s H E).nox (defBody st) t ∧ t { nx := fun _ H' => Q .non H', rt := Q } (start N vs) H
theorem fnE_of (k : Nat) (h : ∃ f fd, Fun K x qual st f fd ∧ mg x = some (.ref f) ∧ Binds K fd ps []) (S : FnScope N ps (defScope st)) (len : ∀ vs H Q E, sp vs H Q E → vs.length = ps.length)
    (hbody : BodyOk P w K mg base k qual st N sp) : FnE P w K mg base CX0 (k + 1) x sp := by
  obtain ⟨f, fd, F, hm, hb⟩ := h
  exact ⟨f, fd, ps, F.ok S len (hbody f), hm, F.kp, hb⟩
theorem methE_of (k : Nat) (c : Cls K C) (h : ∃ f fd, Fun K x qual st f fd ∧ Meth K C x f ∧ Binds K fd ps []) (S : FnScope N ps (defScope st)) (len : ∀ vs H Q E, sp vs H Q E → vs.length = ps.length)
    (hbody : BodyOk P w K mg base k qual st N sp) : MethE P w K mg base CX0 (k + 1) C x sp := by
  obtain ⟨f, fd, F, hm, hb⟩ := h
  exact ⟨c, f, fd, ps, hm, F.ok S len (hbody f), hb⟩
end
end L3

namespace L3
open PySem PySem.Spec PyProof.Rows L2 PySem.SeqAt

section
variable {X : Cx} {K : PySem.W.Frag}
theorem op_plusK (h : X.K = K) : OpR X (binaryOp .Add) (rPlus K) := by subst h; exact op_plus
theorem op_eqK (h : X.K = K) (hu : X.A.units + 64 < cLine) : OpR X (compareOp .Eq) (rEqA K) := by subst h; exact op_eqA hu
theorem op_neK (h : X.K = K) (hu : X.A.units + 64 < cLine) : OpR X (compareOp .NotEq) (rNeA K) := by subst h; exact op_neA hu
theorem ix_K (h : X.K = K) : IxR X (rIxA K) := by subst h; exact ix_any
theorem sl_K (h : X.K = K) : SlR X (rSlA K) := by subst h; exact sl_any
theorem call_lenK (h : X.K = K) : CallR X (.builtin "len") (rLen K) := by subst h; exact call_lenA
theorem call_isiK (h : X.K = K) : CallR X (.builtin "isinstance") (rIsi K) := by subst h; exact call_isi
theorem pe_fldK {e : Expr} {f : Str} {pos : Pos} {ta : TE} (h : X.K = K) (he : PE X e ta) (hb : attributeBase e f X.env (eval e X.env) = eval e X.env := by rfl) : PE X (.Attribute e f pos) (tFld K ta f) := by subst h; exact pe_fld he hb
theorem ps_fldK {o value : Expr} {f : Str} {pos pos' : Pos} {ta tv : TE} (h : X.K = K) (ha : PE X o ta) (hv : PE X value tv) (hs : swapsWith value (some (.Attribute o f pos')) pos.line X.env = pure false := by rfl) :
    PS X (.Assign [.Attribute o f pos'] value pos) (sFld K ta tv f) := by subst h; exact ps_fld ha hv hs
theorem pt_truK {a : Expr} {ta : TE} (h : X.K = K) (ha : PE X a ta) (he : ∀ whole, isTrue a X.env whole = (do let v ← whole; standAt a.pos; holding [v] (truthy v)) := by intro _; rfl) : PT X a (tTru K ta) := by subst h; exact pt_tru ha he
theorem pg_tupK {es : List Expr} {k : Nat} {t : TGs} {n : Nat} {pos : Pos} (hK : X.K = K) (hc : X.calm = true) (h : PGs X es t)
    (hn : (assignEach es X.env).length = n := by rfl) (hst : (assignEach es X.env).findIdx? (·.1) = none := by rfl) : PG X (.Tuple es k pos) (gTup K n t) := by subst hK; exact pg_tup hc h hn hst
theorem pe_bmK {o e : Expr} {es : List Expr} {to : TE} {t : TA} {name : Str} {apos cpos : Pos} {T id : String} {r : V → List V → Hp → VK → Prop} (h : X.K = K) (pa : PlainAttrs T) (slot : Slot T name id) (hty : typeOf (.builtin id) = pure (.type "method_descriptor")) (hm : MtR X id r) (ho : PE X o to) (ha : PA X (e :: es) t)
    (hbase : attributeBase o name X.env (eval o X.env) = eval o X.env := by rfl)
    (hfew : ((backTo cpos (starEach (e :: es) X.env)).all (fun x => !x.1) && (backToKw cpos (keywordEach [] X.env)).all (fun x => x.1.isSome)
      && decide ((e :: es).length + ([] : List Keyword).length + (if ([] : List Keyword).isEmpty then 0 else 1) < 30)) = true := by rfl)
    (hline : (apos.endLine == cpos.line) = true := by rfl) (hs : starEach (e :: es) X.env = (false, eval e X.env) :: starEach es X.env := by rfl) (hplain : (backTo cpos (starEach es X.env)).any (·.1) = false := by rfl) :
    PE X (.Call (.Attribute o name apos) (e :: es) [] cpos) (tBM K T r to t) := by subst h; exact pe_bm pa slot hty hm ho ha hbase hfew hline hs hplain
end
section
variable {X : Cx} {P : Program} {w : World} {K : PySem.W.Frag} {mg : Str → Option Value} {base : Heap} {CX : CXT} {k : Nat} {E : XK} {m : Str} {pos apos : Pos} {e o : Expr} {es : List Expr} {ta : TE} {t : TA}
theorem pe_methK {pl : Sem Bool} (hP : X.prog = P ∧ X.w = w ∧ X.K = K ∧ X.mg = mg ∧ X.base = base) (he : PE X o ta) (hr : Room k X.A) (hx : Passes CX X E) (ha : PA X (e :: es) t)
    (hst : starEach (e :: es) X.env = (false, eval e X.env) :: starEach es X.env := by rfl) (hpl : (backTo pos (starEach es X.env)).any (·.1) = false := by rfl)
    (ht : eval (.Call (.Attribute o m apos) (e :: es) [] pos) X.env = (do
      let ov ← eval o X.env
      standAt apos.atName
      let (f, first) ← holding [ov] (getMethod ov m pl)
      callWith pos f first (backTo pos (starEach (e :: es) X.env)) (backToKw pos (keywordEach [] X.env))) := by rfl) :
    PE X (.Call (.Attribute o m apos) (e :: es) [] pos) (tMethE P w K mg base CX k m E ta t) := by
  obtain ⟨rfl, rfl, rfl, rfl, rfl⟩ := hP
  exact pe_methE (pl := pl) he hr hx ha hst hpl ht
theorem pe_methK0 {pl : Sem Bool} (hP : X.prog = P ∧ X.w = w ∧ X.K = K ∧ X.mg = mg ∧ X.base = base) (he : PE X o ta) (hr : Room k X.A) (hx : Passes CX X E)
    (ht : eval (.Call (.Attribute o m apos) [] [] pos) X.env = (do
      let ov ← eval o X.env
      standAt apos.atName
      let (f, first) ← holding [ov] (getMethod ov m pl)
      callWith pos f first (backTo pos (starEach [] X.env)) (backToKw pos (keywordEach [] X.env))) := by rfl) :
    PE X (.Call (.Attribute o m apos) [] [] pos) (tMethE P w K mg base CX k m E ta tNil) := by
  obtain ⟨rfl, rfl, rfl, rfl, rfl⟩ := hP
  exact pe_methE0 (pl := pl) he hr hx ht
end
end L3
namespace L3
open PySem PySem.Spec PyProof.Rows L2 PySem.SeqAt

theorem r_alloc {H : Hp} {R : Addr → Prop} (q : ∀ p, H p = none → R p) : ∀ p, H p = none → R p := q
theorem r_small {n : Nat} {R : Prop} (h : n ≤ sizeLine) (q : R) : n ≤ sizeLine ∧ R := ⟨h, q⟩
theorem same_none {H H1 : Hp} {p : Addr} {o : HO} (s : Same H H1) (h : H1 p = none) : Same H (upd H1 p o) := s.trans (same_new h)

def CInv {α : Type} (xs : List α) (f : α → V) (Sg : St → Prop) (H : Hp) (i : Nat) (ys : List V) (σ : St) (H1 : Hp) : Prop := Same H H1 ∧ Sg σ ∧ ys = (xs.take i).map f
theorem CInv.next {α : Type} {xs : List α} {f : α → V} {Sg : St → Prop} {H H1 H5 : Hp} {i : Nat} {ys : List V} {σ σ3 : St} {x : α} {y : V} (c : CInv xs f Sg H i ys σ H1) (hx : xs[i]? = some x) (e : y = f x) (s : Same H H5) (sg : Sg σ3) : CInv xs f Sg H (i + 1) (ys ++ [y]) σ3 H5 := by
  obtain ⟨_, _, rfl⟩ := c
  refine ⟨s, sg, ?_⟩
  subst e
  rw [List.take_add_one, hx, Option.toList_some, List.map_append]; rfl
theorem comp_mapR {g : TG} {tc : TT} {te : TE} {fin : List V → Hp → Prop} {σ0 : St} {H : Hp} {lo : Int} {n : Nat} (f : Nat → V) (Sg : St → Prop) (hz : n ≤ sizeLine) (h0 : Sg σ0)
    (hs : ∀ (i : Nat) (ys : List V) (σ : St) (H1 : Hp), i < n → CInv (List.range n) f Sg H i ys σ H1 → Same H H1 → Sg σ →
      g (.int (lo + i)) σ H1 fun σ3 H3 => tc σ3 H3 fun b H4 => if b = true then te σ3 H4 fun y H5 => CInv (List.range n) f Sg H (i + 1) (ys ++ [y]) σ3 H5 else CInv (List.range n) f Sg H (i + 1) ys σ3 H4)
    (hd : ∀ H1, Same H H1 → fin ((List.range n).map f) H1) : CompW (Itr lo n) g tc te fin σ0 H := by
  refine comp_range (CInv (List.range n) f Sg H) ⟨Same.refl _, h0, rfl⟩ ?_ ?_ ?_
  · rintro i ys σ H1 hi ⟨s, _, rfl⟩
    rw [List.length_map, List.length_take, List.length_range]; omega
  · intro i ys σ H1 hi c
    exact hs i ys σ H1 hi c c.1 c.2.1
  · rintro ys σ H1 ⟨s, _, rfl⟩
    rw [List.take_of_length_le (by rw [List.length_range]; exact Nat.le_refl _)]
    exact hd H1 s
theorem range_get {n i : Nat} (h : i < n) : (List.range n)[i]? = some i := by rw [List.getElem?_range h]

theorem r_ifB {b : Bool} {A B : Prop} (h1 : b = true → A) (h2 : b = false → B) : if b = true then A else B := by
  cases b with
  | true => exact h1 rfl
  | false => exact h2 rfl
theorem r_tyL {K : PySem.W.Frag} {H : Hp} {p : Addr} {xs : List V} {R : Prop} (h : H p = some (.lst xs)) (q : R) : tyV K "list" (.ref p) H ∧ R := ⟨ty_list h, q⟩
theorem r_gN {i : Nat} {v : V} {σ σ' : St} {H : Hp} {Q : St → Hp → Prop} (h : σ.set i (some v) = σ') (q : Q σ' H) : gName i v σ H Q := by subst h; exact q
theorem r_st {N : List Str} {vs : List V} {σ' : St} {t : TS} {D : Ends} {H : Hp} (h : start N vs = σ') (q : t D σ' H) : t D (start N vs) H := by subst h; exact q
theorem r_compS' {i : Nat} {own : List Str} {fr : List (Str × Nat)} {wi : TI} {g : TG} {tc : TT} {te : TE} {D : Ends} {σ σi : St} {H : Hp} (h : innerS own fr σ = σi) (q : wi σ H fun J H1 => CompW J g tc te (fun ys H3 => ∀ p, H3 p = none → gName i (.ref p) σ (upd H3 p (.lst ys)) D.nx) σi H1) : tCompS i own fr wi g tc te D σ H := by subst h; exact q
def rIsN : R2 := fun x y H Q => y = .non ∧ Q (.bl (decide (x = .non))) H
theorem op_isNA {X : Cx} : OpR X (compareOp .Is) rIsN := op_isN
theorem r_isNr {p : Addr} {H : Hp} {Q : VK} (q : Q (.bl false) H) : rIsN (.ref p) .non H Q := ⟨rfl, q⟩
end L3
namespace L3
open PySem PySem.Spec PyProof.Rows L2 PySem.SeqAt

section
variable {P : Program} {w : World} {K : PySem.W.Frag} {mg : Str → Option Value} {base : Heap}
end
section
variable {X : Cx} {CX : CXT} {k : Nat} {C : Addr} {sp : Sp} {E : XK} {x m : Str} {p pos apos : Pos} {e o : Expr} {es : List Expr} {ta : TE} {t : TA}
end
section
variable {P : Program} {w : World} {K : PySem.W.Frag} {mg : Str → Option Value} {base : Heap} {x qual : Str} {st : Stmt} {N ps : List Str} {sp : Sp} {C : Addr}
end

theorem r_plusT {K : PySem.W.Frag} {a b : Addr} {xs ys : List V} {H : Hp} {Q : VK} (ha : SqT K H a xs) (hb : SqT K H b ys) (h1 : xs ≠ []) (h2 : ys ≠ []) (hz : xs.length + ys.length ≤ sizeLine) (q : ∀ p, H p = none → Q (.ref p) (upd H p (.tup (xs ++ ys)))) :
    rPlus K (.ref a) (.ref b) H Q := .inr (.inr (.inl ⟨a, b, xs, ys, rfl, rfl, ha, hb, h1, hz, fun e => absurd e h2, fun _ => q⟩))
section
variable {K : PySem.W.Frag} {a : Addr} {xs : List V} {g : TG} {tc : TT} {te : TE} {fin : List V → Hp → Prop} {H : Hp}
end
end L3
namespace L3
open PySem PySem.Spec PyProof.Rows

section
variable {prog : Program} {w : World} {A : Around} {E : Value → Shared → Prop} {s : Shared}

end
section
variable {prog : Program} {w : World} {A : Around} {E : Value → Shared → Prop} {s : Shared}
end
end L3
namespace L3
open PySem PySem.Spec PyProof.Rows L2

end L3
namespace L3
open PySem PySem.Spec PyProof.Rows L2

end L3

namespace L3
open PySem PySem.Spec PyProof.Rows L2 PySem.SeqAt

theorem PS.nox {X : Cx} {st : Stmt} {t : TS} (h : PS X.nox st t) : PS X st t := fun pins s σ H D I hw =>
  wpAny_mono (h pins s σ H D (I.wish _) hw) (fun _ _ q => q.unwish) fun _ _ z => z.elim
theorem PA.nox {X : Cx} {es : List Expr} {t : TA} (h : PA X.nox es t) : PA X es t := fun pos pins s σ H Q I hw =>
  wpAny_mono (h pos pins s σ H Q (I.wish _) hw) (fun _ _ ⟨v, H', I', r, q⟩ => ⟨v, H', I'.unwish, r, q⟩) fun _ _ z => z.elim


theorem hok_stays {P : Program} {w : World} {H : Hp} {h0 h5 : Heap} {l : List Addr} (x : HOk P w H h0) (hl : ∀ b ∈ l, H b = none) (k : (PySem.W.hideAll h0 l).StaysIn h5) : HOk P w H h5 := fun a o e => by
  refine (x a o e).stay (fun b u hb q => k b u (PySem.W.hideAll_get _ q fun hm => ?_)) (fun _ q => q) fun _ _ q => q
  have hn := hl b hm
  rcases hb with rfl | hb
  · rw [e] at hn; cases hn
  · rw [hb] at hn; cases hn
theorem un_stays {fs : List Addr} {H H' : Hp} {h h0 h5 : Heap} {l : List Addr} (u : Un fs [] H H' h h0) (hl : ∀ b ∈ l, b ∈ fs ∨ h.objs.size ≤ b) (k : (PySem.W.hideAll h0 l).StaysIn h5) (up : h0.UpToSlots h5)
    (hf : ∀ b ∈ fs, H b = none ∧ ∀ o, h.get? b = some o → ∀ vs, o.data ≠ .fields vs) : Un fs [] H H' h h5 := by
  have nl : ∀ b o, h.get? b = some o → b ∉ fs → b ∉ l := fun b o q hb hm => by
    rcases hl b hm with z | z
    · exact hb z
    · exact absurd (Nat.lt_of_lt_of_le (Heap.lt_size q) z) (Nat.lt_irrefl _)
  have sl : ∀ b o, h.get? b = some o → b ∈ fs → ∃ sl, h5.get? b = some { o with slots := sl } := fun b o q hb => by
    obtain ⟨s1, e1⟩ := u.slot b o q (hf b hb).1 hb (by simp)
    obtain ⟨s2, e2⟩ := up b _ e1 ((hf b hb).2 o q)
    exact ⟨s2, e2⟩
  refine ⟨fun b o q n hb hx => k b o (PySem.W.hideAll_get _ (u.keep b o q n hb hx) (nl b o q hb)), fun b o q _ hb _ => sl b o q hb, u.free, fun b o q hx => ?_, u.tups, u.frzs, u.tbls⟩
  by_cases hb : b ∈ fs
  · obtain ⟨s2, e2⟩ := sl b o q hb
    exact ⟨_, e2⟩
  · obtain ⟨o', e'⟩ := u.there b o q hx
    exact ⟨o', k b o' (PySem.W.hideAll_get _ e' (nl b o q hb))⟩


structure Thrown (P : Program) (w : World) (outer : List Env) (H : Hp) (s : Shared) (ea C : Addr) (H' : Hp) (s' : Shared) : Prop where
  os : s'.os = s.os
  bare : AllBare s'.gens
  ex : ∃ (h0 : Heap) (l : List Addr) (a0 : Value), Un (frs outer) [] H H' s.heap h0 ∧ HOk P w H' h0 ∧ (∀ b ∈ l, H' b = none ∧ (b ∈ frs outer ∨ s.heap.objs.size ≤ b)) ∧ h0.get? ea = none ∧
    Heap.FlyingW (PySem.W.hideAll h0 l) outer ea (.ref C) a0 s'.heap ∧ h0.UpToSlots s'.heap
def CXR (P : Program) (w : World) : CXT := fun outer H s E e s' => ∃ (ea C : Addr) (H' : Hp), e = .ref ea ∧ Thrown P w outer H s ea C H' s' ∧ E (.ref C) none H'


structure ExcC (K : PySem.W.Frag) (mg : Str → Option Value) (x : Str) (C : Addr) : Prop where
  glob : mg x = some (.ref C)
  ex : PySem.W.excIn K C [.type "ValueError", .type "Exception", .type "BaseException", .type "object"] "ValueError.__new__" = true
theorem ExcC.obj {K : PySem.W.Frag} {mg : Str → Option Value} {x : Str} {C : Addr} {h : Heap} (c : ExcC K mg x C) (X : K.In h) :
    ∃ (bm : List Value) (N : Addr) (nm qn : Str) (bs : List Value) (hd : Bool) (sn : List Str) (sub : List Value) (ab : Bool) (col : Option Bool) (dd : Option Addr) (k0 k1 k2 k3 k5 : Option Value) (mN : Str → Option Value),
      h.get? C = some (excClassObj nm qn C N bs bm hd sn sub ab col dd k0 k1 k2 k3 k5 "ValueError.__new__") ∧ h.Ns N mN ∧ mN "__init__" = none ∧
      OwnTail h [.type "ValueError", .type "Exception", .type "BaseException", .type "object"] bm := by
  have hq := c.ex
  unfold PySem.W.excIn at hq
  split at hq
  · rename_i dd cd sl hlk
    split at hq
    · rename_i C' bm k0 k1 k2 k3 id k5 hmro hsl
      simp only [Bool.and_eq_true, Bool.not_eq_true', beq_iff_eq] at hq
      obtain ⟨⟨⟨⟨⟨e1, e2⟩, e3⟩, e4⟩, e5⟩, e6⟩ := hq
      subst e1 e2
      obtain ⟨nm, bs, mro, ns, qn, hd, sn, sub, ab, col, del⟩ := cd
      dsimp only at hmro e3 e5 e6
      subst hmro e3
      obtain ⟨sl⟩ := sl
      dsimp only at hsl
      subst hsl
      exact ⟨bm, ns, nm, qn, bs, hd, sn, sub, ab, col, dd, k0, k1, k2, k3, k5, _, X _ _ hlk, .of_isNs (PySem.W.isNs_of_in X e5), PySem.W.nsMap_none_of_in X e5 e6, PySem.W.tail_of_in X e4⟩
    · cases hq
  · cases hq
end L3
namespace L3
open PySem PySem.Spec PyProof.Rows L2 PySem.SeqAt

def tRaise (C : Addr) (E : XK) (t : TA) : TS := fun _ σ H => t σ H fun vs H1 => vs.length ≤ 1000 ∧ E (.ref C) none H1

theorem frs_body {X : Cx} (hst : X.stack = X.env :: X.outer) (hfr : X.env.frame = some X.env.locals) : frs X.stack = X.env.locals :: frs X.outer := by
  rw [hst]; unfold frs; rw [List.filterMap_cons, hfr]

theorem raise_leaves {X : Cx} {pins : List (Addr × Obj)} {σ : St} {H : Hp} {s : Shared} {h' : Heap} {e C : Addr} {args : List Value} {Q : Unit → Shared → Prop} {Ex : Value → Shared → Prop} (I : Inv X pins σ H s)
    (hst : X.stack = X.env :: X.outer) (hfr : X.env.frame = some X.env.locals) (hex : X.ex = []) (hx : Heap.MadeExcOf s.heap h' e (.ref C) args)
    (hQ : ∀ s', Thrown X.prog X.w X.outer X.H₀ X.s₀ e C H s' → Q () s') : wpAny (model X.prog X.w) X.A (leaving X.env (.ref e)) Q Ex { s with heap := h' } := by
  have hfs := frs_body hst hfr
  have hin : ∀ env ∈ X.stack, ∀ a, env.frame = some a → a ∈ frs X.stack := fun env he b hb => List.mem_filterMap.mpr ⟨env, he, hb⟩
  have hl : s.heap.FunFrames (PySem.W.hideAll s.heap (frs X.stack)) (X.env :: X.outer) := by
    have z := PySem.W.funFrames_hide I.stack hin
    rw [hst] at z ⊢; exact z
  refine wpAny_leaves_madeW (s := { s with heap := h' }) (by rw [← hst]; exact I.ok.frames) hfr (fun b o q => PySem.W.of_hideAll _ q) hl hx fun h2 t x1 _ _ x4 => hQ _ ⟨I.os, I.bare, ?_⟩
  have hb := I.base
  rw [hex] at hb
  refine ⟨s.heap, frs X.stack, .ref t, hb, I.hok, fun b hm => ⟨I.stkFree b hm, ?_⟩, hx.new, x1, (Heap.UpToSlots.of_keeps hx.keeps).trans x4⟩
  rw [hfs] at hm
  rcases List.mem_cons.mp hm with rfl | hm
  · exact .inr I.ok.above
  · exact .inl hm
theorem ps_raise {P : Program} {w : World} {K : PySem.W.Frag} {mg : Str → Option Value} {base : Heap} {N : List Str} {qual : Str} {scope : Scope} {f : Addr} {cd : Value} {A : Around} {outer : List Env} {s0 : Shared} {H0 : Hp} {E : XK}
    {C : Addr} {x : Str} {np cpos pos : Pos} {e0 : Expr} {es : List Expr} {t : TA} (c : ExcC K mg x C) (hg : Gl (cxOf (CXR P w) P w K mg base N qual scope f cd A outer s0 H0 E) x)
    (ha : PA (cxOf (CXR P w) P w K mg base N qual scope f cd A outer s0 H0 E).nox (e0 :: es) t) (hdb : (x == ("__debug__" : Str)) = false := by decide)
    (he : starEach (e0 :: es) (cxOf (CXR P w) P w K mg base N qual scope f cd A outer s0 H0 E).env = (false, eval e0 (cxOf (CXR P w) P w K mg base N qual scope f cd A outer s0 H0 E).env) :: starEach es (cxOf (CXR P w) P w K mg base N qual scope f cd A outer s0 H0 E).env := by rfl)
    (hpl : (backTo cpos (starEach es (cxOf (CXR P w) P w K mg base N qual scope f cd A outer s0 H0 E).env)).any (·.1) = false := by rfl) :
    PS (cxOf (CXR P w) P w K mg base N qual scope f cd A outer s0 H0 E) (.Raise (some (.Call (.Name x np) (e0 :: es) [] cpos)) none pos) (tRaise C E t) := by
  intro pins s σ H D I h
  obtain ⟨bm, N', nm, qn, bs, hd, sn, sub, ab, col, dd, k0, k1, k2, k3, k5, mN, hC, hN, hni, TL⟩ := c.obj I.ok.mod.kin
  refine wpAny_Raise_call_subU (C := C) (mN := mN) (N := N') (nm := nm) (q := qn) (bs := bs) (bm := bm) (hdct := hd) (sn := sn) (sub := sub) (ab := ab) (col := col) (dd := dd) (k0 := k0) (k1 := k1) (k2 := k2) (k3 := k3) (k5 := k5)
    PySem.F.excBase_ValueError (by decide +kernel) PySem.F.excBase_ValueError (TL.hasType (by decide +kernel)) (I.ok.hd rfl) (by rw [he]; show (false || (backTo cpos (starEach es _)).any (·.1)) = false; rw [hpl]; rfl) hni ?_
  refine ld_glob I hg c.glob ⟨rfl, ?_⟩ hdb
  have hargs := (L3.PA.nox ha) cpos pins s σ H _ I h
  rw [he] at hargs ⊢
  refine Calls.evalArgs_plain (thn hargs fun us s1 ⟨vs, H1, I1, r, hlen, q⟩ => ?_)
  refine ⟨rfl, ?_, I1.bk _ _ hC, hN.keeps I1.bk, TL.keeps I1.bk, fun h' e hm => ?_⟩
  · show us.length ≤ sizeLine
    rw [← r.length]
    exact Nat.le_trans hlen (by decide +kernel)
  · exact raise_leaves (X := cxOf (CXR P w) P w K mg base N qual scope f cd A outer s0 H0 E) I1 rfl rfl rfl hm fun s' th => ⟨e, C, H1, rfl, th, q⟩

theorem pass_on {P : Program} {w : World} {K : PySem.W.Frag} {mg : Str → Option Value} {base : Heap} {N : List Str} {qual : Str} {scope : Scope} {f : Addr} {cd : Value} {A : Around} {outer : List Env} {s0 : Shared} {H0 : Hp} {E : XK} :
    Passes (CXR P w) (cxOf (CXR P w) P w K mg base N qual scope f cd A outer s0 H0 E) E := by
  intro pins σ H s e s' I h
  obtain ⟨ea, C, H', rfl, ⟨os, bare, h0, l, a0, u, hok, hl, hn, fl, up⟩, q⟩ := h
  show wpAny _ _ (leaving _ (.ref ea)) _ _ s'
  refine wpAny_leaves_onW (outer := outer) I.ok.frames rfl fl fun h2 fl2 up2 => ⟨ea, C, H', rfl, ⟨os.trans I.os, bare, h0, l, a0, ?_, hok, fun b hb => ⟨(hl b hb).1, ?_⟩, hn, fl2, up.trans up2⟩, q⟩
  · have J := I.call (h' := h0) (g' := s'.gens) (d' := s'.drawn) (t' := s'.toks) (ch := []) u hok bare (fun b z => absurd z (by simp))
    exact J.base
  · rcases (hl b hb).2 with z | z
    · have z' : b ∈ frs (envOfC qual scope s0.heap.objs.size f cd :: outer) := z
      have e1 : frs (envOfC qual scope s0.heap.objs.size f cd :: outer) = s0.heap.objs.size :: frs outer := by unfold frs; rw [List.filterMap_cons]; rfl
      rw [e1] at z'
      rcases List.mem_cons.mp z' with rfl | z'
      · exact .inr (Nat.le_refl _)
      · exact .inl z'
    · exact .inr (Nat.le_trans I.sz z)
end L3
namespace L3
open PySem PySem.Spec PyProof.Rows L2 PySem.SeqAt
section
variable {P : Program} {w : World} {K : PySem.W.Frag} {mg : Str → Option Value} {base : Heap} {x qual : Str} {st : Stmt} {N ps : List Str} {sp : Sp} {C : Addr} {k : Nat}

def BodyX (P : Program) (w : World) (K : PySem.W.Frag) (mg : Str → Option Value) (base : Heap) (k : Nat) (qual : Str) (st : Stmt) (N : List Str) (sp : Sp) : Prop :=
  ∀ (f : Addr) (cdv : Value) (A : Around) (outer : List Env) (s : Shared) (H : Hp) (vs : List V) (Q : VK) (E : XK), Room k (A.deeper (envOfC qual (defScope st) s.heap.objs.size f cdv)) → sp vs H Q E →
    ∃ t, PSs (cxOf (CXR P w) P w K mg base N qual (defScope st) f cdv A outer s H E) (defBody st) t ∧ t { nx := fun _ H' => Q .non H', rt := Q } (start N vs) H
theorem Fun.okX {f : Addr} {fd : FuncData} (F : Fun K x qual st f fd) (S : FnScope N ps (defScope st)) (len : ∀ vs H Q E, sp vs H Q E → vs.length = ps.length) (hbody : BodyX P w K mg base k qual st N sp) : FnOk P w K mg base (CXR P w) (k + 1) f fd ps sp := by
  obtain ⟨oc, od, kV, doc, pm, an, cdv, ct, osl, rfl, lk, hcd⟩ := F.ex
  exact fn_of lk hcd S len fun A outer s H vs Q E hr hsp => hbody f cdv A outer s H vs Q E hr hsp
theorem fnX_of (k : Nat) (h : ∃ f fd, Fun K x qual st f fd ∧ mg x = some (.ref f) ∧ Binds K fd ps []) (S : FnScope N ps (defScope st)) (len : ∀ vs H Q E, sp vs H Q E → vs.length = ps.length)
    (hbody : BodyX P w K mg base k qual st N sp) : FnE P w K mg base (CXR P w) (k + 1) x sp := by
  obtain ⟨f, fd, F, hm, hb⟩ := h
  exact ⟨f, fd, ps, Fun.okX F S len hbody, hm, F.kp, hb⟩
theorem methX_of (k : Nat) (c : Cls K C) (h : ∃ f fd, Fun K x qual st f fd ∧ Meth K C x f ∧ Binds K fd ps []) (S : FnScope N ps (defScope st)) (len : ∀ vs H Q E, sp vs H Q E → vs.length = ps.length)
    (hbody : BodyX P w K mg base k qual st N sp) : MethE P w K mg base (CXR P w) (k + 1) C x sp := by
  obtain ⟨f, fd, F, hm, hb⟩ := h
  exact ⟨c, f, fd, ps, hm, Fun.okX F S len hbody, hb⟩
end

section
variable {X : Cx} {pins : List (Addr × Obj)} {σ : St} {H : Hp} {s : Shared}

theorem goes_ok {M : Model} {A : Around} {E : Value → Shared → Prop} {i : Nat} {n : Str} {pos : Pos} {Q : Unit → Shared → Prop} (I : Inv X pins σ H s) (hN : X.N.Nodup) (hi : X.N[i]? = some n) (hk : X.env.scope.names.lookup n = some .local)
    (h : ∀ s', Inv X pins (σ.set i none) H s' → Q () s') : wpAny M A (do bindName X.env n .none; unbindBehindTheSuite X.env n pos) Q E s := by
  obtain ⟨m, hn, hl⟩ := id I.loc
  have hiσ : i < σ.length := by rw [I.len]; exact (List.getElem?_eq_some_iff.mp hi).1
  have cne := I.cne
  obtain ⟨oL, _, _, hoL, _⟩ := id hn
  refine wpAny_nameGoes_keeps hk hn (by rw [I.ok.kind]; rfl) fun h' v hn' hs => h _ ?_
  have lo : ∀ b o, X.s₀.heap.get? b = some o → h'.get? b = s.heap.get? b := fun b o e => hs.2 b (Nat.ne_of_lt (Nat.lt_of_lt_of_le (Heap.lt_size e) I.ok.above))
  refine ⟨I.ok, I.os, I.bare, ⟨fun b o e n hb hx => ?_, fun b o e n hb hx => ?_, I.base.free, fun b o e hx => ?_, I.base.tups, I.base.frzs, I.base.tbls⟩, ⟨_, hn', fun j y v' e1 e2 e3 => ?_⟩, fun y c e => ?_, I.free, I.freeC, fun p hp => ?_, fun b ob e => ?_, by simpa using I.len⟩
  · rw [lo b o e]; exact I.base.keep b o e n hb hx
  · rw [lo b o e]; exact I.base.slot b o e n hb hx
  · rw [lo b o e]; exact I.base.there b o e hx
  · by_cases hj : j = i
    · subst hj
      rw [List.getElem?_set_self hiσ] at e2
      cases e2
    · rw [List.getElem?_set_ne (Ne.symm hj)] at e2
      obtain ⟨u', r', q⟩ := hl j y v' e1 e2 e3
      refine ⟨u', r', ?_⟩
      rcases q with ⟨k, e⟩ | ⟨k, c, e, z⟩
      · have ne : y ≠ n := fun e => hj (nodup_ix hN e1 (e ▸ hi))
        exact .inl ⟨k, by simp [ne, e]⟩
      · exact .inr ⟨k, c, e, z.sameBut hs (cne y c e)⟩
  · obtain ⟨w', z⟩ := I.cell y c e
    exact ⟨w', z.sameBut hs (cne y c e)⟩
  · obtain ⟨e, n, ne, nf, d⟩ := I.pin p hp
    exact ⟨(hs.2 p.1 ne).trans e, n, ne, nf, d⟩
  · refine (I.hok b ob e).stay (fun c w' hc q => (hs.2 c ?_).trans q) (fun _ q => q) fun _ _ q => q
    rintro rfl
    have hf := I.free
    rcases hc with hc | hc
    · rw [hc, e] at hf; cases hf
    · rw [hc] at hf; cases hf


abbrev Cx.sup (X : Cx) (e : Addr) (pl : List (Addr × Obj)) : Cx := { X with A := X.A.mark (some (.ref e)), calm := false, xe := fun _ _ => False, pn := X.pn ++ pl }
theorem Cx.Ok.sup {e : Addr} {pl : List (Addr × Obj)} (ok : X.Ok) : (Cx.sup X e pl).Ok :=
  ⟨ok.mod, ok.kind, ok.glob, ok.blt, ok.above, ok.inj, ok.has, ok.cab, (fun z => by cases z), ok.frames, ok.stk, ok.exf, ok.bs, ok.bsz, ok.noex, ok.exfs, ok.funs, ok.frf⟩
theorem Cx.Ok.unsup {e : Addr} {pl : List (Addr × Obj)} (ok : (Cx.sup X e pl).Ok) (h : X.calm = true → X.A.handled = none) : X.Ok :=
  ⟨ok.mod, ok.kind, ok.glob, ok.blt, ok.above, ok.inj, ok.has, ok.cab, h, ok.frames, ok.stk, ok.exf, ok.bs, ok.bsz, ok.noex, ok.exfs, ok.funs, ok.frf⟩
theorem Inv.sup {e : Addr} {pl : List (Addr × Obj)} (I : Inv X pins σ H s) (h : ∀ p ∈ pl, s.heap.get? p.1 = some p.2 ∧ H p.1 = none ∧ p.1 ≠ X.env.locals ∧ p.1 ∉ X.fs ∧ ∀ v, p.2.data ≠ .cell v) : Inv (Cx.sup X e pl) pins σ H s :=
  ⟨Cx.Ok.sup I.ok, I.os, I.bare, I.base, I.loc, I.cell, I.free, I.freeC, fun p hp => by
    rcases List.mem_append.mp hp with hp | hp
    · rcases List.mem_append.mp hp with hp | hp
      · exact I.pin p (List.mem_append_left _ hp)
      · exact h p hp
    · exact I.pin p (List.mem_append_right _ hp), I.hok, I.len⟩
theorem Inv.unsup {e : Addr} {pl : List (Addr × Obj)} (I : Inv (Cx.sup X e pl) pins σ H s) (h : X.calm = true → X.A.handled = none) : Inv X pins σ H s :=
  ⟨Cx.Ok.unsup I.ok h, I.os, I.bare, I.base, I.loc, I.cell, I.free, I.freeC, fun p hp => by
    rcases List.mem_append.mp hp with hp | hp
    · exact I.pin p (List.mem_append_left _ (List.mem_append_left _ hp))
    · exact I.pin p (List.mem_append_right _ hp), I.hok, I.len⟩
end
end L3
namespace L3
open PySem PySem.Spec PyProof.Rows L2 PySem.SeqAt


def Threw (X : Cx) (pins : List (Addr × Obj)) (σ : St) (Ew : XK) (ex : Value) (s' : Shared) : Prop :=
  ∃ (ea C : Addr) (H1 : Hp) (s1 : Shared) (H' : Hp), ex = .ref ea ∧ Inv X pins σ H1 s1 ∧ Thrown X.prog X.w X.stack H1 s1 ea C H' s' ∧ Ew (.ref C) none H'
abbrev TB := Ends → XK → St → Hp → Prop
def PB (X : Cx) (body : List Stmt) (tb : TB) : Prop :=
  ∀ (pins : List (Addr × Obj)) (s : Shared) (σ : St) (H : Hp) (D : Ends) (Ew : XK), Inv X pins σ H s → tb D Ew σ H → wpAny (model X.prog X.w) X.A (execs body X.env) (SP X pins D) (Threw X pins σ Ew) s
section
variable {X : Cx} {pins : List (Addr × Obj)} {σ : St} {H : Hp} {s : Shared} {k : Nat} {g x n : Str} {sp : Sp} {e : Expr} {es : List Expr} {t : TA} {gp cpos pos py : Pos}

end
end L3
namespace L3
open PySem PySem.Spec PyProof.Rows L2 PySem.SeqAt
section
variable {X : Cx} {pins : List (Addr × Obj)} {σ : St} {H H1 H' : Hp} {s s1 s' : Shared} {ea C : Addr}

theorem landed_at {h0 h5 : Heap} {l : List Addr} (I : Inv X pins σ H1 s1) (os : s'.os = s1.os) (bare : AllBare s'.gens) (u : Un (frs X.stack) [] H1 H' s1.heap h0) (hok : HOk X.prog X.w H' h0)
    (hl : ∀ b ∈ l, H' b = none ∧ (b ∈ frs X.stack ∨ s1.heap.objs.size ≤ b)) (k : (PySem.W.hideAll h0 l).StaysIn h5) (up : h0.UpToSlots h5) : Inv X pins σ H' { s' with heap := h5 } :=
  I.call' (s' := { s' with heap := h5 }) os (un_stays u (fun b hb => (hl b hb).2) k up fun b hb => ⟨I.stkFree b hb, fun o q => by
    obtain ⟨_, o', q', d⟩ := I.stack.mem hb
    rw [q] at q'; cases q'; exact d⟩) (hok_stays hok (fun b hb => (hl b hb).1) k) bare (fun b z => absurd z (by simp))

theorem apart_at (I : Inv X pins σ H' s') (hn : s'.heap.get? ea = none) : H' ea = none ∧ ea ≠ X.env.locals ∧ ea ∉ X.fs := by
  refine ⟨?_, fun z => ?_, fun z => ?_⟩
  · cases q : H' ea with
    | none => rfl
    | some o =>
      obtain ⟨o', e'⟩ : ∃ o', s'.heap.get? ea = some o' := by
        have z := I.hok ea o q
        clear q
        induction o with
        | lst xs => obtain ⟨_, _, _, _, e⟩ := z; exact ⟨_, e⟩
        | tup xs => obtain ⟨_, _, _, ob, e, _⟩ := z; exact ⟨_, e⟩
        | dK kvs => obtain ⟨_, _, _, _, ob, _, _, e, _⟩ := z; exact ⟨_, e⟩
        | dT kvs => obtain ⟨_, _, _, _, ob, _, _, e, _⟩ := z; exact ⟨_, e⟩
        | set S n => obtain ⟨ob, _, _, _, e, _⟩ := z; exact ⟨_, e⟩
        | ins C dx fs => obtain ⟨_, _, _, e, _⟩ := z; exact ⟨_, e⟩
        | own y => obtain ⟨_, e⟩ := z; exact ⟨_, e⟩
        | xd fs => obtain ⟨_, ⟨od, _, _, e, _⟩, _⟩ := z; exact ⟨_, e⟩
        | rng lo hi => obtain ⟨_, _, _, e⟩ := z; exact ⟨_, e⟩
        | frz ob u => obtain ⟨e, _⟩ := z; exact ⟨_, e⟩
        | tbl ps => exact ⟨_, z⟩
        | met f y => exact ⟨_, z⟩
        | ext φ => obtain ⟨_, ⟨_, e⟩, _⟩ := z; exact ⟨_, e⟩
      rw [hn] at e'; cases e'
  · obtain ⟨m, ⟨o, _, _, e, _⟩, _⟩ := I.loc
    rw [← z, hn] at e; cases e
  · obtain ⟨_, o, e, _⟩ := I.funs.mem z
    rw [hn] at e; cases e
def tTry (tb : TB) (C : Addr) (i : Nat) (th : Addr → TS) : TS := fun D σ H =>
  tb D (fun c _ H2 => c = .ref C ∧ ∀ ea, H2 ea = none → th ea { nx := fun σ' H' => D.nx (σ'.set i none) H', rt := fun _ _ => False } (σ.set i (some (.ref ea))) H2) σ H

theorem ps_try {body : List Stmt} {tb : TB} {x n : Str} {np hpos pos : Pos} {b0 : Stmt} {suite : List Stmt} {i : Nat} {th : Addr → TS} (hst : X.stack = X.env :: X.outer) (hfr : X.env.frame = some X.env.locals) (hc : X.calm = true)
    (hb : PB X body tb) (c : ExcC X.K X.mg x C) (hg : Gl X x) (hN : X.N.Nodup) (hi : X.N[i]? = some n) (hn : X.env.scope.names.lookup n = some .local)
    (hs : ∀ ea oe, oe.cls = .ref C → (∃ vs, oe.data = .fields vs) → PSs (Cx.sup X ea [(ea, oe)]) (b0 :: suite) (th ea)) (hdb : (x == ("__debug__" : Str)) = false := by decide) :
    PS X (.Try body [.ExceptHandler (some (.Name x np)) (some n) (b0 :: suite) hpos] [] [] pos) (tTry tb C i th) := by
  intro pins s σ H D I0 h
  refine wpAny_Try_except (wpAny_mono (hb pins s σ H D _ I0 h) (fun f s1 q => ?_) fun ex s' q => ?_)
  · cases f with
    | next => exact wpAny_execs_nil q
    | brk => exact q
    | cont => exact q
    | ret u => exact q
  obtain ⟨ea, C', H1, s1, H', rfl, I, ⟨os, bare, h0, l, a0, u, hok, hl, hnew, fl, up⟩, ec, q⟩ := q
  cases ec
  have hh : X.calm = true → X.A.handled = none := I.ok.hd
  have fl' : Heap.FlyingW (PySem.W.hideAll h0 l) (X.env :: X.outer) ea (.ref C) a0 s'.heap := by rw [← hst]; exact fl
  have ap := apart_at (I.call (h' := h0) (g' := s'.gens) (d' := s'.drawn) (t' := s'.toks) (ch := []) u hok bare (fun b z => absurd z (by simp))) hnew
  refine wpAny_looks_onW (by rw [← hst]; exact I.ok.frames) hfr fl' fun h4 held4 up4 => ?_
  refine wpAny_landsW held4 fun h5 fl5 up5 => ?_
  have I5 : Inv X pins σ H' { s' with heap := h5 } := landed_at I os bare u hok hl fl5.1 ((up.trans up4).trans up5)
  obtain ⟨oe, hoe, hoec⟩ := fl5.there
  refine wpAny_handleBy_cons (codeAny_handlers_test (ld_glob (X := Cx.sup X ea []) (Inv.sup I5 (fun p hp => nomatch hp)) hg c.glob ?_ hdb)) (by intro z; cases z)
  obtain ⟨bm, N', nm, qn, bs, hd, sn, sub, ab, col, dd, k0, k1, k2, k3, k5, mN, hC, hNs, hni, TL⟩ := c.obj I5.kIn
  refine wpAny_excMatches_sub_self hC hoe hoec (TL.hasType (by decide +kernel)) (codeAny_handlers_suite_as ?_)
  refine lands_againW fl5 fun h6 fl6 up6 => ?_
  have I6 : Inv X pins σ H' { s' with heap := h6 } := landed_at I os bare u hok hl fl6.1 (((up.trans up4).trans up5).trans up6)
  obtain ⟨oe6, vs6, hoe6, hoec6, hoed6, _⟩ := fl6.first
  have I6p : Inv (Cx.sup X ea [(ea, oe6)]) pins σ H' { s' with heap := h6 } := Inv.sup I6 fun p hp => by
    have e : p = (ea, oe6) := by simpa using hp
    subst e
    exact ⟨hoe6, ap.1, ap.2.1, ap.2.2, fun v z => by rw [hoed6] at z; cases z⟩
  refine store_ok (X := Cx.sup X ea [(ea, oe6)]) I6p hN hi (.inl hn) (show RelV (.ref ea) (.ref ea) from rfl) (fun s7 I7 => ?_) (.inr hn)
  refine wpAny_mono (hs ea oe6 hoec6 ⟨vs6, hoed6⟩ pins s7 _ H' _ I7 (q ea ap.1)) (fun f s8 q8 => ?_) fun _ _ z => z.elim
  cases f with
  | next =>
    obtain ⟨σ', H'', I8, q9⟩ := q8
    exact goes_ok (Inv.unsup I8 hh) hN hi hn fun s9 I9 => ⟨_, H'', I9, q9⟩
  | brk => obtain ⟨_, _, _, z⟩ := q8; exact z.elim
  | cont => obtain ⟨_, _, _, z⟩ := q8; exact z.elim
  | ret v => obtain ⟨_, _, _, _, _, z⟩ := q8; exact z.elim
end
end L3
namespace L3
open PySem PySem.Spec PyProof.Rows L2 PySem.SeqAt PySem.W Builtin Builtin.ObjectAttr Builtin.Getset_descriptor

structure ExcK (K : PySem.W.Frag) (C : Addr) : Prop where
  cl : (PySem.W.clsIn K C).isSome = true
  ga : PySem.W.findIn K (.ref C) "__getattribute__" = some (some (.builtin "BaseException.__getattribute__"))
  gt : PySem.W.findIn K (.ref C) "__getattr__" = some none
  co : PySem.W.findIn K (.ref C) "__class__" = some (some (.builtin "object.__class__"))
  gs : PySem.W.specialIn K (.builtin "object.__class__") "__get__" = some (some (.builtin "getset_descriptor.__get__"))
  tk : PySem.W.takesIn K (.builtin "object.__class__") = some true
  mo : PySem.W.mroIn K C (.type "object") = some true
  mb : PySem.W.mroIn K C (.type "BaseException") = some true
section
variable {prog : Program} {w : World} {A : Around} {E : Value → Shared → Prop} {s : Shared} {K : PySem.W.Frag} {x C : Addr} {ox : Obj}
theorem exc_type {M : Model} {h : Heap} (hx : h.get? x = some ox) (hc : ox.cls = .ref C) : Looks M h (typeOf (.ref x)) (.ref C) := by
  rw [← hc]; exact (Looks.ld hx).andThen .now
theorem exc_get {R : Result → Shared → Prop} {tp : Value} (X : K.In s.heap) (hx : s.heap.get? x = some ox) (hc : ox.cls = .ref C) (F : ExcK K C) (h : R (.ok (.ret (.ref C))) s) :
    codeAny (model prog w) A (.call (.builtin "getset_descriptor.__get__") ⟨[.builtin "object.__class__", .ref x, tp], []⟩) R s := by
  obtain ⟨hh, g, dr, t, os⟩ := s
  have LT := exc_type (M := model prog w) hx hc
  have LM := looks_mroIn (M := model prog w) X F.mo
  have hty : Shared.TypeIs ⟨hh, g, dr, t, os⟩ (.builtin "object.__class__") "getset_descriptor" := KF.type_class
  refine codeAny_call_builtin KF.slot_gs.plain KF.entry_gs ?_
  refine KF.slot_gs.check _ _ _ _ _ _ _ _ hty (KF.args_gs _ _ _) ?_
  unfold Builtin.«getset_descriptor.__get__» descrGet
  rw [dga_obj]
  refine wpAny_bind (wpAny_pure ?_)
  unfold descrGetter descrCheckInstance descrNameAndClass PySem.isInstance
  simp only [KF.owner_class]
  repeat lk
  refine ⟨Code.quiet_builtin _ (by decide +kernel), codeAny_builtin KF.entry_class ?_⟩
  unfold Builtin.«object.__class__» PySem.shownTypeOf
  repeat lk
  exact h
theorem exc_find {M : Model} {h : Heap} (X : K.In h) (F : ExcK K C) : Looks M h (find (.ref x) (.ref C) "__class__") (.bind (.builtin "getset_descriptor.__get__") (.builtin "object.__class__")) := by
  refine (looks_findIn (M := M) X F.co).andThen ?_
  refine (show Looks M h (getOf (some (.builtin "object.__class__"))) (some (.builtin "getset_descriptor.__get__")) from looks_specialIn X F.gs).andThen ?_
  have L3 := looks_takesIn (M := M) X F.tk
  exact (show Looks M h (dataDescriptor? (some (.builtin "object.__class__")) (some (.builtin "getset_descriptor.__get__"))) (some (.builtin "getset_descriptor.__get__", .builtin "object.__class__")) from L3.andThen .now).andThen (Looks.tag .now)
end
end L3
namespace L3
open PySem PySem.Spec PyProof.Rows L2 PySem.SeqAt PySem.W Builtin Builtin.ObjectAttr Builtin.Getset_descriptor
section
variable {prog : Program} {w : World} {A : Around} {E : Value → Shared → Prop} {s : Shared} {K : PySem.W.Frag} {x C : Addr} {ox : Obj}
theorem exc_entry {Q : Fin → Shared → Prop} {tk : Tok} (X : K.In s.heap) (hx : s.heap.get? x = some ox) (hc : ox.cls = .ref C) (F : ExcK K C) (h : Q (.done (.ret (.ref C))) s) :
    wpAny (model prog w) A (Builtin.«object.__getattribute__» ⟨[.ref x, .str "__class__" tk], []⟩) Q E s := by
  obtain ⟨hh, g, dr, t, os⟩ := s
  have LT := exc_type (M := model prog w) hx hc
  have LF := exc_find (M := model prog w) (x := x) X F
  unfold Builtin.«object.__getattribute__»
  repeat (first | with_reducible refine wpAny_call ?_ | lk)
  refine exc_get X hx hc F ?_
  repeat lk
  exact h
theorem exc_check {M : Model} {nameV : Value} {Q : Unit → Shared → Prop} (X : K.In s.heap) (hx : s.heap.get? x = some ox) (hc : ox.cls = .ref C) (F : ExcK K C) (h : Q () s) :
    wpAny M A (checkBuiltinCall "BaseException.__getattribute__" ⟨[.ref x, nameV], []⟩) Q E s := by
  obtain ⟨hh, g, dr, t, os⟩ := s
  have LT := exc_type (M := M) hx hc
  have LM := looks_mroIn (M := M) X F.mb
  have k1 : builtinKind "BaseException.__getattribute__" = some .slot := by decide +kernel
  have k2 : splitId "BaseException.__getattribute__" = some ("BaseException", "__getattribute__") := by decide +kernel
  have k3 := PySem.F.args_bexc_ga (.ref x) nameV
  simp only [checkBuiltinCall, k1, k2]
  refine wpAny_bind ?_
  unfold PySem.isInstance
  repeat lk
  exact h
theorem exc_class {Q : Option Value → Shared → Prop} (X : K.In s.heap) (hx : s.heap.get? x = some ox) (hc : ox.cls = .ref C) (F : ExcK K C) (h : Q (some (.ref C)) { s with toks := s.toks + 1 }) :
    wpAny (model prog w) A (getAttr? (.ref x) "__class__") Q E s := by
  obtain ⟨hh, g, dr, t, os⟩ := s
  have LT := exc_type (M := model prog w) hx hc
  have LG := looks_findIn (M := model prog w) X F.ga
  have LH := looks_findIn (M := model prog w) X F.gt
  unfold getAttr? getAttrBy? getAttrBy
  refine wpAny_bind (wpAny_mkText (wpAny_bind (wpAny_attempt (wpAny_holding (wpAny_bind (LT.at ?_))))))
  refine wpAny_bind (LG.at ?_)
  have n1 : (onTheHeap (.ref C) && Value.builtin "BaseException.__getattribute__" == Value.builtin "object.__getattribute__") = false := by
    show (true && Value.builtin "BaseException.__getattribute__" == Value.builtin "object.__getattribute__") = false
    decide +kernel
  show wpAny _ _ (if (onTheHeap (.ref C) && Value.builtin "BaseException.__getattribute__" == Value.builtin "object.__getattribute__") = true then _ else getAttrByItsOwn _ _ _ _ _ _) _ _ _
  rw [n1, if_neg Bool.false_ne_true]
  unfold getAttrByItsOwn hookBefore
  refine wpAny_bind (LH.at ?_)
  refine wpAny_bind (wpAny_attempt (wpAny_holding ?_))
  have b1 := PySem.F.excAttr_ValueError.ga.bind (.ref x)
  show wpAny _ _ (boundAndCalled _ _ _) _ _ _
  unfold boundAndCalled
  rw [b1]
  refine wpAny_bind (wpAny_pure ?_)
  refine wpAny_call (codeAny_call_builtin PySem.F.excAttr_ValueError.ga.plain PySem.F.entry_bexc_ga (exc_check (s := ⟨hh, g, dr, t + 1, os⟩) X hx hc F (exc_entry (s := ⟨hh, g, dr, t + 1, os⟩) X hx hc F ?_)))
  exact handed_on rfl (wpAny_pure h)
theorem exc_kit (hc : ox.cls = .ref C) (F : ExcK K C) : KitX K (.ref x) (.ref C) (fun h => h.get? x = some ox) where
  ty := fun _ _ _ p => exc_type p hc
  it := fun _ _ X _ => by
    obtain ⟨cd, hcd⟩ := Option.isSome_iff_exists.mp F.cl
    unfold clsIn at hcd
    split at hcd
    · rename_i hlk
      intro A' Q' E' s' k q
      unfold isType loadHead
      exact wpAny_bind (wpAny_loadPart (k _ _ (X _ _ hlk)) (wpAny_pure q))
    · cases hcd
  ne := fun h tp dd its n sl X htp => by
    obtain ⟨cd, hcd⟩ := Option.isSome_iff_exists.mp F.cl
    refine Bool.eq_false_iff.mpr fun q => ?_
    have e : C = tp := Value.ref.inj (beq_iff_eq.mp q)
    subst e
    unfold clsIn at hcd
    split at hcd
    · rename_i hlk
      have z := (X _ _ hlk).symm.trans htp
      cases z
    · cases hcd
  ca := fun X p k => exc_class X p hc F k

def rIsiX (K : PySem.W.Frag) (ea C : Addr) : List V → Hp → VK → Prop := fun xs H Q => ∃ c b, xs = [.ref ea, c] ∧ clsOf c ≠ .none ∧ kitOne K (.ref C) (clsOf c) = some b ∧ Q (.bl b) H
theorem call_isiX {X : Cx} {ea : Addr} {oe : Obj} (hp : (ea, oe) ∈ X.pn) (hc : oe.cls = .ref C) (F : ExcK X.K C) : CallR X (.builtin "isinstance") (rIsiX X.K ea C) := by
  intro pins s σ H xs us Q I r h
  obtain ⟨c, b, rfl, hn, e, q⟩ := h
  obtain ⟨u, w', rfl, rx, rc⟩ := vals2 r
  cases clsOf_eq rc hn
  cases (show u = Value.ref ea from rx)
  exact kia_one (exc_kit hc F) I.kIn (I.pin (ea, oe) (List.mem_append_left _ hp)).1 e (fun z => nomatch z) fun tk => ⟨.bl b, H, I.tok _, rfl, q⟩
theorem r_isiX {K : PySem.W.Frag} {ea C : Addr} {c : V} {H : Hp} {Q : VK} {b : Bool} (hc : clsOf c ≠ .none) (e : kitOne K (.ref C) (clsOf c) = some b) (q : Q (.bl b) H) : rIsiX K ea C [.ref ea, c] H Q := ⟨c, b, rfl, hc, e, q⟩
theorem call_isiXK {X : Cx} {K : PySem.W.Frag} {ea C : Addr} {oe : Obj} (h : X.K = K) (hp : (ea, oe) ∈ X.pn) (hc : oe.cls = .ref C) (F : ExcK K C) : CallR X (.builtin "isinstance") (rIsiX K ea C) := by subst h; exact call_isiX hp hc F

theorem r_raise {C : Addr} {E : XK} {t : TA} {D : Ends} {σ : L2.St} {H : Hp} (h : t σ H fun vs H1 => vs.length ≤ 1000 ∧ E (.ref C) none H1) : tRaise C E t D σ H := h
end
end L3
namespace L3
open PySem PySem.Spec PyProof.Rows L2 PySem.SeqAt

section
variable {X : Cx} {k : Nat} {g : Str} {sp : Sp} {e c : Expr} {es : List Expr} {t : TA} {gp cpos pos : Pos} {b1 b2 : List Stmt} {tc : TT} {t1 t2 : TB}
end
section
variable {X : Cx} {v : Expr} {tv : TE} {x y : Str} {j1 j2 : Nat} {p0 p1 p2 p3 : Pos}
end
end L3
namespace L3
open PySem PySem.Spec PyProof.Rows

section
variable {prog : Program} {w : World} {A : Around} {E : Value → Shared → Prop} {s : Shared}
end
section
variable {prog : Program} {w : World} {A : Around} {E : Value → Shared → Prop} {s : Shared}
end
end L3
namespace L3
open PySem PySem.Spec PyProof.Rows L2

end L3
namespace L3
open PySem PySem.Spec PyProof.Rows L2 PySem.SeqAt

end L3
namespace L3
open PySem PySem.Spec PyProof.Rows L2 PySem.SeqAt

section
variable {P : Program} {w : World} {K : PySem.W.Frag} {mg : Str → Option Value} {base : Heap} {dv : Value}
end
section
variable {X : Cx} {CX : CXT} {k : Nat} {C : Addr} {dV : V} {sp : Sp} {E : XK} {x m : Str} {p pos apos : Pos} {e o : Expr} {es : List Expr} {ta : TE} {t : TA}
end
section
variable {P : Program} {w : World} {K : PySem.W.Frag} {mg : Str → Option Value} {base : Heap} {x qual : Str} {st : Stmt} {N ps : List Str} {sp : Sp} {C : Addr}
theorem mkX_of {y : Str} (k : Nat) (hy : mg y = some (.ref C)) (h : ∃ f fd, Fun K "__init__" qual st f fd ∧ Mk K C f ∧ Binds K fd ps []) (S : FnScope N ps (defScope st)) (len : ∀ vs H Q E, sp vs H Q E → vs.length = ps.length)
    (hbody : BodyX P w K mg base k qual st N sp) : MkE P w K mg base (CXR P w) (k + 1) y C sp := by
  obtain ⟨f, fd, F, hm, hb⟩ := h
  exact ⟨f, fd, ps, hm, Fun.okX F S len hbody, hy, hb⟩
end

theorem pass_no {P : Program} {w : World} {X : Cx} : Passes (CXR P w) X (fun _ _ _ => False) := fun _ _ _ _ _ _ _ h => by
  obtain ⟨ea, C, H', _, _, z⟩ := h
  exact z.elim

end L3
namespace FB
open PySem PySem.Spec PyProof.Rows L2 L3 PySem.SeqAt


inductive Rw where
  | set (b n : Int) | copy (b o : Int) | add (b o t : Int) | sub (b o t : Int) | mul (b o t : Int) | less (b o t : Int)
  | grow (m : Int) | shrink (m : Int) | put (b c : Int) | get (b c : Int)
  | jump (t : Int) | branch (b t : Int) | call (t : Int) | back (b : Int) | drop (b : Int)
def isBox (b : Int) : Prop := 0 ≤ b ∧ b ≤ 7
def isVal (n : Int) : Prop := 0 ≤ n ∧ n ≤ 4294967295
def isMany (n : Int) : Prop := 0 ≤ n ∧ n ≤ 4000
def isTgt (n : Int) : Prop := 0 ≤ n ∧ n ≤ 2000
def Rw.ok : Rw → Prop
  | .set b n => isBox b ∧ isVal n
  | .copy b o => isBox b ∧ isBox o
  | .add b o t | .sub b o t | .mul b o t | .less b o t => isBox b ∧ isBox o ∧ isBox t
  | .grow m | .shrink m => isMany m
  | .put b c | .get b c => isBox b ∧ isMany c
  | .jump t | .call t => isTgt t
  | .branch b t => isBox b ∧ isTgt t
  | .back b | .drop b => isBox b
def gI (xs : List Int) (i : Int) : Int := xs.getD i.toNat 0
def sI (xs : List Int) (i v : Int) : List Int := xs.set i.toNat v
theorem sI_len (xs : List Int) (i v : Int) : (sI xs i v).length = xs.length := by unfold sI; exact List.length_set ..
theorem gI_at {xs : List Int} {i : Int} (h0 : 0 ≤ i) (h1 : i < xs.length) : atI (xs.map V.int) i = some (.int (gI xs i)) := by
  have e : i = ((i.toNat : Nat) : Int) := by omega
  have hl : i.toNat < xs.length := by omega
  have z : atI (xs.map V.int) ((i.toNat : Nat) : Int) = some (.int (gI xs i)) := atI_nat (by
    rw [List.getElem?_map, List.getElem?_eq_getElem hl]
    simp [gI, List.getD, List.getElem?_eq_getElem hl])
  rw [← e] at z; exact z
theorem r_lenI {K : PySem.W.Frag} {p : Addr} {xs : List Int} {H : Hp} {Q : VK} (h : SqL K H p (xs.map V.int)) (q : Q (.int xs.length) H) : rLen K [.ref p] H Q := r_lenL h (by rw [List.length_map]; exact q)
def Rw.told : Rw → Str × List Int
  | .set b n => ("set", [b, n])
  | .copy b o => ("copy", [b, o])
  | .add b o t => ("add", [b, o, t])
  | .sub b o t => ("sub", [b, o, t])
  | .mul b o t => ("mul", [b, o, t])
  | .less b o t => ("less", [b, o, t])
  | .grow m => ("grow", [m])
  | .shrink m => ("shrink", [m])
  | .put b c => ("put", [b, c])
  | .get b c => ("get", [b, c])
  | .jump t => ("jump", [t])
  | .branch b t => ("branch", [b, t])
  | .call t => ("call", [t])
  | .back b => ("back", [b])
  | .drop b => ("drop", [b])

def Rw.flds : Rw → List (Str × V)
  | .set b n => putF "number" (.int n) (putF "box" (.int b) [])
  | .copy b o => putF "one" (.int o) (putF "box" (.int b) [])
  | .add b o t | .sub b o t | .mul b o t | .less b o t => putF "other" (.int t) (putF "one" (.int o) (putF "box" (.int b) []))
  | .grow m | .shrink m => putF "many" (.int m) []
  | .put b c | .get b c => putF "cell" (.int c) (putF "box" (.int b) [])
  | .jump t | .call t => putF "target" (.int t) []
  | .branch b t => putF "target" (.int t) (putF "box" (.int b) [])
  | .back b | .drop b => putF "box" (.int b) []
structure Adr where
  C_Row : Addr
  C_Set : Addr
  C_Copy : Addr
  C_Add : Addr
  C_Sub : Addr
  C_Mul : Addr
  C_Less : Addr
  C_Grow : Addr
  C_Shrink : Addr
  C_Put : Addr
  C_Get : Addr
  C_Jump : Addr
  C_Branch : Addr
  C_Call : Addr
  C_Back : Addr
  C_Drop : Addr
  C_Reckoning : Addr
  C_Reaching : Addr
  C_FrameError : Addr
  C_NoRow : Addr
  C_NoTable : Addr
  C_NoText : Addr
  C_Table : Addr
  C_Reading : Addr
  C_Machine : Addr
  C_Astray : Addr
  C_NoProgram : Addr
  C_NoLine : Addr
  C_NoName : Addr
  G_START : Addr
  G_WHICH : Addr
  G_COUNTS : Addr
def Rw.cls (a : Adr) : Rw → Addr
  | .set .. => a.C_Set
  | .copy .. => a.C_Copy
  | .add .. => a.C_Add
  | .sub .. => a.C_Sub
  | .mul .. => a.C_Mul
  | .less .. => a.C_Less
  | .grow .. => a.C_Grow
  | .shrink .. => a.C_Shrink
  | .put .. => a.C_Put
  | .get .. => a.C_Get
  | .jump .. => a.C_Jump
  | .branch .. => a.C_Branch
  | .call .. => a.C_Call
  | .back .. => a.C_Back
  | .drop .. => a.C_Drop

def RowAt (a : Adr) (H : Hp) (p : Addr) (r : Rw) : Prop := ∃ dx, H p = some (.ins (r.cls a) dx r.flds)
theorem RowAt.same {a : Adr} {H H' : Hp} {p : Addr} {r : Rw} (h : RowAt a H p r) (s : Same H H') : RowAt a H' p r := let ⟨dx, e⟩ := h; ⟨dx, s _ _ e⟩


theorem kp_two {H : Hp} {x : Addr} {o1 o2 : HO} : ∀ b o, H b = some o → b ≠ x → upd (upd H x o1) x o2 b = some o := fun b o e ne => by rw [upd_ne ne, upd_ne ne]; exact e
theorem kp_one {H : Hp} {x : Addr} {o1 : HO} : ∀ b o, H b = some o → b ≠ x → upd H x o1 b = some o := fun b o e ne => by rw [upd_ne ne]; exact e
theorem kp_three {H : Hp} {x : Addr} {o1 o2 o3 : HO} : ∀ b o, H b = some o → b ≠ x → upd (upd (upd H x o1) x o2) x o3 b = some o := fun b o e ne => by rw [upd_ne ne, upd_ne ne, upd_ne ne]; exact e

def spTold (a : Adr) (r : Rw) : Sp := fun vs H Q _ => ∃ (x : Addr), vs = [.ref x] ∧ RowAt a H x r ∧ ∀ p, H p = none → Q (.ref p) (upd H p (.tup (.str r.told.1 :: r.told.2.map V.int)))

def cellAt (ns : List Int) (k : Int) : Int := ns.getD k.toNat 0
def spCellAt (K : PySem.W.Frag) : Sp := fun vs H Q _ => ∃ (p : Addr) (ns : List Int) (k : Int), vs = [.ref p, .int k] ∧ SqL K H p (ns.map V.int) ∧ 0 ≤ k ∧ Q (.int (cellAt ns k)) H
theorem r_cellAt {K : PySem.W.Frag} {p : Addr} {ns : List Int} {k : Int} {H : Hp} {Q : VK} {E : XK} (h : SqL K H p (ns.map V.int)) (h0 : 0 ≤ k) (q : Q (.int (cellAt ns k)) H) : spCellAt K [.ref p, .int k] H Q E := ⟨p, ns, k, rfl, h, h0, q⟩
theorem cellAt_out {ns : List Int} {k : Int} (h0 : 0 ≤ k) (h : ¬ k < ns.length) : cellAt ns k = 0 := by
  unfold cellAt
  rw [List.getD_eq_getElem?_getD, List.getElem?_eq_none (by omega)]
  rfl
def spLaw (K : PySem.W.Frag) : Sp := fun vs H Q _ => ∃ (a : Addr) (ns : List Int), vs = [.ref a] ∧ SqL K H a (ns.map V.int) ∧ ns.length ≤ 63 ∧ ∀ H', Q (.bl true) H'
theorem look_of {fs : List (Str × V)} {f g : Str} {v w : V} (h : f ≠ g) (e : fs.lookup f = some w) : (putF g v fs).lookup f = some w := by rw [lookup_putF, if_neg h]; exact e
theorem look_hit {fs : List (Str × V)} {f : Str} {v : V} : (putF f v fs).lookup f = some v := by rw [lookup_putF, if_pos rfl]
theorem look_no {fs : List (Str × V)} {f g : Str} {v : V} (h : f ≠ g) (e : fs.lookup f = none) : (putF g v fs).lookup f = none := by rw [lookup_putF, if_neg h]; exact e
theorem len_of {fs : List (Str × V)} {f : Str} {v : V} {n : Nat} (e : fs.length ≤ n) : (putF f v fs).length ≤ n + 1 := Nat.le_trans (length_putF _ _ _) (Nat.succ_le_succ e)
end FB
namespace L3
open PySem PySem.Spec PyProof.Rows L2 PySem.SeqAt

section
variable {prog : Program} {w : World} {A : Around} {E : Value → Shared → Prop} {h : Heap} {g : Array GenState} {d : Drawn} {t : Nat} {os : OsState}
variable {nm q : Str} {C N : Addr} {bs bm bmB : List Value} {hdct : Bool} {sn : List Str} {sub : List Value} {ab : Bool} {col : Option Bool} {dd : Option Addr} {k0 k1 k2 k3 k5 : Option Value} {B Bn newId nid initId inN : String} {bmN : List Value}
end
end L3
namespace L3
open PySem PySem.Spec PyProof.Rows L2 PySem.SeqAt

end L3
namespace L3
open PySem PySem.Spec PyProof.Rows L2 PySem.SeqAt PySem.W Builtin Builtin.ObjectAttr

section
variable {prog : Program} {w : World} {A : Around} {E : Value → Shared → Prop} {s : Shared} {K : PySem.W.Frag} {x C t : Addr} {name : Str} {v : Value}
end
end L3
namespace L3
open PySem PySem.Spec PyProof.Rows L2 PySem.SeqAt
section
variable {X : Cx} {pins : List (Addr × Obj)} {σ : L2.St} {H : Hp} {s : Shared} {a C : Addr} {f : Str} {A : Around} {E : Value → Shared → Prop}
end

end L3
namespace L3
open PySem PySem.Spec PyProof.Rows L2 PySem.SeqAt

section
variable {M : Model} {A : Around} {E : Value → Shared → Prop} {s : Shared}

end
end L3
namespace L3
open PySem PySem.Spec PyProof.Rows L2 PySem.SeqAt
section
variable {M : Model} {A : Around} {E : Value → Shared → Prop} {env : Env}
variable {nm q : Str} {C N : Addr} {bs bm : List Value} {hdct : Bool} {sn : List Str} {sub : List Value} {ab : Bool} {col : Option Bool} {dd : Option Addr} {k0 k1 k2 k3 k5 : Option Value} {newId : String}
end
section
variable {prog : Program} {w : World} {A : Around} {E : Value → Shared → Prop} {s : Shared} {env : Env}
variable {nm q : Str} {C N : Addr} {bs bm bmB : List Value} {hdct : Bool} {sn : List Str} {sub : List Value} {ab : Bool} {col : Option Bool} {dd : Option Addr} {k0 k1 k2 k3 k5 : Option Value} {B Bn newId nid initId inN : String} {bmN : List Value}
end

end L3
namespace L3
open PySem PySem.Spec PyProof.Rows L2 PySem.SeqAt

section
variable {P : Program} {w : World} {K : PySem.W.Frag} {mg : Str → Option Value} {base : Heap} {x qual : Str} {st : Stmt} {N ps : List Str} {sp : Sp} {C : Addr} {k : Nat}
end

section
variable {X : Cx} {pins : List (Addr × Obj)} {σ : L2.St} {H : Hp} {s : Shared} {k : Nat} {g x n : Str} {sp : Sp} {e : Expr} {es : List Expr} {t : TA} {tx : TEX} {ta : TAX} {te : TE} {gp cpos pos py : Pos}
end
end L3
namespace L3
open PySem PySem.Spec PyProof.Rows L2 PySem.SeqAt PySem.W Builtin Builtin.ObjectAttr
section
variable {prog : Program} {w : World} {A : Around} {E : Value → Shared → Prop} {s : Shared} {K : PySem.W.Frag} {x C dx : Addr} {ox od : Obj} {name : Str} {v : Value}
end

section
variable {X : Cx} {pins : List (Addr × Obj)} {σ : L2.St} {C fI : Addr}
end
end L3
namespace L3
open PySem PySem.Spec PyProof.Rows L2 PySem.SeqAt

def tFst2 (x : Str) (tv : TE) : TE := fun σ H Q => tv σ H fun u H1 => ∃ i, u = .int i ∧ i.natAbs.log2 < 1900 ∧ Q (.str (Str.empty ++ x ++ Str.ofString (toString i))) H1
theorem pe_fst2 {X : Cx} {v : Expr} {tv : TE} {x : Str} {j1 : Nat} {p0 p1 p2 : Pos} (hv : PE X v tv) (hx : (Str.empty ++ x).length ≤ 1000 := by decide +kernel) : PE X (.JoinedStr [.Constant (.str x) j1 p1, .FormattedValue v (-1) none p2] p0) (tFst2 x tv) := by
  intro pins s σ H Q I h
  refine JoinedStr_many (joinParts_cons (thn (pe_str (X := X) pins s σ H (fun u H' => u = .str x ∧ H' = H) I ⟨rfl, rfl⟩) fun u1 s1 ⟨v1, H1, I1, r1, e1, e2⟩ => ?_))
  subst e1 e2
  obtain ⟨t1, rfl⟩ := r1
  refine ⟨by rw [sizeLine_eq]; omega, joinParts_cons (FormattedValue_plain (thn (hv pins s1 σ H1 _ I1 h) fun u2 s2 ⟨v2, H2, I2, r2, i, e, hd, q⟩ => ?_))⟩
  subst e
  obtain ⟨t2, rfl⟩ := r2
  have hl := int_text_len_1921 (i := i) (by omega)
  have hz : (Str.empty ++ x ++ Str.ofString (toString i)).length ≤ sizeLine := by
    rw [sizeLine_eq]
    have : (Str.empty ++ x ++ Str.ofString (toString i)).length = (Str.empty ++ x).length + (Str.ofString (toString i)).length := by
      show Array.size _ = Array.size _ + Array.size _
      exact Array.size_append
    omega
  refine formatField_int_small (by omega) ?_
  exact ⟨hz, joinParts_nil ⟨.str _, _, (I2.tok _).tok _, ⟨_, rfl⟩, q⟩ hz⟩
theorem r_fst2 {x : Str} {tv : TE} {σ : L2.St} {H : Hp} {Q : VK} (h : tv σ H fun u H1 => ∃ i, u = .int i ∧ i.natAbs.log2 < 1900 ∧ Q (.str (Str.empty ++ x ++ Str.ofString (toString i))) H1) : tFst2 x tv σ H Q := h
theorem log_small {i : Int} (h1 : -(2 ^ 62) ≤ i) (h2 : i < 2 ^ 62) : i.natAbs.log2 < 1900 := by
  have h3 : i.natAbs < 2 ^ 63 := by omega
  by_cases h0 : i.natAbs = 0
  · rw [h0]; decide
  · have := (Nat.log2_lt h0).mpr h3
    omega
end L3
namespace L3
open PySem PySem.Spec PyProof.Rows L2 PySem.SeqAt
end L3
namespace L3
open PySem PySem.Spec PyProof.Rows L2 PySem.SeqAt

section
variable {prog : Program} {w : World} {A : Around} {E : Value → Shared → Prop} {s : Shared}
end
end L3
namespace L3
open PySem PySem.Spec PyProof.Rows L2 PySem.SeqAt
section
variable {M : Model} {A : Around} {E : Value → Shared → Prop}
variable {nm q : Str} {D N : Addr} {bs bm : List Value} {hdct : Bool} {sn : List Str} {sub : List Value} {ab : Bool} {col : Option Bool} {dd : Option Addr} {k0 k1 k2 k3 k5 : Option Value} {newId : String}

end
section
variable {X : Cx} {pins : List (Addr × Obj)} {σ : St} {H H1 H' : Hp} {s s1 s' : Shared} {ea C : Addr}
end
end L3
namespace L3
open PySem PySem.Spec PyProof.Rows L2

section
variable {prog : Program} {w : World} {A : Around} {E : Value → Shared → Prop} {s : Shared}
end
end L3
namespace L3
open PySem PySem.Spec PyProof.Rows L2
end L3
namespace L3
open PySem PySem.Spec PyProof.Rows L2 PySem.SeqAt

theorem vals_bl : ∀ {bs : List Bool} {us : List Value}, Vals (bs.map V.bl) us → us = bs.map Value.bool
  | [], _, h => by cases h; rfl
  | b :: bs, us, h => by
    cases h with
    | cons h r =>
      cases (show _ = Value.bool b from h)
      rw [vals_bl r]; rfl
def rCountB : V → List V → Hp → VK → Prop := fun x vs H Q => ∃ (l : Addr) (bs : List Bool) (k : Bool), x = .ref l ∧ vs = [.bl k] ∧ H l = some (.lst (bs.map V.bl)) ∧ Q (.int ((bs.countP (· == k) : Nat) : Int)) H
theorem mt_countB {X : Cx} : MtR X "list.count" rCountB := by
  intro pins s σ H x vs v us Q I rx rv h
  obtain ⟨l, bs, k, rfl, rfl, hH, q⟩ := h
  cases rx
  obtain ⟨u, rfl, ru⟩ := rv.one
  cases (show u = Value.bool k from ru)
  obtain ⟨z, its, n, r, hl, e⟩ := I.lstM hH
  cases vals_bl r
  refine call_meets PySem.F.slot_list_count ⟨_, e, rfl⟩ PySem.F.entry_list_count (PySem.F.args_list_count_2 _ _) (list_countAt l _ n none #[] (.bool k) (isBoolOf k)) ⟨e, fun y hy => ?_, ?_⟩
  · obtain ⟨b, _, rfl⟩ : ∃ b, b ∈ bs ∧ Value.bool b = y := by simpa using hy
    exact EqAt.bool_bool b k
  · have ec : (bs.map Value.bool).toArray.toList.countP (isBoolOf k) = bs.countP (· == k) := by
      rw [show (bs.map Value.bool).toArray.toList = bs.map Value.bool from rfl, List.countP_map]; rfl
    rw [ec]
    exact ⟨.int _, H, I.tok _, ⟨_, rfl⟩, q⟩
def rIndexB : V → List V → Hp → VK → Prop := fun x vs H Q => ∃ (l : Addr) (bs : List Bool) (k : Bool) (j : Nat), x = .ref l ∧ vs = [.bl k] ∧ H l = some (.lst (bs.map V.bl)) ∧ bs[j]? = some k ∧ (∀ i : Nat, i < j → bs[i]? ≠ some k) ∧ Q (.int ((j : Nat) : Int)) H
theorem mt_indexB {X : Cx} : MtR X "list.index" rIndexB := by
  intro pins s σ H x vs v us Q I rx rv h
  obtain ⟨l, bs, k, j, rfl, rfl, hH, hj, hno, q⟩ := h
  cases rx
  obtain ⟨u, rfl, ru⟩ := rv.one
  cases (show u = Value.bool k from ru)
  obtain ⟨z, its, n, r, hl, e⟩ := I.lstM hH
  cases vals_bl r
  have hjl : j < bs.length := (List.getElem?_eq_some_iff.mp hj).1
  rw [sizeLine_eq, List.length_map] at z
  refine call_meets PySem.F.slot_list_index ⟨_, e, rfl⟩ PySem.F.entry_list_index (PySem.F.args_list_index_2 _ _) (list_indexAt l _ n none #[] (.bool k) (isBoolOf k) j (by simpa using hjl) (by omega) ?_ ?_) ⟨e, fun y hy => ?_, ?_⟩
  · have := (List.getElem?_eq_some_iff.mp hj).2
    simp [isBoolOf, this]
  · intro m hm hlt
    have hm' : m < bs.length := by simpa using hm
    have h1 := hno m hlt
    rw [List.getElem?_eq_getElem hm'] at h1
    have h2 : bs[m] ≠ k := fun e => h1 (by rw [e])
    simp [isBoolOf, h2]
  · obtain ⟨b, _, rfl⟩ : ∃ b, b ∈ bs ∧ Value.bool b = y := by simpa using hy
    exact EqAt.bool_bool b k
  · exact ⟨.int _, H, I.tok _, ⟨_, rfl⟩, q⟩
theorem r_countB {l : Addr} {bs : List Bool} {k : Bool} {H : Hp} {Q : VK} (h : H l = some (.lst (bs.map V.bl))) (q : Q (.int ((bs.countP (· == k) : Nat) : Int)) H) : rCountB (.ref l) [.bl k] H Q := ⟨l, bs, k, rfl, rfl, h, q⟩
theorem r_indexB {l : Addr} {bs : List Bool} {k : Bool} {j : Nat} {H : Hp} {Q : VK} (h : H l = some (.lst (bs.map V.bl))) (hj : bs[j]? = some k) (hno : ∀ i : Nat, i < j → bs[i]? ≠ some k) (q : Q (.int ((j : Nat) : Int)) H) : rIndexB (.ref l) [.bl k] H Q := ⟨l, bs, k, j, rfl, rfl, h, hj, hno, q⟩

def bMeth (P : Program) (w : World) (K : PySem.W.Frag) (mg : Str → Option Value) (base : Heap) (k : Nat) (m : Str) (i : Nat) (ta : TE) (t : TA) : TB := fun D Ew σ H => ta σ H fun x H1 =>
  ∃ a C dx fs sp, x = .ref a ∧ H1 a = some (.ins C dx fs) ∧ fs.lookup m = none ∧ MethE P w K mg base (CXR P w) k C m sp ∧ t σ H1 fun vs H2 => sp (.ref a :: vs) H2 (fun v H3 => D.nx (σ.set i (some v)) H3) Ew
section
variable {X : Cx} {k : Nat} {x m : Str} {e o : Expr} {es : List Expr} {ta : TE} {t : TA} {apos cpos pos py : Pos}
theorem pb_setM {pl : Sem Bool} {i : Nat} {P : Program} {w : World} {K : PySem.W.Frag} {mg : Str → Option Value} {base : Heap} (hP : X.prog = P ∧ X.w = w ∧ X.K = K ∧ X.mg = mg ∧ X.base = base) (hN : X.N.Nodup) (hi : X.N[i]? = some x) (hx : Loc X.env.scope x) (he : PE X.nox o ta) (hr : Room k X.A) (ha : PA X.nox (e :: es) t)
    (hf : X.fn x = true ∨ X.env.scope.names.lookup x = some .local := by first | exact .inl rfl | exact .inr rfl | assumption)
    (hst : starEach (e :: es) X.env = (false, eval e X.env) :: starEach es X.env := by rfl) (hpl : (backTo cpos (starEach es X.env)).any (·.1) = false := by rfl)
    (ht : eval (.Call (.Attribute o m apos) (e :: es) [] cpos) X.env = (do
      let ov ← eval o X.env
      standAt apos.atName
      let (f, first) ← holding [ov] (getMethod ov m pl)
      callWith cpos f first (backTo cpos (starEach (e :: es) X.env)) (backToKw cpos (keywordEach [] X.env))) := by rfl) :
    PB X [.Assign [.Name x py] (.Call (.Attribute o m apos) (e :: es) [] cpos) pos] (bMeth P w K mg base k m i ta t) := by
  obtain ⟨rfl, rfl, rfl, rfl, rfl⟩ := hP
  intro pins s σ H D Ew I h
  refine wpAny_execs_cons (wpAny_Assign_Name (wpAny_mono (Q := EP X pins σ (fun v H3 => D.nx (σ.set i (some v)) H3)) (E := Threw X pins σ Ew) ?_ (fun v s1 ⟨y, H1, I1, r1, q1⟩ => ?_) fun _ _ z => z) rfl)
  · refine PySem.W.methodCall_KW (pl := pl) (wpAny_mono (he pins s σ H _ (I.wish _) h) (fun u s1 ⟨xv, H1, I1, rx, a, C, dx, fs, sp, ex, ea, l, M, q⟩ => ?_) fun _ _ z => z.elim) ht
    subst ex
    obtain rfl : u = Value.ref a := rx
    have J1 : Inv X pins σ H1 s1 := I1.unwish
    obtain ⟨f, fd, ps, hm, F, hb⟩ := M.ex
    refine getmeth_ok J1 ea M.cl hm l ?_
    refine PySem.W.callWith_K (first := [.ref a]) (h₀ := X.base) I.ok.mod.kin hm.kp (wpAny_mono (ha cpos pins s1 σ H1 _ I1 q) (fun us s2 ⟨vs, H2, I2, r, q2⟩ => ⟨I2.kIn, ?_⟩) fun _ _ z => z.elim) hst hpl
    have J : Inv X pins σ H2 s2 := I2.unwish
    have hl : (Value.ref a :: us).length = ps.length := by rw [List.length_cons, ← r.length]; exact F.len _ _ _ _ q2
    have hbd := hb s2 (.ref a :: us) J.kIn (by rw [List.append_nil]; exact hl)
    rw [List.append_nil] at hbd
    refine wpAny_call (codeAny_mono (F.run X.A X.stack s2 H2 ⟨.ref a :: us, []⟩ (.ref a :: us) (.ref a :: vs) _ Ew hr J.env0 hbd (.cons rfl r) q2) fun r2 s' hq => ?_)
    cases r2 with
    | error ex =>
      obtain ⟨ea', C', H', rfl, th, q3⟩ := (show CXR X.prog X.w X.stack H2 s2 Ew ex s' from hq)
      exact ⟨ea', C', H2, s2, H', rfl, J, th, q3⟩
    | ok fl =>
      cases fl with
      | ret u => exact J.after hq
      | next => exact False.elim hq
      | brk => exact False.elim hq
      | cont => exact False.elim hq
  · exact store_ok I1 hN hi hx r1 (fun s2 I2 => wpAny_execs_nil ⟨_, H1, I2, q1⟩) hf
end
theorem r_tryMeth {P : Program} {w : World} {K : PySem.W.Frag} {mg : Str → Option Value} {base : Heap} {k : Nat} {m : Str} {j i : Nat} {ta : TE} {t : TA} {C : Addr} {th : Addr → TS} {D : Ends} {σ : L2.St} {H : Hp}
    (h : ta σ H fun x H1 => ∃ a C' dx fs sp, x = .ref a ∧ H1 a = some (.ins C' dx fs) ∧ fs.lookup m = none ∧ MethE P w K mg base (CXR P w) k C' m sp ∧ t σ H1 fun vs H2 => sp (.ref a :: vs) H2 (fun v H3 => D.nx (σ.set j (some v)) H3)
      fun c _ H2 => c = .ref C ∧ ∀ ea, H2 ea = none → th ea { nx := fun σ' H' => D.nx (σ'.set i none) H', rt := fun _ _ => False } (σ.set i (some (.ref ea))) H2) :
    tTry (bMeth P w K mg base k m j ta t) C i th D σ H := h
end L3
namespace L3
open PySem PySem.Spec PyProof.Rows L2 PySem.SeqAt

section
variable {X : Cx} {pins : List (Addr × Obj)} {σ : L2.St} {C fI : Addr}
end
end L3

namespace FB
open PySem PySem.Spec PyProof.Rows L2 L3 PySem.SeqAt
local macro_rules | `(tactic| walk_at "clok") => `(tactic| repeat (first | exact True.intro | refine ⟨rfl, ?_⟩))
local macro_rules | `(tactic| walk_at "frok") => `(tactic| repeat (first | exact True.intro | refine ⟨⟨rfl, (by first | exact Or.inl rfl | exact Or.inr rfl), (by first | exact Or.inl rfl | exact Or.inr rfl), rfl⟩, ?_⟩))
local macro_rules | `(tactic| walk_at "hlk") => `(tactic| first | (with_reducible assumption) | (exact upd_same) | ((with_reducible refine' look_new ?x ?y); (case y => with_reducible assumption); (case x => walk_at "hlk")) | ((fail_if_success (((with_reducible refine' look_new ?x ?y); (case y => with_reducible assumption)))); (with_reducible refine' look_ne ?x ?y); (case x => walk_at "ne"); (case y => walk_at "hlk")) | ((with_reducible refine' same_at ?x ?y); (case x => with_reducible assumption); (case y => walk_at "hlk")))
local macro_rules | `(tactic| walk_at "ne") => `(tactic| first | (with_reducible assumption) | (apply Ne.symm; (with_reducible assumption)) | ((with_reducible refine' ne_of_none ?x ?y); (case y => with_reducible assumption); (case x => walk_at "hlk")) | (apply Ne.symm; (with_reducible refine' ne_of_none ?x ?y); (case y => with_reducible assumption); (case x => walk_at "hlk")))
local macro_rules | `(tactic| walk_at "sql") => `(tactic| first | (with_reducible assumption) | (refine' SqL.of ?x; (case x => first | (with_reducible assumption) | (exact upd_same))) | ((with_reducible refine' sql_new ?x ?y); (case y => with_reducible assumption); (case x => walk_at "sql")) | ((fail_if_success (((with_reducible refine' sql_new ?x ?y); (case y => with_reducible assumption)))); first | ((with_reducible refine' sql_upd ?s ?h ?q); (case h => with_reducible assumption); (case s => walk_at "same"); (case q => walk_at "sql")) | (refine' SqL.of ?x; (case x => (with_reducible refine' look_ne ?x2 ?y2); (case x2 => walk_at "ne"); (case y2 => walk_at "hlk")))) | ((with_reducible refine' Same.seq ?x ?y); (case x => with_reducible assumption); (case y => walk_at "sql")))
local macro_rules | `(tactic| walk_at "sqt") => `(tactic| first | (with_reducible assumption) | (refine' SqT.of ?x; (case x => first | (with_reducible assumption) | (exact upd_same))) | ((with_reducible refine' sqt_new ?x ?y); (case y => with_reducible assumption); (case x => walk_at "sqt")) | ((fail_if_success (((with_reducible refine' sqt_new ?x ?y); (case y => with_reducible assumption)))); first | ((with_reducible refine' sqt_upd ?s ?h ?q); (case h => with_reducible assumption); (case s => walk_at "same"); (case q => walk_at "sqt")) | (refine' SqT.of ?x; (case x => (with_reducible refine' look_ne ?x2 ?y2); (case x2 => walk_at "ne"); (case y2 => walk_at "hlk")))) | ((with_reducible refine' SqT_same ?x ?y); (case x => with_reducible assumption); (case y => walk_at "sqt")))
local macro_rules | `(tactic| walk_at "lk") => `(tactic| first | (with_reducible exact look_hit) | (refine' look_of ?x ?y; (case x => decide +kernel); (case y => walk_at "lk")) | exact look_hit)
local macro_rules | `(tactic| walk_at "nolk") => `(tactic| first | (with_reducible rfl) | (refine' look_no ?x ?y; (case x => decide +kernel); (case y => walk_at "nolk")) | rfl)
local macro_rules | `(tactic| walk_at "fewf") => `(tactic| first | exact Nat.lt_of_le_of_lt (Nat.le_refl 0) (by decide) | exact Nat.lt_of_le_of_lt (len_of (Nat.le_refl 0)) (by decide) | exact Nat.lt_of_le_of_lt (len_of (len_of (Nat.le_refl 0))) (by decide) | exact Nat.lt_of_le_of_lt (len_of (len_of (len_of (Nat.le_refl 0)))) (by decide))
local macro_rules | `(tactic| walk_at "small") => `(tactic| first | exact Nat.le_of_ble_eq_true rfl | (show _ ≤ sizeLine; rw [sizeLine_eq]; first | omega | (simp only [List.length_map, List.length_cons, List.length_nil, List.length_append, List.length_replicate, List.length_set, List.length_range]; omega)))
local macro_rules | `(tactic| walk_at "r1") => `(tactic| with_reducible first
  | refine r_var (by with_unfolding_all rfl) ?_
  | refine r_c ?_ | refine r_op ?_ | refine r_I0 ?_ | refine r_plusI ?_ | refine r_seq ?_ | refine r_asg ?_ | (refine' r_gN ?x ?_; (case x => simp only [List.set_cons_succ, List.set_cons_zero]; rfl)) | refine r_ret ?_ | refine r_ifS ?_ | refine r_test ?_
  | refine r_cons ?_ | refine r_nil ?_ | refine r_cb ?_ | refine r_callE ?_ | refine r_makeE ?_ | refine r_methE ?_ | refine r_fld ?_ | refine r_tru ?_ | refine r_truB ?_ | refine r_truI ?_
  | refine r_not ?_ | refine r_and ?_ | refine r_or ?_ | refine r_next ?_ | refine r_drop ?_ | refine r_sFld ?_ | refine r_retN ?_ | refine r_un ?_ | refine r_U ?_ | refine r_if ?_
  | refine r_andV ?_ | refine r_orV ?_ | refine r_notV ?_ | refine r_sl ?_ | refine r_part ?_ | refine r_noPart ?_ | refine r_bm ?_ | refine r_bm0 ?_ | refine r_tup ?_ | refine r_lst ?_ | refine r_two ?_
  | (refine' r_compE' ?x ?_; (case x => with_unfolding_all rfl)) | (refine' r_compS' ?x ?_; (case x => with_unfolding_all rfl)) | refine r_for ?_ | refine r_iSeq ?_ | refine r_rng1 ?_ | refine r_rng2 ?_ | refine r_true ?_
  | refine r_isNr ?_ | refine r_isNn ?_ | refine r_isNi ?_ | refine r_notNr ?_ | refine r_notNn ?_ | refine r_notNi ?_
  | refine iteT ?_ | refine iteF ?_ | refine iteNT ?_ | refine iteNF ?_
  | refine ⟨_, rfl, ?_⟩)
local macro_rules | `(tactic| walk_at "r2") => `(tactic| first
  | ((with_reducible refine' r_fldV ?h ?c ?n ?l ?_); (case h => walk_at "hlk"); (case c => walk_at "cls"); (case n => walk_at "noat"); (case l => walk_at "lk"))
  | ((with_reducible refine' r_sFldV ?h ?c ?n ?l ?_); (case h => walk_at "hlk"); (case c => walk_at "cls"); (case n => walk_at "noat"); (case l => walk_at "fewf"))
  | ((with_reducible refine' r_lenI ?h ?_); (case h => walk_at "sql"))
  | ((with_reducible refine' r_lenL ?h ?_); (case h => walk_at "sql"))
  | ((with_reducible refine' r_lenT ?h ?_); (case h => walk_at "sqt"))
  | ((with_reducible refine' r_listL ?h ?_); (case h => walk_at "sql"))
  | ((with_reducible refine' r_listT ?h ?_); (case h => walk_at "sqt"))
  | ((with_reducible refine' r_eqS ?h ?_); (case h => rfl))
  | ((with_reducible refine' r_neS ?h ?_); (case h => rfl)))
local macro_rules | `(tactic| walk_at "none") => `(tactic| first | (with_reducible assumption) | ((with_reducible refine' none_same ?x ?y); (case y => with_reducible assumption); (case x => walk_at "same")))
local macro_rules | `(tactic| walk_at "same") => `(tactic| first | (with_reducible assumption) | (with_reducible exact Same.refl _) | ((with_reducible refine' same_none ?x ?y); (case y => with_reducible assumption); (case x => walk_at "same")) | ((fail_if_success (((with_reducible refine' same_none ?x ?y); (case y => with_reducible assumption)))); (with_reducible refine' same_upd ?x ?y); (case y => walk_at "none"); (case x => walk_at "same")) | ((with_reducible refine' Same.trans ?x ?y); (case y => with_reducible assumption); (case x => walk_at "same")))
local macro_rules | `(tactic| walk_at "tt") => `(tactic| first | assumption | omega | with_unfolding_all rfl | decide | (simp only [List.length_map, List.length_cons, List.length_nil, List.length_append, List.length_replicate, List.length_set, sI_len]; omega))
local macro_rules | `(tactic| walk_at "nn") => `(tactic| first | assumption | omega | decide | (simp only [List.length_map, List.length_cons, List.length_nil, List.length_append, List.length_replicate, List.length_set, sI_len]; omega))
local macro_rules | `(tactic| walk_at "cond") => `(tactic| first
  | ((with_reducible refine' r_I ?h ?_); (case h => first | exact ⟨by decide, by decide⟩ | (show (0 : Int) < _; first | decide | omega) | (show (0 : Int) ≤ _; first | decide | omega)))
  | ((with_reducible refine' r_ifB ?x ?_); (case x => intro hh; exact absurd hh (by decide)); intro _)
  | ((with_reducible refine' r_ifB ?_ ?x); (case x => intro hh; exact absurd hh (by decide)); intro _)
  | ((with_reducible refine' ifInt ?x ?_); (case x => intro hh; exact absurd hh (by walk_at "nn")); intro _)
  | ((with_reducible refine' ifInt ?_ ?x); (case x => intro hh; exact absurd (by walk_at "tt") hh); intro _)
  | ((with_reducible refine' ifIntN ?x ?_); (case x => intro hh; exact absurd (by walk_at "tt") hh); intro _)
  | ((with_reducible refine' ifIntN ?_ ?x); (case x => intro hh; exact absurd hh (by walk_at "nn")); intro _)
  | ((with_reducible refine' ifDec ?x ?_); (case x => intro hh; exact absurd hh (by walk_at "nn")); intro _)
  | ((with_reducible refine' ifDec ?_ ?x); (case x => intro hh; exact absurd (by walk_at "tt") hh); intro _)
  | ((with_reducible refine' ifDecN ?x ?_); (case x => intro hh; exact absurd (by walk_at "tt") hh); intro _)
  | ((with_reducible refine' ifDecN ?_ ?x); (case x => intro hh; exact absurd hh (by walk_at "nn")); intro _))
local macro_rules | `(tactic| walk_at "at") => `(tactic| first | assumption | ((with_reducible refine' gI_at ?x ?y); (case x => walk_at "tt"); (case y => walk_at "tt")) | ((with_reducible refine' gI_neg ?x ?y); (case x => walk_at "tt"); (case y => walk_at "tt")) | rfl)
local macro_rules | `(tactic| walk_at "calls") => `(tactic| first
  | ((with_reducible refine' r_bounded ?a ?b ?_); (case a => omega); (case b => omega))
  | ((with_reducible refine' r_withBox ?h ?a ?b ?_); (case h => walk_at "sql"); (case a => omega); (case b => omega))
  | ((with_reducible refine' r_cellAt ?h ?a ?_); (case h => walk_at "sql"); (case a => omega))
  | (with_reducible refine r_whole ?_) | (with_reducible refine r_without ?_) | (with_reducible refine r_filled ?_)
  | ((with_reducible refine' r_boxPl ?a ?b ?_); (case a => omega); (case b => omega))
  | ((with_reducible refine' r_cellPl ?a ?b ?c ?_); (case a => omega); (case b => omega); (case c => omega))
  | ((with_reducible refine' r_setI ?x ?y ?z ?_); (case x => walk_at "hlk"); (case y => walk_at "tt"); (case z => walk_at "tt"))
  | ((with_reducible refine' r_setIN ?x ?y ?z ?_); (case x => walk_at "hlk"); (case y => walk_at "tt"); (case z => walk_at "tt"))
  | ((with_reducible refine' r_ixT ?h ?e ?_); (case h => walk_at "sqt"); (case e => walk_at "at"))
  | ((with_reducible refine' r_ixL ?h ?e ?_); (case h => walk_at "sql"); (case e => walk_at "at"))
  | (with_reducible refine r_gSub ?_))
local macro_rules | `(tactic| walk_at "ty") => `(tactic| first | (with_reducible exact TyOf.int _) | (with_reducible exact TyOf.bl _) | (with_reducible exact TyOf.str _) | (with_reducible exact TyOf.non) | (refine' TyOf.lst ?x; (case x => walk_at "hlk")) | (refine' TyOf.tup ?x; (case x => walk_at "hlk")))
local macro_rules | `(tactic| walk_at "dp") => `(tactic| first | (with_reducible exact dp_int _) | (with_reducible exact dp_str _) | (with_reducible exact dp_bool _) | (with_reducible exact dp_none) | ((with_reducible refine' dp_ints ?x); (case x => walk_at "sql")) | ((with_reducible refine' dp_lst ?x ?y); (case x => walk_at "sql"); (case y => walk_at "dps")) | ((with_reducible refine' dp_tup ?x ?y); (case x => walk_at "sqt"); (case y => walk_at "dps")))
local macro_rules | `(tactic| walk_at "dps") => `(tactic| first | (with_reducible exact dpAll_nil) | ((with_reducible refine' dpAll_cons ?x ?y); (case x => walk_at "dp"); (case y => walk_at "dps")))
local macro_rules | `(tactic| walk_at "shaped") => `(tactic| first | exact shaped_ints _ | (unfold shaped; simp [PyData.canLay0, PyData.canLayAll0, canLay_ints, PyData.depth, PyData.depthAll, depth_ints]))
local macro_rules | `(tactic| walk_at "eqd") => `(tactic| first
  | ((with_reducible refine' r_eqT ?d ?x ?y ?s ?_); (case x => walk_at "dp"); (case y => walk_at "dp"); (case s => walk_at "shaped"))
  | ((with_reducible refine' r_neT ?d ?x ?y ?s ?_); (case x => walk_at "dp"); (case y => walk_at "dp"); (case s => walk_at "shaped")))
local macro_rules | `(tactic| walk_at "r3") => `(tactic| first
  | (with_reducible refine r_alloc (fun _ _ => ?_))
  | ((with_reducible refine' r_small ?x ?_); (case x => walk_at "small"))
  | ((with_reducible refine' r_62 ?x ?y ?_); (case x => walk_at "tt"); (case y => walk_at "tt"))
  | ((with_reducible refine' r_62b ?x ?y ?z ?u ?_); (case x => walk_at "tt"); (case y => walk_at "tt"); (case z => walk_at "tt"); (case u => walk_at "tt"))
  | ((with_reducible refine' r_itL ?x ?_); (case x => walk_at "sql"))
  | ((with_reducible refine' r_itT ?x ?_); (case x => walk_at "sqt"))
  | ((with_reducible refine' r_slI ?x ?_); (case x => walk_at "sql"))
  | ((with_reducible refine' r_slL ?x ?_); (case x => walk_at "sql"))
  | ((with_reducible refine' r_timesZ ?x ?y ?z ?_); (case x => walk_at "hlk"); (case y => walk_at "tt"); (case z => walk_at "tt"))
  | ((with_reducible refine' r_plusII ?x ?y ?z ?_); (case x => walk_at "hlk"); (case y => walk_at "hlk"); (case z => walk_at "small"))
  | ((with_reducible refine' r_tyL ?x ?_); (case x => walk_at "hlk"))
  | ((with_reducible refine' r_timesI ?h ?_); (case h => walk_at "cmul"))
  | ((with_reducible refine' r_sum ?h ?_); (case h => walk_at "sql"))
  | ((with_reducible refine' r_inT ?h ?x ?y ?_); (case h => walk_at "sqt"); (case x => rfl); (case y => rfl))
  | ((with_reducible refine' r_clear ?x ?_); (case x => walk_at "hlk"))
  | ((with_reducible refine' r_append ?x ?y ?_); (case x => walk_at "hlk"); (case y => walk_at "small"))
  | ((with_reducible refine' r_isi ?c ?t ?e ?_); (case c => exact fun z => nomatch z); (case t => walk_at "ty"); (case e => walk_at "kit")))
local macro_rules | `(tactic| walk_at "rd") => `(tactic| repeat (first | walk_at "r1" | walk_at "r3" | walk_at "r2" | walk_at "cond" | walk_at "calls" | walk_at "mine"))
local macro_rules | `(tactic| walk_at "rds") => `(tactic| repeat' (first | walk_at "r1" | walk_at "r3" | walk_at "r2" | walk_at "cond" | walk_at "calls" | walk_at "mine" | walk_at "cs"))
local macro_rules | `(tactic| walk_at "sp") => `(tactic| (repeat' split) <;> first | assumption | rfl | (exfalso; omega))
local macro_rules | `(tactic| walk_at "rok") => `(tactic| first | assumption | exact ⟨by omega, by omega⟩)
local macro_rules | `(tactic| walk_at "cmul") => `(tactic| first | exact Or.inl ⟨by decide, by decide⟩ | exact Or.inr ⟨by decide, by decide⟩ | exact Or.inl ⟨by omega, by omega⟩ | exact Or.inr ⟨by omega, by omega⟩)

set_option hygiene false
local macro_rules | `(tactic| walk_at "cs") => `(tactic| with_reducible first | refine ifInt (fun hh => ?_) (fun hh => ?_) | refine ifIntN (fun hh => ?_) (fun hh => ?_) | refine ifDec (fun hh => ?_) (fun hh => ?_) | refine ifDecN (fun hh => ?_) (fun hh => ?_) | (refine' r_ixDi ?h (fun hh => ?_) (fun hh => ?_); (case h => walk_at "sql")) | (refine' r_ixD ?h (fun hh => ?_) (fun hh => ?_); (case h => walk_at "sql")))
local macro_rules | `(tactic| walk_at "tf") => `(tactic| (show Q _ _; refine' q _ _ _ _ ?zs ?znt ?znb ?znp ?ze1 ?ze2 ?ze3 ?zt ?zb ?zp; (case zt => walk_at "hlk"); (case zb => walk_at "hlk"); (case zp => walk_at "hlk"); (case zs => walk_at "same"); (case znt => walk_at "none"); (case znb => walk_at "none"); (case znp => walk_at "none"); (case ze1 => walk_at "ne"); (case ze2 => walk_at "ne"); (case ze3 => walk_at "ne")))

local macro_rules | `(tactic| walk_at "cls") => `(tactic| first | assumption | exact T.cl_Jump | exact T.cl_Branch | exact T.cl_Call | exact T.cl_Less | exact T.cl_Set | exact T.cl_Copy | exact T.cl_Add | exact T.cl_Sub | exact T.cl_Mul | exact T.cl_Drop | exact T.cl_Grow | exact T.cl_Shrink | exact T.cl_Put | exact T.cl_Get | exact T.cl_Back)
local macro_rules | `(tactic| walk_at "noat") => `(tactic| first | assumption | exact T.n_Jump_target | exact T.n_Branch_box | exact T.n_Branch_target | exact T.n_Call_target | exact T.n_Less_box | exact T.n_Less_one | exact T.n_Less_other | exact T.n_Set_box | exact T.n_Set_number | exact T.n_Copy_box | exact T.n_Copy_one | exact T.n_Add_box | exact T.n_Add_one | exact T.n_Add_other | exact T.n_Sub_box | exact T.n_Sub_one | exact T.n_Sub_other | exact T.n_Mul_box | exact T.n_Mul_one | exact T.n_Mul_other | exact T.n_Drop_box | exact T.n_Grow_many | exact T.n_Shrink_many | exact T.n_Put_box | exact T.n_Put_cell | exact T.n_Get_box | exact T.n_Get_cell | exact T.n_Back_box)
local macro_rules | `(tactic| walk_at "kit") => `(tactic| first | assumption | exact T.k_tuple_tuple | exact T.is_Set_Set | exact T.is_Set_Copy | exact T.is_Set_Add | exact T.is_Set_Sub | exact T.is_Set_Mul | exact T.is_Set_Less | exact T.is_Set_Grow | exact T.is_Set_Shrink | exact T.is_Set_Put | exact T.is_Set_Get | exact T.is_Set_Jump | exact T.is_Set_Branch | exact T.is_Set_Call | exact T.is_Set_Back | exact T.is_Set_Drop | exact T.is_Set_Row | exact T.is_Copy_Set | exact T.is_Copy_Copy | exact T.is_Copy_Add | exact T.is_Copy_Sub | exact T.is_Copy_Mul | exact T.is_Copy_Less | exact T.is_Copy_Grow | exact T.is_Copy_Shrink | exact T.is_Copy_Put | exact T.is_Copy_Get | exact T.is_Copy_Jump | exact T.is_Copy_Branch | exact T.is_Copy_Call | exact T.is_Copy_Back | exact T.is_Copy_Drop | exact T.is_Copy_Row | exact T.is_Add_Set | exact T.is_Add_Copy | exact T.is_Add_Add | exact T.is_Add_Sub | exact T.is_Add_Mul | exact T.is_Add_Less | exact T.is_Add_Grow | exact T.is_Add_Shrink | exact T.is_Add_Put | exact T.is_Add_Get | exact T.is_Add_Jump | exact T.is_Add_Branch | exact T.is_Add_Call | exact T.is_Add_Back | exact T.is_Add_Drop | exact T.is_Add_Row | exact T.is_Sub_Set | exact T.is_Sub_Copy | exact T.is_Sub_Add | exact T.is_Sub_Sub | exact T.is_Sub_Mul | exact T.is_Sub_Less | exact T.is_Sub_Grow | exact T.is_Sub_Shrink | exact T.is_Sub_Put | exact T.is_Sub_Get | exact T.is_Sub_Jump | exact T.is_Sub_Branch | exact T.is_Sub_Call | exact T.is_Sub_Back | exact T.is_Sub_Drop | exact T.is_Sub_Row | exact T.is_Mul_Set | exact T.is_Mul_Copy | exact T.is_Mul_Add | exact T.is_Mul_Sub | exact T.is_Mul_Mul | exact T.is_Mul_Less | exact T.is_Mul_Grow | exact T.is_Mul_Shrink | exact T.is_Mul_Put | exact T.is_Mul_Get | exact T.is_Mul_Jump | exact T.is_Mul_Branch | exact T.is_Mul_Call | exact T.is_Mul_Back | exact T.is_Mul_Drop | exact T.is_Mul_Row | exact T.is_Less_Set | exact T.is_Less_Copy | exact T.is_Less_Add | exact T.is_Less_Sub | exact T.is_Less_Mul | exact T.is_Less_Less | exact T.is_Less_Grow | exact T.is_Less_Shrink | exact T.is_Less_Put | exact T.is_Less_Get | exact T.is_Less_Jump | exact T.is_Less_Branch | exact T.is_Less_Call | exact T.is_Less_Back | exact T.is_Less_Drop | exact T.is_Less_Row | exact T.is_Grow_Set | exact T.is_Grow_Copy | exact T.is_Grow_Add | exact T.is_Grow_Sub | exact T.is_Grow_Mul | exact T.is_Grow_Less | exact T.is_Grow_Grow | exact T.is_Grow_Shrink | exact T.is_Grow_Put | exact T.is_Grow_Get | exact T.is_Grow_Jump | exact T.is_Grow_Branch | exact T.is_Grow_Call | exact T.is_Grow_Back | exact T.is_Grow_Drop | exact T.is_Grow_Row | exact T.is_Shrink_Set | exact T.is_Shrink_Copy | exact T.is_Shrink_Add | exact T.is_Shrink_Sub | exact T.is_Shrink_Mul | exact T.is_Shrink_Less | exact T.is_Shrink_Grow | exact T.is_Shrink_Shrink | exact T.is_Shrink_Put | exact T.is_Shrink_Get | exact T.is_Shrink_Jump | exact T.is_Shrink_Branch | exact T.is_Shrink_Call | exact T.is_Shrink_Back | exact T.is_Shrink_Drop | exact T.is_Shrink_Row | exact T.is_Put_Set | exact T.is_Put_Copy | exact T.is_Put_Add | exact T.is_Put_Sub | exact T.is_Put_Mul | exact T.is_Put_Less | exact T.is_Put_Grow | exact T.is_Put_Shrink | exact T.is_Put_Put | exact T.is_Put_Get | exact T.is_Put_Jump | exact T.is_Put_Branch | exact T.is_Put_Call | exact T.is_Put_Back | exact T.is_Put_Drop | exact T.is_Put_Row | exact T.is_Get_Set | exact T.is_Get_Copy | exact T.is_Get_Add | exact T.is_Get_Sub | exact T.is_Get_Mul | exact T.is_Get_Less | exact T.is_Get_Grow | exact T.is_Get_Shrink | exact T.is_Get_Put | exact T.is_Get_Get | exact T.is_Get_Jump | exact T.is_Get_Branch | exact T.is_Get_Call | exact T.is_Get_Back | exact T.is_Get_Drop | exact T.is_Get_Row | exact T.is_Jump_Set | exact T.is_Jump_Copy | exact T.is_Jump_Add | exact T.is_Jump_Sub | exact T.is_Jump_Mul | exact T.is_Jump_Less | exact T.is_Jump_Grow | exact T.is_Jump_Shrink | exact T.is_Jump_Put | exact T.is_Jump_Get | exact T.is_Jump_Jump | exact T.is_Jump_Branch | exact T.is_Jump_Call | exact T.is_Jump_Back | exact T.is_Jump_Drop | exact T.is_Jump_Row | exact T.is_Branch_Set | exact T.is_Branch_Copy | exact T.is_Branch_Add | exact T.is_Branch_Sub | exact T.is_Branch_Mul | exact T.is_Branch_Less | exact T.is_Branch_Grow | exact T.is_Branch_Shrink | exact T.is_Branch_Put | exact T.is_Branch_Get | exact T.is_Branch_Jump | exact T.is_Branch_Branch | exact T.is_Branch_Call | exact T.is_Branch_Back | exact T.is_Branch_Drop | exact T.is_Branch_Row | exact T.is_Call_Set | exact T.is_Call_Copy | exact T.is_Call_Add | exact T.is_Call_Sub | exact T.is_Call_Mul | exact T.is_Call_Less | exact T.is_Call_Grow | exact T.is_Call_Shrink | exact T.is_Call_Put | exact T.is_Call_Get | exact T.is_Call_Jump | exact T.is_Call_Branch | exact T.is_Call_Call | exact T.is_Call_Back | exact T.is_Call_Drop | exact T.is_Call_Row | exact T.is_Back_Set | exact T.is_Back_Copy | exact T.is_Back_Add | exact T.is_Back_Sub | exact T.is_Back_Mul | exact T.is_Back_Less | exact T.is_Back_Grow | exact T.is_Back_Shrink | exact T.is_Back_Put | exact T.is_Back_Get | exact T.is_Back_Jump | exact T.is_Back_Branch | exact T.is_Back_Call | exact T.is_Back_Back | exact T.is_Back_Drop | exact T.is_Back_Row | exact T.is_Drop_Set | exact T.is_Drop_Copy | exact T.is_Drop_Add | exact T.is_Drop_Sub | exact T.is_Drop_Mul | exact T.is_Drop_Less | exact T.is_Drop_Grow | exact T.is_Drop_Shrink | exact T.is_Drop_Put | exact T.is_Drop_Get | exact T.is_Drop_Jump | exact T.is_Drop_Branch | exact T.is_Drop_Call | exact T.is_Drop_Back | exact T.is_Drop_Drop | exact T.is_Drop_Row)
set_option hygiene true
def top (i : Nat) : Stmt := PySem.Challenge.pw_frameback_k08_rows_told_and_laid.main.body.getD i (.Pass ⟨0, 0, 0, 0⟩)
abbrev s_bounded : Stmt := top 10
theorem sc_bounded : FnScope ["number", "top"] ["number", "top"] (defScope s_bounded) := ⟨rfl, rfl, rfl, by decide +kernel, rfl, by decide +kernel, by decide +kernel⟩
abbrev s_Row_laid : Stmt := inClass (top 12) 3
theorem sc_Row_laid : FnScope ["self", "by"] ["self", "by"] (defScope s_Row_laid) := ⟨rfl, rfl, rfl, by decide +kernel, rfl, by decide +kernel, by decide +kernel⟩
abbrev s_Set_init : Stmt := inClass (top 13) 0
theorem sc_Set_init : FnScope ["self", "box", "number"] ["self", "box", "number"] (defScope s_Set_init) := ⟨rfl, rfl, rfl, by decide +kernel, rfl, by decide +kernel, by decide +kernel⟩
abbrev s_Set_told : Stmt := inClass (top 13) 3
theorem sc_Set_told : FnScope ["self"] ["self"] (defScope s_Set_told) := ⟨rfl, rfl, rfl, by decide +kernel, rfl, by decide +kernel, by decide +kernel⟩
abbrev s_Copy_init : Stmt := inClass (top 14) 0
theorem sc_Copy_init : FnScope ["self", "box", "one"] ["self", "box", "one"] (defScope s_Copy_init) := ⟨rfl, rfl, rfl, by decide +kernel, rfl, by decide +kernel, by decide +kernel⟩
abbrev s_Copy_told : Stmt := inClass (top 14) 3
theorem sc_Copy_told : FnScope ["self"] ["self"] (defScope s_Copy_told) := ⟨rfl, rfl, rfl, by decide +kernel, rfl, by decide +kernel, by decide +kernel⟩
abbrev s_Reckoning_init : Stmt := inClass (top 15) 0
theorem sc_Reckoning_init : FnScope ["self", "box", "one", "other"] ["self", "box", "one", "other"] (defScope s_Reckoning_init) := ⟨rfl, rfl, rfl, by decide +kernel, rfl, by decide +kernel, by decide +kernel⟩
abbrev s_Add_told : Stmt := inClass (top 16) 1
theorem sc_Add_told : FnScope ["self"] ["self"] (defScope s_Add_told) := ⟨rfl, rfl, rfl, by decide +kernel, rfl, by decide +kernel, by decide +kernel⟩
abbrev s_Sub_told : Stmt := inClass (top 17) 1
theorem sc_Sub_told : FnScope ["self"] ["self"] (defScope s_Sub_told) := ⟨rfl, rfl, rfl, by decide +kernel, rfl, by decide +kernel, by decide +kernel⟩
abbrev s_Mul_told : Stmt := inClass (top 18) 1
theorem sc_Mul_told : FnScope ["self"] ["self"] (defScope s_Mul_told) := ⟨rfl, rfl, rfl, by decide +kernel, rfl, by decide +kernel, by decide +kernel⟩
abbrev s_Less_told : Stmt := inClass (top 19) 1
theorem sc_Less_told : FnScope ["self"] ["self"] (defScope s_Less_told) := ⟨rfl, rfl, rfl, by decide +kernel, rfl, by decide +kernel, by decide +kernel⟩
abbrev s_Grow_init : Stmt := inClass (top 20) 0
theorem sc_Grow_init : FnScope ["self", "many"] ["self", "many"] (defScope s_Grow_init) := ⟨rfl, rfl, rfl, by decide +kernel, rfl, by decide +kernel, by decide +kernel⟩
abbrev s_Grow_told : Stmt := inClass (top 20) 3
theorem sc_Grow_told : FnScope ["self"] ["self"] (defScope s_Grow_told) := ⟨rfl, rfl, rfl, by decide +kernel, rfl, by decide +kernel, by decide +kernel⟩
abbrev s_Shrink_init : Stmt := inClass (top 21) 0
theorem sc_Shrink_init : FnScope ["self", "many"] ["self", "many"] (defScope s_Shrink_init) := ⟨rfl, rfl, rfl, by decide +kernel, rfl, by decide +kernel, by decide +kernel⟩
abbrev s_Shrink_told : Stmt := inClass (top 21) 4
theorem sc_Shrink_told : FnScope ["self"] ["self"] (defScope s_Shrink_told) := ⟨rfl, rfl, rfl, by decide +kernel, rfl, by decide +kernel, by decide +kernel⟩
abbrev s_Reaching_init : Stmt := inClass (top 22) 0
theorem sc_Reaching_init : FnScope ["self", "box", "cell"] ["self", "box", "cell"] (defScope s_Reaching_init) := ⟨rfl, rfl, rfl, by decide +kernel, rfl, by decide +kernel, by decide +kernel⟩
abbrev s_Put_told : Stmt := inClass (top 23) 2
theorem sc_Put_told : FnScope ["self"] ["self"] (defScope s_Put_told) := ⟨rfl, rfl, rfl, by decide +kernel, rfl, by decide +kernel, by decide +kernel⟩
abbrev s_Get_told : Stmt := inClass (top 24) 2
theorem sc_Get_told : FnScope ["self"] ["self"] (defScope s_Get_told) := ⟨rfl, rfl, rfl, by decide +kernel, rfl, by decide +kernel, by decide +kernel⟩
abbrev s_Jump_init : Stmt := inClass (top 26) 0
theorem sc_Jump_init : FnScope ["self", "target"] ["self", "target"] (defScope s_Jump_init) := ⟨rfl, rfl, rfl, by decide +kernel, rfl, by decide +kernel, by decide +kernel⟩
abbrev s_Jump_told : Stmt := inClass (top 26) 3
theorem sc_Jump_told : FnScope ["self"] ["self"] (defScope s_Jump_told) := ⟨rfl, rfl, rfl, by decide +kernel, rfl, by decide +kernel, by decide +kernel⟩
abbrev s_Jump_laid : Stmt := inClass (top 26) 4
theorem sc_Jump_laid : FnScope ["self", "by"] ["self", "by"] (defScope s_Jump_laid) := ⟨rfl, rfl, rfl, by decide +kernel, rfl, by decide +kernel, by decide +kernel⟩
abbrev s_Branch_init : Stmt := inClass (top 27) 0
theorem sc_Branch_init : FnScope ["self", "box", "target"] ["self", "box", "target"] (defScope s_Branch_init) := ⟨rfl, rfl, rfl, by decide +kernel, rfl, by decide +kernel, by decide +kernel⟩
abbrev s_Branch_told : Stmt := inClass (top 27) 3
theorem sc_Branch_told : FnScope ["self"] ["self"] (defScope s_Branch_told) := ⟨rfl, rfl, rfl, by decide +kernel, rfl, by decide +kernel, by decide +kernel⟩
abbrev s_Branch_laid : Stmt := inClass (top 27) 4
theorem sc_Branch_laid : FnScope ["self", "by"] ["self", "by"] (defScope s_Branch_laid) := ⟨rfl, rfl, rfl, by decide +kernel, rfl, by decide +kernel, by decide +kernel⟩
abbrev s_Call_init : Stmt := inClass (top 28) 0
theorem sc_Call_init : FnScope ["self", "target"] ["self", "target"] (defScope s_Call_init) := ⟨rfl, rfl, rfl, by decide +kernel, rfl, by decide +kernel, by decide +kernel⟩
abbrev s_Call_told : Stmt := inClass (top 28) 3
theorem sc_Call_told : FnScope ["self"] ["self"] (defScope s_Call_told) := ⟨rfl, rfl, rfl, by decide +kernel, rfl, by decide +kernel, by decide +kernel⟩
abbrev s_Call_laid : Stmt := inClass (top 28) 4
theorem sc_Call_laid : FnScope ["self", "by"] ["self", "by"] (defScope s_Call_laid) := ⟨rfl, rfl, rfl, by decide +kernel, rfl, by decide +kernel, by decide +kernel⟩
abbrev s_Back_init : Stmt := inClass (top 29) 0
theorem sc_Back_init : FnScope ["self", "box"] ["self", "box"] (defScope s_Back_init) := ⟨rfl, rfl, rfl, by decide +kernel, rfl, by decide +kernel, by decide +kernel⟩
abbrev s_Back_told : Stmt := inClass (top 29) 3
theorem sc_Back_told : FnScope ["self"] ["self"] (defScope s_Back_told) := ⟨rfl, rfl, rfl, by decide +kernel, rfl, by decide +kernel, by decide +kernel⟩
abbrev s_Drop_init : Stmt := inClass (top 30) 0
theorem sc_Drop_init : FnScope ["self", "box"] ["self", "box"] (defScope s_Drop_init) := ⟨rfl, rfl, rfl, by decide +kernel, rfl, by decide +kernel, by decide +kernel⟩
abbrev s_Drop_told : Stmt := inClass (top 30) 3
theorem sc_Drop_told : FnScope ["self"] ["self"] (defScope s_Drop_told) := ⟨rfl, rfl, rfl, by decide +kernel, rfl, by decide +kernel, by decide +kernel⟩
abbrev s_law_cell_at : Stmt := top 32
theorem sc_law_cell_at : FnScope ["_law_script", "_law_k"] ["_law_script", "_law_k"] (defScope s_law_cell_at) := ⟨rfl, rfl, rfl, by decide +kernel, rfl, by decide +kernel, by decide +kernel⟩
abbrev s_law_filling : Stmt := top 33
theorem sc_law_filling : FnScope ["_law_kind", "_law_some", "_law_box", "_law_one", "_law_other"] ["_law_kind", "_law_some"] (defScope s_law_filling) := ⟨rfl, rfl, rfl, by decide +kernel, rfl, by decide +kernel, by decide +kernel⟩
abbrev s_law_plain : Stmt := top 34
theorem sc_law_plain : FnScope ["_law_kind", "_law_some", "_law_box", "_law_many"] ["_law_kind", "_law_some"] (defScope s_law_plain) := ⟨rfl, rfl, rfl, by decide +kernel, rfl, by decide +kernel, by decide +kernel⟩
abbrev s_law_aimed : Stmt := top 35
theorem sc_law_aimed : FnScope ["_law_kind", "_law_box", "_law_target"] ["_law_kind", "_law_box", "_law_target"] (defScope s_law_aimed) := ⟨rfl, rfl, rfl, by decide +kernel, rfl, by decide +kernel, by decide +kernel⟩
abbrev s_law_one_kind : Stmt := top 36
theorem sc_law_one_kind : FnScope ["_law_row", "_law_word", "_law_kinds", "_law_words"] ["_law_row", "_law_word"] (defScope s_law_one_kind) := ⟨rfl, rfl, rfl, by decide +kernel, rfl, by decide +kernel, by decide +kernel⟩
abbrev s_law_laid : Stmt := top 37
theorem sc_law_laid : FnScope ["_law_row", "_law_by_here", "_law_found", "_law_plain_here", "e"] ["_law_row", "_law_by_here"] (defScope s_law_laid) := ⟨rfl, rfl, rfl, by decide +kernel, rfl, by decide +kernel, by decide +kernel⟩
abbrev s_law_by : Stmt := top 38
theorem sc_law_by : FnScope ["_law_cell", "_law_target", "_law_far"] ["_law_cell", "_law_target"] (defScope s_law_by) := ⟨rfl, rfl, rfl, by decide +kernel, rfl, by decide +kernel, by decide +kernel⟩
abbrev s_law : Stmt := top 39
theorem sc_law : FnScope ["_law_script", "_law_cell", "_law_some", "_law_target", "_law_row", "_law_told", "_law_due", "_law_by_here", "_law_found", "_law_plain_here"] ["_law_script"] (defScope s_law) := ⟨rfl, rfl, rfl, by decide +kernel, rfl, by decide +kernel, by decide +kernel⟩
structure Txt (K : PySem.W.Frag) (mg : Str → Option Value) (a : Adr) : Prop where
  z_isinstance : mg "isinstance" = none
  z_len : mg "len" = none
  z_range : mg "range" = none
  z_tuple : mg "tuple" = none
  g_TOP_BOX : ∃ t, mg "TOP_BOX" = some (Value.int 7 t)
  g_TOP_CELLS : ∃ t, mg "TOP_CELLS" = some (Value.int 4000 t)
  g_TOP_TARGET : ∃ t, mg "TOP_TARGET" = some (Value.int 2000 t)
  g_TOP_VALUE : ∃ t, mg "TOP_VALUE" = some (Value.int 4294967295 t)
  c_Add : mg "Add" = some (.ref a.C_Add)
  c_Back : mg "Back" = some (.ref a.C_Back)
  c_Branch : mg "Branch" = some (.ref a.C_Branch)
  c_Call : mg "Call" = some (.ref a.C_Call)
  c_Copy : mg "Copy" = some (.ref a.C_Copy)
  c_Drop : mg "Drop" = some (.ref a.C_Drop)
  c_FrameError : mg "FrameError" = some (.ref a.C_FrameError)
  c_Get : mg "Get" = some (.ref a.C_Get)
  c_Grow : mg "Grow" = some (.ref a.C_Grow)
  c_Jump : mg "Jump" = some (.ref a.C_Jump)
  c_Less : mg "Less" = some (.ref a.C_Less)
  c_Mul : mg "Mul" = some (.ref a.C_Mul)
  c_NoRow : mg "NoRow" = some (.ref a.C_NoRow)
  c_NoTable : mg "NoTable" = some (.ref a.C_NoTable)
  c_Put : mg "Put" = some (.ref a.C_Put)
  c_Row : mg "Row" = some (.ref a.C_Row)
  c_Set : mg "Set" = some (.ref a.C_Set)
  c_Shrink : mg "Shrink" = some (.ref a.C_Shrink)
  c_Sub : mg "Sub" = some (.ref a.C_Sub)
  cl_Jump : Cls K a.C_Jump
  n_Jump_target : NoAttr K a.C_Jump "target"
  i_Jump : ∃ f fd, Fun K "__init__" "Jump.__init__" s_Jump_init f fd ∧ Mk K a.C_Jump f ∧ Binds K fd ["self", "target"] []
  m_Jump_laid : ∃ f fd, Fun K "laid" "Jump.laid" s_Jump_laid f fd ∧ Meth K a.C_Jump "laid" f ∧ Binds K fd ["self", "by"] []
  m_Jump_told : ∃ f fd, Fun K "told" "Jump.told" s_Jump_told f fd ∧ Meth K a.C_Jump "told" f ∧ Binds K fd ["self"] []
  cl_Branch : Cls K a.C_Branch
  n_Branch_box : NoAttr K a.C_Branch "box"
  n_Branch_target : NoAttr K a.C_Branch "target"
  i_Branch : ∃ f fd, Fun K "__init__" "Branch.__init__" s_Branch_init f fd ∧ Mk K a.C_Branch f ∧ Binds K fd ["self", "box", "target"] []
  m_Branch_laid : ∃ f fd, Fun K "laid" "Branch.laid" s_Branch_laid f fd ∧ Meth K a.C_Branch "laid" f ∧ Binds K fd ["self", "by"] []
  m_Branch_told : ∃ f fd, Fun K "told" "Branch.told" s_Branch_told f fd ∧ Meth K a.C_Branch "told" f ∧ Binds K fd ["self"] []
  cl_Call : Cls K a.C_Call
  n_Call_target : NoAttr K a.C_Call "target"
  i_Call : ∃ f fd, Fun K "__init__" "Call.__init__" s_Call_init f fd ∧ Mk K a.C_Call f ∧ Binds K fd ["self", "target"] []
  m_Call_laid : ∃ f fd, Fun K "laid" "Call.laid" s_Call_laid f fd ∧ Meth K a.C_Call "laid" f ∧ Binds K fd ["self", "by"] []
  m_Call_told : ∃ f fd, Fun K "told" "Call.told" s_Call_told f fd ∧ Meth K a.C_Call "told" f ∧ Binds K fd ["self"] []
  cl_Less : Cls K a.C_Less
  n_Less_box : NoAttr K a.C_Less "box"
  n_Less_one : NoAttr K a.C_Less "one"
  n_Less_other : NoAttr K a.C_Less "other"
  i_Less : ∃ f fd, Fun K "__init__" "Reckoning.__init__" s_Reckoning_init f fd ∧ Mk K a.C_Less f ∧ Binds K fd ["self", "box", "one", "other"] []
  m_Less_laid : ∃ f fd, Fun K "laid" "Row.laid" s_Row_laid f fd ∧ Meth K a.C_Less "laid" f ∧ Binds K fd ["self", "by"] []
  m_Less_told : ∃ f fd, Fun K "told" "Less.told" s_Less_told f fd ∧ Meth K a.C_Less "told" f ∧ Binds K fd ["self"] []
  cl_Set : Cls K a.C_Set
  n_Set_box : NoAttr K a.C_Set "box"
  n_Set_number : NoAttr K a.C_Set "number"
  i_Set : ∃ f fd, Fun K "__init__" "Set.__init__" s_Set_init f fd ∧ Mk K a.C_Set f ∧ Binds K fd ["self", "box", "number"] []
  m_Set_laid : ∃ f fd, Fun K "laid" "Row.laid" s_Row_laid f fd ∧ Meth K a.C_Set "laid" f ∧ Binds K fd ["self", "by"] []
  m_Set_told : ∃ f fd, Fun K "told" "Set.told" s_Set_told f fd ∧ Meth K a.C_Set "told" f ∧ Binds K fd ["self"] []
  cl_Copy : Cls K a.C_Copy
  n_Copy_box : NoAttr K a.C_Copy "box"
  n_Copy_one : NoAttr K a.C_Copy "one"
  i_Copy : ∃ f fd, Fun K "__init__" "Copy.__init__" s_Copy_init f fd ∧ Mk K a.C_Copy f ∧ Binds K fd ["self", "box", "one"] []
  m_Copy_laid : ∃ f fd, Fun K "laid" "Row.laid" s_Row_laid f fd ∧ Meth K a.C_Copy "laid" f ∧ Binds K fd ["self", "by"] []
  m_Copy_told : ∃ f fd, Fun K "told" "Copy.told" s_Copy_told f fd ∧ Meth K a.C_Copy "told" f ∧ Binds K fd ["self"] []
  cl_Add : Cls K a.C_Add
  n_Add_box : NoAttr K a.C_Add "box"
  n_Add_one : NoAttr K a.C_Add "one"
  n_Add_other : NoAttr K a.C_Add "other"
  i_Add : ∃ f fd, Fun K "__init__" "Reckoning.__init__" s_Reckoning_init f fd ∧ Mk K a.C_Add f ∧ Binds K fd ["self", "box", "one", "other"] []
  m_Add_laid : ∃ f fd, Fun K "laid" "Row.laid" s_Row_laid f fd ∧ Meth K a.C_Add "laid" f ∧ Binds K fd ["self", "by"] []
  m_Add_told : ∃ f fd, Fun K "told" "Add.told" s_Add_told f fd ∧ Meth K a.C_Add "told" f ∧ Binds K fd ["self"] []
  cl_Sub : Cls K a.C_Sub
  n_Sub_box : NoAttr K a.C_Sub "box"
  n_Sub_one : NoAttr K a.C_Sub "one"
  n_Sub_other : NoAttr K a.C_Sub "other"
  i_Sub : ∃ f fd, Fun K "__init__" "Reckoning.__init__" s_Reckoning_init f fd ∧ Mk K a.C_Sub f ∧ Binds K fd ["self", "box", "one", "other"] []
  m_Sub_laid : ∃ f fd, Fun K "laid" "Row.laid" s_Row_laid f fd ∧ Meth K a.C_Sub "laid" f ∧ Binds K fd ["self", "by"] []
  m_Sub_told : ∃ f fd, Fun K "told" "Sub.told" s_Sub_told f fd ∧ Meth K a.C_Sub "told" f ∧ Binds K fd ["self"] []
  cl_Mul : Cls K a.C_Mul
  n_Mul_box : NoAttr K a.C_Mul "box"
  n_Mul_one : NoAttr K a.C_Mul "one"
  n_Mul_other : NoAttr K a.C_Mul "other"
  i_Mul : ∃ f fd, Fun K "__init__" "Reckoning.__init__" s_Reckoning_init f fd ∧ Mk K a.C_Mul f ∧ Binds K fd ["self", "box", "one", "other"] []
  m_Mul_laid : ∃ f fd, Fun K "laid" "Row.laid" s_Row_laid f fd ∧ Meth K a.C_Mul "laid" f ∧ Binds K fd ["self", "by"] []
  m_Mul_told : ∃ f fd, Fun K "told" "Mul.told" s_Mul_told f fd ∧ Meth K a.C_Mul "told" f ∧ Binds K fd ["self"] []
  cl_Drop : Cls K a.C_Drop
  n_Drop_box : NoAttr K a.C_Drop "box"
  i_Drop : ∃ f fd, Fun K "__init__" "Drop.__init__" s_Drop_init f fd ∧ Mk K a.C_Drop f ∧ Binds K fd ["self", "box"] []
  m_Drop_laid : ∃ f fd, Fun K "laid" "Row.laid" s_Row_laid f fd ∧ Meth K a.C_Drop "laid" f ∧ Binds K fd ["self", "by"] []
  m_Drop_told : ∃ f fd, Fun K "told" "Drop.told" s_Drop_told f fd ∧ Meth K a.C_Drop "told" f ∧ Binds K fd ["self"] []
  cl_Grow : Cls K a.C_Grow
  n_Grow_many : NoAttr K a.C_Grow "many"
  i_Grow : ∃ f fd, Fun K "__init__" "Grow.__init__" s_Grow_init f fd ∧ Mk K a.C_Grow f ∧ Binds K fd ["self", "many"] []
  m_Grow_laid : ∃ f fd, Fun K "laid" "Row.laid" s_Row_laid f fd ∧ Meth K a.C_Grow "laid" f ∧ Binds K fd ["self", "by"] []
  m_Grow_told : ∃ f fd, Fun K "told" "Grow.told" s_Grow_told f fd ∧ Meth K a.C_Grow "told" f ∧ Binds K fd ["self"] []
  cl_Shrink : Cls K a.C_Shrink
  n_Shrink_many : NoAttr K a.C_Shrink "many"
  i_Shrink : ∃ f fd, Fun K "__init__" "Shrink.__init__" s_Shrink_init f fd ∧ Mk K a.C_Shrink f ∧ Binds K fd ["self", "many"] []
  m_Shrink_laid : ∃ f fd, Fun K "laid" "Row.laid" s_Row_laid f fd ∧ Meth K a.C_Shrink "laid" f ∧ Binds K fd ["self", "by"] []
  m_Shrink_told : ∃ f fd, Fun K "told" "Shrink.told" s_Shrink_told f fd ∧ Meth K a.C_Shrink "told" f ∧ Binds K fd ["self"] []
  cl_Put : Cls K a.C_Put
  n_Put_box : NoAttr K a.C_Put "box"
  n_Put_cell : NoAttr K a.C_Put "cell"
  i_Put : ∃ f fd, Fun K "__init__" "Reaching.__init__" s_Reaching_init f fd ∧ Mk K a.C_Put f ∧ Binds K fd ["self", "box", "cell"] []
  m_Put_laid : ∃ f fd, Fun K "laid" "Row.laid" s_Row_laid f fd ∧ Meth K a.C_Put "laid" f ∧ Binds K fd ["self", "by"] []
  m_Put_told : ∃ f fd, Fun K "told" "Put.told" s_Put_told f fd ∧ Meth K a.C_Put "told" f ∧ Binds K fd ["self"] []
  cl_Get : Cls K a.C_Get
  n_Get_box : NoAttr K a.C_Get "box"
  n_Get_cell : NoAttr K a.C_Get "cell"
  i_Get : ∃ f fd, Fun K "__init__" "Reaching.__init__" s_Reaching_init f fd ∧ Mk K a.C_Get f ∧ Binds K fd ["self", "box", "cell"] []
  m_Get_laid : ∃ f fd, Fun K "laid" "Row.laid" s_Row_laid f fd ∧ Meth K a.C_Get "laid" f ∧ Binds K fd ["self", "by"] []
  m_Get_told : ∃ f fd, Fun K "told" "Get.told" s_Get_told f fd ∧ Meth K a.C_Get "told" f ∧ Binds K fd ["self"] []
  cl_Back : Cls K a.C_Back
  n_Back_box : NoAttr K a.C_Back "box"
  i_Back : ∃ f fd, Fun K "__init__" "Back.__init__" s_Back_init f fd ∧ Mk K a.C_Back f ∧ Binds K fd ["self", "box"] []
  m_Back_laid : ∃ f fd, Fun K "laid" "Row.laid" s_Row_laid f fd ∧ Meth K a.C_Back "laid" f ∧ Binds K fd ["self", "by"] []
  m_Back_told : ∃ f fd, Fun K "told" "Back.told" s_Back_told f fd ∧ Meth K a.C_Back "told" f ∧ Binds K fd ["self"] []
  ty_Set : PySem.W.findIn K (.ref a.C_Set) "__class__" = some (some (.builtin "object.__class__")) ∧ PySem.W.mroIn K a.C_Set (.type "object") = some true
  is_Set_Set : PySem.W.kitOne K (.ref a.C_Set) (.ref a.C_Set) = some true
  is_Set_Copy : PySem.W.kitOne K (.ref a.C_Set) (.ref a.C_Copy) = some false
  is_Set_Add : PySem.W.kitOne K (.ref a.C_Set) (.ref a.C_Add) = some false
  is_Set_Sub : PySem.W.kitOne K (.ref a.C_Set) (.ref a.C_Sub) = some false
  is_Set_Mul : PySem.W.kitOne K (.ref a.C_Set) (.ref a.C_Mul) = some false
  is_Set_Less : PySem.W.kitOne K (.ref a.C_Set) (.ref a.C_Less) = some false
  is_Set_Grow : PySem.W.kitOne K (.ref a.C_Set) (.ref a.C_Grow) = some false
  is_Set_Shrink : PySem.W.kitOne K (.ref a.C_Set) (.ref a.C_Shrink) = some false
  is_Set_Put : PySem.W.kitOne K (.ref a.C_Set) (.ref a.C_Put) = some false
  is_Set_Get : PySem.W.kitOne K (.ref a.C_Set) (.ref a.C_Get) = some false
  is_Set_Jump : PySem.W.kitOne K (.ref a.C_Set) (.ref a.C_Jump) = some false
  is_Set_Branch : PySem.W.kitOne K (.ref a.C_Set) (.ref a.C_Branch) = some false
  is_Set_Call : PySem.W.kitOne K (.ref a.C_Set) (.ref a.C_Call) = some false
  is_Set_Back : PySem.W.kitOne K (.ref a.C_Set) (.ref a.C_Back) = some false
  is_Set_Drop : PySem.W.kitOne K (.ref a.C_Set) (.ref a.C_Drop) = some false
  is_Set_Row : PySem.W.kitOne K (.ref a.C_Set) (.ref a.C_Row) = some true
  ty_Copy : PySem.W.findIn K (.ref a.C_Copy) "__class__" = some (some (.builtin "object.__class__")) ∧ PySem.W.mroIn K a.C_Copy (.type "object") = some true
  is_Copy_Set : PySem.W.kitOne K (.ref a.C_Copy) (.ref a.C_Set) = some false
  is_Copy_Copy : PySem.W.kitOne K (.ref a.C_Copy) (.ref a.C_Copy) = some true
  is_Copy_Add : PySem.W.kitOne K (.ref a.C_Copy) (.ref a.C_Add) = some false
  is_Copy_Sub : PySem.W.kitOne K (.ref a.C_Copy) (.ref a.C_Sub) = some false
  is_Copy_Mul : PySem.W.kitOne K (.ref a.C_Copy) (.ref a.C_Mul) = some false
  is_Copy_Less : PySem.W.kitOne K (.ref a.C_Copy) (.ref a.C_Less) = some false
  is_Copy_Grow : PySem.W.kitOne K (.ref a.C_Copy) (.ref a.C_Grow) = some false
  is_Copy_Shrink : PySem.W.kitOne K (.ref a.C_Copy) (.ref a.C_Shrink) = some false
  is_Copy_Put : PySem.W.kitOne K (.ref a.C_Copy) (.ref a.C_Put) = some false
  is_Copy_Get : PySem.W.kitOne K (.ref a.C_Copy) (.ref a.C_Get) = some false
  is_Copy_Jump : PySem.W.kitOne K (.ref a.C_Copy) (.ref a.C_Jump) = some false
  is_Copy_Branch : PySem.W.kitOne K (.ref a.C_Copy) (.ref a.C_Branch) = some false
  is_Copy_Call : PySem.W.kitOne K (.ref a.C_Copy) (.ref a.C_Call) = some false
  is_Copy_Back : PySem.W.kitOne K (.ref a.C_Copy) (.ref a.C_Back) = some false
  is_Copy_Drop : PySem.W.kitOne K (.ref a.C_Copy) (.ref a.C_Drop) = some false
  is_Copy_Row : PySem.W.kitOne K (.ref a.C_Copy) (.ref a.C_Row) = some true
  ty_Add : PySem.W.findIn K (.ref a.C_Add) "__class__" = some (some (.builtin "object.__class__")) ∧ PySem.W.mroIn K a.C_Add (.type "object") = some true
  is_Add_Set : PySem.W.kitOne K (.ref a.C_Add) (.ref a.C_Set) = some false
  is_Add_Copy : PySem.W.kitOne K (.ref a.C_Add) (.ref a.C_Copy) = some false
  is_Add_Add : PySem.W.kitOne K (.ref a.C_Add) (.ref a.C_Add) = some true
  is_Add_Sub : PySem.W.kitOne K (.ref a.C_Add) (.ref a.C_Sub) = some false
  is_Add_Mul : PySem.W.kitOne K (.ref a.C_Add) (.ref a.C_Mul) = some false
  is_Add_Less : PySem.W.kitOne K (.ref a.C_Add) (.ref a.C_Less) = some false
  is_Add_Grow : PySem.W.kitOne K (.ref a.C_Add) (.ref a.C_Grow) = some false
  is_Add_Shrink : PySem.W.kitOne K (.ref a.C_Add) (.ref a.C_Shrink) = some false
  is_Add_Put : PySem.W.kitOne K (.ref a.C_Add) (.ref a.C_Put) = some false
  is_Add_Get : PySem.W.kitOne K (.ref a.C_Add) (.ref a.C_Get) = some false
  is_Add_Jump : PySem.W.kitOne K (.ref a.C_Add) (.ref a.C_Jump) = some false
  is_Add_Branch : PySem.W.kitOne K (.ref a.C_Add) (.ref a.C_Branch) = some false
  is_Add_Call : PySem.W.kitOne K (.ref a.C_Add) (.ref a.C_Call) = some false
  is_Add_Back : PySem.W.kitOne K (.ref a.C_Add) (.ref a.C_Back) = some false
  is_Add_Drop : PySem.W.kitOne K (.ref a.C_Add) (.ref a.C_Drop) = some false
  is_Add_Row : PySem.W.kitOne K (.ref a.C_Add) (.ref a.C_Row) = some true
  ty_Sub : PySem.W.findIn K (.ref a.C_Sub) "__class__" = some (some (.builtin "object.__class__")) ∧ PySem.W.mroIn K a.C_Sub (.type "object") = some true
  is_Sub_Set : PySem.W.kitOne K (.ref a.C_Sub) (.ref a.C_Set) = some false
  is_Sub_Copy : PySem.W.kitOne K (.ref a.C_Sub) (.ref a.C_Copy) = some false
  is_Sub_Add : PySem.W.kitOne K (.ref a.C_Sub) (.ref a.C_Add) = some false
  is_Sub_Sub : PySem.W.kitOne K (.ref a.C_Sub) (.ref a.C_Sub) = some true
  is_Sub_Mul : PySem.W.kitOne K (.ref a.C_Sub) (.ref a.C_Mul) = some false
  is_Sub_Less : PySem.W.kitOne K (.ref a.C_Sub) (.ref a.C_Less) = some false
  is_Sub_Grow : PySem.W.kitOne K (.ref a.C_Sub) (.ref a.C_Grow) = some false
  is_Sub_Shrink : PySem.W.kitOne K (.ref a.C_Sub) (.ref a.C_Shrink) = some false
  is_Sub_Put : PySem.W.kitOne K (.ref a.C_Sub) (.ref a.C_Put) = some false
  is_Sub_Get : PySem.W.kitOne K (.ref a.C_Sub) (.ref a.C_Get) = some false
  is_Sub_Jump : PySem.W.kitOne K (.ref a.C_Sub) (.ref a.C_Jump) = some false
  is_Sub_Branch : PySem.W.kitOne K (.ref a.C_Sub) (.ref a.C_Branch) = some false
  is_Sub_Call : PySem.W.kitOne K (.ref a.C_Sub) (.ref a.C_Call) = some false
  is_Sub_Back : PySem.W.kitOne K (.ref a.C_Sub) (.ref a.C_Back) = some false
  is_Sub_Drop : PySem.W.kitOne K (.ref a.C_Sub) (.ref a.C_Drop) = some false
  is_Sub_Row : PySem.W.kitOne K (.ref a.C_Sub) (.ref a.C_Row) = some true
  ty_Mul : PySem.W.findIn K (.ref a.C_Mul) "__class__" = some (some (.builtin "object.__class__")) ∧ PySem.W.mroIn K a.C_Mul (.type "object") = some true
  is_Mul_Set : PySem.W.kitOne K (.ref a.C_Mul) (.ref a.C_Set) = some false
  is_Mul_Copy : PySem.W.kitOne K (.ref a.C_Mul) (.ref a.C_Copy) = some false
  is_Mul_Add : PySem.W.kitOne K (.ref a.C_Mul) (.ref a.C_Add) = some false
  is_Mul_Sub : PySem.W.kitOne K (.ref a.C_Mul) (.ref a.C_Sub) = some false
  is_Mul_Mul : PySem.W.kitOne K (.ref a.C_Mul) (.ref a.C_Mul) = some true
  is_Mul_Less : PySem.W.kitOne K (.ref a.C_Mul) (.ref a.C_Less) = some false
  is_Mul_Grow : PySem.W.kitOne K (.ref a.C_Mul) (.ref a.C_Grow) = some false
  is_Mul_Shrink : PySem.W.kitOne K (.ref a.C_Mul) (.ref a.C_Shrink) = some false
  is_Mul_Put : PySem.W.kitOne K (.ref a.C_Mul) (.ref a.C_Put) = some false
  is_Mul_Get : PySem.W.kitOne K (.ref a.C_Mul) (.ref a.C_Get) = some false
  is_Mul_Jump : PySem.W.kitOne K (.ref a.C_Mul) (.ref a.C_Jump) = some false
  is_Mul_Branch : PySem.W.kitOne K (.ref a.C_Mul) (.ref a.C_Branch) = some false
  is_Mul_Call : PySem.W.kitOne K (.ref a.C_Mul) (.ref a.C_Call) = some false
  is_Mul_Back : PySem.W.kitOne K (.ref a.C_Mul) (.ref a.C_Back) = some false
  is_Mul_Drop : PySem.W.kitOne K (.ref a.C_Mul) (.ref a.C_Drop) = some false
  is_Mul_Row : PySem.W.kitOne K (.ref a.C_Mul) (.ref a.C_Row) = some true
  ty_Less : PySem.W.findIn K (.ref a.C_Less) "__class__" = some (some (.builtin "object.__class__")) ∧ PySem.W.mroIn K a.C_Less (.type "object") = some true
  is_Less_Set : PySem.W.kitOne K (.ref a.C_Less) (.ref a.C_Set) = some false
  is_Less_Copy : PySem.W.kitOne K (.ref a.C_Less) (.ref a.C_Copy) = some false
  is_Less_Add : PySem.W.kitOne K (.ref a.C_Less) (.ref a.C_Add) = some false
  is_Less_Sub : PySem.W.kitOne K (.ref a.C_Less) (.ref a.C_Sub) = some false
  is_Less_Mul : PySem.W.kitOne K (.ref a.C_Less) (.ref a.C_Mul) = some false
  is_Less_Less : PySem.W.kitOne K (.ref a.C_Less) (.ref a.C_Less) = some true
  is_Less_Grow : PySem.W.kitOne K (.ref a.C_Less) (.ref a.C_Grow) = some false
  is_Less_Shrink : PySem.W.kitOne K (.ref a.C_Less) (.ref a.C_Shrink) = some false
  is_Less_Put : PySem.W.kitOne K (.ref a.C_Less) (.ref a.C_Put) = some false
  is_Less_Get : PySem.W.kitOne K (.ref a.C_Less) (.ref a.C_Get) = some false
  is_Less_Jump : PySem.W.kitOne K (.ref a.C_Less) (.ref a.C_Jump) = some false
  is_Less_Branch : PySem.W.kitOne K (.ref a.C_Less) (.ref a.C_Branch) = some false
  is_Less_Call : PySem.W.kitOne K (.ref a.C_Less) (.ref a.C_Call) = some false
  is_Less_Back : PySem.W.kitOne K (.ref a.C_Less) (.ref a.C_Back) = some false
  is_Less_Drop : PySem.W.kitOne K (.ref a.C_Less) (.ref a.C_Drop) = some false
  is_Less_Row : PySem.W.kitOne K (.ref a.C_Less) (.ref a.C_Row) = some true
  ty_Grow : PySem.W.findIn K (.ref a.C_Grow) "__class__" = some (some (.builtin "object.__class__")) ∧ PySem.W.mroIn K a.C_Grow (.type "object") = some true
  is_Grow_Set : PySem.W.kitOne K (.ref a.C_Grow) (.ref a.C_Set) = some false
  is_Grow_Copy : PySem.W.kitOne K (.ref a.C_Grow) (.ref a.C_Copy) = some false
  is_Grow_Add : PySem.W.kitOne K (.ref a.C_Grow) (.ref a.C_Add) = some false
  is_Grow_Sub : PySem.W.kitOne K (.ref a.C_Grow) (.ref a.C_Sub) = some false
  is_Grow_Mul : PySem.W.kitOne K (.ref a.C_Grow) (.ref a.C_Mul) = some false
  is_Grow_Less : PySem.W.kitOne K (.ref a.C_Grow) (.ref a.C_Less) = some false
  is_Grow_Grow : PySem.W.kitOne K (.ref a.C_Grow) (.ref a.C_Grow) = some true
  is_Grow_Shrink : PySem.W.kitOne K (.ref a.C_Grow) (.ref a.C_Shrink) = some false
  is_Grow_Put : PySem.W.kitOne K (.ref a.C_Grow) (.ref a.C_Put) = some false
  is_Grow_Get : PySem.W.kitOne K (.ref a.C_Grow) (.ref a.C_Get) = some false
  is_Grow_Jump : PySem.W.kitOne K (.ref a.C_Grow) (.ref a.C_Jump) = some false
  is_Grow_Branch : PySem.W.kitOne K (.ref a.C_Grow) (.ref a.C_Branch) = some false
  is_Grow_Call : PySem.W.kitOne K (.ref a.C_Grow) (.ref a.C_Call) = some false
  is_Grow_Back : PySem.W.kitOne K (.ref a.C_Grow) (.ref a.C_Back) = some false
  is_Grow_Drop : PySem.W.kitOne K (.ref a.C_Grow) (.ref a.C_Drop) = some false
  is_Grow_Row : PySem.W.kitOne K (.ref a.C_Grow) (.ref a.C_Row) = some true
  ty_Shrink : PySem.W.findIn K (.ref a.C_Shrink) "__class__" = some (some (.builtin "object.__class__")) ∧ PySem.W.mroIn K a.C_Shrink (.type "object") = some true
  is_Shrink_Set : PySem.W.kitOne K (.ref a.C_Shrink) (.ref a.C_Set) = some false
  is_Shrink_Copy : PySem.W.kitOne K (.ref a.C_Shrink) (.ref a.C_Copy) = some false
  is_Shrink_Add : PySem.W.kitOne K (.ref a.C_Shrink) (.ref a.C_Add) = some false
  is_Shrink_Sub : PySem.W.kitOne K (.ref a.C_Shrink) (.ref a.C_Sub) = some false
  is_Shrink_Mul : PySem.W.kitOne K (.ref a.C_Shrink) (.ref a.C_Mul) = some false
  is_Shrink_Less : PySem.W.kitOne K (.ref a.C_Shrink) (.ref a.C_Less) = some false
  is_Shrink_Grow : PySem.W.kitOne K (.ref a.C_Shrink) (.ref a.C_Grow) = some false
  is_Shrink_Shrink : PySem.W.kitOne K (.ref a.C_Shrink) (.ref a.C_Shrink) = some true
  is_Shrink_Put : PySem.W.kitOne K (.ref a.C_Shrink) (.ref a.C_Put) = some false
  is_Shrink_Get : PySem.W.kitOne K (.ref a.C_Shrink) (.ref a.C_Get) = some false
  is_Shrink_Jump : PySem.W.kitOne K (.ref a.C_Shrink) (.ref a.C_Jump) = some false
  is_Shrink_Branch : PySem.W.kitOne K (.ref a.C_Shrink) (.ref a.C_Branch) = some false
  is_Shrink_Call : PySem.W.kitOne K (.ref a.C_Shrink) (.ref a.C_Call) = some false
  is_Shrink_Back : PySem.W.kitOne K (.ref a.C_Shrink) (.ref a.C_Back) = some false
  is_Shrink_Drop : PySem.W.kitOne K (.ref a.C_Shrink) (.ref a.C_Drop) = some false
  is_Shrink_Row : PySem.W.kitOne K (.ref a.C_Shrink) (.ref a.C_Row) = some true
  ty_Put : PySem.W.findIn K (.ref a.C_Put) "__class__" = some (some (.builtin "object.__class__")) ∧ PySem.W.mroIn K a.C_Put (.type "object") = some true
  is_Put_Set : PySem.W.kitOne K (.ref a.C_Put) (.ref a.C_Set) = some false
  is_Put_Copy : PySem.W.kitOne K (.ref a.C_Put) (.ref a.C_Copy) = some false
  is_Put_Add : PySem.W.kitOne K (.ref a.C_Put) (.ref a.C_Add) = some false
  is_Put_Sub : PySem.W.kitOne K (.ref a.C_Put) (.ref a.C_Sub) = some false
  is_Put_Mul : PySem.W.kitOne K (.ref a.C_Put) (.ref a.C_Mul) = some false
  is_Put_Less : PySem.W.kitOne K (.ref a.C_Put) (.ref a.C_Less) = some false
  is_Put_Grow : PySem.W.kitOne K (.ref a.C_Put) (.ref a.C_Grow) = some false
  is_Put_Shrink : PySem.W.kitOne K (.ref a.C_Put) (.ref a.C_Shrink) = some false
  is_Put_Put : PySem.W.kitOne K (.ref a.C_Put) (.ref a.C_Put) = some true
  is_Put_Get : PySem.W.kitOne K (.ref a.C_Put) (.ref a.C_Get) = some false
  is_Put_Jump : PySem.W.kitOne K (.ref a.C_Put) (.ref a.C_Jump) = some false
  is_Put_Branch : PySem.W.kitOne K (.ref a.C_Put) (.ref a.C_Branch) = some false
  is_Put_Call : PySem.W.kitOne K (.ref a.C_Put) (.ref a.C_Call) = some false
  is_Put_Back : PySem.W.kitOne K (.ref a.C_Put) (.ref a.C_Back) = some false
  is_Put_Drop : PySem.W.kitOne K (.ref a.C_Put) (.ref a.C_Drop) = some false
  is_Put_Row : PySem.W.kitOne K (.ref a.C_Put) (.ref a.C_Row) = some true
  ty_Get : PySem.W.findIn K (.ref a.C_Get) "__class__" = some (some (.builtin "object.__class__")) ∧ PySem.W.mroIn K a.C_Get (.type "object") = some true
  is_Get_Set : PySem.W.kitOne K (.ref a.C_Get) (.ref a.C_Set) = some false
  is_Get_Copy : PySem.W.kitOne K (.ref a.C_Get) (.ref a.C_Copy) = some false
  is_Get_Add : PySem.W.kitOne K (.ref a.C_Get) (.ref a.C_Add) = some false
  is_Get_Sub : PySem.W.kitOne K (.ref a.C_Get) (.ref a.C_Sub) = some false
  is_Get_Mul : PySem.W.kitOne K (.ref a.C_Get) (.ref a.C_Mul) = some false
  is_Get_Less : PySem.W.kitOne K (.ref a.C_Get) (.ref a.C_Less) = some false
  is_Get_Grow : PySem.W.kitOne K (.ref a.C_Get) (.ref a.C_Grow) = some false
  is_Get_Shrink : PySem.W.kitOne K (.ref a.C_Get) (.ref a.C_Shrink) = some false
  is_Get_Put : PySem.W.kitOne K (.ref a.C_Get) (.ref a.C_Put) = some false
  is_Get_Get : PySem.W.kitOne K (.ref a.C_Get) (.ref a.C_Get) = some true
  is_Get_Jump : PySem.W.kitOne K (.ref a.C_Get) (.ref a.C_Jump) = some false
  is_Get_Branch : PySem.W.kitOne K (.ref a.C_Get) (.ref a.C_Branch) = some false
  is_Get_Call : PySem.W.kitOne K (.ref a.C_Get) (.ref a.C_Call) = some false
  is_Get_Back : PySem.W.kitOne K (.ref a.C_Get) (.ref a.C_Back) = some false
  is_Get_Drop : PySem.W.kitOne K (.ref a.C_Get) (.ref a.C_Drop) = some false
  is_Get_Row : PySem.W.kitOne K (.ref a.C_Get) (.ref a.C_Row) = some true
  ty_Jump : PySem.W.findIn K (.ref a.C_Jump) "__class__" = some (some (.builtin "object.__class__")) ∧ PySem.W.mroIn K a.C_Jump (.type "object") = some true
  is_Jump_Set : PySem.W.kitOne K (.ref a.C_Jump) (.ref a.C_Set) = some false
  is_Jump_Copy : PySem.W.kitOne K (.ref a.C_Jump) (.ref a.C_Copy) = some false
  is_Jump_Add : PySem.W.kitOne K (.ref a.C_Jump) (.ref a.C_Add) = some false
  is_Jump_Sub : PySem.W.kitOne K (.ref a.C_Jump) (.ref a.C_Sub) = some false
  is_Jump_Mul : PySem.W.kitOne K (.ref a.C_Jump) (.ref a.C_Mul) = some false
  is_Jump_Less : PySem.W.kitOne K (.ref a.C_Jump) (.ref a.C_Less) = some false
  is_Jump_Grow : PySem.W.kitOne K (.ref a.C_Jump) (.ref a.C_Grow) = some false
  is_Jump_Shrink : PySem.W.kitOne K (.ref a.C_Jump) (.ref a.C_Shrink) = some false
  is_Jump_Put : PySem.W.kitOne K (.ref a.C_Jump) (.ref a.C_Put) = some false
  is_Jump_Get : PySem.W.kitOne K (.ref a.C_Jump) (.ref a.C_Get) = some false
  is_Jump_Jump : PySem.W.kitOne K (.ref a.C_Jump) (.ref a.C_Jump) = some true
  is_Jump_Branch : PySem.W.kitOne K (.ref a.C_Jump) (.ref a.C_Branch) = some false
  is_Jump_Call : PySem.W.kitOne K (.ref a.C_Jump) (.ref a.C_Call) = some false
  is_Jump_Back : PySem.W.kitOne K (.ref a.C_Jump) (.ref a.C_Back) = some false
  is_Jump_Drop : PySem.W.kitOne K (.ref a.C_Jump) (.ref a.C_Drop) = some false
  is_Jump_Row : PySem.W.kitOne K (.ref a.C_Jump) (.ref a.C_Row) = some true
  ty_Branch : PySem.W.findIn K (.ref a.C_Branch) "__class__" = some (some (.builtin "object.__class__")) ∧ PySem.W.mroIn K a.C_Branch (.type "object") = some true
  is_Branch_Set : PySem.W.kitOne K (.ref a.C_Branch) (.ref a.C_Set) = some false
  is_Branch_Copy : PySem.W.kitOne K (.ref a.C_Branch) (.ref a.C_Copy) = some false
  is_Branch_Add : PySem.W.kitOne K (.ref a.C_Branch) (.ref a.C_Add) = some false
  is_Branch_Sub : PySem.W.kitOne K (.ref a.C_Branch) (.ref a.C_Sub) = some false
  is_Branch_Mul : PySem.W.kitOne K (.ref a.C_Branch) (.ref a.C_Mul) = some false
  is_Branch_Less : PySem.W.kitOne K (.ref a.C_Branch) (.ref a.C_Less) = some false
  is_Branch_Grow : PySem.W.kitOne K (.ref a.C_Branch) (.ref a.C_Grow) = some false
  is_Branch_Shrink : PySem.W.kitOne K (.ref a.C_Branch) (.ref a.C_Shrink) = some false
  is_Branch_Put : PySem.W.kitOne K (.ref a.C_Branch) (.ref a.C_Put) = some false
  is_Branch_Get : PySem.W.kitOne K (.ref a.C_Branch) (.ref a.C_Get) = some false
  is_Branch_Jump : PySem.W.kitOne K (.ref a.C_Branch) (.ref a.C_Jump) = some false
  is_Branch_Branch : PySem.W.kitOne K (.ref a.C_Branch) (.ref a.C_Branch) = some true
  is_Branch_Call : PySem.W.kitOne K (.ref a.C_Branch) (.ref a.C_Call) = some false
  is_Branch_Back : PySem.W.kitOne K (.ref a.C_Branch) (.ref a.C_Back) = some false
  is_Branch_Drop : PySem.W.kitOne K (.ref a.C_Branch) (.ref a.C_Drop) = some false
  is_Branch_Row : PySem.W.kitOne K (.ref a.C_Branch) (.ref a.C_Row) = some true
  ty_Call : PySem.W.findIn K (.ref a.C_Call) "__class__" = some (some (.builtin "object.__class__")) ∧ PySem.W.mroIn K a.C_Call (.type "object") = some true
  is_Call_Set : PySem.W.kitOne K (.ref a.C_Call) (.ref a.C_Set) = some false
  is_Call_Copy : PySem.W.kitOne K (.ref a.C_Call) (.ref a.C_Copy) = some false
  is_Call_Add : PySem.W.kitOne K (.ref a.C_Call) (.ref a.C_Add) = some false
  is_Call_Sub : PySem.W.kitOne K (.ref a.C_Call) (.ref a.C_Sub) = some false
  is_Call_Mul : PySem.W.kitOne K (.ref a.C_Call) (.ref a.C_Mul) = some false
  is_Call_Less : PySem.W.kitOne K (.ref a.C_Call) (.ref a.C_Less) = some false
  is_Call_Grow : PySem.W.kitOne K (.ref a.C_Call) (.ref a.C_Grow) = some false
  is_Call_Shrink : PySem.W.kitOne K (.ref a.C_Call) (.ref a.C_Shrink) = some false
  is_Call_Put : PySem.W.kitOne K (.ref a.C_Call) (.ref a.C_Put) = some false
  is_Call_Get : PySem.W.kitOne K (.ref a.C_Call) (.ref a.C_Get) = some false
  is_Call_Jump : PySem.W.kitOne K (.ref a.C_Call) (.ref a.C_Jump) = some false
  is_Call_Branch : PySem.W.kitOne K (.ref a.C_Call) (.ref a.C_Branch) = some false
  is_Call_Call : PySem.W.kitOne K (.ref a.C_Call) (.ref a.C_Call) = some true
  is_Call_Back : PySem.W.kitOne K (.ref a.C_Call) (.ref a.C_Back) = some false
  is_Call_Drop : PySem.W.kitOne K (.ref a.C_Call) (.ref a.C_Drop) = some false
  is_Call_Row : PySem.W.kitOne K (.ref a.C_Call) (.ref a.C_Row) = some true
  ty_Back : PySem.W.findIn K (.ref a.C_Back) "__class__" = some (some (.builtin "object.__class__")) ∧ PySem.W.mroIn K a.C_Back (.type "object") = some true
  is_Back_Set : PySem.W.kitOne K (.ref a.C_Back) (.ref a.C_Set) = some false
  is_Back_Copy : PySem.W.kitOne K (.ref a.C_Back) (.ref a.C_Copy) = some false
  is_Back_Add : PySem.W.kitOne K (.ref a.C_Back) (.ref a.C_Add) = some false
  is_Back_Sub : PySem.W.kitOne K (.ref a.C_Back) (.ref a.C_Sub) = some false
  is_Back_Mul : PySem.W.kitOne K (.ref a.C_Back) (.ref a.C_Mul) = some false
  is_Back_Less : PySem.W.kitOne K (.ref a.C_Back) (.ref a.C_Less) = some false
  is_Back_Grow : PySem.W.kitOne K (.ref a.C_Back) (.ref a.C_Grow) = some false
  is_Back_Shrink : PySem.W.kitOne K (.ref a.C_Back) (.ref a.C_Shrink) = some false
  is_Back_Put : PySem.W.kitOne K (.ref a.C_Back) (.ref a.C_Put) = some false
  is_Back_Get : PySem.W.kitOne K (.ref a.C_Back) (.ref a.C_Get) = some false
  is_Back_Jump : PySem.W.kitOne K (.ref a.C_Back) (.ref a.C_Jump) = some false
  is_Back_Branch : PySem.W.kitOne K (.ref a.C_Back) (.ref a.C_Branch) = some false
  is_Back_Call : PySem.W.kitOne K (.ref a.C_Back) (.ref a.C_Call) = some false
  is_Back_Back : PySem.W.kitOne K (.ref a.C_Back) (.ref a.C_Back) = some true
  is_Back_Drop : PySem.W.kitOne K (.ref a.C_Back) (.ref a.C_Drop) = some false
  is_Back_Row : PySem.W.kitOne K (.ref a.C_Back) (.ref a.C_Row) = some true
  ty_Drop : PySem.W.findIn K (.ref a.C_Drop) "__class__" = some (some (.builtin "object.__class__")) ∧ PySem.W.mroIn K a.C_Drop (.type "object") = some true
  is_Drop_Set : PySem.W.kitOne K (.ref a.C_Drop) (.ref a.C_Set) = some false
  is_Drop_Copy : PySem.W.kitOne K (.ref a.C_Drop) (.ref a.C_Copy) = some false
  is_Drop_Add : PySem.W.kitOne K (.ref a.C_Drop) (.ref a.C_Add) = some false
  is_Drop_Sub : PySem.W.kitOne K (.ref a.C_Drop) (.ref a.C_Sub) = some false
  is_Drop_Mul : PySem.W.kitOne K (.ref a.C_Drop) (.ref a.C_Mul) = some false
  is_Drop_Less : PySem.W.kitOne K (.ref a.C_Drop) (.ref a.C_Less) = some false
  is_Drop_Grow : PySem.W.kitOne K (.ref a.C_Drop) (.ref a.C_Grow) = some false
  is_Drop_Shrink : PySem.W.kitOne K (.ref a.C_Drop) (.ref a.C_Shrink) = some false
  is_Drop_Put : PySem.W.kitOne K (.ref a.C_Drop) (.ref a.C_Put) = some false
  is_Drop_Get : PySem.W.kitOne K (.ref a.C_Drop) (.ref a.C_Get) = some false
  is_Drop_Jump : PySem.W.kitOne K (.ref a.C_Drop) (.ref a.C_Jump) = some false
  is_Drop_Branch : PySem.W.kitOne K (.ref a.C_Drop) (.ref a.C_Branch) = some false
  is_Drop_Call : PySem.W.kitOne K (.ref a.C_Drop) (.ref a.C_Call) = some false
  is_Drop_Back : PySem.W.kitOne K (.ref a.C_Drop) (.ref a.C_Back) = some false
  is_Drop_Drop : PySem.W.kitOne K (.ref a.C_Drop) (.ref a.C_Drop) = some true
  is_Drop_Row : PySem.W.kitOne K (.ref a.C_Drop) (.ref a.C_Row) = some true
  ob1 : PySem.W.specialIn K (.builtin "object.__class__") "__get__" = some (some (.builtin "getset_descriptor.__get__"))
  ob2 : PySem.W.takesIn K (.builtin "object.__class__") = some true
  x_NoRow : ExcC K mg "NoRow" a.C_NoRow
  xk_NoRow : ExcK K a.C_NoRow
  is_NoRow_FrameError : PySem.W.kitOne K (.ref a.C_NoRow) (.ref a.C_FrameError) = some true
  is_NoRow_NoTable : PySem.W.kitOne K (.ref a.C_NoRow) (.ref a.C_NoTable) = some false
  k_tuple_tuple : PySem.W.kitOne K (.type "tuple") (.type "tuple") = some true
  fn_bounded : ∃ f fd, Fun K "bounded" "bounded" s_bounded f fd ∧ mg "bounded" = some (.ref f) ∧ Binds K fd ["number", "top"] []
  fn_law_cell_at : ∃ f fd, Fun K "_law_cell_at" "_law_cell_at" s_law_cell_at f fd ∧ mg "_law_cell_at" = some (.ref f) ∧ Binds K fd ["_law_script", "_law_k"] []
  fn_law_filling : ∃ f fd, Fun K "_law_filling" "_law_filling" s_law_filling f fd ∧ mg "_law_filling" = some (.ref f) ∧ Binds K fd ["_law_kind", "_law_some"] []
  fn_law_plain : ∃ f fd, Fun K "_law_plain" "_law_plain" s_law_plain f fd ∧ mg "_law_plain" = some (.ref f) ∧ Binds K fd ["_law_kind", "_law_some"] []
  fn_law_aimed : ∃ f fd, Fun K "_law_aimed" "_law_aimed" s_law_aimed f fd ∧ mg "_law_aimed" = some (.ref f) ∧ Binds K fd ["_law_kind", "_law_box", "_law_target"] []
  fn_law_one_kind : ∃ f fd, Fun K "_law_one_kind" "_law_one_kind" s_law_one_kind f fd ∧ mg "_law_one_kind" = some (.ref f) ∧ Binds K fd ["_law_row", "_law_word"] []
  fn_law_laid : ∃ f fd, Fun K "_law_laid" "_law_laid" s_law_laid f fd ∧ mg "_law_laid" = some (.ref f) ∧ Binds K fd ["_law_row", "_law_by_here"] []
  fn_law_by : ∃ f fd, Fun K "_law_by" "_law_by" s_law_by f fd ∧ mg "_law_by" = some (.ref f) ∧ Binds K fd ["_law_cell", "_law_target"] []
  fn_law : ∃ f fd, Fun K "law" "law" s_law f fd ∧ mg "law" = some (.ref f) ∧ Binds K fd ["_law_script"] []

def spBoundedX (a : Adr) : Sp := fun vs H Q E => ∃ n top : Int, vs = [.int n, .int top] ∧ 0 ≤ top ∧ top ≤ 4294967295 ∧ (0 ≤ n ∧ n ≤ top → Q (.int n) H) ∧ (¬ (0 ≤ n ∧ n ≤ top) → E (.ref a.C_NoRow) none H)
def kpX (a : Adr) (H : Hp) (x dx C : Addr) (r : Rw) (Q : VK) (E : XK) : Prop := H x = some (.ins C dx []) ∧ (r.ok → ∀ H', (∀ b o, H b = some o → b ≠ x → H' b = some o) → H' x = some (.ins C dx r.flds) → Q .non H') ∧ (¬ r.ok → ∀ H', (∀ b o, H b = some o → b ≠ x → H' b = some o) → E (.ref a.C_NoRow) none H')
def spIniX1 (a : Adr) (C : Addr) (mk : Int → Rw) : Sp := fun vs H Q E => ∃ (x dx : Addr) (i : Int), vs = [.ref x, .int i] ∧ kpX a H x dx C (mk i) Q E
def spIniX2 (a : Adr) (C : Addr) (mk : Int → Int → Rw) : Sp := fun vs H Q E => ∃ (x dx : Addr) (i j : Int), vs = [.ref x, .int i, .int j] ∧ kpX a H x dx C (mk i j) Q E
def spIniX3 (a : Adr) (C : Addr) (mk : Int → Int → Int → Rw) : Sp := fun vs H Q E => ∃ (x dx : Addr) (i j k : Int), vs = [.ref x, .int i, .int j, .int k] ∧ kpX a H x dx C (mk i j k) Q E
theorem kpX_make {C : Addr} {a : Adr} {r : Rw} {H : Hp} {Q : VK} {E : XK} (hc : r.cls a = C) (q : r.ok → ∀ p H', Same H H' → H p = none → RowAt a H' p r → Q (.ref p) H') (e : ¬ r.ok → ∀ H', Same H H' → E (.ref a.C_NoRow) none H') {x dx : Addr} (hx : H x = none) (hdx : H dx = none) :
    kpX a (upd (upd H dx (.own x)) x (.ins C dx [])) x dx C r (fun v H2 => v = .non ∧ Q (.ref x) H2) E := by
  have kk : ∀ H', (∀ b o, upd (upd H dx (.own x)) x (.ins C dx []) b = some o → b ≠ x → H' b = some o) → Same H H' := fun H' kp b o z =>
    kp b o (by rw [upd_ne (ne_of_none z hx), upd_ne (ne_of_none z hdx)]; exact z) (ne_of_none z hx)
  exact ⟨upd_same, fun ok H' kp hH' => ⟨rfl, q ok x H' (kk H' kp) hx ⟨dx, by rw [hc]; exact hH'⟩⟩, fun no H' kp => e no H' (kk H' kp)⟩
theorem r_rowX1 {C : Addr} {mk : Int → Rw} {a : Adr} {i : Int} {H : Hp} {Q : VK} {E : XK} (hc : (mk i).cls a = C) (q : (mk i).ok → ∀ p H', Same H H' → H p = none → RowAt a H' p (mk i) → Q (.ref p) H') (e : ¬ (mk i).ok → ∀ H', Same H H' → E (.ref a.C_NoRow) none H') :
    ∀ x dx, H x = none → H dx = none → dx ≠ x → spIniX1 a C mk (.ref x :: [.int i]) (upd (upd H dx (.own x)) x (.ins C dx [])) (fun v H2 => v = .non ∧ Q (.ref x) H2) E := fun x dx hx hdx _ => ⟨x, dx, i, rfl, kpX_make hc q e hx hdx⟩
theorem r_rowX2 {C : Addr} {mk : Int → Int → Rw} {a : Adr} {i j : Int} {H : Hp} {Q : VK} {E : XK} (hc : (mk i j).cls a = C) (q : (mk i j).ok → ∀ p H', Same H H' → H p = none → RowAt a H' p (mk i j) → Q (.ref p) H') (e : ¬ (mk i j).ok → ∀ H', Same H H' → E (.ref a.C_NoRow) none H') :
    ∀ x dx, H x = none → H dx = none → dx ≠ x → spIniX2 a C mk (.ref x :: [.int i, .int j]) (upd (upd H dx (.own x)) x (.ins C dx [])) (fun v H2 => v = .non ∧ Q (.ref x) H2) E := fun x dx hx hdx _ => ⟨x, dx, i, j, rfl, kpX_make hc q e hx hdx⟩
theorem shaped_told (r : Rw) : shaped (.tuple (.str r.told.1 :: r.told.2.map PyData.int)) = true := by
  have hw : (PyData.str r.told.1).canLay0 = true := by cases r <;> simp [PyData.canLay0, Rw.told] <;> decide +kernel
  unfold shaped
  rw [PyData.canLay0, PyData.canLayAll0, canLay_ints, hw, PyData.depth, PyData.depthAll, depth_ints]
  simp [PyData.depth]

def Rw.laid : Rw → Int → Rw
  | .jump t, d => .jump (t + d)
  | .branch b t, d => .branch b (t + d)
  | .call t, d => .call (t + d)
  | r, _ => r
def spLaid (a : Adr) (r : Rw) : Sp := fun vs H Q E => ∃ (x : Addr) (d : Int), vs = [.ref x, .int d] ∧ RowAt a H x r ∧ r.ok ∧ ((r.laid d).ok → ∀ p H', Same H H' → RowAt a H' p (r.laid d) → Q (.ref p) H') ∧ (¬ (r.laid d).ok → ∀ H', Same H H' → E (.ref a.C_NoRow) none H')
def PairQ (a : Adr) (H : Hp) (Q : VK) (good : Rw → Prop) : Prop := ∀ (t x tt : Addr) (r : Rw) (H' : Hp), Same H H' → H' t = some (.tup [.ref x, .ref tt]) → RowAt a H' x r → H' tt = some (.tup (.str r.told.1 :: r.told.2.map V.int)) → r.ok → good r → Q (.ref t) H'
def Rw.still (r : Rw) : Prop := ∀ d, r.laid d = r
def Rw.aim (t : Int) (r : Rw) : Prop := ∃ (w : Str) (xs : List Int), r.told = (w, xs ++ [t]) ∧ xs.length ≤ 1 ∧ ∀ d, (r.laid d).told = (w, xs ++ [t + d]) ∧ ((r.laid d).ok ↔ isTgt (t + d)) ∧ (r.laid d).laid (-d) = r
def spPlain (K : PySem.W.Frag) (a : Adr) : Sp := fun vs H Q _ => ∃ (k : Int) (p : Addr) (s0 s1 s2 : Int), vs = [.int k, .ref p] ∧ SqL K H p ([s0, s1, s2].map V.int) ∧ PairQ a H Q Rw.still
def spAimed (a : Adr) : Sp := fun vs H Q _ => ∃ k b t : Int, vs = [.int k, .int b, .int t] ∧ isBox b ∧ isTgt t ∧ PairQ a H Q (Rw.aim t)
theorem aim_jump {t : Int} : Rw.aim t (.jump t) := ⟨"jump", [], rfl, by decide, fun d => ⟨rfl, Iff.rfl, by show Rw.jump (t + d + -d) = _; congr 1; omega⟩⟩
theorem aim_call {t : Int} : Rw.aim t (.call t) := ⟨"call", [], rfl, by decide, fun d => ⟨rfl, Iff.rfl, by show Rw.call (t + d + -d) = _; congr 1; omega⟩⟩
theorem aim_branch {b t : Int} (h : isBox b) : Rw.aim t (.branch b t) := ⟨"branch", [b], rfl, Nat.le_refl 1, fun d => ⟨rfl, ⟨fun z => z.2, fun z => ⟨h, z⟩⟩, by show Rw.branch b (t + d + -d) = _; congr 1; omega⟩⟩
def spBy : Sp := fun vs H Q _ => ∃ c t : Int, vs = [.int c, .int t] ∧ ∀ v H', Same H H' → Q (.int v) H'
theorem r_ix5 {K : PySem.W.Frag} {p : Addr} {a b c d e x : Int} {H : Hp} {Q : VK} (h : SqL K H p [.int a, .int b, .int c, .int d, .int e]) (q : ∀ v : Int, Q (.int v) H) : rIxA K (.ref p) (.int (x % 5)) H Q := by
  have hx : x % 5 = 0 ∨ x % 5 = 1 ∨ x % 5 = 2 ∨ x % 5 = 3 ∨ x % 5 = 4 := by omega
  rcases hx with hx | hx | hx | hx | hx <;> rw [hx]
  · exact r_ixL h (v := .int a) rfl (q _)
  · exact r_ixL h (v := .int b) rfl (q _)
  · exact r_ixL h (v := .int c) rfl (q _)
  · exact r_ixL h (v := .int d) rfl (q _)
  · exact r_ixL h (v := .int e) rfl (q _)
def spTryLaid (a : Adr) : Sp := fun vs H Q _ => ∃ (x : Addr) (d : Int) (r : Rw), vs = [.ref x, .int d] ∧ RowAt a H x r ∧ r.ok ∧ ((r.laid d).ok → ∀ t p H', Same H H' → H' t = some (.tup [.ref p, .bl false]) → RowAt a H' p (r.laid d) → Q (.ref t) H') ∧
  (¬ (r.laid d).ok → ∀ t H', Same H H' → H' t = some (.tup [.non, .bl true]) → Q (.ref t) H')
def OneQ (a : Adr) (x : Addr) (w : Str) (r : Rw) (H : Hp) (Q : VK) : Prop := RowAt a H x r ∧ ∀ H', Same H H' → Q (.bl (decide (V.str r.told.1 = V.str w))) H'
def spOne (a : Adr) : Sp := fun vs H Q _ => ∃ (x : Addr) (w : Str) (r : Rw), vs = [.ref x, .str w] ∧ OneQ a x w r H Q
theorem r_plusC {K : PySem.W.Frag} {a b : Addr} {xs ys : List V} {H : Hp} {Q : VK} (zs : List V) (e : xs ++ ys = zs) (ha : H a = some (.lst xs)) (hb : H b = some (.lst ys)) (hz : xs.length + ys.length ≤ sizeLine) (q : ∀ p, H p = none → Q (.ref p) (upd H p (.lst zs))) :
    rPlus K (.ref a) (.ref b) H Q := r_plusL ha hb hz (by rw [e]; exact q)
theorem cut_last (x : V) (r : List V) (y : V) : cutV (x :: (r ++ [y])) none (some (-1)) = x :: r := by
  unfold cutV
  have e1 : HT.sIx (x :: (r ++ [y])).length 0 none = 0 := rfl
  have e2 : HT.sIx (x :: (r ++ [y])).length (x :: (r ++ [y])).length (some (-1)) = r.length + 1 := by
    show (if (-1 : Int) < 0 then ((-1 : Int) + ((x :: (r ++ [y])).length : Int)).toNat else min (-1 : Int).toNat (x :: (r ++ [y])).length) = _
    rw [if_pos (by decide), List.length_cons, List.length_append, List.length_singleton]; omega
  rw [e1, e2, List.drop_zero, Nat.sub_zero, List.take_succ_cons, List.take_left]
theorem cut_last_ne (x : V) (r : List V) (y : V) : ¬ (HT.sIx (x :: (r ++ [y])).length 0 none = 0 ∧ HT.sIx (x :: (r ++ [y])).length (x :: (r ++ [y])).length (some (-1)) = (x :: (r ++ [y])).length) := by
  intro z
  have e2 : HT.sIx (x :: (r ++ [y])).length (x :: (r ++ [y])).length (some (-1)) = r.length + 1 := by
    show (if (-1 : Int) < 0 then ((-1 : Int) + ((x :: (r ++ [y])).length : Int)).toNat else min (-1 : Int).toNat (x :: (r ++ [y])).length) = _
    rw [if_pos (by decide), List.length_cons, List.length_append, List.length_singleton]; omega
  have := z.2
  rw [e2, List.length_cons, List.length_append, List.length_singleton] at this
  omega
theorem told_dp {K : PySem.W.Frag} {H : Hp} {t : Addr} {r : Rw} (h : H t = some (.tup (.str r.told.1 :: r.told.2.map V.int))) : Dp K H (.tuple (.str r.told.1 :: r.told.2.map PyData.int)) (.ref t) := dp_tup (SqT.of h) (dpAll_cons (dp_str _) (dpAll_ints _))
theorem at_head {w : Str} {xs : List V} : atI (V.str w :: xs) 0 = some (.str w) := atI_nat (j := 0) rfl

theorem due_dp {K : PySem.W.Frag} {H : Hp} {t : Addr} {w : Str} {xs : List Int} {n : Int} {r : Rw} (h : H t = some (.tup ((.str w :: xs.map V.int) ++ [.int n]))) (e : r.told = (w, xs ++ [n])) : Dp K H (.tuple (.str r.told.1 :: r.told.2.map PyData.int)) (.ref t) := by
  refine told_dp (r := r) ?_
  rw [h, e, List.map_append]; rfl

local macro_rules | `(tactic| walk_at "mine") => `(tactic| first | (with_reducible refine r_chain ?_) | (with_reducible refine r_raise ?_) | (with_reducible refine r_fst2 ?_) | (with_reducible refine r_tryMeth ?_) | (with_reducible refine r_zipL ?_) | ((with_reducible refine' ifStr ?x ?_); (case x => intro hh; exact absurd hh (by decide +kernel)); intro _) | ((with_reducible refine' ifStr ?_ ?x); (case x => intro hh; exact absurd rfl hh); intro _) | ((with_reducible refine' r_tupLst ?x ?_); (case x => walk_at "sql")))
section
variable {P : Program} {w : World} {K : PySem.W.Frag} {mg : Str → Option Value} {base : Heap} {a : Adr}
local macro_rules | `(tactic| walk_at "pex") => `(tactic| first | (with_reducible exact pe_int) | (with_reducible exact pe_str) | ((with_reducible refine' pe_lst ?x); (case x => walk_at "pax")) | ((with_reducible refine' pe_tup ?x); (case x => walk_at "pax")))
local macro_rules | `(tactic| walk_at "pax") => `(tactic| first | (with_reducible exact pa_nil) | ((with_reducible refine' pa_cons ?x ?y ?z); (case z => rfl); (case x => walk_at "pex"); (case y => walk_at "pax")))
set_option maxHeartbeats 4000000 in
theorem bd_law_one_kind_Set (T : Txt K mg a) : BodyOk P w K mg base 0 "_law_one_kind" s_law_one_kind ["_law_row", "_law_word", "_law_kinds", "_law_words"] (fun vs H Q _ => ∃ (x : Addr) (w : Str) (b n : Int), vs = [.ref x, .str w] ∧ OneQ a x w (.set b n) H Q) := by
    intro f cdv A outer s H vs Q E hr h
    obtain ⟨x, w, b, n, rfl, ⟨dx, hx⟩, q⟩ := h
    have hT : ∀ H', Same H H' → TyOf K H' (.ref x) (.ref a.C_Set) := fun H' s => .ins (s _ _ hx) T.cl_Set T.ty_Set.1 T.ob1 T.ob2 T.ty_Set.2
    refine' ⟨_, pss_cons ?r0 ?q0, ?_⟩
    (case q0 => (refine' pss_cons ?r1 ?q1; (case q1 => (refine' pss_cons ?r2 ?q2; (case q2 => (refine' pss_cons ?r3 ?q3; (case q3 => (refine' pss_cons ?r4 ?q4; (case q4 => (refine' pss_cons ?r5 ?q5; (case q5 => (refine' pss_one ?r6; (case r6 => exact (ps_ret (pe_and (pe_callB (call_isiK (K := K) rfl) rfl T.z_isinstance b_isinstance (pa_cons (pv 0) (pa_cons (pe_glob (v := .ref a.C_Row) rfl T.c_Row rfl) pa_nil))) (pe_and (pe_cmpR (op_eqK (K := K) rfl hr.units) (pe_bmK (K := K) rfl PySem.F.plainAttrs_list PySem.F.slot_list_count PySem.F.type_list_count mt_countB (pv 2) (pa_cons pe_bl pa_nil)) pe_int (nomark _)) (pe_one (pe_cmpR (op_eqK (K := K) rfl hr.units) (pe_ix (ix_K (K := K) rfl) (pv 3) (pe_bmK (K := K) rfl PySem.F.plainAttrs_list PySem.F.slot_list_index PySem.F.type_list_index mt_indexB (pv 2) (pa_cons pe_bl pa_nil)) (fun _ _ => rfl)) (pv 1) (nomark _))))))))); (case r5 => (refine' ps_set (i := 3) ?a5 ?b5 ?c5 ?d5 ?e5 ?f5; (case a5 => exact sc_law_one_kind.nd); (case b5 => rfl); (case c5 => exact (Or.inl rfl)); (case e5 => rfl); (case f5 => exact .inl rfl); (case d5 => (refine' pe_op (op_plusK (K := K) rfl) ?x5 ?y5; (case x5 => exact (pv 3)); (case y5 => walk_at "pex"))))))); (case r4 => (refine' ps_set (i := 3) ?a4 ?b4 ?c4 ?d4 ?e4 ?f4; (case a4 => exact sc_law_one_kind.nd); (case b4 => rfl); (case c4 => exact (Or.inl rfl)); (case e4 => rfl); (case f4 => exact .inl rfl); (case d4 => walk_at "pex"))))); (case r3 => exact (ps_set (i := 2) sc_law_one_kind.nd rfl (Or.inl rfl) (pe_op (op_plusK (K := K) rfl) (pv 2) (pe_lst (pa_cons (pe_callB (call_isiK (K := K) rfl) rfl T.z_isinstance b_isinstance (pa_cons (pv 0) (pa_cons (pe_glob (v := .ref a.C_Call) rfl T.c_Call rfl) pa_nil))) (pa_cons (pe_callB (call_isiK (K := K) rfl) rfl T.z_isinstance b_isinstance (pa_cons (pv 0) (pa_cons (pe_glob (v := .ref a.C_Back) rfl T.c_Back rfl) pa_nil))) (pa_cons (pe_callB (call_isiK (K := K) rfl) rfl T.z_isinstance b_isinstance (pa_cons (pv 0) (pa_cons (pe_glob (v := .ref a.C_Drop) rfl T.c_Drop rfl) pa_nil))) pa_nil))))))))); (case r2 => exact (ps_set (i := 2) sc_law_one_kind.nd rfl (Or.inl rfl) (pe_op (op_plusK (K := K) rfl) (pv 2) (pe_lst (pa_cons (pe_callB (call_isiK (K := K) rfl) rfl T.z_isinstance b_isinstance (pa_cons (pv 0) (pa_cons (pe_glob (v := .ref a.C_Put) rfl T.c_Put rfl) pa_nil))) (pa_cons (pe_callB (call_isiK (K := K) rfl) rfl T.z_isinstance b_isinstance (pa_cons (pv 0) (pa_cons (pe_glob (v := .ref a.C_Get) rfl T.c_Get rfl) pa_nil))) (pa_cons (pe_callB (call_isiK (K := K) rfl) rfl T.z_isinstance b_isinstance (pa_cons (pv 0) (pa_cons (pe_glob (v := .ref a.C_Jump) rfl T.c_Jump rfl) pa_nil))) (pa_cons (pe_callB (call_isiK (K := K) rfl) rfl T.z_isinstance b_isinstance (pa_cons (pv 0) (pa_cons (pe_glob (v := .ref a.C_Branch) rfl T.c_Branch rfl) pa_nil))) pa_nil)))))))))); (case r1 => exact (ps_set (i := 2) sc_law_one_kind.nd rfl (Or.inl rfl) (pe_op (op_plusK (K := K) rfl) (pv 2) (pe_lst (pa_cons (pe_callB (call_isiK (K := K) rfl) rfl T.z_isinstance b_isinstance (pa_cons (pv 0) (pa_cons (pe_glob (v := .ref a.C_Mul) rfl T.c_Mul rfl) pa_nil))) (pa_cons (pe_callB (call_isiK (K := K) rfl) rfl T.z_isinstance b_isinstance (pa_cons (pv 0) (pa_cons (pe_glob (v := .ref a.C_Less) rfl T.c_Less rfl) pa_nil))) (pa_cons (pe_callB (call_isiK (K := K) rfl) rfl T.z_isinstance b_isinstance (pa_cons (pv 0) (pa_cons (pe_glob (v := .ref a.C_Grow) rfl T.c_Grow rfl) pa_nil))) (pa_cons (pe_callB (call_isiK (K := K) rfl) rfl T.z_isinstance b_isinstance (pa_cons (pv 0) (pa_cons (pe_glob (v := .ref a.C_Shrink) rfl T.c_Shrink rfl) pa_nil))) pa_nil))))))))))
    (case r0 => exact (ps_set (i := 2) sc_law_one_kind.nd rfl (Or.inl rfl) (pe_lst (pa_cons (pe_callB (call_isiK (K := K) rfl) rfl T.z_isinstance b_isinstance (pa_cons (pv 0) (pa_cons (pe_glob (v := .ref a.C_Set) rfl T.c_Set rfl) pa_nil))) (pa_cons (pe_callB (call_isiK (K := K) rfl) rfl T.z_isinstance b_isinstance (pa_cons (pv 0) (pa_cons (pe_glob (v := .ref a.C_Copy) rfl T.c_Copy rfl) pa_nil))) (pa_cons (pe_callB (call_isiK (K := K) rfl) rfl T.z_isinstance b_isinstance (pa_cons (pv 0) (pa_cons (pe_glob (v := .ref a.C_Add) rfl T.c_Add rfl) pa_nil))) (pa_cons (pe_callB (call_isiK (K := K) rfl) rfl T.z_isinstance b_isinstance (pa_cons (pv 0) (pa_cons (pe_glob (v := .ref a.C_Sub) rfl T.c_Sub rfl) pa_nil))) pa_nil)))))))
    refine r_st (σ' := [some _, some _, none, none]) rfl ?_
    walk_at "rd"
    refine r_isi (fun z => nomatch z) (hT _ (by walk_at "same")) T.is_Set_Set ?_
    walk_at "rd"
    refine r_isi (fun z => nomatch z) (hT _ (by walk_at "same")) T.is_Set_Copy ?_
    walk_at "rd"
    refine r_isi (fun z => nomatch z) (hT _ (by walk_at "same")) T.is_Set_Add ?_
    walk_at "rd"
    refine r_isi (fun z => nomatch z) (hT _ (by walk_at "same")) T.is_Set_Sub ?_
    walk_at "rd"
    refine r_isi (fun z => nomatch z) (hT _ (by walk_at "same")) T.is_Set_Mul ?_
    walk_at "rd"
    refine r_isi (fun z => nomatch z) (hT _ (by walk_at "same")) T.is_Set_Less ?_
    walk_at "rd"
    refine r_isi (fun z => nomatch z) (hT _ (by walk_at "same")) T.is_Set_Grow ?_
    walk_at "rd"
    refine r_isi (fun z => nomatch z) (hT _ (by walk_at "same")) T.is_Set_Shrink ?_
    walk_at "rd"
    refine r_plusC ([true, false, false, false, false, false, false, false].map V.bl) rfl (by walk_at "hlk") (by walk_at "hlk") (by walk_at "small") fun b7 hb7 => ?_
    walk_at "rd"
    refine r_isi (fun z => nomatch z) (hT _ (by walk_at "same")) T.is_Set_Put ?_
    walk_at "rd"
    refine r_isi (fun z => nomatch z) (hT _ (by walk_at "same")) T.is_Set_Get ?_
    walk_at "rd"
    refine r_isi (fun z => nomatch z) (hT _ (by walk_at "same")) T.is_Set_Jump ?_
    walk_at "rd"
    refine r_isi (fun z => nomatch z) (hT _ (by walk_at "same")) T.is_Set_Branch ?_
    walk_at "rd"
    refine r_plusC ([true, false, false, false, false, false, false, false, false, false, false, false].map V.bl) rfl (by walk_at "hlk") (by walk_at "hlk") (by walk_at "small") fun b11 hb11 => ?_
    walk_at "rd"
    refine r_isi (fun z => nomatch z) (hT _ (by walk_at "same")) T.is_Set_Call ?_
    walk_at "rd"
    refine r_isi (fun z => nomatch z) (hT _ (by walk_at "same")) T.is_Set_Back ?_
    walk_at "rd"
    refine r_isi (fun z => nomatch z) (hT _ (by walk_at "same")) T.is_Set_Drop ?_
    walk_at "rd"
    refine r_plusC ([true, false, false, false, false, false, false, false, false, false, false, false, false, false, false].map V.bl) rfl (by walk_at "hlk") (by walk_at "hlk") (by walk_at "small") fun b14 hb14 => ?_
    walk_at "rd"
    refine r_plusC [.str "set", .str "copy", .str "add", .str "sub", .str "mul", .str "less", .str "grow", .str "shrink", .str "put", .str "get", .str "jump", .str "branch", .str "call", .str "back", .str "drop"] rfl (by walk_at "hlk") (by walk_at "hlk") (by walk_at "small") fun bw hbw => ?_
    walk_at "rd"
    refine r_isi (fun z => nomatch z) (hT _ (by walk_at "same")) T.is_Set_Row ?_
    walk_at "rd"
    refine r_countB (bs := [true, false, false, false, false, false, false, false, false, false, false, false, false, false, false]) (by walk_at "hlk") ?_
    rw [show ([true, false, false, false, false, false, false, false, false, false, false, false, false, false, false].countP (· == true)) = 1 from by decide]
    walk_at "rd"
    refine r_indexB (bs := [true, false, false, false, false, false, false, false, false, false, false, false, false, false, false]) (j := 0) (by walk_at "hlk") rfl (by decide) ?_
    walk_at "rd"
    exact q _ (by walk_at "same")
end
section
variable {P : Program} {w : World} {K : PySem.W.Frag} {mg : Str → Option Value} {base : Heap} {a : Adr}
local macro_rules | `(tactic| walk_at "pex") => `(tactic| first | (with_reducible exact pe_int) | (with_reducible exact pe_str) | ((with_reducible refine' pe_lst ?x); (case x => walk_at "pax")) | ((with_reducible refine' pe_tup ?x); (case x => walk_at "pax")))
local macro_rules | `(tactic| walk_at "pax") => `(tactic| first | (with_reducible exact pa_nil) | ((with_reducible refine' pa_cons ?x ?y ?z); (case z => rfl); (case x => walk_at "pex"); (case y => walk_at "pax")))
set_option maxHeartbeats 4000000 in
theorem bd_law_one_kind_Copy (T : Txt K mg a) : BodyOk P w K mg base 0 "_law_one_kind" s_law_one_kind ["_law_row", "_law_word", "_law_kinds", "_law_words"] (fun vs H Q _ => ∃ (x : Addr) (w : Str) (b o : Int), vs = [.ref x, .str w] ∧ OneQ a x w (.copy b o) H Q) := by
    intro f cdv A outer s H vs Q E hr h
    obtain ⟨x, w, b, o, rfl, ⟨dx, hx⟩, q⟩ := h
    have hT : ∀ H', Same H H' → TyOf K H' (.ref x) (.ref a.C_Copy) := fun H' s => .ins (s _ _ hx) T.cl_Copy T.ty_Copy.1 T.ob1 T.ob2 T.ty_Copy.2
    refine' ⟨_, pss_cons ?r0 ?q0, ?_⟩
    (case q0 => (refine' pss_cons ?r1 ?q1; (case q1 => (refine' pss_cons ?r2 ?q2; (case q2 => (refine' pss_cons ?r3 ?q3; (case q3 => (refine' pss_cons ?r4 ?q4; (case q4 => (refine' pss_cons ?r5 ?q5; (case q5 => (refine' pss_one ?r6; (case r6 => exact (ps_ret (pe_and (pe_callB (call_isiK (K := K) rfl) rfl T.z_isinstance b_isinstance (pa_cons (pv 0) (pa_cons (pe_glob (v := .ref a.C_Row) rfl T.c_Row rfl) pa_nil))) (pe_and (pe_cmpR (op_eqK (K := K) rfl hr.units) (pe_bmK (K := K) rfl PySem.F.plainAttrs_list PySem.F.slot_list_count PySem.F.type_list_count mt_countB (pv 2) (pa_cons pe_bl pa_nil)) pe_int (nomark _)) (pe_one (pe_cmpR (op_eqK (K := K) rfl hr.units) (pe_ix (ix_K (K := K) rfl) (pv 3) (pe_bmK (K := K) rfl PySem.F.plainAttrs_list PySem.F.slot_list_index PySem.F.type_list_index mt_indexB (pv 2) (pa_cons pe_bl pa_nil)) (fun _ _ => rfl)) (pv 1) (nomark _))))))))); (case r5 => (refine' ps_set (i := 3) ?a5 ?b5 ?c5 ?d5 ?e5 ?f5; (case a5 => exact sc_law_one_kind.nd); (case b5 => rfl); (case c5 => exact (Or.inl rfl)); (case e5 => rfl); (case f5 => exact .inl rfl); (case d5 => (refine' pe_op (op_plusK (K := K) rfl) ?x5 ?y5; (case x5 => exact (pv 3)); (case y5 => walk_at "pex"))))))); (case r4 => (refine' ps_set (i := 3) ?a4 ?b4 ?c4 ?d4 ?e4 ?f4; (case a4 => exact sc_law_one_kind.nd); (case b4 => rfl); (case c4 => exact (Or.inl rfl)); (case e4 => rfl); (case f4 => exact .inl rfl); (case d4 => walk_at "pex"))))); (case r3 => exact (ps_set (i := 2) sc_law_one_kind.nd rfl (Or.inl rfl) (pe_op (op_plusK (K := K) rfl) (pv 2) (pe_lst (pa_cons (pe_callB (call_isiK (K := K) rfl) rfl T.z_isinstance b_isinstance (pa_cons (pv 0) (pa_cons (pe_glob (v := .ref a.C_Call) rfl T.c_Call rfl) pa_nil))) (pa_cons (pe_callB (call_isiK (K := K) rfl) rfl T.z_isinstance b_isinstance (pa_cons (pv 0) (pa_cons (pe_glob (v := .ref a.C_Back) rfl T.c_Back rfl) pa_nil))) (pa_cons (pe_callB (call_isiK (K := K) rfl) rfl T.z_isinstance b_isinstance (pa_cons (pv 0) (pa_cons (pe_glob (v := .ref a.C_Drop) rfl T.c_Drop rfl) pa_nil))) pa_nil))))))))); (case r2 => exact (ps_set (i := 2) sc_law_one_kind.nd rfl (Or.inl rfl) (pe_op (op_plusK (K := K) rfl) (pv 2) (pe_lst (pa_cons (pe_callB (call_isiK (K := K) rfl) rfl T.z_isinstance b_isinstance (pa_cons (pv 0) (pa_cons (pe_glob (v := .ref a.C_Put) rfl T.c_Put rfl) pa_nil))) (pa_cons (pe_callB (call_isiK (K := K) rfl) rfl T.z_isinstance b_isinstance (pa_cons (pv 0) (pa_cons (pe_glob (v := .ref a.C_Get) rfl T.c_Get rfl) pa_nil))) (pa_cons (pe_callB (call_isiK (K := K) rfl) rfl T.z_isinstance b_isinstance (pa_cons (pv 0) (pa_cons (pe_glob (v := .ref a.C_Jump) rfl T.c_Jump rfl) pa_nil))) (pa_cons (pe_callB (call_isiK (K := K) rfl) rfl T.z_isinstance b_isinstance (pa_cons (pv 0) (pa_cons (pe_glob (v := .ref a.C_Branch) rfl T.c_Branch rfl) pa_nil))) pa_nil)))))))))); (case r1 => exact (ps_set (i := 2) sc_law_one_kind.nd rfl (Or.inl rfl) (pe_op (op_plusK (K := K) rfl) (pv 2) (pe_lst (pa_cons (pe_callB (call_isiK (K := K) rfl) rfl T.z_isinstance b_isinstance (pa_cons (pv 0) (pa_cons (pe_glob (v := .ref a.C_Mul) rfl T.c_Mul rfl) pa_nil))) (pa_cons (pe_callB (call_isiK (K := K) rfl) rfl T.z_isinstance b_isinstance (pa_cons (pv 0) (pa_cons (pe_glob (v := .ref a.C_Less) rfl T.c_Less rfl) pa_nil))) (pa_cons (pe_callB (call_isiK (K := K) rfl) rfl T.z_isinstance b_isinstance (pa_cons (pv 0) (pa_cons (pe_glob (v := .ref a.C_Grow) rfl T.c_Grow rfl) pa_nil))) (pa_cons (pe_callB (call_isiK (K := K) rfl) rfl T.z_isinstance b_isinstance (pa_cons (pv 0) (pa_cons (pe_glob (v := .ref a.C_Shrink) rfl T.c_Shrink rfl) pa_nil))) pa_nil))))))))))
    (case r0 => exact (ps_set (i := 2) sc_law_one_kind.nd rfl (Or.inl rfl) (pe_lst (pa_cons (pe_callB (call_isiK (K := K) rfl) rfl T.z_isinstance b_isinstance (pa_cons (pv 0) (pa_cons (pe_glob (v := .ref a.C_Set) rfl T.c_Set rfl) pa_nil))) (pa_cons (pe_callB (call_isiK (K := K) rfl) rfl T.z_isinstance b_isinstance (pa_cons (pv 0) (pa_cons (pe_glob (v := .ref a.C_Copy) rfl T.c_Copy rfl) pa_nil))) (pa_cons (pe_callB (call_isiK (K := K) rfl) rfl T.z_isinstance b_isinstance (pa_cons (pv 0) (pa_cons (pe_glob (v := .ref a.C_Add) rfl T.c_Add rfl) pa_nil))) (pa_cons (pe_callB (call_isiK (K := K) rfl) rfl T.z_isinstance b_isinstance (pa_cons (pv 0) (pa_cons (pe_glob (v := .ref a.C_Sub) rfl T.c_Sub rfl) pa_nil))) pa_nil)))))))
    refine r_st (σ' := [some _, some _, none, none]) rfl ?_
    walk_at "rd"
    refine r_isi (fun z => nomatch z) (hT _ (by walk_at "same")) T.is_Copy_Set ?_
    walk_at "rd"
    refine r_isi (fun z => nomatch z) (hT _ (by walk_at "same")) T.is_Copy_Copy ?_
    walk_at "rd"
    refine r_isi (fun z => nomatch z) (hT _ (by walk_at "same")) T.is_Copy_Add ?_
    walk_at "rd"
    refine r_isi (fun z => nomatch z) (hT _ (by walk_at "same")) T.is_Copy_Sub ?_
    walk_at "rd"
    refine r_isi (fun z => nomatch z) (hT _ (by walk_at "same")) T.is_Copy_Mul ?_
    walk_at "rd"
    refine r_isi (fun z => nomatch z) (hT _ (by walk_at "same")) T.is_Copy_Less ?_
    walk_at "rd"
    refine r_isi (fun z => nomatch z) (hT _ (by walk_at "same")) T.is_Copy_Grow ?_
    walk_at "rd"
    refine r_isi (fun z => nomatch z) (hT _ (by walk_at "same")) T.is_Copy_Shrink ?_
    walk_at "rd"
    refine r_plusC ([false, true, false, false, false, false, false, false].map V.bl) rfl (by walk_at "hlk") (by walk_at "hlk") (by walk_at "small") fun b7 hb7 => ?_
    walk_at "rd"
    refine r_isi (fun z => nomatch z) (hT _ (by walk_at "same")) T.is_Copy_Put ?_
    walk_at "rd"
    refine r_isi (fun z => nomatch z) (hT _ (by walk_at "same")) T.is_Copy_Get ?_
    walk_at "rd"
    refine r_isi (fun z => nomatch z) (hT _ (by walk_at "same")) T.is_Copy_Jump ?_
    walk_at "rd"
    refine r_isi (fun z => nomatch z) (hT _ (by walk_at "same")) T.is_Copy_Branch ?_
    walk_at "rd"
    refine r_plusC ([false, true, false, false, false, false, false, false, false, false, false, false].map V.bl) rfl (by walk_at "hlk") (by walk_at "hlk") (by walk_at "small") fun b11 hb11 => ?_
    walk_at "rd"
    refine r_isi (fun z => nomatch z) (hT _ (by walk_at "same")) T.is_Copy_Call ?_
    walk_at "rd"
    refine r_isi (fun z => nomatch z) (hT _ (by walk_at "same")) T.is_Copy_Back ?_
    walk_at "rd"
    refine r_isi (fun z => nomatch z) (hT _ (by walk_at "same")) T.is_Copy_Drop ?_
    walk_at "rd"
    refine r_plusC ([false, true, false, false, false, false, false, false, false, false, false, false, false, false, false].map V.bl) rfl (by walk_at "hlk") (by walk_at "hlk") (by walk_at "small") fun b14 hb14 => ?_
    walk_at "rd"
    refine r_plusC [.str "set", .str "copy", .str "add", .str "sub", .str "mul", .str "less", .str "grow", .str "shrink", .str "put", .str "get", .str "jump", .str "branch", .str "call", .str "back", .str "drop"] rfl (by walk_at "hlk") (by walk_at "hlk") (by walk_at "small") fun bw hbw => ?_
    walk_at "rd"
    refine r_isi (fun z => nomatch z) (hT _ (by walk_at "same")) T.is_Copy_Row ?_
    walk_at "rd"
    refine r_countB (bs := [false, true, false, false, false, false, false, false, false, false, false, false, false, false, false]) (by walk_at "hlk") ?_
    rw [show ([false, true, false, false, false, false, false, false, false, false, false, false, false, false, false].countP (· == true)) = 1 from by decide]
    walk_at "rd"
    refine r_indexB (bs := [false, true, false, false, false, false, false, false, false, false, false, false, false, false, false]) (j := 1) (by walk_at "hlk") rfl (by decide) ?_
    walk_at "rd"
    exact q _ (by walk_at "same")
end
section
variable {P : Program} {w : World} {K : PySem.W.Frag} {mg : Str → Option Value} {base : Heap} {a : Adr}
local macro_rules | `(tactic| walk_at "pex") => `(tactic| first | (with_reducible exact pe_int) | (with_reducible exact pe_str) | ((with_reducible refine' pe_lst ?x); (case x => walk_at "pax")) | ((with_reducible refine' pe_tup ?x); (case x => walk_at "pax")))
local macro_rules | `(tactic| walk_at "pax") => `(tactic| first | (with_reducible exact pa_nil) | ((with_reducible refine' pa_cons ?x ?y ?z); (case z => rfl); (case x => walk_at "pex"); (case y => walk_at "pax")))
set_option maxHeartbeats 4000000 in
theorem bd_law_one_kind_Add (T : Txt K mg a) : BodyOk P w K mg base 0 "_law_one_kind" s_law_one_kind ["_law_row", "_law_word", "_law_kinds", "_law_words"] (fun vs H Q _ => ∃ (x : Addr) (w : Str) (b o t : Int), vs = [.ref x, .str w] ∧ OneQ a x w (.add b o t) H Q) := by
    intro f cdv A outer s H vs Q E hr h
    obtain ⟨x, w, b, o, t, rfl, ⟨dx, hx⟩, q⟩ := h
    have hT : ∀ H', Same H H' → TyOf K H' (.ref x) (.ref a.C_Add) := fun H' s => .ins (s _ _ hx) T.cl_Add T.ty_Add.1 T.ob1 T.ob2 T.ty_Add.2
    refine' ⟨_, pss_cons ?r0 ?q0, ?_⟩
    (case q0 => (refine' pss_cons ?r1 ?q1; (case q1 => (refine' pss_cons ?r2 ?q2; (case q2 => (refine' pss_cons ?r3 ?q3; (case q3 => (refine' pss_cons ?r4 ?q4; (case q4 => (refine' pss_cons ?r5 ?q5; (case q5 => (refine' pss_one ?r6; (case r6 => exact (ps_ret (pe_and (pe_callB (call_isiK (K := K) rfl) rfl T.z_isinstance b_isinstance (pa_cons (pv 0) (pa_cons (pe_glob (v := .ref a.C_Row) rfl T.c_Row rfl) pa_nil))) (pe_and (pe_cmpR (op_eqK (K := K) rfl hr.units) (pe_bmK (K := K) rfl PySem.F.plainAttrs_list PySem.F.slot_list_count PySem.F.type_list_count mt_countB (pv 2) (pa_cons pe_bl pa_nil)) pe_int (nomark _)) (pe_one (pe_cmpR (op_eqK (K := K) rfl hr.units) (pe_ix (ix_K (K := K) rfl) (pv 3) (pe_bmK (K := K) rfl PySem.F.plainAttrs_list PySem.F.slot_list_index PySem.F.type_list_index mt_indexB (pv 2) (pa_cons pe_bl pa_nil)) (fun _ _ => rfl)) (pv 1) (nomark _))))))))); (case r5 => (refine' ps_set (i := 3) ?a5 ?b5 ?c5 ?d5 ?e5 ?f5; (case a5 => exact sc_law_one_kind.nd); (case b5 => rfl); (case c5 => exact (Or.inl rfl)); (case e5 => rfl); (case f5 => exact .inl rfl); (case d5 => (refine' pe_op (op_plusK (K := K) rfl) ?x5 ?y5; (case x5 => exact (pv 3)); (case y5 => walk_at "pex"))))))); (case r4 => (refine' ps_set (i := 3) ?a4 ?b4 ?c4 ?d4 ?e4 ?f4; (case a4 => exact sc_law_one_kind.nd); (case b4 => rfl); (case c4 => exact (Or.inl rfl)); (case e4 => rfl); (case f4 => exact .inl rfl); (case d4 => walk_at "pex"))))); (case r3 => exact (ps_set (i := 2) sc_law_one_kind.nd rfl (Or.inl rfl) (pe_op (op_plusK (K := K) rfl) (pv 2) (pe_lst (pa_cons (pe_callB (call_isiK (K := K) rfl) rfl T.z_isinstance b_isinstance (pa_cons (pv 0) (pa_cons (pe_glob (v := .ref a.C_Call) rfl T.c_Call rfl) pa_nil))) (pa_cons (pe_callB (call_isiK (K := K) rfl) rfl T.z_isinstance b_isinstance (pa_cons (pv 0) (pa_cons (pe_glob (v := .ref a.C_Back) rfl T.c_Back rfl) pa_nil))) (pa_cons (pe_callB (call_isiK (K := K) rfl) rfl T.z_isinstance b_isinstance (pa_cons (pv 0) (pa_cons (pe_glob (v := .ref a.C_Drop) rfl T.c_Drop rfl) pa_nil))) pa_nil))))))))); (case r2 => exact (ps_set (i := 2) sc_law_one_kind.nd rfl (Or.inl rfl) (pe_op (op_plusK (K := K) rfl) (pv 2) (pe_lst (pa_cons (pe_callB (call_isiK (K := K) rfl) rfl T.z_isinstance b_isinstance (pa_cons (pv 0) (pa_cons (pe_glob (v := .ref a.C_Put) rfl T.c_Put rfl) pa_nil))) (pa_cons (pe_callB (call_isiK (K := K) rfl) rfl T.z_isinstance b_isinstance (pa_cons (pv 0) (pa_cons (pe_glob (v := .ref a.C_Get) rfl T.c_Get rfl) pa_nil))) (pa_cons (pe_callB (call_isiK (K := K) rfl) rfl T.z_isinstance b_isinstance (pa_cons (pv 0) (pa_cons (pe_glob (v := .ref a.C_Jump) rfl T.c_Jump rfl) pa_nil))) (pa_cons (pe_callB (call_isiK (K := K) rfl) rfl T.z_isinstance b_isinstance (pa_cons (pv 0) (pa_cons (pe_glob (v := .ref a.C_Branch) rfl T.c_Branch rfl) pa_nil))) pa_nil)))))))))); (case r1 => exact (ps_set (i := 2) sc_law_one_kind.nd rfl (Or.inl rfl) (pe_op (op_plusK (K := K) rfl) (pv 2) (pe_lst (pa_cons (pe_callB (call_isiK (K := K) rfl) rfl T.z_isinstance b_isinstance (pa_cons (pv 0) (pa_cons (pe_glob (v := .ref a.C_Mul) rfl T.c_Mul rfl) pa_nil))) (pa_cons (pe_callB (call_isiK (K := K) rfl) rfl T.z_isinstance b_isinstance (pa_cons (pv 0) (pa_cons (pe_glob (v := .ref a.C_Less) rfl T.c_Less rfl) pa_nil))) (pa_cons (pe_callB (call_isiK (K := K) rfl) rfl T.z_isinstance b_isinstance (pa_cons (pv 0) (pa_cons (pe_glob (v := .ref a.C_Grow) rfl T.c_Grow rfl) pa_nil))) (pa_cons (pe_callB (call_isiK (K := K) rfl) rfl T.z_isinstance b_isinstance (pa_cons (pv 0) (pa_cons (pe_glob (v := .ref a.C_Shrink) rfl T.c_Shrink rfl) pa_nil))) pa_nil))))))))))
    (case r0 => exact (ps_set (i := 2) sc_law_one_kind.nd rfl (Or.inl rfl) (pe_lst (pa_cons (pe_callB (call_isiK (K := K) rfl) rfl T.z_isinstance b_isinstance (pa_cons (pv 0) (pa_cons (pe_glob (v := .ref a.C_Set) rfl T.c_Set rfl) pa_nil))) (pa_cons (pe_callB (call_isiK (K := K) rfl) rfl T.z_isinstance b_isinstance (pa_cons (pv 0) (pa_cons (pe_glob (v := .ref a.C_Copy) rfl T.c_Copy rfl) pa_nil))) (pa_cons (pe_callB (call_isiK (K := K) rfl) rfl T.z_isinstance b_isinstance (pa_cons (pv 0) (pa_cons (pe_glob (v := .ref a.C_Add) rfl T.c_Add rfl) pa_nil))) (pa_cons (pe_callB (call_isiK (K := K) rfl) rfl T.z_isinstance b_isinstance (pa_cons (pv 0) (pa_cons (pe_glob (v := .ref a.C_Sub) rfl T.c_Sub rfl) pa_nil))) pa_nil)))))))
    refine r_st (σ' := [some _, some _, none, none]) rfl ?_
    walk_at "rd"
    refine r_isi (fun z => nomatch z) (hT _ (by walk_at "same")) T.is_Add_Set ?_
    walk_at "rd"
    refine r_isi (fun z => nomatch z) (hT _ (by walk_at "same")) T.is_Add_Copy ?_
    walk_at "rd"
    refine r_isi (fun z => nomatch z) (hT _ (by walk_at "same")) T.is_Add_Add ?_
    walk_at "rd"
    refine r_isi (fun z => nomatch z) (hT _ (by walk_at "same")) T.is_Add_Sub ?_
    walk_at "rd"
    refine r_isi (fun z => nomatch z) (hT _ (by walk_at "same")) T.is_Add_Mul ?_
    walk_at "rd"
    refine r_isi (fun z => nomatch z) (hT _ (by walk_at "same")) T.is_Add_Less ?_
    walk_at "rd"
    refine r_isi (fun z => nomatch z) (hT _ (by walk_at "same")) T.is_Add_Grow ?_
    walk_at "rd"
    refine r_isi (fun z => nomatch z) (hT _ (by walk_at "same")) T.is_Add_Shrink ?_
    walk_at "rd"
    refine r_plusC ([false, false, true, false, false, false, false, false].map V.bl) rfl (by walk_at "hlk") (by walk_at "hlk") (by walk_at "small") fun b7 hb7 => ?_
    walk_at "rd"
    refine r_isi (fun z => nomatch z) (hT _ (by walk_at "same")) T.is_Add_Put ?_
    walk_at "rd"
    refine r_isi (fun z => nomatch z) (hT _ (by walk_at "same")) T.is_Add_Get ?_
    walk_at "rd"
    refine r_isi (fun z => nomatch z) (hT _ (by walk_at "same")) T.is_Add_Jump ?_
    walk_at "rd"
    refine r_isi (fun z => nomatch z) (hT _ (by walk_at "same")) T.is_Add_Branch ?_
    walk_at "rd"
    refine r_plusC ([false, false, true, false, false, false, false, false, false, false, false, false].map V.bl) rfl (by walk_at "hlk") (by walk_at "hlk") (by walk_at "small") fun b11 hb11 => ?_
    walk_at "rd"
    refine r_isi (fun z => nomatch z) (hT _ (by walk_at "same")) T.is_Add_Call ?_
    walk_at "rd"
    refine r_isi (fun z => nomatch z) (hT _ (by walk_at "same")) T.is_Add_Back ?_
    walk_at "rd"
    refine r_isi (fun z => nomatch z) (hT _ (by walk_at "same")) T.is_Add_Drop ?_
    walk_at "rd"
    refine r_plusC ([false, false, true, false, false, false, false, false, false, false, false, false, false, false, false].map V.bl) rfl (by walk_at "hlk") (by walk_at "hlk") (by walk_at "small") fun b14 hb14 => ?_
    walk_at "rd"
    refine r_plusC [.str "set", .str "copy", .str "add", .str "sub", .str "mul", .str "less", .str "grow", .str "shrink", .str "put", .str "get", .str "jump", .str "branch", .str "call", .str "back", .str "drop"] rfl (by walk_at "hlk") (by walk_at "hlk") (by walk_at "small") fun bw hbw => ?_
    walk_at "rd"
    refine r_isi (fun z => nomatch z) (hT _ (by walk_at "same")) T.is_Add_Row ?_
    walk_at "rd"
    refine r_countB (bs := [false, false, true, false, false, false, false, false, false, false, false, false, false, false, false]) (by walk_at "hlk") ?_
    rw [show ([false, false, true, false, false, false, false, false, false, false, false, false, false, false, false].countP (· == true)) = 1 from by decide]
    walk_at "rd"
    refine r_indexB (bs := [false, false, true, false, false, false, false, false, false, false, false, false, false, false, false]) (j := 2) (by walk_at "hlk") rfl (by decide) ?_
    walk_at "rd"
    exact q _ (by walk_at "same")
end
section
variable {P : Program} {w : World} {K : PySem.W.Frag} {mg : Str → Option Value} {base : Heap} {a : Adr}
local macro_rules | `(tactic| walk_at "pex") => `(tactic| first | (with_reducible exact pe_int) | (with_reducible exact pe_str) | ((with_reducible refine' pe_lst ?x); (case x => walk_at "pax")) | ((with_reducible refine' pe_tup ?x); (case x => walk_at "pax")))
local macro_rules | `(tactic| walk_at "pax") => `(tactic| first | (with_reducible exact pa_nil) | ((with_reducible refine' pa_cons ?x ?y ?z); (case z => rfl); (case x => walk_at "pex"); (case y => walk_at "pax")))
set_option maxHeartbeats 4000000 in
theorem bd_law_one_kind_Sub (T : Txt K mg a) : BodyOk P w K mg base 0 "_law_one_kind" s_law_one_kind ["_law_row", "_law_word", "_law_kinds", "_law_words"] (fun vs H Q _ => ∃ (x : Addr) (w : Str) (b o t : Int), vs = [.ref x, .str w] ∧ OneQ a x w (.sub b o t) H Q) := by
    intro f cdv A outer s H vs Q E hr h
    obtain ⟨x, w, b, o, t, rfl, ⟨dx, hx⟩, q⟩ := h
    have hT : ∀ H', Same H H' → TyOf K H' (.ref x) (.ref a.C_Sub) := fun H' s => .ins (s _ _ hx) T.cl_Sub T.ty_Sub.1 T.ob1 T.ob2 T.ty_Sub.2
    refine' ⟨_, pss_cons ?r0 ?q0, ?_⟩
    (case q0 => (refine' pss_cons ?r1 ?q1; (case q1 => (refine' pss_cons ?r2 ?q2; (case q2 => (refine' pss_cons ?r3 ?q3; (case q3 => (refine' pss_cons ?r4 ?q4; (case q4 => (refine' pss_cons ?r5 ?q5; (case q5 => (refine' pss_one ?r6; (case r6 => exact (ps_ret (pe_and (pe_callB (call_isiK (K := K) rfl) rfl T.z_isinstance b_isinstance (pa_cons (pv 0) (pa_cons (pe_glob (v := .ref a.C_Row) rfl T.c_Row rfl) pa_nil))) (pe_and (pe_cmpR (op_eqK (K := K) rfl hr.units) (pe_bmK (K := K) rfl PySem.F.plainAttrs_list PySem.F.slot_list_count PySem.F.type_list_count mt_countB (pv 2) (pa_cons pe_bl pa_nil)) pe_int (nomark _)) (pe_one (pe_cmpR (op_eqK (K := K) rfl hr.units) (pe_ix (ix_K (K := K) rfl) (pv 3) (pe_bmK (K := K) rfl PySem.F.plainAttrs_list PySem.F.slot_list_index PySem.F.type_list_index mt_indexB (pv 2) (pa_cons pe_bl pa_nil)) (fun _ _ => rfl)) (pv 1) (nomark _))))))))); (case r5 => (refine' ps_set (i := 3) ?a5 ?b5 ?c5 ?d5 ?e5 ?f5; (case a5 => exact sc_law_one_kind.nd); (case b5 => rfl); (case c5 => exact (Or.inl rfl)); (case e5 => rfl); (case f5 => exact .inl rfl); (case d5 => (refine' pe_op (op_plusK (K := K) rfl) ?x5 ?y5; (case x5 => exact (pv 3)); (case y5 => walk_at "pex"))))))); (case r4 => (refine' ps_set (i := 3) ?a4 ?b4 ?c4 ?d4 ?e4 ?f4; (case a4 => exact sc_law_one_kind.nd); (case b4 => rfl); (case c4 => exact (Or.inl rfl)); (case e4 => rfl); (case f4 => exact .inl rfl); (case d4 => walk_at "pex"))))); (case r3 => exact (ps_set (i := 2) sc_law_one_kind.nd rfl (Or.inl rfl) (pe_op (op_plusK (K := K) rfl) (pv 2) (pe_lst (pa_cons (pe_callB (call_isiK (K := K) rfl) rfl T.z_isinstance b_isinstance (pa_cons (pv 0) (pa_cons (pe_glob (v := .ref a.C_Call) rfl T.c_Call rfl) pa_nil))) (pa_cons (pe_callB (call_isiK (K := K) rfl) rfl T.z_isinstance b_isinstance (pa_cons (pv 0) (pa_cons (pe_glob (v := .ref a.C_Back) rfl T.c_Back rfl) pa_nil))) (pa_cons (pe_callB (call_isiK (K := K) rfl) rfl T.z_isinstance b_isinstance (pa_cons (pv 0) (pa_cons (pe_glob (v := .ref a.C_Drop) rfl T.c_Drop rfl) pa_nil))) pa_nil))))))))); (case r2 => exact (ps_set (i := 2) sc_law_one_kind.nd rfl (Or.inl rfl) (pe_op (op_plusK (K := K) rfl) (pv 2) (pe_lst (pa_cons (pe_callB (call_isiK (K := K) rfl) rfl T.z_isinstance b_isinstance (pa_cons (pv 0) (pa_cons (pe_glob (v := .ref a.C_Put) rfl T.c_Put rfl) pa_nil))) (pa_cons (pe_callB (call_isiK (K := K) rfl) rfl T.z_isinstance b_isinstance (pa_cons (pv 0) (pa_cons (pe_glob (v := .ref a.C_Get) rfl T.c_Get rfl) pa_nil))) (pa_cons (pe_callB (call_isiK (K := K) rfl) rfl T.z_isinstance b_isinstance (pa_cons (pv 0) (pa_cons (pe_glob (v := .ref a.C_Jump) rfl T.c_Jump rfl) pa_nil))) (pa_cons (pe_callB (call_isiK (K := K) rfl) rfl T.z_isinstance b_isinstance (pa_cons (pv 0) (pa_cons (pe_glob (v := .ref a.C_Branch) rfl T.c_Branch rfl) pa_nil))) pa_nil)))))))))); (case r1 => exact (ps_set (i := 2) sc_law_one_kind.nd rfl (Or.inl rfl) (pe_op (op_plusK (K := K) rfl) (pv 2) (pe_lst (pa_cons (pe_callB (call_isiK (K := K) rfl) rfl T.z_isinstance b_isinstance (pa_cons (pv 0) (pa_cons (pe_glob (v := .ref a.C_Mul) rfl T.c_Mul rfl) pa_nil))) (pa_cons (pe_callB (call_isiK (K := K) rfl) rfl T.z_isinstance b_isinstance (pa_cons (pv 0) (pa_cons (pe_glob (v := .ref a.C_Less) rfl T.c_Less rfl) pa_nil))) (pa_cons (pe_callB (call_isiK (K := K) rfl) rfl T.z_isinstance b_isinstance (pa_cons (pv 0) (pa_cons (pe_glob (v := .ref a.C_Grow) rfl T.c_Grow rfl) pa_nil))) (pa_cons (pe_callB (call_isiK (K := K) rfl) rfl T.z_isinstance b_isinstance (pa_cons (pv 0) (pa_cons (pe_glob (v := .ref a.C_Shrink) rfl T.c_Shrink rfl) pa_nil))) pa_nil))))))))))
    (case r0 => exact (ps_set (i := 2) sc_law_one_kind.nd rfl (Or.inl rfl) (pe_lst (pa_cons (pe_callB (call_isiK (K := K) rfl) rfl T.z_isinstance b_isinstance (pa_cons (pv 0) (pa_cons (pe_glob (v := .ref a.C_Set) rfl T.c_Set rfl) pa_nil))) (pa_cons (pe_callB (call_isiK (K := K) rfl) rfl T.z_isinstance b_isinstance (pa_cons (pv 0) (pa_cons (pe_glob (v := .ref a.C_Copy) rfl T.c_Copy rfl) pa_nil))) (pa_cons (pe_callB (call_isiK (K := K) rfl) rfl T.z_isinstance b_isinstance (pa_cons (pv 0) (pa_cons (pe_glob (v := .ref a.C_Add) rfl T.c_Add rfl) pa_nil))) (pa_cons (pe_callB (call_isiK (K := K) rfl) rfl T.z_isinstance b_isinstance (pa_cons (pv 0) (pa_cons (pe_glob (v := .ref a.C_Sub) rfl T.c_Sub rfl) pa_nil))) pa_nil)))))))
    refine r_st (σ' := [some _, some _, none, none]) rfl ?_
    walk_at "rd"
    refine r_isi (fun z => nomatch z) (hT _ (by walk_at "same")) T.is_Sub_Set ?_
    walk_at "rd"
    refine r_isi (fun z => nomatch z) (hT _ (by walk_at "same")) T.is_Sub_Copy ?_
    walk_at "rd"
    refine r_isi (fun z => nomatch z) (hT _ (by walk_at "same")) T.is_Sub_Add ?_
    walk_at "rd"
    refine r_isi (fun z => nomatch z) (hT _ (by walk_at "same")) T.is_Sub_Sub ?_
    walk_at "rd"
    refine r_isi (fun z => nomatch z) (hT _ (by walk_at "same")) T.is_Sub_Mul ?_
    walk_at "rd"
    refine r_isi (fun z => nomatch z) (hT _ (by walk_at "same")) T.is_Sub_Less ?_
    walk_at "rd"
    refine r_isi (fun z => nomatch z) (hT _ (by walk_at "same")) T.is_Sub_Grow ?_
    walk_at "rd"
    refine r_isi (fun z => nomatch z) (hT _ (by walk_at "same")) T.is_Sub_Shrink ?_
    walk_at "rd"
    refine r_plusC ([false, false, false, true, false, false, false, false].map V.bl) rfl (by walk_at "hlk") (by walk_at "hlk") (by walk_at "small") fun b7 hb7 => ?_
    walk_at "rd"
    refine r_isi (fun z => nomatch z) (hT _ (by walk_at "same")) T.is_Sub_Put ?_
    walk_at "rd"
    refine r_isi (fun z => nomatch z) (hT _ (by walk_at "same")) T.is_Sub_Get ?_
    walk_at "rd"
    refine r_isi (fun z => nomatch z) (hT _ (by walk_at "same")) T.is_Sub_Jump ?_
    walk_at "rd"
    refine r_isi (fun z => nomatch z) (hT _ (by walk_at "same")) T.is_Sub_Branch ?_
    walk_at "rd"
    refine r_plusC ([false, false, false, true, false, false, false, false, false, false, false, false].map V.bl) rfl (by walk_at "hlk") (by walk_at "hlk") (by walk_at "small") fun b11 hb11 => ?_
    walk_at "rd"
    refine r_isi (fun z => nomatch z) (hT _ (by walk_at "same")) T.is_Sub_Call ?_
    walk_at "rd"
    refine r_isi (fun z => nomatch z) (hT _ (by walk_at "same")) T.is_Sub_Back ?_
    walk_at "rd"
    refine r_isi (fun z => nomatch z) (hT _ (by walk_at "same")) T.is_Sub_Drop ?_
    walk_at "rd"
    refine r_plusC ([false, false, false, true, false, false, false, false, false, false, false, false, false, false, false].map V.bl) rfl (by walk_at "hlk") (by walk_at "hlk") (by walk_at "small") fun b14 hb14 => ?_
    walk_at "rd"
    refine r_plusC [.str "set", .str "copy", .str "add", .str "sub", .str "mul", .str "less", .str "grow", .str "shrink", .str "put", .str "get", .str "jump", .str "branch", .str "call", .str "back", .str "drop"] rfl (by walk_at "hlk") (by walk_at "hlk") (by walk_at "small") fun bw hbw => ?_
    walk_at "rd"
    refine r_isi (fun z => nomatch z) (hT _ (by walk_at "same")) T.is_Sub_Row ?_
    walk_at "rd"
    refine r_countB (bs := [false, false, false, true, false, false, false, false, false, false, false, false, false, false, false]) (by walk_at "hlk") ?_
    rw [show ([false, false, false, true, false, false, false, false, false, false, false, false, false, false, false].countP (· == true)) = 1 from by decide]
    walk_at "rd"
    refine r_indexB (bs := [false, false, false, true, false, false, false, false, false, false, false, false, false, false, false]) (j := 3) (by walk_at "hlk") rfl (by decide) ?_
    walk_at "rd"
    exact q _ (by walk_at "same")
end
section
variable {P : Program} {w : World} {K : PySem.W.Frag} {mg : Str → Option Value} {base : Heap} {a : Adr}
local macro_rules | `(tactic| walk_at "pex") => `(tactic| first | (with_reducible exact pe_int) | (with_reducible exact pe_str) | ((with_reducible refine' pe_lst ?x); (case x => walk_at "pax")) | ((with_reducible refine' pe_tup ?x); (case x => walk_at "pax")))
local macro_rules | `(tactic| walk_at "pax") => `(tactic| first | (with_reducible exact pa_nil) | ((with_reducible refine' pa_cons ?x ?y ?z); (case z => rfl); (case x => walk_at "pex"); (case y => walk_at "pax")))
set_option maxHeartbeats 4000000 in
theorem bd_law_one_kind_Mul (T : Txt K mg a) : BodyOk P w K mg base 0 "_law_one_kind" s_law_one_kind ["_law_row", "_law_word", "_law_kinds", "_law_words"] (fun vs H Q _ => ∃ (x : Addr) (w : Str) (b o t : Int), vs = [.ref x, .str w] ∧ OneQ a x w (.mul b o t) H Q) := by
    intro f cdv A outer s H vs Q E hr h
    obtain ⟨x, w, b, o, t, rfl, ⟨dx, hx⟩, q⟩ := h
    have hT : ∀ H', Same H H' → TyOf K H' (.ref x) (.ref a.C_Mul) := fun H' s => .ins (s _ _ hx) T.cl_Mul T.ty_Mul.1 T.ob1 T.ob2 T.ty_Mul.2
    refine' ⟨_, pss_cons ?r0 ?q0, ?_⟩
    (case q0 => (refine' pss_cons ?r1 ?q1; (case q1 => (refine' pss_cons ?r2 ?q2; (case q2 => (refine' pss_cons ?r3 ?q3; (case q3 => (refine' pss_cons ?r4 ?q4; (case q4 => (refine' pss_cons ?r5 ?q5; (case q5 => (refine' pss_one ?r6; (case r6 => exact (ps_ret (pe_and (pe_callB (call_isiK (K := K) rfl) rfl T.z_isinstance b_isinstance (pa_cons (pv 0) (pa_cons (pe_glob (v := .ref a.C_Row) rfl T.c_Row rfl) pa_nil))) (pe_and (pe_cmpR (op_eqK (K := K) rfl hr.units) (pe_bmK (K := K) rfl PySem.F.plainAttrs_list PySem.F.slot_list_count PySem.F.type_list_count mt_countB (pv 2) (pa_cons pe_bl pa_nil)) pe_int (nomark _)) (pe_one (pe_cmpR (op_eqK (K := K) rfl hr.units) (pe_ix (ix_K (K := K) rfl) (pv 3) (pe_bmK (K := K) rfl PySem.F.plainAttrs_list PySem.F.slot_list_index PySem.F.type_list_index mt_indexB (pv 2) (pa_cons pe_bl pa_nil)) (fun _ _ => rfl)) (pv 1) (nomark _))))))))); (case r5 => (refine' ps_set (i := 3) ?a5 ?b5 ?c5 ?d5 ?e5 ?f5; (case a5 => exact sc_law_one_kind.nd); (case b5 => rfl); (case c5 => exact (Or.inl rfl)); (case e5 => rfl); (case f5 => exact .inl rfl); (case d5 => (refine' pe_op (op_plusK (K := K) rfl) ?x5 ?y5; (case x5 => exact (pv 3)); (case y5 => walk_at "pex"))))))); (case r4 => (refine' ps_set (i := 3) ?a4 ?b4 ?c4 ?d4 ?e4 ?f4; (case a4 => exact sc_law_one_kind.nd); (case b4 => rfl); (case c4 => exact (Or.inl rfl)); (case e4 => rfl); (case f4 => exact .inl rfl); (case d4 => walk_at "pex"))))); (case r3 => exact (ps_set (i := 2) sc_law_one_kind.nd rfl (Or.inl rfl) (pe_op (op_plusK (K := K) rfl) (pv 2) (pe_lst (pa_cons (pe_callB (call_isiK (K := K) rfl) rfl T.z_isinstance b_isinstance (pa_cons (pv 0) (pa_cons (pe_glob (v := .ref a.C_Call) rfl T.c_Call rfl) pa_nil))) (pa_cons (pe_callB (call_isiK (K := K) rfl) rfl T.z_isinstance b_isinstance (pa_cons (pv 0) (pa_cons (pe_glob (v := .ref a.C_Back) rfl T.c_Back rfl) pa_nil))) (pa_cons (pe_callB (call_isiK (K := K) rfl) rfl T.z_isinstance b_isinstance (pa_cons (pv 0) (pa_cons (pe_glob (v := .ref a.C_Drop) rfl T.c_Drop rfl) pa_nil))) pa_nil))))))))); (case r2 => exact (ps_set (i := 2) sc_law_one_kind.nd rfl (Or.inl rfl) (pe_op (op_plusK (K := K) rfl) (pv 2) (pe_lst (pa_cons (pe_callB (call_isiK (K := K) rfl) rfl T.z_isinstance b_isinstance (pa_cons (pv 0) (pa_cons (pe_glob (v := .ref a.C_Put) rfl T.c_Put rfl) pa_nil))) (pa_cons (pe_callB (call_isiK (K := K) rfl) rfl T.z_isinstance b_isinstance (pa_cons (pv 0) (pa_cons (pe_glob (v := .ref a.C_Get) rfl T.c_Get rfl) pa_nil))) (pa_cons (pe_callB (call_isiK (K := K) rfl) rfl T.z_isinstance b_isinstance (pa_cons (pv 0) (pa_cons (pe_glob (v := .ref a.C_Jump) rfl T.c_Jump rfl) pa_nil))) (pa_cons (pe_callB (call_isiK (K := K) rfl) rfl T.z_isinstance b_isinstance (pa_cons (pv 0) (pa_cons (pe_glob (v := .ref a.C_Branch) rfl T.c_Branch rfl) pa_nil))) pa_nil)))))))))); (case r1 => exact (ps_set (i := 2) sc_law_one_kind.nd rfl (Or.inl rfl) (pe_op (op_plusK (K := K) rfl) (pv 2) (pe_lst (pa_cons (pe_callB (call_isiK (K := K) rfl) rfl T.z_isinstance b_isinstance (pa_cons (pv 0) (pa_cons (pe_glob (v := .ref a.C_Mul) rfl T.c_Mul rfl) pa_nil))) (pa_cons (pe_callB (call_isiK (K := K) rfl) rfl T.z_isinstance b_isinstance (pa_cons (pv 0) (pa_cons (pe_glob (v := .ref a.C_Less) rfl T.c_Less rfl) pa_nil))) (pa_cons (pe_callB (call_isiK (K := K) rfl) rfl T.z_isinstance b_isinstance (pa_cons (pv 0) (pa_cons (pe_glob (v := .ref a.C_Grow) rfl T.c_Grow rfl) pa_nil))) (pa_cons (pe_callB (call_isiK (K := K) rfl) rfl T.z_isinstance b_isinstance (pa_cons (pv 0) (pa_cons (pe_glob (v := .ref a.C_Shrink) rfl T.c_Shrink rfl) pa_nil))) pa_nil))))))))))
    (case r0 => exact (ps_set (i := 2) sc_law_one_kind.nd rfl (Or.inl rfl) (pe_lst (pa_cons (pe_callB (call_isiK (K := K) rfl) rfl T.z_isinstance b_isinstance (pa_cons (pv 0) (pa_cons (pe_glob (v := .ref a.C_Set) rfl T.c_Set rfl) pa_nil))) (pa_cons (pe_callB (call_isiK (K := K) rfl) rfl T.z_isinstance b_isinstance (pa_cons (pv 0) (pa_cons (pe_glob (v := .ref a.C_Copy) rfl T.c_Copy rfl) pa_nil))) (pa_cons (pe_callB (call_isiK (K := K) rfl) rfl T.z_isinstance b_isinstance (pa_cons (pv 0) (pa_cons (pe_glob (v := .ref a.C_Add) rfl T.c_Add rfl) pa_nil))) (pa_cons (pe_callB (call_isiK (K := K) rfl) rfl T.z_isinstance b_isinstance (pa_cons (pv 0) (pa_cons (pe_glob (v := .ref a.C_Sub) rfl T.c_Sub rfl) pa_nil))) pa_nil)))))))
    refine r_st (σ' := [some _, some _, none, none]) rfl ?_
    walk_at "rd"
    refine r_isi (fun z => nomatch z) (hT _ (by walk_at "same")) T.is_Mul_Set ?_
    walk_at "rd"
    refine r_isi (fun z => nomatch z) (hT _ (by walk_at "same")) T.is_Mul_Copy ?_
    walk_at "rd"
    refine r_isi (fun z => nomatch z) (hT _ (by walk_at "same")) T.is_Mul_Add ?_
    walk_at "rd"
    refine r_isi (fun z => nomatch z) (hT _ (by walk_at "same")) T.is_Mul_Sub ?_
    walk_at "rd"
    refine r_isi (fun z => nomatch z) (hT _ (by walk_at "same")) T.is_Mul_Mul ?_
    walk_at "rd"
    refine r_isi (fun z => nomatch z) (hT _ (by walk_at "same")) T.is_Mul_Less ?_
    walk_at "rd"
    refine r_isi (fun z => nomatch z) (hT _ (by walk_at "same")) T.is_Mul_Grow ?_
    walk_at "rd"
    refine r_isi (fun z => nomatch z) (hT _ (by walk_at "same")) T.is_Mul_Shrink ?_
    walk_at "rd"
    refine r_plusC ([false, false, false, false, true, false, false, false].map V.bl) rfl (by walk_at "hlk") (by walk_at "hlk") (by walk_at "small") fun b7 hb7 => ?_
    walk_at "rd"
    refine r_isi (fun z => nomatch z) (hT _ (by walk_at "same")) T.is_Mul_Put ?_
    walk_at "rd"
    refine r_isi (fun z => nomatch z) (hT _ (by walk_at "same")) T.is_Mul_Get ?_
    walk_at "rd"
    refine r_isi (fun z => nomatch z) (hT _ (by walk_at "same")) T.is_Mul_Jump ?_
    walk_at "rd"
    refine r_isi (fun z => nomatch z) (hT _ (by walk_at "same")) T.is_Mul_Branch ?_
    walk_at "rd"
    refine r_plusC ([false, false, false, false, true, false, false, false, false, false, false, false].map V.bl) rfl (by walk_at "hlk") (by walk_at "hlk") (by walk_at "small") fun b11 hb11 => ?_
    walk_at "rd"
    refine r_isi (fun z => nomatch z) (hT _ (by walk_at "same")) T.is_Mul_Call ?_
    walk_at "rd"
    refine r_isi (fun z => nomatch z) (hT _ (by walk_at "same")) T.is_Mul_Back ?_
    walk_at "rd"
    refine r_isi (fun z => nomatch z) (hT _ (by walk_at "same")) T.is_Mul_Drop ?_
    walk_at "rd"
    refine r_plusC ([false, false, false, false, true, false, false, false, false, false, false, false, false, false, false].map V.bl) rfl (by walk_at "hlk") (by walk_at "hlk") (by walk_at "small") fun b14 hb14 => ?_
    walk_at "rd"
    refine r_plusC [.str "set", .str "copy", .str "add", .str "sub", .str "mul", .str "less", .str "grow", .str "shrink", .str "put", .str "get", .str "jump", .str "branch", .str "call", .str "back", .str "drop"] rfl (by walk_at "hlk") (by walk_at "hlk") (by walk_at "small") fun bw hbw => ?_
    walk_at "rd"
    refine r_isi (fun z => nomatch z) (hT _ (by walk_at "same")) T.is_Mul_Row ?_
    walk_at "rd"
    refine r_countB (bs := [false, false, false, false, true, false, false, false, false, false, false, false, false, false, false]) (by walk_at "hlk") ?_
    rw [show ([false, false, false, false, true, false, false, false, false, false, false, false, false, false, false].countP (· == true)) = 1 from by decide]
    walk_at "rd"
    refine r_indexB (bs := [false, false, false, false, true, false, false, false, false, false, false, false, false, false, false]) (j := 4) (by walk_at "hlk") rfl (by decide) ?_
    walk_at "rd"
    exact q _ (by walk_at "same")
end
section
variable {P : Program} {w : World} {K : PySem.W.Frag} {mg : Str → Option Value} {base : Heap} {a : Adr}
local macro_rules | `(tactic| walk_at "pex") => `(tactic| first | (with_reducible exact pe_int) | (with_reducible exact pe_str) | ((with_reducible refine' pe_lst ?x); (case x => walk_at "pax")) | ((with_reducible refine' pe_tup ?x); (case x => walk_at "pax")))
local macro_rules | `(tactic| walk_at "pax") => `(tactic| first | (with_reducible exact pa_nil) | ((with_reducible refine' pa_cons ?x ?y ?z); (case z => rfl); (case x => walk_at "pex"); (case y => walk_at "pax")))
set_option maxHeartbeats 4000000 in
theorem bd_law_one_kind_Less (T : Txt K mg a) : BodyOk P w K mg base 0 "_law_one_kind" s_law_one_kind ["_law_row", "_law_word", "_law_kinds", "_law_words"] (fun vs H Q _ => ∃ (x : Addr) (w : Str) (b o t : Int), vs = [.ref x, .str w] ∧ OneQ a x w (.less b o t) H Q) := by
    intro f cdv A outer s H vs Q E hr h
    obtain ⟨x, w, b, o, t, rfl, ⟨dx, hx⟩, q⟩ := h
    have hT : ∀ H', Same H H' → TyOf K H' (.ref x) (.ref a.C_Less) := fun H' s => .ins (s _ _ hx) T.cl_Less T.ty_Less.1 T.ob1 T.ob2 T.ty_Less.2
    refine' ⟨_, pss_cons ?r0 ?q0, ?_⟩
    (case q0 => (refine' pss_cons ?r1 ?q1; (case q1 => (refine' pss_cons ?r2 ?q2; (case q2 => (refine' pss_cons ?r3 ?q3; (case q3 => (refine' pss_cons ?r4 ?q4; (case q4 => (refine' pss_cons ?r5 ?q5; (case q5 => (refine' pss_one ?r6; (case r6 => exact (ps_ret (pe_and (pe_callB (call_isiK (K := K) rfl) rfl T.z_isinstance b_isinstance (pa_cons (pv 0) (pa_cons (pe_glob (v := .ref a.C_Row) rfl T.c_Row rfl) pa_nil))) (pe_and (pe_cmpR (op_eqK (K := K) rfl hr.units) (pe_bmK (K := K) rfl PySem.F.plainAttrs_list PySem.F.slot_list_count PySem.F.type_list_count mt_countB (pv 2) (pa_cons pe_bl pa_nil)) pe_int (nomark _)) (pe_one (pe_cmpR (op_eqK (K := K) rfl hr.units) (pe_ix (ix_K (K := K) rfl) (pv 3) (pe_bmK (K := K) rfl PySem.F.plainAttrs_list PySem.F.slot_list_index PySem.F.type_list_index mt_indexB (pv 2) (pa_cons pe_bl pa_nil)) (fun _ _ => rfl)) (pv 1) (nomark _))))))))); (case r5 => (refine' ps_set (i := 3) ?a5 ?b5 ?c5 ?d5 ?e5 ?f5; (case a5 => exact sc_law_one_kind.nd); (case b5 => rfl); (case c5 => exact (Or.inl rfl)); (case e5 => rfl); (case f5 => exact .inl rfl); (case d5 => (refine' pe_op (op_plusK (K := K) rfl) ?x5 ?y5; (case x5 => exact (pv 3)); (case y5 => walk_at "pex"))))))); (case r4 => (refine' ps_set (i := 3) ?a4 ?b4 ?c4 ?d4 ?e4 ?f4; (case a4 => exact sc_law_one_kind.nd); (case b4 => rfl); (case c4 => exact (Or.inl rfl)); (case e4 => rfl); (case f4 => exact .inl rfl); (case d4 => walk_at "pex"))))); (case r3 => exact (ps_set (i := 2) sc_law_one_kind.nd rfl (Or.inl rfl) (pe_op (op_plusK (K := K) rfl) (pv 2) (pe_lst (pa_cons (pe_callB (call_isiK (K := K) rfl) rfl T.z_isinstance b_isinstance (pa_cons (pv 0) (pa_cons (pe_glob (v := .ref a.C_Call) rfl T.c_Call rfl) pa_nil))) (pa_cons (pe_callB (call_isiK (K := K) rfl) rfl T.z_isinstance b_isinstance (pa_cons (pv 0) (pa_cons (pe_glob (v := .ref a.C_Back) rfl T.c_Back rfl) pa_nil))) (pa_cons (pe_callB (call_isiK (K := K) rfl) rfl T.z_isinstance b_isinstance (pa_cons (pv 0) (pa_cons (pe_glob (v := .ref a.C_Drop) rfl T.c_Drop rfl) pa_nil))) pa_nil))))))))); (case r2 => exact (ps_set (i := 2) sc_law_one_kind.nd rfl (Or.inl rfl) (pe_op (op_plusK (K := K) rfl) (pv 2) (pe_lst (pa_cons (pe_callB (call_isiK (K := K) rfl) rfl T.z_isinstance b_isinstance (pa_cons (pv 0) (pa_cons (pe_glob (v := .ref a.C_Put) rfl T.c_Put rfl) pa_nil))) (pa_cons (pe_callB (call_isiK (K := K) rfl) rfl T.z_isinstance b_isinstance (pa_cons (pv 0) (pa_cons (pe_glob (v := .ref a.C_Get) rfl T.c_Get rfl) pa_nil))) (pa_cons (pe_callB (call_isiK (K := K) rfl) rfl T.z_isinstance b_isinstance (pa_cons (pv 0) (pa_cons (pe_glob (v := .ref a.C_Jump) rfl T.c_Jump rfl) pa_nil))) (pa_cons (pe_callB (call_isiK (K := K) rfl) rfl T.z_isinstance b_isinstance (pa_cons (pv 0) (pa_cons (pe_glob (v := .ref a.C_Branch) rfl T.c_Branch rfl) pa_nil))) pa_nil)))))))))); (case r1 => exact (ps_set (i := 2) sc_law_one_kind.nd rfl (Or.inl rfl) (pe_op (op_plusK (K := K) rfl) (pv 2) (pe_lst (pa_cons (pe_callB (call_isiK (K := K) rfl) rfl T.z_isinstance b_isinstance (pa_cons (pv 0) (pa_cons (pe_glob (v := .ref a.C_Mul) rfl T.c_Mul rfl) pa_nil))) (pa_cons (pe_callB (call_isiK (K := K) rfl) rfl T.z_isinstance b_isinstance (pa_cons (pv 0) (pa_cons (pe_glob (v := .ref a.C_Less) rfl T.c_Less rfl) pa_nil))) (pa_cons (pe_callB (call_isiK (K := K) rfl) rfl T.z_isinstance b_isinstance (pa_cons (pv 0) (pa_cons (pe_glob (v := .ref a.C_Grow) rfl T.c_Grow rfl) pa_nil))) (pa_cons (pe_callB (call_isiK (K := K) rfl) rfl T.z_isinstance b_isinstance (pa_cons (pv 0) (pa_cons (pe_glob (v := .ref a.C_Shrink) rfl T.c_Shrink rfl) pa_nil))) pa_nil))))))))))
    (case r0 => exact (ps_set (i := 2) sc_law_one_kind.nd rfl (Or.inl rfl) (pe_lst (pa_cons (pe_callB (call_isiK (K := K) rfl) rfl T.z_isinstance b_isinstance (pa_cons (pv 0) (pa_cons (pe_glob (v := .ref a.C_Set) rfl T.c_Set rfl) pa_nil))) (pa_cons (pe_callB (call_isiK (K := K) rfl) rfl T.z_isinstance b_isinstance (pa_cons (pv 0) (pa_cons (pe_glob (v := .ref a.C_Copy) rfl T.c_Copy rfl) pa_nil))) (pa_cons (pe_callB (call_isiK (K := K) rfl) rfl T.z_isinstance b_isinstance (pa_cons (pv 0) (pa_cons (pe_glob (v := .ref a.C_Add) rfl T.c_Add rfl) pa_nil))) (pa_cons (pe_callB (call_isiK (K := K) rfl) rfl T.z_isinstance b_isinstance (pa_cons (pv 0) (pa_cons (pe_glob (v := .ref a.C_Sub) rfl T.c_Sub rfl) pa_nil))) pa_nil)))))))
    refine r_st (σ' := [some _, some _, none, none]) rfl ?_
    walk_at "rd"
    refine r_isi (fun z => nomatch z) (hT _ (by walk_at "same")) T.is_Less_Set ?_
    walk_at "rd"
    refine r_isi (fun z => nomatch z) (hT _ (by walk_at "same")) T.is_Less_Copy ?_
    walk_at "rd"
    refine r_isi (fun z => nomatch z) (hT _ (by walk_at "same")) T.is_Less_Add ?_
    walk_at "rd"
    refine r_isi (fun z => nomatch z) (hT _ (by walk_at "same")) T.is_Less_Sub ?_
    walk_at "rd"
    refine r_isi (fun z => nomatch z) (hT _ (by walk_at "same")) T.is_Less_Mul ?_
    walk_at "rd"
    refine r_isi (fun z => nomatch z) (hT _ (by walk_at "same")) T.is_Less_Less ?_
    walk_at "rd"
    refine r_isi (fun z => nomatch z) (hT _ (by walk_at "same")) T.is_Less_Grow ?_
    walk_at "rd"
    refine r_isi (fun z => nomatch z) (hT _ (by walk_at "same")) T.is_Less_Shrink ?_
    walk_at "rd"
    refine r_plusC ([false, false, false, false, false, true, false, false].map V.bl) rfl (by walk_at "hlk") (by walk_at "hlk") (by walk_at "small") fun b7 hb7 => ?_
    walk_at "rd"
    refine r_isi (fun z => nomatch z) (hT _ (by walk_at "same")) T.is_Less_Put ?_
    walk_at "rd"
    refine r_isi (fun z => nomatch z) (hT _ (by walk_at "same")) T.is_Less_Get ?_
    walk_at "rd"
    refine r_isi (fun z => nomatch z) (hT _ (by walk_at "same")) T.is_Less_Jump ?_
    walk_at "rd"
    refine r_isi (fun z => nomatch z) (hT _ (by walk_at "same")) T.is_Less_Branch ?_
    walk_at "rd"
    refine r_plusC ([false, false, false, false, false, true, false, false, false, false, false, false].map V.bl) rfl (by walk_at "hlk") (by walk_at "hlk") (by walk_at "small") fun b11 hb11 => ?_
    walk_at "rd"
    refine r_isi (fun z => nomatch z) (hT _ (by walk_at "same")) T.is_Less_Call ?_
    walk_at "rd"
    refine r_isi (fun z => nomatch z) (hT _ (by walk_at "same")) T.is_Less_Back ?_
    walk_at "rd"
    refine r_isi (fun z => nomatch z) (hT _ (by walk_at "same")) T.is_Less_Drop ?_
    walk_at "rd"
    refine r_plusC ([false, false, false, false, false, true, false, false, false, false, false, false, false, false, false].map V.bl) rfl (by walk_at "hlk") (by walk_at "hlk") (by walk_at "small") fun b14 hb14 => ?_
    walk_at "rd"
    refine r_plusC [.str "set", .str "copy", .str "add", .str "sub", .str "mul", .str "less", .str "grow", .str "shrink", .str "put", .str "get", .str "jump", .str "branch", .str "call", .str "back", .str "drop"] rfl (by walk_at "hlk") (by walk_at "hlk") (by walk_at "small") fun bw hbw => ?_
    walk_at "rd"
    refine r_isi (fun z => nomatch z) (hT _ (by walk_at "same")) T.is_Less_Row ?_
    walk_at "rd"
    refine r_countB (bs := [false, false, false, false, false, true, false, false, false, false, false, false, false, false, false]) (by walk_at "hlk") ?_
    rw [show ([false, false, false, false, false, true, false, false, false, false, false, false, false, false, false].countP (· == true)) = 1 from by decide]
    walk_at "rd"
    refine r_indexB (bs := [false, false, false, false, false, true, false, false, false, false, false, false, false, false, false]) (j := 5) (by walk_at "hlk") rfl (by decide) ?_
    walk_at "rd"
    exact q _ (by walk_at "same")
end
section
variable {P : Program} {w : World} {K : PySem.W.Frag} {mg : Str → Option Value} {base : Heap} {a : Adr}
local macro_rules | `(tactic| walk_at "pex") => `(tactic| first | (with_reducible exact pe_int) | (with_reducible exact pe_str) | ((with_reducible refine' pe_lst ?x); (case x => walk_at "pax")) | ((with_reducible refine' pe_tup ?x); (case x => walk_at "pax")))
local macro_rules | `(tactic| walk_at "pax") => `(tactic| first | (with_reducible exact pa_nil) | ((with_reducible refine' pa_cons ?x ?y ?z); (case z => rfl); (case x => walk_at "pex"); (case y => walk_at "pax")))
set_option maxHeartbeats 4000000 in
theorem bd_law_one_kind_Grow (T : Txt K mg a) : BodyOk P w K mg base 0 "_law_one_kind" s_law_one_kind ["_law_row", "_law_word", "_law_kinds", "_law_words"] (fun vs H Q _ => ∃ (x : Addr) (w : Str) (m : Int), vs = [.ref x, .str w] ∧ OneQ a x w (.grow m) H Q) := by
    intro f cdv A outer s H vs Q E hr h
    obtain ⟨x, w, m, rfl, ⟨dx, hx⟩, q⟩ := h
    have hT : ∀ H', Same H H' → TyOf K H' (.ref x) (.ref a.C_Grow) := fun H' s => .ins (s _ _ hx) T.cl_Grow T.ty_Grow.1 T.ob1 T.ob2 T.ty_Grow.2
    refine' ⟨_, pss_cons ?r0 ?q0, ?_⟩
    (case q0 => (refine' pss_cons ?r1 ?q1; (case q1 => (refine' pss_cons ?r2 ?q2; (case q2 => (refine' pss_cons ?r3 ?q3; (case q3 => (refine' pss_cons ?r4 ?q4; (case q4 => (refine' pss_cons ?r5 ?q5; (case q5 => (refine' pss_one ?r6; (case r6 => exact (ps_ret (pe_and (pe_callB (call_isiK (K := K) rfl) rfl T.z_isinstance b_isinstance (pa_cons (pv 0) (pa_cons (pe_glob (v := .ref a.C_Row) rfl T.c_Row rfl) pa_nil))) (pe_and (pe_cmpR (op_eqK (K := K) rfl hr.units) (pe_bmK (K := K) rfl PySem.F.plainAttrs_list PySem.F.slot_list_count PySem.F.type_list_count mt_countB (pv 2) (pa_cons pe_bl pa_nil)) pe_int (nomark _)) (pe_one (pe_cmpR (op_eqK (K := K) rfl hr.units) (pe_ix (ix_K (K := K) rfl) (pv 3) (pe_bmK (K := K) rfl PySem.F.plainAttrs_list PySem.F.slot_list_index PySem.F.type_list_index mt_indexB (pv 2) (pa_cons pe_bl pa_nil)) (fun _ _ => rfl)) (pv 1) (nomark _))))))))); (case r5 => (refine' ps_set (i := 3) ?a5 ?b5 ?c5 ?d5 ?e5 ?f5; (case a5 => exact sc_law_one_kind.nd); (case b5 => rfl); (case c5 => exact (Or.inl rfl)); (case e5 => rfl); (case f5 => exact .inl rfl); (case d5 => (refine' pe_op (op_plusK (K := K) rfl) ?x5 ?y5; (case x5 => exact (pv 3)); (case y5 => walk_at "pex"))))))); (case r4 => (refine' ps_set (i := 3) ?a4 ?b4 ?c4 ?d4 ?e4 ?f4; (case a4 => exact sc_law_one_kind.nd); (case b4 => rfl); (case c4 => exact (Or.inl rfl)); (case e4 => rfl); (case f4 => exact .inl rfl); (case d4 => walk_at "pex"))))); (case r3 => exact (ps_set (i := 2) sc_law_one_kind.nd rfl (Or.inl rfl) (pe_op (op_plusK (K := K) rfl) (pv 2) (pe_lst (pa_cons (pe_callB (call_isiK (K := K) rfl) rfl T.z_isinstance b_isinstance (pa_cons (pv 0) (pa_cons (pe_glob (v := .ref a.C_Call) rfl T.c_Call rfl) pa_nil))) (pa_cons (pe_callB (call_isiK (K := K) rfl) rfl T.z_isinstance b_isinstance (pa_cons (pv 0) (pa_cons (pe_glob (v := .ref a.C_Back) rfl T.c_Back rfl) pa_nil))) (pa_cons (pe_callB (call_isiK (K := K) rfl) rfl T.z_isinstance b_isinstance (pa_cons (pv 0) (pa_cons (pe_glob (v := .ref a.C_Drop) rfl T.c_Drop rfl) pa_nil))) pa_nil))))))))); (case r2 => exact (ps_set (i := 2) sc_law_one_kind.nd rfl (Or.inl rfl) (pe_op (op_plusK (K := K) rfl) (pv 2) (pe_lst (pa_cons (pe_callB (call_isiK (K := K) rfl) rfl T.z_isinstance b_isinstance (pa_cons (pv 0) (pa_cons (pe_glob (v := .ref a.C_Put) rfl T.c_Put rfl) pa_nil))) (pa_cons (pe_callB (call_isiK (K := K) rfl) rfl T.z_isinstance b_isinstance (pa_cons (pv 0) (pa_cons (pe_glob (v := .ref a.C_Get) rfl T.c_Get rfl) pa_nil))) (pa_cons (pe_callB (call_isiK (K := K) rfl) rfl T.z_isinstance b_isinstance (pa_cons (pv 0) (pa_cons (pe_glob (v := .ref a.C_Jump) rfl T.c_Jump rfl) pa_nil))) (pa_cons (pe_callB (call_isiK (K := K) rfl) rfl T.z_isinstance b_isinstance (pa_cons (pv 0) (pa_cons (pe_glob (v := .ref a.C_Branch) rfl T.c_Branch rfl) pa_nil))) pa_nil)))))))))); (case r1 => exact (ps_set (i := 2) sc_law_one_kind.nd rfl (Or.inl rfl) (pe_op (op_plusK (K := K) rfl) (pv 2) (pe_lst (pa_cons (pe_callB (call_isiK (K := K) rfl) rfl T.z_isinstance b_isinstance (pa_cons (pv 0) (pa_cons (pe_glob (v := .ref a.C_Mul) rfl T.c_Mul rfl) pa_nil))) (pa_cons (pe_callB (call_isiK (K := K) rfl) rfl T.z_isinstance b_isinstance (pa_cons (pv 0) (pa_cons (pe_glob (v := .ref a.C_Less) rfl T.c_Less rfl) pa_nil))) (pa_cons (pe_callB (call_isiK (K := K) rfl) rfl T.z_isinstance b_isinstance (pa_cons (pv 0) (pa_cons (pe_glob (v := .ref a.C_Grow) rfl T.c_Grow rfl) pa_nil))) (pa_cons (pe_callB (call_isiK (K := K) rfl) rfl T.z_isinstance b_isinstance (pa_cons (pv 0) (pa_cons (pe_glob (v := .ref a.C_Shrink) rfl T.c_Shrink rfl) pa_nil))) pa_nil))))))))))
    (case r0 => exact (ps_set (i := 2) sc_law_one_kind.nd rfl (Or.inl rfl) (pe_lst (pa_cons (pe_callB (call_isiK (K := K) rfl) rfl T.z_isinstance b_isinstance (pa_cons (pv 0) (pa_cons (pe_glob (v := .ref a.C_Set) rfl T.c_Set rfl) pa_nil))) (pa_cons (pe_callB (call_isiK (K := K) rfl) rfl T.z_isinstance b_isinstance (pa_cons (pv 0) (pa_cons (pe_glob (v := .ref a.C_Copy) rfl T.c_Copy rfl) pa_nil))) (pa_cons (pe_callB (call_isiK (K := K) rfl) rfl T.z_isinstance b_isinstance (pa_cons (pv 0) (pa_cons (pe_glob (v := .ref a.C_Add) rfl T.c_Add rfl) pa_nil))) (pa_cons (pe_callB (call_isiK (K := K) rfl) rfl T.z_isinstance b_isinstance (pa_cons (pv 0) (pa_cons (pe_glob (v := .ref a.C_Sub) rfl T.c_Sub rfl) pa_nil))) pa_nil)))))))
    refine r_st (σ' := [some _, some _, none, none]) rfl ?_
    walk_at "rd"
    refine r_isi (fun z => nomatch z) (hT _ (by walk_at "same")) T.is_Grow_Set ?_
    walk_at "rd"
    refine r_isi (fun z => nomatch z) (hT _ (by walk_at "same")) T.is_Grow_Copy ?_
    walk_at "rd"
    refine r_isi (fun z => nomatch z) (hT _ (by walk_at "same")) T.is_Grow_Add ?_
    walk_at "rd"
    refine r_isi (fun z => nomatch z) (hT _ (by walk_at "same")) T.is_Grow_Sub ?_
    walk_at "rd"
    refine r_isi (fun z => nomatch z) (hT _ (by walk_at "same")) T.is_Grow_Mul ?_
    walk_at "rd"
    refine r_isi (fun z => nomatch z) (hT _ (by walk_at "same")) T.is_Grow_Less ?_
    walk_at "rd"
    refine r_isi (fun z => nomatch z) (hT _ (by walk_at "same")) T.is_Grow_Grow ?_
    walk_at "rd"
    refine r_isi (fun z => nomatch z) (hT _ (by walk_at "same")) T.is_Grow_Shrink ?_
    walk_at "rd"
    refine r_plusC ([false, false, false, false, false, false, true, false].map V.bl) rfl (by walk_at "hlk") (by walk_at "hlk") (by walk_at "small") fun b7 hb7 => ?_
    walk_at "rd"
    refine r_isi (fun z => nomatch z) (hT _ (by walk_at "same")) T.is_Grow_Put ?_
    walk_at "rd"
    refine r_isi (fun z => nomatch z) (hT _ (by walk_at "same")) T.is_Grow_Get ?_
    walk_at "rd"
    refine r_isi (fun z => nomatch z) (hT _ (by walk_at "same")) T.is_Grow_Jump ?_
    walk_at "rd"
    refine r_isi (fun z => nomatch z) (hT _ (by walk_at "same")) T.is_Grow_Branch ?_
    walk_at "rd"
    refine r_plusC ([false, false, false, false, false, false, true, false, false, false, false, false].map V.bl) rfl (by walk_at "hlk") (by walk_at "hlk") (by walk_at "small") fun b11 hb11 => ?_
    walk_at "rd"
    refine r_isi (fun z => nomatch z) (hT _ (by walk_at "same")) T.is_Grow_Call ?_
    walk_at "rd"
    refine r_isi (fun z => nomatch z) (hT _ (by walk_at "same")) T.is_Grow_Back ?_
    walk_at "rd"
    refine r_isi (fun z => nomatch z) (hT _ (by walk_at "same")) T.is_Grow_Drop ?_
    walk_at "rd"
    refine r_plusC ([false, false, false, false, false, false, true, false, false, false, false, false, false, false, false].map V.bl) rfl (by walk_at "hlk") (by walk_at "hlk") (by walk_at "small") fun b14 hb14 => ?_
    walk_at "rd"
    refine r_plusC [.str "set", .str "copy", .str "add", .str "sub", .str "mul", .str "less", .str "grow", .str "shrink", .str "put", .str "get", .str "jump", .str "branch", .str "call", .str "back", .str "drop"] rfl (by walk_at "hlk") (by walk_at "hlk") (by walk_at "small") fun bw hbw => ?_
    walk_at "rd"
    refine r_isi (fun z => nomatch z) (hT _ (by walk_at "same")) T.is_Grow_Row ?_
    walk_at "rd"
    refine r_countB (bs := [false, false, false, false, false, false, true, false, false, false, false, false, false, false, false]) (by walk_at "hlk") ?_
    rw [show ([false, false, false, false, false, false, true, false, false, false, false, false, false, false, false].countP (· == true)) = 1 from by decide]
    walk_at "rd"
    refine r_indexB (bs := [false, false, false, false, false, false, true, false, false, false, false, false, false, false, false]) (j := 6) (by walk_at "hlk") rfl (by decide) ?_
    walk_at "rd"
    exact q _ (by walk_at "same")
end
section
variable {P : Program} {w : World} {K : PySem.W.Frag} {mg : Str → Option Value} {base : Heap} {a : Adr}
local macro_rules | `(tactic| walk_at "pex") => `(tactic| first | (with_reducible exact pe_int) | (with_reducible exact pe_str) | ((with_reducible refine' pe_lst ?x); (case x => walk_at "pax")) | ((with_reducible refine' pe_tup ?x); (case x => walk_at "pax")))
local macro_rules | `(tactic| walk_at "pax") => `(tactic| first | (with_reducible exact pa_nil) | ((with_reducible refine' pa_cons ?x ?y ?z); (case z => rfl); (case x => walk_at "pex"); (case y => walk_at "pax")))
set_option maxHeartbeats 4000000 in
theorem bd_law_one_kind_Shrink (T : Txt K mg a) : BodyOk P w K mg base 0 "_law_one_kind" s_law_one_kind ["_law_row", "_law_word", "_law_kinds", "_law_words"] (fun vs H Q _ => ∃ (x : Addr) (w : Str) (m : Int), vs = [.ref x, .str w] ∧ OneQ a x w (.shrink m) H Q) := by
    intro f cdv A outer s H vs Q E hr h
    obtain ⟨x, w, m, rfl, ⟨dx, hx⟩, q⟩ := h
    have hT : ∀ H', Same H H' → TyOf K H' (.ref x) (.ref a.C_Shrink) := fun H' s => .ins (s _ _ hx) T.cl_Shrink T.ty_Shrink.1 T.ob1 T.ob2 T.ty_Shrink.2
    refine' ⟨_, pss_cons ?r0 ?q0, ?_⟩
    (case q0 => (refine' pss_cons ?r1 ?q1; (case q1 => (refine' pss_cons ?r2 ?q2; (case q2 => (refine' pss_cons ?r3 ?q3; (case q3 => (refine' pss_cons ?r4 ?q4; (case q4 => (refine' pss_cons ?r5 ?q5; (case q5 => (refine' pss_one ?r6; (case r6 => exact (ps_ret (pe_and (pe_callB (call_isiK (K := K) rfl) rfl T.z_isinstance b_isinstance (pa_cons (pv 0) (pa_cons (pe_glob (v := .ref a.C_Row) rfl T.c_Row rfl) pa_nil))) (pe_and (pe_cmpR (op_eqK (K := K) rfl hr.units) (pe_bmK (K := K) rfl PySem.F.plainAttrs_list PySem.F.slot_list_count PySem.F.type_list_count mt_countB (pv 2) (pa_cons pe_bl pa_nil)) pe_int (nomark _)) (pe_one (pe_cmpR (op_eqK (K := K) rfl hr.units) (pe_ix (ix_K (K := K) rfl) (pv 3) (pe_bmK (K := K) rfl PySem.F.plainAttrs_list PySem.F.slot_list_index PySem.F.type_list_index mt_indexB (pv 2) (pa_cons pe_bl pa_nil)) (fun _ _ => rfl)) (pv 1) (nomark _))))))))); (case r5 => (refine' ps_set (i := 3) ?a5 ?b5 ?c5 ?d5 ?e5 ?f5; (case a5 => exact sc_law_one_kind.nd); (case b5 => rfl); (case c5 => exact (Or.inl rfl)); (case e5 => rfl); (case f5 => exact .inl rfl); (case d5 => (refine' pe_op (op_plusK (K := K) rfl) ?x5 ?y5; (case x5 => exact (pv 3)); (case y5 => walk_at "pex"))))))); (case r4 => (refine' ps_set (i := 3) ?a4 ?b4 ?c4 ?d4 ?e4 ?f4; (case a4 => exact sc_law_one_kind.nd); (case b4 => rfl); (case c4 => exact (Or.inl rfl)); (case e4 => rfl); (case f4 => exact .inl rfl); (case d4 => walk_at "pex"))))); (case r3 => exact (ps_set (i := 2) sc_law_one_kind.nd rfl (Or.inl rfl) (pe_op (op_plusK (K := K) rfl) (pv 2) (pe_lst (pa_cons (pe_callB (call_isiK (K := K) rfl) rfl T.z_isinstance b_isinstance (pa_cons (pv 0) (pa_cons (pe_glob (v := .ref a.C_Call) rfl T.c_Call rfl) pa_nil))) (pa_cons (pe_callB (call_isiK (K := K) rfl) rfl T.z_isinstance b_isinstance (pa_cons (pv 0) (pa_cons (pe_glob (v := .ref a.C_Back) rfl T.c_Back rfl) pa_nil))) (pa_cons (pe_callB (call_isiK (K := K) rfl) rfl T.z_isinstance b_isinstance (pa_cons (pv 0) (pa_cons (pe_glob (v := .ref a.C_Drop) rfl T.c_Drop rfl) pa_nil))) pa_nil))))))))); (case r2 => exact (ps_set (i := 2) sc_law_one_kind.nd rfl (Or.inl rfl) (pe_op (op_plusK (K := K) rfl) (pv 2) (pe_lst (pa_cons (pe_callB (call_isiK (K := K) rfl) rfl T.z_isinstance b_isinstance (pa_cons (pv 0) (pa_cons (pe_glob (v := .ref a.C_Put) rfl T.c_Put rfl) pa_nil))) (pa_cons (pe_callB (call_isiK (K := K) rfl) rfl T.z_isinstance b_isinstance (pa_cons (pv 0) (pa_cons (pe_glob (v := .ref a.C_Get) rfl T.c_Get rfl) pa_nil))) (pa_cons (pe_callB (call_isiK (K := K) rfl) rfl T.z_isinstance b_isinstance (pa_cons (pv 0) (pa_cons (pe_glob (v := .ref a.C_Jump) rfl T.c_Jump rfl) pa_nil))) (pa_cons (pe_callB (call_isiK (K := K) rfl) rfl T.z_isinstance b_isinstance (pa_cons (pv 0) (pa_cons (pe_glob (v := .ref a.C_Branch) rfl T.c_Branch rfl) pa_nil))) pa_nil)))))))))); (case r1 => exact (ps_set (i := 2) sc_law_one_kind.nd rfl (Or.inl rfl) (pe_op (op_plusK (K := K) rfl) (pv 2) (pe_lst (pa_cons (pe_callB (call_isiK (K := K) rfl) rfl T.z_isinstance b_isinstance (pa_cons (pv 0) (pa_cons (pe_glob (v := .ref a.C_Mul) rfl T.c_Mul rfl) pa_nil))) (pa_cons (pe_callB (call_isiK (K := K) rfl) rfl T.z_isinstance b_isinstance (pa_cons (pv 0) (pa_cons (pe_glob (v := .ref a.C_Less) rfl T.c_Less rfl) pa_nil))) (pa_cons (pe_callB (call_isiK (K := K) rfl) rfl T.z_isinstance b_isinstance (pa_cons (pv 0) (pa_cons (pe_glob (v := .ref a.C_Grow) rfl T.c_Grow rfl) pa_nil))) (pa_cons (pe_callB (call_isiK (K := K) rfl) rfl T.z_isinstance b_isinstance (pa_cons (pv 0) (pa_cons (pe_glob (v := .ref a.C_Shrink) rfl T.c_Shrink rfl) pa_nil))) pa_nil))))))))))
    (case r0 => exact (ps_set (i := 2) sc_law_one_kind.nd rfl (Or.inl rfl) (pe_lst (pa_cons (pe_callB (call_isiK (K := K) rfl) rfl T.z_isinstance b_isinstance (pa_cons (pv 0) (pa_cons (pe_glob (v := .ref a.C_Set) rfl T.c_Set rfl) pa_nil))) (pa_cons (pe_callB (call_isiK (K := K) rfl) rfl T.z_isinstance b_isinstance (pa_cons (pv 0) (pa_cons (pe_glob (v := .ref a.C_Copy) rfl T.c_Copy rfl) pa_nil))) (pa_cons (pe_callB (call_isiK (K := K) rfl) rfl T.z_isinstance b_isinstance (pa_cons (pv 0) (pa_cons (pe_glob (v := .ref a.C_Add) rfl T.c_Add rfl) pa_nil))) (pa_cons (pe_callB (call_isiK (K := K) rfl) rfl T.z_isinstance b_isinstance (pa_cons (pv 0) (pa_cons (pe_glob (v := .ref a.C_Sub) rfl T.c_Sub rfl) pa_nil))) pa_nil)))))))
    refine r_st (σ' := [some _, some _, none, none]) rfl ?_
    walk_at "rd"
    refine r_isi (fun z => nomatch z) (hT _ (by walk_at "same")) T.is_Shrink_Set ?_
    walk_at "rd"
    refine r_isi (fun z => nomatch z) (hT _ (by walk_at "same")) T.is_Shrink_Copy ?_
    walk_at "rd"
    refine r_isi (fun z => nomatch z) (hT _ (by walk_at "same")) T.is_Shrink_Add ?_
    walk_at "rd"
    refine r_isi (fun z => nomatch z) (hT _ (by walk_at "same")) T.is_Shrink_Sub ?_
    walk_at "rd"
    refine r_isi (fun z => nomatch z) (hT _ (by walk_at "same")) T.is_Shrink_Mul ?_
    walk_at "rd"
    refine r_isi (fun z => nomatch z) (hT _ (by walk_at "same")) T.is_Shrink_Less ?_
    walk_at "rd"
    refine r_isi (fun z => nomatch z) (hT _ (by walk_at "same")) T.is_Shrink_Grow ?_
    walk_at "rd"
    refine r_isi (fun z => nomatch z) (hT _ (by walk_at "same")) T.is_Shrink_Shrink ?_
    walk_at "rd"
    refine r_plusC ([false, false, false, false, false, false, false, true].map V.bl) rfl (by walk_at "hlk") (by walk_at "hlk") (by walk_at "small") fun b7 hb7 => ?_
    walk_at "rd"
    refine r_isi (fun z => nomatch z) (hT _ (by walk_at "same")) T.is_Shrink_Put ?_
    walk_at "rd"
    refine r_isi (fun z => nomatch z) (hT _ (by walk_at "same")) T.is_Shrink_Get ?_
    walk_at "rd"
    refine r_isi (fun z => nomatch z) (hT _ (by walk_at "same")) T.is_Shrink_Jump ?_
    walk_at "rd"
    refine r_isi (fun z => nomatch z) (hT _ (by walk_at "same")) T.is_Shrink_Branch ?_
    walk_at "rd"
    refine r_plusC ([false, false, false, false, false, false, false, true, false, false, false, false].map V.bl) rfl (by walk_at "hlk") (by walk_at "hlk") (by walk_at "small") fun b11 hb11 => ?_
    walk_at "rd"
    refine r_isi (fun z => nomatch z) (hT _ (by walk_at "same")) T.is_Shrink_Call ?_
    walk_at "rd"
    refine r_isi (fun z => nomatch z) (hT _ (by walk_at "same")) T.is_Shrink_Back ?_
    walk_at "rd"
    refine r_isi (fun z => nomatch z) (hT _ (by walk_at "same")) T.is_Shrink_Drop ?_
    walk_at "rd"
    refine r_plusC ([false, false, false, false, false, false, false, true, false, false, false, false, false, false, false].map V.bl) rfl (by walk_at "hlk") (by walk_at "hlk") (by walk_at "small") fun b14 hb14 => ?_
    walk_at "rd"
    refine r_plusC [.str "set", .str "copy", .str "add", .str "sub", .str "mul", .str "less", .str "grow", .str "shrink", .str "put", .str "get", .str "jump", .str "branch", .str "call", .str "back", .str "drop"] rfl (by walk_at "hlk") (by walk_at "hlk") (by walk_at "small") fun bw hbw => ?_
    walk_at "rd"
    refine r_isi (fun z => nomatch z) (hT _ (by walk_at "same")) T.is_Shrink_Row ?_
    walk_at "rd"
    refine r_countB (bs := [false, false, false, false, false, false, false, true, false, false, false, false, false, false, false]) (by walk_at "hlk") ?_
    rw [show ([false, false, false, false, false, false, false, true, false, false, false, false, false, false, false].countP (· == true)) = 1 from by decide]
    walk_at "rd"
    refine r_indexB (bs := [false, false, false, false, false, false, false, true, false, false, false, false, false, false, false]) (j := 7) (by walk_at "hlk") rfl (by decide) ?_
    walk_at "rd"
    exact q _ (by walk_at "same")
end
section
variable {P : Program} {w : World} {K : PySem.W.Frag} {mg : Str → Option Value} {base : Heap} {a : Adr}
local macro_rules | `(tactic| walk_at "pex") => `(tactic| first | (with_reducible exact pe_int) | (with_reducible exact pe_str) | ((with_reducible refine' pe_lst ?x); (case x => walk_at "pax")) | ((with_reducible refine' pe_tup ?x); (case x => walk_at "pax")))
local macro_rules | `(tactic| walk_at "pax") => `(tactic| first | (with_reducible exact pa_nil) | ((with_reducible refine' pa_cons ?x ?y ?z); (case z => rfl); (case x => walk_at "pex"); (case y => walk_at "pax")))
set_option maxHeartbeats 4000000 in
theorem bd_law_one_kind_Put (T : Txt K mg a) : BodyOk P w K mg base 0 "_law_one_kind" s_law_one_kind ["_law_row", "_law_word", "_law_kinds", "_law_words"] (fun vs H Q _ => ∃ (x : Addr) (w : Str) (b c : Int), vs = [.ref x, .str w] ∧ OneQ a x w (.put b c) H Q) := by
    intro f cdv A outer s H vs Q E hr h
    obtain ⟨x, w, b, c, rfl, ⟨dx, hx⟩, q⟩ := h
    have hT : ∀ H', Same H H' → TyOf K H' (.ref x) (.ref a.C_Put) := fun H' s => .ins (s _ _ hx) T.cl_Put T.ty_Put.1 T.ob1 T.ob2 T.ty_Put.2
    refine' ⟨_, pss_cons ?r0 ?q0, ?_⟩
    (case q0 => (refine' pss_cons ?r1 ?q1; (case q1 => (refine' pss_cons ?r2 ?q2; (case q2 => (refine' pss_cons ?r3 ?q3; (case q3 => (refine' pss_cons ?r4 ?q4; (case q4 => (refine' pss_cons ?r5 ?q5; (case q5 => (refine' pss_one ?r6; (case r6 => exact (ps_ret (pe_and (pe_callB (call_isiK (K := K) rfl) rfl T.z_isinstance b_isinstance (pa_cons (pv 0) (pa_cons (pe_glob (v := .ref a.C_Row) rfl T.c_Row rfl) pa_nil))) (pe_and (pe_cmpR (op_eqK (K := K) rfl hr.units) (pe_bmK (K := K) rfl PySem.F.plainAttrs_list PySem.F.slot_list_count PySem.F.type_list_count mt_countB (pv 2) (pa_cons pe_bl pa_nil)) pe_int (nomark _)) (pe_one (pe_cmpR (op_eqK (K := K) rfl hr.units) (pe_ix (ix_K (K := K) rfl) (pv 3) (pe_bmK (K := K) rfl PySem.F.plainAttrs_list PySem.F.slot_list_index PySem.F.type_list_index mt_indexB (pv 2) (pa_cons pe_bl pa_nil)) (fun _ _ => rfl)) (pv 1) (nomark _))))))))); (case r5 => (refine' ps_set (i := 3) ?a5 ?b5 ?c5 ?d5 ?e5 ?f5; (case a5 => exact sc_law_one_kind.nd); (case b5 => rfl); (case c5 => exact (Or.inl rfl)); (case e5 => rfl); (case f5 => exact .inl rfl); (case d5 => (refine' pe_op (op_plusK (K := K) rfl) ?x5 ?y5; (case x5 => exact (pv 3)); (case y5 => walk_at "pex"))))))); (case r4 => (refine' ps_set (i := 3) ?a4 ?b4 ?c4 ?d4 ?e4 ?f4; (case a4 => exact sc_law_one_kind.nd); (case b4 => rfl); (case c4 => exact (Or.inl rfl)); (case e4 => rfl); (case f4 => exact .inl rfl); (case d4 => walk_at "pex"))))); (case r3 => exact (ps_set (i := 2) sc_law_one_kind.nd rfl (Or.inl rfl) (pe_op (op_plusK (K := K) rfl) (pv 2) (pe_lst (pa_cons (pe_callB (call_isiK (K := K) rfl) rfl T.z_isinstance b_isinstance (pa_cons (pv 0) (pa_cons (pe_glob (v := .ref a.C_Call) rfl T.c_Call rfl) pa_nil))) (pa_cons (pe_callB (call_isiK (K := K) rfl) rfl T.z_isinstance b_isinstance (pa_cons (pv 0) (pa_cons (pe_glob (v := .ref a.C_Back) rfl T.c_Back rfl) pa_nil))) (pa_cons (pe_callB (call_isiK (K := K) rfl) rfl T.z_isinstance b_isinstance (pa_cons (pv 0) (pa_cons (pe_glob (v := .ref a.C_Drop) rfl T.c_Drop rfl) pa_nil))) pa_nil))))))))); (case r2 => exact (ps_set (i := 2) sc_law_one_kind.nd rfl (Or.inl rfl) (pe_op (op_plusK (K := K) rfl) (pv 2) (pe_lst (pa_cons (pe_callB (call_isiK (K := K) rfl) rfl T.z_isinstance b_isinstance (pa_cons (pv 0) (pa_cons (pe_glob (v := .ref a.C_Put) rfl T.c_Put rfl) pa_nil))) (pa_cons (pe_callB (call_isiK (K := K) rfl) rfl T.z_isinstance b_isinstance (pa_cons (pv 0) (pa_cons (pe_glob (v := .ref a.C_Get) rfl T.c_Get rfl) pa_nil))) (pa_cons (pe_callB (call_isiK (K := K) rfl) rfl T.z_isinstance b_isinstance (pa_cons (pv 0) (pa_cons (pe_glob (v := .ref a.C_Jump) rfl T.c_Jump rfl) pa_nil))) (pa_cons (pe_callB (call_isiK (K := K) rfl) rfl T.z_isinstance b_isinstance (pa_cons (pv 0) (pa_cons (pe_glob (v := .ref a.C_Branch) rfl T.c_Branch rfl) pa_nil))) pa_nil)))))))))); (case r1 => exact (ps_set (i := 2) sc_law_one_kind.nd rfl (Or.inl rfl) (pe_op (op_plusK (K := K) rfl) (pv 2) (pe_lst (pa_cons (pe_callB (call_isiK (K := K) rfl) rfl T.z_isinstance b_isinstance (pa_cons (pv 0) (pa_cons (pe_glob (v := .ref a.C_Mul) rfl T.c_Mul rfl) pa_nil))) (pa_cons (pe_callB (call_isiK (K := K) rfl) rfl T.z_isinstance b_isinstance (pa_cons (pv 0) (pa_cons (pe_glob (v := .ref a.C_Less) rfl T.c_Less rfl) pa_nil))) (pa_cons (pe_callB (call_isiK (K := K) rfl) rfl T.z_isinstance b_isinstance (pa_cons (pv 0) (pa_cons (pe_glob (v := .ref a.C_Grow) rfl T.c_Grow rfl) pa_nil))) (pa_cons (pe_callB (call_isiK (K := K) rfl) rfl T.z_isinstance b_isinstance (pa_cons (pv 0) (pa_cons (pe_glob (v := .ref a.C_Shrink) rfl T.c_Shrink rfl) pa_nil))) pa_nil))))))))))
    (case r0 => exact (ps_set (i := 2) sc_law_one_kind.nd rfl (Or.inl rfl) (pe_lst (pa_cons (pe_callB (call_isiK (K := K) rfl) rfl T.z_isinstance b_isinstance (pa_cons (pv 0) (pa_cons (pe_glob (v := .ref a.C_Set) rfl T.c_Set rfl) pa_nil))) (pa_cons (pe_callB (call_isiK (K := K) rfl) rfl T.z_isinstance b_isinstance (pa_cons (pv 0) (pa_cons (pe_glob (v := .ref a.C_Copy) rfl T.c_Copy rfl) pa_nil))) (pa_cons (pe_callB (call_isiK (K := K) rfl) rfl T.z_isinstance b_isinstance (pa_cons (pv 0) (pa_cons (pe_glob (v := .ref a.C_Add) rfl T.c_Add rfl) pa_nil))) (pa_cons (pe_callB (call_isiK (K := K) rfl) rfl T.z_isinstance b_isinstance (pa_cons (pv 0) (pa_cons (pe_glob (v := .ref a.C_Sub) rfl T.c_Sub rfl) pa_nil))) pa_nil)))))))
    refine r_st (σ' := [some _, some _, none, none]) rfl ?_
    walk_at "rd"
    refine r_isi (fun z => nomatch z) (hT _ (by walk_at "same")) T.is_Put_Set ?_
    walk_at "rd"
    refine r_isi (fun z => nomatch z) (hT _ (by walk_at "same")) T.is_Put_Copy ?_
    walk_at "rd"
    refine r_isi (fun z => nomatch z) (hT _ (by walk_at "same")) T.is_Put_Add ?_
    walk_at "rd"
    refine r_isi (fun z => nomatch z) (hT _ (by walk_at "same")) T.is_Put_Sub ?_
    walk_at "rd"
    refine r_isi (fun z => nomatch z) (hT _ (by walk_at "same")) T.is_Put_Mul ?_
    walk_at "rd"
    refine r_isi (fun z => nomatch z) (hT _ (by walk_at "same")) T.is_Put_Less ?_
    walk_at "rd"
    refine r_isi (fun z => nomatch z) (hT _ (by walk_at "same")) T.is_Put_Grow ?_
    walk_at "rd"
    refine r_isi (fun z => nomatch z) (hT _ (by walk_at "same")) T.is_Put_Shrink ?_
    walk_at "rd"
    refine r_plusC ([false, false, false, false, false, false, false, false].map V.bl) rfl (by walk_at "hlk") (by walk_at "hlk") (by walk_at "small") fun b7 hb7 => ?_
    walk_at "rd"
    refine r_isi (fun z => nomatch z) (hT _ (by walk_at "same")) T.is_Put_Put ?_
    walk_at "rd"
    refine r_isi (fun z => nomatch z) (hT _ (by walk_at "same")) T.is_Put_Get ?_
    walk_at "rd"
    refine r_isi (fun z => nomatch z) (hT _ (by walk_at "same")) T.is_Put_Jump ?_
    walk_at "rd"
    refine r_isi (fun z => nomatch z) (hT _ (by walk_at "same")) T.is_Put_Branch ?_
    walk_at "rd"
    refine r_plusC ([false, false, false, false, false, false, false, false, true, false, false, false].map V.bl) rfl (by walk_at "hlk") (by walk_at "hlk") (by walk_at "small") fun b11 hb11 => ?_
    walk_at "rd"
    refine r_isi (fun z => nomatch z) (hT _ (by walk_at "same")) T.is_Put_Call ?_
    walk_at "rd"
    refine r_isi (fun z => nomatch z) (hT _ (by walk_at "same")) T.is_Put_Back ?_
    walk_at "rd"
    refine r_isi (fun z => nomatch z) (hT _ (by walk_at "same")) T.is_Put_Drop ?_
    walk_at "rd"
    refine r_plusC ([false, false, false, false, false, false, false, false, true, false, false, false, false, false, false].map V.bl) rfl (by walk_at "hlk") (by walk_at "hlk") (by walk_at "small") fun b14 hb14 => ?_
    walk_at "rd"
    refine r_plusC [.str "set", .str "copy", .str "add", .str "sub", .str "mul", .str "less", .str "grow", .str "shrink", .str "put", .str "get", .str "jump", .str "branch", .str "call", .str "back", .str "drop"] rfl (by walk_at "hlk") (by walk_at "hlk") (by walk_at "small") fun bw hbw => ?_
    walk_at "rd"
    refine r_isi (fun z => nomatch z) (hT _ (by walk_at "same")) T.is_Put_Row ?_
    walk_at "rd"
    refine r_countB (bs := [false, false, false, false, false, false, false, false, true, false, false, false, false, false, false]) (by walk_at "hlk") ?_
    rw [show ([false, false, false, false, false, false, false, false, true, false, false, false, false, false, false].countP (· == true)) = 1 from by decide]
    walk_at "rd"
    refine r_indexB (bs := [false, false, false, false, false, false, false, false, true, false, false, false, false, false, false]) (j := 8) (by walk_at "hlk") rfl (by decide) ?_
    walk_at "rd"
    exact q _ (by walk_at "same")
end
section
variable {P : Program} {w : World} {K : PySem.W.Frag} {mg : Str → Option Value} {base : Heap} {a : Adr}
local macro_rules | `(tactic| walk_at "pex") => `(tactic| first | (with_reducible exact pe_int) | (with_reducible exact pe_str) | ((with_reducible refine' pe_lst ?x); (case x => walk_at "pax")) | ((with_reducible refine' pe_tup ?x); (case x => walk_at "pax")))
local macro_rules | `(tactic| walk_at "pax") => `(tactic| first | (with_reducible exact pa_nil) | ((with_reducible refine' pa_cons ?x ?y ?z); (case z => rfl); (case x => walk_at "pex"); (case y => walk_at "pax")))
set_option maxHeartbeats 4000000 in
theorem bd_law_one_kind_Get (T : Txt K mg a) : BodyOk P w K mg base 0 "_law_one_kind" s_law_one_kind ["_law_row", "_law_word", "_law_kinds", "_law_words"] (fun vs H Q _ => ∃ (x : Addr) (w : Str) (b c : Int), vs = [.ref x, .str w] ∧ OneQ a x w (.get b c) H Q) := by
    intro f cdv A outer s H vs Q E hr h
    obtain ⟨x, w, b, c, rfl, ⟨dx, hx⟩, q⟩ := h
    have hT : ∀ H', Same H H' → TyOf K H' (.ref x) (.ref a.C_Get) := fun H' s => .ins (s _ _ hx) T.cl_Get T.ty_Get.1 T.ob1 T.ob2 T.ty_Get.2
    refine' ⟨_, pss_cons ?r0 ?q0, ?_⟩
    (case q0 => (refine' pss_cons ?r1 ?q1; (case q1 => (refine' pss_cons ?r2 ?q2; (case q2 => (refine' pss_cons ?r3 ?q3; (case q3 => (refine' pss_cons ?r4 ?q4; (case q4 => (refine' pss_cons ?r5 ?q5; (case q5 => (refine' pss_one ?r6; (case r6 => exact (ps_ret (pe_and (pe_callB (call_isiK (K := K) rfl) rfl T.z_isinstance b_isinstance (pa_cons (pv 0) (pa_cons (pe_glob (v := .ref a.C_Row) rfl T.c_Row rfl) pa_nil))) (pe_and (pe_cmpR (op_eqK (K := K) rfl hr.units) (pe_bmK (K := K) rfl PySem.F.plainAttrs_list PySem.F.slot_list_count PySem.F.type_list_count mt_countB (pv 2) (pa_cons pe_bl pa_nil)) pe_int (nomark _)) (pe_one (pe_cmpR (op_eqK (K := K) rfl hr.units) (pe_ix (ix_K (K := K) rfl) (pv 3) (pe_bmK (K := K) rfl PySem.F.plainAttrs_list PySem.F.slot_list_index PySem.F.type_list_index mt_indexB (pv 2) (pa_cons pe_bl pa_nil)) (fun _ _ => rfl)) (pv 1) (nomark _))))))))); (case r5 => (refine' ps_set (i := 3) ?a5 ?b5 ?c5 ?d5 ?e5 ?f5; (case a5 => exact sc_law_one_kind.nd); (case b5 => rfl); (case c5 => exact (Or.inl rfl)); (case e5 => rfl); (case f5 => exact .inl rfl); (case d5 => (refine' pe_op (op_plusK (K := K) rfl) ?x5 ?y5; (case x5 => exact (pv 3)); (case y5 => walk_at "pex"))))))); (case r4 => (refine' ps_set (i := 3) ?a4 ?b4 ?c4 ?d4 ?e4 ?f4; (case a4 => exact sc_law_one_kind.nd); (case b4 => rfl); (case c4 => exact (Or.inl rfl)); (case e4 => rfl); (case f4 => exact .inl rfl); (case d4 => walk_at "pex"))))); (case r3 => exact (ps_set (i := 2) sc_law_one_kind.nd rfl (Or.inl rfl) (pe_op (op_plusK (K := K) rfl) (pv 2) (pe_lst (pa_cons (pe_callB (call_isiK (K := K) rfl) rfl T.z_isinstance b_isinstance (pa_cons (pv 0) (pa_cons (pe_glob (v := .ref a.C_Call) rfl T.c_Call rfl) pa_nil))) (pa_cons (pe_callB (call_isiK (K := K) rfl) rfl T.z_isinstance b_isinstance (pa_cons (pv 0) (pa_cons (pe_glob (v := .ref a.C_Back) rfl T.c_Back rfl) pa_nil))) (pa_cons (pe_callB (call_isiK (K := K) rfl) rfl T.z_isinstance b_isinstance (pa_cons (pv 0) (pa_cons (pe_glob (v := .ref a.C_Drop) rfl T.c_Drop rfl) pa_nil))) pa_nil))))))))); (case r2 => exact (ps_set (i := 2) sc_law_one_kind.nd rfl (Or.inl rfl) (pe_op (op_plusK (K := K) rfl) (pv 2) (pe_lst (pa_cons (pe_callB (call_isiK (K := K) rfl) rfl T.z_isinstance b_isinstance (pa_cons (pv 0) (pa_cons (pe_glob (v := .ref a.C_Put) rfl T.c_Put rfl) pa_nil))) (pa_cons (pe_callB (call_isiK (K := K) rfl) rfl T.z_isinstance b_isinstance (pa_cons (pv 0) (pa_cons (pe_glob (v := .ref a.C_Get) rfl T.c_Get rfl) pa_nil))) (pa_cons (pe_callB (call_isiK (K := K) rfl) rfl T.z_isinstance b_isinstance (pa_cons (pv 0) (pa_cons (pe_glob (v := .ref a.C_Jump) rfl T.c_Jump rfl) pa_nil))) (pa_cons (pe_callB (call_isiK (K := K) rfl) rfl T.z_isinstance b_isinstance (pa_cons (pv 0) (pa_cons (pe_glob (v := .ref a.C_Branch) rfl T.c_Branch rfl) pa_nil))) pa_nil)))))))))); (case r1 => exact (ps_set (i := 2) sc_law_one_kind.nd rfl (Or.inl rfl) (pe_op (op_plusK (K := K) rfl) (pv 2) (pe_lst (pa_cons (pe_callB (call_isiK (K := K) rfl) rfl T.z_isinstance b_isinstance (pa_cons (pv 0) (pa_cons (pe_glob (v := .ref a.C_Mul) rfl T.c_Mul rfl) pa_nil))) (pa_cons (pe_callB (call_isiK (K := K) rfl) rfl T.z_isinstance b_isinstance (pa_cons (pv 0) (pa_cons (pe_glob (v := .ref a.C_Less) rfl T.c_Less rfl) pa_nil))) (pa_cons (pe_callB (call_isiK (K := K) rfl) rfl T.z_isinstance b_isinstance (pa_cons (pv 0) (pa_cons (pe_glob (v := .ref a.C_Grow) rfl T.c_Grow rfl) pa_nil))) (pa_cons (pe_callB (call_isiK (K := K) rfl) rfl T.z_isinstance b_isinstance (pa_cons (pv 0) (pa_cons (pe_glob (v := .ref a.C_Shrink) rfl T.c_Shrink rfl) pa_nil))) pa_nil))))))))))
    (case r0 => exact (ps_set (i := 2) sc_law_one_kind.nd rfl (Or.inl rfl) (pe_lst (pa_cons (pe_callB (call_isiK (K := K) rfl) rfl T.z_isinstance b_isinstance (pa_cons (pv 0) (pa_cons (pe_glob (v := .ref a.C_Set) rfl T.c_Set rfl) pa_nil))) (pa_cons (pe_callB (call_isiK (K := K) rfl) rfl T.z_isinstance b_isinstance (pa_cons (pv 0) (pa_cons (pe_glob (v := .ref a.C_Copy) rfl T.c_Copy rfl) pa_nil))) (pa_cons (pe_callB (call_isiK (K := K) rfl) rfl T.z_isinstance b_isinstance (pa_cons (pv 0) (pa_cons (pe_glob (v := .ref a.C_Add) rfl T.c_Add rfl) pa_nil))) (pa_cons (pe_callB (call_isiK (K := K) rfl) rfl T.z_isinstance b_isinstance (pa_cons (pv 0) (pa_cons (pe_glob (v := .ref a.C_Sub) rfl T.c_Sub rfl) pa_nil))) pa_nil)))))))
    refine r_st (σ' := [some _, some _, none, none]) rfl ?_
    walk_at "rd"
    refine r_isi (fun z => nomatch z) (hT _ (by walk_at "same")) T.is_Get_Set ?_
    walk_at "rd"
    refine r_isi (fun z => nomatch z) (hT _ (by walk_at "same")) T.is_Get_Copy ?_
    walk_at "rd"
    refine r_isi (fun z => nomatch z) (hT _ (by walk_at "same")) T.is_Get_Add ?_
    walk_at "rd"
    refine r_isi (fun z => nomatch z) (hT _ (by walk_at "same")) T.is_Get_Sub ?_
    walk_at "rd"
    refine r_isi (fun z => nomatch z) (hT _ (by walk_at "same")) T.is_Get_Mul ?_
    walk_at "rd"
    refine r_isi (fun z => nomatch z) (hT _ (by walk_at "same")) T.is_Get_Less ?_
    walk_at "rd"
    refine r_isi (fun z => nomatch z) (hT _ (by walk_at "same")) T.is_Get_Grow ?_
    walk_at "rd"
    refine r_isi (fun z => nomatch z) (hT _ (by walk_at "same")) T.is_Get_Shrink ?_
    walk_at "rd"
    refine r_plusC ([false, false, false, false, false, false, false, false].map V.bl) rfl (by walk_at "hlk") (by walk_at "hlk") (by walk_at "small") fun b7 hb7 => ?_
    walk_at "rd"
    refine r_isi (fun z => nomatch z) (hT _ (by walk_at "same")) T.is_Get_Put ?_
    walk_at "rd"
    refine r_isi (fun z => nomatch z) (hT _ (by walk_at "same")) T.is_Get_Get ?_
    walk_at "rd"
    refine r_isi (fun z => nomatch z) (hT _ (by walk_at "same")) T.is_Get_Jump ?_
    walk_at "rd"
    refine r_isi (fun z => nomatch z) (hT _ (by walk_at "same")) T.is_Get_Branch ?_
    walk_at "rd"
    refine r_plusC ([false, false, false, false, false, false, false, false, false, true, false, false].map V.bl) rfl (by walk_at "hlk") (by walk_at "hlk") (by walk_at "small") fun b11 hb11 => ?_
    walk_at "rd"
    refine r_isi (fun z => nomatch z) (hT _ (by walk_at "same")) T.is_Get_Call ?_
    walk_at "rd"
    refine r_isi (fun z => nomatch z) (hT _ (by walk_at "same")) T.is_Get_Back ?_
    walk_at "rd"
    refine r_isi (fun z => nomatch z) (hT _ (by walk_at "same")) T.is_Get_Drop ?_
    walk_at "rd"
    refine r_plusC ([false, false, false, false, false, false, false, false, false, true, false, false, false, false, false].map V.bl) rfl (by walk_at "hlk") (by walk_at "hlk") (by walk_at "small") fun b14 hb14 => ?_
    walk_at "rd"
    refine r_plusC [.str "set", .str "copy", .str "add", .str "sub", .str "mul", .str "less", .str "grow", .str "shrink", .str "put", .str "get", .str "jump", .str "branch", .str "call", .str "back", .str "drop"] rfl (by walk_at "hlk") (by walk_at "hlk") (by walk_at "small") fun bw hbw => ?_
    walk_at "rd"
    refine r_isi (fun z => nomatch z) (hT _ (by walk_at "same")) T.is_Get_Row ?_
    walk_at "rd"
    refine r_countB (bs := [false, false, false, false, false, false, false, false, false, true, false, false, false, false, false]) (by walk_at "hlk") ?_
    rw [show ([false, false, false, false, false, false, false, false, false, true, false, false, false, false, false].countP (· == true)) = 1 from by decide]
    walk_at "rd"
    refine r_indexB (bs := [false, false, false, false, false, false, false, false, false, true, false, false, false, false, false]) (j := 9) (by walk_at "hlk") rfl (by decide) ?_
    walk_at "rd"
    exact q _ (by walk_at "same")
end
section
variable {P : Program} {w : World} {K : PySem.W.Frag} {mg : Str → Option Value} {base : Heap} {a : Adr}
local macro_rules | `(tactic| walk_at "pex") => `(tactic| first | (with_reducible exact pe_int) | (with_reducible exact pe_str) | ((with_reducible refine' pe_lst ?x); (case x => walk_at "pax")) | ((with_reducible refine' pe_tup ?x); (case x => walk_at "pax")))
local macro_rules | `(tactic| walk_at "pax") => `(tactic| first | (with_reducible exact pa_nil) | ((with_reducible refine' pa_cons ?x ?y ?z); (case z => rfl); (case x => walk_at "pex"); (case y => walk_at "pax")))
set_option maxHeartbeats 4000000 in
theorem bd_law_one_kind_Jump (T : Txt K mg a) : BodyOk P w K mg base 0 "_law_one_kind" s_law_one_kind ["_law_row", "_law_word", "_law_kinds", "_law_words"] (fun vs H Q _ => ∃ (x : Addr) (w : Str) (t : Int), vs = [.ref x, .str w] ∧ OneQ a x w (.jump t) H Q) := by
    intro f cdv A outer s H vs Q E hr h
    obtain ⟨x, w, t, rfl, ⟨dx, hx⟩, q⟩ := h
    have hT : ∀ H', Same H H' → TyOf K H' (.ref x) (.ref a.C_Jump) := fun H' s => .ins (s _ _ hx) T.cl_Jump T.ty_Jump.1 T.ob1 T.ob2 T.ty_Jump.2
    refine' ⟨_, pss_cons ?r0 ?q0, ?_⟩
    (case q0 => (refine' pss_cons ?r1 ?q1; (case q1 => (refine' pss_cons ?r2 ?q2; (case q2 => (refine' pss_cons ?r3 ?q3; (case q3 => (refine' pss_cons ?r4 ?q4; (case q4 => (refine' pss_cons ?r5 ?q5; (case q5 => (refine' pss_one ?r6; (case r6 => exact (ps_ret (pe_and (pe_callB (call_isiK (K := K) rfl) rfl T.z_isinstance b_isinstance (pa_cons (pv 0) (pa_cons (pe_glob (v := .ref a.C_Row) rfl T.c_Row rfl) pa_nil))) (pe_and (pe_cmpR (op_eqK (K := K) rfl hr.units) (pe_bmK (K := K) rfl PySem.F.plainAttrs_list PySem.F.slot_list_count PySem.F.type_list_count mt_countB (pv 2) (pa_cons pe_bl pa_nil)) pe_int (nomark _)) (pe_one (pe_cmpR (op_eqK (K := K) rfl hr.units) (pe_ix (ix_K (K := K) rfl) (pv 3) (pe_bmK (K := K) rfl PySem.F.plainAttrs_list PySem.F.slot_list_index PySem.F.type_list_index mt_indexB (pv 2) (pa_cons pe_bl pa_nil)) (fun _ _ => rfl)) (pv 1) (nomark _))))))))); (case r5 => (refine' ps_set (i := 3) ?a5 ?b5 ?c5 ?d5 ?e5 ?f5; (case a5 => exact sc_law_one_kind.nd); (case b5 => rfl); (case c5 => exact (Or.inl rfl)); (case e5 => rfl); (case f5 => exact .inl rfl); (case d5 => (refine' pe_op (op_plusK (K := K) rfl) ?x5 ?y5; (case x5 => exact (pv 3)); (case y5 => walk_at "pex"))))))); (case r4 => (refine' ps_set (i := 3) ?a4 ?b4 ?c4 ?d4 ?e4 ?f4; (case a4 => exact sc_law_one_kind.nd); (case b4 => rfl); (case c4 => exact (Or.inl rfl)); (case e4 => rfl); (case f4 => exact .inl rfl); (case d4 => walk_at "pex"))))); (case r3 => exact (ps_set (i := 2) sc_law_one_kind.nd rfl (Or.inl rfl) (pe_op (op_plusK (K := K) rfl) (pv 2) (pe_lst (pa_cons (pe_callB (call_isiK (K := K) rfl) rfl T.z_isinstance b_isinstance (pa_cons (pv 0) (pa_cons (pe_glob (v := .ref a.C_Call) rfl T.c_Call rfl) pa_nil))) (pa_cons (pe_callB (call_isiK (K := K) rfl) rfl T.z_isinstance b_isinstance (pa_cons (pv 0) (pa_cons (pe_glob (v := .ref a.C_Back) rfl T.c_Back rfl) pa_nil))) (pa_cons (pe_callB (call_isiK (K := K) rfl) rfl T.z_isinstance b_isinstance (pa_cons (pv 0) (pa_cons (pe_glob (v := .ref a.C_Drop) rfl T.c_Drop rfl) pa_nil))) pa_nil))))))))); (case r2 => exact (ps_set (i := 2) sc_law_one_kind.nd rfl (Or.inl rfl) (pe_op (op_plusK (K := K) rfl) (pv 2) (pe_lst (pa_cons (pe_callB (call_isiK (K := K) rfl) rfl T.z_isinstance b_isinstance (pa_cons (pv 0) (pa_cons (pe_glob (v := .ref a.C_Put) rfl T.c_Put rfl) pa_nil))) (pa_cons (pe_callB (call_isiK (K := K) rfl) rfl T.z_isinstance b_isinstance (pa_cons (pv 0) (pa_cons (pe_glob (v := .ref a.C_Get) rfl T.c_Get rfl) pa_nil))) (pa_cons (pe_callB (call_isiK (K := K) rfl) rfl T.z_isinstance b_isinstance (pa_cons (pv 0) (pa_cons (pe_glob (v := .ref a.C_Jump) rfl T.c_Jump rfl) pa_nil))) (pa_cons (pe_callB (call_isiK (K := K) rfl) rfl T.z_isinstance b_isinstance (pa_cons (pv 0) (pa_cons (pe_glob (v := .ref a.C_Branch) rfl T.c_Branch rfl) pa_nil))) pa_nil)))))))))); (case r1 => exact (ps_set (i := 2) sc_law_one_kind.nd rfl (Or.inl rfl) (pe_op (op_plusK (K := K) rfl) (pv 2) (pe_lst (pa_cons (pe_callB (call_isiK (K := K) rfl) rfl T.z_isinstance b_isinstance (pa_cons (pv 0) (pa_cons (pe_glob (v := .ref a.C_Mul) rfl T.c_Mul rfl) pa_nil))) (pa_cons (pe_callB (call_isiK (K := K) rfl) rfl T.z_isinstance b_isinstance (pa_cons (pv 0) (pa_cons (pe_glob (v := .ref a.C_Less) rfl T.c_Less rfl) pa_nil))) (pa_cons (pe_callB (call_isiK (K := K) rfl) rfl T.z_isinstance b_isinstance (pa_cons (pv 0) (pa_cons (pe_glob (v := .ref a.C_Grow) rfl T.c_Grow rfl) pa_nil))) (pa_cons (pe_callB (call_isiK (K := K) rfl) rfl T.z_isinstance b_isinstance (pa_cons (pv 0) (pa_cons (pe_glob (v := .ref a.C_Shrink) rfl T.c_Shrink rfl) pa_nil))) pa_nil))))))))))
    (case r0 => exact (ps_set (i := 2) sc_law_one_kind.nd rfl (Or.inl rfl) (pe_lst (pa_cons (pe_callB (call_isiK (K := K) rfl) rfl T.z_isinstance b_isinstance (pa_cons (pv 0) (pa_cons (pe_glob (v := .ref a.C_Set) rfl T.c_Set rfl) pa_nil))) (pa_cons (pe_callB (call_isiK (K := K) rfl) rfl T.z_isinstance b_isinstance (pa_cons (pv 0) (pa_cons (pe_glob (v := .ref a.C_Copy) rfl T.c_Copy rfl) pa_nil))) (pa_cons (pe_callB (call_isiK (K := K) rfl) rfl T.z_isinstance b_isinstance (pa_cons (pv 0) (pa_cons (pe_glob (v := .ref a.C_Add) rfl T.c_Add rfl) pa_nil))) (pa_cons (pe_callB (call_isiK (K := K) rfl) rfl T.z_isinstance b_isinstance (pa_cons (pv 0) (pa_cons (pe_glob (v := .ref a.C_Sub) rfl T.c_Sub rfl) pa_nil))) pa_nil)))))))
    refine r_st (σ' := [some _, some _, none, none]) rfl ?_
    walk_at "rd"
    refine r_isi (fun z => nomatch z) (hT _ (by walk_at "same")) T.is_Jump_Set ?_
    walk_at "rd"
    refine r_isi (fun z => nomatch z) (hT _ (by walk_at "same")) T.is_Jump_Copy ?_
    walk_at "rd"
    refine r_isi (fun z => nomatch z) (hT _ (by walk_at "same")) T.is_Jump_Add ?_
    walk_at "rd"
    refine r_isi (fun z => nomatch z) (hT _ (by walk_at "same")) T.is_Jump_Sub ?_
    walk_at "rd"
    refine r_isi (fun z => nomatch z) (hT _ (by walk_at "same")) T.is_Jump_Mul ?_
    walk_at "rd"
    refine r_isi (fun z => nomatch z) (hT _ (by walk_at "same")) T.is_Jump_Less ?_
    walk_at "rd"
    refine r_isi (fun z => nomatch z) (hT _ (by walk_at "same")) T.is_Jump_Grow ?_
    walk_at "rd"
    refine r_isi (fun z => nomatch z) (hT _ (by walk_at "same")) T.is_Jump_Shrink ?_
    walk_at "rd"
    refine r_plusC ([false, false, false, false, false, false, false, false].map V.bl) rfl (by walk_at "hlk") (by walk_at "hlk") (by walk_at "small") fun b7 hb7 => ?_
    walk_at "rd"
    refine r_isi (fun z => nomatch z) (hT _ (by walk_at "same")) T.is_Jump_Put ?_
    walk_at "rd"
    refine r_isi (fun z => nomatch z) (hT _ (by walk_at "same")) T.is_Jump_Get ?_
    walk_at "rd"
    refine r_isi (fun z => nomatch z) (hT _ (by walk_at "same")) T.is_Jump_Jump ?_
    walk_at "rd"
    refine r_isi (fun z => nomatch z) (hT _ (by walk_at "same")) T.is_Jump_Branch ?_
    walk_at "rd"
    refine r_plusC ([false, false, false, false, false, false, false, false, false, false, true, false].map V.bl) rfl (by walk_at "hlk") (by walk_at "hlk") (by walk_at "small") fun b11 hb11 => ?_
    walk_at "rd"
    refine r_isi (fun z => nomatch z) (hT _ (by walk_at "same")) T.is_Jump_Call ?_
    walk_at "rd"
    refine r_isi (fun z => nomatch z) (hT _ (by walk_at "same")) T.is_Jump_Back ?_
    walk_at "rd"
    refine r_isi (fun z => nomatch z) (hT _ (by walk_at "same")) T.is_Jump_Drop ?_
    walk_at "rd"
    refine r_plusC ([false, false, false, false, false, false, false, false, false, false, true, false, false, false, false].map V.bl) rfl (by walk_at "hlk") (by walk_at "hlk") (by walk_at "small") fun b14 hb14 => ?_
    walk_at "rd"
    refine r_plusC [.str "set", .str "copy", .str "add", .str "sub", .str "mul", .str "less", .str "grow", .str "shrink", .str "put", .str "get", .str "jump", .str "branch", .str "call", .str "back", .str "drop"] rfl (by walk_at "hlk") (by walk_at "hlk") (by walk_at "small") fun bw hbw => ?_
    walk_at "rd"
    refine r_isi (fun z => nomatch z) (hT _ (by walk_at "same")) T.is_Jump_Row ?_
    walk_at "rd"
    refine r_countB (bs := [false, false, false, false, false, false, false, false, false, false, true, false, false, false, false]) (by walk_at "hlk") ?_
    rw [show ([false, false, false, false, false, false, false, false, false, false, true, false, false, false, false].countP (· == true)) = 1 from by decide]
    walk_at "rd"
    refine r_indexB (bs := [false, false, false, false, false, false, false, false, false, false, true, false, false, false, false]) (j := 10) (by walk_at "hlk") rfl (by decide) ?_
    walk_at "rd"
    exact q _ (by walk_at "same")
end
section
variable {P : Program} {w : World} {K : PySem.W.Frag} {mg : Str → Option Value} {base : Heap} {a : Adr}
local macro_rules | `(tactic| walk_at "pex") => `(tactic| first | (with_reducible exact pe_int) | (with_reducible exact pe_str) | ((with_reducible refine' pe_lst ?x); (case x => walk_at "pax")) | ((with_reducible refine' pe_tup ?x); (case x => walk_at "pax")))
local macro_rules | `(tactic| walk_at "pax") => `(tactic| first | (with_reducible exact pa_nil) | ((with_reducible refine' pa_cons ?x ?y ?z); (case z => rfl); (case x => walk_at "pex"); (case y => walk_at "pax")))
set_option maxHeartbeats 4000000 in
theorem bd_law_one_kind_Branch (T : Txt K mg a) : BodyOk P w K mg base 0 "_law_one_kind" s_law_one_kind ["_law_row", "_law_word", "_law_kinds", "_law_words"] (fun vs H Q _ => ∃ (x : Addr) (w : Str) (b t : Int), vs = [.ref x, .str w] ∧ OneQ a x w (.branch b t) H Q) := by
    intro f cdv A outer s H vs Q E hr h
    obtain ⟨x, w, b, t, rfl, ⟨dx, hx⟩, q⟩ := h
    have hT : ∀ H', Same H H' → TyOf K H' (.ref x) (.ref a.C_Branch) := fun H' s => .ins (s _ _ hx) T.cl_Branch T.ty_Branch.1 T.ob1 T.ob2 T.ty_Branch.2
    refine' ⟨_, pss_cons ?r0 ?q0, ?_⟩
    (case q0 => (refine' pss_cons ?r1 ?q1; (case q1 => (refine' pss_cons ?r2 ?q2; (case q2 => (refine' pss_cons ?r3 ?q3; (case q3 => (refine' pss_cons ?r4 ?q4; (case q4 => (refine' pss_cons ?r5 ?q5; (case q5 => (refine' pss_one ?r6; (case r6 => exact (ps_ret (pe_and (pe_callB (call_isiK (K := K) rfl) rfl T.z_isinstance b_isinstance (pa_cons (pv 0) (pa_cons (pe_glob (v := .ref a.C_Row) rfl T.c_Row rfl) pa_nil))) (pe_and (pe_cmpR (op_eqK (K := K) rfl hr.units) (pe_bmK (K := K) rfl PySem.F.plainAttrs_list PySem.F.slot_list_count PySem.F.type_list_count mt_countB (pv 2) (pa_cons pe_bl pa_nil)) pe_int (nomark _)) (pe_one (pe_cmpR (op_eqK (K := K) rfl hr.units) (pe_ix (ix_K (K := K) rfl) (pv 3) (pe_bmK (K := K) rfl PySem.F.plainAttrs_list PySem.F.slot_list_index PySem.F.type_list_index mt_indexB (pv 2) (pa_cons pe_bl pa_nil)) (fun _ _ => rfl)) (pv 1) (nomark _))))))))); (case r5 => (refine' ps_set (i := 3) ?a5 ?b5 ?c5 ?d5 ?e5 ?f5; (case a5 => exact sc_law_one_kind.nd); (case b5 => rfl); (case c5 => exact (Or.inl rfl)); (case e5 => rfl); (case f5 => exact .inl rfl); (case d5 => (refine' pe_op (op_plusK (K := K) rfl) ?x5 ?y5; (case x5 => exact (pv 3)); (case y5 => walk_at "pex"))))))); (case r4 => (refine' ps_set (i := 3) ?a4 ?b4 ?c4 ?d4 ?e4 ?f4; (case a4 => exact sc_law_one_kind.nd); (case b4 => rfl); (case c4 => exact (Or.inl rfl)); (case e4 => rfl); (case f4 => exact .inl rfl); (case d4 => walk_at "pex"))))); (case r3 => exact (ps_set (i := 2) sc_law_one_kind.nd rfl (Or.inl rfl) (pe_op (op_plusK (K := K) rfl) (pv 2) (pe_lst (pa_cons (pe_callB (call_isiK (K := K) rfl) rfl T.z_isinstance b_isinstance (pa_cons (pv 0) (pa_cons (pe_glob (v := .ref a.C_Call) rfl T.c_Call rfl) pa_nil))) (pa_cons (pe_callB (call_isiK (K := K) rfl) rfl T.z_isinstance b_isinstance (pa_cons (pv 0) (pa_cons (pe_glob (v := .ref a.C_Back) rfl T.c_Back rfl) pa_nil))) (pa_cons (pe_callB (call_isiK (K := K) rfl) rfl T.z_isinstance b_isinstance (pa_cons (pv 0) (pa_cons (pe_glob (v := .ref a.C_Drop) rfl T.c_Drop rfl) pa_nil))) pa_nil))))))))); (case r2 => exact (ps_set (i := 2) sc_law_one_kind.nd rfl (Or.inl rfl) (pe_op (op_plusK (K := K) rfl) (pv 2) (pe_lst (pa_cons (pe_callB (call_isiK (K := K) rfl) rfl T.z_isinstance b_isinstance (pa_cons (pv 0) (pa_cons (pe_glob (v := .ref a.C_Put) rfl T.c_Put rfl) pa_nil))) (pa_cons (pe_callB (call_isiK (K := K) rfl) rfl T.z_isinstance b_isinstance (pa_cons (pv 0) (pa_cons (pe_glob (v := .ref a.C_Get) rfl T.c_Get rfl) pa_nil))) (pa_cons (pe_callB (call_isiK (K := K) rfl) rfl T.z_isinstance b_isinstance (pa_cons (pv 0) (pa_cons (pe_glob (v := .ref a.C_Jump) rfl T.c_Jump rfl) pa_nil))) (pa_cons (pe_callB (call_isiK (K := K) rfl) rfl T.z_isinstance b_isinstance (pa_cons (pv 0) (pa_cons (pe_glob (v := .ref a.C_Branch) rfl T.c_Branch rfl) pa_nil))) pa_nil)))))))))); (case r1 => exact (ps_set (i := 2) sc_law_one_kind.nd rfl (Or.inl rfl) (pe_op (op_plusK (K := K) rfl) (pv 2) (pe_lst (pa_cons (pe_callB (call_isiK (K := K) rfl) rfl T.z_isinstance b_isinstance (pa_cons (pv 0) (pa_cons (pe_glob (v := .ref a.C_Mul) rfl T.c_Mul rfl) pa_nil))) (pa_cons (pe_callB (call_isiK (K := K) rfl) rfl T.z_isinstance b_isinstance (pa_cons (pv 0) (pa_cons (pe_glob (v := .ref a.C_Less) rfl T.c_Less rfl) pa_nil))) (pa_cons (pe_callB (call_isiK (K := K) rfl) rfl T.z_isinstance b_isinstance (pa_cons (pv 0) (pa_cons (pe_glob (v := .ref a.C_Grow) rfl T.c_Grow rfl) pa_nil))) (pa_cons (pe_callB (call_isiK (K := K) rfl) rfl T.z_isinstance b_isinstance (pa_cons (pv 0) (pa_cons (pe_glob (v := .ref a.C_Shrink) rfl T.c_Shrink rfl) pa_nil))) pa_nil))))))))))
    (case r0 => exact (ps_set (i := 2) sc_law_one_kind.nd rfl (Or.inl rfl) (pe_lst (pa_cons (pe_callB (call_isiK (K := K) rfl) rfl T.z_isinstance b_isinstance (pa_cons (pv 0) (pa_cons (pe_glob (v := .ref a.C_Set) rfl T.c_Set rfl) pa_nil))) (pa_cons (pe_callB (call_isiK (K := K) rfl) rfl T.z_isinstance b_isinstance (pa_cons (pv 0) (pa_cons (pe_glob (v := .ref a.C_Copy) rfl T.c_Copy rfl) pa_nil))) (pa_cons (pe_callB (call_isiK (K := K) rfl) rfl T.z_isinstance b_isinstance (pa_cons (pv 0) (pa_cons (pe_glob (v := .ref a.C_Add) rfl T.c_Add rfl) pa_nil))) (pa_cons (pe_callB (call_isiK (K := K) rfl) rfl T.z_isinstance b_isinstance (pa_cons (pv 0) (pa_cons (pe_glob (v := .ref a.C_Sub) rfl T.c_Sub rfl) pa_nil))) pa_nil)))))))
    refine r_st (σ' := [some _, some _, none, none]) rfl ?_
    walk_at "rd"
    refine r_isi (fun z => nomatch z) (hT _ (by walk_at "same")) T.is_Branch_Set ?_
    walk_at "rd"
    refine r_isi (fun z => nomatch z) (hT _ (by walk_at "same")) T.is_Branch_Copy ?_
    walk_at "rd"
    refine r_isi (fun z => nomatch z) (hT _ (by walk_at "same")) T.is_Branch_Add ?_
    walk_at "rd"
    refine r_isi (fun z => nomatch z) (hT _ (by walk_at "same")) T.is_Branch_Sub ?_
    walk_at "rd"
    refine r_isi (fun z => nomatch z) (hT _ (by walk_at "same")) T.is_Branch_Mul ?_
    walk_at "rd"
    refine r_isi (fun z => nomatch z) (hT _ (by walk_at "same")) T.is_Branch_Less ?_
    walk_at "rd"
    refine r_isi (fun z => nomatch z) (hT _ (by walk_at "same")) T.is_Branch_Grow ?_
    walk_at "rd"
    refine r_isi (fun z => nomatch z) (hT _ (by walk_at "same")) T.is_Branch_Shrink ?_
    walk_at "rd"
    refine r_plusC ([false, false, false, false, false, false, false, false].map V.bl) rfl (by walk_at "hlk") (by walk_at "hlk") (by walk_at "small") fun b7 hb7 => ?_
    walk_at "rd"
    refine r_isi (fun z => nomatch z) (hT _ (by walk_at "same")) T.is_Branch_Put ?_
    walk_at "rd"
    refine r_isi (fun z => nomatch z) (hT _ (by walk_at "same")) T.is_Branch_Get ?_
    walk_at "rd"
    refine r_isi (fun z => nomatch z) (hT _ (by walk_at "same")) T.is_Branch_Jump ?_
    walk_at "rd"
    refine r_isi (fun z => nomatch z) (hT _ (by walk_at "same")) T.is_Branch_Branch ?_
    walk_at "rd"
    refine r_plusC ([false, false, false, false, false, false, false, false, false, false, false, true].map V.bl) rfl (by walk_at "hlk") (by walk_at "hlk") (by walk_at "small") fun b11 hb11 => ?_
    walk_at "rd"
    refine r_isi (fun z => nomatch z) (hT _ (by walk_at "same")) T.is_Branch_Call ?_
    walk_at "rd"
    refine r_isi (fun z => nomatch z) (hT _ (by walk_at "same")) T.is_Branch_Back ?_
    walk_at "rd"
    refine r_isi (fun z => nomatch z) (hT _ (by walk_at "same")) T.is_Branch_Drop ?_
    walk_at "rd"
    refine r_plusC ([false, false, false, false, false, false, false, false, false, false, false, true, false, false, false].map V.bl) rfl (by walk_at "hlk") (by walk_at "hlk") (by walk_at "small") fun b14 hb14 => ?_
    walk_at "rd"
    refine r_plusC [.str "set", .str "copy", .str "add", .str "sub", .str "mul", .str "less", .str "grow", .str "shrink", .str "put", .str "get", .str "jump", .str "branch", .str "call", .str "back", .str "drop"] rfl (by walk_at "hlk") (by walk_at "hlk") (by walk_at "small") fun bw hbw => ?_
    walk_at "rd"
    refine r_isi (fun z => nomatch z) (hT _ (by walk_at "same")) T.is_Branch_Row ?_
    walk_at "rd"
    refine r_countB (bs := [false, false, false, false, false, false, false, false, false, false, false, true, false, false, false]) (by walk_at "hlk") ?_
    rw [show ([false, false, false, false, false, false, false, false, false, false, false, true, false, false, false].countP (· == true)) = 1 from by decide]
    walk_at "rd"
    refine r_indexB (bs := [false, false, false, false, false, false, false, false, false, false, false, true, false, false, false]) (j := 11) (by walk_at "hlk") rfl (by decide) ?_
    walk_at "rd"
    exact q _ (by walk_at "same")
end
section
variable {P : Program} {w : World} {K : PySem.W.Frag} {mg : Str → Option Value} {base : Heap} {a : Adr}
local macro_rules | `(tactic| walk_at "pex") => `(tactic| first | (with_reducible exact pe_int) | (with_reducible exact pe_str) | ((with_reducible refine' pe_lst ?x); (case x => walk_at "pax")) | ((with_reducible refine' pe_tup ?x); (case x => walk_at "pax")))
local macro_rules | `(tactic| walk_at "pax") => `(tactic| first | (with_reducible exact pa_nil) | ((with_reducible refine' pa_cons ?x ?y ?z); (case z => rfl); (case x => walk_at "pex"); (case y => walk_at "pax")))
set_option maxHeartbeats 4000000 in
theorem bd_law_one_kind_Call (T : Txt K mg a) : BodyOk P w K mg base 0 "_law_one_kind" s_law_one_kind ["_law_row", "_law_word", "_law_kinds", "_law_words"] (fun vs H Q _ => ∃ (x : Addr) (w : Str) (t : Int), vs = [.ref x, .str w] ∧ OneQ a x w (.call t) H Q) := by
    intro f cdv A outer s H vs Q E hr h
    obtain ⟨x, w, t, rfl, ⟨dx, hx⟩, q⟩ := h
    have hT : ∀ H', Same H H' → TyOf K H' (.ref x) (.ref a.C_Call) := fun H' s => .ins (s _ _ hx) T.cl_Call T.ty_Call.1 T.ob1 T.ob2 T.ty_Call.2
    refine' ⟨_, pss_cons ?r0 ?q0, ?_⟩
    (case q0 => (refine' pss_cons ?r1 ?q1; (case q1 => (refine' pss_cons ?r2 ?q2; (case q2 => (refine' pss_cons ?r3 ?q3; (case q3 => (refine' pss_cons ?r4 ?q4; (case q4 => (refine' pss_cons ?r5 ?q5; (case q5 => (refine' pss_one ?r6; (case r6 => exact (ps_ret (pe_and (pe_callB (call_isiK (K := K) rfl) rfl T.z_isinstance b_isinstance (pa_cons (pv 0) (pa_cons (pe_glob (v := .ref a.C_Row) rfl T.c_Row rfl) pa_nil))) (pe_and (pe_cmpR (op_eqK (K := K) rfl hr.units) (pe_bmK (K := K) rfl PySem.F.plainAttrs_list PySem.F.slot_list_count PySem.F.type_list_count mt_countB (pv 2) (pa_cons pe_bl pa_nil)) pe_int (nomark _)) (pe_one (pe_cmpR (op_eqK (K := K) rfl hr.units) (pe_ix (ix_K (K := K) rfl) (pv 3) (pe_bmK (K := K) rfl PySem.F.plainAttrs_list PySem.F.slot_list_index PySem.F.type_list_index mt_indexB (pv 2) (pa_cons pe_bl pa_nil)) (fun _ _ => rfl)) (pv 1) (nomark _))))))))); (case r5 => (refine' ps_set (i := 3) ?a5 ?b5 ?c5 ?d5 ?e5 ?f5; (case a5 => exact sc_law_one_kind.nd); (case b5 => rfl); (case c5 => exact (Or.inl rfl)); (case e5 => rfl); (case f5 => exact .inl rfl); (case d5 => (refine' pe_op (op_plusK (K := K) rfl) ?x5 ?y5; (case x5 => exact (pv 3)); (case y5 => walk_at "pex"))))))); (case r4 => (refine' ps_set (i := 3) ?a4 ?b4 ?c4 ?d4 ?e4 ?f4; (case a4 => exact sc_law_one_kind.nd); (case b4 => rfl); (case c4 => exact (Or.inl rfl)); (case e4 => rfl); (case f4 => exact .inl rfl); (case d4 => walk_at "pex"))))); (case r3 => exact (ps_set (i := 2) sc_law_one_kind.nd rfl (Or.inl rfl) (pe_op (op_plusK (K := K) rfl) (pv 2) (pe_lst (pa_cons (pe_callB (call_isiK (K := K) rfl) rfl T.z_isinstance b_isinstance (pa_cons (pv 0) (pa_cons (pe_glob (v := .ref a.C_Call) rfl T.c_Call rfl) pa_nil))) (pa_cons (pe_callB (call_isiK (K := K) rfl) rfl T.z_isinstance b_isinstance (pa_cons (pv 0) (pa_cons (pe_glob (v := .ref a.C_Back) rfl T.c_Back rfl) pa_nil))) (pa_cons (pe_callB (call_isiK (K := K) rfl) rfl T.z_isinstance b_isinstance (pa_cons (pv 0) (pa_cons (pe_glob (v := .ref a.C_Drop) rfl T.c_Drop rfl) pa_nil))) pa_nil))))))))); (case r2 => exact (ps_set (i := 2) sc_law_one_kind.nd rfl (Or.inl rfl) (pe_op (op_plusK (K := K) rfl) (pv 2) (pe_lst (pa_cons (pe_callB (call_isiK (K := K) rfl) rfl T.z_isinstance b_isinstance (pa_cons (pv 0) (pa_cons (pe_glob (v := .ref a.C_Put) rfl T.c_Put rfl) pa_nil))) (pa_cons (pe_callB (call_isiK (K := K) rfl) rfl T.z_isinstance b_isinstance (pa_cons (pv 0) (pa_cons (pe_glob (v := .ref a.C_Get) rfl T.c_Get rfl) pa_nil))) (pa_cons (pe_callB (call_isiK (K := K) rfl) rfl T.z_isinstance b_isinstance (pa_cons (pv 0) (pa_cons (pe_glob (v := .ref a.C_Jump) rfl T.c_Jump rfl) pa_nil))) (pa_cons (pe_callB (call_isiK (K := K) rfl) rfl T.z_isinstance b_isinstance (pa_cons (pv 0) (pa_cons (pe_glob (v := .ref a.C_Branch) rfl T.c_Branch rfl) pa_nil))) pa_nil)))))))))); (case r1 => exact (ps_set (i := 2) sc_law_one_kind.nd rfl (Or.inl rfl) (pe_op (op_plusK (K := K) rfl) (pv 2) (pe_lst (pa_cons (pe_callB (call_isiK (K := K) rfl) rfl T.z_isinstance b_isinstance (pa_cons (pv 0) (pa_cons (pe_glob (v := .ref a.C_Mul) rfl T.c_Mul rfl) pa_nil))) (pa_cons (pe_callB (call_isiK (K := K) rfl) rfl T.z_isinstance b_isinstance (pa_cons (pv 0) (pa_cons (pe_glob (v := .ref a.C_Less) rfl T.c_Less rfl) pa_nil))) (pa_cons (pe_callB (call_isiK (K := K) rfl) rfl T.z_isinstance b_isinstance (pa_cons (pv 0) (pa_cons (pe_glob (v := .ref a.C_Grow) rfl T.c_Grow rfl) pa_nil))) (pa_cons (pe_callB (call_isiK (K := K) rfl) rfl T.z_isinstance b_isinstance (pa_cons (pv 0) (pa_cons (pe_glob (v := .ref a.C_Shrink) rfl T.c_Shrink rfl) pa_nil))) pa_nil))))))))))
    (case r0 => exact (ps_set (i := 2) sc_law_one_kind.nd rfl (Or.inl rfl) (pe_lst (pa_cons (pe_callB (call_isiK (K := K) rfl) rfl T.z_isinstance b_isinstance (pa_cons (pv 0) (pa_cons (pe_glob (v := .ref a.C_Set) rfl T.c_Set rfl) pa_nil))) (pa_cons (pe_callB (call_isiK (K := K) rfl) rfl T.z_isinstance b_isinstance (pa_cons (pv 0) (pa_cons (pe_glob (v := .ref a.C_Copy) rfl T.c_Copy rfl) pa_nil))) (pa_cons (pe_callB (call_isiK (K := K) rfl) rfl T.z_isinstance b_isinstance (pa_cons (pv 0) (pa_cons (pe_glob (v := .ref a.C_Add) rfl T.c_Add rfl) pa_nil))) (pa_cons (pe_callB (call_isiK (K := K) rfl) rfl T.z_isinstance b_isinstance (pa_cons (pv 0) (pa_cons (pe_glob (v := .ref a.C_Sub) rfl T.c_Sub rfl) pa_nil))) pa_nil)))))))
    refine r_st (σ' := [some _, some _, none, none]) rfl ?_
    walk_at "rd"
    refine r_isi (fun z => nomatch z) (hT _ (by walk_at "same")) T.is_Call_Set ?_
    walk_at "rd"
    refine r_isi (fun z => nomatch z) (hT _ (by walk_at "same")) T.is_Call_Copy ?_
    walk_at "rd"
    refine r_isi (fun z => nomatch z) (hT _ (by walk_at "same")) T.is_Call_Add ?_
    walk_at "rd"
    refine r_isi (fun z => nomatch z) (hT _ (by walk_at "same")) T.is_Call_Sub ?_
    walk_at "rd"
    refine r_isi (fun z => nomatch z) (hT _ (by walk_at "same")) T.is_Call_Mul ?_
    walk_at "rd"
    refine r_isi (fun z => nomatch z) (hT _ (by walk_at "same")) T.is_Call_Less ?_
    walk_at "rd"
    refine r_isi (fun z => nomatch z) (hT _ (by walk_at "same")) T.is_Call_Grow ?_
    walk_at "rd"
    refine r_isi (fun z => nomatch z) (hT _ (by walk_at "same")) T.is_Call_Shrink ?_
    walk_at "rd"
    refine r_plusC ([false, false, false, false, false, false, false, false].map V.bl) rfl (by walk_at "hlk") (by walk_at "hlk") (by walk_at "small") fun b7 hb7 => ?_
    walk_at "rd"
    refine r_isi (fun z => nomatch z) (hT _ (by walk_at "same")) T.is_Call_Put ?_
    walk_at "rd"
    refine r_isi (fun z => nomatch z) (hT _ (by walk_at "same")) T.is_Call_Get ?_
    walk_at "rd"
    refine r_isi (fun z => nomatch z) (hT _ (by walk_at "same")) T.is_Call_Jump ?_
    walk_at "rd"
    refine r_isi (fun z => nomatch z) (hT _ (by walk_at "same")) T.is_Call_Branch ?_
    walk_at "rd"
    refine r_plusC ([false, false, false, false, false, false, false, false, false, false, false, false].map V.bl) rfl (by walk_at "hlk") (by walk_at "hlk") (by walk_at "small") fun b11 hb11 => ?_
    walk_at "rd"
    refine r_isi (fun z => nomatch z) (hT _ (by walk_at "same")) T.is_Call_Call ?_
    walk_at "rd"
    refine r_isi (fun z => nomatch z) (hT _ (by walk_at "same")) T.is_Call_Back ?_
    walk_at "rd"
    refine r_isi (fun z => nomatch z) (hT _ (by walk_at "same")) T.is_Call_Drop ?_
    walk_at "rd"
    refine r_plusC ([false, false, false, false, false, false, false, false, false, false, false, false, true, false, false].map V.bl) rfl (by walk_at "hlk") (by walk_at "hlk") (by walk_at "small") fun b14 hb14 => ?_
    walk_at "rd"
    refine r_plusC [.str "set", .str "copy", .str "add", .str "sub", .str "mul", .str "less", .str "grow", .str "shrink", .str "put", .str "get", .str "jump", .str "branch", .str "call", .str "back", .str "drop"] rfl (by walk_at "hlk") (by walk_at "hlk") (by walk_at "small") fun bw hbw => ?_
    walk_at "rd"
    refine r_isi (fun z => nomatch z) (hT _ (by walk_at "same")) T.is_Call_Row ?_
    walk_at "rd"
    refine r_countB (bs := [false, false, false, false, false, false, false, false, false, false, false, false, true, false, false]) (by walk_at "hlk") ?_
    rw [show ([false, false, false, false, false, false, false, false, false, false, false, false, true, false, false].countP (· == true)) = 1 from by decide]
    walk_at "rd"
    refine r_indexB (bs := [false, false, false, false, false, false, false, false, false, false, false, false, true, false, false]) (j := 12) (by walk_at "hlk") rfl (by decide) ?_
    walk_at "rd"
    exact q _ (by walk_at "same")
end
section
variable {P : Program} {w : World} {K : PySem.W.Frag} {mg : Str → Option Value} {base : Heap} {a : Adr}
local macro_rules | `(tactic| walk_at "pex") => `(tactic| first | (with_reducible exact pe_int) | (with_reducible exact pe_str) | ((with_reducible refine' pe_lst ?x); (case x => walk_at "pax")) | ((with_reducible refine' pe_tup ?x); (case x => walk_at "pax")))
local macro_rules | `(tactic| walk_at "pax") => `(tactic| first | (with_reducible exact pa_nil) | ((with_reducible refine' pa_cons ?x ?y ?z); (case z => rfl); (case x => walk_at "pex"); (case y => walk_at "pax")))
set_option maxHeartbeats 4000000 in
theorem bd_law_one_kind_Back (T : Txt K mg a) : BodyOk P w K mg base 0 "_law_one_kind" s_law_one_kind ["_law_row", "_law_word", "_law_kinds", "_law_words"] (fun vs H Q _ => ∃ (x : Addr) (w : Str) (b : Int), vs = [.ref x, .str w] ∧ OneQ a x w (.back b) H Q) := by
    intro f cdv A outer s H vs Q E hr h
    obtain ⟨x, w, b, rfl, ⟨dx, hx⟩, q⟩ := h
    have hT : ∀ H', Same H H' → TyOf K H' (.ref x) (.ref a.C_Back) := fun H' s => .ins (s _ _ hx) T.cl_Back T.ty_Back.1 T.ob1 T.ob2 T.ty_Back.2
    refine' ⟨_, pss_cons ?r0 ?q0, ?_⟩
    (case q0 => (refine' pss_cons ?r1 ?q1; (case q1 => (refine' pss_cons ?r2 ?q2; (case q2 => (refine' pss_cons ?r3 ?q3; (case q3 => (refine' pss_cons ?r4 ?q4; (case q4 => (refine' pss_cons ?r5 ?q5; (case q5 => (refine' pss_one ?r6; (case r6 => exact (ps_ret (pe_and (pe_callB (call_isiK (K := K) rfl) rfl T.z_isinstance b_isinstance (pa_cons (pv 0) (pa_cons (pe_glob (v := .ref a.C_Row) rfl T.c_Row rfl) pa_nil))) (pe_and (pe_cmpR (op_eqK (K := K) rfl hr.units) (pe_bmK (K := K) rfl PySem.F.plainAttrs_list PySem.F.slot_list_count PySem.F.type_list_count mt_countB (pv 2) (pa_cons pe_bl pa_nil)) pe_int (nomark _)) (pe_one (pe_cmpR (op_eqK (K := K) rfl hr.units) (pe_ix (ix_K (K := K) rfl) (pv 3) (pe_bmK (K := K) rfl PySem.F.plainAttrs_list PySem.F.slot_list_index PySem.F.type_list_index mt_indexB (pv 2) (pa_cons pe_bl pa_nil)) (fun _ _ => rfl)) (pv 1) (nomark _))))))))); (case r5 => (refine' ps_set (i := 3) ?a5 ?b5 ?c5 ?d5 ?e5 ?f5; (case a5 => exact sc_law_one_kind.nd); (case b5 => rfl); (case c5 => exact (Or.inl rfl)); (case e5 => rfl); (case f5 => exact .inl rfl); (case d5 => (refine' pe_op (op_plusK (K := K) rfl) ?x5 ?y5; (case x5 => exact (pv 3)); (case y5 => walk_at "pex"))))))); (case r4 => (refine' ps_set (i := 3) ?a4 ?b4 ?c4 ?d4 ?e4 ?f4; (case a4 => exact sc_law_one_kind.nd); (case b4 => rfl); (case c4 => exact (Or.inl rfl)); (case e4 => rfl); (case f4 => exact .inl rfl); (case d4 => walk_at "pex"))))); (case r3 => exact (ps_set (i := 2) sc_law_one_kind.nd rfl (Or.inl rfl) (pe_op (op_plusK (K := K) rfl) (pv 2) (pe_lst (pa_cons (pe_callB (call_isiK (K := K) rfl) rfl T.z_isinstance b_isinstance (pa_cons (pv 0) (pa_cons (pe_glob (v := .ref a.C_Call) rfl T.c_Call rfl) pa_nil))) (pa_cons (pe_callB (call_isiK (K := K) rfl) rfl T.z_isinstance b_isinstance (pa_cons (pv 0) (pa_cons (pe_glob (v := .ref a.C_Back) rfl T.c_Back rfl) pa_nil))) (pa_cons (pe_callB (call_isiK (K := K) rfl) rfl T.z_isinstance b_isinstance (pa_cons (pv 0) (pa_cons (pe_glob (v := .ref a.C_Drop) rfl T.c_Drop rfl) pa_nil))) pa_nil))))))))); (case r2 => exact (ps_set (i := 2) sc_law_one_kind.nd rfl (Or.inl rfl) (pe_op (op_plusK (K := K) rfl) (pv 2) (pe_lst (pa_cons (pe_callB (call_isiK (K := K) rfl) rfl T.z_isinstance b_isinstance (pa_cons (pv 0) (pa_cons (pe_glob (v := .ref a.C_Put) rfl T.c_Put rfl) pa_nil))) (pa_cons (pe_callB (call_isiK (K := K) rfl) rfl T.z_isinstance b_isinstance (pa_cons (pv 0) (pa_cons (pe_glob (v := .ref a.C_Get) rfl T.c_Get rfl) pa_nil))) (pa_cons (pe_callB (call_isiK (K := K) rfl) rfl T.z_isinstance b_isinstance (pa_cons (pv 0) (pa_cons (pe_glob (v := .ref a.C_Jump) rfl T.c_Jump rfl) pa_nil))) (pa_cons (pe_callB (call_isiK (K := K) rfl) rfl T.z_isinstance b_isinstance (pa_cons (pv 0) (pa_cons (pe_glob (v := .ref a.C_Branch) rfl T.c_Branch rfl) pa_nil))) pa_nil)))))))))); (case r1 => exact (ps_set (i := 2) sc_law_one_kind.nd rfl (Or.inl rfl) (pe_op (op_plusK (K := K) rfl) (pv 2) (pe_lst (pa_cons (pe_callB (call_isiK (K := K) rfl) rfl T.z_isinstance b_isinstance (pa_cons (pv 0) (pa_cons (pe_glob (v := .ref a.C_Mul) rfl T.c_Mul rfl) pa_nil))) (pa_cons (pe_callB (call_isiK (K := K) rfl) rfl T.z_isinstance b_isinstance (pa_cons (pv 0) (pa_cons (pe_glob (v := .ref a.C_Less) rfl T.c_Less rfl) pa_nil))) (pa_cons (pe_callB (call_isiK (K := K) rfl) rfl T.z_isinstance b_isinstance (pa_cons (pv 0) (pa_cons (pe_glob (v := .ref a.C_Grow) rfl T.c_Grow rfl) pa_nil))) (pa_cons (pe_callB (call_isiK (K := K) rfl) rfl T.z_isinstance b_isinstance (pa_cons (pv 0) (pa_cons (pe_glob (v := .ref a.C_Shrink) rfl T.c_Shrink rfl) pa_nil))) pa_nil))))))))))
    (case r0 => exact (ps_set (i := 2) sc_law_one_kind.nd rfl (Or.inl rfl) (pe_lst (pa_cons (pe_callB (call_isiK (K := K) rfl) rfl T.z_isinstance b_isinstance (pa_cons (pv 0) (pa_cons (pe_glob (v := .ref a.C_Set) rfl T.c_Set rfl) pa_nil))) (pa_cons (pe_callB (call_isiK (K := K) rfl) rfl T.z_isinstance b_isinstance (pa_cons (pv 0) (pa_cons (pe_glob (v := .ref a.C_Copy) rfl T.c_Copy rfl) pa_nil))) (pa_cons (pe_callB (call_isiK (K := K) rfl) rfl T.z_isinstance b_isinstance (pa_cons (pv 0) (pa_cons (pe_glob (v := .ref a.C_Add) rfl T.c_Add rfl) pa_nil))) (pa_cons (pe_callB (call_isiK (K := K) rfl) rfl T.z_isinstance b_isinstance (pa_cons (pv 0) (pa_cons (pe_glob (v := .ref a.C_Sub) rfl T.c_Sub rfl) pa_nil))) pa_nil)))))))
    refine r_st (σ' := [some _, some _, none, none]) rfl ?_
    walk_at "rd"
    refine r_isi (fun z => nomatch z) (hT _ (by walk_at "same")) T.is_Back_Set ?_
    walk_at "rd"
    refine r_isi (fun z => nomatch z) (hT _ (by walk_at "same")) T.is_Back_Copy ?_
    walk_at "rd"
    refine r_isi (fun z => nomatch z) (hT _ (by walk_at "same")) T.is_Back_Add ?_
    walk_at "rd"
    refine r_isi (fun z => nomatch z) (hT _ (by walk_at "same")) T.is_Back_Sub ?_
    walk_at "rd"
    refine r_isi (fun z => nomatch z) (hT _ (by walk_at "same")) T.is_Back_Mul ?_
    walk_at "rd"
    refine r_isi (fun z => nomatch z) (hT _ (by walk_at "same")) T.is_Back_Less ?_
    walk_at "rd"
    refine r_isi (fun z => nomatch z) (hT _ (by walk_at "same")) T.is_Back_Grow ?_
    walk_at "rd"
    refine r_isi (fun z => nomatch z) (hT _ (by walk_at "same")) T.is_Back_Shrink ?_
    walk_at "rd"
    refine r_plusC ([false, false, false, false, false, false, false, false].map V.bl) rfl (by walk_at "hlk") (by walk_at "hlk") (by walk_at "small") fun b7 hb7 => ?_
    walk_at "rd"
    refine r_isi (fun z => nomatch z) (hT _ (by walk_at "same")) T.is_Back_Put ?_
    walk_at "rd"
    refine r_isi (fun z => nomatch z) (hT _ (by walk_at "same")) T.is_Back_Get ?_
    walk_at "rd"
    refine r_isi (fun z => nomatch z) (hT _ (by walk_at "same")) T.is_Back_Jump ?_
    walk_at "rd"
    refine r_isi (fun z => nomatch z) (hT _ (by walk_at "same")) T.is_Back_Branch ?_
    walk_at "rd"
    refine r_plusC ([false, false, false, false, false, false, false, false, false, false, false, false].map V.bl) rfl (by walk_at "hlk") (by walk_at "hlk") (by walk_at "small") fun b11 hb11 => ?_
    walk_at "rd"
    refine r_isi (fun z => nomatch z) (hT _ (by walk_at "same")) T.is_Back_Call ?_
    walk_at "rd"
    refine r_isi (fun z => nomatch z) (hT _ (by walk_at "same")) T.is_Back_Back ?_
    walk_at "rd"
    refine r_isi (fun z => nomatch z) (hT _ (by walk_at "same")) T.is_Back_Drop ?_
    walk_at "rd"
    refine r_plusC ([false, false, false, false, false, false, false, false, false, false, false, false, false, true, false].map V.bl) rfl (by walk_at "hlk") (by walk_at "hlk") (by walk_at "small") fun b14 hb14 => ?_
    walk_at "rd"
    refine r_plusC [.str "set", .str "copy", .str "add", .str "sub", .str "mul", .str "less", .str "grow", .str "shrink", .str "put", .str "get", .str "jump", .str "branch", .str "call", .str "back", .str "drop"] rfl (by walk_at "hlk") (by walk_at "hlk") (by walk_at "small") fun bw hbw => ?_
    walk_at "rd"
    refine r_isi (fun z => nomatch z) (hT _ (by walk_at "same")) T.is_Back_Row ?_
    walk_at "rd"
    refine r_countB (bs := [false, false, false, false, false, false, false, false, false, false, false, false, false, true, false]) (by walk_at "hlk") ?_
    rw [show ([false, false, false, false, false, false, false, false, false, false, false, false, false, true, false].countP (· == true)) = 1 from by decide]
    walk_at "rd"
    refine r_indexB (bs := [false, false, false, false, false, false, false, false, false, false, false, false, false, true, false]) (j := 13) (by walk_at "hlk") rfl (by decide) ?_
    walk_at "rd"
    exact q _ (by walk_at "same")
end
section
variable {P : Program} {w : World} {K : PySem.W.Frag} {mg : Str → Option Value} {base : Heap} {a : Adr}
local macro_rules | `(tactic| walk_at "pex") => `(tactic| first | (with_reducible exact pe_int) | (with_reducible exact pe_str) | ((with_reducible refine' pe_lst ?x); (case x => walk_at "pax")) | ((with_reducible refine' pe_tup ?x); (case x => walk_at "pax")))
local macro_rules | `(tactic| walk_at "pax") => `(tactic| first | (with_reducible exact pa_nil) | ((with_reducible refine' pa_cons ?x ?y ?z); (case z => rfl); (case x => walk_at "pex"); (case y => walk_at "pax")))
set_option maxHeartbeats 4000000 in
theorem bd_law_one_kind_Drop (T : Txt K mg a) : BodyOk P w K mg base 0 "_law_one_kind" s_law_one_kind ["_law_row", "_law_word", "_law_kinds", "_law_words"] (fun vs H Q _ => ∃ (x : Addr) (w : Str) (b : Int), vs = [.ref x, .str w] ∧ OneQ a x w (.drop b) H Q) := by
    intro f cdv A outer s H vs Q E hr h
    obtain ⟨x, w, b, rfl, ⟨dx, hx⟩, q⟩ := h
    have hT : ∀ H', Same H H' → TyOf K H' (.ref x) (.ref a.C_Drop) := fun H' s => .ins (s _ _ hx) T.cl_Drop T.ty_Drop.1 T.ob1 T.ob2 T.ty_Drop.2
    refine' ⟨_, pss_cons ?r0 ?q0, ?_⟩
    (case q0 => (refine' pss_cons ?r1 ?q1; (case q1 => (refine' pss_cons ?r2 ?q2; (case q2 => (refine' pss_cons ?r3 ?q3; (case q3 => (refine' pss_cons ?r4 ?q4; (case q4 => (refine' pss_cons ?r5 ?q5; (case q5 => (refine' pss_one ?r6; (case r6 => exact (ps_ret (pe_and (pe_callB (call_isiK (K := K) rfl) rfl T.z_isinstance b_isinstance (pa_cons (pv 0) (pa_cons (pe_glob (v := .ref a.C_Row) rfl T.c_Row rfl) pa_nil))) (pe_and (pe_cmpR (op_eqK (K := K) rfl hr.units) (pe_bmK (K := K) rfl PySem.F.plainAttrs_list PySem.F.slot_list_count PySem.F.type_list_count mt_countB (pv 2) (pa_cons pe_bl pa_nil)) pe_int (nomark _)) (pe_one (pe_cmpR (op_eqK (K := K) rfl hr.units) (pe_ix (ix_K (K := K) rfl) (pv 3) (pe_bmK (K := K) rfl PySem.F.plainAttrs_list PySem.F.slot_list_index PySem.F.type_list_index mt_indexB (pv 2) (pa_cons pe_bl pa_nil)) (fun _ _ => rfl)) (pv 1) (nomark _))))))))); (case r5 => (refine' ps_set (i := 3) ?a5 ?b5 ?c5 ?d5 ?e5 ?f5; (case a5 => exact sc_law_one_kind.nd); (case b5 => rfl); (case c5 => exact (Or.inl rfl)); (case e5 => rfl); (case f5 => exact .inl rfl); (case d5 => (refine' pe_op (op_plusK (K := K) rfl) ?x5 ?y5; (case x5 => exact (pv 3)); (case y5 => walk_at "pex"))))))); (case r4 => (refine' ps_set (i := 3) ?a4 ?b4 ?c4 ?d4 ?e4 ?f4; (case a4 => exact sc_law_one_kind.nd); (case b4 => rfl); (case c4 => exact (Or.inl rfl)); (case e4 => rfl); (case f4 => exact .inl rfl); (case d4 => walk_at "pex"))))); (case r3 => exact (ps_set (i := 2) sc_law_one_kind.nd rfl (Or.inl rfl) (pe_op (op_plusK (K := K) rfl) (pv 2) (pe_lst (pa_cons (pe_callB (call_isiK (K := K) rfl) rfl T.z_isinstance b_isinstance (pa_cons (pv 0) (pa_cons (pe_glob (v := .ref a.C_Call) rfl T.c_Call rfl) pa_nil))) (pa_cons (pe_callB (call_isiK (K := K) rfl) rfl T.z_isinstance b_isinstance (pa_cons (pv 0) (pa_cons (pe_glob (v := .ref a.C_Back) rfl T.c_Back rfl) pa_nil))) (pa_cons (pe_callB (call_isiK (K := K) rfl) rfl T.z_isinstance b_isinstance (pa_cons (pv 0) (pa_cons (pe_glob (v := .ref a.C_Drop) rfl T.c_Drop rfl) pa_nil))) pa_nil))))))))); (case r2 => exact (ps_set (i := 2) sc_law_one_kind.nd rfl (Or.inl rfl) (pe_op (op_plusK (K := K) rfl) (pv 2) (pe_lst (pa_cons (pe_callB (call_isiK (K := K) rfl) rfl T.z_isinstance b_isinstance (pa_cons (pv 0) (pa_cons (pe_glob (v := .ref a.C_Put) rfl T.c_Put rfl) pa_nil))) (pa_cons (pe_callB (call_isiK (K := K) rfl) rfl T.z_isinstance b_isinstance (pa_cons (pv 0) (pa_cons (pe_glob (v := .ref a.C_Get) rfl T.c_Get rfl) pa_nil))) (pa_cons (pe_callB (call_isiK (K := K) rfl) rfl T.z_isinstance b_isinstance (pa_cons (pv 0) (pa_cons (pe_glob (v := .ref a.C_Jump) rfl T.c_Jump rfl) pa_nil))) (pa_cons (pe_callB (call_isiK (K := K) rfl) rfl T.z_isinstance b_isinstance (pa_cons (pv 0) (pa_cons (pe_glob (v := .ref a.C_Branch) rfl T.c_Branch rfl) pa_nil))) pa_nil)))))))))); (case r1 => exact (ps_set (i := 2) sc_law_one_kind.nd rfl (Or.inl rfl) (pe_op (op_plusK (K := K) rfl) (pv 2) (pe_lst (pa_cons (pe_callB (call_isiK (K := K) rfl) rfl T.z_isinstance b_isinstance (pa_cons (pv 0) (pa_cons (pe_glob (v := .ref a.C_Mul) rfl T.c_Mul rfl) pa_nil))) (pa_cons (pe_callB (call_isiK (K := K) rfl) rfl T.z_isinstance b_isinstance (pa_cons (pv 0) (pa_cons (pe_glob (v := .ref a.C_Less) rfl T.c_Less rfl) pa_nil))) (pa_cons (pe_callB (call_isiK (K := K) rfl) rfl T.z_isinstance b_isinstance (pa_cons (pv 0) (pa_cons (pe_glob (v := .ref a.C_Grow) rfl T.c_Grow rfl) pa_nil))) (pa_cons (pe_callB (call_isiK (K := K) rfl) rfl T.z_isinstance b_isinstance (pa_cons (pv 0) (pa_cons (pe_glob (v := .ref a.C_Shrink) rfl T.c_Shrink rfl) pa_nil))) pa_nil))))))))))
    (case r0 => exact (ps_set (i := 2) sc_law_one_kind.nd rfl (Or.inl rfl) (pe_lst (pa_cons (pe_callB (call_isiK (K := K) rfl) rfl T.z_isinstance b_isinstance (pa_cons (pv 0) (pa_cons (pe_glob (v := .ref a.C_Set) rfl T.c_Set rfl) pa_nil))) (pa_cons (pe_callB (call_isiK (K := K) rfl) rfl T.z_isinstance b_isinstance (pa_cons (pv 0) (pa_cons (pe_glob (v := .ref a.C_Copy) rfl T.c_Copy rfl) pa_nil))) (pa_cons (pe_callB (call_isiK (K := K) rfl) rfl T.z_isinstance b_isinstance (pa_cons (pv 0) (pa_cons (pe_glob (v := .ref a.C_Add) rfl T.c_Add rfl) pa_nil))) (pa_cons (pe_callB (call_isiK (K := K) rfl) rfl T.z_isinstance b_isinstance (pa_cons (pv 0) (pa_cons (pe_glob (v := .ref a.C_Sub) rfl T.c_Sub rfl) pa_nil))) pa_nil)))))))
    refine r_st (σ' := [some _, some _, none, none]) rfl ?_
    walk_at "rd"
    refine r_isi (fun z => nomatch z) (hT _ (by walk_at "same")) T.is_Drop_Set ?_
    walk_at "rd"
    refine r_isi (fun z => nomatch z) (hT _ (by walk_at "same")) T.is_Drop_Copy ?_
    walk_at "rd"
    refine r_isi (fun z => nomatch z) (hT _ (by walk_at "same")) T.is_Drop_Add ?_
    walk_at "rd"
    refine r_isi (fun z => nomatch z) (hT _ (by walk_at "same")) T.is_Drop_Sub ?_
    walk_at "rd"
    refine r_isi (fun z => nomatch z) (hT _ (by walk_at "same")) T.is_Drop_Mul ?_
    walk_at "rd"
    refine r_isi (fun z => nomatch z) (hT _ (by walk_at "same")) T.is_Drop_Less ?_
    walk_at "rd"
    refine r_isi (fun z => nomatch z) (hT _ (by walk_at "same")) T.is_Drop_Grow ?_
    walk_at "rd"
    refine r_isi (fun z => nomatch z) (hT _ (by walk_at "same")) T.is_Drop_Shrink ?_
    walk_at "rd"
    refine r_plusC ([false, false, false, false, false, false, false, false].map V.bl) rfl (by walk_at "hlk") (by walk_at "hlk") (by walk_at "small") fun b7 hb7 => ?_
    walk_at "rd"
    refine r_isi (fun z => nomatch z) (hT _ (by walk_at "same")) T.is_Drop_Put ?_
    walk_at "rd"
    refine r_isi (fun z => nomatch z) (hT _ (by walk_at "same")) T.is_Drop_Get ?_
    walk_at "rd"
    refine r_isi (fun z => nomatch z) (hT _ (by walk_at "same")) T.is_Drop_Jump ?_
    walk_at "rd"
    refine r_isi (fun z => nomatch z) (hT _ (by walk_at "same")) T.is_Drop_Branch ?_
    walk_at "rd"
    refine r_plusC ([false, false, false, false, false, false, false, false, false, false, false, false].map V.bl) rfl (by walk_at "hlk") (by walk_at "hlk") (by walk_at "small") fun b11 hb11 => ?_
    walk_at "rd"
    refine r_isi (fun z => nomatch z) (hT _ (by walk_at "same")) T.is_Drop_Call ?_
    walk_at "rd"
    refine r_isi (fun z => nomatch z) (hT _ (by walk_at "same")) T.is_Drop_Back ?_
    walk_at "rd"
    refine r_isi (fun z => nomatch z) (hT _ (by walk_at "same")) T.is_Drop_Drop ?_
    walk_at "rd"
    refine r_plusC ([false, false, false, false, false, false, false, false, false, false, false, false, false, false, true].map V.bl) rfl (by walk_at "hlk") (by walk_at "hlk") (by walk_at "small") fun b14 hb14 => ?_
    walk_at "rd"
    refine r_plusC [.str "set", .str "copy", .str "add", .str "sub", .str "mul", .str "less", .str "grow", .str "shrink", .str "put", .str "get", .str "jump", .str "branch", .str "call", .str "back", .str "drop"] rfl (by walk_at "hlk") (by walk_at "hlk") (by walk_at "small") fun bw hbw => ?_
    walk_at "rd"
    refine r_isi (fun z => nomatch z) (hT _ (by walk_at "same")) T.is_Drop_Row ?_
    walk_at "rd"
    refine r_countB (bs := [false, false, false, false, false, false, false, false, false, false, false, false, false, false, true]) (by walk_at "hlk") ?_
    rw [show ([false, false, false, false, false, false, false, false, false, false, false, false, false, false, true].countP (· == true)) = 1 from by decide]
    walk_at "rd"
    refine r_indexB (bs := [false, false, false, false, false, false, false, false, false, false, false, false, false, false, true]) (j := 14) (by walk_at "hlk") rfl (by decide) ?_
    walk_at "rd"
    exact q _ (by walk_at "same")
end
section
variable {P : Program} {w : World} {K : PySem.W.Frag} {mg : Str → Option Value} {base : Heap} {a : Adr}
set_option maxHeartbeats 4000000 in
theorem ok_bounded (T : Txt K mg a) : FnE P w K mg base (CXR P w) 1 "bounded" (spBoundedX a) := by
  refine fnX_of (sp := (spBoundedX a)) 0 T.fn_bounded sc_bounded (fun vs H Q E h => ?_) (fun f cdv A outer s H vs Q E hr h => ?_)
  · obtain ⟨n, top, rfl, _⟩ := h
    rfl
  · obtain ⟨n, top, rfl, t0, t1, q, e⟩ := h
    refine ⟨_, (pss_cons (ps_if (PT.nox (PW.pt (pw_or (pt_cmpR op_lt (pv 0) pe_int (nomark _)) (pw_or1 (pt_cmpR op_gt (pv 0) (pv 1) (nomark _)))))) (pss_one (ps_raise T.x_NoRow rfl (pa_cons (pe_fst2 (pv 1)) pa_nil))) pss_nil)
      (pss_one (PS.nox (ps_ret (pv 0))))), ?_⟩
    refine r_st (σ' := [some _, some _]) rfl ?_
    walk_at "rd"
    refine ifDec (fun hh => ?_) (fun hh => ?_)
    · walk_at "rd"
      refine ⟨log_small (by omega) (by omega), ?_⟩
      walk_at "rd"
      exact ⟨by show 1 ≤ 1000; decide, e (by omega)⟩
    · walk_at "rd"
      refine ifDec (fun hh => ?_) (fun hh => ?_)
      · walk_at "rd"
        refine ⟨log_small (by omega) (by omega), ?_⟩
        walk_at "rd"
        exact ⟨by show 1 ≤ 1000; decide, e (by omega)⟩
      · walk_at "rd"
        exact q ⟨by omega, by omega⟩
end
section
variable {P : Program} {w : World} {K : PySem.W.Frag} {mg : Str → Option Value} {base : Heap} {a : Adr}
set_option maxHeartbeats 4000000 in
theorem me_Less_laid (T : Txt K mg a) (b o t : Int) : MethE P w K mg base (CXR P w) 1 a.C_Less "laid" (spLaid a (.less b o t)) := by
  refine methX_of (sp := (spLaid a (.less b o t))) 0 T.cl_Less T.m_Less_laid sc_Row_laid (fun vs H Q E h => ?_) (fun f cdv A outer s H vs Q E hr h => ?_)
  · obtain ⟨x, d, rfl, _⟩ := h
    rfl
  · obtain ⟨x, d, rfl, hx, hk, q, e⟩ := h
    refine ⟨_, (pss_one (PS.nox (ps_ret (pv 0)))), ?_⟩
    refine r_st (σ' := [some _, some _]) rfl ?_
    walk_at "rd"
    exact q hk x H (Same.refl _) hx
end
section
variable {P : Program} {w : World} {K : PySem.W.Frag} {mg : Str → Option Value} {base : Heap} {a : Adr}
set_option maxHeartbeats 4000000 in
theorem me_Set_laid (T : Txt K mg a) (b n : Int) : MethE P w K mg base (CXR P w) 1 a.C_Set "laid" (spLaid a (.set b n)) := by
  refine methX_of (sp := (spLaid a (.set b n))) 0 T.cl_Set T.m_Set_laid sc_Row_laid (fun vs H Q E h => ?_) (fun f cdv A outer s H vs Q E hr h => ?_)
  · obtain ⟨x, d, rfl, _⟩ := h
    rfl
  · obtain ⟨x, d, rfl, hx, hk, q, e⟩ := h
    refine ⟨_, (pss_one (PS.nox (ps_ret (pv 0)))), ?_⟩
    refine r_st (σ' := [some _, some _]) rfl ?_
    walk_at "rd"
    exact q hk x H (Same.refl _) hx
end
section
variable {P : Program} {w : World} {K : PySem.W.Frag} {mg : Str → Option Value} {base : Heap} {a : Adr}
set_option maxHeartbeats 4000000 in
theorem me_Copy_laid (T : Txt K mg a) (b o : Int) : MethE P w K mg base (CXR P w) 1 a.C_Copy "laid" (spLaid a (.copy b o)) := by
  refine methX_of (sp := (spLaid a (.copy b o))) 0 T.cl_Copy T.m_Copy_laid sc_Row_laid (fun vs H Q E h => ?_) (fun f cdv A outer s H vs Q E hr h => ?_)
  · obtain ⟨x, d, rfl, _⟩ := h
    rfl
  · obtain ⟨x, d, rfl, hx, hk, q, e⟩ := h
    refine ⟨_, (pss_one (PS.nox (ps_ret (pv 0)))), ?_⟩
    refine r_st (σ' := [some _, some _]) rfl ?_
    walk_at "rd"
    exact q hk x H (Same.refl _) hx
end
section
variable {P : Program} {w : World} {K : PySem.W.Frag} {mg : Str → Option Value} {base : Heap} {a : Adr}
set_option maxHeartbeats 4000000 in
theorem me_Add_laid (T : Txt K mg a) (b o t : Int) : MethE P w K mg base (CXR P w) 1 a.C_Add "laid" (spLaid a (.add b o t)) := by
  refine methX_of (sp := (spLaid a (.add b o t))) 0 T.cl_Add T.m_Add_laid sc_Row_laid (fun vs H Q E h => ?_) (fun f cdv A outer s H vs Q E hr h => ?_)
  · obtain ⟨x, d, rfl, _⟩ := h
    rfl
  · obtain ⟨x, d, rfl, hx, hk, q, e⟩ := h
    refine ⟨_, (pss_one (PS.nox (ps_ret (pv 0)))), ?_⟩
    refine r_st (σ' := [some _, some _]) rfl ?_
    walk_at "rd"
    exact q hk x H (Same.refl _) hx
end
section
variable {P : Program} {w : World} {K : PySem.W.Frag} {mg : Str → Option Value} {base : Heap} {a : Adr}
set_option maxHeartbeats 4000000 in
theorem me_Sub_laid (T : Txt K mg a) (b o t : Int) : MethE P w K mg base (CXR P w) 1 a.C_Sub "laid" (spLaid a (.sub b o t)) := by
  refine methX_of (sp := (spLaid a (.sub b o t))) 0 T.cl_Sub T.m_Sub_laid sc_Row_laid (fun vs H Q E h => ?_) (fun f cdv A outer s H vs Q E hr h => ?_)
  · obtain ⟨x, d, rfl, _⟩ := h
    rfl
  · obtain ⟨x, d, rfl, hx, hk, q, e⟩ := h
    refine ⟨_, (pss_one (PS.nox (ps_ret (pv 0)))), ?_⟩
    refine r_st (σ' := [some _, some _]) rfl ?_
    walk_at "rd"
    exact q hk x H (Same.refl _) hx
end
section
variable {P : Program} {w : World} {K : PySem.W.Frag} {mg : Str → Option Value} {base : Heap} {a : Adr}
set_option maxHeartbeats 4000000 in
theorem me_Mul_laid (T : Txt K mg a) (b o t : Int) : MethE P w K mg base (CXR P w) 1 a.C_Mul "laid" (spLaid a (.mul b o t)) := by
  refine methX_of (sp := (spLaid a (.mul b o t))) 0 T.cl_Mul T.m_Mul_laid sc_Row_laid (fun vs H Q E h => ?_) (fun f cdv A outer s H vs Q E hr h => ?_)
  · obtain ⟨x, d, rfl, _⟩ := h
    rfl
  · obtain ⟨x, d, rfl, hx, hk, q, e⟩ := h
    refine ⟨_, (pss_one (PS.nox (ps_ret (pv 0)))), ?_⟩
    refine r_st (σ' := [some _, some _]) rfl ?_
    walk_at "rd"
    exact q hk x H (Same.refl _) hx
end
section
variable {P : Program} {w : World} {K : PySem.W.Frag} {mg : Str → Option Value} {base : Heap} {a : Adr}
set_option maxHeartbeats 4000000 in
theorem me_Drop_laid (T : Txt K mg a) (b : Int) : MethE P w K mg base (CXR P w) 1 a.C_Drop "laid" (spLaid a (.drop b)) := by
  refine methX_of (sp := (spLaid a (.drop b))) 0 T.cl_Drop T.m_Drop_laid sc_Row_laid (fun vs H Q E h => ?_) (fun f cdv A outer s H vs Q E hr h => ?_)
  · obtain ⟨x, d, rfl, _⟩ := h
    rfl
  · obtain ⟨x, d, rfl, hx, hk, q, e⟩ := h
    refine ⟨_, (pss_one (PS.nox (ps_ret (pv 0)))), ?_⟩
    refine r_st (σ' := [some _, some _]) rfl ?_
    walk_at "rd"
    exact q hk x H (Same.refl _) hx
end
section
variable {P : Program} {w : World} {K : PySem.W.Frag} {mg : Str → Option Value} {base : Heap} {a : Adr}
set_option maxHeartbeats 4000000 in
theorem me_Grow_laid (T : Txt K mg a) (m : Int) : MethE P w K mg base (CXR P w) 1 a.C_Grow "laid" (spLaid a (.grow m)) := by
  refine methX_of (sp := (spLaid a (.grow m))) 0 T.cl_Grow T.m_Grow_laid sc_Row_laid (fun vs H Q E h => ?_) (fun f cdv A outer s H vs Q E hr h => ?_)
  · obtain ⟨x, d, rfl, _⟩ := h
    rfl
  · obtain ⟨x, d, rfl, hx, hk, q, e⟩ := h
    refine ⟨_, (pss_one (PS.nox (ps_ret (pv 0)))), ?_⟩
    refine r_st (σ' := [some _, some _]) rfl ?_
    walk_at "rd"
    exact q hk x H (Same.refl _) hx
end
section
variable {P : Program} {w : World} {K : PySem.W.Frag} {mg : Str → Option Value} {base : Heap} {a : Adr}
set_option maxHeartbeats 4000000 in
theorem me_Shrink_laid (T : Txt K mg a) (m : Int) : MethE P w K mg base (CXR P w) 1 a.C_Shrink "laid" (spLaid a (.shrink m)) := by
  refine methX_of (sp := (spLaid a (.shrink m))) 0 T.cl_Shrink T.m_Shrink_laid sc_Row_laid (fun vs H Q E h => ?_) (fun f cdv A outer s H vs Q E hr h => ?_)
  · obtain ⟨x, d, rfl, _⟩ := h
    rfl
  · obtain ⟨x, d, rfl, hx, hk, q, e⟩ := h
    refine ⟨_, (pss_one (PS.nox (ps_ret (pv 0)))), ?_⟩
    refine r_st (σ' := [some _, some _]) rfl ?_
    walk_at "rd"
    exact q hk x H (Same.refl _) hx
end
section
variable {P : Program} {w : World} {K : PySem.W.Frag} {mg : Str → Option Value} {base : Heap} {a : Adr}
set_option maxHeartbeats 4000000 in
theorem me_Put_laid (T : Txt K mg a) (b c : Int) : MethE P w K mg base (CXR P w) 1 a.C_Put "laid" (spLaid a (.put b c)) := by
  refine methX_of (sp := (spLaid a (.put b c))) 0 T.cl_Put T.m_Put_laid sc_Row_laid (fun vs H Q E h => ?_) (fun f cdv A outer s H vs Q E hr h => ?_)
  · obtain ⟨x, d, rfl, _⟩ := h
    rfl
  · obtain ⟨x, d, rfl, hx, hk, q, e⟩ := h
    refine ⟨_, (pss_one (PS.nox (ps_ret (pv 0)))), ?_⟩
    refine r_st (σ' := [some _, some _]) rfl ?_
    walk_at "rd"
    exact q hk x H (Same.refl _) hx
end
section
variable {P : Program} {w : World} {K : PySem.W.Frag} {mg : Str → Option Value} {base : Heap} {a : Adr}
set_option maxHeartbeats 4000000 in
theorem me_Get_laid (T : Txt K mg a) (b c : Int) : MethE P w K mg base (CXR P w) 1 a.C_Get "laid" (spLaid a (.get b c)) := by
  refine methX_of (sp := (spLaid a (.get b c))) 0 T.cl_Get T.m_Get_laid sc_Row_laid (fun vs H Q E h => ?_) (fun f cdv A outer s H vs Q E hr h => ?_)
  · obtain ⟨x, d, rfl, _⟩ := h
    rfl
  · obtain ⟨x, d, rfl, hx, hk, q, e⟩ := h
    refine ⟨_, (pss_one (PS.nox (ps_ret (pv 0)))), ?_⟩
    refine r_st (σ' := [some _, some _]) rfl ?_
    walk_at "rd"
    exact q hk x H (Same.refl _) hx
end
section
variable {P : Program} {w : World} {K : PySem.W.Frag} {mg : Str → Option Value} {base : Heap} {a : Adr}
set_option maxHeartbeats 4000000 in
theorem me_Back_laid (T : Txt K mg a) (b : Int) : MethE P w K mg base (CXR P w) 1 a.C_Back "laid" (spLaid a (.back b)) := by
  refine methX_of (sp := (spLaid a (.back b))) 0 T.cl_Back T.m_Back_laid sc_Row_laid (fun vs H Q E h => ?_) (fun f cdv A outer s H vs Q E hr h => ?_)
  · obtain ⟨x, d, rfl, _⟩ := h
    rfl
  · obtain ⟨x, d, rfl, hx, hk, q, e⟩ := h
    refine ⟨_, (pss_one (PS.nox (ps_ret (pv 0)))), ?_⟩
    refine r_st (σ' := [some _, some _]) rfl ?_
    walk_at "rd"
    exact q hk x H (Same.refl _) hx
end
section
variable {P : Program} {w : World} {K : PySem.W.Frag} {mg : Str → Option Value} {base : Heap} {a : Adr}
set_option maxHeartbeats 4000000 in
theorem me_Set_told (T : Txt K mg a) (b n : Int) : MethE P w K mg base CX0 1 a.C_Set "told" (spTold a (.set b n)) := by
  refine methE_of (sp := (spTold a (.set b n))) 0 T.cl_Set T.m_Set_told sc_Set_told (fun vs H Q E h => ?_) (fun f cdv A outer s H vs Q E hr h => ?_)
  · obtain ⟨x, rfl, _⟩ := h
    rfl
  · obtain ⟨x, rfl, ⟨dx, hx⟩, q⟩ := h
    change H x = some (.ins a.C_Set dx (putF "number" (.int n) (putF "box" (.int b) []))) at hx
    refine ⟨_, (pss_one (ps_ret (pe_tup (pa_cons pe_str (pa_cons (pe_fldK (K := K) rfl (pv 0)) (pa_cons (pe_fldK (K := K) rfl (pv 0)) pa_nil)))))), ?_⟩
    refine r_st (σ' := [some _]) rfl ?_
    walk_at "rd"
    exact q _ (by assumption)
end
section
variable {P : Program} {w : World} {K : PySem.W.Frag} {mg : Str → Option Value} {base : Heap} {a : Adr}
set_option maxHeartbeats 4000000 in
theorem me_Copy_told (T : Txt K mg a) (b o : Int) : MethE P w K mg base CX0 1 a.C_Copy "told" (spTold a (.copy b o)) := by
  refine methE_of (sp := (spTold a (.copy b o))) 0 T.cl_Copy T.m_Copy_told sc_Copy_told (fun vs H Q E h => ?_) (fun f cdv A outer s H vs Q E hr h => ?_)
  · obtain ⟨x, rfl, _⟩ := h
    rfl
  · obtain ⟨x, rfl, ⟨dx, hx⟩, q⟩ := h
    change H x = some (.ins a.C_Copy dx (putF "one" (.int o) (putF "box" (.int b) []))) at hx
    refine ⟨_, (pss_one (ps_ret (pe_tup (pa_cons pe_str (pa_cons (pe_fldK (K := K) rfl (pv 0)) (pa_cons (pe_fldK (K := K) rfl (pv 0)) pa_nil)))))), ?_⟩
    refine r_st (σ' := [some _]) rfl ?_
    walk_at "rd"
    exact q _ (by assumption)
end
section
variable {P : Program} {w : World} {K : PySem.W.Frag} {mg : Str → Option Value} {base : Heap} {a : Adr}
set_option maxHeartbeats 4000000 in
theorem me_Add_told (T : Txt K mg a) (b o t : Int) : MethE P w K mg base CX0 1 a.C_Add "told" (spTold a (.add b o t)) := by
  refine methE_of (sp := (spTold a (.add b o t))) 0 T.cl_Add T.m_Add_told sc_Add_told (fun vs H Q E h => ?_) (fun f cdv A outer s H vs Q E hr h => ?_)
  · obtain ⟨x, rfl, _⟩ := h
    rfl
  · obtain ⟨x, rfl, ⟨dx, hx⟩, q⟩ := h
    change H x = some (.ins a.C_Add dx (putF "other" (.int t) (putF "one" (.int o) (putF "box" (.int b) [])))) at hx
    refine ⟨_, (pss_one (ps_ret (pe_tup (pa_cons pe_str (pa_cons (pe_fldK (K := K) rfl (pv 0)) (pa_cons (pe_fldK (K := K) rfl (pv 0)) (pa_cons (pe_fldK (K := K) rfl (pv 0)) pa_nil))))))), ?_⟩
    refine r_st (σ' := [some _]) rfl ?_
    walk_at "rd"
    exact q _ (by assumption)
end
section
variable {P : Program} {w : World} {K : PySem.W.Frag} {mg : Str → Option Value} {base : Heap} {a : Adr}
set_option maxHeartbeats 4000000 in
theorem me_Sub_told (T : Txt K mg a) (b o t : Int) : MethE P w K mg base CX0 1 a.C_Sub "told" (spTold a (.sub b o t)) := by
  refine methE_of (sp := (spTold a (.sub b o t))) 0 T.cl_Sub T.m_Sub_told sc_Sub_told (fun vs H Q E h => ?_) (fun f cdv A outer s H vs Q E hr h => ?_)
  · obtain ⟨x, rfl, _⟩ := h
    rfl
  · obtain ⟨x, rfl, ⟨dx, hx⟩, q⟩ := h
    change H x = some (.ins a.C_Sub dx (putF "other" (.int t) (putF "one" (.int o) (putF "box" (.int b) [])))) at hx
    refine ⟨_, (pss_one (ps_ret (pe_tup (pa_cons pe_str (pa_cons (pe_fldK (K := K) rfl (pv 0)) (pa_cons (pe_fldK (K := K) rfl (pv 0)) (pa_cons (pe_fldK (K := K) rfl (pv 0)) pa_nil))))))), ?_⟩
    refine r_st (σ' := [some _]) rfl ?_
    walk_at "rd"
    exact q _ (by assumption)
end
section
variable {P : Program} {w : World} {K : PySem.W.Frag} {mg : Str → Option Value} {base : Heap} {a : Adr}
set_option maxHeartbeats 4000000 in
theorem me_Mul_told (T : Txt K mg a) (b o t : Int) : MethE P w K mg base CX0 1 a.C_Mul "told" (spTold a (.mul b o t)) := by
  refine methE_of (sp := (spTold a (.mul b o t))) 0 T.cl_Mul T.m_Mul_told sc_Mul_told (fun vs H Q E h => ?_) (fun f cdv A outer s H vs Q E hr h => ?_)
  · obtain ⟨x, rfl, _⟩ := h
    rfl
  · obtain ⟨x, rfl, ⟨dx, hx⟩, q⟩ := h
    change H x = some (.ins a.C_Mul dx (putF "other" (.int t) (putF "one" (.int o) (putF "box" (.int b) [])))) at hx
    refine ⟨_, (pss_one (ps_ret (pe_tup (pa_cons pe_str (pa_cons (pe_fldK (K := K) rfl (pv 0)) (pa_cons (pe_fldK (K := K) rfl (pv 0)) (pa_cons (pe_fldK (K := K) rfl (pv 0)) pa_nil))))))), ?_⟩
    refine r_st (σ' := [some _]) rfl ?_
    walk_at "rd"
    exact q _ (by assumption)
end
section
variable {P : Program} {w : World} {K : PySem.W.Frag} {mg : Str → Option Value} {base : Heap} {a : Adr}
set_option maxHeartbeats 4000000 in
theorem me_Less_told (T : Txt K mg a) (b o t : Int) : MethE P w K mg base CX0 1 a.C_Less "told" (spTold a (.less b o t)) := by
  refine methE_of (sp := (spTold a (.less b o t))) 0 T.cl_Less T.m_Less_told sc_Less_told (fun vs H Q E h => ?_) (fun f cdv A outer s H vs Q E hr h => ?_)
  · obtain ⟨x, rfl, _⟩ := h
    rfl
  · obtain ⟨x, rfl, ⟨dx, hx⟩, q⟩ := h
    change H x = some (.ins a.C_Less dx (putF "other" (.int t) (putF "one" (.int o) (putF "box" (.int b) [])))) at hx
    refine ⟨_, (pss_one (ps_ret (pe_tup (pa_cons pe_str (pa_cons (pe_fldK (K := K) rfl (pv 0)) (pa_cons (pe_fldK (K := K) rfl (pv 0)) (pa_cons (pe_fldK (K := K) rfl (pv 0)) pa_nil))))))), ?_⟩
    refine r_st (σ' := [some _]) rfl ?_
    walk_at "rd"
    exact q _ (by assumption)
end
section
variable {P : Program} {w : World} {K : PySem.W.Frag} {mg : Str → Option Value} {base : Heap} {a : Adr}
set_option maxHeartbeats 4000000 in
theorem me_Grow_told (T : Txt K mg a) (m : Int) : MethE P w K mg base CX0 1 a.C_Grow "told" (spTold a (.grow m)) := by
  refine methE_of (sp := (spTold a (.grow m))) 0 T.cl_Grow T.m_Grow_told sc_Grow_told (fun vs H Q E h => ?_) (fun f cdv A outer s H vs Q E hr h => ?_)
  · obtain ⟨x, rfl, _⟩ := h
    rfl
  · obtain ⟨x, rfl, ⟨dx, hx⟩, q⟩ := h
    change H x = some (.ins a.C_Grow dx (putF "many" (.int m) [])) at hx
    refine ⟨_, (pss_one (ps_ret (pe_tup (pa_cons pe_str (pa_cons (pe_fldK (K := K) rfl (pv 0)) pa_nil))))), ?_⟩
    refine r_st (σ' := [some _]) rfl ?_
    walk_at "rd"
    exact q _ (by assumption)
end
section
variable {P : Program} {w : World} {K : PySem.W.Frag} {mg : Str → Option Value} {base : Heap} {a : Adr}
set_option maxHeartbeats 4000000 in
theorem me_Shrink_told (T : Txt K mg a) (m : Int) : MethE P w K mg base CX0 1 a.C_Shrink "told" (spTold a (.shrink m)) := by
  refine methE_of (sp := (spTold a (.shrink m))) 0 T.cl_Shrink T.m_Shrink_told sc_Shrink_told (fun vs H Q E h => ?_) (fun f cdv A outer s H vs Q E hr h => ?_)
  · obtain ⟨x, rfl, _⟩ := h
    rfl
  · obtain ⟨x, rfl, ⟨dx, hx⟩, q⟩ := h
    change H x = some (.ins a.C_Shrink dx (putF "many" (.int m) [])) at hx
    refine ⟨_, (pss_one (ps_ret (pe_tup (pa_cons pe_str (pa_cons (pe_fldK (K := K) rfl (pv 0)) pa_nil))))), ?_⟩
    refine r_st (σ' := [some _]) rfl ?_
    walk_at "rd"
    exact q _ (by assumption)
end
section
variable {P : Program} {w : World} {K : PySem.W.Frag} {mg : Str → Option Value} {base : Heap} {a : Adr}
set_option maxHeartbeats 4000000 in
theorem me_Put_told (T : Txt K mg a) (b c : Int) : MethE P w K mg base CX0 1 a.C_Put "told" (spTold a (.put b c)) := by
  refine methE_of (sp := (spTold a (.put b c))) 0 T.cl_Put T.m_Put_told sc_Put_told (fun vs H Q E h => ?_) (fun f cdv A outer s H vs Q E hr h => ?_)
  · obtain ⟨x, rfl, _⟩ := h
    rfl
  · obtain ⟨x, rfl, ⟨dx, hx⟩, q⟩ := h
    change H x = some (.ins a.C_Put dx (putF "cell" (.int c) (putF "box" (.int b) []))) at hx
    refine ⟨_, (pss_one (ps_ret (pe_tup (pa_cons pe_str (pa_cons (pe_fldK (K := K) rfl (pv 0)) (pa_cons (pe_fldK (K := K) rfl (pv 0)) pa_nil)))))), ?_⟩
    refine r_st (σ' := [some _]) rfl ?_
    walk_at "rd"
    exact q _ (by assumption)
end
section
variable {P : Program} {w : World} {K : PySem.W.Frag} {mg : Str → Option Value} {base : Heap} {a : Adr}
set_option maxHeartbeats 4000000 in
theorem me_Get_told (T : Txt K mg a) (b c : Int) : MethE P w K mg base CX0 1 a.C_Get "told" (spTold a (.get b c)) := by
  refine methE_of (sp := (spTold a (.get b c))) 0 T.cl_Get T.m_Get_told sc_Get_told (fun vs H Q E h => ?_) (fun f cdv A outer s H vs Q E hr h => ?_)
  · obtain ⟨x, rfl, _⟩ := h
    rfl
  · obtain ⟨x, rfl, ⟨dx, hx⟩, q⟩ := h
    change H x = some (.ins a.C_Get dx (putF "cell" (.int c) (putF "box" (.int b) []))) at hx
    refine ⟨_, (pss_one (ps_ret (pe_tup (pa_cons pe_str (pa_cons (pe_fldK (K := K) rfl (pv 0)) (pa_cons (pe_fldK (K := K) rfl (pv 0)) pa_nil)))))), ?_⟩
    refine r_st (σ' := [some _]) rfl ?_
    walk_at "rd"
    exact q _ (by assumption)
end
section
variable {P : Program} {w : World} {K : PySem.W.Frag} {mg : Str → Option Value} {base : Heap} {a : Adr}
set_option maxHeartbeats 4000000 in
theorem me_Jump_told (T : Txt K mg a) (t : Int) : MethE P w K mg base CX0 1 a.C_Jump "told" (spTold a (.jump t)) := by
  refine methE_of (sp := (spTold a (.jump t))) 0 T.cl_Jump T.m_Jump_told sc_Jump_told (fun vs H Q E h => ?_) (fun f cdv A outer s H vs Q E hr h => ?_)
  · obtain ⟨x, rfl, _⟩ := h
    rfl
  · obtain ⟨x, rfl, ⟨dx, hx⟩, q⟩ := h
    change H x = some (.ins a.C_Jump dx (putF "target" (.int t) [])) at hx
    refine ⟨_, (pss_one (ps_ret (pe_tup (pa_cons pe_str (pa_cons (pe_fldK (K := K) rfl (pv 0)) pa_nil))))), ?_⟩
    refine r_st (σ' := [some _]) rfl ?_
    walk_at "rd"
    exact q _ (by assumption)
end
section
variable {P : Program} {w : World} {K : PySem.W.Frag} {mg : Str → Option Value} {base : Heap} {a : Adr}
set_option maxHeartbeats 4000000 in
theorem me_Branch_told (T : Txt K mg a) (b t : Int) : MethE P w K mg base CX0 1 a.C_Branch "told" (spTold a (.branch b t)) := by
  refine methE_of (sp := (spTold a (.branch b t))) 0 T.cl_Branch T.m_Branch_told sc_Branch_told (fun vs H Q E h => ?_) (fun f cdv A outer s H vs Q E hr h => ?_)
  · obtain ⟨x, rfl, _⟩ := h
    rfl
  · obtain ⟨x, rfl, ⟨dx, hx⟩, q⟩ := h
    change H x = some (.ins a.C_Branch dx (putF "target" (.int t) (putF "box" (.int b) []))) at hx
    refine ⟨_, (pss_one (ps_ret (pe_tup (pa_cons pe_str (pa_cons (pe_fldK (K := K) rfl (pv 0)) (pa_cons (pe_fldK (K := K) rfl (pv 0)) pa_nil)))))), ?_⟩
    refine r_st (σ' := [some _]) rfl ?_
    walk_at "rd"
    exact q _ (by assumption)
end
section
variable {P : Program} {w : World} {K : PySem.W.Frag} {mg : Str → Option Value} {base : Heap} {a : Adr}
set_option maxHeartbeats 4000000 in
theorem me_Call_told (T : Txt K mg a) (t : Int) : MethE P w K mg base CX0 1 a.C_Call "told" (spTold a (.call t)) := by
  refine methE_of (sp := (spTold a (.call t))) 0 T.cl_Call T.m_Call_told sc_Call_told (fun vs H Q E h => ?_) (fun f cdv A outer s H vs Q E hr h => ?_)
  · obtain ⟨x, rfl, _⟩ := h
    rfl
  · obtain ⟨x, rfl, ⟨dx, hx⟩, q⟩ := h
    change H x = some (.ins a.C_Call dx (putF "target" (.int t) [])) at hx
    refine ⟨_, (pss_one (ps_ret (pe_tup (pa_cons pe_str (pa_cons (pe_fldK (K := K) rfl (pv 0)) pa_nil))))), ?_⟩
    refine r_st (σ' := [some _]) rfl ?_
    walk_at "rd"
    exact q _ (by assumption)
end
section
variable {P : Program} {w : World} {K : PySem.W.Frag} {mg : Str → Option Value} {base : Heap} {a : Adr}
set_option maxHeartbeats 4000000 in
theorem me_Back_told (T : Txt K mg a) (b : Int) : MethE P w K mg base CX0 1 a.C_Back "told" (spTold a (.back b)) := by
  refine methE_of (sp := (spTold a (.back b))) 0 T.cl_Back T.m_Back_told sc_Back_told (fun vs H Q E h => ?_) (fun f cdv A outer s H vs Q E hr h => ?_)
  · obtain ⟨x, rfl, _⟩ := h
    rfl
  · obtain ⟨x, rfl, ⟨dx, hx⟩, q⟩ := h
    change H x = some (.ins a.C_Back dx (putF "box" (.int b) [])) at hx
    refine ⟨_, (pss_one (ps_ret (pe_tup (pa_cons pe_str (pa_cons (pe_fldK (K := K) rfl (pv 0)) pa_nil))))), ?_⟩
    refine r_st (σ' := [some _]) rfl ?_
    walk_at "rd"
    exact q _ (by assumption)
end
section
variable {P : Program} {w : World} {K : PySem.W.Frag} {mg : Str → Option Value} {base : Heap} {a : Adr}
set_option maxHeartbeats 4000000 in
theorem me_Drop_told (T : Txt K mg a) (b : Int) : MethE P w K mg base CX0 1 a.C_Drop "told" (spTold a (.drop b)) := by
  refine methE_of (sp := (spTold a (.drop b))) 0 T.cl_Drop T.m_Drop_told sc_Drop_told (fun vs H Q E h => ?_) (fun f cdv A outer s H vs Q E hr h => ?_)
  · obtain ⟨x, rfl, _⟩ := h
    rfl
  · obtain ⟨x, rfl, ⟨dx, hx⟩, q⟩ := h
    change H x = some (.ins a.C_Drop dx (putF "box" (.int b) [])) at hx
    refine ⟨_, (pss_one (ps_ret (pe_tup (pa_cons pe_str (pa_cons (pe_fldK (K := K) rfl (pv 0)) pa_nil))))), ?_⟩
    refine r_st (σ' := [some _]) rfl ?_
    walk_at "rd"
    exact q _ (by assumption)
end
section
variable {P : Program} {w : World} {K : PySem.W.Frag} {mg : Str → Option Value} {base : Heap} {a : Adr}
set_option maxHeartbeats 4000000 in
theorem ok_law_cell_at (T : Txt K mg a) : FnE P w K mg base CX0 1 "_law_cell_at" (spCellAt K) := by
  refine fnE_of (sp := (spCellAt K)) 0 T.fn_law_cell_at sc_law_cell_at (fun vs H Q E h => ?_) (fun f cdv A outer s H vs Q E hr h => ?_)
  · obtain ⟨p, ns, k, rfl, _⟩ := h
    rfl
  · obtain ⟨p, ns, k, rfl, hS, h0, q⟩ := h
    refine ⟨_, (pss_cons (ps_if (pt_cmpR op_lt (pv 1) (pe_callB (call_lenK (K := K) rfl) rfl T.z_len b_len (pa_cons (pv 0) pa_nil)) (nomark _)) (pss_one (ps_ret (pe_ix (ix_K (K := K) rfl) (pv 0) (pv 1) (fun _ _ => rfl)))) pss_nil)
      (pss_one (ps_ret pe_int))), ?_⟩
    refine r_st (σ' := [some _, some _]) rfl ?_
    walk_at "rd"
    refine ifDec (fun hh => ?_) (fun hh => ?_)
    · walk_at "rd"
      exact q
    · walk_at "rd"
      have e := cellAt_out h0 hh
      rw [e] at q
      exact q
end
section
variable {P : Program} {w : World} {K : PySem.W.Frag} {mg : Str → Option Value} {base : Heap} {a : Adr}
set_option maxHeartbeats 4000000 in
theorem ok_law_one_kind (T : Txt K mg a) : FnE P w K mg base CX0 1 "_law_one_kind" (spOne a) := by
  refine fnE_of (sp := (spOne a)) 0 T.fn_law_one_kind sc_law_one_kind (fun vs H Q E h => ?_) (fun f cdv A outer s H vs Q E hr h => ?_)
  · obtain ⟨x, w, r, rfl, _⟩ := h
    rfl
  · obtain ⟨x, w, r, rfl, hq⟩ := h
    cases r
    · exact bd_law_one_kind_Set T f cdv A outer s H _ Q E hr ⟨x, w, _, _, rfl, hq⟩
    · exact bd_law_one_kind_Copy T f cdv A outer s H _ Q E hr ⟨x, w, _, _, rfl, hq⟩
    · exact bd_law_one_kind_Add T f cdv A outer s H _ Q E hr ⟨x, w, _, _, _, rfl, hq⟩
    · exact bd_law_one_kind_Sub T f cdv A outer s H _ Q E hr ⟨x, w, _, _, _, rfl, hq⟩
    · exact bd_law_one_kind_Mul T f cdv A outer s H _ Q E hr ⟨x, w, _, _, _, rfl, hq⟩
    · exact bd_law_one_kind_Less T f cdv A outer s H _ Q E hr ⟨x, w, _, _, _, rfl, hq⟩
    · exact bd_law_one_kind_Grow T f cdv A outer s H _ Q E hr ⟨x, w, _, rfl, hq⟩
    · exact bd_law_one_kind_Shrink T f cdv A outer s H _ Q E hr ⟨x, w, _, rfl, hq⟩
    · exact bd_law_one_kind_Put T f cdv A outer s H _ Q E hr ⟨x, w, _, _, rfl, hq⟩
    · exact bd_law_one_kind_Get T f cdv A outer s H _ Q E hr ⟨x, w, _, _, rfl, hq⟩
    · exact bd_law_one_kind_Jump T f cdv A outer s H _ Q E hr ⟨x, w, _, rfl, hq⟩
    · exact bd_law_one_kind_Branch T f cdv A outer s H _ Q E hr ⟨x, w, _, _, rfl, hq⟩
    · exact bd_law_one_kind_Call T f cdv A outer s H _ Q E hr ⟨x, w, _, rfl, hq⟩
    · exact bd_law_one_kind_Back T f cdv A outer s H _ Q E hr ⟨x, w, _, rfl, hq⟩
    · exact bd_law_one_kind_Drop T f cdv A outer s H _ Q E hr ⟨x, w, _, rfl, hq⟩
end
section
variable {P : Program} {w : World} {K : PySem.W.Frag} {mg : Str → Option Value} {base : Heap} {a : Adr}
set_option maxHeartbeats 4000000 in
theorem ok_law_by (T : Txt K mg a) : FnE P w K mg base CX0 1 "_law_by" spBy := by
  refine fnE_of (sp := spBy) 0 T.fn_law_by sc_law_by (fun vs H Q E h => ?_) (fun f cdv A outer s H vs Q E hr h => ?_)
  · obtain ⟨c, t, rfl, _⟩ := h
    rfl
  · obtain ⟨c, t, rfl, q⟩ := h
    refine ⟨_, (pss_cons (ps_set (i := 2) sc_law_by.nd rfl (Or.inl rfl) (pe_op op_fdiv (pv 0) pe_int))
      (pss_one (ps_ret (pe_ix (ix_K (K := K) rfl) (pe_lst (pa_cons (pe_op op_sub (pe_op op_mod (pv 2) pe_int) pe_int) (pa_cons (pe_un un_neg (pv 1)) (pa_cons (pe_op op_sub pe_int (pv 1)) (pa_cons (pe_op op_sub (pe_un un_neg pe_int) (pv 1)) (pa_cons (pe_op op_sub pe_int (pv 1)) pa_nil)))))) (pe_op op_mod (pv 0) pe_int) (fun _ _ => rfl))))), ?_⟩
    refine r_st (σ' := [some _, some _, none]) rfl ?_
    walk_at "rd"
    refine r_ix5 (by walk_at "sql") fun v => ?_
    exact q _ _ (by walk_at "same")
end
section
variable {P : Program} {w : World} {K : PySem.W.Frag} {mg : Str → Option Value} {base : Heap} {a : Adr}
set_option maxHeartbeats 4000000 in
theorem mk_Set (T : Txt K mg a) : MkE P w K mg base (CXR P w) 2 "Set" a.C_Set (spIniX2 a a.C_Set Rw.set) := by
  refine mkX_of (sp := (spIniX2 a a.C_Set Rw.set)) 1 T.c_Set T.i_Set sc_Set_init (fun vs H Q E h => ?_) (fun f cdv A outer s H vs Q E hr h => ?_)
  · obtain ⟨x, dx, i, j, rfl, _⟩ := h
    rfl
  · obtain ⟨x, dx, i, j, rfl, hx, q, e⟩ := h
    refine ⟨_, (pss_cons (ps_fldK (K := K) rfl (pv 0) (pe_callE (ok_bounded (K := K) T) (hr.mono (by decide)) pass_on rfl (pa_cons (pv 1) (pa_cons (pe_glob (v := .int 7) rfl T.g_TOP_BOX.choose_spec ⟨_, rfl⟩) pa_nil))))
      (pss_one (ps_fldK (K := K) rfl (pv 0) (pe_callE (ok_bounded (K := K) T) (hr.mono (by decide)) pass_on rfl (pa_cons (pv 2) (pa_cons (pe_glob (v := .int 4294967295) rfl T.g_TOP_VALUE.choose_spec ⟨_, rfl⟩) pa_nil)))))), ?_⟩
    refine r_st (σ' := [some _, some _, some _]) rfl ?_
    walk_at "rd"
    refine ⟨_, _, rfl, by decide, by decide, fun h1 => ?_, fun h1 => e (fun z => h1 z.1) _ (fun b o e _ => e)⟩
    walk_at "rd"
    refine ⟨_, _, rfl, by decide, by decide, fun h2 => ?_, fun h2 => e (fun z => h2 z.2) _ kp_one⟩
    walk_at "rd"
    exact q ⟨h1, h2⟩ _ kp_two upd_same
end
section
variable {P : Program} {w : World} {K : PySem.W.Frag} {mg : Str → Option Value} {base : Heap} {a : Adr}
set_option maxHeartbeats 4000000 in
theorem mk_Copy (T : Txt K mg a) : MkE P w K mg base (CXR P w) 2 "Copy" a.C_Copy (spIniX2 a a.C_Copy Rw.copy) := by
  refine mkX_of (sp := (spIniX2 a a.C_Copy Rw.copy)) 1 T.c_Copy T.i_Copy sc_Copy_init (fun vs H Q E h => ?_) (fun f cdv A outer s H vs Q E hr h => ?_)
  · obtain ⟨x, dx, i, j, rfl, _⟩ := h
    rfl
  · obtain ⟨x, dx, i, j, rfl, hx, q, e⟩ := h
    refine ⟨_, (pss_cons (ps_fldK (K := K) rfl (pv 0) (pe_callE (ok_bounded (K := K) T) (hr.mono (by decide)) pass_on rfl (pa_cons (pv 1) (pa_cons (pe_glob (v := .int 7) rfl T.g_TOP_BOX.choose_spec ⟨_, rfl⟩) pa_nil))))
      (pss_one (ps_fldK (K := K) rfl (pv 0) (pe_callE (ok_bounded (K := K) T) (hr.mono (by decide)) pass_on rfl (pa_cons (pv 2) (pa_cons (pe_glob (v := .int 7) rfl T.g_TOP_BOX.choose_spec ⟨_, rfl⟩) pa_nil)))))), ?_⟩
    refine r_st (σ' := [some _, some _, some _]) rfl ?_
    walk_at "rd"
    refine ⟨_, _, rfl, by decide, by decide, fun h1 => ?_, fun h1 => e (fun z => h1 z.1) _ (fun b o e _ => e)⟩
    walk_at "rd"
    refine ⟨_, _, rfl, by decide, by decide, fun h2 => ?_, fun h2 => e (fun z => h2 z.2) _ kp_one⟩
    walk_at "rd"
    exact q ⟨h1, h2⟩ _ kp_two upd_same
end
section
variable {P : Program} {w : World} {K : PySem.W.Frag} {mg : Str → Option Value} {base : Heap} {a : Adr}
set_option maxHeartbeats 4000000 in
theorem mk_Less (T : Txt K mg a) : MkE P w K mg base (CXR P w) 2 "Less" a.C_Less (spIniX3 a a.C_Less Rw.less) := by
  refine mkX_of (sp := (spIniX3 a a.C_Less Rw.less)) 1 T.c_Less T.i_Less sc_Reckoning_init (fun vs H Q E h => ?_) (fun f cdv A outer s H vs Q E hr h => ?_)
  · obtain ⟨x, dx, i, j, k, rfl, _⟩ := h
    rfl
  · obtain ⟨x, dx, i, j, k, rfl, hx, q, e⟩ := h
    refine ⟨_, (pss_cons (ps_fldK (K := K) rfl (pv 0) (pe_callE (ok_bounded (K := K) T) (hr.mono (by decide)) pass_on rfl (pa_cons (pv 1) (pa_cons (pe_glob (v := .int 7) rfl T.g_TOP_BOX.choose_spec ⟨_, rfl⟩) pa_nil))))
      (pss_cons (ps_fldK (K := K) rfl (pv 0) (pe_callE (ok_bounded (K := K) T) (hr.mono (by decide)) pass_on rfl (pa_cons (pv 2) (pa_cons (pe_glob (v := .int 7) rfl T.g_TOP_BOX.choose_spec ⟨_, rfl⟩) pa_nil))))
      (pss_one (ps_fldK (K := K) rfl (pv 0) (pe_callE (ok_bounded (K := K) T) (hr.mono (by decide)) pass_on rfl (pa_cons (pv 3) (pa_cons (pe_glob (v := .int 7) rfl T.g_TOP_BOX.choose_spec ⟨_, rfl⟩) pa_nil))))))), ?_⟩
    refine r_st (σ' := [some _, some _, some _, some _]) rfl ?_
    walk_at "rd"
    refine ⟨_, _, rfl, by decide, by decide, fun h1 => ?_, fun h1 => e (fun z => h1 z.1) _ (fun b o e _ => e)⟩
    walk_at "rd"
    refine ⟨_, _, rfl, by decide, by decide, fun h2 => ?_, fun h2 => e (fun z => h2 z.2.1) _ kp_one⟩
    walk_at "rd"
    refine ⟨_, _, rfl, by decide, by decide, fun h3 => ?_, fun h3 => e (fun z => h3 z.2.2) _ kp_two⟩
    walk_at "rd"
    exact q ⟨h1, h2, h3⟩ _ kp_three upd_same
end
section
variable {P : Program} {w : World} {K : PySem.W.Frag} {mg : Str → Option Value} {base : Heap} {a : Adr}
set_option maxHeartbeats 4000000 in
theorem mk_Add (T : Txt K mg a) : MkE P w K mg base (CXR P w) 2 "Add" a.C_Add (spIniX3 a a.C_Add Rw.add) := by
  refine mkX_of (sp := (spIniX3 a a.C_Add Rw.add)) 1 T.c_Add T.i_Add sc_Reckoning_init (fun vs H Q E h => ?_) (fun f cdv A outer s H vs Q E hr h => ?_)
  · obtain ⟨x, dx, i, j, k, rfl, _⟩ := h
    rfl
  · obtain ⟨x, dx, i, j, k, rfl, hx, q, e⟩ := h
    refine ⟨_, (pss_cons (ps_fldK (K := K) rfl (pv 0) (pe_callE (ok_bounded (K := K) T) (hr.mono (by decide)) pass_on rfl (pa_cons (pv 1) (pa_cons (pe_glob (v := .int 7) rfl T.g_TOP_BOX.choose_spec ⟨_, rfl⟩) pa_nil))))
      (pss_cons (ps_fldK (K := K) rfl (pv 0) (pe_callE (ok_bounded (K := K) T) (hr.mono (by decide)) pass_on rfl (pa_cons (pv 2) (pa_cons (pe_glob (v := .int 7) rfl T.g_TOP_BOX.choose_spec ⟨_, rfl⟩) pa_nil))))
      (pss_one (ps_fldK (K := K) rfl (pv 0) (pe_callE (ok_bounded (K := K) T) (hr.mono (by decide)) pass_on rfl (pa_cons (pv 3) (pa_cons (pe_glob (v := .int 7) rfl T.g_TOP_BOX.choose_spec ⟨_, rfl⟩) pa_nil))))))), ?_⟩
    refine r_st (σ' := [some _, some _, some _, some _]) rfl ?_
    walk_at "rd"
    refine ⟨_, _, rfl, by decide, by decide, fun h1 => ?_, fun h1 => e (fun z => h1 z.1) _ (fun b o e _ => e)⟩
    walk_at "rd"
    refine ⟨_, _, rfl, by decide, by decide, fun h2 => ?_, fun h2 => e (fun z => h2 z.2.1) _ kp_one⟩
    walk_at "rd"
    refine ⟨_, _, rfl, by decide, by decide, fun h3 => ?_, fun h3 => e (fun z => h3 z.2.2) _ kp_two⟩
    walk_at "rd"
    exact q ⟨h1, h2, h3⟩ _ kp_three upd_same
end
section
variable {P : Program} {w : World} {K : PySem.W.Frag} {mg : Str → Option Value} {base : Heap} {a : Adr}
set_option maxHeartbeats 4000000 in
theorem mk_Sub (T : Txt K mg a) : MkE P w K mg base (CXR P w) 2 "Sub" a.C_Sub (spIniX3 a a.C_Sub Rw.sub) := by
  refine mkX_of (sp := (spIniX3 a a.C_Sub Rw.sub)) 1 T.c_Sub T.i_Sub sc_Reckoning_init (fun vs H Q E h => ?_) (fun f cdv A outer s H vs Q E hr h => ?_)
  · obtain ⟨x, dx, i, j, k, rfl, _⟩ := h
    rfl
  · obtain ⟨x, dx, i, j, k, rfl, hx, q, e⟩ := h
    refine ⟨_, (pss_cons (ps_fldK (K := K) rfl (pv 0) (pe_callE (ok_bounded (K := K) T) (hr.mono (by decide)) pass_on rfl (pa_cons (pv 1) (pa_cons (pe_glob (v := .int 7) rfl T.g_TOP_BOX.choose_spec ⟨_, rfl⟩) pa_nil))))
      (pss_cons (ps_fldK (K := K) rfl (pv 0) (pe_callE (ok_bounded (K := K) T) (hr.mono (by decide)) pass_on rfl (pa_cons (pv 2) (pa_cons (pe_glob (v := .int 7) rfl T.g_TOP_BOX.choose_spec ⟨_, rfl⟩) pa_nil))))
      (pss_one (ps_fldK (K := K) rfl (pv 0) (pe_callE (ok_bounded (K := K) T) (hr.mono (by decide)) pass_on rfl (pa_cons (pv 3) (pa_cons (pe_glob (v := .int 7) rfl T.g_TOP_BOX.choose_spec ⟨_, rfl⟩) pa_nil))))))), ?_⟩
    refine r_st (σ' := [some _, some _, some _, some _]) rfl ?_
    walk_at "rd"
    refine ⟨_, _, rfl, by decide, by decide, fun h1 => ?_, fun h1 => e (fun z => h1 z.1) _ (fun b o e _ => e)⟩
    walk_at "rd"
    refine ⟨_, _, rfl, by decide, by decide, fun h2 => ?_, fun h2 => e (fun z => h2 z.2.1) _ kp_one⟩
    walk_at "rd"
    refine ⟨_, _, rfl, by decide, by decide, fun h3 => ?_, fun h3 => e (fun z => h3 z.2.2) _ kp_two⟩
    walk_at "rd"
    exact q ⟨h1, h2, h3⟩ _ kp_three upd_same
end
section
variable {P : Program} {w : World} {K : PySem.W.Frag} {mg : Str → Option Value} {base : Heap} {a : Adr}
set_option maxHeartbeats 4000000 in
theorem mk_Mul (T : Txt K mg a) : MkE P w K mg base (CXR P w) 2 "Mul" a.C_Mul (spIniX3 a a.C_Mul Rw.mul) := by
  refine mkX_of (sp := (spIniX3 a a.C_Mul Rw.mul)) 1 T.c_Mul T.i_Mul sc_Reckoning_init (fun vs H Q E h => ?_) (fun f cdv A outer s H vs Q E hr h => ?_)
  · obtain ⟨x, dx, i, j, k, rfl, _⟩ := h
    rfl
  · obtain ⟨x, dx, i, j, k, rfl, hx, q, e⟩ := h
    refine ⟨_, (pss_cons (ps_fldK (K := K) rfl (pv 0) (pe_callE (ok_bounded (K := K) T) (hr.mono (by decide)) pass_on rfl (pa_cons (pv 1) (pa_cons (pe_glob (v := .int 7) rfl T.g_TOP_BOX.choose_spec ⟨_, rfl⟩) pa_nil))))
      (pss_cons (ps_fldK (K := K) rfl (pv 0) (pe_callE (ok_bounded (K := K) T) (hr.mono (by decide)) pass_on rfl (pa_cons (pv 2) (pa_cons (pe_glob (v := .int 7) rfl T.g_TOP_BOX.choose_spec ⟨_, rfl⟩) pa_nil))))
      (pss_one (ps_fldK (K := K) rfl (pv 0) (pe_callE (ok_bounded (K := K) T) (hr.mono (by decide)) pass_on rfl (pa_cons (pv 3) (pa_cons (pe_glob (v := .int 7) rfl T.g_TOP_BOX.choose_spec ⟨_, rfl⟩) pa_nil))))))), ?_⟩
    refine r_st (σ' := [some _, some _, some _, some _]) rfl ?_
    walk_at "rd"
    refine ⟨_, _, rfl, by decide, by decide, fun h1 => ?_, fun h1 => e (fun z => h1 z.1) _ (fun b o e _ => e)⟩
    walk_at "rd"
    refine ⟨_, _, rfl, by decide, by decide, fun h2 => ?_, fun h2 => e (fun z => h2 z.2.1) _ kp_one⟩
    walk_at "rd"
    refine ⟨_, _, rfl, by decide, by decide, fun h3 => ?_, fun h3 => e (fun z => h3 z.2.2) _ kp_two⟩
    walk_at "rd"
    exact q ⟨h1, h2, h3⟩ _ kp_three upd_same
end
section
variable {P : Program} {w : World} {K : PySem.W.Frag} {mg : Str → Option Value} {base : Heap} {a : Adr}
set_option maxHeartbeats 4000000 in
theorem mk_Grow (T : Txt K mg a) : MkE P w K mg base (CXR P w) 2 "Grow" a.C_Grow (spIniX1 a a.C_Grow Rw.grow) := by
  refine mkX_of (sp := (spIniX1 a a.C_Grow Rw.grow)) 1 T.c_Grow T.i_Grow sc_Grow_init (fun vs H Q E h => ?_) (fun f cdv A outer s H vs Q E hr h => ?_)
  · obtain ⟨x, dx, i, rfl, _⟩ := h
    rfl
  · obtain ⟨x, dx, i, rfl, hx, q, e⟩ := h
    refine ⟨_, (pss_one (ps_fldK (K := K) rfl (pv 0) (pe_callE (ok_bounded (K := K) T) (hr.mono (by decide)) pass_on rfl (pa_cons (pv 1) (pa_cons (pe_glob (v := .int 4000) rfl T.g_TOP_CELLS.choose_spec ⟨_, rfl⟩) pa_nil))))), ?_⟩
    refine r_st (σ' := [some _, some _]) rfl ?_
    walk_at "rd"
    refine ⟨_, _, rfl, by decide, by decide, fun h1 => ?_, fun h1 => e (fun z => h1 z) _ (fun b o e _ => e)⟩
    walk_at "rd"
    exact q h1 _ kp_one upd_same
end
section
variable {P : Program} {w : World} {K : PySem.W.Frag} {mg : Str → Option Value} {base : Heap} {a : Adr}
set_option maxHeartbeats 4000000 in
theorem mk_Shrink (T : Txt K mg a) : MkE P w K mg base (CXR P w) 2 "Shrink" a.C_Shrink (spIniX1 a a.C_Shrink Rw.shrink) := by
  refine mkX_of (sp := (spIniX1 a a.C_Shrink Rw.shrink)) 1 T.c_Shrink T.i_Shrink sc_Shrink_init (fun vs H Q E h => ?_) (fun f cdv A outer s H vs Q E hr h => ?_)
  · obtain ⟨x, dx, i, rfl, _⟩ := h
    rfl
  · obtain ⟨x, dx, i, rfl, hx, q, e⟩ := h
    refine ⟨_, (pss_one (ps_fldK (K := K) rfl (pv 0) (pe_callE (ok_bounded (K := K) T) (hr.mono (by decide)) pass_on rfl (pa_cons (pv 1) (pa_cons (pe_glob (v := .int 4000) rfl T.g_TOP_CELLS.choose_spec ⟨_, rfl⟩) pa_nil))))), ?_⟩
    refine r_st (σ' := [some _, some _]) rfl ?_
    walk_at "rd"
    refine ⟨_, _, rfl, by decide, by decide, fun h1 => ?_, fun h1 => e (fun z => h1 z) _ (fun b o e _ => e)⟩
    walk_at "rd"
    exact q h1 _ kp_one upd_same
end
section
variable {P : Program} {w : World} {K : PySem.W.Frag} {mg : Str → Option Value} {base : Heap} {a : Adr}
set_option maxHeartbeats 4000000 in
theorem mk_Put (T : Txt K mg a) : MkE P w K mg base (CXR P w) 2 "Put" a.C_Put (spIniX2 a a.C_Put Rw.put) := by
  refine mkX_of (sp := (spIniX2 a a.C_Put Rw.put)) 1 T.c_Put T.i_Put sc_Reaching_init (fun vs H Q E h => ?_) (fun f cdv A outer s H vs Q E hr h => ?_)
  · obtain ⟨x, dx, i, j, rfl, _⟩ := h
    rfl
  · obtain ⟨x, dx, i, j, rfl, hx, q, e⟩ := h
    refine ⟨_, (pss_cons (ps_fldK (K := K) rfl (pv 0) (pe_callE (ok_bounded (K := K) T) (hr.mono (by decide)) pass_on rfl (pa_cons (pv 1) (pa_cons (pe_glob (v := .int 7) rfl T.g_TOP_BOX.choose_spec ⟨_, rfl⟩) pa_nil))))
      (pss_one (ps_fldK (K := K) rfl (pv 0) (pe_callE (ok_bounded (K := K) T) (hr.mono (by decide)) pass_on rfl (pa_cons (pv 2) (pa_cons (pe_glob (v := .int 4000) rfl T.g_TOP_CELLS.choose_spec ⟨_, rfl⟩) pa_nil)))))), ?_⟩
    refine r_st (σ' := [some _, some _, some _]) rfl ?_
    walk_at "rd"
    refine ⟨_, _, rfl, by decide, by decide, fun h1 => ?_, fun h1 => e (fun z => h1 z.1) _ (fun b o e _ => e)⟩
    walk_at "rd"
    refine ⟨_, _, rfl, by decide, by decide, fun h2 => ?_, fun h2 => e (fun z => h2 z.2) _ kp_one⟩
    walk_at "rd"
    exact q ⟨h1, h2⟩ _ kp_two upd_same
end
section
variable {P : Program} {w : World} {K : PySem.W.Frag} {mg : Str → Option Value} {base : Heap} {a : Adr}
set_option maxHeartbeats 4000000 in
theorem mk_Get (T : Txt K mg a) : MkE P w K mg base (CXR P w) 2 "Get" a.C_Get (spIniX2 a a.C_Get Rw.get) := by
  refine mkX_of (sp := (spIniX2 a a.C_Get Rw.get)) 1 T.c_Get T.i_Get sc_Reaching_init (fun vs H Q E h => ?_) (fun f cdv A outer s H vs Q E hr h => ?_)
  · obtain ⟨x, dx, i, j, rfl, _⟩ := h
    rfl
  · obtain ⟨x, dx, i, j, rfl, hx, q, e⟩ := h
    refine ⟨_, (pss_cons (ps_fldK (K := K) rfl (pv 0) (pe_callE (ok_bounded (K := K) T) (hr.mono (by decide)) pass_on rfl (pa_cons (pv 1) (pa_cons (pe_glob (v := .int 7) rfl T.g_TOP_BOX.choose_spec ⟨_, rfl⟩) pa_nil))))
      (pss_one (ps_fldK (K := K) rfl (pv 0) (pe_callE (ok_bounded (K := K) T) (hr.mono (by decide)) pass_on rfl (pa_cons (pv 2) (pa_cons (pe_glob (v := .int 4000) rfl T.g_TOP_CELLS.choose_spec ⟨_, rfl⟩) pa_nil)))))), ?_⟩
    refine r_st (σ' := [some _, some _, some _]) rfl ?_
    walk_at "rd"
    refine ⟨_, _, rfl, by decide, by decide, fun h1 => ?_, fun h1 => e (fun z => h1 z.1) _ (fun b o e _ => e)⟩
    walk_at "rd"
    refine ⟨_, _, rfl, by decide, by decide, fun h2 => ?_, fun h2 => e (fun z => h2 z.2) _ kp_one⟩
    walk_at "rd"
    exact q ⟨h1, h2⟩ _ kp_two upd_same
end
section
variable {P : Program} {w : World} {K : PySem.W.Frag} {mg : Str → Option Value} {base : Heap} {a : Adr}
set_option maxHeartbeats 4000000 in
theorem mk_Jump (T : Txt K mg a) : MkE P w K mg base (CXR P w) 2 "Jump" a.C_Jump (spIniX1 a a.C_Jump Rw.jump) := by
  refine mkX_of (sp := (spIniX1 a a.C_Jump Rw.jump)) 1 T.c_Jump T.i_Jump sc_Jump_init (fun vs H Q E h => ?_) (fun f cdv A outer s H vs Q E hr h => ?_)
  · obtain ⟨x, dx, i, rfl, _⟩ := h
    rfl
  · obtain ⟨x, dx, i, rfl, hx, q, e⟩ := h
    refine ⟨_, (pss_one (ps_fldK (K := K) rfl (pv 0) (pe_callE (ok_bounded (K := K) T) (hr.mono (by decide)) pass_on rfl (pa_cons (pv 1) (pa_cons (pe_glob (v := .int 2000) rfl T.g_TOP_TARGET.choose_spec ⟨_, rfl⟩) pa_nil))))), ?_⟩
    refine r_st (σ' := [some _, some _]) rfl ?_
    walk_at "rd"
    refine ⟨_, _, rfl, by decide, by decide, fun h1 => ?_, fun h1 => e (fun z => h1 z) _ (fun b o e _ => e)⟩
    walk_at "rd"
    exact q h1 _ kp_one upd_same
end
section
variable {P : Program} {w : World} {K : PySem.W.Frag} {mg : Str → Option Value} {base : Heap} {a : Adr}
set_option maxHeartbeats 4000000 in
theorem mk_Branch (T : Txt K mg a) : MkE P w K mg base (CXR P w) 2 "Branch" a.C_Branch (spIniX2 a a.C_Branch Rw.branch) := by
  refine mkX_of (sp := (spIniX2 a a.C_Branch Rw.branch)) 1 T.c_Branch T.i_Branch sc_Branch_init (fun vs H Q E h => ?_) (fun f cdv A outer s H vs Q E hr h => ?_)
  · obtain ⟨x, dx, i, j, rfl, _⟩ := h
    rfl
  · obtain ⟨x, dx, i, j, rfl, hx, q, e⟩ := h
    refine ⟨_, (pss_cons (ps_fldK (K := K) rfl (pv 0) (pe_callE (ok_bounded (K := K) T) (hr.mono (by decide)) pass_on rfl (pa_cons (pv 1) (pa_cons (pe_glob (v := .int 7) rfl T.g_TOP_BOX.choose_spec ⟨_, rfl⟩) pa_nil))))
      (pss_one (ps_fldK (K := K) rfl (pv 0) (pe_callE (ok_bounded (K := K) T) (hr.mono (by decide)) pass_on rfl (pa_cons (pv 2) (pa_cons (pe_glob (v := .int 2000) rfl T.g_TOP_TARGET.choose_spec ⟨_, rfl⟩) pa_nil)))))), ?_⟩
    refine r_st (σ' := [some _, some _, some _]) rfl ?_
    walk_at "rd"
    refine ⟨_, _, rfl, by decide, by decide, fun h1 => ?_, fun h1 => e (fun z => h1 z.1) _ (fun b o e _ => e)⟩
    walk_at "rd"
    refine ⟨_, _, rfl, by decide, by decide, fun h2 => ?_, fun h2 => e (fun z => h2 z.2) _ kp_one⟩
    walk_at "rd"
    exact q ⟨h1, h2⟩ _ kp_two upd_same
end
section
variable {P : Program} {w : World} {K : PySem.W.Frag} {mg : Str → Option Value} {base : Heap} {a : Adr}
set_option maxHeartbeats 4000000 in
theorem mk_Call (T : Txt K mg a) : MkE P w K mg base (CXR P w) 2 "Call" a.C_Call (spIniX1 a a.C_Call Rw.call) := by
  refine mkX_of (sp := (spIniX1 a a.C_Call Rw.call)) 1 T.c_Call T.i_Call sc_Call_init (fun vs H Q E h => ?_) (fun f cdv A outer s H vs Q E hr h => ?_)
  · obtain ⟨x, dx, i, rfl, _⟩ := h
    rfl
  · obtain ⟨x, dx, i, rfl, hx, q, e⟩ := h
    refine ⟨_, (pss_one (ps_fldK (K := K) rfl (pv 0) (pe_callE (ok_bounded (K := K) T) (hr.mono (by decide)) pass_on rfl (pa_cons (pv 1) (pa_cons (pe_glob (v := .int 2000) rfl T.g_TOP_TARGET.choose_spec ⟨_, rfl⟩) pa_nil))))), ?_⟩
    refine r_st (σ' := [some _, some _]) rfl ?_
    walk_at "rd"
    refine ⟨_, _, rfl, by decide, by decide, fun h1 => ?_, fun h1 => e (fun z => h1 z) _ (fun b o e _ => e)⟩
    walk_at "rd"
    exact q h1 _ kp_one upd_same
end
section
variable {P : Program} {w : World} {K : PySem.W.Frag} {mg : Str → Option Value} {base : Heap} {a : Adr}
set_option maxHeartbeats 4000000 in
theorem mk_Back (T : Txt K mg a) : MkE P w K mg base (CXR P w) 2 "Back" a.C_Back (spIniX1 a a.C_Back Rw.back) := by
  refine mkX_of (sp := (spIniX1 a a.C_Back Rw.back)) 1 T.c_Back T.i_Back sc_Back_init (fun vs H Q E h => ?_) (fun f cdv A outer s H vs Q E hr h => ?_)
  · obtain ⟨x, dx, i, rfl, _⟩ := h
    rfl
  · obtain ⟨x, dx, i, rfl, hx, q, e⟩ := h
    refine ⟨_, (pss_one (ps_fldK (K := K) rfl (pv 0) (pe_callE (ok_bounded (K := K) T) (hr.mono (by decide)) pass_on rfl (pa_cons (pv 1) (pa_cons (pe_glob (v := .int 7) rfl T.g_TOP_BOX.choose_spec ⟨_, rfl⟩) pa_nil))))), ?_⟩
    refine r_st (σ' := [some _, some _]) rfl ?_
    walk_at "rd"
    refine ⟨_, _, rfl, by decide, by decide, fun h1 => ?_, fun h1 => e (fun z => h1 z) _ (fun b o e _ => e)⟩
    walk_at "rd"
    exact q h1 _ kp_one upd_same
end
section
variable {P : Program} {w : World} {K : PySem.W.Frag} {mg : Str → Option Value} {base : Heap} {a : Adr}
set_option maxHeartbeats 4000000 in
theorem mk_Drop (T : Txt K mg a) : MkE P w K mg base (CXR P w) 2 "Drop" a.C_Drop (spIniX1 a a.C_Drop Rw.drop) := by
  refine mkX_of (sp := (spIniX1 a a.C_Drop Rw.drop)) 1 T.c_Drop T.i_Drop sc_Drop_init (fun vs H Q E h => ?_) (fun f cdv A outer s H vs Q E hr h => ?_)
  · obtain ⟨x, dx, i, rfl, _⟩ := h
    rfl
  · obtain ⟨x, dx, i, rfl, hx, q, e⟩ := h
    refine ⟨_, (pss_one (ps_fldK (K := K) rfl (pv 0) (pe_callE (ok_bounded (K := K) T) (hr.mono (by decide)) pass_on rfl (pa_cons (pv 1) (pa_cons (pe_glob (v := .int 7) rfl T.g_TOP_BOX.choose_spec ⟨_, rfl⟩) pa_nil))))), ?_⟩
    refine r_st (σ' := [some _, some _]) rfl ?_
    walk_at "rd"
    refine ⟨_, _, rfl, by decide, by decide, fun h1 => ?_, fun h1 => e (fun z => h1 z) _ (fun b o e _ => e)⟩
    walk_at "rd"
    exact q h1 _ kp_one upd_same
end
section
variable {P : Program} {w : World} {K : PySem.W.Frag} {mg : Str → Option Value} {base : Heap} {a : Adr}
set_option maxHeartbeats 4000000 in
theorem me_Jump_laid (T : Txt K mg a) (t : Int) : MethE P w K mg base (CXR P w) 4 a.C_Jump "laid" (spLaid a (.jump t)) := by
  refine methX_of (sp := (spLaid a (.jump t))) 3 T.cl_Jump T.m_Jump_laid sc_Jump_laid (fun vs H Q E h => ?_) (fun f cdv A outer s H vs Q E hr h => ?_)
  · obtain ⟨x, d, rfl, _⟩ := h
    rfl
  · obtain ⟨x, d, rfl, ⟨dx, hx⟩, hk, q, e⟩ := h
    change H x = some (.ins a.C_Jump dx (putF "target" (.int t) [])) at hx
    refine ⟨_, (pss_one (ps_ret (pe_makeE (mk_Jump (K := K) T) (hr.mono (by decide)) pass_on rfl (pa_cons (pe_op (op_plusK (K := K) rfl) (pe_fldK (K := K) rfl (pv 0)) (pv 1)) pa_nil)))), ?_⟩
    refine r_st (σ' := [some _, some _]) rfl ?_
    walk_at "rd"
    exact r_rowX1 (a := a) rfl (fun ok p H' s n z => q ok p H' s z) (fun no H' s => e no H' s)
end
section
variable {P : Program} {w : World} {K : PySem.W.Frag} {mg : Str → Option Value} {base : Heap} {a : Adr}
set_option maxHeartbeats 4000000 in
theorem me_Branch_laid (T : Txt K mg a) (b t : Int) : MethE P w K mg base (CXR P w) 4 a.C_Branch "laid" (spLaid a (.branch b t)) := by
  refine methX_of (sp := (spLaid a (.branch b t))) 3 T.cl_Branch T.m_Branch_laid sc_Branch_laid (fun vs H Q E h => ?_) (fun f cdv A outer s H vs Q E hr h => ?_)
  · obtain ⟨x, d, rfl, _⟩ := h
    rfl
  · obtain ⟨x, d, rfl, ⟨dx, hx⟩, hk, q, e⟩ := h
    change H x = some (.ins a.C_Branch dx (putF "target" (.int t) (putF "box" (.int b) []))) at hx
    refine ⟨_, (pss_one (ps_ret (pe_makeE (mk_Branch (K := K) T) (hr.mono (by decide)) pass_on rfl (pa_cons (pe_fldK (K := K) rfl (pv 0)) (pa_cons (pe_op (op_plusK (K := K) rfl) (pe_fldK (K := K) rfl (pv 0)) (pv 1)) pa_nil))))), ?_⟩
    refine r_st (σ' := [some _, some _]) rfl ?_
    walk_at "rd"
    exact r_rowX2 (a := a) rfl (fun ok p H' s n z => q ok p H' s z) (fun no H' s => e no H' s)
end
section
variable {P : Program} {w : World} {K : PySem.W.Frag} {mg : Str → Option Value} {base : Heap} {a : Adr}
set_option maxHeartbeats 4000000 in
theorem me_Call_laid (T : Txt K mg a) (t : Int) : MethE P w K mg base (CXR P w) 4 a.C_Call "laid" (spLaid a (.call t)) := by
  refine methX_of (sp := (spLaid a (.call t))) 3 T.cl_Call T.m_Call_laid sc_Call_laid (fun vs H Q E h => ?_) (fun f cdv A outer s H vs Q E hr h => ?_)
  · obtain ⟨x, d, rfl, _⟩ := h
    rfl
  · obtain ⟨x, d, rfl, ⟨dx, hx⟩, hk, q, e⟩ := h
    change H x = some (.ins a.C_Call dx (putF "target" (.int t) [])) at hx
    refine ⟨_, (pss_one (ps_ret (pe_makeE (mk_Call (K := K) T) (hr.mono (by decide)) pass_on rfl (pa_cons (pe_op (op_plusK (K := K) rfl) (pe_fldK (K := K) rfl (pv 0)) (pv 1)) pa_nil)))), ?_⟩
    refine r_st (σ' := [some _, some _]) rfl ?_
    walk_at "rd"
    exact r_rowX1 (a := a) rfl (fun ok p H' s n z => q ok p H' s z) (fun no H' s => e no H' s)
end
section
variable {P : Program} {w : World} {K : PySem.W.Frag} {mg : Str → Option Value} {base : Heap} {a : Adr}
theorem mk_same_filling {H H' : Hp} {x dx : Addr} {o1 o2 : HO} (hx : H x = none) (hdx : H dx = none) (kp : ∀ b o, upd (upd H dx o1) x o2 b = some o → b ≠ x → H' b = some o) : Same H H' := fun b o z =>
  kp b o (by rw [upd_ne (ne_of_none z hx), upd_ne (ne_of_none z hdx)]; exact z) (ne_of_none z hx)
set_option maxHeartbeats 4000000 in
theorem ok_law_filling (T : Txt K mg a) : FnE P w K mg base CX0 4 "_law_filling" (spPlain K a) := by
  refine fnE_of (sp := (spPlain K a)) 3 T.fn_law_filling sc_law_filling (fun vs H Q E h => ?_) (fun f cdv A outer s H vs Q E hr h => ?_)
  · obtain ⟨k, p, s0, s1, s2, rfl, _⟩ := h
    rfl
  · obtain ⟨k, p, s0, s1, s2, rfl, hS, q⟩ := h
    refine ⟨_, (pss_cons (ps_if (pt_cmpR (op_eqK (K := K) rfl hr.units) (pv 0) pe_int (nomark _)) (pss_one (ps_ret (pe_tup (pa_cons (pe_makeE (mk_Set (K := K) T) (hr.mono (by decide)) pass_no rfl (pa_cons (pe_op op_mod (pe_ix (ix_K (K := K) rfl) (pv 1) pe_int (fun _ _ => rfl)) pe_int) (pa_cons (pe_op op_mod (pe_ix (ix_K (K := K) rfl) (pv 1) pe_int (fun _ _ => rfl)) pe_int) pa_nil))) (pa_cons (pe_tup (pa_cons pe_str (pa_cons (pe_op op_mod (pe_ix (ix_K (K := K) rfl) (pv 1) pe_int (fun _ _ => rfl)) pe_int) (pa_cons (pe_op op_mod (pe_ix (ix_K (K := K) rfl) (pv 1) pe_int (fun _ _ => rfl)) pe_int) pa_nil)))) pa_nil))))) pss_nil)
      (pss_cons (ps_if (pt_cmpR (op_eqK (K := K) rfl hr.units) (pv 0) pe_int (nomark _)) (pss_one (ps_ret (pe_tup (pa_cons (pe_makeE (mk_Copy (K := K) T) (hr.mono (by decide)) pass_no rfl (pa_cons (pe_op op_mod (pe_ix (ix_K (K := K) rfl) (pv 1) pe_int (fun _ _ => rfl)) pe_int) (pa_cons (pe_op op_mod (pe_ix (ix_K (K := K) rfl) (pv 1) pe_int (fun _ _ => rfl)) pe_int) pa_nil))) (pa_cons (pe_tup (pa_cons pe_str (pa_cons (pe_op op_mod (pe_ix (ix_K (K := K) rfl) (pv 1) pe_int (fun _ _ => rfl)) pe_int) (pa_cons (pe_op op_mod (pe_ix (ix_K (K := K) rfl) (pv 1) pe_int (fun _ _ => rfl)) pe_int) pa_nil)))) pa_nil))))) pss_nil)
      (pss_cons (ps_set (i := 2) sc_law_filling.nd rfl (Or.inl rfl) (pe_op op_mod (pe_ix (ix_K (K := K) rfl) (pv 1) pe_int (fun _ _ => rfl)) pe_int))
      (pss_cons (ps_set (i := 3) sc_law_filling.nd rfl (Or.inl rfl) (pe_op op_mod (pe_ix (ix_K (K := K) rfl) (pv 1) pe_int (fun _ _ => rfl)) pe_int))
      (pss_cons (ps_set (i := 4) sc_law_filling.nd rfl (Or.inl rfl) (pe_op op_mod (pe_ix (ix_K (K := K) rfl) (pv 1) pe_int (fun _ _ => rfl)) pe_int))
      (pss_cons (ps_if (pt_cmpR (op_eqK (K := K) rfl hr.units) (pv 0) pe_int (nomark _)) (pss_one (ps_ret (pe_tup (pa_cons (pe_makeE (mk_Add (K := K) T) (hr.mono (by decide)) pass_no rfl (pa_cons (pv 2) (pa_cons (pv 3) (pa_cons (pv 4) pa_nil)))) (pa_cons (pe_tup (pa_cons pe_str (pa_cons (pv 2) (pa_cons (pv 3) (pa_cons (pv 4) pa_nil))))) pa_nil))))) pss_nil)
      (pss_cons (ps_if (pt_cmpR (op_eqK (K := K) rfl hr.units) (pv 0) pe_int (nomark _)) (pss_one (ps_ret (pe_tup (pa_cons (pe_makeE (mk_Sub (K := K) T) (hr.mono (by decide)) pass_no rfl (pa_cons (pv 2) (pa_cons (pv 3) (pa_cons (pv 4) pa_nil)))) (pa_cons (pe_tup (pa_cons pe_str (pa_cons (pv 2) (pa_cons (pv 3) (pa_cons (pv 4) pa_nil))))) pa_nil))))) pss_nil)
      (pss_cons (ps_if (pt_cmpR (op_eqK (K := K) rfl hr.units) (pv 0) pe_int (nomark _)) (pss_one (ps_ret (pe_tup (pa_cons (pe_makeE (mk_Mul (K := K) T) (hr.mono (by decide)) pass_no rfl (pa_cons (pv 2) (pa_cons (pv 3) (pa_cons (pv 4) pa_nil)))) (pa_cons (pe_tup (pa_cons pe_str (pa_cons (pv 2) (pa_cons (pv 3) (pa_cons (pv 4) pa_nil))))) pa_nil))))) pss_nil)
      (pss_one (ps_ret (pe_tup (pa_cons (pe_makeE (mk_Less (K := K) T) (hr.mono (by decide)) pass_no rfl (pa_cons (pv 2) (pa_cons (pv 3) (pa_cons (pv 4) pa_nil)))) (pa_cons (pe_tup (pa_cons pe_str (pa_cons (pv 2) (pa_cons (pv 3) (pa_cons (pv 4) pa_nil))))) pa_nil))))))))))))), ?_⟩
    refine r_st (σ' := [some _, some _, none, none, none]) rfl ?_
    walk_at "rds"
    · intro x dx hx hdx hne
      refine ⟨x, dx, _, _, rfl, upd_same, fun ok H' kp hH' => ⟨rfl, ?_⟩, fun no => False.elim (no ⟨by walk_at "rok", by walk_at "rok"⟩)⟩
      have s := mk_same_filling hx hdx kp
      have z : RowAt a H' x (.set _ _) := ⟨dx, hH'⟩
      clear kp
      walk_at "rd"
      exact q _ x _ _ _ (by walk_at "same") (by walk_at "hlk") (z.same (by walk_at "same")) (by show _ = some (HO.tup [V.str _, V.int _, V.int _]); walk_at "hlk") ok (fun _ => rfl)
    · intro x dx hx hdx hne
      refine ⟨x, dx, _, _, rfl, upd_same, fun ok H' kp hH' => ⟨rfl, ?_⟩, fun no => False.elim (no ⟨by walk_at "rok", by walk_at "rok"⟩)⟩
      have s := mk_same_filling hx hdx kp
      have z : RowAt a H' x (.copy _ _) := ⟨dx, hH'⟩
      clear kp
      walk_at "rd"
      exact q _ x _ _ _ (by walk_at "same") (by walk_at "hlk") (z.same (by walk_at "same")) (by show _ = some (HO.tup [V.str _, V.int _, V.int _]); walk_at "hlk") ok (fun _ => rfl)
    · intro x dx hx hdx hne
      refine ⟨x, dx, _, _, _, rfl, upd_same, fun ok H' kp hH' => ⟨rfl, ?_⟩, fun no => False.elim (no ⟨by walk_at "rok", by walk_at "rok", by walk_at "rok"⟩)⟩
      have s := mk_same_filling hx hdx kp
      have z : RowAt a H' x (.add _ _ _) := ⟨dx, hH'⟩
      clear kp
      walk_at "rd"
      exact q _ x _ _ _ (by walk_at "same") (by walk_at "hlk") (z.same (by walk_at "same")) (by show _ = some (HO.tup [V.str _, V.int _, V.int _, V.int _]); walk_at "hlk") ok (fun _ => rfl)
    · intro x dx hx hdx hne
      refine ⟨x, dx, _, _, _, rfl, upd_same, fun ok H' kp hH' => ⟨rfl, ?_⟩, fun no => False.elim (no ⟨by walk_at "rok", by walk_at "rok", by walk_at "rok"⟩)⟩
      have s := mk_same_filling hx hdx kp
      have z : RowAt a H' x (.sub _ _ _) := ⟨dx, hH'⟩
      clear kp
      walk_at "rd"
      exact q _ x _ _ _ (by walk_at "same") (by walk_at "hlk") (z.same (by walk_at "same")) (by show _ = some (HO.tup [V.str _, V.int _, V.int _, V.int _]); walk_at "hlk") ok (fun _ => rfl)
    · intro x dx hx hdx hne
      refine ⟨x, dx, _, _, _, rfl, upd_same, fun ok H' kp hH' => ⟨rfl, ?_⟩, fun no => False.elim (no ⟨by walk_at "rok", by walk_at "rok", by walk_at "rok"⟩)⟩
      have s := mk_same_filling hx hdx kp
      have z : RowAt a H' x (.mul _ _ _) := ⟨dx, hH'⟩
      clear kp
      walk_at "rd"
      exact q _ x _ _ _ (by walk_at "same") (by walk_at "hlk") (z.same (by walk_at "same")) (by show _ = some (HO.tup [V.str _, V.int _, V.int _, V.int _]); walk_at "hlk") ok (fun _ => rfl)
    · intro x dx hx hdx hne
      refine ⟨x, dx, _, _, _, rfl, upd_same, fun ok H' kp hH' => ⟨rfl, ?_⟩, fun no => False.elim (no ⟨by walk_at "rok", by walk_at "rok", by walk_at "rok"⟩)⟩
      have s := mk_same_filling hx hdx kp
      have z : RowAt a H' x (.less _ _ _) := ⟨dx, hH'⟩
      clear kp
      walk_at "rd"
      exact q _ x _ _ _ (by walk_at "same") (by walk_at "hlk") (z.same (by walk_at "same")) (by show _ = some (HO.tup [V.str _, V.int _, V.int _, V.int _]); walk_at "hlk") ok (fun _ => rfl)
end
section
variable {P : Program} {w : World} {K : PySem.W.Frag} {mg : Str → Option Value} {base : Heap} {a : Adr}
theorem mk_same_aimed {H H' : Hp} {x dx : Addr} {o1 o2 : HO} (hx : H x = none) (hdx : H dx = none) (kp : ∀ b o, upd (upd H dx o1) x o2 b = some o → b ≠ x → H' b = some o) : Same H H' := fun b o z =>
  kp b o (by rw [upd_ne (ne_of_none z hx), upd_ne (ne_of_none z hdx)]; exact z) (ne_of_none z hx)
set_option maxHeartbeats 4000000 in
theorem ok_law_aimed (T : Txt K mg a) : FnE P w K mg base CX0 4 "_law_aimed" (spAimed a) := by
  refine fnE_of (sp := (spAimed a)) 3 T.fn_law_aimed sc_law_aimed (fun vs H Q E h => ?_) (fun f cdv A outer s H vs Q E hr h => ?_)
  · obtain ⟨k, b, t, rfl, _⟩ := h
    rfl
  · obtain ⟨k, b, t, rfl, hb, ht, q⟩ := h
    refine ⟨_, (pss_cons (ps_if (pt_cmpR (op_eqK (K := K) rfl hr.units) (pv 0) pe_int (nomark _)) (pss_one (ps_ret (pe_tup (pa_cons (pe_makeE (mk_Jump (K := K) T) (hr.mono (by decide)) pass_no rfl (pa_cons (pv 2) pa_nil)) (pa_cons (pe_tup (pa_cons pe_str (pa_cons (pv 2) pa_nil))) pa_nil))))) pss_nil)
      (pss_cons (ps_if (pt_cmpR (op_eqK (K := K) rfl hr.units) (pv 0) pe_int (nomark _)) (pss_one (ps_ret (pe_tup (pa_cons (pe_makeE (mk_Branch (K := K) T) (hr.mono (by decide)) pass_no rfl (pa_cons (pv 1) (pa_cons (pv 2) pa_nil))) (pa_cons (pe_tup (pa_cons pe_str (pa_cons (pv 1) (pa_cons (pv 2) pa_nil)))) pa_nil))))) pss_nil)
      (pss_one (ps_ret (pe_tup (pa_cons (pe_makeE (mk_Call (K := K) T) (hr.mono (by decide)) pass_no rfl (pa_cons (pv 2) pa_nil)) (pa_cons (pe_tup (pa_cons pe_str (pa_cons (pv 2) pa_nil))) pa_nil))))))), ?_⟩
    refine r_st (σ' := [some _, some _, some _]) rfl ?_
    walk_at "rds"
    · intro x dx hx hdx hne
      refine ⟨x, dx, _, rfl, upd_same, fun ok H' kp hH' => ⟨rfl, ?_⟩, fun no => False.elim (no (by walk_at "rok"))⟩
      have s := mk_same_aimed hx hdx kp
      have z : RowAt a H' x (.jump _) := ⟨dx, hH'⟩
      clear kp
      walk_at "rd"
      exact q _ x _ _ _ (by walk_at "same") (by walk_at "hlk") (z.same (by walk_at "same")) (by show _ = some (HO.tup [V.str _, V.int _]); walk_at "hlk") ok aim_jump
    · intro x dx hx hdx hne
      refine ⟨x, dx, _, _, rfl, upd_same, fun ok H' kp hH' => ⟨rfl, ?_⟩, fun no => False.elim (no ⟨by walk_at "rok", by walk_at "rok"⟩)⟩
      have s := mk_same_aimed hx hdx kp
      have z : RowAt a H' x (.branch _ _) := ⟨dx, hH'⟩
      clear kp
      walk_at "rd"
      exact q _ x _ _ _ (by walk_at "same") (by walk_at "hlk") (z.same (by walk_at "same")) (by show _ = some (HO.tup [V.str _, V.int _, V.int _]); walk_at "hlk") ok (aim_branch hb)
    · intro x dx hx hdx hne
      refine ⟨x, dx, _, rfl, upd_same, fun ok H' kp hH' => ⟨rfl, ?_⟩, fun no => False.elim (no (by walk_at "rok"))⟩
      have s := mk_same_aimed hx hdx kp
      have z : RowAt a H' x (.call _) := ⟨dx, hH'⟩
      clear kp
      walk_at "rd"
      exact q _ x _ _ _ (by walk_at "same") (by walk_at "hlk") (z.same (by walk_at "same")) (by show _ = some (HO.tup [V.str _, V.int _]); walk_at "hlk") ok aim_call
end
section
variable {P : Program} {w : World} {K : PySem.W.Frag} {mg : Str → Option Value} {base : Heap} {a : Adr}
theorem flds_laid (r : Rw) : r.flds.lookup ("laid" : Str) = none := by
  cases r <;> (show List.lookup _ (putF _ _ _) = none; walk_at "nolk")
theorem me_all_laid (T : Txt K mg a) (r : Rw) : MethE P w K mg base (CXR P w) 4 (r.cls a) "laid" (spLaid a r) := by
  cases r
  · exact (me_Set_laid T _ _).mono (by decide)
  · exact (me_Copy_laid T _ _).mono (by decide)
  · exact (me_Add_laid T _ _ _).mono (by decide)
  · exact (me_Sub_laid T _ _ _).mono (by decide)
  · exact (me_Mul_laid T _ _ _).mono (by decide)
  · exact (me_Less_laid T _ _ _).mono (by decide)
  · exact (me_Grow_laid T _).mono (by decide)
  · exact (me_Shrink_laid T _).mono (by decide)
  · exact (me_Put_laid T _ _).mono (by decide)
  · exact (me_Get_laid T _ _).mono (by decide)
  · exact (me_Jump_laid T _).mono (by decide)
  · exact (me_Branch_laid T _ _).mono (by decide)
  · exact (me_Call_laid T _).mono (by decide)
  · exact (me_Back_laid T _).mono (by decide)
  · exact (me_Drop_laid T _).mono (by decide)
end
section
variable {P : Program} {w : World} {K : PySem.W.Frag} {mg : Str → Option Value} {base : Heap} {a : Adr}
theorem mk_same_plain {H H' : Hp} {x dx : Addr} {o1 o2 : HO} (hx : H x = none) (hdx : H dx = none) (kp : ∀ b o, upd (upd H dx o1) x o2 b = some o → b ≠ x → H' b = some o) : Same H H' := fun b o z =>
  kp b o (by rw [upd_ne (ne_of_none z hx), upd_ne (ne_of_none z hdx)]; exact z) (ne_of_none z hx)
set_option maxHeartbeats 4000000 in
theorem ok_law_plain (T : Txt K mg a) : FnE P w K mg base CX0 5 "_law_plain" (spPlain K a) := by
  refine fnE_of (sp := (spPlain K a)) 4 T.fn_law_plain sc_law_plain (fun vs H Q E h => ?_) (fun f cdv A outer s H vs Q E hr h => ?_)
  · obtain ⟨k, p, s0, s1, s2, rfl, _⟩ := h
    rfl
  · obtain ⟨k, p, s0, s1, s2, rfl, hS, q⟩ := h
    refine ⟨_, (pss_cons (ps_set (i := 2) sc_law_plain.nd rfl (Or.inl rfl) (pe_op op_mod (pe_ix (ix_K (K := K) rfl) (pv 1) pe_int (fun _ _ => rfl)) pe_int))
      (pss_cons (ps_set (i := 3) sc_law_plain.nd rfl (Or.inl rfl) (pe_op op_mod (pe_ix (ix_K (K := K) rfl) (pv 1) pe_int (fun _ _ => rfl)) pe_int))
      (pss_cons (ps_if (pt_cmpR op_lt (pv 0) pe_int (nomark _)) (pss_one (ps_ret (pe_callE (ok_law_filling (K := K) T) (hr.mono (by decide)) pass0 rfl (pa_cons (pv 0) (pa_cons (pv 1) pa_nil))))) pss_nil)
      (pss_cons (ps_if (pt_cmpR (op_eqK (K := K) rfl hr.units) (pv 0) pe_int (nomark _)) (pss_one (ps_ret (pe_tup (pa_cons (pe_makeE (mk_Grow (K := K) T) (hr.mono (by decide)) pass_no rfl (pa_cons (pv 3) pa_nil)) (pa_cons (pe_tup (pa_cons pe_str (pa_cons (pv 3) pa_nil))) pa_nil))))) pss_nil)
      (pss_cons (ps_if (pt_cmpR (op_eqK (K := K) rfl hr.units) (pv 0) pe_int (nomark _)) (pss_one (ps_ret (pe_tup (pa_cons (pe_makeE (mk_Shrink (K := K) T) (hr.mono (by decide)) pass_no rfl (pa_cons (pv 3) pa_nil)) (pa_cons (pe_tup (pa_cons pe_str (pa_cons (pv 3) pa_nil))) pa_nil))))) pss_nil)
      (pss_cons (ps_if (pt_cmpR (op_eqK (K := K) rfl hr.units) (pv 0) pe_int (nomark _)) (pss_one (ps_ret (pe_tup (pa_cons (pe_makeE (mk_Put (K := K) T) (hr.mono (by decide)) pass_no rfl (pa_cons (pv 2) (pa_cons (pv 3) pa_nil))) (pa_cons (pe_tup (pa_cons pe_str (pa_cons (pv 2) (pa_cons (pv 3) pa_nil)))) pa_nil))))) pss_nil)
      (pss_cons (ps_if (pt_cmpR (op_eqK (K := K) rfl hr.units) (pv 0) pe_int (nomark _)) (pss_one (ps_ret (pe_tup (pa_cons (pe_makeE (mk_Get (K := K) T) (hr.mono (by decide)) pass_no rfl (pa_cons (pv 2) (pa_cons (pv 3) pa_nil))) (pa_cons (pe_tup (pa_cons pe_str (pa_cons (pv 2) (pa_cons (pv 3) pa_nil)))) pa_nil))))) pss_nil)
      (pss_cons (ps_if (pt_cmpR (op_eqK (K := K) rfl hr.units) (pv 0) pe_int (nomark _)) (pss_one (ps_ret (pe_tup (pa_cons (pe_makeE (mk_Back (K := K) T) (hr.mono (by decide)) pass_no rfl (pa_cons (pv 2) pa_nil)) (pa_cons (pe_tup (pa_cons pe_str (pa_cons (pv 2) pa_nil))) pa_nil))))) pss_nil)
      (pss_one (ps_ret (pe_tup (pa_cons (pe_makeE (mk_Drop (K := K) T) (hr.mono (by decide)) pass_no rfl (pa_cons (pv 2) pa_nil)) (pa_cons (pe_tup (pa_cons pe_str (pa_cons (pv 2) pa_nil))) pa_nil))))))))))))), ?_⟩
    refine r_st (σ' := [some _, some _, none, none]) rfl ?_
    walk_at "rds"
    · exact ⟨_, _, s0, s1, s2, rfl, hS, q⟩
    · intro x dx hx hdx hne
      refine ⟨x, dx, _, rfl, upd_same, fun ok H' kp hH' => ⟨rfl, ?_⟩, fun no => False.elim (no (by walk_at "rok"))⟩
      have s := mk_same_plain hx hdx kp
      have z : RowAt a H' x (.grow _) := ⟨dx, hH'⟩
      clear kp
      walk_at "rd"
      exact q _ x _ _ _ (by walk_at "same") (by walk_at "hlk") (z.same (by walk_at "same")) (by show _ = some (HO.tup [V.str _, V.int _]); walk_at "hlk") ok (fun _ => rfl)
    · intro x dx hx hdx hne
      refine ⟨x, dx, _, rfl, upd_same, fun ok H' kp hH' => ⟨rfl, ?_⟩, fun no => False.elim (no (by walk_at "rok"))⟩
      have s := mk_same_plain hx hdx kp
      have z : RowAt a H' x (.shrink _) := ⟨dx, hH'⟩
      clear kp
      walk_at "rd"
      exact q _ x _ _ _ (by walk_at "same") (by walk_at "hlk") (z.same (by walk_at "same")) (by show _ = some (HO.tup [V.str _, V.int _]); walk_at "hlk") ok (fun _ => rfl)
    · intro x dx hx hdx hne
      refine ⟨x, dx, _, _, rfl, upd_same, fun ok H' kp hH' => ⟨rfl, ?_⟩, fun no => False.elim (no ⟨by walk_at "rok", by walk_at "rok"⟩)⟩
      have s := mk_same_plain hx hdx kp
      have z : RowAt a H' x (.put _ _) := ⟨dx, hH'⟩
      clear kp
      walk_at "rd"
      exact q _ x _ _ _ (by walk_at "same") (by walk_at "hlk") (z.same (by walk_at "same")) (by show _ = some (HO.tup [V.str _, V.int _, V.int _]); walk_at "hlk") ok (fun _ => rfl)
    · intro x dx hx hdx hne
      refine ⟨x, dx, _, _, rfl, upd_same, fun ok H' kp hH' => ⟨rfl, ?_⟩, fun no => False.elim (no ⟨by walk_at "rok", by walk_at "rok"⟩)⟩
      have s := mk_same_plain hx hdx kp
      have z : RowAt a H' x (.get _ _) := ⟨dx, hH'⟩
      clear kp
      walk_at "rd"
      exact q _ x _ _ _ (by walk_at "same") (by walk_at "hlk") (z.same (by walk_at "same")) (by show _ = some (HO.tup [V.str _, V.int _, V.int _]); walk_at "hlk") ok (fun _ => rfl)
    · intro x dx hx hdx hne
      refine ⟨x, dx, _, rfl, upd_same, fun ok H' kp hH' => ⟨rfl, ?_⟩, fun no => False.elim (no (by walk_at "rok"))⟩
      have s := mk_same_plain hx hdx kp
      have z : RowAt a H' x (.back _) := ⟨dx, hH'⟩
      clear kp
      walk_at "rd"
      exact q _ x _ _ _ (by walk_at "same") (by walk_at "hlk") (z.same (by walk_at "same")) (by show _ = some (HO.tup [V.str _, V.int _]); walk_at "hlk") ok (fun _ => rfl)
    · intro x dx hx hdx hne
      refine ⟨x, dx, _, rfl, upd_same, fun ok H' kp hH' => ⟨rfl, ?_⟩, fun no => False.elim (no (by walk_at "rok"))⟩
      have s := mk_same_plain hx hdx kp
      have z : RowAt a H' x (.drop _) := ⟨dx, hH'⟩
      clear kp
      walk_at "rd"
      exact q _ x _ _ _ (by walk_at "same") (by walk_at "hlk") (z.same (by walk_at "same")) (by show _ = some (HO.tup [V.str _, V.int _]); walk_at "hlk") ok (fun _ => rfl)
end
section
variable {P : Program} {w : World} {K : PySem.W.Frag} {mg : Str → Option Value} {base : Heap} {a : Adr}
set_option maxHeartbeats 4000000 in
theorem ok_law_laid (T : Txt K mg a) : FnE P w K mg base CX0 5 "_law_laid" (spTryLaid a) := by
  refine fnE_of (sp := (spTryLaid a)) 4 T.fn_law_laid sc_law_laid (fun vs H Q E h => ?_) (fun f cdv A outer s H vs Q E hr h => ?_)
  · obtain ⟨x, d, r, rfl, _⟩ := h
    rfl
  · obtain ⟨x, d, r, rfl, ⟨dx, hx⟩, ok, q, e⟩ := h
    refine ⟨_, (pss_cons (ps_set (i := 2) sc_law_laid.nd rfl (Or.inl rfl) pe_non)
      (pss_cons (ps_set (i := 3) sc_law_laid.nd rfl (Or.inl rfl) pe_bl)
      (pss_cons (ps_try (i := 4) rfl rfl rfl (pb_setM (P := P) (w := w) (K := K) (mg := mg) (base := base) (k := 4) (i := 2) ⟨rfl, rfl, rfl, rfl, rfl⟩ sc_law_laid.nd rfl (Or.inl rfl) (pv 0) (hr.mono (by decide)) (pa_cons (pv 1) pa_nil)) T.x_NoRow rfl sc_law_laid.nd rfl rfl (fun ea oe hxc _ => (pss_one (ps_set (i := 3) sc_law_laid.nd rfl (Or.inl rfl) (pe_and (pe_callB (call_isiXK (K := K) rfl (List.mem_append_right _ (List.mem_singleton.mpr rfl)) hxc T.xk_NoRow) rfl T.z_isinstance b_isinstance (pa_cons (pv 4) (pa_cons (pe_glob (v := .ref a.C_FrameError) rfl T.c_FrameError rfl) pa_nil))) (pe_one (pe_not (pe_callB (call_isiXK (K := K) rfl (List.mem_append_right _ (List.mem_singleton.mpr rfl)) hxc T.xk_NoRow) rfl T.z_isinstance b_isinstance (pa_cons (pv 4) (pa_cons (pe_glob (v := .ref a.C_NoTable) rfl T.c_NoTable rfl) pa_nil))))))))))
      (pss_one (ps_ret (pe_tup (pa_cons (pv 2) (pa_cons (pv 3) pa_nil)))))))), ?_⟩
    refine r_st (σ' := [some _, some _, none, none, none]) rfl ?_
    walk_at "rd"
    refine ⟨x, _, dx, _, _, rfl, hx, flds_laid _, me_all_laid T r, ?_⟩
    walk_at "rd"
    refine ⟨x, d, rfl, ⟨dx, hx⟩, ok, fun ok2 p H1 s1 z => ?_, fun no H1 s1 => ⟨rfl, fun ea hea => ?_⟩⟩
    · walk_at "rd"
      exact q ok2 _ p _ (by walk_at "same") upd_same (z.same (by walk_at "same"))
    · walk_at "rd"
      refine r_isiX (fun z => nomatch z) T.is_NoRow_FrameError ?_
      walk_at "rd"
      refine r_isiX (fun z => nomatch z) T.is_NoRow_NoTable ?_
      walk_at "rd"
      exact e no _ _ (by walk_at "same") upd_same
end
section
variable {P : Program} {w : World} {K : PySem.W.Frag} {mg : Str → Option Value} {base : Heap} {a : Adr}
theorem flds_told (r : Rw) : r.flds.lookup ("told" : Str) = none := by
  cases r <;> (show List.lookup _ (putF _ _ _) = none; walk_at "nolk")
theorem me_all_told (T : Txt K mg a) (r : Rw) : MethE P w K mg base CX0 1 (r.cls a) "told" (spTold a r) := by
  cases r
  · exact (me_Set_told T _ _).mono (by decide)
  · exact (me_Copy_told T _ _).mono (by decide)
  · exact (me_Add_told T _ _ _).mono (by decide)
  · exact (me_Sub_told T _ _ _).mono (by decide)
  · exact (me_Mul_told T _ _ _).mono (by decide)
  · exact (me_Less_told T _ _ _).mono (by decide)
  · exact (me_Grow_told T _).mono (by decide)
  · exact (me_Shrink_told T _).mono (by decide)
  · exact (me_Put_told T _ _).mono (by decide)
  · exact (me_Get_told T _ _).mono (by decide)
  · exact (me_Jump_told T _).mono (by decide)
  · exact (me_Branch_told T _ _).mono (by decide)
  · exact (me_Call_told T _).mono (by decide)
  · exact (me_Back_told T _).mono (by decide)
  · exact (me_Drop_told T _).mono (by decide)
end
section
variable {P : Program} {w : World} {K : PySem.W.Frag} {mg : Str → Option Value} {base : Heap} {a : Adr}
theorem r_gTup {K : PySem.W.Frag} {p : Addr} {xs : List V} {n : Nat} {t : TGs} {σ : L2.St} {H : Hp} {Q : L2.St → Hp → Prop} (h : SqT K H p xs) (hl : xs.length = n) (q : t xs σ H Q) : gTup K n t (.ref p) σ H Q := ⟨p, xs, rfl, h, hl, q⟩
theorem r_gCons {t : TG} {ts : TGs} {x : V} {xs : List V} {σ : L2.St} {H : Hp} {Q : L2.St → Hp → Prop} (q : t x σ H fun σ1 H1 => ts xs σ1 H1 Q) : gCons t ts (x :: xs) σ H Q := ⟨x, xs, rfl, q⟩
theorem r_gNil {σ : L2.St} {H : Hp} {Q : L2.St → Hp → Prop} (q : Q σ H) : gNil [] σ H Q := ⟨rfl, q⟩
local macro_rules | `(tactic| walk_at "gt") => `(tactic| repeat (first | (with_reducible refine r_gCons ?_) | (with_reducible refine r_gNil ?_) | (refine' r_gN ?x ?_; (case x => simp only [List.set_cons_succ, List.set_cons_zero]; rfl))))
set_option maxHeartbeats 4000000 in
theorem law_fn {fa : Addr} {fd : FuncData} (T : Txt K mg a) (F : Fun K "law" "law" s_law fa fd) : FnOk P w K mg base CX0 6 fa fd ["_law_script"] (spLaw K) := by
  refine F.ok (k := 5) sc_law (fun vs H Q E h => ?_) (fun cdv A outer s H vs Q E hr h => ?_)
  · obtain ⟨a0, ns, rfl, _⟩ := h
    rfl
  · obtain ⟨a0, ns, rfl, hS0, h63, q⟩ := h
    refine ⟨_, (pss_cons (ps_set (i := 1) sc_law.nd rfl (Or.inl rfl) (pe_callE (ok_law_cell_at (K := K) T) (hr.mono (by decide)) pass0 rfl (pa_cons (pv 0) (pa_cons pe_int pa_nil))))
      (pss_cons (ps_setC (i := 2) sc_law.nd rfl rfl (own := ["_law_k"]) (fr := [("_law_script", 0)]) rfl ⟨rfl, (by walk_at "clok"), (by walk_at "frok"), rfl, (by decide +kernel), (by decide +kernel), rfl⟩ (pi_range2 rfl T.z_range (pa_cons pe_int (pa_cons pe_int pa_nil))) (fun _ _ _ _ => (pg_name (i := 0) (show List.Nodup [("_law_k" : Str), ("_law_script" : Str)] from by decide +kernel) rfl (Or.inl rfl))) (fun _ _ _ _ => pts_nil) (fun _ _ _ _ => (pe_callE (ok_law_cell_at (K := K) T) (hr.mono (by decide)) pass0 rfl (pa_cons (pv 1) (pa_cons (pv 0) pa_nil)))))
      (pss_cons (ps_set (i := 3) sc_law.nd rfl (Or.inl rfl) (pe_op op_mod (pe_ix (ix_K (K := K) rfl) (pv 2) pe_int (fun _ _ => rfl)) pe_int))
      (pss_cons (ps_if (pt_cmpR (op_eqK (K := K) rfl hr.units) (pe_op op_mod (pv 1) pe_int) pe_int (nomark _)) (pss_cons (ps_asg (pe_callE (ok_law_plain (K := K) T) (hr.mono (by decide)) pass0 rfl (pa_cons (pe_op op_mod (pe_op op_fdiv (pv 1) pe_int) pe_int) (pa_cons (pv 2) pa_nil))) (pg_tupK (K := K) rfl rfl (pgs_cons (pg_name (i := 4) sc_law.nd rfl (Or.inl rfl)) (pgs_cons (pg_name (i := 5) sc_law.nd rfl (Or.inl rfl)) pgs_nil))))
      (pss_cons (ps_set (i := 3) sc_law.nd rfl (Or.inl rfl) pe_int)
      (pss_one (ps_set (i := 6) sc_law.nd rfl (Or.inl rfl) (pv 5))))) (pss_one (ps_asg (pe_callE (ok_law_aimed (K := K) T) (hr.mono (by decide)) pass0 rfl (pa_cons (pe_op op_mod (pe_op op_fdiv (pv 1) pe_int) pe_int) (pa_cons (pe_op op_mod (pe_ix (ix_K (K := K) rfl) (pv 2) pe_int (fun _ _ => rfl)) pe_int) (pa_cons (pv 3) pa_nil)))) (pg_tupK (K := K) rfl rfl (pgs_cons (pg_name (i := 4) sc_law.nd rfl (Or.inl rfl)) (pgs_cons (pg_name (i := 5) sc_law.nd rfl (Or.inl rfl)) pgs_nil))))))
      (pss_cons (ps_set (i := 7) sc_law.nd rfl (Or.inl rfl) (pe_callE (ok_law_by (K := K) T) (hr.mono (by decide)) pass0 rfl (pa_cons (pe_callE (ok_law_cell_at (K := K) T) (hr.mono (by decide)) pass0 rfl (pa_cons (pv 0) (pa_cons pe_int pa_nil))) (pa_cons (pv 3) pa_nil))))
      (pss_cons (ps_asg (pe_callE (ok_law_laid (K := K) T) (hr.mono (by decide)) pass0 rfl (pa_cons (pv 4) (pa_cons (pv 7) pa_nil))) (pg_tupK (K := K) rfl rfl (pgs_cons (pg_name (i := 8) sc_law.nd rfl (Or.inl rfl)) (pgs_cons (pg_name (i := 9) sc_law.nd rfl (Or.inl rfl)) pgs_nil))))
      (pss_cons (ps_if (pt_cmpR (op_eqK (K := K) rfl hr.units) (pe_op op_mod (pv 1) pe_int) pe_int (nomark _)) (pss_cons (ps_if (PW.pt (pw_or (pt_cmpR op_lt (pe_op (op_plusK (K := K) rfl) (pv 3) (pv 7)) pe_int (nomark _)) (pw_or1 (pt_cmpR op_gt (pe_op (op_plusK (K := K) rfl) (pv 3) (pv 7)) pe_int (nomark _))))) (pss_one (ps_ret (pe_and (pv 9) (pe_one (pe_cmpR (op_eqK (K := K) rfl hr.units) (pe_methK0 (P := P) (w := w) (K := K) (mg := mg) (base := base) (k := 1) ⟨rfl, rfl, rfl, rfl, rfl⟩ (pv 4) (hr.mono (by decide)) pass0) (pv 5) (nomark _)))))) pss_nil)
      (pss_one (ps_set (i := 6) sc_law.nd rfl (Or.inl rfl) (pe_op (op_plusK (K := K) rfl) (pe_slice (sl_K (K := K) rfl) (pv 5) po_none (po_some (pe_un un_neg pe_int))) (pe_tup (pa_cons (pe_op (op_plusK (K := K) rfl) (pv 3) (pv 7)) pa_nil)))))) pss_nil)
      (pss_cons (ps_if (PW.pt (pw_or (pt_cmpR op_isNA (pv 8) pe_non (nomark _)) (pw_or (pt_cmpR (op_neK (K := K) rfl hr.units) (pe_methK0 (P := P) (w := w) (K := K) (mg := mg) (base := base) (k := 1) ⟨rfl, rfl, rfl, rfl, rfl⟩ (pv 8) (hr.mono (by decide)) pass0) (pv 6) (nomark _)) (pw_or1 (pt_cmpR (op_neK (K := K) rfl hr.units) (pe_methK0 (P := P) (w := w) (K := K) (mg := mg) (base := base) (k := 1) ⟨rfl, rfl, rfl, rfl, rfl⟩ (pv 4) (hr.mono (by decide)) pass0) (pv 5) (nomark _)))))) (pss_one (ps_ret pe_bl)) pss_nil)
      (pss_cons (ps_if (PW.pt (pw_or (pt_not (pt_truK (K := K) rfl (pe_callE (ok_law_one_kind (K := K) T) (hr.mono (by decide)) pass0 rfl (pa_cons (pv 4) (pa_cons (pe_ix (ix_K (K := K) rfl) (pv 5) pe_int (fun _ _ => rfl)) pa_nil))))) (pw_or1 (pt_not (pt_truK (K := K) rfl (pe_callE (ok_law_one_kind (K := K) T) (hr.mono (by decide)) pass0 rfl (pa_cons (pv 8) (pa_cons (pe_ix (ix_K (K := K) rfl) (pv 5) pe_int (fun _ _ => rfl)) pa_nil)))))))) (pss_one (ps_ret pe_bl)) pss_nil)
      (pss_one (ps_ret (pe_and (pe_callB (call_isiK (K := K) rfl) rfl T.z_isinstance b_isinstance (pa_cons (pe_methK0 (P := P) (w := w) (K := K) (mg := mg) (base := base) (k := 1) ⟨rfl, rfl, rfl, rfl, rfl⟩ (pv 8) (hr.mono (by decide)) pass0) (pa_cons (pe_bltn (v := .ty "tuple") rfl T.z_tuple b_tuple rfl) pa_nil))) (pe_one (pe_cmpR (op_eqK (K := K) rfl hr.units) (pe_methK0 (P := P) (w := w) (K := K) (mg := mg) (base := base) (k := 1) ⟨rfl, rfl, rfl, rfl, rfl⟩ (pe_methK (P := P) (w := w) (K := K) (mg := mg) (base := base) (k := 4) ⟨rfl, rfl, rfl, rfl, rfl⟩ (pv 8) (hr.mono (by decide)) (pass_no (P := P) (w := w)) (pa_cons (pe_un un_neg (pv 7)) pa_nil)) (hr.mono (by decide)) pass0) (pv 5) (nomark _))))))))))))))), ?_⟩
    refine r_st (σ' := [some _, none, none, none, none, none, none, none, none, none]) rfl ?_
    walk_at "rd"
    refine ⟨2, 5, rfl, ⟨by decide, by decide, by decide, by decide⟩, ?_⟩
    refine comp_mapR (fun k => .int (cellAt ns (2 + (k : Int)))) (fun σ => ∃ v, σ = [v, some (.ref a0)]) (by rw [sizeLine_eq]; decide) ⟨_, rfl⟩ ?_ ?_
    · rintro i ys σ H1 hi c s ⟨v, rfl⟩
      walk_at "rd"
      exact c.next (range_get hi) rfl (by walk_at "same") ⟨_, rfl⟩
    intro H1 s1
    have e3 : ((List.range ((5 : Int) - 2).toNat).map fun k : Nat => V.int (cellAt ns (2 + (k : Int)))) = [cellAt ns (2 + ((0 : Nat) : Int)), cellAt ns (2 + ((1 : Nat) : Int)), cellAt ns (2 + ((2 : Nat) : Int))].map V.int := rfl
    rw [e3]
    generalize cellAt ns (2 + ((0 : Nat) : Int)) = s0
    generalize cellAt ns (2 + ((1 : Nat) : Int)) = s1'
    generalize cellAt ns (2 + ((2 : Nat) : Int)) = s2'
    clear e3
    have hS1 : SqL K H1 a0 (ns.map V.int) := Same.seq s1 hS0
    clear s1
    walk_at "rd"
    rename_i ls hls
    have htg : isTgt (gI [s0, s1', s2'] 1 % 2001) := ⟨by omega, by omega⟩
    generalize gI [s0, s1', s2'] 1 % 2001 = tg at htg ⊢
    refine ifInt (fun hh => ?_) (fun hh => ?_)
    · walk_at "rd"
      refine ⟨_, ls, s0, s1', s2', rfl, by walk_at "sql", fun t x tt r H2 s2 ht hx htt hok hst => ?_⟩
      have hS2 : SqL K H2 a0 (ns.map V.int) := Same.seq s2 (by walk_at "sql")
      clear s2 hls
      obtain ⟨dx, hx⟩ := hx
      have hat0 : atI (V.str r.told.1 :: r.told.2.map V.int) 0 = some (.str r.told.1) := at_head
      walk_at "rd"
      refine r_gTup (SqT.of ht) (by with_unfolding_all rfl) ?_
      walk_at "gt"
      walk_at "rd"
      refine ⟨_, _, rfl, fun v H3 s3 => ?_⟩
      have hx3 := s3 _ _ hx
      have htt3 := s3 _ _ htt
      clear s3 hx htt ht hS2 hS1
      walk_at "rd"
      refine ⟨x, v, r, rfl, ⟨dx, hx3⟩, hok, fun _ t5 fp H4 s4 ht4 hf => ?_, fun no => absurd (by rw [hst]; exact hok) no⟩
      rw [hst v] at hf
      obtain ⟨fdx, hf⟩ := hf
      have hx4 := s4 _ _ hx3
      have htt4 := s4 _ _ htt3
      clear s4 hx3 htt3
      walk_at "rd"
      refine r_gTup (SqT.of ht4) (by with_unfolding_all rfl) ?_
      walk_at "gt"
      walk_at "rd"
      refine r_methV (by walk_at "hlk") (flds_told _) ((me_all_told T _).mono (by decide)) ?_
      walk_at "rd"
      refine ⟨fp, rfl, ⟨_, by walk_at "hlk"⟩, fun t1 ht1 => ?_⟩
      walk_at "rd"
      refine r_neT (.tuple (.str r.told.1 :: r.told.2.map PyData.int)) (told_dp upd_same) (told_dp (by walk_at "hlk")) (shaped_told r) ?_
      walk_at "rd"
      refine r_methV (by walk_at "hlk") (flds_told _) ((me_all_told T _).mono (by decide)) ?_
      walk_at "rd"
      refine ⟨x, rfl, ⟨_, by walk_at "hlk"⟩, fun t2 ht2 => ?_⟩
      walk_at "rd"
      refine r_neT (.tuple (.str r.told.1 :: r.told.2.map PyData.int)) (told_dp upd_same) (told_dp (by walk_at "hlk")) (shaped_told r) ?_
      walk_at "rd"
      refine ⟨x, _, r, rfl, ⟨_, by walk_at "hlk"⟩, fun H7 s7 => ?_⟩
      rw [decide_eq_true (rfl : V.str r.told.1 = V.str r.told.1)]
      have hx7 : H7 x = some (.ins (r.cls a) dx r.flds) := s7 _ _ (by walk_at "hlk")
      have hf7 : H7 fp = some (.ins (Rw.cls a r) fdx r.flds) := s7 _ _ (by walk_at "hlk")
      have htt7 : H7 tt = some (.tup (.str r.told.1 :: r.told.2.map V.int)) := s7 _ _ (by walk_at "hlk")
      clear s7
      walk_at "rd"
      refine ⟨fp, _, r, rfl, ⟨_, hf7⟩, fun H8 s8 => ?_⟩
      rw [decide_eq_true (rfl : V.str r.told.1 = V.str r.told.1)]
      have hx8 : H8 x = some (.ins (r.cls a) dx r.flds) := s8 _ _ (by walk_at "hlk")
      have hf8 : H8 fp = some (.ins (Rw.cls a r) fdx r.flds) := s8 _ _ (by walk_at "hlk")
      have htt8 : H8 tt = some (.tup (.str r.told.1 :: r.told.2.map V.int)) := s8 _ _ (by walk_at "hlk")
      clear s8 hx7 hf7 htt7
      walk_at "rd"
      refine r_methV (by walk_at "hlk") (flds_told _) ((me_all_told T _).mono (by decide)) ?_
      walk_at "rd"
      refine ⟨fp, rfl, ⟨_, by walk_at "hlk"⟩, fun t3 ht3 => ?_⟩
      walk_at "rd"
      refine r_methV (by walk_at "hlk") (flds_laid _) ((me_all_laid T _).mono (by decide)) ?_
      walk_at "rd"
      refine ⟨fp, -v, rfl, ⟨_, by walk_at "hlk"⟩, hok, fun _ p9 H9 s9 hp9 => ?_, fun no => absurd (by rw [hst]; exact hok) no⟩
      rw [hst] at hp9
      have htt9 : H9 tt = some (.tup (.str r.told.1 :: r.told.2.map V.int)) := s9 _ _ (by walk_at "hlk")
      clear s9
      obtain ⟨dx9, hp9⟩ := hp9
      walk_at "rd"
      refine r_methV (by walk_at "hlk") (flds_told _) ((me_all_told T _).mono (by decide)) ?_
      walk_at "rd"
      refine ⟨p9, rfl, ⟨_, hp9⟩, fun t4 ht4 => ?_⟩
      walk_at "rd"
      refine r_eqT (.tuple (.str r.told.1 :: r.told.2.map PyData.int)) (told_dp upd_same) (told_dp (by walk_at "hlk")) (shaped_told r) ?_
      exact q _
    · walk_at "rd"
      refine ⟨_, _, _, rfl, ⟨by omega, by omega⟩, htg, fun t x tt r H2 s2 ht hx htt hok haim => ?_⟩
      have hS2 : SqL K H2 a0 (ns.map V.int) := Same.seq s2 (by walk_at "sql")
      clear s2 hls
      obtain ⟨dx, hx⟩ := hx
      obtain ⟨w, xs, ht0, hxl, hd⟩ := haim
      have hat0 : atI (V.str r.told.1 :: r.told.2.map V.int) 0 = some (.str r.told.1) := at_head
      walk_at "rd"
      refine r_gTup (SqT.of ht) (by with_unfolding_all rfl) ?_
      walk_at "gt"
      walk_at "rd"
      refine ⟨_, _, rfl, fun v H3 s3 => ?_⟩
      have hx3 := s3 _ _ hx
      have htt3 := s3 _ _ htt
      clear s3 hx htt ht hS2 hS1
      obtain ⟨hd1, hd2, hd3⟩ := hd v
      walk_at "rd"
      by_cases hin : isTgt (tg + v)
      · refine ⟨x, v, r, rfl, ⟨dx, hx3⟩, hok, fun _ t5 fp H4 s4 ht4 hf => ?_, fun no => absurd (hd2.mpr hin) no⟩
        obtain ⟨fdx, hf⟩ := hf
        have hx4 := s4 _ _ hx3
        have htt4 := s4 _ _ htt3
        clear s4 hx3 htt3
        have hfo : (r.laid v).ok := hd2.mpr hin
        obtain ⟨i0, i1⟩ := hin
        have htx : H4 tt = some (.tup (.str w :: (xs.map V.int ++ [.int tg]))) := by rw [htt4, ht0, List.map_append]; rfl
        walk_at "rd"
        refine r_gTup (SqT.of ht4) (by with_unfolding_all rfl) ?_
        walk_at "gt"
        walk_at "rd"
        refine r_slT (SqT.of htx) (cut_last_ne _ _ _) (fun lq hlq => ?_)
        rw [cut_last]
        clear htx
        walk_at "rd"
        refine r_plusT (SqT.of (by walk_at "hlk")) (SqT.of upd_same) (fun z => by cases z) (fun z => by cases z) (by rw [sizeLine_eq]; simp; omega) fun lu hlu => ?_
        walk_at "rd"
        refine r_methV (by walk_at "hlk") (flds_told _) ((me_all_told T _).mono (by decide)) ?_
        walk_at "rd"
        refine ⟨fp, rfl, ⟨_, by walk_at "hlk"⟩, fun t1 ht1 => ?_⟩
        walk_at "rd"
        refine r_neT (.tuple (.str (r.laid v).told.1 :: (r.laid v).told.2.map PyData.int)) (told_dp upd_same) (due_dp (by walk_at "hlk") hd1) (shaped_told (r.laid v)) ?_
        walk_at "rd"
        refine r_methV (by walk_at "hlk") (flds_told _) ((me_all_told T _).mono (by decide)) ?_
        walk_at "rd"
        refine ⟨x, rfl, ⟨_, by walk_at "hlk"⟩, fun t2 ht2 => ?_⟩
        walk_at "rd"
        refine r_neT (.tuple (.str r.told.1 :: r.told.2.map PyData.int)) (told_dp upd_same) (told_dp (by walk_at "hlk")) (shaped_told r) ?_
        walk_at "rd"
        refine ⟨x, _, r, rfl, ⟨_, by walk_at "hlk"⟩, fun H7 s7 => ?_⟩
        rw [decide_eq_true (rfl : V.str r.told.1 = V.str r.told.1)]
        have hx7 : H7 x = some (.ins (r.cls a) dx r.flds) := s7 _ _ (by walk_at "hlk")
        have hf7 : H7 fp = some (.ins (Rw.cls a (r.laid v)) fdx (r.laid v).flds) := s7 _ _ (by walk_at "hlk")
        have htt7 : H7 tt = some (.tup (.str r.told.1 :: r.told.2.map V.int)) := s7 _ _ (by walk_at "hlk")
        clear s7
        walk_at "rd"
        refine ⟨fp, _, (r.laid v), rfl, ⟨_, hf7⟩, fun H8 s8 => ?_⟩
        rw [decide_eq_true ((by rw [hd1, ht0]) : V.str (r.laid v).told.1 = V.str r.told.1)]
        have hx8 : H8 x = some (.ins (r.cls a) dx r.flds) := s8 _ _ (by walk_at "hlk")
        have hf8 : H8 fp = some (.ins (Rw.cls a (r.laid v)) fdx (r.laid v).flds) := s8 _ _ (by walk_at "hlk")
        have htt8 : H8 tt = some (.tup (.str r.told.1 :: r.told.2.map V.int)) := s8 _ _ (by walk_at "hlk")
        clear s8 hx7 hf7 htt7
        walk_at "rd"
        refine r_methV (by walk_at "hlk") (flds_told _) ((me_all_told T _).mono (by decide)) ?_
        walk_at "rd"
        refine ⟨fp, rfl, ⟨_, by walk_at "hlk"⟩, fun t3 ht3 => ?_⟩
        walk_at "rd"
        refine r_methV (by walk_at "hlk") (flds_laid _) ((me_all_laid T _).mono (by decide)) ?_
        walk_at "rd"
        refine ⟨fp, -v, rfl, ⟨_, by walk_at "hlk"⟩, hfo, fun _ p9 H9 s9 hp9 => ?_, fun no => absurd (by rw [hd3]; exact hok) no⟩
        rw [hd3] at hp9
        have htt9 : H9 tt = some (.tup (.str r.told.1 :: r.told.2.map V.int)) := s9 _ _ (by walk_at "hlk")
        clear s9
        obtain ⟨dx9, hp9⟩ := hp9
        walk_at "rd"
        refine r_methV (by walk_at "hlk") (flds_told _) ((me_all_told T _).mono (by decide)) ?_
        walk_at "rd"
        refine ⟨p9, rfl, ⟨_, hp9⟩, fun t4 ht4 => ?_⟩
        walk_at "rd"
        refine r_eqT (.tuple (.str r.told.1 :: r.told.2.map PyData.int)) (told_dp upd_same) (told_dp (by walk_at "hlk")) (shaped_told r) ?_
        exact q _
      · refine ⟨x, v, r, rfl, ⟨dx, hx3⟩, hok, fun ok2 => absurd (hd2.mp ok2) hin, fun no t5 H4 s4 ht4 => ?_⟩
        have hx4 := s4 _ _ hx3
        have htt4 := s4 _ _ htt3
        clear s4 hx3 htt3
        have hout : tg + v < 0 ∨ 2000 < tg + v := by
          rcases Int.lt_or_le (tg + v) 0 with z | z
          · exact .inl z
          · rcases Int.lt_or_le 2000 (tg + v) with y | y
            · exact .inr y
            · exact absurd ⟨z, y⟩ hin
        rcases hout with h1 | h1
        all_goals
          walk_at "rd"
          refine r_gTup (SqT.of ht4) (by with_unfolding_all rfl) ?_
          walk_at "gt"
          walk_at "rd"
          refine r_methV (by walk_at "hlk") (flds_told _) ((me_all_told T _).mono (by decide)) ?_
          walk_at "rd"
          refine ⟨x, rfl, ⟨_, by walk_at "hlk"⟩, fun t1 ht1 => ?_⟩
          walk_at "rd"
          refine r_eqT (.tuple (.str r.told.1 :: r.told.2.map PyData.int)) (told_dp upd_same) (told_dp (by walk_at "hlk")) (shaped_told r) ?_
          exact q _
end
set_option maxHeartbeats 8000000 in
theorem txt_mk {K : PySem.W.Frag} {h : Heap} {mg : Str → Option Value} {fa : Addr} (X : K.In h) (G : h.Ns mainGlobals mg) (hfa : mg "law" = some (.ref fa))
    {t_TOP_BOX : Tok}
    {t_TOP_CELLS : Tok}
    {t_TOP_TARGET : Tok}
    {t_TOP_VALUE : Tok}
    {C_Add : Addr}
    {C_Back : Addr}
    {C_Branch : Addr}
    {C_Call : Addr}
    {C_Copy : Addr}
    {C_Drop : Addr}
    {C_FrameError : Addr}
    {C_Get : Addr}
    {C_Grow : Addr}
    {C_Jump : Addr}
    {C_Less : Addr}
    {C_Mul : Addr}
    {C_NoRow : Addr}
    {C_NoTable : Addr}
    {C_Put : Addr}
    {C_Row : Addr}
    {C_Set : Addr}
    {C_Shrink : Addr}
    {C_Sub : Addr}
    {f1 : Addr} {od1 an1 : Option Addr} {sl1 : Array (Option Value)} {oc1 kV1 dc1 pm1 cd1 ct1 : Value}
    {f2 : Addr} {od2 an2 : Option Addr} {sl2 : Array (Option Value)} {oc2 kV2 dc2 pm2 cd2 ct2 : Value}
    {f3 : Addr} {od3 an3 : Option Addr} {sl3 : Array (Option Value)} {oc3 kV3 dc3 pm3 cd3 ct3 : Value}
    {f4 : Addr} {od4 an4 : Option Addr} {sl4 : Array (Option Value)} {oc4 kV4 dc4 pm4 cd4 ct4 : Value}
    {f5 : Addr} {od5 an5 : Option Addr} {sl5 : Array (Option Value)} {oc5 kV5 dc5 pm5 cd5 ct5 : Value}
    {f6 : Addr} {od6 an6 : Option Addr} {sl6 : Array (Option Value)} {oc6 kV6 dc6 pm6 cd6 ct6 : Value}
    {f7 : Addr} {od7 an7 : Option Addr} {sl7 : Array (Option Value)} {oc7 kV7 dc7 pm7 cd7 ct7 : Value}
    {f8 : Addr} {od8 an8 : Option Addr} {sl8 : Array (Option Value)} {oc8 kV8 dc8 pm8 cd8 ct8 : Value}
    {f9 : Addr} {od9 an9 : Option Addr} {sl9 : Array (Option Value)} {oc9 kV9 dc9 pm9 cd9 ct9 : Value}
    {f10 : Addr} {od10 an10 : Option Addr} {sl10 : Array (Option Value)} {oc10 kV10 dc10 pm10 cd10 ct10 : Value}
    {f11 : Addr} {od11 an11 : Option Addr} {sl11 : Array (Option Value)} {oc11 kV11 dc11 pm11 cd11 ct11 : Value}
    {f12 : Addr} {od12 an12 : Option Addr} {sl12 : Array (Option Value)} {oc12 kV12 dc12 pm12 cd12 ct12 : Value}
    {f13 : Addr} {od13 an13 : Option Addr} {sl13 : Array (Option Value)} {oc13 kV13 dc13 pm13 cd13 ct13 : Value}
    {f14 : Addr} {od14 an14 : Option Addr} {sl14 : Array (Option Value)} {oc14 kV14 dc14 pm14 cd14 ct14 : Value}
    {f15 : Addr} {od15 an15 : Option Addr} {sl15 : Array (Option Value)} {oc15 kV15 dc15 pm15 cd15 ct15 : Value}
    {f16 : Addr} {od16 an16 : Option Addr} {sl16 : Array (Option Value)} {oc16 kV16 dc16 pm16 cd16 ct16 : Value}
    {f17 : Addr} {od17 an17 : Option Addr} {sl17 : Array (Option Value)} {oc17 kV17 dc17 pm17 cd17 ct17 : Value}
    {f18 : Addr} {od18 an18 : Option Addr} {sl18 : Array (Option Value)} {oc18 kV18 dc18 pm18 cd18 ct18 : Value}
    {f19 : Addr} {od19 an19 : Option Addr} {sl19 : Array (Option Value)} {oc19 kV19 dc19 pm19 cd19 ct19 : Value}
    {f20 : Addr} {od20 an20 : Option Addr} {sl20 : Array (Option Value)} {oc20 kV20 dc20 pm20 cd20 ct20 : Value}
    {f21 : Addr} {od21 an21 : Option Addr} {sl21 : Array (Option Value)} {oc21 kV21 dc21 pm21 cd21 ct21 : Value}
    {f22 : Addr} {od22 an22 : Option Addr} {sl22 : Array (Option Value)} {oc22 kV22 dc22 pm22 cd22 ct22 : Value}
    {f23 : Addr} {od23 an23 : Option Addr} {sl23 : Array (Option Value)} {oc23 kV23 dc23 pm23 cd23 ct23 : Value}
    {f24 : Addr} {od24 an24 : Option Addr} {sl24 : Array (Option Value)} {oc24 kV24 dc24 pm24 cd24 ct24 : Value}
    {f25 : Addr} {od25 an25 : Option Addr} {sl25 : Array (Option Value)} {oc25 kV25 dc25 pm25 cd25 ct25 : Value}
    {f26 : Addr} {od26 an26 : Option Addr} {sl26 : Array (Option Value)} {oc26 kV26 dc26 pm26 cd26 ct26 : Value}
    {f27 : Addr} {od27 an27 : Option Addr} {sl27 : Array (Option Value)} {oc27 kV27 dc27 pm27 cd27 ct27 : Value}
    {f28 : Addr} {od28 an28 : Option Addr} {sl28 : Array (Option Value)} {oc28 kV28 dc28 pm28 cd28 ct28 : Value}
    {f29 : Addr} {od29 an29 : Option Addr} {sl29 : Array (Option Value)} {oc29 kV29 dc29 pm29 cd29 ct29 : Value}
    {f30 : Addr} {od30 an30 : Option Addr} {sl30 : Array (Option Value)} {oc30 kV30 dc30 pm30 cd30 ct30 : Value}
    {f31 : Addr} {od31 an31 : Option Addr} {sl31 : Array (Option Value)} {oc31 kV31 dc31 pm31 cd31 ct31 : Value}
    {f32 : Addr} {od32 an32 : Option Addr} {sl32 : Array (Option Value)} {oc32 kV32 dc32 pm32 cd32 ct32 : Value}
    {f33 : Addr} {od33 an33 : Option Addr} {sl33 : Array (Option Value)} {oc33 kV33 dc33 pm33 cd33 ct33 : Value}
    {f34 : Addr} {od34 an34 : Option Addr} {sl34 : Array (Option Value)} {oc34 kV34 dc34 pm34 cd34 ct34 : Value}
    {f35 : Addr} {od35 an35 : Option Addr} {sl35 : Array (Option Value)} {oc35 kV35 dc35 pm35 cd35 ct35 : Value}
    {f36 : Addr} {od36 an36 : Option Addr} {sl36 : Array (Option Value)} {oc36 kV36 dc36 pm36 cd36 ct36 : Value}
    {f37 : Addr} {od37 an37 : Option Addr} {sl37 : Array (Option Value)} {oc37 kV37 dc37 pm37 cd37 ct37 : Value}
    {f38 : Addr} {od38 an38 : Option Addr} {sl38 : Array (Option Value)} {oc38 kV38 dc38 pm38 cd38 ct38 : Value}
    {f39 : Addr} {od39 an39 : Option Addr} {sl39 : Array (Option Value)} {oc39 kV39 dc39 pm39 cd39 ct39 : Value}
    {f40 : Addr} {od40 an40 : Option Addr} {sl40 : Array (Option Value)} {oc40 kV40 dc40 pm40 cd40 ct40 : Value}
    {f41 : Addr} {od41 an41 : Option Addr} {sl41 : Array (Option Value)} {oc41 kV41 dc41 pm41 cd41 ct41 : Value}
    {f42 : Addr} {od42 an42 : Option Addr} {sl42 : Array (Option Value)} {oc42 kV42 dc42 pm42 cd42 ct42 : Value}
    {f43 : Addr} {od43 an43 : Option Addr} {sl43 : Array (Option Value)} {oc43 kV43 dc43 pm43 cd43 ct43 : Value}
    {f44 : Addr} {od44 an44 : Option Addr} {sl44 : Array (Option Value)} {oc44 kV44 dc44 pm44 cd44 ct44 : Value}
    {f45 : Addr} {od45 an45 : Option Addr} {sl45 : Array (Option Value)} {oc45 kV45 dc45 pm45 cd45 ct45 : Value}
    {f46 : Addr} {od46 an46 : Option Addr} {sl46 : Array (Option Value)} {oc46 kV46 dc46 pm46 cd46 ct46 : Value}
    {f47 : Addr} {od47 an47 : Option Addr} {sl47 : Array (Option Value)} {oc47 kV47 dc47 pm47 cd47 ct47 : Value}
    {f48 : Addr} {od48 an48 : Option Addr} {sl48 : Array (Option Value)} {oc48 kV48 dc48 pm48 cd48 ct48 : Value}
    {f49 : Addr} {od49 an49 : Option Addr} {sl49 : Array (Option Value)} {oc49 kV49 dc49 pm49 cd49 ct49 : Value}
    {f50 : Addr} {od50 an50 : Option Addr} {sl50 : Array (Option Value)} {oc50 kV50 dc50 pm50 cd50 ct50 : Value}
    {f51 : Addr} {od51 an51 : Option Addr} {sl51 : Array (Option Value)} {oc51 kV51 dc51 pm51 cd51 ct51 : Value}
    {f52 : Addr} {od52 an52 : Option Addr} {sl52 : Array (Option Value)} {oc52 kV52 dc52 pm52 cd52 ct52 : Value}
    {f53 : Addr} {od53 an53 : Option Addr} {sl53 : Array (Option Value)} {oc53 kV53 dc53 pm53 cd53 ct53 : Value}
    {f54 : Addr} {od54 an54 : Option Addr} {sl54 : Array (Option Value)} {oc54 kV54 dc54 pm54 cd54 ct54 : Value}
    (z_isinstance : PySem.W.nsIn K mainGlobals "isinstance" = some none)
    (z_len : PySem.W.nsIn K mainGlobals "len" = some none)
    (z_range : PySem.W.nsIn K mainGlobals "range" = some none)
    (z_tuple : PySem.W.nsIn K mainGlobals "tuple" = some none)
    (g_TOP_BOX : PySem.W.nsIn K mainGlobals "TOP_BOX" = some (some (Value.int 7 t_TOP_BOX)))
    (g_TOP_CELLS : PySem.W.nsIn K mainGlobals "TOP_CELLS" = some (some (Value.int 4000 t_TOP_CELLS)))
    (g_TOP_TARGET : PySem.W.nsIn K mainGlobals "TOP_TARGET" = some (some (Value.int 2000 t_TOP_TARGET)))
    (g_TOP_VALUE : PySem.W.nsIn K mainGlobals "TOP_VALUE" = some (some (Value.int 4294967295 t_TOP_VALUE)))
    (c_Add : PySem.W.nsIn K mainGlobals "Add" = some (some (.ref C_Add)))
    (c_Back : PySem.W.nsIn K mainGlobals "Back" = some (some (.ref C_Back)))
    (c_Branch : PySem.W.nsIn K mainGlobals "Branch" = some (some (.ref C_Branch)))
    (c_Call : PySem.W.nsIn K mainGlobals "Call" = some (some (.ref C_Call)))
    (c_Copy : PySem.W.nsIn K mainGlobals "Copy" = some (some (.ref C_Copy)))
    (c_Drop : PySem.W.nsIn K mainGlobals "Drop" = some (some (.ref C_Drop)))
    (c_FrameError : PySem.W.nsIn K mainGlobals "FrameError" = some (some (.ref C_FrameError)))
    (c_Get : PySem.W.nsIn K mainGlobals "Get" = some (some (.ref C_Get)))
    (c_Grow : PySem.W.nsIn K mainGlobals "Grow" = some (some (.ref C_Grow)))
    (c_Jump : PySem.W.nsIn K mainGlobals "Jump" = some (some (.ref C_Jump)))
    (c_Less : PySem.W.nsIn K mainGlobals "Less" = some (some (.ref C_Less)))
    (c_Mul : PySem.W.nsIn K mainGlobals "Mul" = some (some (.ref C_Mul)))
    (c_NoRow : PySem.W.nsIn K mainGlobals "NoRow" = some (some (.ref C_NoRow)))
    (c_NoTable : PySem.W.nsIn K mainGlobals "NoTable" = some (some (.ref C_NoTable)))
    (c_Put : PySem.W.nsIn K mainGlobals "Put" = some (some (.ref C_Put)))
    (c_Row : PySem.W.nsIn K mainGlobals "Row" = some (some (.ref C_Row)))
    (c_Set : PySem.W.nsIn K mainGlobals "Set" = some (some (.ref C_Set)))
    (c_Shrink : PySem.W.nsIn K mainGlobals "Shrink" = some (some (.ref C_Shrink)))
    (c_Sub : PySem.W.nsIn K mainGlobals "Sub" = some (some (.ref C_Sub)))
    (pg_Jump : PySem.W.plainGet K C_Jump Str.empty = true)
    (hd_Jump : PySem.W.hasDictIn K C_Jump = true)
    (po_Jump : PySem.W.plainOver K C_Jump = true)
    (sa_Jump : PySem.W.findIn K (.ref C_Jump) "__setattr__" = some (some (.builtin "object.__setattr__")))
    (mk_Jump : PySem.W.makesIn K C_Jump = true)
    (kc_Jump : PySem.W.keepIn K (.ref C_Jump) = true)
    (n_Jump_target : PySem.W.findIn K (.ref C_Jump) "target" = some none)
    (a1 : PySem.W.findIn K (.ref C_Jump) "__init__" = some (some (.ref f1)))
    (i1 : PySem.W.isFn K (.ref f1) = true)
    (l1 : K.lookup f1 = some ⟨oc1, od1, .func (PySem.W.fnOf "__init__" "Jump.__init__" (defArgs s_Jump_init) (defBody s_Jump_init) (defScope s_Jump_init) .none kV1 dc1 pm1 an1 cd1 ct1), sl1⟩)
    (c1 : PySem.W.codeIn K cd1 "Jump.__init__" = true) (k1 : PySem.W.keepIn K (.ref f1) = true)
    (a2 : PySem.W.findIn K (.ref C_Jump) "laid" = some (some (.ref f2)))
    (i2 : PySem.W.isFn K (.ref f2) = true)
    (l2 : K.lookup f2 = some ⟨oc2, od2, .func (PySem.W.fnOf "laid" "Jump.laid" (defArgs s_Jump_laid) (defBody s_Jump_laid) (defScope s_Jump_laid) .none kV2 dc2 pm2 an2 cd2 ct2), sl2⟩)
    (c2 : PySem.W.codeIn K cd2 "Jump.laid" = true) (k2 : PySem.W.keepIn K (.ref f2) = true)
    (a3 : PySem.W.findIn K (.ref C_Jump) "told" = some (some (.ref f3)))
    (i3 : PySem.W.isFn K (.ref f3) = true)
    (l3 : K.lookup f3 = some ⟨oc3, od3, .func (PySem.W.fnOf "told" "Jump.told" (defArgs s_Jump_told) (defBody s_Jump_told) (defScope s_Jump_told) .none kV3 dc3 pm3 an3 cd3 ct3), sl3⟩)
    (c3 : PySem.W.codeIn K cd3 "Jump.told" = true) (k3 : PySem.W.keepIn K (.ref f3) = true)
    (pg_Branch : PySem.W.plainGet K C_Branch Str.empty = true)
    (hd_Branch : PySem.W.hasDictIn K C_Branch = true)
    (po_Branch : PySem.W.plainOver K C_Branch = true)
    (sa_Branch : PySem.W.findIn K (.ref C_Branch) "__setattr__" = some (some (.builtin "object.__setattr__")))
    (mk_Branch : PySem.W.makesIn K C_Branch = true)
    (kc_Branch : PySem.W.keepIn K (.ref C_Branch) = true)
    (n_Branch_box : PySem.W.findIn K (.ref C_Branch) "box" = some none)
    (n_Branch_target : PySem.W.findIn K (.ref C_Branch) "target" = some none)
    (a4 : PySem.W.findIn K (.ref C_Branch) "__init__" = some (some (.ref f4)))
    (i4 : PySem.W.isFn K (.ref f4) = true)
    (l4 : K.lookup f4 = some ⟨oc4, od4, .func (PySem.W.fnOf "__init__" "Branch.__init__" (defArgs s_Branch_init) (defBody s_Branch_init) (defScope s_Branch_init) .none kV4 dc4 pm4 an4 cd4 ct4), sl4⟩)
    (c4 : PySem.W.codeIn K cd4 "Branch.__init__" = true) (k4 : PySem.W.keepIn K (.ref f4) = true)
    (a5 : PySem.W.findIn K (.ref C_Branch) "laid" = some (some (.ref f5)))
    (i5 : PySem.W.isFn K (.ref f5) = true)
    (l5 : K.lookup f5 = some ⟨oc5, od5, .func (PySem.W.fnOf "laid" "Branch.laid" (defArgs s_Branch_laid) (defBody s_Branch_laid) (defScope s_Branch_laid) .none kV5 dc5 pm5 an5 cd5 ct5), sl5⟩)
    (c5 : PySem.W.codeIn K cd5 "Branch.laid" = true) (k5 : PySem.W.keepIn K (.ref f5) = true)
    (a6 : PySem.W.findIn K (.ref C_Branch) "told" = some (some (.ref f6)))
    (i6 : PySem.W.isFn K (.ref f6) = true)
    (l6 : K.lookup f6 = some ⟨oc6, od6, .func (PySem.W.fnOf "told" "Branch.told" (defArgs s_Branch_told) (defBody s_Branch_told) (defScope s_Branch_told) .none kV6 dc6 pm6 an6 cd6 ct6), sl6⟩)
    (c6 : PySem.W.codeIn K cd6 "Branch.told" = true) (k6 : PySem.W.keepIn K (.ref f6) = true)
    (pg_Call : PySem.W.plainGet K C_Call Str.empty = true)
    (hd_Call : PySem.W.hasDictIn K C_Call = true)
    (po_Call : PySem.W.plainOver K C_Call = true)
    (sa_Call : PySem.W.findIn K (.ref C_Call) "__setattr__" = some (some (.builtin "object.__setattr__")))
    (mk_Call : PySem.W.makesIn K C_Call = true)
    (kc_Call : PySem.W.keepIn K (.ref C_Call) = true)
    (n_Call_target : PySem.W.findIn K (.ref C_Call) "target" = some none)
    (a7 : PySem.W.findIn K (.ref C_Call) "__init__" = some (some (.ref f7)))
    (i7 : PySem.W.isFn K (.ref f7) = true)
    (l7 : K.lookup f7 = some ⟨oc7, od7, .func (PySem.W.fnOf "__init__" "Call.__init__" (defArgs s_Call_init) (defBody s_Call_init) (defScope s_Call_init) .none kV7 dc7 pm7 an7 cd7 ct7), sl7⟩)
    (c7 : PySem.W.codeIn K cd7 "Call.__init__" = true) (k7 : PySem.W.keepIn K (.ref f7) = true)
    (a8 : PySem.W.findIn K (.ref C_Call) "laid" = some (some (.ref f8)))
    (i8 : PySem.W.isFn K (.ref f8) = true)
    (l8 : K.lookup f8 = some ⟨oc8, od8, .func (PySem.W.fnOf "laid" "Call.laid" (defArgs s_Call_laid) (defBody s_Call_laid) (defScope s_Call_laid) .none kV8 dc8 pm8 an8 cd8 ct8), sl8⟩)
    (c8 : PySem.W.codeIn K cd8 "Call.laid" = true) (k8 : PySem.W.keepIn K (.ref f8) = true)
    (a9 : PySem.W.findIn K (.ref C_Call) "told" = some (some (.ref f9)))
    (i9 : PySem.W.isFn K (.ref f9) = true)
    (l9 : K.lookup f9 = some ⟨oc9, od9, .func (PySem.W.fnOf "told" "Call.told" (defArgs s_Call_told) (defBody s_Call_told) (defScope s_Call_told) .none kV9 dc9 pm9 an9 cd9 ct9), sl9⟩)
    (c9 : PySem.W.codeIn K cd9 "Call.told" = true) (k9 : PySem.W.keepIn K (.ref f9) = true)
    (pg_Less : PySem.W.plainGet K C_Less Str.empty = true)
    (hd_Less : PySem.W.hasDictIn K C_Less = true)
    (po_Less : PySem.W.plainOver K C_Less = true)
    (sa_Less : PySem.W.findIn K (.ref C_Less) "__setattr__" = some (some (.builtin "object.__setattr__")))
    (mk_Less : PySem.W.makesIn K C_Less = true)
    (kc_Less : PySem.W.keepIn K (.ref C_Less) = true)
    (n_Less_box : PySem.W.findIn K (.ref C_Less) "box" = some none)
    (n_Less_one : PySem.W.findIn K (.ref C_Less) "one" = some none)
    (n_Less_other : PySem.W.findIn K (.ref C_Less) "other" = some none)
    (a10 : PySem.W.findIn K (.ref C_Less) "__init__" = some (some (.ref f10)))
    (i10 : PySem.W.isFn K (.ref f10) = true)
    (l10 : K.lookup f10 = some ⟨oc10, od10, .func (PySem.W.fnOf "__init__" "Reckoning.__init__" (defArgs s_Reckoning_init) (defBody s_Reckoning_init) (defScope s_Reckoning_init) .none kV10 dc10 pm10 an10 cd10 ct10), sl10⟩)
    (c10 : PySem.W.codeIn K cd10 "Reckoning.__init__" = true) (k10 : PySem.W.keepIn K (.ref f10) = true)
    (a11 : PySem.W.findIn K (.ref C_Less) "laid" = some (some (.ref f11)))
    (i11 : PySem.W.isFn K (.ref f11) = true)
    (l11 : K.lookup f11 = some ⟨oc11, od11, .func (PySem.W.fnOf "laid" "Row.laid" (defArgs s_Row_laid) (defBody s_Row_laid) (defScope s_Row_laid) .none kV11 dc11 pm11 an11 cd11 ct11), sl11⟩)
    (c11 : PySem.W.codeIn K cd11 "Row.laid" = true) (k11 : PySem.W.keepIn K (.ref f11) = true)
    (a12 : PySem.W.findIn K (.ref C_Less) "told" = some (some (.ref f12)))
    (i12 : PySem.W.isFn K (.ref f12) = true)
    (l12 : K.lookup f12 = some ⟨oc12, od12, .func (PySem.W.fnOf "told" "Less.told" (defArgs s_Less_told) (defBody s_Less_told) (defScope s_Less_told) .none kV12 dc12 pm12 an12 cd12 ct12), sl12⟩)
    (c12 : PySem.W.codeIn K cd12 "Less.told" = true) (k12 : PySem.W.keepIn K (.ref f12) = true)
    (pg_Set : PySem.W.plainGet K C_Set Str.empty = true)
    (hd_Set : PySem.W.hasDictIn K C_Set = true)
    (po_Set : PySem.W.plainOver K C_Set = true)
    (sa_Set : PySem.W.findIn K (.ref C_Set) "__setattr__" = some (some (.builtin "object.__setattr__")))
    (mk_Set : PySem.W.makesIn K C_Set = true)
    (kc_Set : PySem.W.keepIn K (.ref C_Set) = true)
    (n_Set_box : PySem.W.findIn K (.ref C_Set) "box" = some none)
    (n_Set_number : PySem.W.findIn K (.ref C_Set) "number" = some none)
    (a13 : PySem.W.findIn K (.ref C_Set) "__init__" = some (some (.ref f13)))
    (i13 : PySem.W.isFn K (.ref f13) = true)
    (l13 : K.lookup f13 = some ⟨oc13, od13, .func (PySem.W.fnOf "__init__" "Set.__init__" (defArgs s_Set_init) (defBody s_Set_init) (defScope s_Set_init) .none kV13 dc13 pm13 an13 cd13 ct13), sl13⟩)
    (c13 : PySem.W.codeIn K cd13 "Set.__init__" = true) (k13 : PySem.W.keepIn K (.ref f13) = true)
    (a14 : PySem.W.findIn K (.ref C_Set) "laid" = some (some (.ref f14)))
    (i14 : PySem.W.isFn K (.ref f14) = true)
    (l14 : K.lookup f14 = some ⟨oc14, od14, .func (PySem.W.fnOf "laid" "Row.laid" (defArgs s_Row_laid) (defBody s_Row_laid) (defScope s_Row_laid) .none kV14 dc14 pm14 an14 cd14 ct14), sl14⟩)
    (c14 : PySem.W.codeIn K cd14 "Row.laid" = true) (k14 : PySem.W.keepIn K (.ref f14) = true)
    (a15 : PySem.W.findIn K (.ref C_Set) "told" = some (some (.ref f15)))
    (i15 : PySem.W.isFn K (.ref f15) = true)
    (l15 : K.lookup f15 = some ⟨oc15, od15, .func (PySem.W.fnOf "told" "Set.told" (defArgs s_Set_told) (defBody s_Set_told) (defScope s_Set_told) .none kV15 dc15 pm15 an15 cd15 ct15), sl15⟩)
    (c15 : PySem.W.codeIn K cd15 "Set.told" = true) (k15 : PySem.W.keepIn K (.ref f15) = true)
    (pg_Copy : PySem.W.plainGet K C_Copy Str.empty = true)
    (hd_Copy : PySem.W.hasDictIn K C_Copy = true)
    (po_Copy : PySem.W.plainOver K C_Copy = true)
    (sa_Copy : PySem.W.findIn K (.ref C_Copy) "__setattr__" = some (some (.builtin "object.__setattr__")))
    (mk_Copy : PySem.W.makesIn K C_Copy = true)
    (kc_Copy : PySem.W.keepIn K (.ref C_Copy) = true)
    (n_Copy_box : PySem.W.findIn K (.ref C_Copy) "box" = some none)
    (n_Copy_one : PySem.W.findIn K (.ref C_Copy) "one" = some none)
    (a16 : PySem.W.findIn K (.ref C_Copy) "__init__" = some (some (.ref f16)))
    (i16 : PySem.W.isFn K (.ref f16) = true)
    (l16 : K.lookup f16 = some ⟨oc16, od16, .func (PySem.W.fnOf "__init__" "Copy.__init__" (defArgs s_Copy_init) (defBody s_Copy_init) (defScope s_Copy_init) .none kV16 dc16 pm16 an16 cd16 ct16), sl16⟩)
    (c16 : PySem.W.codeIn K cd16 "Copy.__init__" = true) (k16 : PySem.W.keepIn K (.ref f16) = true)
    (a17 : PySem.W.findIn K (.ref C_Copy) "laid" = some (some (.ref f17)))
    (i17 : PySem.W.isFn K (.ref f17) = true)
    (l17 : K.lookup f17 = some ⟨oc17, od17, .func (PySem.W.fnOf "laid" "Row.laid" (defArgs s_Row_laid) (defBody s_Row_laid) (defScope s_Row_laid) .none kV17 dc17 pm17 an17 cd17 ct17), sl17⟩)
    (c17 : PySem.W.codeIn K cd17 "Row.laid" = true) (k17 : PySem.W.keepIn K (.ref f17) = true)
    (a18 : PySem.W.findIn K (.ref C_Copy) "told" = some (some (.ref f18)))
    (i18 : PySem.W.isFn K (.ref f18) = true)
    (l18 : K.lookup f18 = some ⟨oc18, od18, .func (PySem.W.fnOf "told" "Copy.told" (defArgs s_Copy_told) (defBody s_Copy_told) (defScope s_Copy_told) .none kV18 dc18 pm18 an18 cd18 ct18), sl18⟩)
    (c18 : PySem.W.codeIn K cd18 "Copy.told" = true) (k18 : PySem.W.keepIn K (.ref f18) = true)
    (pg_Add : PySem.W.plainGet K C_Add Str.empty = true)
    (hd_Add : PySem.W.hasDictIn K C_Add = true)
    (po_Add : PySem.W.plainOver K C_Add = true)
    (sa_Add : PySem.W.findIn K (.ref C_Add) "__setattr__" = some (some (.builtin "object.__setattr__")))
    (mk_Add : PySem.W.makesIn K C_Add = true)
    (kc_Add : PySem.W.keepIn K (.ref C_Add) = true)
    (n_Add_box : PySem.W.findIn K (.ref C_Add) "box" = some none)
    (n_Add_one : PySem.W.findIn K (.ref C_Add) "one" = some none)
    (n_Add_other : PySem.W.findIn K (.ref C_Add) "other" = some none)
    (a19 : PySem.W.findIn K (.ref C_Add) "__init__" = some (some (.ref f19)))
    (i19 : PySem.W.isFn K (.ref f19) = true)
    (l19 : K.lookup f19 = some ⟨oc19, od19, .func (PySem.W.fnOf "__init__" "Reckoning.__init__" (defArgs s_Reckoning_init) (defBody s_Reckoning_init) (defScope s_Reckoning_init) .none kV19 dc19 pm19 an19 cd19 ct19), sl19⟩)
    (c19 : PySem.W.codeIn K cd19 "Reckoning.__init__" = true) (k19 : PySem.W.keepIn K (.ref f19) = true)
    (a20 : PySem.W.findIn K (.ref C_Add) "laid" = some (some (.ref f20)))
    (i20 : PySem.W.isFn K (.ref f20) = true)
    (l20 : K.lookup f20 = some ⟨oc20, od20, .func (PySem.W.fnOf "laid" "Row.laid" (defArgs s_Row_laid) (defBody s_Row_laid) (defScope s_Row_laid) .none kV20 dc20 pm20 an20 cd20 ct20), sl20⟩)
    (c20 : PySem.W.codeIn K cd20 "Row.laid" = true) (k20 : PySem.W.keepIn K (.ref f20) = true)
    (a21 : PySem.W.findIn K (.ref C_Add) "told" = some (some (.ref f21)))
    (i21 : PySem.W.isFn K (.ref f21) = true)
    (l21 : K.lookup f21 = some ⟨oc21, od21, .func (PySem.W.fnOf "told" "Add.told" (defArgs s_Add_told) (defBody s_Add_told) (defScope s_Add_told) .none kV21 dc21 pm21 an21 cd21 ct21), sl21⟩)
    (c21 : PySem.W.codeIn K cd21 "Add.told" = true) (k21 : PySem.W.keepIn K (.ref f21) = true)
    (pg_Sub : PySem.W.plainGet K C_Sub Str.empty = true)
    (hd_Sub : PySem.W.hasDictIn K C_Sub = true)
    (po_Sub : PySem.W.plainOver K C_Sub = true)
    (sa_Sub : PySem.W.findIn K (.ref C_Sub) "__setattr__" = some (some (.builtin "object.__setattr__")))
    (mk_Sub : PySem.W.makesIn K C_Sub = true)
    (kc_Sub : PySem.W.keepIn K (.ref C_Sub) = true)
    (n_Sub_box : PySem.W.findIn K (.ref C_Sub) "box" = some none)
    (n_Sub_one : PySem.W.findIn K (.ref C_Sub) "one" = some none)
    (n_Sub_other : PySem.W.findIn K (.ref C_Sub) "other" = some none)
    (a22 : PySem.W.findIn K (.ref C_Sub) "__init__" = some (some (.ref f22)))
    (i22 : PySem.W.isFn K (.ref f22) = true)
    (l22 : K.lookup f22 = some ⟨oc22, od22, .func (PySem.W.fnOf "__init__" "Reckoning.__init__" (defArgs s_Reckoning_init) (defBody s_Reckoning_init) (defScope s_Reckoning_init) .none kV22 dc22 pm22 an22 cd22 ct22), sl22⟩)
    (c22 : PySem.W.codeIn K cd22 "Reckoning.__init__" = true) (k22 : PySem.W.keepIn K (.ref f22) = true)
    (a23 : PySem.W.findIn K (.ref C_Sub) "laid" = some (some (.ref f23)))
    (i23 : PySem.W.isFn K (.ref f23) = true)
    (l23 : K.lookup f23 = some ⟨oc23, od23, .func (PySem.W.fnOf "laid" "Row.laid" (defArgs s_Row_laid) (defBody s_Row_laid) (defScope s_Row_laid) .none kV23 dc23 pm23 an23 cd23 ct23), sl23⟩)
    (c23 : PySem.W.codeIn K cd23 "Row.laid" = true) (k23 : PySem.W.keepIn K (.ref f23) = true)
    (a24 : PySem.W.findIn K (.ref C_Sub) "told" = some (some (.ref f24)))
    (i24 : PySem.W.isFn K (.ref f24) = true)
    (l24 : K.lookup f24 = some ⟨oc24, od24, .func (PySem.W.fnOf "told" "Sub.told" (defArgs s_Sub_told) (defBody s_Sub_told) (defScope s_Sub_told) .none kV24 dc24 pm24 an24 cd24 ct24), sl24⟩)
    (c24 : PySem.W.codeIn K cd24 "Sub.told" = true) (k24 : PySem.W.keepIn K (.ref f24) = true)
    (pg_Mul : PySem.W.plainGet K C_Mul Str.empty = true)
    (hd_Mul : PySem.W.hasDictIn K C_Mul = true)
    (po_Mul : PySem.W.plainOver K C_Mul = true)
    (sa_Mul : PySem.W.findIn K (.ref C_Mul) "__setattr__" = some (some (.builtin "object.__setattr__")))
    (mk_Mul : PySem.W.makesIn K C_Mul = true)
    (kc_Mul : PySem.W.keepIn K (.ref C_Mul) = true)
    (n_Mul_box : PySem.W.findIn K (.ref C_Mul) "box" = some none)
    (n_Mul_one : PySem.W.findIn K (.ref C_Mul) "one" = some none)
    (n_Mul_other : PySem.W.findIn K (.ref C_Mul) "other" = some none)
    (a25 : PySem.W.findIn K (.ref C_Mul) "__init__" = some (some (.ref f25)))
    (i25 : PySem.W.isFn K (.ref f25) = true)
    (l25 : K.lookup f25 = some ⟨oc25, od25, .func (PySem.W.fnOf "__init__" "Reckoning.__init__" (defArgs s_Reckoning_init) (defBody s_Reckoning_init) (defScope s_Reckoning_init) .none kV25 dc25 pm25 an25 cd25 ct25), sl25⟩)
    (c25 : PySem.W.codeIn K cd25 "Reckoning.__init__" = true) (k25 : PySem.W.keepIn K (.ref f25) = true)
    (a26 : PySem.W.findIn K (.ref C_Mul) "laid" = some (some (.ref f26)))
    (i26 : PySem.W.isFn K (.ref f26) = true)
    (l26 : K.lookup f26 = some ⟨oc26, od26, .func (PySem.W.fnOf "laid" "Row.laid" (defArgs s_Row_laid) (defBody s_Row_laid) (defScope s_Row_laid) .none kV26 dc26 pm26 an26 cd26 ct26), sl26⟩)
    (c26 : PySem.W.codeIn K cd26 "Row.laid" = true) (k26 : PySem.W.keepIn K (.ref f26) = true)
    (a27 : PySem.W.findIn K (.ref C_Mul) "told" = some (some (.ref f27)))
    (i27 : PySem.W.isFn K (.ref f27) = true)
    (l27 : K.lookup f27 = some ⟨oc27, od27, .func (PySem.W.fnOf "told" "Mul.told" (defArgs s_Mul_told) (defBody s_Mul_told) (defScope s_Mul_told) .none kV27 dc27 pm27 an27 cd27 ct27), sl27⟩)
    (c27 : PySem.W.codeIn K cd27 "Mul.told" = true) (k27 : PySem.W.keepIn K (.ref f27) = true)
    (pg_Drop : PySem.W.plainGet K C_Drop Str.empty = true)
    (hd_Drop : PySem.W.hasDictIn K C_Drop = true)
    (po_Drop : PySem.W.plainOver K C_Drop = true)
    (sa_Drop : PySem.W.findIn K (.ref C_Drop) "__setattr__" = some (some (.builtin "object.__setattr__")))
    (mk_Drop : PySem.W.makesIn K C_Drop = true)
    (kc_Drop : PySem.W.keepIn K (.ref C_Drop) = true)
    (n_Drop_box : PySem.W.findIn K (.ref C_Drop) "box" = some none)
    (a28 : PySem.W.findIn K (.ref C_Drop) "__init__" = some (some (.ref f28)))
    (i28 : PySem.W.isFn K (.ref f28) = true)
    (l28 : K.lookup f28 = some ⟨oc28, od28, .func (PySem.W.fnOf "__init__" "Drop.__init__" (defArgs s_Drop_init) (defBody s_Drop_init) (defScope s_Drop_init) .none kV28 dc28 pm28 an28 cd28 ct28), sl28⟩)
    (c28 : PySem.W.codeIn K cd28 "Drop.__init__" = true) (k28 : PySem.W.keepIn K (.ref f28) = true)
    (a29 : PySem.W.findIn K (.ref C_Drop) "laid" = some (some (.ref f29)))
    (i29 : PySem.W.isFn K (.ref f29) = true)
    (l29 : K.lookup f29 = some ⟨oc29, od29, .func (PySem.W.fnOf "laid" "Row.laid" (defArgs s_Row_laid) (defBody s_Row_laid) (defScope s_Row_laid) .none kV29 dc29 pm29 an29 cd29 ct29), sl29⟩)
    (c29 : PySem.W.codeIn K cd29 "Row.laid" = true) (k29 : PySem.W.keepIn K (.ref f29) = true)
    (a30 : PySem.W.findIn K (.ref C_Drop) "told" = some (some (.ref f30)))
    (i30 : PySem.W.isFn K (.ref f30) = true)
    (l30 : K.lookup f30 = some ⟨oc30, od30, .func (PySem.W.fnOf "told" "Drop.told" (defArgs s_Drop_told) (defBody s_Drop_told) (defScope s_Drop_told) .none kV30 dc30 pm30 an30 cd30 ct30), sl30⟩)
    (c30 : PySem.W.codeIn K cd30 "Drop.told" = true) (k30 : PySem.W.keepIn K (.ref f30) = true)
    (pg_Grow : PySem.W.plainGet K C_Grow Str.empty = true)
    (hd_Grow : PySem.W.hasDictIn K C_Grow = true)
    (po_Grow : PySem.W.plainOver K C_Grow = true)
    (sa_Grow : PySem.W.findIn K (.ref C_Grow) "__setattr__" = some (some (.builtin "object.__setattr__")))
    (mk_Grow : PySem.W.makesIn K C_Grow = true)
    (kc_Grow : PySem.W.keepIn K (.ref C_Grow) = true)
    (n_Grow_many : PySem.W.findIn K (.ref C_Grow) "many" = some none)
    (a31 : PySem.W.findIn K (.ref C_Grow) "__init__" = some (some (.ref f31)))
    (i31 : PySem.W.isFn K (.ref f31) = true)
    (l31 : K.lookup f31 = some ⟨oc31, od31, .func (PySem.W.fnOf "__init__" "Grow.__init__" (defArgs s_Grow_init) (defBody s_Grow_init) (defScope s_Grow_init) .none kV31 dc31 pm31 an31 cd31 ct31), sl31⟩)
    (c31 : PySem.W.codeIn K cd31 "Grow.__init__" = true) (k31 : PySem.W.keepIn K (.ref f31) = true)
    (a32 : PySem.W.findIn K (.ref C_Grow) "laid" = some (some (.ref f32)))
    (i32 : PySem.W.isFn K (.ref f32) = true)
    (l32 : K.lookup f32 = some ⟨oc32, od32, .func (PySem.W.fnOf "laid" "Row.laid" (defArgs s_Row_laid) (defBody s_Row_laid) (defScope s_Row_laid) .none kV32 dc32 pm32 an32 cd32 ct32), sl32⟩)
    (c32 : PySem.W.codeIn K cd32 "Row.laid" = true) (k32 : PySem.W.keepIn K (.ref f32) = true)
    (a33 : PySem.W.findIn K (.ref C_Grow) "told" = some (some (.ref f33)))
    (i33 : PySem.W.isFn K (.ref f33) = true)
    (l33 : K.lookup f33 = some ⟨oc33, od33, .func (PySem.W.fnOf "told" "Grow.told" (defArgs s_Grow_told) (defBody s_Grow_told) (defScope s_Grow_told) .none kV33 dc33 pm33 an33 cd33 ct33), sl33⟩)
    (c33 : PySem.W.codeIn K cd33 "Grow.told" = true) (k33 : PySem.W.keepIn K (.ref f33) = true)
    (pg_Shrink : PySem.W.plainGet K C_Shrink Str.empty = true)
    (hd_Shrink : PySem.W.hasDictIn K C_Shrink = true)
    (po_Shrink : PySem.W.plainOver K C_Shrink = true)
    (sa_Shrink : PySem.W.findIn K (.ref C_Shrink) "__setattr__" = some (some (.builtin "object.__setattr__")))
    (mk_Shrink : PySem.W.makesIn K C_Shrink = true)
    (kc_Shrink : PySem.W.keepIn K (.ref C_Shrink) = true)
    (n_Shrink_many : PySem.W.findIn K (.ref C_Shrink) "many" = some none)
    (a34 : PySem.W.findIn K (.ref C_Shrink) "__init__" = some (some (.ref f34)))
    (i34 : PySem.W.isFn K (.ref f34) = true)
    (l34 : K.lookup f34 = some ⟨oc34, od34, .func (PySem.W.fnOf "__init__" "Shrink.__init__" (defArgs s_Shrink_init) (defBody s_Shrink_init) (defScope s_Shrink_init) .none kV34 dc34 pm34 an34 cd34 ct34), sl34⟩)
    (c34 : PySem.W.codeIn K cd34 "Shrink.__init__" = true) (k34 : PySem.W.keepIn K (.ref f34) = true)
    (a35 : PySem.W.findIn K (.ref C_Shrink) "laid" = some (some (.ref f35)))
    (i35 : PySem.W.isFn K (.ref f35) = true)
    (l35 : K.lookup f35 = some ⟨oc35, od35, .func (PySem.W.fnOf "laid" "Row.laid" (defArgs s_Row_laid) (defBody s_Row_laid) (defScope s_Row_laid) .none kV35 dc35 pm35 an35 cd35 ct35), sl35⟩)
    (c35 : PySem.W.codeIn K cd35 "Row.laid" = true) (k35 : PySem.W.keepIn K (.ref f35) = true)
    (a36 : PySem.W.findIn K (.ref C_Shrink) "told" = some (some (.ref f36)))
    (i36 : PySem.W.isFn K (.ref f36) = true)
    (l36 : K.lookup f36 = some ⟨oc36, od36, .func (PySem.W.fnOf "told" "Shrink.told" (defArgs s_Shrink_told) (defBody s_Shrink_told) (defScope s_Shrink_told) .none kV36 dc36 pm36 an36 cd36 ct36), sl36⟩)
    (c36 : PySem.W.codeIn K cd36 "Shrink.told" = true) (k36 : PySem.W.keepIn K (.ref f36) = true)
    (pg_Put : PySem.W.plainGet K C_Put Str.empty = true)
    (hd_Put : PySem.W.hasDictIn K C_Put = true)
    (po_Put : PySem.W.plainOver K C_Put = true)
    (sa_Put : PySem.W.findIn K (.ref C_Put) "__setattr__" = some (some (.builtin "object.__setattr__")))
    (mk_Put : PySem.W.makesIn K C_Put = true)
    (kc_Put : PySem.W.keepIn K (.ref C_Put) = true)
    (n_Put_box : PySem.W.findIn K (.ref C_Put) "box" = some none)
    (n_Put_cell : PySem.W.findIn K (.ref C_Put) "cell" = some none)
    (a37 : PySem.W.findIn K (.ref C_Put) "__init__" = some (some (.ref f37)))
    (i37 : PySem.W.isFn K (.ref f37) = true)
    (l37 : K.lookup f37 = some ⟨oc37, od37, .func (PySem.W.fnOf "__init__" "Reaching.__init__" (defArgs s_Reaching_init) (defBody s_Reaching_init) (defScope s_Reaching_init) .none kV37 dc37 pm37 an37 cd37 ct37), sl37⟩)
    (c37 : PySem.W.codeIn K cd37 "Reaching.__init__" = true) (k37 : PySem.W.keepIn K (.ref f37) = true)
    (a38 : PySem.W.findIn K (.ref C_Put) "laid" = some (some (.ref f38)))
    (i38 : PySem.W.isFn K (.ref f38) = true)
    (l38 : K.lookup f38 = some ⟨oc38, od38, .func (PySem.W.fnOf "laid" "Row.laid" (defArgs s_Row_laid) (defBody s_Row_laid) (defScope s_Row_laid) .none kV38 dc38 pm38 an38 cd38 ct38), sl38⟩)
    (c38 : PySem.W.codeIn K cd38 "Row.laid" = true) (k38 : PySem.W.keepIn K (.ref f38) = true)
    (a39 : PySem.W.findIn K (.ref C_Put) "told" = some (some (.ref f39)))
    (i39 : PySem.W.isFn K (.ref f39) = true)
    (l39 : K.lookup f39 = some ⟨oc39, od39, .func (PySem.W.fnOf "told" "Put.told" (defArgs s_Put_told) (defBody s_Put_told) (defScope s_Put_told) .none kV39 dc39 pm39 an39 cd39 ct39), sl39⟩)
    (c39 : PySem.W.codeIn K cd39 "Put.told" = true) (k39 : PySem.W.keepIn K (.ref f39) = true)
    (pg_Get : PySem.W.plainGet K C_Get Str.empty = true)
    (hd_Get : PySem.W.hasDictIn K C_Get = true)
    (po_Get : PySem.W.plainOver K C_Get = true)
    (sa_Get : PySem.W.findIn K (.ref C_Get) "__setattr__" = some (some (.builtin "object.__setattr__")))
    (mk_Get : PySem.W.makesIn K C_Get = true)
    (kc_Get : PySem.W.keepIn K (.ref C_Get) = true)
    (n_Get_box : PySem.W.findIn K (.ref C_Get) "box" = some none)
    (n_Get_cell : PySem.W.findIn K (.ref C_Get) "cell" = some none)
    (a40 : PySem.W.findIn K (.ref C_Get) "__init__" = some (some (.ref f40)))
    (i40 : PySem.W.isFn K (.ref f40) = true)
    (l40 : K.lookup f40 = some ⟨oc40, od40, .func (PySem.W.fnOf "__init__" "Reaching.__init__" (defArgs s_Reaching_init) (defBody s_Reaching_init) (defScope s_Reaching_init) .none kV40 dc40 pm40 an40 cd40 ct40), sl40⟩)
    (c40 : PySem.W.codeIn K cd40 "Reaching.__init__" = true) (k40 : PySem.W.keepIn K (.ref f40) = true)
    (a41 : PySem.W.findIn K (.ref C_Get) "laid" = some (some (.ref f41)))
    (i41 : PySem.W.isFn K (.ref f41) = true)
    (l41 : K.lookup f41 = some ⟨oc41, od41, .func (PySem.W.fnOf "laid" "Row.laid" (defArgs s_Row_laid) (defBody s_Row_laid) (defScope s_Row_laid) .none kV41 dc41 pm41 an41 cd41 ct41), sl41⟩)
    (c41 : PySem.W.codeIn K cd41 "Row.laid" = true) (k41 : PySem.W.keepIn K (.ref f41) = true)
    (a42 : PySem.W.findIn K (.ref C_Get) "told" = some (some (.ref f42)))
    (i42 : PySem.W.isFn K (.ref f42) = true)
    (l42 : K.lookup f42 = some ⟨oc42, od42, .func (PySem.W.fnOf "told" "Get.told" (defArgs s_Get_told) (defBody s_Get_told) (defScope s_Get_told) .none kV42 dc42 pm42 an42 cd42 ct42), sl42⟩)
    (c42 : PySem.W.codeIn K cd42 "Get.told" = true) (k42 : PySem.W.keepIn K (.ref f42) = true)
    (pg_Back : PySem.W.plainGet K C_Back Str.empty = true)
    (hd_Back : PySem.W.hasDictIn K C_Back = true)
    (po_Back : PySem.W.plainOver K C_Back = true)
    (sa_Back : PySem.W.findIn K (.ref C_Back) "__setattr__" = some (some (.builtin "object.__setattr__")))
    (mk_Back : PySem.W.makesIn K C_Back = true)
    (kc_Back : PySem.W.keepIn K (.ref C_Back) = true)
    (n_Back_box : PySem.W.findIn K (.ref C_Back) "box" = some none)
    (a43 : PySem.W.findIn K (.ref C_Back) "__init__" = some (some (.ref f43)))
    (i43 : PySem.W.isFn K (.ref f43) = true)
    (l43 : K.lookup f43 = some ⟨oc43, od43, .func (PySem.W.fnOf "__init__" "Back.__init__" (defArgs s_Back_init) (defBody s_Back_init) (defScope s_Back_init) .none kV43 dc43 pm43 an43 cd43 ct43), sl43⟩)
    (c43 : PySem.W.codeIn K cd43 "Back.__init__" = true) (k43 : PySem.W.keepIn K (.ref f43) = true)
    (a44 : PySem.W.findIn K (.ref C_Back) "laid" = some (some (.ref f44)))
    (i44 : PySem.W.isFn K (.ref f44) = true)
    (l44 : K.lookup f44 = some ⟨oc44, od44, .func (PySem.W.fnOf "laid" "Row.laid" (defArgs s_Row_laid) (defBody s_Row_laid) (defScope s_Row_laid) .none kV44 dc44 pm44 an44 cd44 ct44), sl44⟩)
    (c44 : PySem.W.codeIn K cd44 "Row.laid" = true) (k44 : PySem.W.keepIn K (.ref f44) = true)
    (a45 : PySem.W.findIn K (.ref C_Back) "told" = some (some (.ref f45)))
    (i45 : PySem.W.isFn K (.ref f45) = true)
    (l45 : K.lookup f45 = some ⟨oc45, od45, .func (PySem.W.fnOf "told" "Back.told" (defArgs s_Back_told) (defBody s_Back_told) (defScope s_Back_told) .none kV45 dc45 pm45 an45 cd45 ct45), sl45⟩)
    (c45 : PySem.W.codeIn K cd45 "Back.told" = true) (k45 : PySem.W.keepIn K (.ref f45) = true)
    (ha_Set : PySem.W.findIn K (.ref C_Set) "__class__" = some (some (.builtin "object.__class__"))) (hm_Set : PySem.W.mroIn K C_Set (.type "object") = some true)
    (is_Set_Set : PySem.W.kitOne K (.ref C_Set) (.ref C_Set) = some true)
    (is_Set_Copy : PySem.W.kitOne K (.ref C_Set) (.ref C_Copy) = some false)
    (is_Set_Add : PySem.W.kitOne K (.ref C_Set) (.ref C_Add) = some false)
    (is_Set_Sub : PySem.W.kitOne K (.ref C_Set) (.ref C_Sub) = some false)
    (is_Set_Mul : PySem.W.kitOne K (.ref C_Set) (.ref C_Mul) = some false)
    (is_Set_Less : PySem.W.kitOne K (.ref C_Set) (.ref C_Less) = some false)
    (is_Set_Grow : PySem.W.kitOne K (.ref C_Set) (.ref C_Grow) = some false)
    (is_Set_Shrink : PySem.W.kitOne K (.ref C_Set) (.ref C_Shrink) = some false)
    (is_Set_Put : PySem.W.kitOne K (.ref C_Set) (.ref C_Put) = some false)
    (is_Set_Get : PySem.W.kitOne K (.ref C_Set) (.ref C_Get) = some false)
    (is_Set_Jump : PySem.W.kitOne K (.ref C_Set) (.ref C_Jump) = some false)
    (is_Set_Branch : PySem.W.kitOne K (.ref C_Set) (.ref C_Branch) = some false)
    (is_Set_Call : PySem.W.kitOne K (.ref C_Set) (.ref C_Call) = some false)
    (is_Set_Back : PySem.W.kitOne K (.ref C_Set) (.ref C_Back) = some false)
    (is_Set_Drop : PySem.W.kitOne K (.ref C_Set) (.ref C_Drop) = some false)
    (is_Set_Row : PySem.W.kitOne K (.ref C_Set) (.ref C_Row) = some true)
    (ha_Copy : PySem.W.findIn K (.ref C_Copy) "__class__" = some (some (.builtin "object.__class__"))) (hm_Copy : PySem.W.mroIn K C_Copy (.type "object") = some true)
    (is_Copy_Set : PySem.W.kitOne K (.ref C_Copy) (.ref C_Set) = some false)
    (is_Copy_Copy : PySem.W.kitOne K (.ref C_Copy) (.ref C_Copy) = some true)
    (is_Copy_Add : PySem.W.kitOne K (.ref C_Copy) (.ref C_Add) = some false)
    (is_Copy_Sub : PySem.W.kitOne K (.ref C_Copy) (.ref C_Sub) = some false)
    (is_Copy_Mul : PySem.W.kitOne K (.ref C_Copy) (.ref C_Mul) = some false)
    (is_Copy_Less : PySem.W.kitOne K (.ref C_Copy) (.ref C_Less) = some false)
    (is_Copy_Grow : PySem.W.kitOne K (.ref C_Copy) (.ref C_Grow) = some false)
    (is_Copy_Shrink : PySem.W.kitOne K (.ref C_Copy) (.ref C_Shrink) = some false)
    (is_Copy_Put : PySem.W.kitOne K (.ref C_Copy) (.ref C_Put) = some false)
    (is_Copy_Get : PySem.W.kitOne K (.ref C_Copy) (.ref C_Get) = some false)
    (is_Copy_Jump : PySem.W.kitOne K (.ref C_Copy) (.ref C_Jump) = some false)
    (is_Copy_Branch : PySem.W.kitOne K (.ref C_Copy) (.ref C_Branch) = some false)
    (is_Copy_Call : PySem.W.kitOne K (.ref C_Copy) (.ref C_Call) = some false)
    (is_Copy_Back : PySem.W.kitOne K (.ref C_Copy) (.ref C_Back) = some false)
    (is_Copy_Drop : PySem.W.kitOne K (.ref C_Copy) (.ref C_Drop) = some false)
    (is_Copy_Row : PySem.W.kitOne K (.ref C_Copy) (.ref C_Row) = some true)
    (ha_Add : PySem.W.findIn K (.ref C_Add) "__class__" = some (some (.builtin "object.__class__"))) (hm_Add : PySem.W.mroIn K C_Add (.type "object") = some true)
    (is_Add_Set : PySem.W.kitOne K (.ref C_Add) (.ref C_Set) = some false)
    (is_Add_Copy : PySem.W.kitOne K (.ref C_Add) (.ref C_Copy) = some false)
    (is_Add_Add : PySem.W.kitOne K (.ref C_Add) (.ref C_Add) = some true)
    (is_Add_Sub : PySem.W.kitOne K (.ref C_Add) (.ref C_Sub) = some false)
    (is_Add_Mul : PySem.W.kitOne K (.ref C_Add) (.ref C_Mul) = some false)
    (is_Add_Less : PySem.W.kitOne K (.ref C_Add) (.ref C_Less) = some false)
    (is_Add_Grow : PySem.W.kitOne K (.ref C_Add) (.ref C_Grow) = some false)
    (is_Add_Shrink : PySem.W.kitOne K (.ref C_Add) (.ref C_Shrink) = some false)
    (is_Add_Put : PySem.W.kitOne K (.ref C_Add) (.ref C_Put) = some false)
    (is_Add_Get : PySem.W.kitOne K (.ref C_Add) (.ref C_Get) = some false)
    (is_Add_Jump : PySem.W.kitOne K (.ref C_Add) (.ref C_Jump) = some false)
    (is_Add_Branch : PySem.W.kitOne K (.ref C_Add) (.ref C_Branch) = some false)
    (is_Add_Call : PySem.W.kitOne K (.ref C_Add) (.ref C_Call) = some false)
    (is_Add_Back : PySem.W.kitOne K (.ref C_Add) (.ref C_Back) = some false)
    (is_Add_Drop : PySem.W.kitOne K (.ref C_Add) (.ref C_Drop) = some false)
    (is_Add_Row : PySem.W.kitOne K (.ref C_Add) (.ref C_Row) = some true)
    (ha_Sub : PySem.W.findIn K (.ref C_Sub) "__class__" = some (some (.builtin "object.__class__"))) (hm_Sub : PySem.W.mroIn K C_Sub (.type "object") = some true)
    (is_Sub_Set : PySem.W.kitOne K (.ref C_Sub) (.ref C_Set) = some false)
    (is_Sub_Copy : PySem.W.kitOne K (.ref C_Sub) (.ref C_Copy) = some false)
    (is_Sub_Add : PySem.W.kitOne K (.ref C_Sub) (.ref C_Add) = some false)
    (is_Sub_Sub : PySem.W.kitOne K (.ref C_Sub) (.ref C_Sub) = some true)
    (is_Sub_Mul : PySem.W.kitOne K (.ref C_Sub) (.ref C_Mul) = some false)
    (is_Sub_Less : PySem.W.kitOne K (.ref C_Sub) (.ref C_Less) = some false)
    (is_Sub_Grow : PySem.W.kitOne K (.ref C_Sub) (.ref C_Grow) = some false)
    (is_Sub_Shrink : PySem.W.kitOne K (.ref C_Sub) (.ref C_Shrink) = some false)
    (is_Sub_Put : PySem.W.kitOne K (.ref C_Sub) (.ref C_Put) = some false)
    (is_Sub_Get : PySem.W.kitOne K (.ref C_Sub) (.ref C_Get) = some false)
    (is_Sub_Jump : PySem.W.kitOne K (.ref C_Sub) (.ref C_Jump) = some false)
    (is_Sub_Branch : PySem.W.kitOne K (.ref C_Sub) (.ref C_Branch) = some false)
    (is_Sub_Call : PySem.W.kitOne K (.ref C_Sub) (.ref C_Call) = some false)
    (is_Sub_Back : PySem.W.kitOne K (.ref C_Sub) (.ref C_Back) = some false)
    (is_Sub_Drop : PySem.W.kitOne K (.ref C_Sub) (.ref C_Drop) = some false)
    (is_Sub_Row : PySem.W.kitOne K (.ref C_Sub) (.ref C_Row) = some true)
    (ha_Mul : PySem.W.findIn K (.ref C_Mul) "__class__" = some (some (.builtin "object.__class__"))) (hm_Mul : PySem.W.mroIn K C_Mul (.type "object") = some true)
    (is_Mul_Set : PySem.W.kitOne K (.ref C_Mul) (.ref C_Set) = some false)
    (is_Mul_Copy : PySem.W.kitOne K (.ref C_Mul) (.ref C_Copy) = some false)
    (is_Mul_Add : PySem.W.kitOne K (.ref C_Mul) (.ref C_Add) = some false)
    (is_Mul_Sub : PySem.W.kitOne K (.ref C_Mul) (.ref C_Sub) = some false)
    (is_Mul_Mul : PySem.W.kitOne K (.ref C_Mul) (.ref C_Mul) = some true)
    (is_Mul_Less : PySem.W.kitOne K (.ref C_Mul) (.ref C_Less) = some false)
    (is_Mul_Grow : PySem.W.kitOne K (.ref C_Mul) (.ref C_Grow) = some false)
    (is_Mul_Shrink : PySem.W.kitOne K (.ref C_Mul) (.ref C_Shrink) = some false)
    (is_Mul_Put : PySem.W.kitOne K (.ref C_Mul) (.ref C_Put) = some false)
    (is_Mul_Get : PySem.W.kitOne K (.ref C_Mul) (.ref C_Get) = some false)
    (is_Mul_Jump : PySem.W.kitOne K (.ref C_Mul) (.ref C_Jump) = some false)
    (is_Mul_Branch : PySem.W.kitOne K (.ref C_Mul) (.ref C_Branch) = some false)
    (is_Mul_Call : PySem.W.kitOne K (.ref C_Mul) (.ref C_Call) = some false)
    (is_Mul_Back : PySem.W.kitOne K (.ref C_Mul) (.ref C_Back) = some false)
    (is_Mul_Drop : PySem.W.kitOne K (.ref C_Mul) (.ref C_Drop) = some false)
    (is_Mul_Row : PySem.W.kitOne K (.ref C_Mul) (.ref C_Row) = some true)
    (ha_Less : PySem.W.findIn K (.ref C_Less) "__class__" = some (some (.builtin "object.__class__"))) (hm_Less : PySem.W.mroIn K C_Less (.type "object") = some true)
    (is_Less_Set : PySem.W.kitOne K (.ref C_Less) (.ref C_Set) = some false)
    (is_Less_Copy : PySem.W.kitOne K (.ref C_Less) (.ref C_Copy) = some false)
    (is_Less_Add : PySem.W.kitOne K (.ref C_Less) (.ref C_Add) = some false)
    (is_Less_Sub : PySem.W.kitOne K (.ref C_Less) (.ref C_Sub) = some false)
    (is_Less_Mul : PySem.W.kitOne K (.ref C_Less) (.ref C_Mul) = some false)
    (is_Less_Less : PySem.W.kitOne K (.ref C_Less) (.ref C_Less) = some true)
    (is_Less_Grow : PySem.W.kitOne K (.ref C_Less) (.ref C_Grow) = some false)
    (is_Less_Shrink : PySem.W.kitOne K (.ref C_Less) (.ref C_Shrink) = some false)
    (is_Less_Put : PySem.W.kitOne K (.ref C_Less) (.ref C_Put) = some false)
    (is_Less_Get : PySem.W.kitOne K (.ref C_Less) (.ref C_Get) = some false)
    (is_Less_Jump : PySem.W.kitOne K (.ref C_Less) (.ref C_Jump) = some false)
    (is_Less_Branch : PySem.W.kitOne K (.ref C_Less) (.ref C_Branch) = some false)
    (is_Less_Call : PySem.W.kitOne K (.ref C_Less) (.ref C_Call) = some false)
    (is_Less_Back : PySem.W.kitOne K (.ref C_Less) (.ref C_Back) = some false)
    (is_Less_Drop : PySem.W.kitOne K (.ref C_Less) (.ref C_Drop) = some false)
    (is_Less_Row : PySem.W.kitOne K (.ref C_Less) (.ref C_Row) = some true)
    (ha_Grow : PySem.W.findIn K (.ref C_Grow) "__class__" = some (some (.builtin "object.__class__"))) (hm_Grow : PySem.W.mroIn K C_Grow (.type "object") = some true)
    (is_Grow_Set : PySem.W.kitOne K (.ref C_Grow) (.ref C_Set) = some false)
    (is_Grow_Copy : PySem.W.kitOne K (.ref C_Grow) (.ref C_Copy) = some false)
    (is_Grow_Add : PySem.W.kitOne K (.ref C_Grow) (.ref C_Add) = some false)
    (is_Grow_Sub : PySem.W.kitOne K (.ref C_Grow) (.ref C_Sub) = some false)
    (is_Grow_Mul : PySem.W.kitOne K (.ref C_Grow) (.ref C_Mul) = some false)
    (is_Grow_Less : PySem.W.kitOne K (.ref C_Grow) (.ref C_Less) = some false)
    (is_Grow_Grow : PySem.W.kitOne K (.ref C_Grow) (.ref C_Grow) = some true)
    (is_Grow_Shrink : PySem.W.kitOne K (.ref C_Grow) (.ref C_Shrink) = some false)
    (is_Grow_Put : PySem.W.kitOne K (.ref C_Grow) (.ref C_Put) = some false)
    (is_Grow_Get : PySem.W.kitOne K (.ref C_Grow) (.ref C_Get) = some false)
    (is_Grow_Jump : PySem.W.kitOne K (.ref C_Grow) (.ref C_Jump) = some false)
    (is_Grow_Branch : PySem.W.kitOne K (.ref C_Grow) (.ref C_Branch) = some false)
    (is_Grow_Call : PySem.W.kitOne K (.ref C_Grow) (.ref C_Call) = some false)
    (is_Grow_Back : PySem.W.kitOne K (.ref C_Grow) (.ref C_Back) = some false)
    (is_Grow_Drop : PySem.W.kitOne K (.ref C_Grow) (.ref C_Drop) = some false)
    (is_Grow_Row : PySem.W.kitOne K (.ref C_Grow) (.ref C_Row) = some true)
    (ha_Shrink : PySem.W.findIn K (.ref C_Shrink) "__class__" = some (some (.builtin "object.__class__"))) (hm_Shrink : PySem.W.mroIn K C_Shrink (.type "object") = some true)
    (is_Shrink_Set : PySem.W.kitOne K (.ref C_Shrink) (.ref C_Set) = some false)
    (is_Shrink_Copy : PySem.W.kitOne K (.ref C_Shrink) (.ref C_Copy) = some false)
    (is_Shrink_Add : PySem.W.kitOne K (.ref C_Shrink) (.ref C_Add) = some false)
    (is_Shrink_Sub : PySem.W.kitOne K (.ref C_Shrink) (.ref C_Sub) = some false)
    (is_Shrink_Mul : PySem.W.kitOne K (.ref C_Shrink) (.ref C_Mul) = some false)
    (is_Shrink_Less : PySem.W.kitOne K (.ref C_Shrink) (.ref C_Less) = some false)
    (is_Shrink_Grow : PySem.W.kitOne K (.ref C_Shrink) (.ref C_Grow) = some false)
    (is_Shrink_Shrink : PySem.W.kitOne K (.ref C_Shrink) (.ref C_Shrink) = some true)
    (is_Shrink_Put : PySem.W.kitOne K (.ref C_Shrink) (.ref C_Put) = some false)
    (is_Shrink_Get : PySem.W.kitOne K (.ref C_Shrink) (.ref C_Get) = some false)
    (is_Shrink_Jump : PySem.W.kitOne K (.ref C_Shrink) (.ref C_Jump) = some false)
    (is_Shrink_Branch : PySem.W.kitOne K (.ref C_Shrink) (.ref C_Branch) = some false)
    (is_Shrink_Call : PySem.W.kitOne K (.ref C_Shrink) (.ref C_Call) = some false)
    (is_Shrink_Back : PySem.W.kitOne K (.ref C_Shrink) (.ref C_Back) = some false)
    (is_Shrink_Drop : PySem.W.kitOne K (.ref C_Shrink) (.ref C_Drop) = some false)
    (is_Shrink_Row : PySem.W.kitOne K (.ref C_Shrink) (.ref C_Row) = some true)
    (ha_Put : PySem.W.findIn K (.ref C_Put) "__class__" = some (some (.builtin "object.__class__"))) (hm_Put : PySem.W.mroIn K C_Put (.type "object") = some true)
    (is_Put_Set : PySem.W.kitOne K (.ref C_Put) (.ref C_Set) = some false)
    (is_Put_Copy : PySem.W.kitOne K (.ref C_Put) (.ref C_Copy) = some false)
    (is_Put_Add : PySem.W.kitOne K (.ref C_Put) (.ref C_Add) = some false)
    (is_Put_Sub : PySem.W.kitOne K (.ref C_Put) (.ref C_Sub) = some false)
    (is_Put_Mul : PySem.W.kitOne K (.ref C_Put) (.ref C_Mul) = some false)
    (is_Put_Less : PySem.W.kitOne K (.ref C_Put) (.ref C_Less) = some false)
    (is_Put_Grow : PySem.W.kitOne K (.ref C_Put) (.ref C_Grow) = some false)
    (is_Put_Shrink : PySem.W.kitOne K (.ref C_Put) (.ref C_Shrink) = some false)
    (is_Put_Put : PySem.W.kitOne K (.ref C_Put) (.ref C_Put) = some true)
    (is_Put_Get : PySem.W.kitOne K (.ref C_Put) (.ref C_Get) = some false)
    (is_Put_Jump : PySem.W.kitOne K (.ref C_Put) (.ref C_Jump) = some false)
    (is_Put_Branch : PySem.W.kitOne K (.ref C_Put) (.ref C_Branch) = some false)
    (is_Put_Call : PySem.W.kitOne K (.ref C_Put) (.ref C_Call) = some false)
    (is_Put_Back : PySem.W.kitOne K (.ref C_Put) (.ref C_Back) = some false)
    (is_Put_Drop : PySem.W.kitOne K (.ref C_Put) (.ref C_Drop) = some false)
    (is_Put_Row : PySem.W.kitOne K (.ref C_Put) (.ref C_Row) = some true)
    (ha_Get : PySem.W.findIn K (.ref C_Get) "__class__" = some (some (.builtin "object.__class__"))) (hm_Get : PySem.W.mroIn K C_Get (.type "object") = some true)
    (is_Get_Set : PySem.W.kitOne K (.ref C_Get) (.ref C_Set) = some false)
    (is_Get_Copy : PySem.W.kitOne K (.ref C_Get) (.ref C_Copy) = some false)
    (is_Get_Add : PySem.W.kitOne K (.ref C_Get) (.ref C_Add) = some false)
    (is_Get_Sub : PySem.W.kitOne K (.ref C_Get) (.ref C_Sub) = some false)
    (is_Get_Mul : PySem.W.kitOne K (.ref C_Get) (.ref C_Mul) = some false)
    (is_Get_Less : PySem.W.kitOne K (.ref C_Get) (.ref C_Less) = some false)
    (is_Get_Grow : PySem.W.kitOne K (.ref C_Get) (.ref C_Grow) = some false)
    (is_Get_Shrink : PySem.W.kitOne K (.ref C_Get) (.ref C_Shrink) = some false)
    (is_Get_Put : PySem.W.kitOne K (.ref C_Get) (.ref C_Put) = some false)
    (is_Get_Get : PySem.W.kitOne K (.ref C_Get) (.ref C_Get) = some true)
    (is_Get_Jump : PySem.W.kitOne K (.ref C_Get) (.ref C_Jump) = some false)
    (is_Get_Branch : PySem.W.kitOne K (.ref C_Get) (.ref C_Branch) = some false)
    (is_Get_Call : PySem.W.kitOne K (.ref C_Get) (.ref C_Call) = some false)
    (is_Get_Back : PySem.W.kitOne K (.ref C_Get) (.ref C_Back) = some false)
    (is_Get_Drop : PySem.W.kitOne K (.ref C_Get) (.ref C_Drop) = some false)
    (is_Get_Row : PySem.W.kitOne K (.ref C_Get) (.ref C_Row) = some true)
    (ha_Jump : PySem.W.findIn K (.ref C_Jump) "__class__" = some (some (.builtin "object.__class__"))) (hm_Jump : PySem.W.mroIn K C_Jump (.type "object") = some true)
    (is_Jump_Set : PySem.W.kitOne K (.ref C_Jump) (.ref C_Set) = some false)
    (is_Jump_Copy : PySem.W.kitOne K (.ref C_Jump) (.ref C_Copy) = some false)
    (is_Jump_Add : PySem.W.kitOne K (.ref C_Jump) (.ref C_Add) = some false)
    (is_Jump_Sub : PySem.W.kitOne K (.ref C_Jump) (.ref C_Sub) = some false)
    (is_Jump_Mul : PySem.W.kitOne K (.ref C_Jump) (.ref C_Mul) = some false)
    (is_Jump_Less : PySem.W.kitOne K (.ref C_Jump) (.ref C_Less) = some false)
    (is_Jump_Grow : PySem.W.kitOne K (.ref C_Jump) (.ref C_Grow) = some false)
    (is_Jump_Shrink : PySem.W.kitOne K (.ref C_Jump) (.ref C_Shrink) = some false)
    (is_Jump_Put : PySem.W.kitOne K (.ref C_Jump) (.ref C_Put) = some false)
    (is_Jump_Get : PySem.W.kitOne K (.ref C_Jump) (.ref C_Get) = some false)
    (is_Jump_Jump : PySem.W.kitOne K (.ref C_Jump) (.ref C_Jump) = some true)
    (is_Jump_Branch : PySem.W.kitOne K (.ref C_Jump) (.ref C_Branch) = some false)
    (is_Jump_Call : PySem.W.kitOne K (.ref C_Jump) (.ref C_Call) = some false)
    (is_Jump_Back : PySem.W.kitOne K (.ref C_Jump) (.ref C_Back) = some false)
    (is_Jump_Drop : PySem.W.kitOne K (.ref C_Jump) (.ref C_Drop) = some false)
    (is_Jump_Row : PySem.W.kitOne K (.ref C_Jump) (.ref C_Row) = some true)
    (ha_Branch : PySem.W.findIn K (.ref C_Branch) "__class__" = some (some (.builtin "object.__class__"))) (hm_Branch : PySem.W.mroIn K C_Branch (.type "object") = some true)
    (is_Branch_Set : PySem.W.kitOne K (.ref C_Branch) (.ref C_Set) = some false)
    (is_Branch_Copy : PySem.W.kitOne K (.ref C_Branch) (.ref C_Copy) = some false)
    (is_Branch_Add : PySem.W.kitOne K (.ref C_Branch) (.ref C_Add) = some false)
    (is_Branch_Sub : PySem.W.kitOne K (.ref C_Branch) (.ref C_Sub) = some false)
    (is_Branch_Mul : PySem.W.kitOne K (.ref C_Branch) (.ref C_Mul) = some false)
    (is_Branch_Less : PySem.W.kitOne K (.ref C_Branch) (.ref C_Less) = some false)
    (is_Branch_Grow : PySem.W.kitOne K (.ref C_Branch) (.ref C_Grow) = some false)
    (is_Branch_Shrink : PySem.W.kitOne K (.ref C_Branch) (.ref C_Shrink) = some false)
    (is_Branch_Put : PySem.W.kitOne K (.ref C_Branch) (.ref C_Put) = some false)
    (is_Branch_Get : PySem.W.kitOne K (.ref C_Branch) (.ref C_Get) = some false)
    (is_Branch_Jump : PySem.W.kitOne K (.ref C_Branch) (.ref C_Jump) = some false)
    (is_Branch_Branch : PySem.W.kitOne K (.ref C_Branch) (.ref C_Branch) = some true)
    (is_Branch_Call : PySem.W.kitOne K (.ref C_Branch) (.ref C_Call) = some false)
    (is_Branch_Back : PySem.W.kitOne K (.ref C_Branch) (.ref C_Back) = some false)
    (is_Branch_Drop : PySem.W.kitOne K (.ref C_Branch) (.ref C_Drop) = some false)
    (is_Branch_Row : PySem.W.kitOne K (.ref C_Branch) (.ref C_Row) = some true)
    (ha_Call : PySem.W.findIn K (.ref C_Call) "__class__" = some (some (.builtin "object.__class__"))) (hm_Call : PySem.W.mroIn K C_Call (.type "object") = some true)
    (is_Call_Set : PySem.W.kitOne K (.ref C_Call) (.ref C_Set) = some false)
    (is_Call_Copy : PySem.W.kitOne K (.ref C_Call) (.ref C_Copy) = some false)
    (is_Call_Add : PySem.W.kitOne K (.ref C_Call) (.ref C_Add) = some false)
    (is_Call_Sub : PySem.W.kitOne K (.ref C_Call) (.ref C_Sub) = some false)
    (is_Call_Mul : PySem.W.kitOne K (.ref C_Call) (.ref C_Mul) = some false)
    (is_Call_Less : PySem.W.kitOne K (.ref C_Call) (.ref C_Less) = some false)
    (is_Call_Grow : PySem.W.kitOne K (.ref C_Call) (.ref C_Grow) = some false)
    (is_Call_Shrink : PySem.W.kitOne K (.ref C_Call) (.ref C_Shrink) = some false)
    (is_Call_Put : PySem.W.kitOne K (.ref C_Call) (.ref C_Put) = some false)
    (is_Call_Get : PySem.W.kitOne K (.ref C_Call) (.ref C_Get) = some false)
    (is_Call_Jump : PySem.W.kitOne K (.ref C_Call) (.ref C_Jump) = some false)
    (is_Call_Branch : PySem.W.kitOne K (.ref C_Call) (.ref C_Branch) = some false)
    (is_Call_Call : PySem.W.kitOne K (.ref C_Call) (.ref C_Call) = some true)
    (is_Call_Back : PySem.W.kitOne K (.ref C_Call) (.ref C_Back) = some false)
    (is_Call_Drop : PySem.W.kitOne K (.ref C_Call) (.ref C_Drop) = some false)
    (is_Call_Row : PySem.W.kitOne K (.ref C_Call) (.ref C_Row) = some true)
    (ha_Back : PySem.W.findIn K (.ref C_Back) "__class__" = some (some (.builtin "object.__class__"))) (hm_Back : PySem.W.mroIn K C_Back (.type "object") = some true)
    (is_Back_Set : PySem.W.kitOne K (.ref C_Back) (.ref C_Set) = some false)
    (is_Back_Copy : PySem.W.kitOne K (.ref C_Back) (.ref C_Copy) = some false)
    (is_Back_Add : PySem.W.kitOne K (.ref C_Back) (.ref C_Add) = some false)
    (is_Back_Sub : PySem.W.kitOne K (.ref C_Back) (.ref C_Sub) = some false)
    (is_Back_Mul : PySem.W.kitOne K (.ref C_Back) (.ref C_Mul) = some false)
    (is_Back_Less : PySem.W.kitOne K (.ref C_Back) (.ref C_Less) = some false)
    (is_Back_Grow : PySem.W.kitOne K (.ref C_Back) (.ref C_Grow) = some false)
    (is_Back_Shrink : PySem.W.kitOne K (.ref C_Back) (.ref C_Shrink) = some false)
    (is_Back_Put : PySem.W.kitOne K (.ref C_Back) (.ref C_Put) = some false)
    (is_Back_Get : PySem.W.kitOne K (.ref C_Back) (.ref C_Get) = some false)
    (is_Back_Jump : PySem.W.kitOne K (.ref C_Back) (.ref C_Jump) = some false)
    (is_Back_Branch : PySem.W.kitOne K (.ref C_Back) (.ref C_Branch) = some false)
    (is_Back_Call : PySem.W.kitOne K (.ref C_Back) (.ref C_Call) = some false)
    (is_Back_Back : PySem.W.kitOne K (.ref C_Back) (.ref C_Back) = some true)
    (is_Back_Drop : PySem.W.kitOne K (.ref C_Back) (.ref C_Drop) = some false)
    (is_Back_Row : PySem.W.kitOne K (.ref C_Back) (.ref C_Row) = some true)
    (ha_Drop : PySem.W.findIn K (.ref C_Drop) "__class__" = some (some (.builtin "object.__class__"))) (hm_Drop : PySem.W.mroIn K C_Drop (.type "object") = some true)
    (is_Drop_Set : PySem.W.kitOne K (.ref C_Drop) (.ref C_Set) = some false)
    (is_Drop_Copy : PySem.W.kitOne K (.ref C_Drop) (.ref C_Copy) = some false)
    (is_Drop_Add : PySem.W.kitOne K (.ref C_Drop) (.ref C_Add) = some false)
    (is_Drop_Sub : PySem.W.kitOne K (.ref C_Drop) (.ref C_Sub) = some false)
    (is_Drop_Mul : PySem.W.kitOne K (.ref C_Drop) (.ref C_Mul) = some false)
    (is_Drop_Less : PySem.W.kitOne K (.ref C_Drop) (.ref C_Less) = some false)
    (is_Drop_Grow : PySem.W.kitOne K (.ref C_Drop) (.ref C_Grow) = some false)
    (is_Drop_Shrink : PySem.W.kitOne K (.ref C_Drop) (.ref C_Shrink) = some false)
    (is_Drop_Put : PySem.W.kitOne K (.ref C_Drop) (.ref C_Put) = some false)
    (is_Drop_Get : PySem.W.kitOne K (.ref C_Drop) (.ref C_Get) = some false)
    (is_Drop_Jump : PySem.W.kitOne K (.ref C_Drop) (.ref C_Jump) = some false)
    (is_Drop_Branch : PySem.W.kitOne K (.ref C_Drop) (.ref C_Branch) = some false)
    (is_Drop_Call : PySem.W.kitOne K (.ref C_Drop) (.ref C_Call) = some false)
    (is_Drop_Back : PySem.W.kitOne K (.ref C_Drop) (.ref C_Back) = some false)
    (is_Drop_Drop : PySem.W.kitOne K (.ref C_Drop) (.ref C_Drop) = some true)
    (is_Drop_Row : PySem.W.kitOne K (.ref C_Drop) (.ref C_Row) = some true)
    (ob1 : PySem.W.specialIn K (.builtin "object.__class__") "__get__" = some (some (.builtin "getset_descriptor.__get__"))) (ob2 : PySem.W.takesIn K (.builtin "object.__class__") = some true)
    (xe_NoRow : PySem.W.excIn K C_NoRow [.type "ValueError", .type "Exception", .type "BaseException", .type "object"] "ValueError.__new__" = true)
    (xa_NoRow : (PySem.W.clsIn K C_NoRow).isSome = true)
    (xb_NoRow : PySem.W.findIn K (.ref C_NoRow) "__getattribute__" = some (some (.builtin "BaseException.__getattribute__")))
    (xc_NoRow : PySem.W.findIn K (.ref C_NoRow) "__getattr__" = some none)
    (xd_NoRow : PySem.W.findIn K (.ref C_NoRow) "__class__" = some (some (.builtin "object.__class__")))
    (xf_NoRow : PySem.W.specialIn K (.builtin "object.__class__") "__get__" = some (some (.builtin "getset_descriptor.__get__")))
    (xg_NoRow : PySem.W.takesIn K (.builtin "object.__class__") = some true)
    (xh_NoRow : PySem.W.mroIn K C_NoRow (.type "object") = some true)
    (xi_NoRow : PySem.W.mroIn K C_NoRow (.type "BaseException") = some true)
    (is_NoRow_FrameError : PySem.W.kitOne K (.ref C_NoRow) (.ref C_FrameError) = some true)
    (is_NoRow_NoTable : PySem.W.kitOne K (.ref C_NoRow) (.ref C_NoTable) = some false)
    (k_tuple_tuple : PySem.W.kitOne K (.type "tuple") (.type "tuple") = some true)
    (a46 : PySem.W.nsIn K mainGlobals "bounded" = some (some (.ref f46)))
    (l46 : K.lookup f46 = some ⟨oc46, od46, .func (PySem.W.fnOf "bounded" "bounded" (defArgs s_bounded) (defBody s_bounded) (defScope s_bounded) .none kV46 dc46 pm46 an46 cd46 ct46), sl46⟩)
    (c46 : PySem.W.codeIn K cd46 "bounded" = true) (k46 : PySem.W.keepIn K (.ref f46) = true)
    (a47 : PySem.W.nsIn K mainGlobals "_law_cell_at" = some (some (.ref f47)))
    (l47 : K.lookup f47 = some ⟨oc47, od47, .func (PySem.W.fnOf "_law_cell_at" "_law_cell_at" (defArgs s_law_cell_at) (defBody s_law_cell_at) (defScope s_law_cell_at) .none kV47 dc47 pm47 an47 cd47 ct47), sl47⟩)
    (c47 : PySem.W.codeIn K cd47 "_law_cell_at" = true) (k47 : PySem.W.keepIn K (.ref f47) = true)
    (a48 : PySem.W.nsIn K mainGlobals "_law_filling" = some (some (.ref f48)))
    (l48 : K.lookup f48 = some ⟨oc48, od48, .func (PySem.W.fnOf "_law_filling" "_law_filling" (defArgs s_law_filling) (defBody s_law_filling) (defScope s_law_filling) .none kV48 dc48 pm48 an48 cd48 ct48), sl48⟩)
    (c48 : PySem.W.codeIn K cd48 "_law_filling" = true) (k48 : PySem.W.keepIn K (.ref f48) = true)
    (a49 : PySem.W.nsIn K mainGlobals "_law_plain" = some (some (.ref f49)))
    (l49 : K.lookup f49 = some ⟨oc49, od49, .func (PySem.W.fnOf "_law_plain" "_law_plain" (defArgs s_law_plain) (defBody s_law_plain) (defScope s_law_plain) .none kV49 dc49 pm49 an49 cd49 ct49), sl49⟩)
    (c49 : PySem.W.codeIn K cd49 "_law_plain" = true) (k49 : PySem.W.keepIn K (.ref f49) = true)
    (a50 : PySem.W.nsIn K mainGlobals "_law_aimed" = some (some (.ref f50)))
    (l50 : K.lookup f50 = some ⟨oc50, od50, .func (PySem.W.fnOf "_law_aimed" "_law_aimed" (defArgs s_law_aimed) (defBody s_law_aimed) (defScope s_law_aimed) .none kV50 dc50 pm50 an50 cd50 ct50), sl50⟩)
    (c50 : PySem.W.codeIn K cd50 "_law_aimed" = true) (k50 : PySem.W.keepIn K (.ref f50) = true)
    (a51 : PySem.W.nsIn K mainGlobals "_law_one_kind" = some (some (.ref f51)))
    (l51 : K.lookup f51 = some ⟨oc51, od51, .func (PySem.W.fnOf "_law_one_kind" "_law_one_kind" (defArgs s_law_one_kind) (defBody s_law_one_kind) (defScope s_law_one_kind) .none kV51 dc51 pm51 an51 cd51 ct51), sl51⟩)
    (c51 : PySem.W.codeIn K cd51 "_law_one_kind" = true) (k51 : PySem.W.keepIn K (.ref f51) = true)
    (a52 : PySem.W.nsIn K mainGlobals "_law_laid" = some (some (.ref f52)))
    (l52 : K.lookup f52 = some ⟨oc52, od52, .func (PySem.W.fnOf "_law_laid" "_law_laid" (defArgs s_law_laid) (defBody s_law_laid) (defScope s_law_laid) .none kV52 dc52 pm52 an52 cd52 ct52), sl52⟩)
    (c52 : PySem.W.codeIn K cd52 "_law_laid" = true) (k52 : PySem.W.keepIn K (.ref f52) = true)
    (a53 : PySem.W.nsIn K mainGlobals "_law_by" = some (some (.ref f53)))
    (l53 : K.lookup f53 = some ⟨oc53, od53, .func (PySem.W.fnOf "_law_by" "_law_by" (defArgs s_law_by) (defBody s_law_by) (defScope s_law_by) .none kV53 dc53 pm53 an53 cd53 ct53), sl53⟩)
    (c53 : PySem.W.codeIn K cd53 "_law_by" = true) (k53 : PySem.W.keepIn K (.ref f53) = true)
    (a54 : PySem.W.nsIn K mainGlobals "law" = some (some (.ref f54)))
    (l54 : K.lookup f54 = some ⟨oc54, od54, .func (PySem.W.fnOf "law" "law" (defArgs s_law) (defBody s_law) (defScope s_law) .none kV54 dc54 pm54 an54 cd54 ct54), sl54⟩)
    (c54 : PySem.W.codeIn K cd54 "law" = true) (k54 : PySem.W.keepIn K (.ref f54) = true) :
    ∃ (a : Adr) (fd : FuncData), Txt K mg a ∧ Fun K "law" "law" s_law fa fd ∧ ∀ (s : Shared) (v : Value), BindsTo s fd ⟨[v], []⟩ [("_law_script", v)] := by
  have e := hfa.symm.trans (PySem.W.mg_of X G a54)
  cases e
  refine ⟨⟨C_Row, C_Set, C_Copy, C_Add, C_Sub, C_Mul, C_Less, C_Grow, C_Shrink, C_Put, C_Get, C_Jump, C_Branch, C_Call, C_Back, C_Drop, 0, 0, C_FrameError, C_NoRow, C_NoTable, 0, 0, 0, 0, 0, 0, 0, 0, 0, 0, 0⟩, _, ?_, fun_mk (st := s_law) l54 c54 k54, fun s v => .of_eq rfl⟩
  exact {
    z_isinstance := PySem.W.mg_none_of X G z_isinstance
    z_len := PySem.W.mg_none_of X G z_len
    z_range := PySem.W.mg_none_of X G z_range
    z_tuple := PySem.W.mg_none_of X G z_tuple
    g_TOP_BOX := ⟨_, PySem.W.mg_of X G g_TOP_BOX⟩
    g_TOP_CELLS := ⟨_, PySem.W.mg_of X G g_TOP_CELLS⟩
    g_TOP_TARGET := ⟨_, PySem.W.mg_of X G g_TOP_TARGET⟩
    g_TOP_VALUE := ⟨_, PySem.W.mg_of X G g_TOP_VALUE⟩
    c_Add := PySem.W.mg_of X G c_Add
    c_Back := PySem.W.mg_of X G c_Back
    c_Branch := PySem.W.mg_of X G c_Branch
    c_Call := PySem.W.mg_of X G c_Call
    c_Copy := PySem.W.mg_of X G c_Copy
    c_Drop := PySem.W.mg_of X G c_Drop
    c_FrameError := PySem.W.mg_of X G c_FrameError
    c_Get := PySem.W.mg_of X G c_Get
    c_Grow := PySem.W.mg_of X G c_Grow
    c_Jump := PySem.W.mg_of X G c_Jump
    c_Less := PySem.W.mg_of X G c_Less
    c_Mul := PySem.W.mg_of X G c_Mul
    c_NoRow := PySem.W.mg_of X G c_NoRow
    c_NoTable := PySem.W.mg_of X G c_NoTable
    c_Put := PySem.W.mg_of X G c_Put
    c_Row := PySem.W.mg_of X G c_Row
    c_Set := PySem.W.mg_of X G c_Set
    c_Shrink := PySem.W.mg_of X G c_Shrink
    c_Sub := PySem.W.mg_of X G c_Sub
    cl_Jump := ⟨pg_Jump, hd_Jump, po_Jump, sa_Jump⟩
    n_Jump_target := n_Jump_target
    i_Jump := ⟨_, _, fun_mk (st := s_Jump_init) l1 c1 k1, ⟨mk_Jump, a1, i1, kc_Jump⟩, (fun_mk (st := s_Jump_init) l1 c1 k1).binds (ps := ["self", "target"]) fun _ _ _ _ _ _ us hl => match us, hl with | [_, _], _ => rfl⟩
    m_Jump_laid := ⟨_, _, fun_mk (st := s_Jump_laid) l2 c2 k2, ⟨a2, i2, k2⟩, (fun_mk (st := s_Jump_laid) l2 c2 k2).binds (ps := ["self", "by"]) fun _ _ _ _ _ _ us hl => match us, hl with | [_, _], _ => rfl⟩
    m_Jump_told := ⟨_, _, fun_mk (st := s_Jump_told) l3 c3 k3, ⟨a3, i3, k3⟩, (fun_mk (st := s_Jump_told) l3 c3 k3).binds (ps := ["self"]) fun _ _ _ _ _ _ us hl => match us, hl with | [_], _ => rfl⟩
    cl_Branch := ⟨pg_Branch, hd_Branch, po_Branch, sa_Branch⟩
    n_Branch_box := n_Branch_box
    n_Branch_target := n_Branch_target
    i_Branch := ⟨_, _, fun_mk (st := s_Branch_init) l4 c4 k4, ⟨mk_Branch, a4, i4, kc_Branch⟩, (fun_mk (st := s_Branch_init) l4 c4 k4).binds (ps := ["self", "box", "target"]) fun _ _ _ _ _ _ us hl => match us, hl with | [_, _, _], _ => rfl⟩
    m_Branch_laid := ⟨_, _, fun_mk (st := s_Branch_laid) l5 c5 k5, ⟨a5, i5, k5⟩, (fun_mk (st := s_Branch_laid) l5 c5 k5).binds (ps := ["self", "by"]) fun _ _ _ _ _ _ us hl => match us, hl with | [_, _], _ => rfl⟩
    m_Branch_told := ⟨_, _, fun_mk (st := s_Branch_told) l6 c6 k6, ⟨a6, i6, k6⟩, (fun_mk (st := s_Branch_told) l6 c6 k6).binds (ps := ["self"]) fun _ _ _ _ _ _ us hl => match us, hl with | [_], _ => rfl⟩
    cl_Call := ⟨pg_Call, hd_Call, po_Call, sa_Call⟩
    n_Call_target := n_Call_target
    i_Call := ⟨_, _, fun_mk (st := s_Call_init) l7 c7 k7, ⟨mk_Call, a7, i7, kc_Call⟩, (fun_mk (st := s_Call_init) l7 c7 k7).binds (ps := ["self", "target"]) fun _ _ _ _ _ _ us hl => match us, hl with | [_, _], _ => rfl⟩
    m_Call_laid := ⟨_, _, fun_mk (st := s_Call_laid) l8 c8 k8, ⟨a8, i8, k8⟩, (fun_mk (st := s_Call_laid) l8 c8 k8).binds (ps := ["self", "by"]) fun _ _ _ _ _ _ us hl => match us, hl with | [_, _], _ => rfl⟩
    m_Call_told := ⟨_, _, fun_mk (st := s_Call_told) l9 c9 k9, ⟨a9, i9, k9⟩, (fun_mk (st := s_Call_told) l9 c9 k9).binds (ps := ["self"]) fun _ _ _ _ _ _ us hl => match us, hl with | [_], _ => rfl⟩
    cl_Less := ⟨pg_Less, hd_Less, po_Less, sa_Less⟩
    n_Less_box := n_Less_box
    n_Less_one := n_Less_one
    n_Less_other := n_Less_other
    i_Less := ⟨_, _, fun_mk (st := s_Reckoning_init) l10 c10 k10, ⟨mk_Less, a10, i10, kc_Less⟩, (fun_mk (st := s_Reckoning_init) l10 c10 k10).binds (ps := ["self", "box", "one", "other"]) fun _ _ _ _ _ _ us hl => match us, hl with | [_, _, _, _], _ => rfl⟩
    m_Less_laid := ⟨_, _, fun_mk (st := s_Row_laid) l11 c11 k11, ⟨a11, i11, k11⟩, (fun_mk (st := s_Row_laid) l11 c11 k11).binds (ps := ["self", "by"]) fun _ _ _ _ _ _ us hl => match us, hl with | [_, _], _ => rfl⟩
    m_Less_told := ⟨_, _, fun_mk (st := s_Less_told) l12 c12 k12, ⟨a12, i12, k12⟩, (fun_mk (st := s_Less_told) l12 c12 k12).binds (ps := ["self"]) fun _ _ _ _ _ _ us hl => match us, hl with | [_], _ => rfl⟩
    cl_Set := ⟨pg_Set, hd_Set, po_Set, sa_Set⟩
    n_Set_box := n_Set_box
    n_Set_number := n_Set_number
    i_Set := ⟨_, _, fun_mk (st := s_Set_init) l13 c13 k13, ⟨mk_Set, a13, i13, kc_Set⟩, (fun_mk (st := s_Set_init) l13 c13 k13).binds (ps := ["self", "box", "number"]) fun _ _ _ _ _ _ us hl => match us, hl with | [_, _, _], _ => rfl⟩
    m_Set_laid := ⟨_, _, fun_mk (st := s_Row_laid) l14 c14 k14, ⟨a14, i14, k14⟩, (fun_mk (st := s_Row_laid) l14 c14 k14).binds (ps := ["self", "by"]) fun _ _ _ _ _ _ us hl => match us, hl with | [_, _], _ => rfl⟩
    m_Set_told := ⟨_, _, fun_mk (st := s_Set_told) l15 c15 k15, ⟨a15, i15, k15⟩, (fun_mk (st := s_Set_told) l15 c15 k15).binds (ps := ["self"]) fun _ _ _ _ _ _ us hl => match us, hl with | [_], _ => rfl⟩
    cl_Copy := ⟨pg_Copy, hd_Copy, po_Copy, sa_Copy⟩
    n_Copy_box := n_Copy_box
    n_Copy_one := n_Copy_one
    i_Copy := ⟨_, _, fun_mk (st := s_Copy_init) l16 c16 k16, ⟨mk_Copy, a16, i16, kc_Copy⟩, (fun_mk (st := s_Copy_init) l16 c16 k16).binds (ps := ["self", "box", "one"]) fun _ _ _ _ _ _ us hl => match us, hl with | [_, _, _], _ => rfl⟩
    m_Copy_laid := ⟨_, _, fun_mk (st := s_Row_laid) l17 c17 k17, ⟨a17, i17, k17⟩, (fun_mk (st := s_Row_laid) l17 c17 k17).binds (ps := ["self", "by"]) fun _ _ _ _ _ _ us hl => match us, hl with | [_, _], _ => rfl⟩
    m_Copy_told := ⟨_, _, fun_mk (st := s_Copy_told) l18 c18 k18, ⟨a18, i18, k18⟩, (fun_mk (st := s_Copy_told) l18 c18 k18).binds (ps := ["self"]) fun _ _ _ _ _ _ us hl => match us, hl with | [_], _ => rfl⟩
    cl_Add := ⟨pg_Add, hd_Add, po_Add, sa_Add⟩
    n_Add_box := n_Add_box
    n_Add_one := n_Add_one
    n_Add_other := n_Add_other
    i_Add := ⟨_, _, fun_mk (st := s_Reckoning_init) l19 c19 k19, ⟨mk_Add, a19, i19, kc_Add⟩, (fun_mk (st := s_Reckoning_init) l19 c19 k19).binds (ps := ["self", "box", "one", "other"]) fun _ _ _ _ _ _ us hl => match us, hl with | [_, _, _, _], _ => rfl⟩
    m_Add_laid := ⟨_, _, fun_mk (st := s_Row_laid) l20 c20 k20, ⟨a20, i20, k20⟩, (fun_mk (st := s_Row_laid) l20 c20 k20).binds (ps := ["self", "by"]) fun _ _ _ _ _ _ us hl => match us, hl with | [_, _], _ => rfl⟩
    m_Add_told := ⟨_, _, fun_mk (st := s_Add_told) l21 c21 k21, ⟨a21, i21, k21⟩, (fun_mk (st := s_Add_told) l21 c21 k21).binds (ps := ["self"]) fun _ _ _ _ _ _ us hl => match us, hl with | [_], _ => rfl⟩
    cl_Sub := ⟨pg_Sub, hd_Sub, po_Sub, sa_Sub⟩
    n_Sub_box := n_Sub_box
    n_Sub_one := n_Sub_one
    n_Sub_other := n_Sub_other
    i_Sub := ⟨_, _, fun_mk (st := s_Reckoning_init) l22 c22 k22, ⟨mk_Sub, a22, i22, kc_Sub⟩, (fun_mk (st := s_Reckoning_init) l22 c22 k22).binds (ps := ["self", "box", "one", "other"]) fun _ _ _ _ _ _ us hl => match us, hl with | [_, _, _, _], _ => rfl⟩
    m_Sub_laid := ⟨_, _, fun_mk (st := s_Row_laid) l23 c23 k23, ⟨a23, i23, k23⟩, (fun_mk (st := s_Row_laid) l23 c23 k23).binds (ps := ["self", "by"]) fun _ _ _ _ _ _ us hl => match us, hl with | [_, _], _ => rfl⟩
    m_Sub_told := ⟨_, _, fun_mk (st := s_Sub_told) l24 c24 k24, ⟨a24, i24, k24⟩, (fun_mk (st := s_Sub_told) l24 c24 k24).binds (ps := ["self"]) fun _ _ _ _ _ _ us hl => match us, hl with | [_], _ => rfl⟩
    cl_Mul := ⟨pg_Mul, hd_Mul, po_Mul, sa_Mul⟩
    n_Mul_box := n_Mul_box
    n_Mul_one := n_Mul_one
    n_Mul_other := n_Mul_other
    i_Mul := ⟨_, _, fun_mk (st := s_Reckoning_init) l25 c25 k25, ⟨mk_Mul, a25, i25, kc_Mul⟩, (fun_mk (st := s_Reckoning_init) l25 c25 k25).binds (ps := ["self", "box", "one", "other"]) fun _ _ _ _ _ _ us hl => match us, hl with | [_, _, _, _], _ => rfl⟩
    m_Mul_laid := ⟨_, _, fun_mk (st := s_Row_laid) l26 c26 k26, ⟨a26, i26, k26⟩, (fun_mk (st := s_Row_laid) l26 c26 k26).binds (ps := ["self", "by"]) fun _ _ _ _ _ _ us hl => match us, hl with | [_, _], _ => rfl⟩
    m_Mul_told := ⟨_, _, fun_mk (st := s_Mul_told) l27 c27 k27, ⟨a27, i27, k27⟩, (fun_mk (st := s_Mul_told) l27 c27 k27).binds (ps := ["self"]) fun _ _ _ _ _ _ us hl => match us, hl with | [_], _ => rfl⟩
    cl_Drop := ⟨pg_Drop, hd_Drop, po_Drop, sa_Drop⟩
    n_Drop_box := n_Drop_box
    i_Drop := ⟨_, _, fun_mk (st := s_Drop_init) l28 c28 k28, ⟨mk_Drop, a28, i28, kc_Drop⟩, (fun_mk (st := s_Drop_init) l28 c28 k28).binds (ps := ["self", "box"]) fun _ _ _ _ _ _ us hl => match us, hl with | [_, _], _ => rfl⟩
    m_Drop_laid := ⟨_, _, fun_mk (st := s_Row_laid) l29 c29 k29, ⟨a29, i29, k29⟩, (fun_mk (st := s_Row_laid) l29 c29 k29).binds (ps := ["self", "by"]) fun _ _ _ _ _ _ us hl => match us, hl with | [_, _], _ => rfl⟩
    m_Drop_told := ⟨_, _, fun_mk (st := s_Drop_told) l30 c30 k30, ⟨a30, i30, k30⟩, (fun_mk (st := s_Drop_told) l30 c30 k30).binds (ps := ["self"]) fun _ _ _ _ _ _ us hl => match us, hl with | [_], _ => rfl⟩
    cl_Grow := ⟨pg_Grow, hd_Grow, po_Grow, sa_Grow⟩
    n_Grow_many := n_Grow_many
    i_Grow := ⟨_, _, fun_mk (st := s_Grow_init) l31 c31 k31, ⟨mk_Grow, a31, i31, kc_Grow⟩, (fun_mk (st := s_Grow_init) l31 c31 k31).binds (ps := ["self", "many"]) fun _ _ _ _ _ _ us hl => match us, hl with | [_, _], _ => rfl⟩
    m_Grow_laid := ⟨_, _, fun_mk (st := s_Row_laid) l32 c32 k32, ⟨a32, i32, k32⟩, (fun_mk (st := s_Row_laid) l32 c32 k32).binds (ps := ["self", "by"]) fun _ _ _ _ _ _ us hl => match us, hl with | [_, _], _ => rfl⟩
    m_Grow_told := ⟨_, _, fun_mk (st := s_Grow_told) l33 c33 k33, ⟨a33, i33, k33⟩, (fun_mk (st := s_Grow_told) l33 c33 k33).binds (ps := ["self"]) fun _ _ _ _ _ _ us hl => match us, hl with | [_], _ => rfl⟩
    cl_Shrink := ⟨pg_Shrink, hd_Shrink, po_Shrink, sa_Shrink⟩
    n_Shrink_many := n_Shrink_many
    i_Shrink := ⟨_, _, fun_mk (st := s_Shrink_init) l34 c34 k34, ⟨mk_Shrink, a34, i34, kc_Shrink⟩, (fun_mk (st := s_Shrink_init) l34 c34 k34).binds (ps := ["self", "many"]) fun _ _ _ _ _ _ us hl => match us, hl with | [_, _], _ => rfl⟩
    m_Shrink_laid := ⟨_, _, fun_mk (st := s_Row_laid) l35 c35 k35, ⟨a35, i35, k35⟩, (fun_mk (st := s_Row_laid) l35 c35 k35).binds (ps := ["self", "by"]) fun _ _ _ _ _ _ us hl => match us, hl with | [_, _], _ => rfl⟩
    m_Shrink_told := ⟨_, _, fun_mk (st := s_Shrink_told) l36 c36 k36, ⟨a36, i36, k36⟩, (fun_mk (st := s_Shrink_told) l36 c36 k36).binds (ps := ["self"]) fun _ _ _ _ _ _ us hl => match us, hl with | [_], _ => rfl⟩
    cl_Put := ⟨pg_Put, hd_Put, po_Put, sa_Put⟩
    n_Put_box := n_Put_box
    n_Put_cell := n_Put_cell
    i_Put := ⟨_, _, fun_mk (st := s_Reaching_init) l37 c37 k37, ⟨mk_Put, a37, i37, kc_Put⟩, (fun_mk (st := s_Reaching_init) l37 c37 k37).binds (ps := ["self", "box", "cell"]) fun _ _ _ _ _ _ us hl => match us, hl with | [_, _, _], _ => rfl⟩
    m_Put_laid := ⟨_, _, fun_mk (st := s_Row_laid) l38 c38 k38, ⟨a38, i38, k38⟩, (fun_mk (st := s_Row_laid) l38 c38 k38).binds (ps := ["self", "by"]) fun _ _ _ _ _ _ us hl => match us, hl with | [_, _], _ => rfl⟩
    m_Put_told := ⟨_, _, fun_mk (st := s_Put_told) l39 c39 k39, ⟨a39, i39, k39⟩, (fun_mk (st := s_Put_told) l39 c39 k39).binds (ps := ["self"]) fun _ _ _ _ _ _ us hl => match us, hl with | [_], _ => rfl⟩
    cl_Get := ⟨pg_Get, hd_Get, po_Get, sa_Get⟩
    n_Get_box := n_Get_box
    n_Get_cell := n_Get_cell
    i_Get := ⟨_, _, fun_mk (st := s_Reaching_init) l40 c40 k40, ⟨mk_Get, a40, i40, kc_Get⟩, (fun_mk (st := s_Reaching_init) l40 c40 k40).binds (ps := ["self", "box", "cell"]) fun _ _ _ _ _ _ us hl => match us, hl with | [_, _, _], _ => rfl⟩
    m_Get_laid := ⟨_, _, fun_mk (st := s_Row_laid) l41 c41 k41, ⟨a41, i41, k41⟩, (fun_mk (st := s_Row_laid) l41 c41 k41).binds (ps := ["self", "by"]) fun _ _ _ _ _ _ us hl => match us, hl with | [_, _], _ => rfl⟩
    m_Get_told := ⟨_, _, fun_mk (st := s_Get_told) l42 c42 k42, ⟨a42, i42, k42⟩, (fun_mk (st := s_Get_told) l42 c42 k42).binds (ps := ["self"]) fun _ _ _ _ _ _ us hl => match us, hl with | [_], _ => rfl⟩
    cl_Back := ⟨pg_Back, hd_Back, po_Back, sa_Back⟩
    n_Back_box := n_Back_box
    i_Back := ⟨_, _, fun_mk (st := s_Back_init) l43 c43 k43, ⟨mk_Back, a43, i43, kc_Back⟩, (fun_mk (st := s_Back_init) l43 c43 k43).binds (ps := ["self", "box"]) fun _ _ _ _ _ _ us hl => match us, hl with | [_, _], _ => rfl⟩
    m_Back_laid := ⟨_, _, fun_mk (st := s_Row_laid) l44 c44 k44, ⟨a44, i44, k44⟩, (fun_mk (st := s_Row_laid) l44 c44 k44).binds (ps := ["self", "by"]) fun _ _ _ _ _ _ us hl => match us, hl with | [_, _], _ => rfl⟩
    m_Back_told := ⟨_, _, fun_mk (st := s_Back_told) l45 c45 k45, ⟨a45, i45, k45⟩, (fun_mk (st := s_Back_told) l45 c45 k45).binds (ps := ["self"]) fun _ _ _ _ _ _ us hl => match us, hl with | [_], _ => rfl⟩
    ty_Set := ⟨ha_Set, hm_Set⟩
    is_Set_Set := is_Set_Set
    is_Set_Copy := is_Set_Copy
    is_Set_Add := is_Set_Add
    is_Set_Sub := is_Set_Sub
    is_Set_Mul := is_Set_Mul
    is_Set_Less := is_Set_Less
    is_Set_Grow := is_Set_Grow
    is_Set_Shrink := is_Set_Shrink
    is_Set_Put := is_Set_Put
    is_Set_Get := is_Set_Get
    is_Set_Jump := is_Set_Jump
    is_Set_Branch := is_Set_Branch
    is_Set_Call := is_Set_Call
    is_Set_Back := is_Set_Back
    is_Set_Drop := is_Set_Drop
    is_Set_Row := is_Set_Row
    ty_Copy := ⟨ha_Copy, hm_Copy⟩
    is_Copy_Set := is_Copy_Set
    is_Copy_Copy := is_Copy_Copy
    is_Copy_Add := is_Copy_Add
    is_Copy_Sub := is_Copy_Sub
    is_Copy_Mul := is_Copy_Mul
    is_Copy_Less := is_Copy_Less
    is_Copy_Grow := is_Copy_Grow
    is_Copy_Shrink := is_Copy_Shrink
    is_Copy_Put := is_Copy_Put
    is_Copy_Get := is_Copy_Get
    is_Copy_Jump := is_Copy_Jump
    is_Copy_Branch := is_Copy_Branch
    is_Copy_Call := is_Copy_Call
    is_Copy_Back := is_Copy_Back
    is_Copy_Drop := is_Copy_Drop
    is_Copy_Row := is_Copy_Row
    ty_Add := ⟨ha_Add, hm_Add⟩
    is_Add_Set := is_Add_Set
    is_Add_Copy := is_Add_Copy
    is_Add_Add := is_Add_Add
    is_Add_Sub := is_Add_Sub
    is_Add_Mul := is_Add_Mul
    is_Add_Less := is_Add_Less
    is_Add_Grow := is_Add_Grow
    is_Add_Shrink := is_Add_Shrink
    is_Add_Put := is_Add_Put
    is_Add_Get := is_Add_Get
    is_Add_Jump := is_Add_Jump
    is_Add_Branch := is_Add_Branch
    is_Add_Call := is_Add_Call
    is_Add_Back := is_Add_Back
    is_Add_Drop := is_Add_Drop
    is_Add_Row := is_Add_Row
    ty_Sub := ⟨ha_Sub, hm_Sub⟩
    is_Sub_Set := is_Sub_Set
    is_Sub_Copy := is_Sub_Copy
    is_Sub_Add := is_Sub_Add
    is_Sub_Sub := is_Sub_Sub
    is_Sub_Mul := is_Sub_Mul
    is_Sub_Less := is_Sub_Less
    is_Sub_Grow := is_Sub_Grow
    is_Sub_Shrink := is_Sub_Shrink
    is_Sub_Put := is_Sub_Put
    is_Sub_Get := is_Sub_Get
    is_Sub_Jump := is_Sub_Jump
    is_Sub_Branch := is_Sub_Branch
    is_Sub_Call := is_Sub_Call
    is_Sub_Back := is_Sub_Back
    is_Sub_Drop := is_Sub_Drop
    is_Sub_Row := is_Sub_Row
    ty_Mul := ⟨ha_Mul, hm_Mul⟩
    is_Mul_Set := is_Mul_Set
    is_Mul_Copy := is_Mul_Copy
    is_Mul_Add := is_Mul_Add
    is_Mul_Sub := is_Mul_Sub
    is_Mul_Mul := is_Mul_Mul
    is_Mul_Less := is_Mul_Less
    is_Mul_Grow := is_Mul_Grow
    is_Mul_Shrink := is_Mul_Shrink
    is_Mul_Put := is_Mul_Put
    is_Mul_Get := is_Mul_Get
    is_Mul_Jump := is_Mul_Jump
    is_Mul_Branch := is_Mul_Branch
    is_Mul_Call := is_Mul_Call
    is_Mul_Back := is_Mul_Back
    is_Mul_Drop := is_Mul_Drop
    is_Mul_Row := is_Mul_Row
    ty_Less := ⟨ha_Less, hm_Less⟩
    is_Less_Set := is_Less_Set
    is_Less_Copy := is_Less_Copy
    is_Less_Add := is_Less_Add
    is_Less_Sub := is_Less_Sub
    is_Less_Mul := is_Less_Mul
    is_Less_Less := is_Less_Less
    is_Less_Grow := is_Less_Grow
    is_Less_Shrink := is_Less_Shrink
    is_Less_Put := is_Less_Put
    is_Less_Get := is_Less_Get
    is_Less_Jump := is_Less_Jump
    is_Less_Branch := is_Less_Branch
    is_Less_Call := is_Less_Call
    is_Less_Back := is_Less_Back
    is_Less_Drop := is_Less_Drop
    is_Less_Row := is_Less_Row
    ty_Grow := ⟨ha_Grow, hm_Grow⟩
    is_Grow_Set := is_Grow_Set
    is_Grow_Copy := is_Grow_Copy
    is_Grow_Add := is_Grow_Add
    is_Grow_Sub := is_Grow_Sub
    is_Grow_Mul := is_Grow_Mul
    is_Grow_Less := is_Grow_Less
    is_Grow_Grow := is_Grow_Grow
    is_Grow_Shrink := is_Grow_Shrink
    is_Grow_Put := is_Grow_Put
    is_Grow_Get := is_Grow_Get
    is_Grow_Jump := is_Grow_Jump
    is_Grow_Branch := is_Grow_Branch
    is_Grow_Call := is_Grow_Call
    is_Grow_Back := is_Grow_Back
    is_Grow_Drop := is_Grow_Drop
    is_Grow_Row := is_Grow_Row
    ty_Shrink := ⟨ha_Shrink, hm_Shrink⟩
    is_Shrink_Set := is_Shrink_Set
    is_Shrink_Copy := is_Shrink_Copy
    is_Shrink_Add := is_Shrink_Add
    is_Shrink_Sub := is_Shrink_Sub
    is_Shrink_Mul := is_Shrink_Mul
    is_Shrink_Less := is_Shrink_Less
    is_Shrink_Grow := is_Shrink_Grow
    is_Shrink_Shrink := is_Shrink_Shrink
    is_Shrink_Put := is_Shrink_Put
    is_Shrink_Get := is_Shrink_Get
    is_Shrink_Jump := is_Shrink_Jump
    is_Shrink_Branch := is_Shrink_Branch
    is_Shrink_Call := is_Shrink_Call
    is_Shrink_Back := is_Shrink_Back
    is_Shrink_Drop := is_Shrink_Drop
    is_Shrink_Row := is_Shrink_Row
    ty_Put := ⟨ha_Put, hm_Put⟩
    is_Put_Set := is_Put_Set
    is_Put_Copy := is_Put_Copy
    is_Put_Add := is_Put_Add
    is_Put_Sub := is_Put_Sub
    is_Put_Mul := is_Put_Mul
    is_Put_Less := is_Put_Less
    is_Put_Grow := is_Put_Grow
    is_Put_Shrink := is_Put_Shrink
    is_Put_Put := is_Put_Put
    is_Put_Get := is_Put_Get
    is_Put_Jump := is_Put_Jump
    is_Put_Branch := is_Put_Branch
    is_Put_Call := is_Put_Call
    is_Put_Back := is_Put_Back
    is_Put_Drop := is_Put_Drop
    is_Put_Row := is_Put_Row
    ty_Get := ⟨ha_Get, hm_Get⟩
    is_Get_Set := is_Get_Set
    is_Get_Copy := is_Get_Copy
    is_Get_Add := is_Get_Add
    is_Get_Sub := is_Get_Sub
    is_Get_Mul := is_Get_Mul
    is_Get_Less := is_Get_Less
    is_Get_Grow := is_Get_Grow
    is_Get_Shrink := is_Get_Shrink
    is_Get_Put := is_Get_Put
    is_Get_Get := is_Get_Get
    is_Get_Jump := is_Get_Jump
    is_Get_Branch := is_Get_Branch
    is_Get_Call := is_Get_Call
    is_Get_Back := is_Get_Back
    is_Get_Drop := is_Get_Drop
    is_Get_Row := is_Get_Row
    ty_Jump := ⟨ha_Jump, hm_Jump⟩
    is_Jump_Set := is_Jump_Set
    is_Jump_Copy := is_Jump_Copy
    is_Jump_Add := is_Jump_Add
    is_Jump_Sub := is_Jump_Sub
    is_Jump_Mul := is_Jump_Mul
    is_Jump_Less := is_Jump_Less
    is_Jump_Grow := is_Jump_Grow
    is_Jump_Shrink := is_Jump_Shrink
    is_Jump_Put := is_Jump_Put
    is_Jump_Get := is_Jump_Get
    is_Jump_Jump := is_Jump_Jump
    is_Jump_Branch := is_Jump_Branch
    is_Jump_Call := is_Jump_Call
    is_Jump_Back := is_Jump_Back
    is_Jump_Drop := is_Jump_Drop
    is_Jump_Row := is_Jump_Row
    ty_Branch := ⟨ha_Branch, hm_Branch⟩
    is_Branch_Set := is_Branch_Set
    is_Branch_Copy := is_Branch_Copy
    is_Branch_Add := is_Branch_Add
    is_Branch_Sub := is_Branch_Sub
    is_Branch_Mul := is_Branch_Mul
    is_Branch_Less := is_Branch_Less
    is_Branch_Grow := is_Branch_Grow
    is_Branch_Shrink := is_Branch_Shrink
    is_Branch_Put := is_Branch_Put
    is_Branch_Get := is_Branch_Get
    is_Branch_Jump := is_Branch_Jump
    is_Branch_Branch := is_Branch_Branch
    is_Branch_Call := is_Branch_Call
    is_Branch_Back := is_Branch_Back
    is_Branch_Drop := is_Branch_Drop
    is_Branch_Row := is_Branch_Row
    ty_Call := ⟨ha_Call, hm_Call⟩
    is_Call_Set := is_Call_Set
    is_Call_Copy := is_Call_Copy
    is_Call_Add := is_Call_Add
    is_Call_Sub := is_Call_Sub
    is_Call_Mul := is_Call_Mul
    is_Call_Less := is_Call_Less
    is_Call_Grow := is_Call_Grow
    is_Call_Shrink := is_Call_Shrink
    is_Call_Put := is_Call_Put
    is_Call_Get := is_Call_Get
    is_Call_Jump := is_Call_Jump
    is_Call_Branch := is_Call_Branch
    is_Call_Call := is_Call_Call
    is_Call_Back := is_Call_Back
    is_Call_Drop := is_Call_Drop
    is_Call_Row := is_Call_Row
    ty_Back := ⟨ha_Back, hm_Back⟩
    is_Back_Set := is_Back_Set
    is_Back_Copy := is_Back_Copy
    is_Back_Add := is_Back_Add
    is_Back_Sub := is_Back_Sub
    is_Back_Mul := is_Back_Mul
    is_Back_Less := is_Back_Less
    is_Back_Grow := is_Back_Grow
    is_Back_Shrink := is_Back_Shrink
    is_Back_Put := is_Back_Put
    is_Back_Get := is_Back_Get
    is_Back_Jump := is_Back_Jump
    is_Back_Branch := is_Back_Branch
    is_Back_Call := is_Back_Call
    is_Back_Back := is_Back_Back
    is_Back_Drop := is_Back_Drop
    is_Back_Row := is_Back_Row
    ty_Drop := ⟨ha_Drop, hm_Drop⟩
    is_Drop_Set := is_Drop_Set
    is_Drop_Copy := is_Drop_Copy
    is_Drop_Add := is_Drop_Add
    is_Drop_Sub := is_Drop_Sub
    is_Drop_Mul := is_Drop_Mul
    is_Drop_Less := is_Drop_Less
    is_Drop_Grow := is_Drop_Grow
    is_Drop_Shrink := is_Drop_Shrink
    is_Drop_Put := is_Drop_Put
    is_Drop_Get := is_Drop_Get
    is_Drop_Jump := is_Drop_Jump
    is_Drop_Branch := is_Drop_Branch
    is_Drop_Call := is_Drop_Call
    is_Drop_Back := is_Drop_Back
    is_Drop_Drop := is_Drop_Drop
    is_Drop_Row := is_Drop_Row
    ob1 := ob1
    ob2 := ob2
    x_NoRow := ⟨PySem.W.mg_of X G c_NoRow, xe_NoRow⟩
    xk_NoRow := ⟨xa_NoRow, xb_NoRow, xc_NoRow, xd_NoRow, xf_NoRow, xg_NoRow, xh_NoRow, xi_NoRow⟩
    is_NoRow_FrameError := is_NoRow_FrameError
    is_NoRow_NoTable := is_NoRow_NoTable
    k_tuple_tuple := k_tuple_tuple
    fn_bounded := ⟨_, _, fun_mk (st := s_bounded) l46 c46 k46, PySem.W.mg_of X G a46, (fun_mk (st := s_bounded) l46 c46 k46).binds (ps := ["number", "top"]) fun _ _ _ _ _ _ us hl => match us, hl with | [_, _], _ => rfl⟩
    fn_law_cell_at := ⟨_, _, fun_mk (st := s_law_cell_at) l47 c47 k47, PySem.W.mg_of X G a47, (fun_mk (st := s_law_cell_at) l47 c47 k47).binds (ps := ["_law_script", "_law_k"]) fun _ _ _ _ _ _ us hl => match us, hl with | [_, _], _ => rfl⟩
    fn_law_filling := ⟨_, _, fun_mk (st := s_law_filling) l48 c48 k48, PySem.W.mg_of X G a48, (fun_mk (st := s_law_filling) l48 c48 k48).binds (ps := ["_law_kind", "_law_some"]) fun _ _ _ _ _ _ us hl => match us, hl with | [_, _], _ => rfl⟩
    fn_law_plain := ⟨_, _, fun_mk (st := s_law_plain) l49 c49 k49, PySem.W.mg_of X G a49, (fun_mk (st := s_law_plain) l49 c49 k49).binds (ps := ["_law_kind", "_law_some"]) fun _ _ _ _ _ _ us hl => match us, hl with | [_, _], _ => rfl⟩
    fn_law_aimed := ⟨_, _, fun_mk (st := s_law_aimed) l50 c50 k50, PySem.W.mg_of X G a50, (fun_mk (st := s_law_aimed) l50 c50 k50).binds (ps := ["_law_kind", "_law_box", "_law_target"]) fun _ _ _ _ _ _ us hl => match us, hl with | [_, _, _], _ => rfl⟩
    fn_law_one_kind := ⟨_, _, fun_mk (st := s_law_one_kind) l51 c51 k51, PySem.W.mg_of X G a51, (fun_mk (st := s_law_one_kind) l51 c51 k51).binds (ps := ["_law_row", "_law_word"]) fun _ _ _ _ _ _ us hl => match us, hl with | [_, _], _ => rfl⟩
    fn_law_laid := ⟨_, _, fun_mk (st := s_law_laid) l52 c52 k52, PySem.W.mg_of X G a52, (fun_mk (st := s_law_laid) l52 c52 k52).binds (ps := ["_law_row", "_law_by_here"]) fun _ _ _ _ _ _ us hl => match us, hl with | [_, _], _ => rfl⟩
    fn_law_by := ⟨_, _, fun_mk (st := s_law_by) l53 c53 k53, PySem.W.mg_of X G a53, (fun_mk (st := s_law_by) l53 c53 k53).binds (ps := ["_law_cell", "_law_target"]) fun _ _ _ _ _ _ us hl => match us, hl with | [_, _], _ => rfl⟩
    fn_law := ⟨_, _, fun_mk (st := s_law) l54 c54 k54, PySem.W.mg_of X G a54, (fun_mk (st := s_law) l54 c54 k54).binds (ps := ["_law_script"]) fun _ _ _ _ _ _ us hl => match us, hl with | [_], _ => rfl⟩ }
theorem walk {l : PySem.W.OpenLaw} {q : Program} {loose : List Str} {XP : (Str → Option Value) → Heap → Prop} {YP : World → Heap → Prop} {d : DefRec} {K : Params → PySem.W.Frag} (hn : l.most = some 63) (hdf : d.params.defaults = [])
    (hY : ∀ (w : World) (h : Heap), YP w h → (K w.params).In h)
    (F : ∀ (w : World) (mg : Str → Option Value) (fa : Addr) (h : Heap), (K w.params).In h → h.Ns mainGlobals mg → mg d.name = some (.ref fa) →
      ∃ fd : FuncData, (∀ (s : Shared) (u : Value), BindsTo s fd ⟨[u], []⟩ [("_law_script", u)]) ∧ ∀ base : Heap, (K w.params).In base → base.Ns mainGlobals mg → FnOk l.prog w (K w.params) mg base CX0 6 fa fd ["_law_script"] (spLaw (K w.params))) :
    PySem.W.WalkO q loose XP YP l.row.toRowW d [] (fun f vs => PySem.call f vs) :=
  L2.walk_of (n := 63) (k := 6) (x := "_law_script") (CX := fun _ => CX0) (sp := fun w => spLaw (K w.params)) hn (by decide) hdf ⟨rfl, by decide, by decide⟩ hY F (fun _ _ a ns hl _ hS => ⟨a, ns, rfl, hS, hl, fun _ => rfl⟩) fun _ _ _ _ _ z => z
end FB
def PySem.W.Fast.tw11630583369201921566 : Nat := 0
def PySem.W.Fast.tw15766038732431637334 : Nat := 0
def PySem.W.Fast.tw10375970764941448886 : Nat := 0
def PySem.W.Fast.tw6347634286596529535 : Nat := 0
def PySem.W.Fast.tw16353658804699507848 : Nat := 0
def PySem.W.Fast.tw12028432125331745874 : Nat := 0
def PySem.W.Fast.tw1670701753085872685 : Nat := 0
def PySem.W.Fast.tw732686839767371084 : Nat := 0
def PySem.W.Fast.tw7332648931006777605 : Nat := 0
def PySem.W.Fast.tw6885045242060397294 : Nat := 0
def PySem.W.Fast.tw3029852182322629538 : Nat := 0
def PySem.W.Fast.tw17537323991758382483 : Nat := 0
def PySem.W.Fast.tw118844750981499265 : Nat := 0
def PySem.W.Fast.tw14261718691241714178 : Nat := 0
def PySem.W.Fast.tw16839343222544468608 : Nat := 0
def PySem.W.Fast.tw12001356056307842461 : Nat := 0
def PySem.W.Fast.tw7564091854524549578 : Nat := 0
def PySem.W.Fast.tw16496934637529555066 : Nat := 0
def PySem.W.Fast.tw3771406873907352398 : Nat := 0
def PySem.W.Fast.tw10430326637307010721 : Nat := 0
def PySem.W.Fast.tw5197631544967048040 : Nat := 0
def PySem.W.Fast.tw17324580487845436166 : Nat := 0
def PySem.W.Fast.tw3806744620483498683 : Nat := 0
def PySem.W.Fast.tw2479980596233549874 : Nat := 0
def PySem.W.Fast.tw11032109986555198227 : Nat := 0
def PySem.W.Fast.tw17924242254517783499 : Nat := 0
def PySem.W.Fast.tw13194927628682336213 : Nat := 0
def PySem.W.Fast.tw17981890353430873259 : Nat := 0
def PySem.W.Fast.tw11318523197006102774 : Nat := 0
def PySem.W.Fast.tw13695094708597012677 : Nat := 0
def PySem.W.Fast.tw8955191137026448027 : Nat := 0
def PySem.W.Fast.tw3242421595782570812 : Nat := 0
def PySem.W.Fast.tw7534822751052049504 : Nat := 0
def PySem.W.Fast.tw6505641483011350739 : Nat := 0
def PySem.W.Fast.tw1085614053680092881 : Nat := 0
def PySem.W.Fast.tw11858422479981361774 : Nat := 0
def PySem.W.Fast.tw14088673712426780744 : Nat := 0
def PySem.W.Fast.tw16226009111055053787 : Nat := 0
def PySem.W.Fast.tw9725172870516226510 : Nat := 0
def PySem.W.Fast.tw7820097588118240595 : Nat := 0
def PySem.W.Fast.tw2860882907273598432 : Nat := 0
def PySem.W.Fast.tw1035774036816866252 : Nat := 0
def PySem.W.Fast.tw3461020258259655228 : Nat := 0
def PySem.W.Fast.tw1451097969171435387 : Nat := 0
def PySem.W.Fast.tw11330541321708834009 : Nat := 0
def PySem.W.Fast.tw18315757041360987590 : Nat := 0
def PySem.W.Fast.tw17082709771067036409 : Nat := 0
def PySem.W.Fast.tw3218519803763079969 : Nat := 0
def PySem.W.Fast.tw2539473898462413646 : Nat := 0
def PySem.W.Fast.tw4505596634457035814 : Nat := 0
def PySem.W.Fast.tw14786382328288956918 : Nat := 0
def PySem.W.Fast.tw8620045017961292738 : Nat := 0
def PySem.W.Fast.tw3815100685855836374 : Nat := 0
def PySem.W.Fast.tw17140158074527089747 : Nat := 0
def PySem.W.Fast.tw2828367609501251939 : Nat := 0
def PySem.W.Fast.tw3887766916399055574 : Nat := 0
def PySem.W.Fast.tw10643800162697583387 : Nat := 0
def PySem.W.Fast.tw17441301619676322780 : Nat := 0
def PySem.W.Fast.tw7176290809652706336 : Nat := 0
def PySem.W.Fast.tw18038949366836347659 : Nat := 0
def PySem.W.Fast.tw8506935483422219015 : Nat := 0
def PySem.W.Fast.tw5181991241207104368 : Nat := 0
def PySem.W.Fast.tw10746192308168231883 : Nat := 0
def PySem.W.Fast.tw7566889015747259558 : Nat := 0
def PySem.W.Fast.tw1980115383540409650 : Nat := 0
def PySem.W.Fast.tw6130351136373506709 : Nat := 0
def PySem.W.Fast.tw8879580985169428656 : Nat := 0
def PySem.W.Fast.tw17061230142425944007 : Nat := 0
def PySem.W.Fast.tw16726043230723322788 : Nat := 0
def PySem.W.Fast.tw217584118694319651 : Nat := 0
def PySem.W.Fast.tw16369106211373153053 : Nat := 0
def PySem.W.Fast.tw3134234486217298775 : Nat := 0
def PySem.W.Fast.tw14277019797736406785 : Nat := 0
def PySem.W.Fast.tw17484034328939196492 : Nat := 0
def PySem.W.Fast.tw17779062453452690613 : Nat := 0
def PySem.W.Fast.tw4111935280240943688 : Nat := 0
def PySem.W.Fast.tw1393865346694885421 : Nat := 0
def PySem.W.Fast.tw5241500820740853401 : Nat := 0
def PySem.W.Fast.tw66542607403030437 : Nat := 0
def PySem.W.Fast.tw15723285244413629167 : Nat := 0
def PySem.W.Fast.tw607067253223820622 : Nat := 0
def PySem.W.Fast.tw17223001000527576589 : Nat := 0
def PySem.W.Fast.tw13226579704256581567 : Nat := 0
def PySem.W.Fast.tw15299412100029591564 : Nat := 0
def PySem.W.Fast.tw4994935682148467592 : Nat := 0
def PySem.W.Fast.tw1308412098119241772 : Nat := 0
def PySem.W.Fast.tw13941994631392721423 : Nat := 0
def PySem.W.Fast.tw9321586032420444639 : Nat := 0
def PySem.W.Fast.tw314330620027373858 : Nat := 0
def PySem.W.Fast.tw11678466185081192372 : Nat := 0
def PySem.W.Fast.tw8874408858869520799 : Nat := 0
def PySem.W.Fast.tw16802986466818802642 : Nat := 0
def PySem.W.Fast.tw16688535110362313237 : Nat := 0
def PySem.W.Fast.tw14949089240851131529 : Nat := 0
def PySem.W.Fast.tw1089468364749220576 : Nat := 0
def PySem.W.Fast.tw8948079922522674784 : Nat := 0
def PySem.W.Fast.tw14694877514509769245 : Nat := 0
def PySem.W.Fast.tw1675056488822128254 : Nat := 0
def PySem.W.Fast.tw2868666898466204345 : Nat := 0
def PySem.W.Fast.tw9381197036492438933 : Nat := 0
def PySem.W.Fast.tw14195851494423724950 : Nat := 0
def PySem.W.Fast.tw7982361625027493933 : Nat := 0
def PySem.W.Fast.tw8234733580771124326 : Nat := 0
def PySem.W.Fast.tw3580881489938869119 : Nat := 0
def PySem.W.Fast.tw16061970915055196587 : Nat := 0
def PySem.W.Fast.tw8696832267147946111 : Nat := 0
def PySem.W.Fast.tw4219718645538367529 : Nat := 0
def PySem.W.Fast.tw5278427257486326065 : Nat := 0
def PySem.W.Fast.tw4216068376726517312 : Nat := 0
def PySem.W.Fast.tw3791353613150244872 : Nat := 0
def PySem.W.Fast.tw8975773850742595968 : Nat := 0
def PySem.W.Fast.tw13547171963675579133 : Nat := 0
def PySem.W.Fast.tw17758710562770317722 : Nat := 0
def PySem.W.Fast.tw15271484586056999675 : Nat := 0
def PySem.W.Fast.tw7060348966276448126 : Nat := 0
def PySem.W.Fast.tw9927212252985085399 : Nat := 0
def PySem.W.Fast.tw2985241155975816593 : Nat := 0
def PySem.W.Fast.tw9382252685476539093 : Nat := 0
def PySem.W.Fast.tw12549103682046627436 : Nat := 0
def PySem.W.Fast.tw5220031653857414324 : Nat := 0
def PySem.W.Fast.tw11609327425726982365 : Nat := 0
def PySem.W.Fast.tw3204927445084307235 : Nat := 0
def PySem.W.Fast.tw3774413309304556469 : Nat := 0
def PySem.W.Fast.tw7574332381387389121 : Nat := 0
def PySem.W.Fast.tw4637859914833447716 : Nat := 0
def PySem.W.Fast.tw9925728312849386619 : Nat := 0
def PySem.W.Fast.tw13527816269318581828 : Nat := 0
def PySem.W.Fast.tw8187542169799205610 : Nat := 0
def PySem.W.Fast.tw9729861756098715348 : Nat := 0
def PySem.W.Fast.tw2970409784512073119 : Nat := 0
def PySem.W.Fast.tw1188983158717915289 : Nat := 0
def PySem.W.Fast.tw15633851311649458369 : Nat := 0
def PySem.W.Fast.tw10202834970720063150 : Nat := 0
def PySem.W.Fast.tw8994865468975155022 : Nat := 0
def PySem.W.Fast.tw13528143515140316224 : Nat := 0
def PySem.W.Fast.tw1774706949103816346 : Nat := 0
def PySem.W.Fast.tw2802481251920101017 : Nat := 0
def PySem.W.Fast.tw5752105000810304232 : Nat := 0
def PySem.W.Fast.tw16815095569276200441 : Nat := 0
def PySem.W.Fast.tw11692517690280444576 : Nat := 0
def PySem.W.Fast.tw121556241068934319 : Nat := 0
def PySem.W.Fast.tw5029528623001443891 : Nat := 0
def PySem.W.Fast.tw166502229270917715 : Nat := 0
def PySem.W.Fast.tw14764589514759547724 : Nat := 0
def PySem.W.Fast.tw3810714043875638690 : Nat := 0
def PySem.W.Fast.tw17481810270981348929 : Nat := 0
def PySem.W.Fast.tw6811752917822132401 : Nat := 0
def PySem.W.Fast.tw16128280256538826666 : Nat := 0
def PySem.W.Fast.tw3653279034359383554 : Nat := 0
def PySem.W.Fast.tw7512082155126047378 : Nat := 0
def PySem.W.Fast.tw1635378790828197388 : Nat := 0
def PySem.W.Fast.tw7755790318714611891 : Nat := 0
def PySem.W.Fast.tw11650327115648917860 : Nat := 0
def PySem.W.Fast.tw4745254702480176376 : Nat := 0
def PySem.W.Fast.tw16529836532430561698 : Nat := 0
def PySem.W.Fast.tw13460735627235295896 : Nat := 0
def PySem.W.Fast.tw7731217028246494816 : Nat := 0
def PySem.W.Fast.tw16950959027202584102 : Nat := 0
def PySem.W.Fast.tw1785607693936532243 : Nat := 0
def PySem.W.Fast.tw3250038550183032485 : Nat := 0
def PySem.W.Fast.tw16510290676081605055 : Nat := 0
def PySem.W.Fast.tw12143320379208959411 : Nat := 0
def PySem.W.Fast.tw14552473701964193212 : Nat := 0
def PySem.W.Fast.tw11137292754508382176 : Nat := 0
def PySem.W.Fast.tw8401242222710761363 : Nat := 0
def PySem.W.Fast.tw8930464270671205432 : Nat := 0
def PySem.W.Fast.tw639531594689830868 : Nat := 0
def PySem.W.Fast.tw2821354926544577412 : Nat := 0
def PySem.W.Fast.tw9918665326203669043 : Nat := 0
def PySem.W.Fast.tw12591675032427254664 : Nat := 0
def PySem.W.Fast.tw12101244601459539233 : Nat := 0
def PySem.W.Fast.tw8880642031655392452 : Nat := 0
def PySem.W.Fast.tw7414380349114757762 : Nat := 0
def PySem.W.Fast.tw4444384400984911274 : Nat := 0
def PySem.W.Fast.tw4696151533682884094 : Nat := 0
def PySem.W.Fast.tw6630624853849292084 : Nat := 0
def PySem.W.Fast.tw393898997188882834 : Nat := 0
def PySem.W.Fast.tw1833111223310598465 : Nat := 0
def PySem.W.Fast.tw4490927634790184274 : Nat := 0
def PySem.W.Fast.tw16441695660898512081 : Nat := 0
def PySem.W.Fast.tw15602972659566094355 : Nat := 0
def PySem.W.Fast.tw392703089879346217 : Nat := 0
def PySem.W.Fast.tw8736897129974530341 : Nat := 0
def PySem.W.Fast.tw7426950316252658 : Nat := 0
def PySem.W.Fast.tw9431848934824691182 : Nat := 0
def PySem.W.Fast.tw1812347519116998687 : Nat := 0
def PySem.W.Fast.tw18338253489195545221 : Nat := 0
def PySem.W.Fast.tw17200060770092103514 : Nat := 0
def PySem.W.Fast.tw3013190661783416869 : Nat := 0
def PySem.W.Fast.tw18049437784614462001 : Nat := 0
def PySem.W.Fast.tw734221745980439135 : Nat := 0
def PySem.W.Fast.tw632902662078581706 : Nat := 0
def PySem.W.Fast.tw5079277612099012414 : Nat := 0
def PySem.W.Fast.tw17749810161650801872 : Nat := 0
def PySem.W.Fast.tw5028602868055411479 : Nat := 0
def PySem.W.Fast.tw17390998538868874925 : Nat := 0
def PySem.W.Fast.tw4715600836165875314 : Nat := 0
def PySem.W.Fast.tw7018411115950115923 : Nat := 0
def PySem.W.Fast.tw17461548825212406793 : Nat := 0
def PySem.W.Fast.tw15882590661250879757 : Nat := 0
def PySem.W.Fast.tw4271835809424804876 : Nat := 0
def PySem.W.Fast.tw1111513315714077236 : Nat := 0
def PySem.W.Fast.tw8808438995933048570 : Nat := 0
def PySem.W.Fast.tw1846215069223901796 : Nat := 0
def PySem.W.Fast.tw6704530214929521785 : Nat := 0
def PySem.W.Fast.tw7925335526460530062 : Nat := 0
def PySem.W.Fast.tw10863703604475901599 : Nat := 0
def PySem.W.Fast.tw10053796558304175400 : Nat := 0
def PySem.W.Fast.tw12266626700279884464 : Nat := 0
def PySem.W.Fast.tw14346795523354570390 : Nat := 0
def PySem.W.Fast.tw4401709397869773730 : Nat := 0
def PySem.W.Fast.tw6385202439292509339 : Nat := 0
def PySem.W.Fast.tw5253673633657296563 : Nat := 0
def PySem.W.Fast.tw535436304020371891 : Nat := 0
def PySem.W.Fast.tw16015777053551725081 : Nat := 0
def PySem.W.Fast.tw9593025150398984045 : Nat := 0
def PySem.W.Fast.tw5434061874131213485 : Nat := 0
def PySem.W.Fast.tw9828747087881500755 : Nat := 0
def PySem.W.Fast.tw1995434496181609303 : Nat := 0
def PySem.W.Fast.tw13193875939877011069 : Nat := 0
def PySem.W.Fast.tw17916787401184140766 : Nat := 0
def PySem.W.Fast.tw13367004631498095872 : Nat := 0
def PySem.W.Fast.tw12673458385939524642 : Nat := 0
def PySem.W.Fast.tw15407698125934640810 : Nat := 0
def PySem.W.Fast.tw16250075912560908874 : Nat := 0
def PySem.W.Fast.tw13034285838826724037 : Nat := 0
def PySem.W.Fast.tw5083432757778647290 : Nat := 0
def PySem.W.Fast.tw14469995323572189189 : Nat := 0
def PySem.W.Fast.tw13442809938439852905 : Nat := 0
def PySem.W.Fast.tw17625835230585084602 : Nat := 0
def PySem.W.Fast.tw11161923172971102540 : Nat := 0
def PySem.W.Fast.tw4025022110347322635 : Nat := 0
def PySem.W.Fast.tw3631553047877202456 : Nat := 0
def PySem.W.Fast.tw9845986097170276782 : Nat := 0
def PySem.W.Fast.tw4985392078970242463 : Nat := 0
def PySem.W.Fast.tw12316294711393467953 : Nat := 0
def PySem.W.Fast.tw12029078373966595050 : Nat := 0
def PySem.W.Fast.tw16977569299313477792 : Nat := 0
def PySem.W.Fast.tw17291342516235418527 : Nat := 0
def PySem.W.Fast.tw9916381630068739153 : Nat := 0
def PySem.W.Fast.tw6281380098131257783 : Nat := 0
def PySem.W.Fast.tw17874355704192144990 : Nat := 0
def PySem.W.Fast.tw6916712803498593438 : Nat := 0
def PySem.W.Fast.tw10101180328822104067 : Nat := 0
def PySem.W.Fast.tw9744698993480972834 : Nat := 0
def PySem.W.Fast.tw15298740503522889889 : Nat := 0
def PySem.W.Fast.tw1931446075331868208 : Nat := 0
def PySem.W.Fast.tw16798315469062268037 : Nat := 0
def PySem.W.Fast.tw3231522748652871538 : Nat := 0
def PySem.W.Fast.tw4010550303345660506 : Nat := 0
def PySem.W.Fast.tw12437539284225448991 : Nat := 0
def PySem.W.Fast.tw5394365624316485057 : Nat := 0
def PySem.W.Fast.tw11481983984139319514 : Nat := 0
def PySem.W.Fast.tw17676174800851019162 : Nat := 0
def PySem.W.Fast.tw1931469871741120837 : Nat := 0
def PySem.W.Fast.tw9393748755768002856 : Nat := 0
def PySem.W.Fast.tw9698180361148231097 : Nat := 0
def PySem.W.Fast.tw206424311749800497 : Nat := 0
def PySem.W.Fast.tw7194177598985466203 : Nat := 0
def PySem.W.Fast.tw1233591716677136227 : Nat := 0
def PySem.W.Fast.tw13455097699215182514 : Nat := 0
def PySem.W.Fast.tw16873641447903748499 : Nat := 0
def PySem.W.Fast.tw10875108506856577752 : Nat := 0
def PySem.W.Fast.tw3463001842116317210 : Nat := 0
def PySem.W.Fast.tw439080603330466095 : Nat := 0
def PySem.W.Fast.tw7712679636289687917 : Nat := 0
def PySem.W.Fast.tw17237171142123756010 : Nat := 0
def PySem.W.Fast.tw7695592490875233510 : Nat := 0
def PySem.W.Fast.tw15574107312656701112 : Nat := 0
def PySem.W.Fast.tw14328536580545913397 : Nat := 0
def PySem.W.Fast.tw14127026263738214083 : Nat := 0
def PySem.W.Fast.tw12006174477439696576 : Nat := 0
def PySem.W.Fast.tw5062723546112868811 : Nat := 0
def PySem.W.Fast.tw4330619870657015821 : Nat := 0
def PySem.W.Fast.tw10627597533418585570 : Nat := 0
def PySem.W.Fast.tw15029366100426132642 : Nat := 0
def PySem.W.Fast.tw10772371306437564411 : Nat := 0
def PySem.W.Fast.tw3016070876105340490 : Nat := 0
def PySem.W.Fast.tw7201095745695993924 : Nat := 0
def PySem.W.Fast.tw5649671477734573503 : Nat := 0
def PySem.W.Fast.tw5569022362424951969 : Nat := 0
def PySem.W.Fast.tw4701899313899117348 : Nat := 0
def PySem.W.Fast.tw15207122327833649730 : Nat := 0
def PySem.W.Fast.tw17409686939062420535 : Nat := 0
def PySem.W.Fast.tw14161271217479325129 : Nat := 0
def PySem.W.Fast.tw3054157753292995949 : Nat := 0
def PySem.W.Fast.tw9246099462964065158 : Nat := 0
def PySem.W.Fast.tw9870216903102431926 : Nat := 0
def PySem.W.Fast.tw16434761781764034659 : Nat := 0
def PySem.W.Fast.tw16130404884232522703 : Nat := 0
def PySem.W.Fast.tw9713414317612296759 : Nat := 0
def PySem.W.Fast.tw4080525621418343221 : Nat := 0
def PySem.W.Fast.tw15370922062974050336 : Nat := 0
def PySem.W.Fast.tw7385700014641109829 : Nat := 0
def PySem.W.Fast.tw6674326556351199478 : Nat := 0
def PySem.W.Fast.tw14607321609776936935 : Nat := 0
def PySem.W.Fast.tw12519418157618444644 : Nat := 0
def PySem.W.Fast.tw15848092904428127466 : Nat := 0
def PySem.W.Fast.tw4148034786026933279 : Nat := 0
def PySem.W.Fast.tw11876963806403493309 : Nat := 0
def PySem.W.Fast.tw10271614739314104453 : Nat := 0
def PySem.W.Fast.tw1506190753382306055 : Nat := 0
def PySem.W.Fast.tw5530592262829198394 : Nat := 0
def PySem.W.Fast.tw11944120250545215838 : Nat := 0
def PySem.W.Fast.tw3168584353158210988 : Nat := 0
def PySem.W.Fast.tw16248616928243743100 : Nat := 0
def PySem.W.Fast.tw10362744602750071777 : Nat := 0
def PySem.W.Fast.tw13494547267111639083 : Nat := 0
def PySem.W.Fast.tw18172270663590515829 : Nat := 0
def PySem.W.Fast.tw13391842172704851967 : Nat := 0
def PySem.W.Fast.tw1727089856402072766 : Nat := 0
def PySem.W.Fast.tw16873078321510703339 : Nat := 0
def PySem.W.Fast.tw18027460317670441075 : Nat := 0
def PySem.W.Fast.tw16886166358779842500 : Nat := 0
def PySem.W.Fast.tw13390861543327107872 : Nat := 0
def PySem.W.Fast.tw7836609409254189369 : Nat := 0
def PySem.W.Fast.tw10468896000488920124 : Nat := 0
def PySem.W.Fast.tw164163052521835691 : Nat := 0
def PySem.W.Fast.tw7634269880580106445 : Nat := 0
def PySem.W.Fast.tw11493499187838094451 : Nat := 0
def PySem.W.Fast.tw15769610524247374635 : Nat := 0
def PySem.W.Fast.tw5076039885202831550 : Nat := 0
def PySem.W.Fast.tw16344101735150640978 : Nat := 0
def PySem.W.Fast.tw9428398236409012358 : Nat := 0
def PySem.W.Fast.tw14296267634713772083 : Nat := 0
def PySem.W.Fast.tw1445703250909481899 : Nat := 0
def PySem.W.Fast.tw7406840266076392891 : Nat := 0
def PySem.W.Fast.tw16148179076098737347 : Nat := 0
def PySem.W.Fast.tw6032697361020508620 : Nat := 0
def PySem.W.Fast.tw17763879525557863864 : Nat := 0
def PySem.W.Fast.tw3020912582790507635 : Nat := 0
def PySem.W.Fast.tw1484176950486124966 : Nat := 0
def PySem.W.Fast.tw10674725735222510705 : Nat := 0
def PySem.W.Fast.tw3208799225416869517 : Nat := 0
def PySem.W.Fast.tw5714773814360568734 : Nat := 0
def PySem.W.Fast.tw1779484932244494294 : Nat := 0
def PySem.W.Fast.tw5464940843967064508 : Nat := 0
def PySem.W.Fast.tw2077166939399906780 : Nat := 0
def PySem.W.Fast.tw10238733173865497308 : Nat := 0
def PySem.W.Fast.tw15383535949485632389 : Nat := 0
def PySem.W.Fast.tw10169065558138487219 : Nat := 0
def PySem.W.Fast.tw10718893389608073903 : Nat := 0
def PySem.W.Fast.tw17107089730567441991 : Nat := 0
def PySem.W.Fast.tw7309077292696209971 : Nat := 0
def PySem.W.Fast.tw13168862934854826610 : Nat := 0
def PySem.W.Fast.tw15337117171535527847 : Nat := 0
def PySem.W.Fast.tw12123282674059990753 : Nat := 0
def PySem.W.Fast.tw17880549620366084670 : Nat := 0
def PySem.W.Fast.tw14711641885780396536 : Nat := 0
def PySem.W.Fast.tw153130991528962936 : Nat := 0
def PySem.W.Fast.tw13004736692338547500 : Nat := 0
def PySem.W.Fast.tw15748420735427761210 : Nat := 0
def PySem.W.Fast.tw17233241842257612570 : Nat := 0
def PySem.W.Fast.tw17720649935452061500 : Nat := 0
def PySem.W.Fast.tw10231240967003709429 : Nat := 0
def PySem.W.Fast.tw1338499270913044065 : Nat := 0
def PySem.W.Fast.tw656178849489300419 : Nat := 0
def PySem.W.Fast.tw15721188305424627260 : Nat := 0
def PySem.W.Fast.tw10422149211170890256 : Nat := 0
def PySem.W.Fast.tw1340178811338336804 : Nat := 0
def PySem.W.Fast.tw3927881475188114880 : Nat := 0
def PySem.W.Fast.tw9886517122001197983 : Nat := 0
def PySem.W.Fast.tw2581505120035015038 : Nat := 0
def PySem.W.Fast.tw10356233988494030780 : Nat := 0
def PySem.W.Fast.tw247861653667007939 : Nat := 0
def PySem.W.Fast.tw1954879790115182802 : Nat := 0
def PySem.W.Fast.tw3227054081520308254 : Nat := 0
def PySem.W.Fast.tw2562230953588229607 : Nat := 0
def PySem.W.Fast.tw7693746522198976237 : Nat := 0
def PySem.W.Fast.tw13941351089582184598 : Nat := 0
def PySem.W.Fast.tw5145283814038271171 : Nat := 0
def PySem.W.Fast.tw639622461566729664 : Nat := 0
def PySem.W.Fast.tw11042619668126794581 : Nat := 0
def PySem.W.Fast.tw4165711606925776296 : Nat := 0
def PySem.W.Fast.tw2126846598067245245 : Nat := 0
def PySem.W.Fast.tw13062006073176060489 : Nat := 0
def PySem.W.Fast.tw6284013588770084590 : Nat := 0
def PySem.W.Fast.tw3292392585092475246 : Nat := 0
def PySem.W.Fast.tw18055257964972682318 : Nat := 0
def PySem.W.Fast.tw17295620731087057366 : Nat := 0
def PySem.W.Fast.tw7900915663304382390 : Nat := 0
def PySem.W.Fast.tw6451373643464769635 : Nat := 0
def PySem.W.Fast.tw7175345355595756066 : Nat := 0
def PySem.W.Fast.tw11737457205139703177 : Nat := 0
def PySem.W.Fast.tw4914434997935572275 : Nat := 0
def PySem.W.Fast.tw1774064641335778107 : Nat := 0
def PySem.W.Fast.tw6095987454739455696 : Nat := 0
def PySem.W.Fast.tw2365721101148093991 : Nat := 0
def PySem.W.Fast.tw15796399812613777341 : Nat := 0
def PySem.W.Fast.tw16366775574327032388 : Nat := 0
def PySem.W.Fast.tw14416402943920435918 : Nat := 0
def PySem.W.Fast.tw13607751795056220644 : Nat := 0
def PySem.W.Fast.tw1917346034751315987 : Nat := 0
def PySem.W.Fast.tw6736493174664774141 : Nat := 0
def PySem.W.Fast.tw10388715681053762864 : Nat := 0
def PySem.W.Fast.tw52051713737181058 : Nat := 0
def PySem.W.Fast.tw10741188177328527067 : Nat := 0
def PySem.W.Fast.tw12406614842176849050 : Nat := 0
def PySem.W.Fast.tw13131916344528401329 : Nat := 0
def PySem.W.Fast.tw1490614698301076542 : Nat := 0
def PySem.W.Fast.tw6622052947169936954 : Nat := 0
def PySem.W.Fast.tw12630587641557093054 : Nat := 0
def PySem.W.Fast.tw13870840718800849646 : Nat := 0
def PySem.W.Fast.tw16192517254991403212 : Nat := 0
def PySem.W.Fast.tw2396444285586603512 : Nat := 0
def PySem.W.Fast.tw15327387314812641714 : Nat := 0
def PySem.W.Fast.tw13624584329596665932 : Nat := 0
def PySem.W.Fast.tw18079533607315360430 : Nat := 0
def PySem.W.Fast.tw3315361181682241456 : Nat := 0
def PySem.W.Fast.tw4518582903577957755 : Nat := 0
def PySem.W.Fast.tw7933227669161622206 : Nat := 0
def PySem.W.Fast.tw12287964033073084434 : Nat := 0
def PySem.W.Fast.tw1500225239504701225 : Nat := 0
def PySem.W.Fast.tw13691848739658341584 : Nat := 0
def PySem.W.Fast.tw15129113235800095075 : Nat := 0
def PySem.W.Fast.tw2466201645937163294 : Nat := 0
def PySem.W.Fast.tw4594405325820074027 : Nat := 0
def PySem.W.Fast.tw11256179951497722810 : Nat := 0
def PySem.W.Fast.tw3777761141819958506 : Nat := 0
def PySem.W.Fast.tw17099099784714669606 : Nat := 0
def PySem.W.Fast.tw2518600803163570392 : Nat := 0
def PySem.W.Fast.tw14703079909180645424 : Nat := 0
def PySem.W.Fast.tw17496621116749196759 : Nat := 0
def PySem.W.Fast.tw6365681066955899038 : Nat := 0
def PySem.W.Fast.tw10826974677309135594 : Nat := 0
def PySem.W.Fast.tw1342091966921066013 : Nat := 0
def PySem.W.Fast.tw3140949787203325877 : Nat := 0
def PySem.W.Fast.tw4598890533255753215 : Nat := 0
def PySem.W.Fast.tw11308001378101052395 : Nat := 0
def PySem.W.Fast.tw8791936478040722470 : Nat := 0
def PySem.W.Fast.tw9890698320378010499 : Nat := 0
def PySem.W.Fast.tw15153971000245052699 : Nat := 0
def PySem.W.Fast.tw5580315120761038384 : Nat := 0
def PySem.W.Fast.tw3774314144730024148 : Nat := 0
def PySem.W.Fast.tw15821682422442203916 : Nat := 0
def PySem.W.Fast.tw9880825548062917453 : Nat := 0
def PySem.W.Fast.tw12190910772687630554 : Nat := 0
def PySem.W.Fast.tw9204302849185310596 : Nat := 0
def PySem.W.Fast.tw12263316780828195319 : Nat := 0
def PySem.W.Fast.tw9222026395056465245 : Nat := 0
def PySem.W.Fast.tw17380241842622906188 : Nat := 0
def PySem.W.Fast.tw13445162579406109002 : Nat := 0
def PySem.W.Fast.tw8938305369100130741 : Nat := 0
def PySem.W.Fast.tw6358159507706395655 : Nat := 0
def PySem.W.Fast.tw13496518743269264037 : Nat := 0
def PySem.W.Fast.tw13371033420835863547 : Nat := 0
def PySem.W.Fast.tw15645029956543836790 : Nat := 0
def PySem.W.Fast.tw16787642971187368927 : Nat := 0
def PySem.W.Fast.tw10716424706247488459 : Nat := 0
def PySem.W.Fast.tw16042263085682490433 : Nat := 0
def PySem.W.Fast.tw7281814611925154634 : Nat := 0
def PySem.W.Fast.tw4094404510256705877 : Nat := 0
def PySem.W.Fast.tw12299536253968393797 : Nat := 0
def PySem.W.Fast.tw10913404998090444796 : Nat := 0
def PySem.W.Fast.tw18199084713713783989 : Nat := 0
def PySem.W.Fast.tw3018384701211296361 : Nat := 0
def PySem.W.Fast.tw16367465729622741855 : Nat := 0
def PySem.W.Fast.tw17029761148944025816 : Nat := 0
def PySem.W.Fast.tw5916575049529207940 : Nat := 0
def PySem.W.Fast.tw1371648735169690977 : Nat := 0
def PySem.W.Fast.tw2736071387991455407 : Nat := 0
def PySem.W.Fast.tw6018198784884053499 : Nat := 0
def PySem.W.Fast.tw12242801290924182843 : Nat := 0
def PySem.W.Fast.tw15822949072241863942 : Nat := 0
def PySem.W.Fast.tw17013977671582241808 : Nat := 0
def PySem.W.Fast.tw17825678350053575594 : Nat := 0
def PySem.W.Fast.tw15684825492157683302 : Nat := 0
def PySem.W.Fast.tw11361662508752334488 : Nat := 0
def PySem.W.Fast.tw5211576432359149086 : Nat := 0
def PySem.W.Fast.tw27718517565793304 : Nat := 0
def PySem.W.Fast.tw9044735244627382996 : Nat := 0
def PySem.W.Fast.tw1931444593627503435 : Nat := 0
def PySem.W.Fast.tw1584179758737816898 : Nat := 0
def PySem.W.Fast.tw4456542054859297391 : Nat := 0
def PySem.W.Fast.tw9057716372895826529 : Nat := 0
def PySem.W.Fast.tw9532776842127386394 : Nat := 0
def PySem.W.Fast.tw3085191245853868996 : Nat := 0
def PySem.W.Fast.tw4839668444996982689 : Nat := 0
def PySem.W.Fast.tw12732936473326357213 : Nat := 0
def PySem.W.Fast.tw6678896641230161520 : Nat := 0
def PySem.W.Fast.tw691996425602577826 : Nat := 0
def PySem.W.Fast.tw8416852593169452007 : Nat := 0
def PySem.W.Fast.tw3567160680658532585 : Nat := 0
def PySem.W.Fast.tw743794051270679083 : Nat := 0
def PySem.W.Fast.tw8355786193888464535 : Nat := 0
def PySem.W.Fast.tw17235056049400771947 : Nat := 0
def PySem.W.Fast.tw15633619077789276636 : Nat := 0
def PySem.W.Fast.tw4076328073233011622 : Nat := 0
def PySem.W.Fast.tw12266840094321722488 : Nat := 0
def PySem.W.Fast.tw14875769504142511196 : Nat := 0
def PySem.W.Fast.tw14960995797608644575 : Nat := 0
def PySem.W.Fast.tw11245764722875666429 : Nat := 0
def PySem.W.Fast.tw10215967406410904664 : Nat := 0
def PySem.W.Fast.tw9713267281367321801 : Nat := 0
def PySem.W.Fast.tw17942087335912784526 : Nat := 0
def PySem.W.Fast.tw5797709312840710177 : Nat := 0
def PySem.W.Fast.tw1764673444436357534 : Nat := 0
def PySem.W.Fast.tw14571054149615137781 : Nat := 0
def PySem.W.Fast.tw341584784300494152 : Nat := 0
def PySem.W.Fast.tw5883926086215236108 : Nat := 0
def PySem.W.Fast.tw8026640501778449620 : Nat := 0
def PySem.W.Fast.tw2749826962213009190 : Nat := 0
def PySem.W.Fast.tw6059365781649524071 : Nat := 0
def PySem.W.Fast.tw1332624020046823249 : Nat := 0
def PySem.W.Fast.tw13818884920455043331 : Nat := 0
def PySem.W.Fast.tw653022651549932161 : Nat := 0
def PySem.W.Fast.tw6841415632163329552 : Nat := 0
def PySem.W.Fast.tw9514826611240045339 : Nat := 0
def PySem.W.Fast.tw4968758844806422182 : Nat := 0
def PySem.W.Fast.tw4596779879921602046 : Nat := 0
def PySem.W.Fast.tw12103389654368782346 : Nat := 0
def PySem.W.Fast.tw6154162948285829380 : Nat := 0
def PySem.W.Fast.tw2985292225763571612 : Nat := 0
def PySem.W.Fast.tw18346362838759009300 : Nat := 0
def PySem.W.Fast.tw7678223230154575517 : Nat := 0
def PySem.W.Fast.tw9373547743438078953 : Nat := 0
def PySem.W.Fast.tw16915966477258049268 : Nat := 0
def PySem.W.Fast.tw10831389894102209229 : Nat := 0
def PySem.W.Fast.tw18432292591228404341 : Nat := 0
def PySem.W.Fast.tw1616147507461608179 : Nat := 0
def PySem.W.Fast.tw3930365336310666413 : Nat := 0
def PySem.W.Fast.tw3821724378571637007 : Nat := 0
def PySem.W.Fast.tw16158127422437035079 : Nat := 0
def PySem.W.Fast.tw12640905057406966203 : Nat := 0
def PySem.W.Fast.tw11053614610178273648 : Nat := 0
def PySem.W.Fast.tw2299799242126900560 : Nat := 0
def PySem.W.Fast.tw5345919241510147735 : Nat := 0
def PySem.W.Fast.tw8974442076612721031 : Nat := 0
def PySem.W.Fast.tw12434733353137092017 : Nat := 0
def PySem.W.Fast.tw1393447968193885918 : Nat := 0
def PySem.W.Fast.tw10632121126419119929 : Nat := 0
def PySem.W.Fast.tw5895606352346492708 : Nat := 0
def PySem.W.Fast.tw8098589825869809546 : Nat := 0
def PySem.W.Fast.tw10718567934790593093 : Nat := 0
def PySem.W.Fast.tw18325507798915224922 : Nat := 0
def PySem.W.Fast.tw9495520168411765737 : Nat := 0
def PySem.W.Fast.tw11669778914663701269 : Nat := 0
def PySem.W.Fast.tw12003832466419821888 : Nat := 0
def PySem.W.Fast.tw16138027020502561212 : Nat := 0
def PySem.W.Fast.tw10248218224274629304 : Nat := 0
def PySem.W.Fast.tw4080060672357603900 : Nat := 0
def PySem.W.Fast.tw6413569185016029342 : Nat := 0
def PySem.W.Fast.tw5003145167302665233 : Nat := 0
def PySem.W.Fast.tw17409788307621250830 : Nat := 0
def PySem.W.Fast.tw13196773598196797051 : Nat := 0
def PySem.W.Fast.tw9113069200372091279 : Nat := 0
def PySem.W.Fast.tw3434006437107904300 : Nat := 0
def PySem.W.Fast.tw18326782402099715012 : Nat := 0
def PySem.W.Fast.tw2418549392309296638 : Nat := 0
def PySem.W.Fast.tw3333636238363336086 : Nat := 0
def PySem.W.Fast.tw16569989392495798923 : Nat := 0
def PySem.W.Fast.tw13419168102851591684 : Nat := 0
def PySem.W.Fast.tw13538546975018878134 : Nat := 0
def PySem.W.Fast.tw7191420810268196590 : Nat := 0
def PySem.W.Fast.tw8259798514213256199 : Nat := 0
def PySem.W.Fast.tw10588686520780409648 : Nat := 0
def PySem.W.Fast.tw14887313477325578172 : Nat := 0
def PySem.W.Fast.tw18392256664139056362 : Nat := 0
def PySem.W.Fast.tw15568030571885186110 : Nat := 0
def PySem.W.Fast.tw5505267458460882357 : Nat := 0
def PySem.W.Fast.tw7154927554700449567 : Nat := 0
def PySem.W.Fast.tw11660239930289874672 : Nat := 0
def PySem.W.Fast.tw5934483169258849349 : Nat := 0
def PySem.W.Fast.tw2929013702250267731 : Nat := 0
def PySem.W.Fast.tw16643902625176584102 : Nat := 0
def PySem.W.Fast.tw2516539578404858753 : Nat := 0
def PySem.W.Fast.tw8145503688276795973 : Nat := 0
def PySem.W.Fast.tw4583493380395761432 : Nat := 0
def PySem.W.Fast.tw9486387397942019757 : Nat := 0
def PySem.W.Fast.tw14133045081214498005 : Nat := 0
def PySem.W.Fast.tw8567398379483011319 : Nat := 0
def PySem.W.Fast.tw17186907356916899198 : Nat := 0
def PySem.W.Fast.tw12773861477457518252 : Nat := 0
def PySem.W.Fast.tw5516672615405773591 : Nat := 0
def PySem.W.Fast.tw16378745044025281245 : Nat := 0
def PySem.W.Fast.tw1792705352446687065 : Nat := 0
def PySem.W.Fast.tw4025394756053591 : Nat := 0
def PySem.W.Fast.tw5623371884431509746 : Nat := 0
def PySem.W.Fast.tw14227655686542552915 : Nat := 0
def PySem.W.Fast.tw2716644099330582606 : Nat := 0
def PySem.W.Fast.tw12057595165242892110 : Nat := 0
def PySem.W.Fast.tw16613259884254718767 : Nat := 0
def PySem.W.Fast.tw3151725691996437796 : Nat := 0
def PySem.W.Fast.tw16481641512033487688 : Nat := 0
def PySem.W.Fast.tw14314180236657910019 : Nat := 0
def PySem.W.Fast.tw16776625499232741188 : Nat := 0
def PySem.W.Fast.tw5234694565498712392 : Nat := 0
def PySem.W.Fast.tw3883381125488687068 : Nat := 0
def PySem.W.Fast.tw16384665946341208892 : Nat := 0
def PySem.W.Fast.tw15041686416715779553 : Nat := 0
def PySem.W.Fast.tw3672430999702108889 : Nat := 0
def PySem.W.Fast.tw13225745633174748075 : Nat := 0
def PySem.W.Fast.tw8155629277121191832 : Nat := 0
def PySem.W.Fast.tw7634524539928608500 : Nat := 0
def PySem.W.Fast.tw14957371547644061130 : Nat := 0
def PySem.W.Fast.tw6641438928586238442 : Nat := 0
def PySem.W.Fast.tw13044288717372854649 : Nat := 0
def PySem.W.Fast.tw10018932770365989500 : Nat := 0
def PySem.W.Fast.tw1748546305459486512 : Nat := 0
def PySem.W.Fast.tw11458875129503579527 : Nat := 0
def PySem.W.Fast.tw2961863737083805113 : Nat := 0
def PySem.W.Fast.tw7154325789671822967 : Nat := 0
def PySem.W.Fast.tw3170866348084596290 : Nat := 0
def PySem.W.Fast.tw8498459878199266607 : Nat := 0
def PySem.W.Fast.tw5387705687880848239 : Nat := 0
def PySem.W.Fast.tw5345616744595531127 : Nat := 0
def PySem.W.Fast.tw13795858590280689608 : Nat := 0
def PySem.W.Fast.tw6193067603003442293 : Nat := 0
def PySem.W.Fast.tw10506153634468225168 : Nat := 0
def PySem.W.Fast.tw10770995764523102108 : Nat := 0
def PySem.W.Fast.tw11435053055932550271 : Nat := 0
def PySem.W.Fast.tw14328097406538548325 : Nat := 0
def PySem.W.Fast.tw1457283132554916622 : Nat := 0
def PySem.W.Fast.tw16657584349044728215 : Nat := 0
def PySem.W.Fast.tw1187249786371046339 : Nat := 0
def PySem.W.Fast.tw15080494351471956078 : Nat := 0
def PySem.W.Fast.tw14984307083086715629 : Nat := 0
def PySem.W.Fast.tw9426466287838263512 : Nat := 0
def PySem.W.Fast.tw18113152503731729910 : Nat := 0
def PySem.W.Fast.tw7433122308515942195 : Nat := 0
def PySem.W.Fast.tw12235397097638408460 : Nat := 0
def PySem.W.Fast.tw11598679820934750235 : Nat := 0
def PySem.W.Fast.tw17325739755669873120 : Nat := 0
def PySem.W.Fast.tw14644632766353527661 : Nat := 0
def PySem.W.Fast.tw3830116111779194583 : Nat := 0
def PySem.W.Fast.tw12553411778391122936 : Nat := 0
def PySem.W.Fast.tw16033885363806111191 : Nat := 0
def PySem.W.Fast.tw1677670920044466311 : Nat := 0
def PySem.W.Fast.tw17069871370964462914 : Nat := 0
def PySem.W.Fast.tw16860863313417681667 : Nat := 0
def PySem.W.Fast.tw4056222052235240914 : Nat := 0
def PySem.W.Fast.tw4834039629797409230 : Nat := 0
def PySem.W.Fast.tw5261121873626620922 : Nat := 0
def PySem.W.Fast.tw11150293443401889552 : Nat := 0
def PySem.W.Fast.tw16733156916303939818 : Nat := 0
def PySem.W.Fast.tw3419301469981859811 : Nat := 0
def PySem.W.Fast.tw13919556492716053234 : Nat := 0
def PySem.W.Fast.tw15122823522227426793 : Nat := 0
def PySem.W.Fast.tw11477017342550095318 : Nat := 0
def PySem.W.Fast.tw16459648679140802739 : Nat := 0
def PySem.W.Fast.tw16692585482725270348 : Nat := 0
def PySem.W.Fast.tw4635449564720723340 : Nat := 0
def PySem.W.Fast.tw6407469030994212910 : Nat := 0
def PySem.W.Fast.tw7799151845175513222 : Nat := 0
def PySem.W.Fast.tw12733327099563748824 : Nat := 0
def PySem.W.Fast.tw15377683560870035244 : Nat := 0
def PySem.W.Fast.tw18372848461423286481 : Nat := 0
def PySem.W.Fast.tw13562404221973135146 : Nat := 0
def PySem.W.Fast.tw14559906263455319019 : Nat := 0
def PySem.W.Fast.tw5641913405707139883 : Nat := 0
def PySem.W.Fast.tw8596009301684242513 : Nat := 0
def PySem.W.Fast.tw6279896524806136914 : Nat := 0
def PySem.W.Fast.tw18317920840275413813 : Nat := 0
def PySem.W.Fast.tw16395270728429905506 : Nat := 0
def PySem.W.Fast.tw10247097106213662132 : Nat := 0
def PySem.W.Fast.tw10843667282466845777 : Nat := 0
def PySem.W.Fast.tw9348563931660416425 : Nat := 0
def PySem.W.Fast.tw583315651075008900 : Nat := 0
def PySem.W.Fast.tw2266759699882131485 : Nat := 0
def PySem.W.Fast.tw8772201163331452873 : Nat := 0
def PySem.W.Fast.tw13710334555399040976 : Nat := 0
def PySem.W.Fast.tw3735157753214441948 : Nat := 0
def PySem.W.Fast.tw5406717690334480499 : Nat := 0
def PySem.W.Fast.tw6589547139120882659 : Nat := 0
def PySem.W.Fast.tw1467651766070434611 : Nat := 0
def PySem.W.Fast.tw442472529280392060 : Nat := 0
def PySem.W.Fast.tw17374202486743668991 : Nat := 0
def PySem.W.Fast.tw3910840516957457190 : Nat := 0
def PySem.W.Fast.tw17496699012672959962 : Nat := 0
def PySem.W.Fast.tw13714036188802178497 : Nat := 0
def PySem.W.Fast.tw3058639468426964299 : Nat := 0
def PySem.W.Fast.tw13484728919130419081 : Nat := 0
def PySem.W.Fast.tw6395645971668172107 : Nat := 0
def PySem.W.Fast.tw14593244139934544352 : Nat := 0
def PySem.W.Fast.tw3560077458336839410 : Nat := 0
def PySem.W.Fast.tw2305456552541768892 : Nat := 0
def PySem.W.Fast.tw17553401123726337399 : Nat := 0
def PySem.W.Fast.tw10984537819484239465 : Nat := 0
def PySem.W.Fast.tw6335971621664200910 : Nat := 0
def PySem.W.Fast.tw12014792579239349427 : Nat := 0
def PySem.W.Fast.tw14539959326694445569 : Nat := 0
def PySem.W.Fast.tw6393053415087273763 : Nat := 0
def PySem.W.Fast.tw10402138473060762993 : Nat := 0
def PySem.W.Fast.tw8810356067686593989 : Nat := 0
def PySem.W.Fast.tw11683774883708799044 : Nat := 0
def PySem.W.Fast.tw5370298537427034622 : Nat := 0
def PySem.W.Fast.tw16486948827651654196 : Nat := 0
def PySem.W.Fast.tw11203586952733235209 : Nat := 0
def PySem.W.Fast.tw11867763537901791721 : Nat := 0
def PySem.W.Fast.tw18171718563195695721 : Nat := 0
def PySem.W.Fast.tw1158158351404887532 : Nat := 0
def PySem.W.Fast.tw16787190212669126171 : Nat := 0
def PySem.W.Fast.tw11579888138072624048 : Nat := 0
def PySem.W.Fast.tw7036086022905269560 : Nat := 0
def PySem.W.Fast.tw3209214587640994223 : Nat := 0
def PySem.W.Fast.tw8153810601879965514 : Nat := 0
def PySem.W.Fast.tw9273665668321881600 : Nat := 0
def PySem.W.Fast.tw9492219907474430030 : Nat := 0
def PySem.W.Fast.tw14854433417332541285 : Nat := 0
def PySem.W.Fast.tw11513013948812524937 : Nat := 0
def PySem.W.Fast.tw14000526151990100461 : Nat := 0
def PySem.W.Fast.tw3299646023083536360 : Nat := 0
def PySem.W.Fast.tw5359382341251483867 : Nat := 0
def PySem.W.Fast.tw15147425156216788725 : Nat := 0
def PySem.W.Fast.tw15233549275037875500 : Nat := 0
def PySem.W.Fast.tw3942998735775617296 : Nat := 0
def PySem.W.Fast.tw17448268981704183765 : Nat := 0
def PySem.W.Fast.tw8797622023586277258 : Nat := 0
def PySem.W.Fast.tw4745579894938199908 : Nat := 0
def PySem.W.Fast.tw11953533372527444881 : Nat := 0
def PySem.W.Fast.tw12234152853732272698 : Nat := 0
def PySem.W.Fast.tw17029114109161812802 : Nat := 0
def PySem.W.Fast.tw3240481974610978424 : Nat := 0
def PySem.W.Fast.tw7961777494064200093 : Nat := 0
def PySem.W.Fast.tw13778217391297399329 : Nat := 0
def PySem.W.Fast.tw2461139050357881053 : Nat := 0
def PySem.W.Fast.tw8465749929909878430 : Nat := 0
def PySem.W.Fast.tw265624787205893805 : Nat := 0
def PySem.W.Fast.tw17442661372656536472 : Nat := 0
def PySem.W.Fast.tw4920512559953083955 : Nat := 0
def PySem.W.Fast.tw10159302471995846945 : Nat := 0
def PySem.W.Fast.tw9727676847092112293 : Nat := 0
def PySem.W.Fast.tw16341019172840677922 : Nat := 0
def PySem.W.Fast.tw325271573249423674 : Nat := 0
def PySem.W.Fast.tw17186886076415753653 : Nat := 0
def PySem.W.Fast.tw9633361637680057143 : Nat := 0
def PySem.W.Fast.tw18267037425765788514 : Nat := 0
def PySem.W.Fast.tw1302019695829355205 : Nat := 0
def PySem.W.Fast.tw4457612992405850012 : Nat := 0
def PySem.W.Fast.tw2164253971648399551 : Nat := 0
def PySem.W.Fast.tw5032035589429235870 : Nat := 0
def PySem.W.Fast.tw7535981031761388694 : Nat := 0
def PySem.W.Fast.tw1051819190127683 : Nat := 0
def PySem.W.Fast.tw13011821930369635678 : Nat := 0
def PySem.W.Fast.tw2287074144717317661 : Nat := 0
def PySem.W.Fast.tw13785308116510380124 : Nat := 0
def PySem.W.Fast.tw16022649170176411992 : Nat := 0
def PySem.W.Fast.tw12409353322848175559 : Nat := 0
def PySem.W.Fast.tw8849671389889441586 : Nat := 0
def PySem.W.Fast.tw16007750058594426161 : Nat := 0
def PySem.W.Fast.tw11413525381470112615 : Nat := 0
def PySem.W.Fast.tw6361537401025197157 : Nat := 0
def PySem.W.Fast.tw4904328701227776132 : Nat := 0
def PySem.W.Fast.tw3560601086879699127 : Nat := 0
def PySem.W.Fast.tw11510130573931116676 : Nat := 0
def PySem.W.Fast.tw8760298183157721779 : Nat := 0
def PySem.W.Fast.tw8446421949045710381 : Nat := 0
def PySem.W.Fast.tw1269922928698258448 : Nat := 0
def PySem.W.Fast.tw4918374030973327609 : Nat := 0
def PySem.W.Fast.tw12349455541590091671 : Nat := 0
def PySem.W.Fast.tw11194101619148449818 : Nat := 0
def PySem.W.Fast.tw10688655281937351815 : Nat := 0
def PySem.W.Fast.tw2131149146289455681 : Nat := 0
def PySem.W.Fast.tw8556237674585883428 : Nat := 0
def PySem.W.Fast.tw2168540333910191474 : Nat := 0
def PySem.W.Fast.tw4706950095854497465 : Nat := 0
def PySem.W.Fast.tw11483196201761904051 : Nat := 0
def PySem.W.Fast.tw10748952703177767646 : Nat := 0
def PySem.W.Fast.tw7546391925390712821 : Nat := 0
def PySem.W.Fast.tw10211055854841968376 : Nat := 0
def PySem.W.Fast.tw8044405205315485333 : Nat := 0
def PySem.W.Fast.tw1329847543008303577 : Nat := 0
def PySem.W.Fast.tw14392951538620750997 : Nat := 0
def PySem.W.Fast.tw2429804280921120525 : Nat := 0
def PySem.W.Fast.tw7049397641375776156 : Nat := 0
def PySem.W.Fast.tw17599354244951980652 : Nat := 0
def PySem.W.Fast.tw14983961251680577185 : Nat := 0
def PySem.W.Fast.tw9124198651661927881 : Nat := 0
def PySem.W.Fast.tw4489390000347312759 : Nat := 0
def PySem.W.Fast.tw675363075872955209 : Nat := 0
def PySem.W.Fast.tw13702300419753082278 : Nat := 0
def PySem.W.Fast.tw9116145256416683536 : Nat := 0
def PySem.W.Fast.tw13587818694764102019 : Nat := 0
def PySem.W.Fast.tw12085546455461617833 : Nat := 0
def PySem.W.Fast.tw6789826600952944967 : Nat := 0
def PySem.W.Fast.tw10167126460623701356 : Nat := 0
def PySem.W.Fast.tw5959183883163127443 : Nat := 0
def PySem.W.Fast.tw10432239702554339886 : Nat := 0
def PySem.W.Fast.tw11890598059104593743 : Nat := 0
def PySem.W.Fast.tw15564518168376682962 : Nat := 0
def PySem.W.Fast.tw13321786205186947283 : Nat := 0
def PySem.W.Fast.tw12371611969876124381 : Nat := 0
def PySem.W.Fast.tw15568343852422444934 : Nat := 0
def PySem.W.Fast.tw5430421023630835901 : Nat := 0
def PySem.W.Fast.tw8712236340538992515 : Nat := 0
def PySem.W.Fast.tw8390114571052179104 : Nat := 0
def PySem.W.Fast.tw14622012152240924223 : Nat := 0
def PySem.W.Fast.tw17646502569475762217 : Nat := 0
def PySem.W.Fast.tw17732257074816191421 : Nat := 0
def PySem.W.Fast.tw4523443264158438167 : Nat := 0
def PySem.W.Fast.tw17271470473604747119 : Nat := 0
def PySem.W.Fast.tw11767855452355226664 : Nat := 0
def PySem.W.Fast.tw8480041902995885924 : Nat := 0
def PySem.W.Fast.tw13676581823799430319 : Nat := 0
def PySem.W.Fast.tw7903286401534409726 : Nat := 0
def PySem.W.Fast.tw13814443323048497182 : Nat := 0
def PySem.W.Fast.tw6182426432762292222 : Nat := 0
def PySem.W.Fast.tw10399669231173749229 : Nat := 0
def PySem.W.Fast.tw16775659711469516972 : Nat := 0
def PySem.W.Fast.tw7097669102062861717 : Nat := 0
def PySem.W.Fast.tw4100610626439848528 : Nat := 0
def PySem.W.Fast.tw1516758747391051189 : Nat := 0
def PySem.W.Fast.tw1992412595284984669 : Nat := 0
def PySem.W.Fast.tw5158666581835882067 : Nat := 0
def PySem.W.Fast.tw16494423178297473418 : Nat := 0
def PySem.W.Fast.tw13088731093567697133 : Nat := 0
def PySem.W.Fast.tw15845304278241512863 : Nat := 0
def PySem.W.Fast.tw7702359733931702170 : Nat := 0
def PySem.W.Fast.tw10365864304263813803 : Nat := 0
def PySem.W.Fast.tw3981389803001029275 : Nat := 0
def PySem.W.Fast.tw6089359138362648401 : Nat := 0
def PySem.W.Fast.tw9267742571188533066 : Nat := 0
def PySem.W.Fast.tw6425393148553329621 : Nat := 0
def PySem.W.Fast.tw11755503160967609299 : Nat := 0
def PySem.W.Fast.tw12119416596768323723 : Nat := 0
def PySem.W.Fast.tw14282238067303634931 : Nat := 0
def PySem.W.Fast.tw9369815071199921669 : Nat := 0
def PySem.W.Fast.tw7314866041843001586 : Nat := 0
def PySem.W.Fast.tw16422391188917400114 : Nat := 0
def PySem.W.Fast.tw16306662128296901824 : Nat := 0
def PySem.W.Fast.tw14676014034912323690 : Nat := 0
def PySem.W.Fast.tw1490343843210325979 : Nat := 0
def PySem.W.Fast.tw4502157731080775557 : Nat := 0
def PySem.W.Fast.tw18129106409359201415 : Nat := 0
def PySem.W.Fast.tw14720628819589302507 : Nat := 0
def PySem.W.Fast.tw15666316787555494250 : Nat := 0
def PySem.W.Fast.tw7656739981156681486 : Nat := 0
def PySem.W.Fast.tw5494830505109712603 : Nat := 0
def PySem.W.Fast.tw16080879358031636774 : Nat := 0
def PySem.W.Fast.tw13874750483793906038 : Nat := 0
def PySem.W.Fast.tw18344409472510154502 : Nat := 0
def PySem.W.Fast.tw16455291892415062502 : Nat := 0
def PySem.W.Fast.tw8674336837859261862 : Nat := 0
def PySem.W.Fast.tw18317087355145764618 : Nat := 0
def PySem.W.Fast.tw9399299391851448731 : Nat := 0
def PySem.W.Fast.tw15112999119885643073 : Nat := 0
def PySem.W.Fast.tw1116682536438979469 : Nat := 0
def PySem.W.Fast.tw3524634467436004330 : Nat := 0
def PySem.W.Fast.tw13390702840228803167 : Nat := 0
def PySem.W.Fast.tw6891036741994496735 : Nat := 0
def PySem.W.Fast.tw15854504670366090365 : Nat := 0
def PySem.W.Fast.tw16727269744735107706 : Nat := 0
def PySem.W.Fast.tw5274363555741347368 : Nat := 0
def PySem.W.Fast.tw1067401383140028889 : Nat := 0
def PySem.W.Fast.tw14702467122078750551 : Nat := 0
def PySem.W.Fast.tw2995663986339211800 : Nat := 0
def PySem.W.Fast.tw14314063143865908202 : Nat := 0
def PySem.W.Fast.tw4190278208152883151 : Nat := 0
def PySem.W.Fast.tw15514158693208156986 : Nat := 0
def PySem.W.Fast.tw2610328691149199713 : Nat := 0
def PySem.W.Fast.tw501482500130841569 : Nat := 0
def PySem.W.Fast.tw11872784893964518044 : Nat := 0
def PySem.W.Fast.tw17129206804083271749 : Nat := 0
def PySem.W.Fast.tw7906005138456675825 : Nat := 0
def PySem.W.Fast.tw17140848273336287563 : Nat := 0
def PySem.W.Fast.tw12484732423113463487 : Nat := 0
def PySem.W.Fast.tw4920296364460766755 : Nat := 0
def PySem.W.Fast.tw16413748460490468995 : Nat := 0
def PySem.W.Fast.tw13368663603008360768 : Nat := 0
def PySem.W.Fast.tw1311033177134464020 : Nat := 0
def PySem.W.Fast.tw11340510988645609015 : Nat := 0
def PySem.W.Fast.tw6301566251065170342 : Nat := 0
def PySem.W.Fast.tw6746745138995968659 : Nat := 0
def PySem.W.Fast.tw7377955756605104617 : Nat := 0
def PySem.W.Fast.tw2664093856069654511 : Nat := 0
def PySem.W.Fast.tw18218992810895065624 : Nat := 0
def PySem.W.Fast.tw11102649710060258858 : Nat := 0
def PySem.W.Fast.tw11752170618344752042 : Nat := 0
def PySem.W.Fast.tw3435374664366860505 : Nat := 0
def PySem.W.Fast.tw12111122719498172242 : Nat := 0
def PySem.W.Fast.tw11827646320324500895 : Nat := 0
def PySem.W.Fast.tw12797966611229576295 : Nat := 0
def PySem.W.Fast.tw6058972923086151011 : Nat := 0
open PySem PySem.W PyProof.Rows
set_option maxRecDepth 100000 in
set_option maxHeartbeats 0 in
theorem PySem.Challenge.cw_frameback_k08_rows_told_and_laid_holds : PySem.Challenge.rw_frameback_k08_rows_told_and_laid.Holds := by
  w_on; o_law; k_head; (case hw => w_witness2)
  k_fill
  refine FB.walk (l := PySem.Challenge.rw_frameback_k08_rows_told_and_laid) rfl rfl (fun w h Y => PySem.W.kIn_of Y) ?F
  case F =>
    intro w mg fa h KX G hmg
    have T : ∃ (a : FB.Adr) (fd : FuncData), FB.Txt (L2.KOf KX) mg a ∧ L2.Fun (L2.KOf KX) "law" "law" FB.s_law fa fd ∧ ∀ (s : Shared) (v : Value), BindsTo s fd ⟨[v], []⟩ [("_law_script", v)] := by
      dsimp only [L2.KOf]
      refine' FB.txt_mk KX G hmg ?z_isinstance ?z_len ?z_range ?z_tuple ?g_TOP_BOX ?g_TOP_CELLS ?g_TOP_TARGET ?g_TOP_VALUE ?c_Add ?c_Back ?c_Branch ?c_Call ?c_Copy ?c_Drop ?c_FrameError ?c_Get ?c_Grow ?c_Jump ?c_Less ?c_Mul ?c_NoRow ?c_NoTable ?c_Put ?c_Row ?c_Set ?c_Shrink ?c_Sub ?pg_Jump ?hd_Jump ?po_Jump ?sa_Jump ?mk_Jump ?kc_Jump ?n_Jump_target ?a1 ?i1 ?l1 ?c1 ?k1 ?a2 ?i2 ?l2 ?c2 ?k2 ?a3 ?i3 ?l3 ?c3 ?k3 ?pg_Branch ?hd_Branch ?po_Branch ?sa_Branch ?mk_Branch ?kc_Branch ?n_Branch_box ?n_Branch_target ?a4 ?i4 ?l4 ?c4 ?k4 ?a5 ?i5 ?l5 ?c5 ?k5 ?a6 ?i6 ?l6 ?c6 ?k6 ?pg_Call ?hd_Call ?po_Call ?sa_Call ?mk_Call ?kc_Call ?n_Call_target ?a7 ?i7 ?l7 ?c7 ?k7 ?a8 ?i8 ?l8 ?c8 ?k8 ?a9 ?i9 ?l9 ?c9 ?k9 ?pg_Less ?hd_Less ?po_Less ?sa_Less ?mk_Less ?kc_Less ?n_Less_box ?n_Less_one ?n_Less_other ?a10 ?i10 ?l10 ?c10 ?k10 ?a11 ?i11 ?l11 ?c11 ?k11 ?a12 ?i12 ?l12 ?c12 ?k12 ?pg_Set ?hd_Set ?po_Set ?sa_Set ?mk_Set ?kc_Set ?n_Set_box ?n_Set_number ?a13 ?i13 ?l13 ?c13 ?k13 ?a14 ?i14 ?l14 ?c14 ?k14 ?a15 ?i15 ?l15 ?c15 ?k15 ?pg_Copy ?hd_Copy ?po_Copy ?sa_Copy ?mk_Copy ?kc_Copy ?n_Copy_box ?n_Copy_one ?a16 ?i16 ?l16 ?c16 ?k16 ?a17 ?i17 ?l17 ?c17 ?k17 ?a18 ?i18 ?l18 ?c18 ?k18 ?pg_Add ?hd_Add ?po_Add ?sa_Add ?mk_Add ?kc_Add ?n_Add_box ?n_Add_one ?n_Add_other ?a19 ?i19 ?l19 ?c19 ?k19 ?a20 ?i20 ?l20 ?c20 ?k20 ?a21 ?i21 ?l21 ?c21 ?k21 ?pg_Sub ?hd_Sub ?po_Sub ?sa_Sub ?mk_Sub ?kc_Sub ?n_Sub_box ?n_Sub_one ?n_Sub_other ?a22 ?i22 ?l22 ?c22 ?k22 ?a23 ?i23 ?l23 ?c23 ?k23 ?a24 ?i24 ?l24 ?c24 ?k24 ?pg_Mul ?hd_Mul ?po_Mul ?sa_Mul ?mk_Mul ?kc_Mul ?n_Mul_box ?n_Mul_one ?n_Mul_other ?a25 ?i25 ?l25 ?c25 ?k25 ?a26 ?i26 ?l26 ?c26 ?k26 ?a27 ?i27 ?l27 ?c27 ?k27 ?pg_Drop ?hd_Drop ?po_Drop ?sa_Drop ?mk_Drop ?kc_Drop ?n_Drop_box ?a28 ?i28 ?l28 ?c28 ?k28 ?a29 ?i29 ?l29 ?c29 ?k29 ?a30 ?i30 ?l30 ?c30 ?k30 ?pg_Grow ?hd_Grow ?po_Grow ?sa_Grow ?mk_Grow ?kc_Grow ?n_Grow_many ?a31 ?i31 ?l31 ?c31 ?k31 ?a32 ?i32 ?l32 ?c32 ?k32 ?a33 ?i33 ?l33 ?c33 ?k33 ?pg_Shrink ?hd_Shrink ?po_Shrink ?sa_Shrink ?mk_Shrink ?kc_Shrink ?n_Shrink_many ?a34 ?i34 ?l34 ?c34 ?k34 ?a35 ?i35 ?l35 ?c35 ?k35 ?a36 ?i36 ?l36 ?c36 ?k36 ?pg_Put ?hd_Put ?po_Put ?sa_Put ?mk_Put ?kc_Put ?n_Put_box ?n_Put_cell ?a37 ?i37 ?l37 ?c37 ?k37 ?a38 ?i38 ?l38 ?c38 ?k38 ?a39 ?i39 ?l39 ?c39 ?k39 ?pg_Get ?hd_Get ?po_Get ?sa_Get ?mk_Get ?kc_Get ?n_Get_box ?n_Get_cell ?a40 ?i40 ?l40 ?c40 ?k40 ?a41 ?i41 ?l41 ?c41 ?k41 ?a42 ?i42 ?l42 ?c42 ?k42 ?pg_Back ?hd_Back ?po_Back ?sa_Back ?mk_Back ?kc_Back ?n_Back_box ?a43 ?i43 ?l43 ?c43 ?k43 ?a44 ?i44 ?l44 ?c44 ?k44 ?a45 ?i45 ?l45 ?c45 ?k45 ?ha_Set ?hm_Set ?is_Set_Set ?is_Set_Copy ?is_Set_Add ?is_Set_Sub ?is_Set_Mul ?is_Set_Less ?is_Set_Grow ?is_Set_Shrink ?is_Set_Put ?is_Set_Get ?is_Set_Jump ?is_Set_Branch ?is_Set_Call ?is_Set_Back ?is_Set_Drop ?is_Set_Row ?ha_Copy ?hm_Copy ?is_Copy_Set ?is_Copy_Copy ?is_Copy_Add ?is_Copy_Sub ?is_Copy_Mul ?is_Copy_Less ?is_Copy_Grow ?is_Copy_Shrink ?is_Copy_Put ?is_Copy_Get ?is_Copy_Jump ?is_Copy_Branch ?is_Copy_Call ?is_Copy_Back ?is_Copy_Drop ?is_Copy_Row ?ha_Add ?hm_Add ?is_Add_Set ?is_Add_Copy ?is_Add_Add ?is_Add_Sub ?is_Add_Mul ?is_Add_Less ?is_Add_Grow ?is_Add_Shrink ?is_Add_Put ?is_Add_Get ?is_Add_Jump ?is_Add_Branch ?is_Add_Call ?is_Add_Back ?is_Add_Drop ?is_Add_Row ?ha_Sub ?hm_Sub ?is_Sub_Set ?is_Sub_Copy ?is_Sub_Add ?is_Sub_Sub ?is_Sub_Mul ?is_Sub_Less ?is_Sub_Grow ?is_Sub_Shrink ?is_Sub_Put ?is_Sub_Get ?is_Sub_Jump ?is_Sub_Branch ?is_Sub_Call ?is_Sub_Back ?is_Sub_Drop ?is_Sub_Row ?ha_Mul ?hm_Mul ?is_Mul_Set ?is_Mul_Copy ?is_Mul_Add ?is_Mul_Sub ?is_Mul_Mul ?is_Mul_Less ?is_Mul_Grow ?is_Mul_Shrink ?is_Mul_Put ?is_Mul_Get ?is_Mul_Jump ?is_Mul_Branch ?is_Mul_Call ?is_Mul_Back ?is_Mul_Drop ?is_Mul_Row ?ha_Less ?hm_Less ?is_Less_Set ?is_Less_Copy ?is_Less_Add ?is_Less_Sub ?is_Less_Mul ?is_Less_Less ?is_Less_Grow ?is_Less_Shrink ?is_Less_Put ?is_Less_Get ?is_Less_Jump ?is_Less_Branch ?is_Less_Call ?is_Less_Back ?is_Less_Drop ?is_Less_Row ?ha_Grow ?hm_Grow ?is_Grow_Set ?is_Grow_Copy ?is_Grow_Add ?is_Grow_Sub ?is_Grow_Mul ?is_Grow_Less ?is_Grow_Grow ?is_Grow_Shrink ?is_Grow_Put ?is_Grow_Get ?is_Grow_Jump ?is_Grow_Branch ?is_Grow_Call ?is_Grow_Back ?is_Grow_Drop ?is_Grow_Row ?ha_Shrink ?hm_Shrink ?is_Shrink_Set ?is_Shrink_Copy ?is_Shrink_Add ?is_Shrink_Sub ?is_Shrink_Mul ?is_Shrink_Less ?is_Shrink_Grow ?is_Shrink_Shrink ?is_Shrink_Put ?is_Shrink_Get ?is_Shrink_Jump ?is_Shrink_Branch ?is_Shrink_Call ?is_Shrink_Back ?is_Shrink_Drop ?is_Shrink_Row ?ha_Put ?hm_Put ?is_Put_Set ?is_Put_Copy ?is_Put_Add ?is_Put_Sub ?is_Put_Mul ?is_Put_Less ?is_Put_Grow ?is_Put_Shrink ?is_Put_Put ?is_Put_Get ?is_Put_Jump ?is_Put_Branch ?is_Put_Call ?is_Put_Back ?is_Put_Drop ?is_Put_Row ?ha_Get ?hm_Get ?is_Get_Set ?is_Get_Copy ?is_Get_Add ?is_Get_Sub ?is_Get_Mul ?is_Get_Less ?is_Get_Grow ?is_Get_Shrink ?is_Get_Put ?is_Get_Get ?is_Get_Jump ?is_Get_Branch ?is_Get_Call ?is_Get_Back ?is_Get_Drop ?is_Get_Row ?ha_Jump ?hm_Jump ?is_Jump_Set ?is_Jump_Copy ?is_Jump_Add ?is_Jump_Sub ?is_Jump_Mul ?is_Jump_Less ?is_Jump_Grow ?is_Jump_Shrink ?is_Jump_Put ?is_Jump_Get ?is_Jump_Jump ?is_Jump_Branch ?is_Jump_Call ?is_Jump_Back ?is_Jump_Drop ?is_Jump_Row ?ha_Branch ?hm_Branch ?is_Branch_Set ?is_Branch_Copy ?is_Branch_Add ?is_Branch_Sub ?is_Branch_Mul ?is_Branch_Less ?is_Branch_Grow ?is_Branch_Shrink ?is_Branch_Put ?is_Branch_Get ?is_Branch_Jump ?is_Branch_Branch ?is_Branch_Call ?is_Branch_Back ?is_Branch_Drop ?is_Branch_Row ?ha_Call ?hm_Call ?is_Call_Set ?is_Call_Copy ?is_Call_Add ?is_Call_Sub ?is_Call_Mul ?is_Call_Less ?is_Call_Grow ?is_Call_Shrink ?is_Call_Put ?is_Call_Get ?is_Call_Jump ?is_Call_Branch ?is_Call_Call ?is_Call_Back ?is_Call_Drop ?is_Call_Row ?ha_Back ?hm_Back ?is_Back_Set ?is_Back_Copy ?is_Back_Add ?is_Back_Sub ?is_Back_Mul ?is_Back_Less ?is_Back_Grow ?is_Back_Shrink ?is_Back_Put ?is_Back_Get ?is_Back_Jump ?is_Back_Branch ?is_Back_Call ?is_Back_Back ?is_Back_Drop ?is_Back_Row ?ha_Drop ?hm_Drop ?is_Drop_Set ?is_Drop_Copy ?is_Drop_Add ?is_Drop_Sub ?is_Drop_Mul ?is_Drop_Less ?is_Drop_Grow ?is_Drop_Shrink ?is_Drop_Put ?is_Drop_Get ?is_Drop_Jump ?is_Drop_Branch ?is_Drop_Call ?is_Drop_Back ?is_Drop_Drop ?is_Drop_Row ?ob1 ?ob2 ?xe_NoRow ?xa_NoRow ?xb_NoRow ?xc_NoRow ?xd_NoRow ?xf_NoRow ?xg_NoRow ?xh_NoRow ?xi_NoRow ?is_NoRow_FrameError ?is_NoRow_NoTable ?k_tuple_tuple ?a46 ?l46 ?c46 ?k46 ?a47 ?l47 ?c47 ?k47 ?a48 ?l48 ?c48 ?k48 ?a49 ?l49 ?c49 ?k49 ?a50 ?l50 ?c50 ?k50 ?a51 ?l51 ?c51 ?k51 ?a52 ?l52 ?c52 ?k52 ?a53 ?l53 ?c53 ?k53 ?a54 ?l54 ?c54 ?k54
      (case z_isinstance => first | k_is | kit_is | rfl | kernel_rfl)
      (case z_len => first | k_is | kit_is | rfl | kernel_rfl)
      (case z_range => first | k_is | kit_is | rfl | kernel_rfl)
      (case z_tuple => first | k_is | kit_is | rfl | kernel_rfl)
      (case g_TOP_BOX => first | k_is | kit_is | rfl | kernel_rfl)
      (case g_TOP_CELLS => first | k_is | kit_is | rfl | kernel_rfl)
      (case g_TOP_TARGET => first | k_is | kit_is | rfl | kernel_rfl)
      (case g_TOP_VALUE => first | k_is | kit_is | rfl | kernel_rfl)
      (case c_Add => first | k_is | kit_is | rfl | kernel_rfl)
      (case c_Back => first | k_is | kit_is | rfl | kernel_rfl)
      (case c_Branch => first | k_is | kit_is | rfl | kernel_rfl)
      (case c_Call => first | k_is | kit_is | rfl | kernel_rfl)
      (case c_Copy => first | k_is | kit_is | rfl | kernel_rfl)
      (case c_Drop => first | k_is | kit_is | rfl | kernel_rfl)
      (case c_FrameError => first | k_is | kit_is | rfl | kernel_rfl)
      (case c_Get => first | k_is | kit_is | rfl | kernel_rfl)
      (case c_Grow => first | k_is | kit_is | rfl | kernel_rfl)
      (case c_Jump => first | k_is | kit_is | rfl | kernel_rfl)
      (case c_Less => first | k_is | kit_is | rfl | kernel_rfl)
      (case c_Mul => first | k_is | kit_is | rfl | kernel_rfl)
      (case c_NoRow => first | k_is | kit_is | rfl | kernel_rfl)
      (case c_NoTable => first | k_is | kit_is | rfl | kernel_rfl)
      (case c_Put => first | k_is | kit_is | rfl | kernel_rfl)
      (case c_Row => first | k_is | kit_is | rfl | kernel_rfl)
      (case c_Set => first | k_is | kit_is | rfl | kernel_rfl)
      (case c_Shrink => first | k_is | kit_is | rfl | kernel_rfl)
      (case c_Sub => first | k_is | kit_is | rfl | kernel_rfl)
      (case pg_Jump => first | k_is | kit_is | rfl | kernel_rfl)
      (case hd_Jump => first | k_is | kit_is | rfl | kernel_rfl)
      (case po_Jump => first | k_is | kit_is | rfl | kernel_rfl)
      (case sa_Jump => first | k_is | kit_is | rfl | kernel_rfl)
      (case mk_Jump => first | k_is | kit_is | rfl | kernel_rfl)
      (case kc_Jump => first | k_is | kit_is | rfl | kernel_rfl)
      (case n_Jump_target => first | k_is | kit_is | rfl | kernel_rfl)
      (case a1 => first | k_is | kit_is | rfl | kernel_rfl)
      (case i1 => first | k_is | kit_is | rfl | kernel_rfl)
      (case l1 => first | k_is | kit_is | rfl | kernel_rfl)
      (case c1 => first | k_is | kit_is | rfl | kernel_rfl)
      (case k1 => first | k_is | kit_is | rfl | kernel_rfl)
      (case a2 => first | k_is | kit_is | rfl | kernel_rfl)
      (case i2 => first | k_is | kit_is | rfl | kernel_rfl)
      (case l2 => first | k_is | kit_is | rfl | kernel_rfl)
      (case c2 => first | k_is | kit_is | rfl | kernel_rfl)
      (case k2 => first | k_is | kit_is | rfl | kernel_rfl)
      (case a3 => first | k_is | kit_is | rfl | kernel_rfl)
      (case i3 => first | k_is | kit_is | rfl | kernel_rfl)
      (case l3 => first | k_is | kit_is | rfl | kernel_rfl)
      (case c3 => first | k_is | kit_is | rfl | kernel_rfl)
      (case k3 => first | k_is | kit_is | rfl | kernel_rfl)
      (case pg_Branch => first | k_is | kit_is | rfl | kernel_rfl)
      (case hd_Branch => first | k_is | kit_is | rfl | kernel_rfl)
      (case po_Branch => first | k_is | kit_is | rfl | kernel_rfl)
      (case sa_Branch => first | k_is | kit_is | rfl | kernel_rfl)
      (case mk_Branch => first | k_is | kit_is | rfl | kernel_rfl)
      (case kc_Branch => first | k_is | kit_is | rfl | kernel_rfl)
      (case n_Branch_box => first | k_is | kit_is | rfl | kernel_rfl)
      (case n_Branch_target => first | k_is | kit_is | rfl | kernel_rfl)
      (case a4 => first | k_is | kit_is | rfl | kernel_rfl)
      (case i4 => first | k_is | kit_is | rfl | kernel_rfl)
      (case l4 => first | k_is | kit_is | rfl | kernel_rfl)
      (case c4 => first | k_is | kit_is | rfl | kernel_rfl)
      (case k4 => first | k_is | kit_is | rfl | kernel_rfl)
      (case a5 => first | k_is | kit_is | rfl | kernel_rfl)
      (case i5 => first | k_is | kit_is | rfl | kernel_rfl)
      (case l5 => first | k_is | kit_is | rfl | kernel_rfl)
      (case c5 => first | k_is | kit_is | rfl | kernel_rfl)
      (case k5 => first | k_is | kit_is | rfl | kernel_rfl)
      (case a6 => first | k_is | kit_is | rfl | kernel_rfl)
      (case i6 => first | k_is | kit_is | rfl | kernel_rfl)
      (case l6 => first | k_is | kit_is | rfl | kernel_rfl)
      (case c6 => first | k_is | kit_is | rfl | kernel_rfl)
      (case k6 => first | k_is | kit_is | rfl | kernel_rfl)
      (case pg_Call => first | k_is | kit_is | rfl | kernel_rfl)
      (case hd_Call => first | k_is | kit_is | rfl | kernel_rfl)
      (case po_Call => first | k_is | kit_is | rfl | kernel_rfl)
      (case sa_Call => first | k_is | kit_is | rfl | kernel_rfl)
      (case mk_Call => first | k_is | kit_is | rfl | kernel_rfl)
      (case kc_Call => first | k_is | kit_is | rfl | kernel_rfl)
      (case n_Call_target => first | k_is | kit_is | rfl | kernel_rfl)
      (case a7 => first | k_is | kit_is | rfl | kernel_rfl)
      (case i7 => first | k_is | kit_is | rfl | kernel_rfl)
      (case l7 => first | k_is | kit_is | rfl | kernel_rfl)
      (case c7 => first | k_is | kit_is | rfl | kernel_rfl)
      (case k7 => first | k_is | kit_is | rfl | kernel_rfl)
      (case a8 => first | k_is | kit_is | rfl | kernel_rfl)
      (case i8 => first | k_is | kit_is | rfl | kernel_rfl)
      (case l8 => first | k_is | kit_is | rfl | kernel_rfl)
      (case c8 => first | k_is | kit_is | rfl | kernel_rfl)
      (case k8 => first | k_is | kit_is | rfl | kernel_rfl)
      (case a9 => first | k_is | kit_is | rfl | kernel_rfl)
      (case i9 => first | k_is | kit_is | rfl | kernel_rfl)
      (case l9 => first | k_is | kit_is | rfl | kernel_rfl)
      (case c9 => first | k_is | kit_is | rfl | kernel_rfl)
      (case k9 => first | k_is | kit_is | rfl | kernel_rfl)
      (case pg_Less => first | k_is | kit_is | rfl | kernel_rfl)
      (case hd_Less => first | k_is | kit_is | rfl | kernel_rfl)
      (case po_Less => first | k_is | kit_is | rfl | kernel_rfl)
      (case sa_Less => first | k_is | kit_is | rfl | kernel_rfl)
      (case mk_Less => first | k_is | kit_is | rfl | kernel_rfl)
      (case kc_Less => first | k_is | kit_is | rfl | kernel_rfl)
      (case n_Less_box => first | k_is | kit_is | rfl | kernel_rfl)
      (case n_Less_one => first | k_is | kit_is | rfl | kernel_rfl)
      (case n_Less_other => first | k_is | kit_is | rfl | kernel_rfl)
      (case a10 => first | k_is | kit_is | rfl | kernel_rfl)
      (case i10 => first | k_is | kit_is | rfl | kernel_rfl)
      (case l10 => first | k_is | kit_is | rfl | kernel_rfl)
      (case c10 => first | k_is | kit_is | rfl | kernel_rfl)
      (case k10 => first | k_is | kit_is | rfl | kernel_rfl)
      (case a11 => first | k_is | kit_is | rfl | kernel_rfl)
      (case i11 => first | k_is | kit_is | rfl | kernel_rfl)
      (case l11 => first | k_is | kit_is | rfl | kernel_rfl)
      (case c11 => first | k_is | kit_is | rfl | kernel_rfl)
      (case k11 => first | k_is | kit_is | rfl | kernel_rfl)
      (case a12 => first | k_is | kit_is | rfl | kernel_rfl)
      (case i12 => first | k_is | kit_is | rfl | kernel_rfl)
      (case l12 => first | k_is | kit_is | rfl | kernel_rfl)
      (case c12 => first | k_is | kit_is | rfl | kernel_rfl)
      (case k12 => first | k_is | kit_is | rfl | kernel_rfl)
      (case pg_Set => first | k_is | kit_is | rfl | kernel_rfl)
      (case hd_Set => first | k_is | kit_is | rfl | kernel_rfl)
      (case po_Set => first | k_is | kit_is | rfl | kernel_rfl)
      (case sa_Set => first | k_is | kit_is | rfl | kernel_rfl)
      (case mk_Set => first | k_is | kit_is | rfl | kernel_rfl)
      (case kc_Set => first | k_is | kit_is | rfl | kernel_rfl)
      (case n_Set_box => first | k_is | kit_is | rfl | kernel_rfl)
      (case n_Set_number => first | k_is | kit_is | rfl | kernel_rfl)
      (case a13 => first | k_is | kit_is | rfl | kernel_rfl)
      (case i13 => first | k_is | kit_is | rfl | kernel_rfl)
      (case l13 => first | k_is | kit_is | rfl | kernel_rfl)
      (case c13 => first | k_is | kit_is | rfl | kernel_rfl)
      (case k13 => first | k_is | kit_is | rfl | kernel_rfl)
      (case a14 => first | k_is | kit_is | rfl | kernel_rfl)
      (case i14 => first | k_is | kit_is | rfl | kernel_rfl)
      (case l14 => first | k_is | kit_is | rfl | kernel_rfl)
      (case c14 => first | k_is | kit_is | rfl | kernel_rfl)
      (case k14 => first | k_is | kit_is | rfl | kernel_rfl)
      (case a15 => first | k_is | kit_is | rfl | kernel_rfl)
      (case i15 => first | k_is | kit_is | rfl | kernel_rfl)
      (case l15 => first | k_is | kit_is | rfl | kernel_rfl)
      (case c15 => first | k_is | kit_is | rfl | kernel_rfl)
      (case k15 => first | k_is | kit_is | rfl | kernel_rfl)
      (case pg_Copy => first | k_is | kit_is | rfl | kernel_rfl)
      (case hd_Copy => first | k_is | kit_is | rfl | kernel_rfl)
      (case po_Copy => first | k_is | kit_is | rfl | kernel_rfl)
      (case sa_Copy => first | k_is | kit_is | rfl | kernel_rfl)
      (case mk_Copy => first | k_is | kit_is | rfl | kernel_rfl)
      (case kc_Copy => first | k_is | kit_is | rfl | kernel_rfl)
      (case n_Copy_box => first | k_is | kit_is | rfl | kernel_rfl)
      (case n_Copy_one => first | k_is | kit_is | rfl | kernel_rfl)
      (case a16 => first | k_is | kit_is | rfl | kernel_rfl)
      (case i16 => first | k_is | kit_is | rfl | kernel_rfl)
      (case l16 => first | k_is | kit_is | rfl | kernel_rfl)
      (case c16 => first | k_is | kit_is | rfl | kernel_rfl)
      (case k16 => first | k_is | kit_is | rfl | kernel_rfl)
      (case a17 => first | k_is | kit_is | rfl | kernel_rfl)
      (case i17 => first | k_is | kit_is | rfl | kernel_rfl)
      (case l17 => first | k_is | kit_is | rfl | kernel_rfl)
      (case c17 => first | k_is | kit_is | rfl | kernel_rfl)
      (case k17 => first | k_is | kit_is | rfl | kernel_rfl)
      (case a18 => first | k_is | kit_is | rfl | kernel_rfl)
      (case i18 => first | k_is | kit_is | rfl | kernel_rfl)
      (case l18 => first | k_is | kit_is | rfl | kernel_rfl)
      (case c18 => first | k_is | kit_is | rfl | kernel_rfl)
      (case k18 => first | k_is | kit_is | rfl | kernel_rfl)
      (case pg_Add => first | k_is | kit_is | rfl | kernel_rfl)
      (case hd_Add => first | k_is | kit_is | rfl | kernel_rfl)
      (case po_Add => first | k_is | kit_is | rfl | kernel_rfl)
      (case sa_Add => first | k_is | kit_is | rfl | kernel_rfl)
      (case mk_Add => first | k_is | kit_is | rfl | kernel_rfl)
      (case kc_Add => first | k_is | kit_is | rfl | kernel_rfl)
      (case n_Add_box => first | k_is | kit_is | rfl | kernel_rfl)
      (case n_Add_one => first | k_is | kit_is | rfl | kernel_rfl)
      (case n_Add_other => first | k_is | kit_is | rfl | kernel_rfl)
      (case a19 => first | k_is | kit_is | rfl | kernel_rfl)
      (case i19 => first | k_is | kit_is | rfl | kernel_rfl)
      (case l19 => first | k_is | kit_is | rfl | kernel_rfl)
      (case c19 => first | k_is | kit_is | rfl | kernel_rfl)
      (case k19 => first | k_is | kit_is | rfl | kernel_rfl)
      (case a20 => first | k_is | kit_is | rfl | kernel_rfl)
      (case i20 => first | k_is | kit_is | rfl | kernel_rfl)
      (case l20 => first | k_is | kit_is | rfl | kernel_rfl)
      (case c20 => first | k_is | kit_is | rfl | kernel_rfl)
      (case k20 => first | k_is | kit_is | rfl | kernel_rfl)
      (case a21 => first | k_is | kit_is | rfl | kernel_rfl)
      (case i21 => first | k_is | kit_is | rfl | kernel_rfl)
      (case l21 => first | k_is | kit_is | rfl | kernel_rfl)
      (case c21 => first | k_is | kit_is | rfl | kernel_rfl)
      (case k21 => first | k_is | kit_is | rfl | kernel_rfl)
      (case pg_Sub => first | k_is | kit_is | rfl | kernel_rfl)
      (case hd_Sub => first | k_is | kit_is | rfl | kernel_rfl)
      (case po_Sub => first | k_is | kit_is | rfl | kernel_rfl)
      (case sa_Sub => first | k_is | kit_is | rfl | kernel_rfl)
      (case mk_Sub => first | k_is | kit_is | rfl | kernel_rfl)
      (case kc_Sub => first | k_is | kit_is | rfl | kernel_rfl)
      (case n_Sub_box => first | k_is | kit_is | rfl | kernel_rfl)
      (case n_Sub_one => first | k_is | kit_is | rfl | kernel_rfl)
      (case n_Sub_other => first | k_is | kit_is | rfl | kernel_rfl)
      (case a22 => first | k_is | kit_is | rfl | kernel_rfl)
      (case i22 => first | k_is | kit_is | rfl | kernel_rfl)
      (case l22 => first | k_is | kit_is | rfl | kernel_rfl)
      (case c22 => first | k_is | kit_is | rfl | kernel_rfl)
      (case k22 => first | k_is | kit_is | rfl | kernel_rfl)
      (case a23 => first | k_is | kit_is | rfl | kernel_rfl)
      (case i23 => first | k_is | kit_is | rfl | kernel_rfl)
      (case l23 => first | k_is | kit_is | rfl | kernel_rfl)
      (case c23 => first | k_is | kit_is | rfl | kernel_rfl)
      (case k23 => first | k_is | kit_is | rfl | kernel_rfl)
      (case a24 => first | k_is | kit_is | rfl | kernel_rfl)
      (case i24 => first | k_is | kit_is | rfl | kernel_rfl)
      (case l24 => first | k_is | kit_is | rfl | kernel_rfl)
      (case c24 => first | k_is | kit_is | rfl | kernel_rfl)
      (case k24 => first | k_is | kit_is | rfl | kernel_rfl)
      (case pg_Mul => first | k_is | kit_is | rfl | kernel_rfl)
      (case hd_Mul => first | k_is | kit_is | rfl | kernel_rfl)
      (case po_Mul => first | k_is | kit_is | rfl | kernel_rfl)
      (case sa_Mul => first | k_is | kit_is | rfl | kernel_rfl)
      (case mk_Mul => first | k_is | kit_is | rfl | kernel_rfl)
      (case kc_Mul => first | k_is | kit_is | rfl | kernel_rfl)
      (case n_Mul_box => first | k_is | kit_is | rfl | kernel_rfl)
      (case n_Mul_one => first | k_is | kit_is | rfl | kernel_rfl)
      (case n_Mul_other => first | k_is | kit_is | rfl | kernel_rfl)
      (case a25 => first | k_is | kit_is | rfl | kernel_rfl)
      (case i25 => first | k_is | kit_is | rfl | kernel_rfl)
      (case l25 => first | k_is | kit_is | rfl | kernel_rfl)
      (case c25 => first | k_is | kit_is | rfl | kernel_rfl)
      (case k25 => first | k_is | kit_is | rfl | kernel_rfl)
      (case a26 => first | k_is | kit_is | rfl | kernel_rfl)
      (case i26 => first | k_is | kit_is | rfl | kernel_rfl)
      (case l26 => first | k_is | kit_is | rfl | kernel_rfl)
      (case c26 => first | k_is | kit_is | rfl | kernel_rfl)
      (case k26 => first | k_is | kit_is | rfl | kernel_rfl)
      (case a27 => first | k_is | kit_is | rfl | kernel_rfl)
      (case i27 => first | k_is | kit_is | rfl | kernel_rfl)
      (case l27 => first | k_is | kit_is | rfl | kernel_rfl)
      (case c27 => first | k_is | kit_is | rfl | kernel_rfl)
      (case k27 => first | k_is | kit_is | rfl | kernel_rfl)
      (case pg_Drop => first | k_is | kit_is | rfl | kernel_rfl)
      (case hd_Drop => first | k_is | kit_is | rfl | kernel_rfl)
      (case po_Drop => first | k_is | kit_is | rfl | kernel_rfl)
      (case sa_Drop => first | k_is | kit_is | rfl | kernel_rfl)
      (case mk_Drop => first | k_is | kit_is | rfl | kernel_rfl)
      (case kc_Drop => first | k_is | kit_is | rfl | kernel_rfl)
      (case n_Drop_box => first | k_is | kit_is | rfl | kernel_rfl)
      (case a28 => first | k_is | kit_is | rfl | kernel_rfl)
      (case i28 => first | k_is | kit_is | rfl | kernel_rfl)
      (case l28 => first | k_is | kit_is | rfl | kernel_rfl)
      (case c28 => first | k_is | kit_is | rfl | kernel_rfl)
      (case k28 => first | k_is | kit_is | rfl | kernel_rfl)
      (case a29 => first | k_is | kit_is | rfl | kernel_rfl)
      (case i29 => first | k_is | kit_is | rfl | kernel_rfl)
      (case l29 => first | k_is | kit_is | rfl | kernel_rfl)
      (case c29 => first | k_is | kit_is | rfl | kernel_rfl)
      (case k29 => first | k_is | kit_is | rfl | kernel_rfl)
      (case a30 => first | k_is | kit_is | rfl | kernel_rfl)
      (case i30 => first | k_is | kit_is | rfl | kernel_rfl)
      (case l30 => first | k_is | kit_is | rfl | kernel_rfl)
      (case c30 => first | k_is | kit_is | rfl | kernel_rfl)
      (case k30 => first | k_is | kit_is | rfl | kernel_rfl)
      (case pg_Grow => first | k_is | kit_is | rfl | kernel_rfl)
      (case hd_Grow => first | k_is | kit_is | rfl | kernel_rfl)
      (case po_Grow => first | k_is | kit_is | rfl | kernel_rfl)
      (case sa_Grow => first | k_is | kit_is | rfl | kernel_rfl)
      (case mk_Grow => first | k_is | kit_is | rfl | kernel_rfl)
      (case kc_Grow => first | k_is | kit_is | rfl | kernel_rfl)
      (case n_Grow_many => first | k_is | kit_is | rfl | kernel_rfl)
      (case a31 => first | k_is | kit_is | rfl | kernel_rfl)
      (case i31 => first | k_is | kit_is | rfl | kernel_rfl)
      (case l31 => first | k_is | kit_is | rfl | kernel_rfl)
      (case c31 => first | k_is | kit_is | rfl | kernel_rfl)
      (case k31 => first | k_is | kit_is | rfl | kernel_rfl)
      (case a32 => first | k_is | kit_is | rfl | kernel_rfl)
      (case i32 => first | k_is | kit_is | rfl | kernel_rfl)
      (case l32 => first | k_is | kit_is | rfl | kernel_rfl)
      (case c32 => first | k_is | kit_is | rfl | kernel_rfl)
      (case k32 => first | k_is | kit_is | rfl | kernel_rfl)
      (case a33 => first | k_is | kit_is | rfl | kernel_rfl)
      (case i33 => first | k_is | kit_is | rfl | kernel_rfl)
      (case l33 => first | k_is | kit_is | rfl | kernel_rfl)
      (case c33 => first | k_is | kit_is | rfl | kernel_rfl)
      (case k33 => first | k_is | kit_is | rfl | kernel_rfl)
      (case pg_Shrink => first | k_is | kit_is | rfl | kernel_rfl)
      (case hd_Shrink => first | k_is | kit_is | rfl | kernel_rfl)
      (case po_Shrink => first | k_is | kit_is | rfl | kernel_rfl)
      (case sa_Shrink => first | k_is | kit_is | rfl | kernel_rfl)
      (case mk_Shrink => first | k_is | kit_is | rfl | kernel_rfl)
      (case kc_Shrink => first | k_is | kit_is | rfl | kernel_rfl)
      (case n_Shrink_many => first | k_is | kit_is | rfl | kernel_rfl)
      (case a34 => first | k_is | kit_is | rfl | kernel_rfl)
      (case i34 => first | k_is | kit_is | rfl | kernel_rfl)
      (case l34 => first | k_is | kit_is | rfl | kernel_rfl)
      (case c34 => first | k_is | kit_is | rfl | kernel_rfl)
      (case k34 => first | k_is | kit_is | rfl | kernel_rfl)
      (case a35 => first | k_is | kit_is | rfl | kernel_rfl)
      (case i35 => first | k_is | kit_is | rfl | kernel_rfl)
      (case l35 => first | k_is | kit_is | rfl | kernel_rfl)
      (case c35 => first | k_is | kit_is | rfl | kernel_rfl)
      (case k35 => first | k_is | kit_is | rfl | kernel_rfl)
      (case a36 => first | k_is | kit_is | rfl | kernel_rfl)
      (case i36 => first | k_is | kit_is | rfl | kernel_rfl)
      (case l36 => first | k_is | kit_is | rfl | kernel_rfl)
      (case c36 => first | k_is | kit_is | rfl | kernel_rfl)
      (case k36 => first | k_is | kit_is | rfl | kernel_rfl)
      (case pg_Put => first | k_is | kit_is | rfl | kernel_rfl)
      (case hd_Put => first | k_is | kit_is | rfl | kernel_rfl)
      (case po_Put => first | k_is | kit_is | rfl | kernel_rfl)
      (case sa_Put => first | k_is | kit_is | rfl | kernel_rfl)
      (case mk_Put => first | k_is | kit_is | rfl | kernel_rfl)
      (case kc_Put => first | k_is | kit_is | rfl | kernel_rfl)
      (case n_Put_box => first | k_is | kit_is | rfl | kernel_rfl)
      (case n_Put_cell => first | k_is | kit_is | rfl | kernel_rfl)
      (case a37 => first | k_is | kit_is | rfl | kernel_rfl)
      (case i37 => first | k_is | kit_is | rfl | kernel_rfl)
      (case l37 => first | k_is | kit_is | rfl | kernel_rfl)
      (case c37 => first | k_is | kit_is | rfl | kernel_rfl)
      (case k37 => first | k_is | kit_is | rfl | kernel_rfl)
      (case a38 => first | k_is | kit_is | rfl | kernel_rfl)
      (case i38 => first | k_is | kit_is | rfl | kernel_rfl)
      (case l38 => first | k_is | kit_is | rfl | kernel_rfl)
      (case c38 => first | k_is | kit_is | rfl | kernel_rfl)
      (case k38 => first | k_is | kit_is | rfl | kernel_rfl)
      (case a39 => first | k_is | kit_is | rfl | kernel_rfl)
      (case i39 => first | k_is | kit_is | rfl | kernel_rfl)
      (case l39 => first | k_is | kit_is | rfl | kernel_rfl)
      (case c39 => first | k_is | kit_is | rfl | kernel_rfl)
      (case k39 => first | k_is | kit_is | rfl | kernel_rfl)
      (case pg_Get => first | k_is | kit_is | rfl | kernel_rfl)
      (case hd_Get => first | k_is | kit_is | rfl | kernel_rfl)
      (case po_Get => first | k_is | kit_is | rfl | kernel_rfl)
      (case sa_Get => first | k_is | kit_is | rfl | kernel_rfl)
      (case mk_Get => first | k_is | kit_is | rfl | kernel_rfl)
      (case kc_Get => first | k_is | kit_is | rfl | kernel_rfl)
      (case n_Get_box => first | k_is | kit_is | rfl | kernel_rfl)
      (case n_Get_cell => first | k_is | kit_is | rfl | kernel_rfl)
      (case a40 => first | k_is | kit_is | rfl | kernel_rfl)
      (case i40 => first | k_is | kit_is | rfl | kernel_rfl)
      (case l40 => first | k_is | kit_is | rfl | kernel_rfl)
      (case c40 => first | k_is | kit_is | rfl | kernel_rfl)
      (case k40 => first | k_is | kit_is | rfl | kernel_rfl)
      (case a41 => first | k_is | kit_is | rfl | kernel_rfl)
      (case i41 => first | k_is | kit_is | rfl | kernel_rfl)
      (case l41 => first | k_is | kit_is | rfl | kernel_rfl)
      (case c41 => first | k_is | kit_is | rfl | kernel_rfl)
      (case k41 => first | k_is | kit_is | rfl | kernel_rfl)
      (case a42 => first | k_is | kit_is | rfl | kernel_rfl)
      (case i42 => first | k_is | kit_is | rfl | kernel_rfl)
      (case l42 => first | k_is | kit_is | rfl | kernel_rfl)
      (case c42 => first | k_is | kit_is | rfl | kernel_rfl)
      (case k42 => first | k_is | kit_is | rfl | kernel_rfl)
      (case pg_Back => first | k_is | kit_is | rfl | kernel_rfl)
      (case hd_Back => first | k_is | kit_is | rfl | kernel_rfl)
      (case po_Back => first | k_is | kit_is | rfl | kernel_rfl)
      (case sa_Back => first | k_is | kit_is | rfl | kernel_rfl)
      (case mk_Back => first | k_is | kit_is | rfl | kernel_rfl)
      (case kc_Back => first | k_is | kit_is | rfl | kernel_rfl)
      (case n_Back_box => first | k_is | kit_is | rfl | kernel_rfl)
      (case a43 => first | k_is | kit_is | rfl | kernel_rfl)
      (case i43 => first | k_is | kit_is | rfl | kernel_rfl)
      (case l43 => first | k_is | kit_is | rfl | kernel_rfl)
      (case c43 => first | k_is | kit_is | rfl | kernel_rfl)
      (case k43 => first | k_is | kit_is | rfl | kernel_rfl)
      (case a44 => first | k_is | kit_is | rfl | kernel_rfl)
      (case i44 => first | k_is | kit_is | rfl | kernel_rfl)
      (case l44 => first | k_is | kit_is | rfl | kernel_rfl)
      (case c44 => first | k_is | kit_is | rfl | kernel_rfl)
      (case k44 => first | k_is | kit_is | rfl | kernel_rfl)
      (case a45 => first | k_is | kit_is | rfl | kernel_rfl)
      (case i45 => first | k_is | kit_is | rfl | kernel_rfl)
      (case l45 => first | k_is | kit_is | rfl | kernel_rfl)
      (case c45 => first | k_is | kit_is | rfl | kernel_rfl)
      (case k45 => first | k_is | kit_is | rfl | kernel_rfl)
      (case ha_Set => first | k_is | kit_is | rfl | kernel_rfl)
      (case hm_Set => first | k_is | kit_is | rfl | kernel_rfl)
      (case is_Set_Set => first | k_is | kit_is | rfl | kernel_rfl)
      (case is_Set_Copy => first | k_is | kit_is | rfl | kernel_rfl)
      (case is_Set_Add => first | k_is | kit_is | rfl | kernel_rfl)
      (case is_Set_Sub => first | k_is | kit_is | rfl | kernel_rfl)
      (case is_Set_Mul => first | k_is | kit_is | rfl | kernel_rfl)
      (case is_Set_Less => first | k_is | kit_is | rfl | kernel_rfl)
      (case is_Set_Grow => first | k_is | kit_is | rfl | kernel_rfl)
      (case is_Set_Shrink => first | k_is | kit_is | rfl | kernel_rfl)
      (case is_Set_Put => first | k_is | kit_is | rfl | kernel_rfl)
      (case is_Set_Get => first | k_is | kit_is | rfl | kernel_rfl)
      (case is_Set_Jump => first | k_is | kit_is | rfl | kernel_rfl)
      (case is_Set_Branch => first | k_is | kit_is | rfl | kernel_rfl)
      (case is_Set_Call => first | k_is | kit_is | rfl | kernel_rfl)
      (case is_Set_Back => first | k_is | kit_is | rfl | kernel_rfl)
      (case is_Set_Drop => first | k_is | kit_is | rfl | kernel_rfl)
      (case is_Set_Row => first | k_is | kit_is | rfl | kernel_rfl)
      (case ha_Copy => first | k_is | kit_is | rfl | kernel_rfl)
      (case hm_Copy => first | k_is | kit_is | rfl | kernel_rfl)
      (case is_Copy_Set => first | k_is | kit_is | rfl | kernel_rfl)
      (case is_Copy_Copy => first | k_is | kit_is | rfl | kernel_rfl)
      (case is_Copy_Add => first | k_is | kit_is | rfl | kernel_rfl)
      (case is_Copy_Sub => first | k_is | kit_is | rfl | kernel_rfl)
      (case is_Copy_Mul => first | k_is | kit_is | rfl | kernel_rfl)
      (case is_Copy_Less => first | k_is | kit_is | rfl | kernel_rfl)
      (case is_Copy_Grow => first | k_is | kit_is | rfl | kernel_rfl)
      (case is_Copy_Shrink => first | k_is | kit_is | rfl | kernel_rfl)
      (case is_Copy_Put => first | k_is | kit_is | rfl | kernel_rfl)
      (case is_Copy_Get => first | k_is | kit_is | rfl | kernel_rfl)
      (case is_Copy_Jump => first | k_is | kit_is | rfl | kernel_rfl)
      (case is_Copy_Branch => first | k_is | kit_is | rfl | kernel_rfl)
      (case is_Copy_Call => first | k_is | kit_is | rfl | kernel_rfl)
      (case is_Copy_Back => first | k_is | kit_is | rfl | kernel_rfl)
      (case is_Copy_Drop => first | k_is | kit_is | rfl | kernel_rfl)
      (case is_Copy_Row => first | k_is | kit_is | rfl | kernel_rfl)
      (case ha_Add => first | k_is | kit_is | rfl | kernel_rfl)
      (case hm_Add => first | k_is | kit_is | rfl | kernel_rfl)
      (case is_Add_Set => first | k_is | kit_is | rfl | kernel_rfl)
      (case is_Add_Copy => first | k_is | kit_is | rfl | kernel_rfl)
      (case is_Add_Add => first | k_is | kit_is | rfl | kernel_rfl)
      (case is_Add_Sub => first | k_is | kit_is | rfl | kernel_rfl)
      (case is_Add_Mul => first | k_is | kit_is | rfl | kernel_rfl)
      (case is_Add_Less => first | k_is | kit_is | rfl | kernel_rfl)
      (case is_Add_Grow => first | k_is | kit_is | rfl | kernel_rfl)
      (case is_Add_Shrink => first | k_is | kit_is | rfl | kernel_rfl)
      (case is_Add_Put => first | k_is | kit_is | rfl | kernel_rfl)
      (case is_Add_Get => first | k_is | kit_is | rfl | kernel_rfl)
      (case is_Add_Jump => first | k_is | kit_is | rfl | kernel_rfl)
      (case is_Add_Branch => first | k_is | kit_is | rfl | kernel_rfl)
      (case is_Add_Call => first | k_is | kit_is | rfl | kernel_rfl)
      (case is_Add_Back => first | k_is | kit_is | rfl | kernel_rfl)
      (case is_Add_Drop => first | k_is | kit_is | rfl | kernel_rfl)
      (case is_Add_Row => first | k_is | kit_is | rfl | kernel_rfl)
      (case ha_Sub => first | k_is | kit_is | rfl | kernel_rfl)
      (case hm_Sub => first | k_is | kit_is | rfl | kernel_rfl)
      (case is_Sub_Set => first | k_is | kit_is | rfl | kernel_rfl)
      (case is_Sub_Copy => first | k_is | kit_is | rfl | kernel_rfl)
      (case is_Sub_Add => first | k_is | kit_is | rfl | kernel_rfl)
      (case is_Sub_Sub => first | k_is | kit_is | rfl | kernel_rfl)
      (case is_Sub_Mul => first | k_is | kit_is | rfl | kernel_rfl)
      (case is_Sub_Less => first | k_is | kit_is | rfl | kernel_rfl)
      (case is_Sub_Grow => first | k_is | kit_is | rfl | kernel_rfl)
      (case is_Sub_Shrink => first | k_is | kit_is | rfl | kernel_rfl)
      (case is_Sub_Put => first | k_is | kit_is | rfl | kernel_rfl)
      (case is_Sub_Get => first | k_is | kit_is | rfl | kernel_rfl)
      (case is_Sub_Jump => first | k_is | kit_is | rfl | kernel_rfl)
      (case is_Sub_Branch => first | k_is | kit_is | rfl | kernel_rfl)
      (case is_Sub_Call => first | k_is | kit_is | rfl | kernel_rfl)
      (case is_Sub_Back => first | k_is | kit_is | rfl | kernel_rfl)
      (case is_Sub_Drop => first | k_is | kit_is | rfl | kernel_rfl)
      (case is_Sub_Row => first | k_is | kit_is | rfl | kernel_rfl)
      (case ha_Mul => first | k_is | kit_is | rfl | kernel_rfl)
      (case hm_Mul => first | k_is | kit_is | rfl | kernel_rfl)
      (case is_Mul_Set => first | k_is | kit_is | rfl | kernel_rfl)
      (case is_Mul_Copy => first | k_is | kit_is | rfl | kernel_rfl)
      (case is_Mul_Add => first | k_is | kit_is | rfl | kernel_rfl)
      (case is_Mul_Sub => first | k_is | kit_is | rfl | kernel_rfl)
      (case is_Mul_Mul => first | k_is | kit_is | rfl | kernel_rfl)
      (case is_Mul_Less => first | k_is | kit_is | rfl | kernel_rfl)
      (case is_Mul_Grow => first | k_is | kit_is | rfl | kernel_rfl)
      (case is_Mul_Shrink => first | k_is | kit_is | rfl | kernel_rfl)
      (case is_Mul_Put => first | k_is | kit_is | rfl | kernel_rfl)
      (case is_Mul_Get => first | k_is | kit_is | rfl | kernel_rfl)
      (case is_Mul_Jump => first | k_is | kit_is | rfl | kernel_rfl)
      (case is_Mul_Branch => first | k_is | kit_is | rfl | kernel_rfl)
      (case is_Mul_Call => first | k_is | kit_is | rfl | kernel_rfl)
      (case is_Mul_Back => first | k_is | kit_is | rfl | kernel_rfl)
      (case is_Mul_Drop => first | k_is | kit_is | rfl | kernel_rfl)
      (case is_Mul_Row => first | k_is | kit_is | rfl | kernel_rfl)
      (case ha_Less => first | k_is | kit_is | rfl | kernel_rfl)
      (case hm_Less => first | k_is | kit_is | rfl | kernel_rfl)
      (case is_Less_Set => first | k_is | kit_is | rfl | kernel_rfl)
      (case is_Less_Copy => first | k_is | kit_is | rfl | kernel_rfl)
      (case is_Less_Add => first | k_is | kit_is | rfl | kernel_rfl)
      (case is_Less_Sub => first | k_is | kit_is | rfl | kernel_rfl)
      (case is_Less_Mul => first | k_is | kit_is | rfl | kernel_rfl)
      (case is_Less_Less => first | k_is | kit_is | rfl | kernel_rfl)
      (case is_Less_Grow => first | k_is | kit_is | rfl | kernel_rfl)
      (case is_Less_Shrink => first | k_is | kit_is | rfl | kernel_rfl)
      (case is_Less_Put => first | k_is | kit_is | rfl | kernel_rfl)
      (case is_Less_Get => first | k_is | kit_is | rfl | kernel_rfl)
      (case is_Less_Jump => first | k_is | kit_is | rfl | kernel_rfl)
      (case is_Less_Branch => first | k_is | kit_is | rfl | kernel_rfl)
      (case is_Less_Call => first | k_is | kit_is | rfl | kernel_rfl)
      (case is_Less_Back => first | k_is | kit_is | rfl | kernel_rfl)
      (case is_Less_Drop => first | k_is | kit_is | rfl | kernel_rfl)
      (case is_Less_Row => first | k_is | kit_is | rfl | kernel_rfl)
      (case ha_Grow => first | k_is | kit_is | rfl | kernel_rfl)
      (case hm_Grow => first | k_is | kit_is | rfl | kernel_rfl)
      (case is_Grow_Set => first | k_is | kit_is | rfl | kernel_rfl)
      (case is_Grow_Copy => first | k_is | kit_is | rfl | kernel_rfl)
      (case is_Grow_Add => first | k_is | kit_is | rfl | kernel_rfl)
      (case is_Grow_Sub => first | k_is | kit_is | rfl | kernel_rfl)
      (case is_Grow_Mul => first | k_is | kit_is | rfl | kernel_rfl)
      (case is_Grow_Less => first | k_is | kit_is | rfl | kernel_rfl)
      (case is_Grow_Grow => first | k_is | kit_is | rfl | kernel_rfl)
      (case is_Grow_Shrink => first | k_is | kit_is | rfl | kernel_rfl)
      (case is_Grow_Put => first | k_is | kit_is | rfl | kernel_rfl)
      (case is_Grow_Get => first | k_is | kit_is | rfl | kernel_rfl)
      (case is_Grow_Jump => first | k_is | kit_is | rfl | kernel_rfl)
      (case is_Grow_Branch => first | k_is | kit_is | rfl | kernel_rfl)
      (case is_Grow_Call => first | k_is | kit_is | rfl | kernel_rfl)
      (case is_Grow_Back => first | k_is | kit_is | rfl | kernel_rfl)
      (case is_Grow_Drop => first | k_is | kit_is | rfl | kernel_rfl)
      (case is_Grow_Row => first | k_is | kit_is | rfl | kernel_rfl)
      (case ha_Shrink => first | k_is | kit_is | rfl | kernel_rfl)
      (case hm_Shrink => first | k_is | kit_is | rfl | kernel_rfl)
      (case is_Shrink_Set => first | k_is | kit_is | rfl | kernel_rfl)
      (case is_Shrink_Copy => first | k_is | kit_is | rfl | kernel_rfl)
      (case is_Shrink_Add => first | k_is | kit_is | rfl | kernel_rfl)
      (case is_Shrink_Sub => first | k_is | kit_is | rfl | kernel_rfl)
      (case is_Shrink_Mul => first | k_is | kit_is | rfl | kernel_rfl)
      (case is_Shrink_Less => first | k_is | kit_is | rfl | kernel_rfl)
      (case is_Shrink_Grow => first | k_is | kit_is | rfl | kernel_rfl)
      (case is_Shrink_Shrink => first | k_is | kit_is | rfl | kernel_rfl)
      (case is_Shrink_Put => first | k_is | kit_is | rfl | kernel_rfl)
      (case is_Shrink_Get => first | k_is | kit_is | rfl | kernel_rfl)
      (case is_Shrink_Jump => first | k_is | kit_is | rfl | kernel_rfl)
      (case is_Shrink_Branch => first | k_is | kit_is | rfl | kernel_rfl)
      (case is_Shrink_Call => first | k_is | kit_is | rfl | kernel_rfl)
      (case is_Shrink_Back => first | k_is | kit_is | rfl | kernel_rfl)
      (case is_Shrink_Drop => first | k_is | kit_is | rfl | kernel_rfl)
      (case is_Shrink_Row => first | k_is | kit_is | rfl | kernel_rfl)
      (case ha_Put => first | k_is | kit_is | rfl | kernel_rfl)
      (case hm_Put => first | k_is | kit_is | rfl | kernel_rfl)
      (case is_Put_Set => first | k_is | kit_is | rfl | kernel_rfl)
      (case is_Put_Copy => first | k_is | kit_is | rfl | kernel_rfl)
      (case is_Put_Add => first | k_is | kit_is | rfl | kernel_rfl)
      (case is_Put_Sub => first | k_is | kit_is | rfl | kernel_rfl)
      (case is_Put_Mul => first | k_is | kit_is | rfl | kernel_rfl)
      (case is_Put_Less => first | k_is | kit_is | rfl | kernel_rfl)
      (case is_Put_Grow => first | k_is | kit_is | rfl | kernel_rfl)
      (case is_Put_Shrink => first | k_is | kit_is | rfl | kernel_rfl)
      (case is_Put_Put => first | k_is | kit_is | rfl | kernel_rfl)
      (case is_Put_Get => first | k_is | kit_is | rfl | kernel_rfl)
      (case is_Put_Jump => first | k_is | kit_is | rfl | kernel_rfl)
      (case is_Put_Branch => first | k_is | kit_is | rfl | kernel_rfl)
      (case is_Put_Call => first | k_is | kit_is | rfl | kernel_rfl)
      (case is_Put_Back => first | k_is | kit_is | rfl | kernel_rfl)
      (case is_Put_Drop => first | k_is | kit_is | rfl | kernel_rfl)
      (case is_Put_Row => first | k_is | kit_is | rfl | kernel_rfl)
      (case ha_Get => first | k_is | kit_is | rfl | kernel_rfl)
      (case hm_Get => first | k_is | kit_is | rfl | kernel_rfl)
      (case is_Get_Set => first | k_is | kit_is | rfl | kernel_rfl)
      (case is_Get_Copy => first | k_is | kit_is | rfl | kernel_rfl)
      (case is_Get_Add => first | k_is | kit_is | rfl | kernel_rfl)
      (case is_Get_Sub => first | k_is | kit_is | rfl | kernel_rfl)
      (case is_Get_Mul => first | k_is | kit_is | rfl | kernel_rfl)
      (case is_Get_Less => first | k_is | kit_is | rfl | kernel_rfl)
      (case is_Get_Grow => first | k_is | kit_is | rfl | kernel_rfl)
      (case is_Get_Shrink => first | k_is | kit_is | rfl | kernel_rfl)
      (case is_Get_Put => first | k_is | kit_is | rfl | kernel_rfl)
      (case is_Get_Get => first | k_is | kit_is | rfl | kernel_rfl)
      (case is_Get_Jump => first | k_is | kit_is | rfl | kernel_rfl)
      (case is_Get_Branch => first | k_is | kit_is | rfl | kernel_rfl)
      (case is_Get_Call => first | k_is | kit_is | rfl | kernel_rfl)
      (case is_Get_Back => first | k_is | kit_is | rfl | kernel_rfl)
      (case is_Get_Drop => first | k_is | kit_is | rfl | kernel_rfl)
      (case is_Get_Row => first | k_is | kit_is | rfl | kernel_rfl)
      (case ha_Jump => first | k_is | kit_is | rfl | kernel_rfl)
      (case hm_Jump => first | k_is | kit_is | rfl | kernel_rfl)
      (case is_Jump_Set => first | k_is | kit_is | rfl | kernel_rfl)
      (case is_Jump_Copy => first | k_is | kit_is | rfl | kernel_rfl)
      (case is_Jump_Add => first | k_is | kit_is | rfl | kernel_rfl)
      (case is_Jump_Sub => first | k_is | kit_is | rfl | kernel_rfl)
      (case is_Jump_Mul => first | k_is | kit_is | rfl | kernel_rfl)
      (case is_Jump_Less => first | k_is | kit_is | rfl | kernel_rfl)
      (case is_Jump_Grow => first | k_is | kit_is | rfl | kernel_rfl)
      (case is_Jump_Shrink => first | k_is | kit_is | rfl | kernel_rfl)
      (case is_Jump_Put => first | k_is | kit_is | rfl | kernel_rfl)
      (case is_Jump_Get => first | k_is | kit_is | rfl | kernel_rfl)
      (case is_Jump_Jump => first | k_is | kit_is | rfl | kernel_rfl)
      (case is_Jump_Branch => first | k_is | kit_is | rfl | kernel_rfl)
      (case is_Jump_Call => first | k_is | kit_is | rfl | kernel_rfl)
      (case is_Jump_Back => first | k_is | kit_is | rfl | kernel_rfl)
      (case is_Jump_Drop => first | k_is | kit_is | rfl | kernel_rfl)
      (case is_Jump_Row => first | k_is | kit_is | rfl | kernel_rfl)
      (case ha_Branch => first | k_is | kit_is | rfl | kernel_rfl)
      (case hm_Branch => first | k_is | kit_is | rfl | kernel_rfl)
      (case is_Branch_Set => first | k_is | kit_is | rfl | kernel_rfl)
      (case is_Branch_Copy => first | k_is | kit_is | rfl | kernel_rfl)
      (case is_Branch_Add => first | k_is | kit_is | rfl | kernel_rfl)
      (case is_Branch_Sub => first | k_is | kit_is | rfl | kernel_rfl)
      (case is_Branch_Mul => first | k_is | kit_is | rfl | kernel_rfl)
      (case is_Branch_Less => first | k_is | kit_is | rfl | kernel_rfl)
      (case is_Branch_Grow => first | k_is | kit_is | rfl | kernel_rfl)
      (case is_Branch_Shrink => first | k_is | kit_is | rfl | kernel_rfl)
      (case is_Branch_Put => first | k_is | kit_is | rfl | kernel_rfl)
      (case is_Branch_Get => first | k_is | kit_is | rfl | kernel_rfl)
      (case is_Branch_Jump => first | k_is | kit_is | rfl | kernel_rfl)
      (case is_Branch_Branch => first | k_is | kit_is | rfl | kernel_rfl)
      (case is_Branch_Call => first | k_is | kit_is | rfl | kernel_rfl)
      (case is_Branch_Back => first | k_is | kit_is | rfl | kernel_rfl)
      (case is_Branch_Drop => first | k_is | kit_is | rfl | kernel_rfl)
      (case is_Branch_Row => first | k_is | kit_is | rfl | kernel_rfl)
      (case ha_Call => first | k_is | kit_is | rfl | kernel_rfl)
      (case hm_Call => first | k_is | kit_is | rfl | kernel_rfl)
      (case is_Call_Set => first | k_is | kit_is | rfl | kernel_rfl)
      (case is_Call_Copy => first | k_is | kit_is | rfl | kernel_rfl)
      (case is_Call_Add => first | k_is | kit_is | rfl | kernel_rfl)
      (case is_Call_Sub => first | k_is | kit_is | rfl | kernel_rfl)
      (case is_Call_Mul => first | k_is | kit_is | rfl | kernel_rfl)
      (case is_Call_Less => first | k_is | kit_is | rfl | kernel_rfl)
      (case is_Call_Grow => first | k_is | kit_is | rfl | kernel_rfl)
      (case is_Call_Shrink => first | k_is | kit_is | rfl | kernel_rfl)
      (case is_Call_Put => first | k_is | kit_is | rfl | kernel_rfl)
      (case is_Call_Get => first | k_is | kit_is | rfl | kernel_rfl)
      (case is_Call_Jump => first | k_is | kit_is | rfl | kernel_rfl)
      (case is_Call_Branch => first | k_is | kit_is | rfl | kernel_rfl)
      (case is_Call_Call => first | k_is | kit_is | rfl | kernel_rfl)
      (case is_Call_Back => first | k_is | kit_is | rfl | kernel_rfl)
      (case is_Call_Drop => first | k_is | kit_is | rfl | kernel_rfl)
      (case is_Call_Row => first | k_is | kit_is | rfl | kernel_rfl)
      (case ha_Back => first | k_is | kit_is | rfl | kernel_rfl)
      (case hm_Back => first | k_is | kit_is | rfl | kernel_rfl)
      (case is_Back_Set => first | k_is | kit_is | rfl | kernel_rfl)
      (case is_Back_Copy => first | k_is | kit_is | rfl | kernel_rfl)
      (case is_Back_Add => first | k_is | kit_is | rfl | kernel_rfl)
      (case is_Back_Sub => first | k_is | kit_is | rfl | kernel_rfl)
      (case is_Back_Mul => first | k_is | kit_is | rfl | kernel_rfl)
      (case is_Back_Less => first | k_is | kit_is | rfl | kernel_rfl)
      (case is_Back_Grow => first | k_is | kit_is | rfl | kernel_rfl)
      (case is_Back_Shrink => first | k_is | kit_is | rfl | kernel_rfl)
      (case is_Back_Put => first | k_is | kit_is | rfl | kernel_rfl)
      (case is_Back_Get => first | k_is | kit_is | rfl | kernel_rfl)
      (case is_Back_Jump => first | k_is | kit_is | rfl | kernel_rfl)
      (case is_Back_Branch => first | k_is | kit_is | rfl | kernel_rfl)
      (case is_Back_Call => first | k_is | kit_is | rfl | kernel_rfl)
      (case is_Back_Back => first | k_is | kit_is | rfl | kernel_rfl)
      (case is_Back_Drop => first | k_is | kit_is | rfl | kernel_rfl)
      (case is_Back_Row => first | k_is | kit_is | rfl | kernel_rfl)
      (case ha_Drop => first | k_is | kit_is | rfl | kernel_rfl)
      (case hm_Drop => first | k_is | kit_is | rfl | kernel_rfl)
      (case is_Drop_Set => first | k_is | kit_is | rfl | kernel_rfl)
      (case is_Drop_Copy => first | k_is | kit_is | rfl | kernel_rfl)
      (case is_Drop_Add => first | k_is | kit_is | rfl | kernel_rfl)
      (case is_Drop_Sub => first | k_is | kit_is | rfl | kernel_rfl)
      (case is_Drop_Mul => first | k_is | kit_is | rfl | kernel_rfl)
      (case is_Drop_Less => first | k_is | kit_is | rfl | kernel_rfl)
      (case is_Drop_Grow => first | k_is | kit_is | rfl | kernel_rfl)
      (case is_Drop_Shrink => first | k_is | kit_is | rfl | kernel_rfl)
      (case is_Drop_Put => first | k_is | kit_is | rfl | kernel_rfl)
      (case is_Drop_Get => first | k_is | kit_is | rfl | kernel_rfl)
      (case is_Drop_Jump => first | k_is | kit_is | rfl | kernel_rfl)
      (case is_Drop_Branch => first | k_is | kit_is | rfl | kernel_rfl)
      (case is_Drop_Call => first | k_is | kit_is | rfl | kernel_rfl)
      (case is_Drop_Back => first | k_is | kit_is | rfl | kernel_rfl)
      (case is_Drop_Drop => first | k_is | kit_is | rfl | kernel_rfl)
      (case is_Drop_Row => first | k_is | kit_is | rfl | kernel_rfl)
      (case ob1 => first | k_is | kit_is | rfl | kernel_rfl)
      (case ob2 => first | k_is | kit_is | rfl | kernel_rfl)
      (case xe_NoRow => first | k_is | kit_is | rfl | kernel_rfl)
      (case xa_NoRow => first | k_is | kit_is | rfl | kernel_rfl)
      (case xb_NoRow => first | k_is | kit_is | rfl | kernel_rfl)
      (case xc_NoRow => first | k_is | kit_is | rfl | kernel_rfl)
      (case xd_NoRow => first | k_is | kit_is | rfl | kernel_rfl)
      (case xf_NoRow => first | k_is | kit_is | rfl | kernel_rfl)
      (case xg_NoRow => first | k_is | kit_is | rfl | kernel_rfl)
      (case xh_NoRow => first | k_is | kit_is | rfl | kernel_rfl)
      (case xi_NoRow => first | k_is | kit_is | rfl | kernel_rfl)
      (case is_NoRow_FrameError => first | k_is | kit_is | rfl | kernel_rfl)
      (case is_NoRow_NoTable => first | k_is | kit_is | rfl | kernel_rfl)
      (case k_tuple_tuple => first | k_is | kit_is | rfl | kernel_rfl)
      (case a46 => first | k_is | kit_is | rfl | kernel_rfl)
      (case l46 => first | k_is | kit_is | rfl | kernel_rfl)
      (case c46 => first | k_is | kit_is | rfl | kernel_rfl)
      (case k46 => first | k_is | kit_is | rfl | kernel_rfl)
      (case a47 => first | k_is | kit_is | rfl | kernel_rfl)
      (case l47 => first | k_is | kit_is | rfl | kernel_rfl)
      (case c47 => first | k_is | kit_is | rfl | kernel_rfl)
      (case k47 => first | k_is | kit_is | rfl | kernel_rfl)
      (case a48 => first | k_is | kit_is | rfl | kernel_rfl)
      (case l48 => first | k_is | kit_is | rfl | kernel_rfl)
      (case c48 => first | k_is | kit_is | rfl | kernel_rfl)
      (case k48 => first | k_is | kit_is | rfl | kernel_rfl)
      (case a49 => first | k_is | kit_is | rfl | kernel_rfl)
      (case l49 => first | k_is | kit_is | rfl | kernel_rfl)
      (case c49 => first | k_is | kit_is | rfl | kernel_rfl)
      (case k49 => first | k_is | kit_is | rfl | kernel_rfl)
      (case a50 => first | k_is | kit_is | rfl | kernel_rfl)
      (case l50 => first | k_is | kit_is | rfl | kernel_rfl)
      (case c50 => first | k_is | kit_is | rfl | kernel_rfl)
      (case k50 => first | k_is | kit_is | rfl | kernel_rfl)
      (case a51 => first | k_is | kit_is | rfl | kernel_rfl)
      (case l51 => first | k_is | kit_is | rfl | kernel_rfl)
      (case c51 => first | k_is | kit_is | rfl | kernel_rfl)
      (case k51 => first | k_is | kit_is | rfl | kernel_rfl)
      (case a52 => first | k_is | kit_is | rfl | kernel_rfl)
      (case l52 => first | k_is | kit_is | rfl | kernel_rfl)
      (case c52 => first | k_is | kit_is | rfl | kernel_rfl)
      (case k52 => first | k_is | kit_is | rfl | kernel_rfl)
      (case a53 => first | k_is | kit_is | rfl | kernel_rfl)
      (case l53 => first | k_is | kit_is | rfl | kernel_rfl)
      (case c53 => first | k_is | kit_is | rfl | kernel_rfl)
      (case k53 => first | k_is | kit_is | rfl | kernel_rfl)
      (case a54 => first | k_is | kit_is | rfl | kernel_rfl)
      (case l54 => first | k_is | kit_is | rfl | kernel_rfl)
      (case c54 => first | k_is | kit_is | rfl | kernel_rfl)
      (case k54 => first | k_is | kit_is | rfl | kernel_rfl)
    obtain ⟨a, fd, T, FF, B⟩ := T
    exact ⟨fd, B, fun base _ _ => FB.law_fn T FF⟩
