import PyProof.Rows.All
import Wide.All
import OpenK.AllK
import Wide.FinOn
import Lean
import PyProof.EqAt
import PyProof.EqKinds
import PyProof.TupleCall
import PySem.Challenge.RW_frameback_k06_kept_sets
set_option Elab.async false
set_option linter.all false
set_option maxRecDepth 100000

namespace L2
open PySem PySem.Spec PyProof.Rows


abbrev Key := Sum Int Str
def keyIs : Key → Value → Bool
  | .inl k, v => Value.isInt k v
  | .inr x, v => Value.isStrOf x v
def keyH (w : World) : Key → Int
  | .inl k => hashInt k
  | .inr x => hashStr w x
theorem keyIs_shape : ∀ {k : Key} {v : Value}, keyIs k v = true → (∃ i t, k = Sum.inl i ∧ v = Value.int i t) ∨ (∃ x t, k = Sum.inr x ∧ v = Value.str x t)
  | .inl i, v, h => by
    obtain ⟨t, e⟩ := Value.isInt_shape (k := i) (v := v) h
    exact .inl ⟨i, t, rfl, e⟩
  | .inr x, v, h => by
    obtain ⟨t, e⟩ := Value.isStrOf_shape (x := x) (v := v) h
    exact .inr ⟨x, t, rfl, e⟩
theorem key_ll (a b : Int) : decide ((Sum.inl a : Key) = Sum.inl b) = (a == b) := by
  by_cases e : a = b
  · subst e; simp
  · have h : ¬ (Sum.inl a : Key) = Sum.inl b := fun q => e (Sum.inl.inj q)
    rw [decide_eq_false h]
    exact (beq_eq_false_iff_ne.mpr e).symm
theorem key_rr (a b : Str) : decide ((Sum.inr a : Key) = Sum.inr b) = decide (a = b) := by
  by_cases e : a = b
  · subst e; simp
  · have h : ¬ (Sum.inr a : Key) = Sum.inr b := fun q => e (Sum.inr.inj q)
    rw [decide_eq_false h, decide_eq_false e]
theorem key_lr (a : Int) (b : Str) : decide ((Sum.inl a : Key) = Sum.inr b) = false := decide_eq_false (fun q => nomatch q)
theorem key_rl (a : Str) (b : Int) : decide ((Sum.inr a : Key) = Sum.inl b) = false := decide_eq_false (fun q => nomatch q)

def mixKind (prog : Program) (w : World) : PySem.KeyKind prog w Key where
  is := keyIs
  hash := keyH w
  inj := fun v a b ha hb => by
    rcases keyIs_shape ha with ⟨i, t, rfl, rfl⟩ | ⟨x, t, rfl, rfl⟩
    · rcases keyIs_shape hb with ⟨j, u, rfl, e⟩ | ⟨y, u, rfl, e⟩
      · injection e with e1 _; rw [e1]
      · exact nomatch e
    · rcases keyIs_shape hb with ⟨j, u, rfl, e⟩ | ⟨y, u, rfl, e⟩
      · exact nomatch e
      · injection e with e1 _; rw [e1]
  byValue := fun k v h => by
    rcases keyIs_shape h with ⟨i, t, rfl, rfl⟩ | ⟨x, t, rfl, rfl⟩ <;> rfl
  pyHash := fun hv h => by
    rcases keyIs_shape hv with ⟨i, t, rfl, rfl⟩ | ⟨x, t, rfl, rfl⟩
    · exact wpAny_pyHash_int h
    · exact wpAny_pyHash_str h
  eqBool := fun hu hv h => by
    rcases keyIs_shape hu with ⟨i, t, rfl, rfl⟩ | ⟨x, t, rfl, rfl⟩
    · rcases keyIs_shape hv with ⟨j, u, rfl, rfl⟩ | ⟨y, u, rfl, rfl⟩
      · rw [key_ll] at h; exact wpAny_eqBool_int h
      · rw [key_lr] at h; exact SeqAt.EqAt.int_str i t y u _ _ _ _ h
    · rcases keyIs_shape hv with ⟨j, u, rfl, rfl⟩ | ⟨y, u, rfl, rfl⟩
      · rw [key_rl] at h; exact SeqAt.EqAt.str_int x t j u _ _ _ _ h
      · rw [key_rr] at h; exact wpAny_eqBool_str h
  «strs» := fun k x t v h => by
    rcases keyIs_shape h with ⟨i, u, rfl, e⟩ | ⟨y, u, rfl, e⟩
    · exact nomatch e
    · injection e with e1 _
      subst e1
      cases v <;> rfl

end L2

namespace L2
open PySem PySem.Spec PyProof.Rows


inductive V where
  | non | bl (b : Bool) | int (i : Int) | str (x : Str) | byt (b : Array UInt8) | flt (b : UInt64) | ref (a : Addr) | ty (n : String)
  deriving DecidableEq

def RelV : V → Value → Prop
  | .non, u => u = Value.none
  | .bl b, u => u = Value.bool b
  | .int i, u => ∃ t, u = Value.int i t
  | .str x, u => ∃ t, u = Value.str x t
  | .byt b, u => ∃ t, u = Value.bytes b t
  | .flt b, u => ∃ t, u = Value.float b t
  | .ref a, u => u = Value.ref a
  | .ty n, u => u = Value.type n

abbrev Vals : List V → List Value → Prop := Paired RelV
theorem Vals.length {xs : List V} {us : List Value} (r : Vals xs us) : xs.length = us.length := Paired.length r
theorem Vals.get : ∀ {xs : List V} {us : List Value} {i : Nat} {x : V}, Vals xs us → xs[i]? = some x → ∃ u, us[i]? = some u ∧ RelV x u
  | _, _, _, _, .nil, e => by simp at e
  | _, _, 0, _, .cons r _, e => by simp at e; subst e; exact ⟨_, rfl, r⟩
  | _, _, i + 1, x, .cons _ t, e => by
    obtain ⟨u, h1, h2⟩ := Vals.get (i := i) (x := x) t (by simpa using e)
    exact ⟨u, by simpa using h1, h2⟩
theorem Vals.append : ∀ {xs ys : List V} {us ws : List Value}, Vals xs us → Vals ys ws → Vals (xs ++ ys) (us ++ ws)
  | _, _, _, _, .nil, s => s
  | _, _, _, _, .cons r t, s => .cons r (Vals.append t s)
def RelO : Option V → Option Value → Prop
  | some v, some u => RelV v u
  | none, none => True
  | _, _ => False
def KV {κ : Type} : List (κ × V) → List (κ × Value) → Prop := Paired fun (p : κ × V) (q : κ × Value) => p.1 = q.1 ∧ RelV p.2 q.2


def kV : Key → V
  | .inl i => .int i
  | .inr x => .str x


inductive HO where
  
  | lst (xs : List V)
  
  | tup (xs : List V)
  
  | dK (kvs : List (Key × V)) | dT (kvs : List (List Key × V))
  
  | set (S : Int → Bool) (n : Nat)
  
  | ins (C dx : Addr) (fs : List (Str × V))
  
  | own (x : Addr)
  
  | xd (fs : List (Str × V))
  
  | met (f x : Addr)
  
  | rng (lo hi : Int)
  
  | frz (o : Obj) (u : HO)
  
  | tbl (ps : Array Value)
  
  | ext (φ : Heap → Prop)

abbrev Hp := Addr → Option HO
def upd (H : Hp) (a : Addr) (o : HO) : Hp := fun b => if b = a then some o else H b
theorem upd_same {H : Hp} {a : Addr} {o : HO} : upd H a o a = some o := by unfold upd; rw [if_pos rfl]
theorem upd_ne {H : Hp} {a b : Addr} {o : HO} (h : b ≠ a) : upd H a o b = H b := by unfold upd; rw [if_neg h]
theorem ne_of_none {H : Hp} {a b : Addr} {o : HO} (h : H a = some o) (h' : H b = none) : a ≠ b := by
  intro e; subst e; rw [h] at h'; cases h'

section
variable (P : Program) (w : World)
def ObjOk (H : Hp) (h : Heap) (a : Addr) : HO → Prop
  | .lst xs => xs.length ≤ sizeLine ∧ ∃ (its : List Value) (n : Nat), Vals xs its ∧ h.get? a = some { cls := .type "list", data := .seq its.toArray n }
  | .tup xs => xs.length ≤ sizeLine ∧ ∃ its : List Value, Vals xs its ∧ IsTup h a its.toArray
  | .dK kvs => kvs.length ≤ sizeLine ∧ (a == sysModules) = false ∧ ∃ vs, KV kvs vs ∧ h.DictOf (mixKind P w) a vs
  | .dT kvs => kvs.length ≤ sizeLine ∧ (a == sysModules) = false ∧ ∃ xs : List (List Key × Addr × Value),
      Paired (fun (p : List Key × V) (q : List Key × Addr × Value) => p.1 = q.1 ∧ H q.2.1 = some (.tup (p.1.map kV)) ∧ RelV p.2 q.2.2) kvs xs ∧
      ∃ o es ep, h.get? a = some o ∧ o.ExactDict ∧ o.data = .dict es ep ∧ es.toList = xs.map (entryOfKey (tupleKind (mixKind P w))) ∧ (xs.map (·.1)).Nodup
  | .set S n => h.SetOf (intKind P w) a S n
  | .ins C dx fs => H dx = some (.own a) ∧ fs.length ≤ 1000 ∧ dx ≠ a ∧ h.get? a = some (PySem.W.instObj C dx) ∧
      ∃ mA, h.Ns1 dx mA ∧ (∀ f, RelO (fs.lookup f) (mA f)) ∧ PySem.Within mA (fs.map (·.1))
  | .own _ => ∃ o, h.get? a = some o
  | .xd fs => ∃ mA, h.Ns1 a mA ∧ ∀ f, RelO (fs.lookup f) (mA f)
  | .rng lo hi => ∃ t u v, h.get? a = some { cls := .type "range", data := .fields #[.int lo t, .int hi u, .int 1 v] }
  | .frz o u => h.get? a = some o ∧ ObjOk H h a u
  | .tbl ps => h.get? a = some { cls := .none, data := .fields ps }
  | .met f x => h.get? a = some (PySem.W.methodObj (.ref f) (.ref x))
  | .ext φ => φ h ∧ (∃ o, h.get? a = some o) ∧ ∀ h1 h2 : Heap, φ h1 → (∀ o, h1.get? a = some o → h2.get? a = some o) → φ h2

def HOk (H : Hp) (h : Heap) : Prop := ∀ a o, H a = some o → ObjOk P w H h a o
end

section
variable {P : Program} {w : World} {H H' : Hp} {h h' : Heap} {a : Addr} {o : HO}
theorem ObjOk.lt (x : ObjOk P w H h a o) : a < h.objs.size := by
  cases o with
  | lst xs => obtain ⟨_, _, _, _, e⟩ := x; exact Heap.lt_size e
  | tup xs => obtain ⟨_, _, _, p⟩ := x; exact p.lt
  | dK kvs => obtain ⟨_, _, _, _, o, _, _, e, _⟩ := x; exact Heap.lt_size e
  | dT kvs => obtain ⟨_, _, _, _, o, _, _, e, _⟩ := x; exact Heap.lt_size e
  | set S n => obtain ⟨o, _, _, _, e, _⟩ := x; exact Heap.lt_size e
  | ins C dx fs => obtain ⟨_, _, _, e, _⟩ := x; exact Heap.lt_size e
  | own y => obtain ⟨_, e⟩ := x; exact Heap.lt_size e
  | xd fs => obtain ⟨_, ⟨_, _, _, e, _⟩, _⟩ := x; exact Heap.lt_size e
  | rng lo hi => obtain ⟨_, _, _, e⟩ := x; exact Heap.lt_size e
  | frz ob u => obtain ⟨e, _⟩ := x; exact Heap.lt_size e
  | tbl ps => exact Heap.lt_size (show h.get? a = some _ from x)
  | met f y => exact Heap.lt_size (show h.get? a = some _ from x)
  | ext φ => obtain ⟨_, ⟨_, e⟩, _⟩ := x; exact Heap.lt_size e
theorem Paired.mapP {α β : Type} {F G : α → β → Prop} : ∀ {l₁ : List α} {l₂ : List β}, Paired F l₁ l₂ → (∀ a b, F a b → G a b) → Paired G l₁ l₂
  | _, _, .nil, _ => .nil
  | _, _, .cons r t, f => .cons (f _ _ r) (Paired.mapP t f)
theorem ObjOk.stay (x : ObjOk P w H h a o) (k : ∀ b u, (b = a ∨ H b = some (.own a)) → h.get? b = some u → h'.get? b = some u)
    (ho : ∀ b, H b = some (.own a) → H' b = some (.own a)) (ht : ∀ b xs, H b = some (.tup xs) → H' b = some (.tup xs)) : ObjOk P w H' h' a o := by
  induction o with
  | lst xs => obtain ⟨z, its, n, r, e⟩ := x; exact ⟨z, its, n, r, k _ _ (.inl rfl) e⟩
  | tup xs => obtain ⟨z, its, r, ob, e, c⟩ := x; exact ⟨z, its, r, ob, k _ _ (.inl rfl) e, c⟩
  | dK kvs => obtain ⟨z, y, vs, r, ob, es, ep, e, c⟩ := x; exact ⟨z, y, vs, r, ob, es, ep, k _ _ (.inl rfl) e, c⟩
  | dT kvs =>
    obtain ⟨z, y, xs, r, ob, es, ep, e, c⟩ := x
    exact ⟨z, y, xs, Paired.mapP r fun p q z => ⟨z.1, ht _ _ z.2.1, z.2.2⟩, ob, es, ep, k _ _ (.inl rfl) e, c⟩
  | set S n => obtain ⟨ob, es, ep, t, e, c⟩ := x; exact ⟨ob, es, ep, t, k _ _ (.inl rfl) e, c⟩
  | ins C dx fs =>
    obtain ⟨d, z, ne, e, mA, ⟨od, es, ep, e2, c⟩, r⟩ := x
    exact ⟨ho _ d, z, ne, k _ _ (.inl rfl) e, mA, ⟨od, es, ep, k _ _ (.inr d) e2, c⟩, r⟩
  | own y => obtain ⟨ob, e⟩ := x; exact ⟨ob, k _ _ (.inl rfl) e⟩
  | xd fs => obtain ⟨mA, ⟨od, es, ep, e, c⟩, r⟩ := x; exact ⟨mA, ⟨od, es, ep, k _ _ (.inl rfl) e, c⟩, r⟩
  | rng lo hi => obtain ⟨t, u, v, e⟩ := x; exact ⟨t, u, v, k _ _ (.inl rfl) e⟩
  | frz ob u ih => obtain ⟨e, q⟩ := x; exact ⟨k _ _ (.inl rfl) e, ih q⟩
  | tbl ps =>
    have e : h.get? a = some { cls := .none, data := .fields ps } := x
    show h'.get? a = some { cls := .none, data := .fields ps }
    exact k a _ (.inl rfl) e
  | met f y =>
    have e : h.get? a = some (PySem.W.methodObj (.ref f) (.ref y)) := x
    show h'.get? a = some (PySem.W.methodObj (.ref f) (.ref y))
    exact k a _ (.inl rfl) e
  | ext φ => obtain ⟨p, ⟨o, e⟩, st⟩ := x; exact ⟨st _ _ p fun o q => k _ _ (.inl rfl) q, ⟨o, k _ _ (.inl rfl) e⟩, st⟩
theorem HOk.lt (x : HOk P w H h) (e : H a = some o) : a < h.objs.size := (x a o e).lt
theorem HOk.fresh (x : HOk P w H h) (e : h.objs.size ≤ a) : H a = none := by
  cases q : H a with
  | none => rfl
  | some u => exact absurd (Nat.lt_of_lt_of_le (x.lt q) e) (Nat.lt_irrefl _)

theorem HOk.kept (x : HOk P w H h) (k : ∀ b u, h.get? b = some u → h'.get? b = some u) : HOk P w H h' := fun a o e =>
  (x a o e).stay (fun b u _ q => k b u q) (fun _ q => q) fun _ _ q => q

theorem HOk.laid (x : HOk P w H h) (k : ∀ b u, h.get? b = some u → h'.get? b = some u) (hp : h.objs.size ≤ a) (new : ObjOk P w (upd H a o) h' a o) : HOk P w (upd H a o) h' := fun b u e => by
  have hn := x.fresh hp
  by_cases hb : b = a
  · subst hb; rw [upd_same] at e; cases e; exact new
  · rw [upd_ne hb] at e
    exact (x b u e).stay (fun c v _ q => k c v q) (fun c q => by rw [upd_ne (ne_of_none q hn)]; exact q) fun c xs q => by rw [upd_ne (ne_of_none q hn)]; exact q
end


def Rd (H : Hp) (a : Addr) (u : HO) : Prop := H a = some u ∨ ∃ o, H a = some (.frz o u)
theorem Rd.ok {P : Program} {w : World} {H : Hp} {h : Heap} {a : Addr} {u : HO} (r : Rd H a u) (x : HOk P w H h) : ObjOk P w H h a u := by
  rcases r with r | ⟨o, r⟩
  · exact x a u r
  · obtain ⟨_, q⟩ := x a _ r
    exact q

def Mut : Option HO → Prop
  | some (.lst _) => True
  | some (.dK _) => True
  | some (.dT _) => True
  | some (.set _ _) => True
  | some (.ins _ _ _) => True
  | some (.ext _) => True
  | _ => False
section
variable {P : Program} {w : World} {H : Hp} {h h' : Heap} {x e : Addr} {o' : HO}

theorem HOk.write (ok : HOk P w H h) (mu : Mut (H x)) (he : e = x ∨ H e = some (.own x)) (k : ∀ b u, b ≠ e → h.get? b = some u → h'.get? b = some u) (heo : ∃ u, h'.get? e = some u)
    (new : ObjOk P w (upd H x o') h' x o') : HOk P w (upd H x o') h' := fun b u q => by
  have nown : ∀ c y, H c = some (.own y) → c ≠ x := fun c y r z => by subst z; rw [r] at mu; exact mu
  have ntup : ∀ c xs, H c = some (.tup xs) → c ≠ x := fun c xs r z => by subst z; rw [r] at mu; exact mu
  by_cases hb : b = x
  · subst hb; rw [upd_same] at q; cases q; exact new
  · rw [upd_ne hb] at q
    by_cases hbe : b = e
    · have q' : H b = some (.own x) := by
        rcases he with z | z
        · exact absurd (hbe.trans z) hb
        · rw [hbe]; exact z
      rw [q] at q'; cases q'
      obtain ⟨v, hv⟩ := heo
      exact ⟨v, by rw [hbe]; exact hv⟩
    · refine (ok b u q).stay (fun c v hc r => k c v ?_ r) (fun c r => by rw [upd_ne (nown c b r)]; exact r) fun c xs r => by rw [upd_ne (ntup c xs r)]; exact r
      rcases hc with rfl | hc
      · exact hbe
      · rintro rfl
        rcases he with z | z
        · exact nown c b hc z
        · rw [hc] at z; cases z; exact hb rfl
end


structure Un (fs ex : List Addr) (H H' : Hp) (h h' : Heap) : Prop where
  keep : ∀ b o, h.get? b = some o → H b = none → b ∉ fs → b ∉ ex → h'.get? b = some o
  slot : ∀ b o, h.get? b = some o → H b = none → b ∈ fs → b ∉ ex → ∃ sl, h'.get? b = some { o with slots := sl }
  free : ∀ b o, h.get? b = some o → H b = none → b ∉ ex → H' b = none
  there : ∀ b o, h.get? b = some o → b ∉ ex → ∃ o', h'.get? b = some o'
  tups : ∀ b xs, H b = some (.tup xs) → H' b = some (.tup xs)
  frzs : ∀ b o u, H b = some (.frz o u) → H' b = some (.frz o u)
  tbls : ∀ b ps, H b = some (.tbl ps) → ∃ more, H' b = some (.tbl (ps ++ more))
section
variable {fs fs' ex ex' : List Addr} {H H1 H2 : Hp} {h h1 h2 h' : Heap} {a x e : Addr} {o : HO}
theorem Un.any (u : Un fs ex H H1 h h1) {b : Addr} {ob : Obj} (q : h.get? b = some ob) (n : H b = none) (hx : b ∉ ex) : ∃ sl, h1.get? b = some { ob with slots := sl } := by
  by_cases hb : b ∈ fs
  · exact u.slot b ob q n hb hx
  · exact ⟨ob.slots, u.keep b ob q n hb hx⟩
theorem Un.kept (k : ∀ b u, h.get? b = some u → h'.get? b = some u) : Un fs ex H H h h' :=
  ⟨fun b ob q _ _ _ => k b ob q, fun b ob q _ _ _ => ⟨ob.slots, k b ob q⟩, fun _ _ _ n _ => n, fun b ob q _ => ⟨ob, k b ob q⟩, fun _ _ q => q, fun _ _ _ q => q, fun _ ps q => ⟨#[], by rw [q]; simp⟩⟩
theorem Un.refl : Un fs ex H H h h := Un.kept fun _ _ q => q
theorem Un.laid (k : ∀ b u, h.get? b = some u → h'.get? b = some u) (hp : h.objs.size ≤ a) (hn : H a = none) : Un fs ex H (upd H a o) h h' where
  keep := fun b u q _ _ _ => k b u q
  slot := fun b u q _ _ _ => ⟨u.slots, k b u q⟩
  free := fun b u q n _ => by rw [upd_ne (Nat.ne_of_lt (Nat.lt_of_lt_of_le (Heap.lt_size q) hp))]; exact n
  there := fun b u q _ => ⟨u, k b u q⟩
  tups := fun b xs q => by rw [upd_ne (ne_of_none q hn)]; exact q
  frzs := fun b u xs q => by rw [upd_ne (ne_of_none q hn)]; exact q
  tbls := fun b ps q => ⟨#[], by rw [upd_ne (ne_of_none q hn), q]; simp⟩
theorem Un.write (mu : Mut (H x)) (he : e = x ∨ H e = some (.own x)) (k : ∀ b u, b ≠ e → h.get? b = some u → h'.get? b = some u) (heo : ∃ u, h'.get? e = some u) : Un fs ex H (upd H x o) h h' := by
  have hx : ∀ b, H b = none → b ≠ x := fun b n z => by subst z; rw [n] at mu; exact mu
  have hb : ∀ b, H b = none → b ≠ e := fun b n z => by
    subst z
    rcases he with r | r
    · exact hx b n r
    · rw [n] at r; cases r
  have hm : ∀ b u, H b = some u → ¬ Mut (some u) → b ≠ x := fun b u q nm z => by subst z; rw [q] at mu; exact nm mu
  refine ⟨fun b u q n _ _ => k b u (hb b n) q, fun b u q n _ _ => ⟨u.slots, k b u (hb b n) q⟩, fun b u q n _ => by rw [upd_ne (hx b n)]; exact n, fun b u q _ => ?_,
    fun b xs q => by rw [upd_ne (hm b _ q fun z => z)]; exact q, fun b u xs q => by rw [upd_ne (hm b _ q fun z => z)]; exact q, fun b ps q => ⟨#[], by rw [upd_ne (hm b _ q fun z => z), q]; simp⟩⟩
  by_cases hbe : b = e
  · subst hbe; exact heo
  · exact ⟨u, k b u hbe q⟩
end


def trk (h : Heap) (H : Hp) : List Addr := (List.range h.objs.size).filter fun a => (H a).isSome
def hidT (h : Heap) (H : Hp) : Heap := PySem.W.hideAll h (trk h H)
theorem hidT_size (h : Heap) (H : Hp) : (hidT h H).objs.size = h.objs.size := PySem.W.hideAll_size _ _
theorem hidT_get {h : Heap} {H : Hp} {b : Addr} {o : Obj} (e : h.get? b = some o) (n : H b = none) : (hidT h H).get? b = some o :=
  PySem.W.hideAll_get _ e fun hm => by
    have q : (H b).isSome = true := (List.mem_filter.mp hm).2
    rw [n] at q; simp at q
theorem of_hidT {h : Heap} {H : Hp} {b : Addr} {o : Obj} (e : (hidT h H).get? b = some o) : h.get? b = some o ∧ H b = none := by
  have e' : h.get? b = some o := PySem.W.of_hideAll (trk h H) e
  refine ⟨e', ?_⟩
  cases q : H b with
  | none => rfl
  | some x =>
    have hm : b ∈ trk h H := List.mem_filter.mpr ⟨List.mem_range.mpr (Heap.lt_size e'), by simp [q]⟩
    have z : (hidT h H).get? b = none := PySem.W.hideAll_none (trk h H) hm
    rw [z] at e; cases e


end L2

namespace L2
open PySem PySem.Spec PyProof.Rows


structure Mod (K : PySem.W.Frag) (mg : Str → Option Value) (base : Heap) : Prop where
  kin : K.In base
  glob : base.Ns mainGlobals mg
  blt : ∃ mb, base.Ns builtinsNs mb ∧ ∀ x : Str, x ≠ "__name__" → mb x = bootBuiltins x
  nolimit : base.NoLimit


structure Cx where
  prog : Program
  w : World
  K : PySem.W.Frag
  mg : Str → Option Value
  base : Heap
  A : Around
  N : List Str
  s₀ : Shared
  H₀ : Hp
  env : Env
  outer : List Env
  stack : List Env
  ex : List Addr
  fn : Str → Bool
  calm : Bool
  pn : List (Addr × Obj)
  xe : Value → Shared → Prop

def frs (l : List Env) : List Addr := l.filterMap (·.frame)
abbrev Cx.fs (X : Cx) : List Addr := frs X.outer

def Vis (sc : Scope) (x : Str) : Prop := sc.names.lookup x = some .local ∨ sc.names.lookup x = some .cell ∨ sc.names.lookup x = some .free
def Loc (sc : Scope) (x : Str) : Prop := sc.names.lookup x = some .local ∨ sc.names.lookup x = some .cell
def Look (env : Env) (h : Heap) (m : Str → Option Value) (x : Str) (u : Value) : Prop :=
  (env.kindOf x = some .local ∧ m x = some u) ∨ ((env.kindOf x = some .cell ∨ env.kindOf x = some .free) ∧ ∃ c, env.cells.lookup x = some c ∧ h.IsCell c (some u))

structure Cx.Ok (X : Cx) : Prop where
  mod : Mod X.K X.mg X.base
  kind : X.env.scope.kind = .function
  glob : X.env.globals = mainGlobals
  blt : X.env.builtins = builtinsNs
  above : X.s₀.heap.objs.size ≤ X.env.locals
  inj : ∀ x y c, X.env.cells.lookup x = some c → X.env.cells.lookup y = some c → x = y
  has : ∀ x, (X.env.kindOf x = some .cell ∨ X.env.kindOf x = some .free) → ∃ c, X.env.cells.lookup x = some c
  cab : ∀ x c, X.fn x = true → X.env.cells.lookup x = some c → X.s₀.heap.objs.size ≤ c
  hd : X.calm = true → X.A.handled = none
  frames : X.A.frames = some X.stack
  stk : X.stack = X.outer ∨ (X.stack = X.env :: X.outer ∧ X.env.frame = some X.env.locals)
  exf : ∀ b ∈ X.ex, b ≠ X.env.locals ∧ ∀ x c, X.env.cells.lookup x = some c → c ≠ b
  bs : ∀ b o, X.base.get? b = some o → X.s₀.heap.get? b = some o ∧ X.H₀ b = none
  bsz : X.base.objs.size ≤ X.s₀.heap.objs.size
  noex : ∀ b o, X.base.get? b = some o → b ∉ X.ex
  exfs : ∀ b ∈ X.ex, b ∉ X.fs
  funs : X.s₀.heap.FunFrames X.base X.outer
  frf : ∀ b ∈ X.fs, X.H₀ b = none

structure Inv (X : Cx) (pins : List (Addr × Obj)) (σ : List (Option V)) (H : Hp) (s : Shared) : Prop where
  ok : X.Ok
  os : s.os = X.s₀.os
  bare : AllBare s.gens
  base : Un X.fs X.ex X.H₀ H X.s₀.heap s.heap
  loc : ∃ m, s.heap.Ns X.env.locals m ∧ ∀ (i : Nat) (x : Str) (v : V), X.N[i]? = some x → σ[i]? = some (some v) → Vis X.env.scope x → ∃ u, RelV v u ∧ Look X.env s.heap m x u
  cell : ∀ x c, X.env.cells.lookup x = some c → ∃ v, s.heap.IsCell c v
  free : H X.env.locals = none
  freeC : ∀ x c, X.env.cells.lookup x = some c → H c = none
  pin : ∀ p ∈ X.pn ++ pins, s.heap.get? p.1 = some p.2 ∧ H p.1 = none ∧ p.1 ≠ X.env.locals ∧ p.1 ∉ X.fs ∧ ∀ v, p.2.data ≠ .cell v
  hok : HOk X.prog X.w H s.heap
  len : σ.length = X.N.length

section
variable {X : Cx} {pins : List (Addr × Obj)} {σ : List (Option V)} {H H' : Hp} {s : Shared} {h' : Heap}

theorem Cx.Ok.nofr (ok : X.Ok) {b : Addr} {o : Obj} (e : X.base.get? b = some o) : b ∉ X.fs := fun hb => by
  have := (ok.funs.mem hb).1
  rw [e] at this; cases this
theorem Inv.bs (I : Inv X pins σ H s) : ∀ b o, X.base.get? b = some o → s.heap.get? b = some o ∧ H b = none := fun b o e =>
  ⟨I.base.keep b o (I.ok.bs b o e).1 (I.ok.bs b o e).2 (I.ok.nofr e) (I.ok.noex b o e), I.base.free b o (I.ok.bs b o e).1 (I.ok.bs b o e).2 (I.ok.noex b o e)⟩
theorem Inv.bk (I : Inv X pins σ H s) : ∀ b o, X.base.get? b = some o → s.heap.get? b = some o := fun b o e => (I.bs b o e).1
theorem Inv.mod (I : Inv X pins σ H s) : Mod X.K X.mg X.base := I.ok.mod
theorem Inv.kIn (I : Inv X pins σ H s) : X.K.In s.heap := I.ok.mod.kin.keeps I.bk
theorem Inv.lt (I : Inv X pins σ H s) : X.env.locals < s.heap.objs.size := let ⟨_, hn, _⟩ := I.loc; hn.lt
theorem Inv.sz (I : Inv X pins σ H s) : X.s₀.heap.objs.size ≤ s.heap.objs.size := Nat.le_trans I.ok.above (Nat.le_of_lt I.lt)
theorem Inv.nofs (I : Inv X pins σ H s) {a : Addr} (h : s.heap.objs.size ≤ a) : a ∉ X.fs := fun hb => by
  obtain ⟨_, o, ho, _⟩ := I.ok.funs.mem hb
  exact absurd (Nat.lt_of_lt_of_le (Heap.lt_size ho) (Nat.le_trans I.sz h)) (Nat.lt_irrefl _)
theorem Inv.cne (I : Inv X pins σ H s) : ∀ x c, X.env.cells.lookup x = some c → c ≠ X.env.locals := fun x c e z => by
  obtain ⟨v, o, ho, hd⟩ := I.cell x c e
  obtain ⟨m, ⟨o', es, ep, ho', hd', _⟩, _⟩ := I.loc
  rw [z, ho'] at ho; cases ho; rw [hd'] at hd; cases hd
theorem Inv.funs (I : Inv X pins σ H s) : s.heap.FunFrames X.base X.outer := by
  have all : ∀ (l : List Env), (∀ b ∈ frs l, b ∈ X.fs) → X.s₀.heap.FunFrames X.base l → s.heap.FunFrames X.base l := by
    intro l
    induction l with
    | nil => intro _ _; trivial
    | cons env r ih =>
      intro hs hl
      obtain ⟨hk, ⟨L, o, hf, hn, ho, hd⟩, hr⟩ := hl
      have hL : L ∈ X.fs := hs L (by unfold frs; rw [List.filterMap_cons, hf]; exact List.mem_cons_self)
      obtain ⟨sl, e⟩ := I.base.slot L o ho (I.ok.frf L hL) hL fun z => I.ok.exfs L z hL
      exact ⟨hk, ⟨L, _, hf, hn, e, hd⟩, ih (fun b hb => hs b (by unfold frs; rw [List.filterMap_cons, hf]; exact List.mem_cons_of_mem _ hb)) hr⟩
  exact all X.outer (fun _ hb => hb) I.ok.funs


theorem Inv.stack (I : Inv X pins σ H s) : s.heap.FunFrames X.base X.stack := by
  rcases I.ok.stk with e | ⟨e, hf⟩
  · rw [e]; exact I.funs
  · rw [e]
    obtain ⟨m, hn, _⟩ := I.loc
    refine .cons (by rw [I.ok.kind]; decide) hf hn ?_ I.funs
    exact Heap.get?_none_of_le (Nat.le_trans I.ok.bsz I.ok.above)
theorem Inv.stkSub (I : Inv X pins σ H s) : ∀ b ∈ frs X.stack, b ∈ X.env.locals :: X.fs := fun b hb => by
  rcases I.ok.stk with e | ⟨e, hf⟩
  · rw [e] at hb; exact List.mem_cons_of_mem _ hb
  · rw [e] at hb
    unfold frs at hb
    rw [List.filterMap_cons, hf] at hb
    exact hb
theorem Inv.stkFree (I : Inv X pins σ H s) : ∀ b ∈ frs X.stack, H b = none := fun b hb => by
  rcases List.mem_cons.mp (I.stkSub b hb) with e | hb
  · rw [e]; exact I.free
  · obtain ⟨_, o, ho, _⟩ := I.ok.funs.mem hb
    exact I.base.free b o ho (I.ok.frf b hb) fun z => I.ok.exfs b z hb


theorem Inv.step {g' : Array GenState} {t' : Nat} {d' : Drawn} {ch : List Addr} (I : Inv X pins σ H s)
    (hch : ∀ b ∈ ch, (b ∈ X.ex ∨ X.s₀.heap.objs.size ≤ b) ∧ b ≠ X.env.locals ∧ (∀ x c, X.env.cells.lookup x = some c → c ≠ b) ∧ ∀ p ∈ X.pn ++ pins, p.1 ≠ b)
    (keep : ∀ b o, b ≠ X.env.locals → b ∉ X.fs → b ∉ ch → s.heap.get? b = some o → H b = none → h'.get? b = some o)
    (slot : ∀ b o, b ≠ X.env.locals → b ∈ X.fs → b ∉ ch → s.heap.get? b = some o → H b = none → ∃ sl, h'.get? b = some { o with slots := sl }) (free : ∀ b o, b ∉ ch → s.heap.get? b = some o → H b = none → H' b = none)
    (there : ∀ b o, b ∉ ch → s.heap.get? b = some o → ∃ o', h'.get? b = some o')
    (tups : ∀ b xs, H b = some (.tup xs) → H' b = some (.tup xs)) (frzs : ∀ b o u, H b = some (.frz o u) → H' b = some (.frz o u)) (tbls : ∀ b ps, H b = some (.tbl ps) → ∃ more, H' b = some (.tbl (ps ++ more)))
    (ns : ∀ m, s.heap.Ns X.env.locals m → h'.Ns X.env.locals m) (hok : HOk X.prog X.w H' h') (hg : AllBare g') :
    Inv X pins σ H' { s with heap := h', gens := g', drawn := d', toks := t' } := by
  have neL : ∀ b o, X.s₀.heap.get? b = some o → b ≠ X.env.locals := fun b o e => Nat.ne_of_lt (Nat.lt_of_lt_of_le (Heap.lt_size e) I.ok.above)
  have neC : ∀ b o, X.s₀.heap.get? b = some o → b ∉ X.ex → b ∉ ch := fun b o e hx hb => by
    rcases (hch b hb).1 with z | z
    · exact hx z
    · exact absurd (Nat.lt_of_lt_of_le (Heap.lt_size e) z) (Nat.lt_irrefl _)
  have cellK : ∀ x c, X.env.cells.lookup x = some c → ∀ v, s.heap.IsCell c v → h'.IsCell c v := fun x c e v ⟨o, ho, hd⟩ => by
    have nch : c ∉ ch := fun z => (hch c z).2.2.1 x c e rfl
    by_cases hc : c ∈ X.fs
    · obtain ⟨sl, q⟩ := slot c o (I.cne x c e) hc nch ho (I.freeC x c e)
      exact ⟨_, q, hd⟩
    · exact ⟨o, keep c o (I.cne x c e) hc nch ho (I.freeC x c e), hd⟩
  refine ⟨I.ok, I.os, hg, ⟨fun b o e n hb hx => ?_, fun b o e n hb hx => ?_, fun b o e n hx => ?_, fun b o e hx => ?_, fun b xs e => tups b xs (I.base.tups b xs e), fun b o xs e => frzs b o xs (I.base.frzs b o xs e), fun b ps e => ?_⟩, ?_, fun x c e => ?_, ?_, fun x c e => ?_, fun p hp => ?_, hok, I.len⟩
  · exact keep b o (neL b o e) hb (neC b o e hx) (I.base.keep b o e n hb hx) (I.base.free b o e n hx)
  · obtain ⟨sl, e1⟩ := I.base.slot b o e n hb hx
    obtain ⟨sl', e2⟩ := slot b _ (neL b o e) hb (neC b o e hx) e1 (I.base.free b o e n hx)
    exact ⟨sl', e2⟩
  · obtain ⟨o', e1⟩ := I.base.there b o e hx
    exact free b o' (neC b o e hx) e1 (I.base.free b o e n hx)
  · obtain ⟨o', e1⟩ := I.base.there b o e hx
    exact there b o' (neC b o e hx) e1
  · obtain ⟨m1, e1⟩ := I.base.tbls b ps e
    obtain ⟨m2, e2⟩ := tbls b _ e1
    exact ⟨m1 ++ m2, by rw [e2, Array.append_assoc]⟩
  · obtain ⟨m, hn, hl⟩ := I.loc
    refine ⟨m, ns m hn, fun i x v e1 e2 e3 => ?_⟩
    obtain ⟨u, r, l⟩ := hl i x v e1 e2 e3
    refine ⟨u, r, ?_⟩
    rcases l with l | ⟨k, c, e, z⟩
    · exact .inl l
    · exact .inr ⟨k, c, e, cellK x c e _ z⟩
  · obtain ⟨v, z⟩ := I.cell x c e
    exact ⟨v, cellK x c e v z⟩
  · obtain ⟨m, ⟨o, _, _, ho, _⟩, _⟩ := I.loc
    exact free _ o (fun z => (hch _ z).2.1 rfl) ho I.free
  · obtain ⟨v, o, ho, hd⟩ := I.cell x c e
    exact free c o (fun z => (hch c z).2.2.1 x c e rfl) ho (I.freeC x c e)
  · obtain ⟨e, n, ne, nf, d⟩ := I.pin p hp
    have nch : p.1 ∉ ch := fun z => (hch p.1 z).2.2.2 p hp rfl
    exact ⟨keep p.1 p.2 ne nf nch e n, free p.1 p.2 nch e n, ne, nf, d⟩

theorem Inv.un {t' : Nat} (I : Inv X pins σ H s) (u : Un X.fs [] H H' s.heap h') (hok : HOk X.prog X.w H' h') : Inv X pins σ H' { s with heap := h', toks := t' } := by
  obtain ⟨m, ⟨o, es, ep, ho, r⟩, _⟩ := id I.loc
  obtain ⟨sl, hL⟩ := u.any ho I.free (by simp)
  exact I.step (g' := s.gens) (d' := s.drawn) (ch := []) (fun _ z => nomatch z) (fun b o _ hb _ e n => u.keep b o e n hb (by simp)) (fun b o _ hb _ e n => u.slot b o e n hb (by simp)) (fun b o _ e n => u.free b o e n (by simp)) (fun b o _ e => u.there b o e (by simp)) u.tups u.frzs u.tbls (fun m' hm => by
    obtain ⟨o', es', ep', ho', r'⟩ := hm
    rw [ho] at ho'; cases ho'
    exact ⟨_, es', ep', hL, r'⟩) hok I.bare

theorem Inv.call {g' : Array GenState} {t' : Nat} {d' : Drawn} {ch : List Addr} (I : Inv X pins σ H s) (u : Un (frs X.stack) ch H H' s.heap h') (hok : HOk X.prog X.w H' h') (hg : AllBare g')
    (hch : ∀ b ∈ ch, (b ∈ X.ex ∨ X.s₀.heap.objs.size ≤ b) ∧ b ≠ X.env.locals ∧ (∀ x c, X.env.cells.lookup x = some c → c ≠ b) ∧ ∀ p ∈ X.pn ++ pins, p.1 ≠ b) :
    Inv X pins σ H' { s with heap := h', gens := g', drawn := d', toks := t' } := by
  obtain ⟨m, ⟨o, es, ep, ho, r⟩, _⟩ := id I.loc
  obtain ⟨sl, hL⟩ := u.any ho I.free fun z => (hch _ z).2.1 rfl
  exact I.step (ch := ch) hch (fun b o hL hb hc e n => u.keep b o e n (fun z => (List.mem_cons.mp (I.stkSub b z)).elim hL hb) hc) (fun b o _ _ hc e n => u.any e n hc) (fun b o hc e n => u.free b o e n hc) (fun b o hc e => u.there b o e hc) u.tups u.frzs u.tbls (fun m' hm => by
    obtain ⟨o', es', ep', ho', r'⟩ := hm
    rw [ho] at ho'; cases ho'
    exact ⟨_, es', ep', hL, r'⟩) hok hg

theorem Inv.turned {t' : Nat} {it : Addr} (I : Inv X pins σ H s) (k : ∀ b o, b ≠ it → s.heap.get? b = some o → h'.get? b = some o) (hn : H it = none) (hL : it ≠ X.env.locals)
    (h1 : it ∈ X.ex ∨ X.s₀.heap.objs.size ≤ it) (h2 : ∀ x c, X.env.cells.lookup x = some c → c ≠ it) (h3 : ∀ p ∈ X.pn ++ pins, p.1 ≠ it) : Inv X pins σ H { s with heap := h', toks := t' } := by
  have nit : ∀ b u, H b = some u → b ≠ it := fun b u e z => by rw [z, hn] at e; cases e
  refine I.step (g' := s.gens) (d' := s.drawn) (ch := [it]) (fun b hb => ?_) (fun b o _ _ hc e _ => k b o (fun z => hc (by simp [z])) e) (fun b o _ _ hc e _ => ⟨o.slots, k b o (fun z => hc (by simp [z])) e⟩) (fun _ _ _ _ n => n)
    (fun b o hc e => ⟨o, k b o (fun z => hc (by simp [z])) e⟩) (fun _ _ e => e) (fun _ _ _ e => e) (fun b ps e => ⟨#[], by rw [e]; simp⟩) (fun m hm => ?_) (fun b u e => ?_) I.bare
  · have e : b = it := by simpa using hb
    subst e
    exact ⟨h1, hL, h2, h3⟩
  · obtain ⟨o, es, ep, ho, r⟩ := hm
    exact ⟨o, es, ep, k _ o (Ne.symm hL) ho, r⟩
  · refine (I.hok b u e).stay (fun c v hc q => k c v ?_ q) (fun _ q => q) fun _ _ q => q
    rcases hc with z | z
    · rw [z]; exact nit b u e
    · exact nit c _ z
theorem Inv.tok (I : Inv X pins σ H s) (t : Nat) : Inv X pins σ H { s with toks := t } := I.un (h' := s.heap) (t' := t) Un.refl I.hok

theorem Inv.kept {t' : Nat} (I : Inv X pins σ H s) (k : ∀ b u, s.heap.get? b = some u → h'.get? b = some u) : Inv X pins σ H { s with heap := h', toks := t' } := I.un (Un.kept k) (I.hok.kept k)

theorem Inv.laid {a : Addr} {o : HO} {t' : Nat} (I : Inv X pins σ H s) (k : ∀ b u, s.heap.get? b = some u → h'.get? b = some u) (hp : s.heap.objs.size ≤ a) (new : ObjOk X.prog X.w (upd H a o) h' a o) :
    Inv X pins σ (upd H a o) { s with heap := h', toks := t' } := I.un (Un.laid k hp (I.hok.fresh hp)) (I.hok.laid k hp new)

theorem Inv.write {x e : Addr} {o : HO} {t' : Nat} (I : Inv X pins σ H s) (mu : Mut (H x)) (he : e = x ∨ H e = some (.own x)) (k : ∀ b u, b ≠ e → s.heap.get? b = some u → h'.get? b = some u) (heo : ∃ u, h'.get? e = some u)
    (new : ObjOk X.prog X.w (upd H x o) h' x o) : Inv X pins σ (upd H x o) { s with heap := h', toks := t' } := I.un (Un.write mu he k heo) (I.hok.write mu he k heo new)

theorem Inv.pins_of {pins' : List (Addr × Obj)} (I : Inv X pins σ H s) (h : ∀ p ∈ pins', s.heap.get? p.1 = some p.2 ∧ H p.1 = none ∧ p.1 ≠ X.env.locals ∧ p.1 ∉ X.fs ∧ ∀ v, p.2.data ≠ .cell v) : Inv X pins' σ H s :=
  ⟨I.ok, I.os, I.bare, I.base, I.loc, I.cell, I.free, I.freeC, fun p hp => (List.mem_append.mp hp).elim (fun z => I.pin p (List.mem_append_left _ z)) (h p), I.hok, I.len⟩

theorem nodup_ix {N : List Str} (hN : N.Nodup) {i j : Nat} {x : Str} (a : N[i]? = some x) (b : N[j]? = some x) : i = j := by
  obtain ⟨h1, e1⟩ := List.getElem?_eq_some_iff.mp a
  obtain ⟨h2, e2⟩ := List.getElem?_eq_some_iff.mp b
  exact (List.getElem_inj hN).mp (e1.trans e2.symm)


theorem store_ok2 {M : Model} {A : Around} {E : Value → Shared → Prop} {i : Nat} {x : Str} {v : V} {u : Value} {Q : Unit → Shared → Prop} (I : Inv X pins σ H s) (hN : X.N.Nodup) (hi : X.N[i]? = some x) (hx : Loc X.env.scope x) (r : RelV v u)
    (h : ∀ s', Inv X pins (σ.set i (some v)) H s' → (∃ a, Heap.SameBut a s.heap s'.heap ∧ (a = X.env.locals ∨ X.env.cells.lookup x = some a)) → Q () s') (hf : X.fn x = true ∨ X.env.scope.names.lookup x = some .local := by first | exact .inl rfl | exact .inr rfl | assumption) : wpAny M A (storeName X.env x u) Q E s := by
  obtain ⟨m, hn, hl⟩ := id I.loc
  have hcls : (X.env.scope.kind == .class || (X.env.scope.kind == .module && X.env.locals != X.env.globals)) = false := by rw [I.ok.kind]; rfl
  have hiσ : i < σ.length := by rw [I.len]; exact (List.getElem?_eq_some_iff.mp hi).1
  have cne := I.cne
  have tracked : ∀ {a : Addr} {h' : Heap}, (∃ o, s.heap.get? a = some o ∧ H a = none) → Heap.SameBut a s.heap h' → HOk X.prog X.w H h' := fun {a h'} ha hs b ob e => by
    obtain ⟨_, _, hfree⟩ := ha
    refine (I.hok b ob e).stay (fun c w' hc q => (hs.2 c ?_).trans q) (fun _ q => q) fun _ _ q => q
    rintro rfl
    rcases hc with rfl | hc
    · rw [hfree] at e; cases e
    · rw [hfree] at hc; cases hc
  rcases hx with hk | hk
  · refine wpAny_storeName_local hk hn (fun h' hn' hs => ?_) hcls
    obtain ⟨oL, _, _, hoL, _⟩ := id hn
    refine h _ ⟨I.ok, I.os, I.bare, ⟨fun b o e n hb hx => ?_, fun b o e n hb hx => ?_, I.base.free, fun b o e hx => ?_, I.base.tups, I.base.frzs, I.base.tbls⟩, ⟨_, hn', fun j y v' e1 e2 e3 => ?_⟩, fun y c e => ?_, I.free, I.freeC, fun p hp => ?_, tracked ⟨oL, hoL, I.free⟩ hs, by simpa using I.len⟩ ⟨_, hs, .inl rfl⟩
    · exact (hs.2 b (Nat.ne_of_lt (Nat.lt_of_lt_of_le (Heap.lt_size e) I.ok.above))).trans (I.base.keep b o e n hb hx)
    · obtain ⟨sl, e1⟩ := I.base.slot b o e n hb hx
      exact ⟨sl, (hs.2 b (Nat.ne_of_lt (Nat.lt_of_lt_of_le (Heap.lt_size e) I.ok.above))).trans e1⟩
    · obtain ⟨o', e1⟩ := I.base.there b o e hx
      exact ⟨o', (hs.2 b (Nat.ne_of_lt (Nat.lt_of_lt_of_le (Heap.lt_size e) I.ok.above))).trans e1⟩
    · by_cases hj : j = i
      · subst hj
        rw [hi] at e1; cases e1
        rw [List.getElem?_set_self hiσ] at e2
        cases e2
        exact ⟨u, r, .inl ⟨hk, by simp⟩⟩
      · rw [List.getElem?_set_ne (Ne.symm hj)] at e2
        obtain ⟨u', r', q⟩ := hl j y v' e1 e2 e3
        refine ⟨u', r', ?_⟩
        rcases q with ⟨k, e⟩ | ⟨k, c, e, z⟩
        · refine .inl ⟨k, ?_⟩
          have : y ≠ x := fun e => hj (nodup_ix hN e1 (e ▸ hi))
          simp [this, e]
        · exact .inr ⟨k, c, e, z.sameBut hs (cne y c e)⟩
    · obtain ⟨w', z⟩ := I.cell y c e
      exact ⟨w', z.sameBut hs (cne y c e)⟩
    · obtain ⟨e, n, ne, nf, d⟩ := I.pin p hp
      exact ⟨(hs.2 p.1 ne).trans e, n, ne, nf, d⟩
  · have hfn : X.fn x = true := by
      rcases hf with z | z
      · exact z
      · rw [z] at hk; cases hk
    obtain ⟨c, hc⟩ := I.ok.has x (.inl hk)
    obtain ⟨w', z⟩ := I.cell x c hc
    refine wpAny_storeName_cell I.ok.kind hk hc z (fun h' hc' hs => ?_)
    obtain ⟨oc, hoc, hocd⟩ := id z
    refine h { s with heap := h' } ⟨I.ok, I.os, I.bare, ⟨fun b o e n hb hx => ?_, fun b o e n hb hx => ?_, I.base.free, fun b o e hx => ?_, I.base.tups, I.base.frzs, I.base.tbls⟩, ⟨m, hn.sameBut hs (Ne.symm (cne x c hc)), fun j y v' e1 e2 e3 => ?_⟩, fun y c' e => ?_, I.free, I.freeC, fun p hp => ?_, tracked ⟨oc, hoc, I.freeC x c hc⟩ hs, by simpa using I.len⟩ ⟨c, hs, .inr hc⟩
    · exact (hs.2 b (Nat.ne_of_lt (Nat.lt_of_lt_of_le (Heap.lt_size e) (I.ok.cab x c hfn hc)))).trans (I.base.keep b o e n hb hx)
    · obtain ⟨sl, e1⟩ := I.base.slot b o e n hb hx
      exact ⟨sl, (hs.2 b (Nat.ne_of_lt (Nat.lt_of_lt_of_le (Heap.lt_size e) (I.ok.cab x c hfn hc)))).trans e1⟩
    · obtain ⟨o', e1⟩ := I.base.there b o e hx
      exact ⟨o', (hs.2 b (Nat.ne_of_lt (Nat.lt_of_lt_of_le (Heap.lt_size e) (I.ok.cab x c hfn hc)))).trans e1⟩
    · by_cases hj : j = i
      · subst hj
        rw [hi] at e1; cases e1
        rw [List.getElem?_set_self hiσ] at e2
        cases e2
        exact ⟨u, r, .inr ⟨.inl hk, c, hc, hc'⟩⟩
      · rw [List.getElem?_set_ne (Ne.symm hj)] at e2
        obtain ⟨u', r', q⟩ := hl j y v' e1 e2 e3
        refine ⟨u', r', ?_⟩
        rcases q with q | ⟨k, c', e, z'⟩
        · exact .inl q
        · refine .inr ⟨k, c', e, z'.sameBut hs ?_⟩
          rintro rfl
          exact hj (nodup_ix hN e1 (I.ok.inj _ _ _ e hc ▸ hi))
    · by_cases hcc : c' = c
      · subst hcc; exact ⟨_, hc'⟩
      · obtain ⟨w2, z2⟩ := I.cell y c' e
        exact ⟨w2, z2.sameBut hs hcc⟩
    · obtain ⟨e, n, ne, nf, d⟩ := I.pin p hp
      refine ⟨(hs.2 p.1 ?_).trans e, n, ne, nf, d⟩
      intro q
      rw [q, hoc] at e
      have q' : oc = p.2 := Option.some.inj e
      exact d w' (by rw [← q']; exact hocd)
theorem store_ok {M : Model} {A : Around} {E : Value → Shared → Prop} {i : Nat} {x : Str} {v : V} {u : Value} {Q : Unit → Shared → Prop} (I : Inv X pins σ H s) (hN : X.N.Nodup) (hi : X.N[i]? = some x) (hx : Loc X.env.scope x) (r : RelV v u)
    (h : ∀ s', Inv X pins (σ.set i (some v)) H s' → Q () s') (hf : X.fn x = true ∨ X.env.scope.names.lookup x = some .local := by first | exact .inl rfl | exact .inr rfl | assumption) : wpAny M A (storeName X.env x u) Q E s :=
  store_ok2 I hN hi hx r (fun s' I' _ => h s' I') hf

theorem Inv.call' {s' : Shared} {ch : List Addr} (I : Inv X pins σ H s) (ho : s'.os = s.os) (u : Un (frs X.stack) ch H H' s.heap s'.heap) (hok : HOk X.prog X.w H' s'.heap) (hg : AllBare s'.gens)
    (hch : ∀ b ∈ ch, (b ∈ X.ex ∨ X.s₀.heap.objs.size ≤ b) ∧ b ≠ X.env.locals ∧ (∀ x c, X.env.cells.lookup x = some c → c ≠ b) ∧ ∀ p ∈ X.pn ++ pins, p.1 ≠ b) : Inv X pins σ H' s' := by
  obtain ⟨h', g', d', t', o'⟩ := s'
  have e : o' = s.os := ho
  subst e
  exact I.call (g' := g') (t' := t') (d' := d') u hok hg hch
end



abbrev XK := Value → Option Addr → Hp → Prop
abbrev St := List (Option V)
abbrev VK := V → Hp → Prop

abbrev TE := St → Hp → VK → Prop
abbrev TT := St → Hp → (Bool → Hp → Prop) → Prop
abbrev TA := St → Hp → (List V → Hp → Prop) → Prop

structure Ends where
  nx : St → Hp → Prop
  rt : VK
  bk : St → Hp → Prop := fun _ _ => False
  ct : St → Hp → Prop := fun _ _ => False
abbrev TS := Ends → St → Hp → Prop

def EP (X : Cx) (pins : List (Addr × Obj)) (σ : St) (Q : VK) (u : Value) (s' : Shared) : Prop := ∃ v H', Inv X pins σ H' s' ∧ RelV v u ∧ Q v H'
def TP (X : Cx) (pins : List (Addr × Obj)) (σ : St) (Q : Bool → Hp → Prop) (b : Bool) (s' : Shared) : Prop := ∃ H', Inv X pins σ H' s' ∧ Q b H'
def AP (X : Cx) (pins : List (Addr × Obj)) (σ : St) (Q : List V → Hp → Prop) (us : List Value) (s' : Shared) : Prop := ∃ vs H', Inv X pins σ H' s' ∧ Vals vs us ∧ Q vs H'
def SP (X : Cx) (pins : List (Addr × Obj)) (D : Ends) (f : Flow) (s' : Shared) : Prop :=
  match f with
  | .next => ∃ σ' H', Inv X pins σ' H' s' ∧ D.nx σ' H'
  | .brk => ∃ σ' H', Inv X pins σ' H' s' ∧ D.bk σ' H'
  | .cont => ∃ σ' H', Inv X pins σ' H' s' ∧ D.ct σ' H'
  | .ret u => ∃ v σ' H', Inv X pins σ' H' s' ∧ RelV v u ∧ D.rt v H'

def PE (X : Cx) (e : Expr) (t : TE) : Prop :=
  ∀ (pins : List (Addr × Obj)) (s : Shared) (σ : St) (H : Hp) (Q : VK), Inv X pins σ H s → t σ H Q → wpAny (model X.prog X.w) X.A (eval e X.env) (EP X pins σ Q) X.xe s
def PT (X : Cx) (e : Expr) (t : TT) : Prop :=
  ∀ (pins : List (Addr × Obj)) (s : Shared) (σ : St) (H : Hp) (Q : Bool → Hp → Prop), Inv X pins σ H s → t σ H Q → wpAny (model X.prog X.w) X.A (isTrue e X.env (eval e X.env)) (TP X pins σ Q) X.xe s

def PW (X : Cx) (e : Expr) (t : TT) : Prop :=
  ∀ (whole : Sem Value) (pins : List (Addr × Obj)) (s : Shared) (σ : St) (H : Hp) (Q : Bool → Hp → Prop), Inv X pins σ H s → t σ H Q → wpAny (model X.prog X.w) X.A (isTrue e X.env whole) (TP X pins σ Q) X.xe s
theorem PW.pt {X : Cx} {e : Expr} {t : TT} (h : PW X e t) : PT X e t := h _

def PA (X : Cx) (es : List Expr) (t : TA) : Prop :=
  ∀ (pos : Pos) (pins : List (Addr × Obj)) (s : Shared) (σ : St) (H : Hp) (Q : List V → Hp → Prop), Inv X pins σ H s → t σ H Q → wpAny (model X.prog X.w) X.A (spliced (backTo pos (starEach es X.env))) (AP X pins σ Q) X.xe s
def PS (X : Cx) (st : Stmt) (t : TS) : Prop :=
  ∀ (pins : List (Addr × Obj)) (s : Shared) (σ : St) (H : Hp) (D : Ends), Inv X pins σ H s → t D σ H → wpAny (model X.prog X.w) X.A (exec st X.env) (SP X pins D) X.xe s
def PSs (X : Cx) (st : List Stmt) (t : TS) : Prop :=
  ∀ (pins : List (Addr × Obj)) (s : Shared) (σ : St) (H : Hp) (D : Ends), Inv X pins σ H s → t D σ H → wpAny (model X.prog X.w) X.A (execs st X.env) (SP X pins D) X.xe s

theorem thn {α : Type} {t : Sem α} {Q Q' : α → Shared → Prop} {M : Model} {A : Around} {E : Value → Shared → Prop} {s : Shared} (h : wpAny M A t Q E s) (hQ : ∀ a s, Q a s → Q' a s) : wpAny M A t Q' E s := wpAny_mono h hQ fun _ _ x => x
end L2

namespace L2
open PySem PySem.Spec PyProof.Rows
section
variable {X : Cx}


def tVar (i : Nat) : TE := fun σ H Q => ∃ v, σ[i]? = some (some v) ∧ Q v H
def tC (v : V) : TE := fun _ H Q => Q v H
theorem pe_var {i : Nat} {x : Str} {pos : Pos} (hN : X.N[i]? = some x) (hv : Vis X.env.scope x) (hd : (x == ("__debug__" : Str)) = false := by decide) (hcd : (x == ("__classdict__" : Str)) = false := by decide) : PE X (.Name x pos) (tVar i) := by
  intro pins s σ H Q I h
  obtain ⟨v, e, h⟩ := h
  obtain ⟨m, hn, hl⟩ := I.loc
  obtain ⟨u, r, l⟩ := hl i x v hN e hv
  have fin : EP X pins σ Q u s := ⟨v, H, I, r, h⟩
  rcases l with ⟨hk, hm⟩ | ⟨hk, c, hc, hcell⟩
  · exact wpAny_Name (wpAny_loadName_local I.ok.kind hk hn hm fin) hd
  · rcases hk with hk | hk
    · exact wpAny_Name (wpAny_loadName_cell I.ok.kind hk hc hcell fin) hd
    · exact wpAny_Name (wpAny_loadName_free I.ok.kind hk hc hcell fin hcd) hd
theorem pe_int {i j pos} : PE X (.Constant (.int i) j pos) (tC (.int i)) := fun _ _ _ H _ I h => wpAny_Constant_int ⟨.int i, H, I.tok _, ⟨_, rfl⟩, h⟩
theorem pe_bl {b j pos} : PE X (.Constant (.bool b) j pos) (tC (.bl b)) := fun _ _ _ H _ I h => Constant_bool ⟨.bl b, H, I, rfl, h⟩
theorem pe_non {j pos} : PE X (.Constant .none j pos) (tC .non) := fun _ _ _ H _ I h => Constant_none ⟨.non, H, I, rfl, h⟩
def Gl (X : Cx) (x : Str) : Prop := X.env.kindOf x = some .globalImplicit
theorem ld_glob {E : Value → Shared → Prop} {pins : List (Addr × Obj)} {s : Shared} {σ : St} {H : Hp} {x : Str} {u : Value} {pos : Pos} {Q : Value → Shared → Prop} (I : Inv X pins σ H s) (hg : Gl X x) (hm : X.mg x = some u) (h : Q u s)
    (hd : (x == ("__debug__" : Str)) = false := by decide) : wpAny (model X.prog X.w) X.A (eval (.Name x pos) X.env) Q E s :=
  Calls.Name_function_global I.ok.kind hg (Calls.loadGlobal_global (by rw [I.ok.glob]; exact I.mod.glob.keeps I.bk) hm h) hd
theorem ld_blt {E : Value → Shared → Prop} {pins : List (Addr × Obj)} {s : Shared} {σ : St} {H : Hp} {x : Str} {u : Value} {pos : Pos} {Q : Value → Shared → Prop} (I : Inv X pins σ H s) (hg : Gl X x) (hm : X.mg x = none) (hv : bootBuiltins x = some u) (h : Q u s)
    (hn : x ≠ "__name__" := by decide) (hd : (x == ("__debug__" : Str)) = false := by decide) : wpAny (model X.prog X.w) X.A (eval (.Name x pos) X.env) Q E s := by
  obtain ⟨mb, h1, h2⟩ := I.mod.blt
  exact Calls.Name_function_global I.ok.kind hg (Calls.loadGlobal_builtin (by rw [I.ok.glob]; exact I.mod.glob.keeps I.bk) hm (by rw [I.ok.blt]; exact h1.keeps I.bk) ((h2 x hn).trans hv) h) hd

theorem pe_glob {x : Str} {v : V} {u : Value} {pos : Pos} (hg : Gl X x) (hm : X.mg x = some u) (r : RelV v u) (hd : (x == ("__debug__" : Str)) = false := by decide) : PE X (.Name x pos) (tC v) :=
  fun _ _ _ H _ I h => ld_glob I hg hm ⟨v, H, I, r, h⟩ hd
theorem pe_bltn {x : Str} {v : V} {u : Value} {pos : Pos} (hg : Gl X x) (hm : X.mg x = none) (hv : bootBuiltins x = some u) (r : RelV v u) (hn : x ≠ "__name__" := by decide) (hd : (x == ("__debug__" : Str)) = false := by decide) : PE X (.Name x pos) (tC v) :=
  fun _ _ _ H _ I h => ld_blt I hg hm hv ⟨v, H, I, r, h⟩ hn hd



variable {a b : Expr} {ta tb : TE} {pos : Pos}
variable {tA tB' : TT} {rest : List Expr}
def tOr (t u : TT) : TT := fun σ H Q => t σ H fun c H1 => if c = true then Q true H1 else u σ H1 Q
theorem pw_or1 (ha : PT X a tA) : PW X (.BoolOp .Or [a] pos) tA := by
  intro wh pins s σ H Q I h
  refine isTrue_or (thn (ha pins s σ H Q I h) fun c s1 e => ?_)
  cases c with
  | false => exact isTrue_or_nil e
  | true => exact e
theorem pw_or (ha : PT X a tA) (hb : PW X (.BoolOp .Or (b :: rest) pos) tB') : PW X (.BoolOp .Or (a :: b :: rest) pos) (tOr tA tB') := by
  intro wh pins s σ H Q I h
  refine isTrue_or (thn (ha pins s σ H _ I h) fun c s1 ⟨H1, I1, q1⟩ => ?_)
  cases c with
  | true => exact ⟨H1, I1, q1⟩
  | false => exact hb wh pins s1 σ H1 Q I1 q1
def tAndV (ta tb : TE) : TE := fun σ H Q => ta σ H fun x H1 => ∃ c, x = .bl c ∧ if c = true then tb σ H1 Q else Q (.bl false) H1
def tNotV (ta : TE) : TE := fun σ H Q => ta σ H fun x H1 => ∃ c, x = .bl c ∧ Q (.bl (!c)) H1
theorem pe_one {op} {t : TE} (h : PE X a t) : PE X (.BoolOp op [a] pos) t := fun pins s σ H Q I hw => BoolOp_one (h pins s σ H Q I hw)
theorem pe_and (ha : PE X a ta) (hb : PE X (.BoolOp .And (b :: rest) pos) tb) : PE X (.BoolOp .And (a :: b :: rest) pos) (tAndV ta tb) := by
  intro pins s σ H Q I h
  refine BoolOp_and (thn (ha pins s σ H _ I h) fun v s1 ⟨x, H1, I1, r1, q1⟩ => ?_)
  obtain ⟨c, rfl, q1⟩ := q1
  cases r1
  refine wpAny_truthy_bool ?_
  cases c with
  | true => exact hb pins s1 σ H1 Q I1 q1
  | false => exact ⟨.bl false, H1, I1, rfl, q1⟩
theorem pe_not (ha : PE X a ta) : PE X (.UnaryOp .Not a pos) (tNotV ta) := by
  intro pins s σ H Q I h
  refine UnaryOp_ (thn (ha pins s σ H _ I h) fun v s1 ⟨x, H1, I1, r1, q1⟩ => ?_)
  obtain ⟨c, rfl, q1⟩ := q1
  cases r1
  exact not_of (wpAny_truthy_bool ⟨.bl (!c), H1, I1, rfl, q1⟩)

end
end L2

namespace L2
open PySem PySem.Spec PyProof.Rows


def SqL (K : PySem.W.Frag) (H : Hp) (a : Addr) (xs : List V) : Prop :=
  Rd H a (.lst xs) ∨
    ∃ (o : Obj) (its : Array Value) (n : Nat), K.lookup a = some o ∧ o.cls = .type "list" ∧ o.dict = none ∧ o.data = .seq its n ∧ its.size ≤ sizeLine ∧ Vals xs its.toList
def SqT (K : PySem.W.Frag) (H : Hp) (a : Addr) (xs : List V) : Prop :=
  Rd H a (.tup xs) ∨
    ∃ (o : Obj) (its : Array Value) (n : Nat), K.lookup a = some o ∧ o.cls = .type "tuple" ∧ o.data = .seq its n ∧ its.size ≤ sizeLine ∧ Vals xs its.toList
def absV : Value → Option V
  | .none => some .non
  | .bool b => some (.bl b)
  | .int i _ => some (.int i)
  | .str x _ => some (.str x)
  | .bytes b _ => some (.byt b)
  | .float b _ => some (.flt b)
  | .ref a => some (.ref a)
  | .type n => some (.ty n)
  | _ => none
theorem RelV.abs {x : V} {u : Value} (r : RelV x u) : absV u = some x := by
  cases x with
  | non => cases r; rfl
  | bl _ => cases r; rfl
  | int _ => obtain ⟨t, rfl⟩ := r; rfl
  | str _ => obtain ⟨t, rfl⟩ := r; rfl
  | byt _ => obtain ⟨t, rfl⟩ := r; rfl
  | flt _ => obtain ⟨t, rfl⟩ := r; rfl
  | ref _ => cases r; rfl
  | ty _ => cases r; rfl
theorem RelV.inj {x y : V} {u : Value} (r : RelV x u) (q : RelV y u) : x = y := Option.some.inj (r.abs.symm.trans q.abs)
theorem Vals.inj : ∀ {xs ys : List V} {us : List Value}, Vals xs us → Vals ys us → xs = ys
  | _, _, _, .nil, .nil => rfl
  | _, _, _, .cons r t, .cons r' t' => by rw [r.inj r', Vals.inj t t']
section
variable {X : Cx} {pins : List (Addr × Obj)} {σ : St} {H : Hp} {s : Shared} {a : Addr} {xs ys : List V}
theorem SqL.of {K : PySem.W.Frag} (h : H a = some (.lst xs)) : SqL K H a xs := .inl (.inl h)
theorem SqT.of {K : PySem.W.Frag} (h : H a = some (.tup xs)) : SqT K H a xs := .inl (.inl h)
theorem Inv.list (I : Inv X pins σ H s) (h : SqL X.K H a xs) : ∃ its : List Value, Vals xs its ∧ PlainL s.heap a its.toArray ∧ xs.length ≤ sizeLine := by
  rcases h with h | ⟨o, its, n, hk, hc, hd, hs, hz, r⟩
  · obtain ⟨z, its, n, r, e⟩ := h.ok I.hok
    exact ⟨its, r, ⟨_, n, e, rfl, rfl, rfl⟩, z⟩
  · refine ⟨its.toList, r, ⟨o, n, I.kIn a o hk, hc, hd, by simpa using hs⟩, ?_⟩
    have e := r.length
    simp only [Array.length_toList] at e
    omega
theorem Inv.tuple (I : Inv X pins σ H s) (h : SqT X.K H a xs) : ∃ its : List Value, Vals xs its ∧ IsTup s.heap a its.toArray ∧ xs.length ≤ sizeLine := by
  rcases h with h | ⟨o, its, n, hk, hc, hs, hz, r⟩
  · obtain ⟨z, its, r, p⟩ := h.ok I.hok
    exact ⟨its, r, p, z⟩
  · refine ⟨its.toList, r, ⟨o, I.kIn a o hk, hc, n, by simpa using hs⟩, ?_⟩
    have e := r.length
    simp only [Array.length_toList] at e
    omega
theorem Inv.list_inj (I : Inv X pins σ H s) (h : SqL X.K H a xs) (h' : SqL X.K H a ys) : xs = ys := by
  obtain ⟨its, r, ⟨o, n, e, _, _, d⟩, _⟩ := I.list h
  obtain ⟨its', r', ⟨o', n', e', _, _, d'⟩, _⟩ := I.list h'
  rw [e] at e'; cases e'
  rw [d] at d'
  injection d' with d1 _
  have : its = its' := by simpa using congrArg Array.toList d1
  subst this
  exact r.inj r'
theorem Inv.tuple_inj (I : Inv X pins σ H s) (h : SqT X.K H a xs) (h' : SqT X.K H a ys) : xs = ys := by
  obtain ⟨its, r, ⟨o, e, _, n, d⟩, _⟩ := I.tuple h
  obtain ⟨its', r', ⟨o', e', _, n', d'⟩, _⟩ := I.tuple h'
  rw [e] at e'; cases e'
  rw [d] at d'
  injection d' with d1 _
  have : its = its' := by simpa using congrArg Array.toList d1
  subst this
  exact r.inj r'
end


abbrev Cx.wish (X : Cx) (E : Value → Shared → Prop) : Cx := { X with xe := E }

abbrev Cx.nox (X : Cx) : Cx := X.wish fun _ _ => False
theorem Cx.Ok.wish {X : Cx} (ok : X.Ok) (E : Value → Shared → Prop) : (X.wish E).Ok :=
  ⟨ok.mod, ok.kind, ok.glob, ok.blt, ok.above, ok.inj, ok.has, ok.cab, ok.hd, ok.frames, ok.stk, ok.exf, ok.bs, ok.bsz, ok.noex, ok.exfs, ok.funs, ok.frf⟩
theorem Cx.Ok.unwish {X : Cx} {E : Value → Shared → Prop} (ok : (X.wish E).Ok) : X.Ok :=
  ⟨ok.mod, ok.kind, ok.glob, ok.blt, ok.above, ok.inj, ok.has, ok.cab, ok.hd, ok.frames, ok.stk, ok.exf, ok.bs, ok.bsz, ok.noex, ok.exfs, ok.funs, ok.frf⟩
section
variable {X : Cx} {pins : List (Addr × Obj)} {σ : St} {H : Hp} {s : Shared} {E : Value → Shared → Prop}
theorem Inv.wish (I : Inv X pins σ H s) (E : Value → Shared → Prop) : Inv (X.wish E) pins σ H s := ⟨I.ok.wish E, I.os, I.bare, I.base, I.loc, I.cell, I.free, I.freeC, I.pin, I.hok, I.len⟩
theorem Inv.unwish (I : Inv (X.wish E) pins σ H s) : Inv X pins σ H s := ⟨I.ok.unwish, I.os, I.bare, I.base, I.loc, I.cell, I.free, I.freeC, I.pin, I.hok, I.len⟩
theorem SP.unwish {D : Ends} {f : Flow} {s' : Shared} (h : SP (X.wish E) pins D f s') : SP X pins D f s' := by
  cases f with
  | next => obtain ⟨σ', H', I, q⟩ := h; exact ⟨σ', H', I.unwish, q⟩
  | brk => obtain ⟨σ', H', I, q⟩ := h; exact ⟨σ', H', I.unwish, q⟩
  | cont => obtain ⟨σ', H', I, q⟩ := h; exact ⟨σ', H', I.unwish, q⟩
  | ret u => obtain ⟨v, σ', H', I, r, q⟩ := h; exact ⟨v, σ', H', I.unwish, r, q⟩
theorem PSs.nox {st : List Stmt} {t : TS} (h : PSs X.nox st t) : PSs X st t := fun pins s σ H D I hw =>
  wpAny_mono (h pins s σ H D (I.wish _) hw) (fun _ _ q => q.unwish) fun _ _ z => False.elim z
end


section
variable {X : Cx} {st : Stmt} {rest : List Stmt} {t u : TS} {e : Expr} {te : TE} {pos : Pos}
def tNext : TS := fun D σ H => D.nx σ H
def tSeq (t u : TS) : TS := fun D σ H => t { D with nx := u D } σ H
theorem pss_nil : PSs X [] tNext := fun _ _ σ H _ I h => wpAny_execs_nil ⟨σ, H, I, h⟩
theorem pss_cons (h1 : PS X st t) (h2 : PSs X rest u) : PSs X (st :: rest) (tSeq t u) := by
  intro pins s σ H D I h
  refine wpAny_execs_cons (thn (h1 pins s σ H { D with nx := u D } I h) fun f s1 q => ?_)
  cases f with
  | next =>
    obtain ⟨σ', H', I', q⟩ := q
    exact h2 pins s1 σ' H' D I' q
  | ret v => exact q
  | brk => exact q
  | cont => exact q
theorem pss_one (h1 : PS X st t) : PSs X [st] t := by
  intro pins s σ H D I h
  refine wpAny_execs_cons (thn (h1 pins s σ H D I h) fun f s1 q => ?_)
  cases f with
  | next => exact wpAny_execs_nil q
  | ret v => exact q
  | brk => exact q
  | cont => exact q
theorem Inv.quiet {pins : List (Addr × Obj)} {σ : St} {H : Hp} {s : Shared} (I : Inv X pins σ H s) : interactive X.env = false := by simp [interactive, I.ok.kind]

def tDrop (te : TE) : TS := fun D σ H => te σ H fun _ H1 => D.nx σ H1
theorem ps_expr (he : PE X e te) (hs : swapsWith e none pos.line X.env = pure false := by rfl) : PS X (.Expr e pos) (tDrop te) := by
  intro pins s σ H D I h
  exact wpAny_Expr_any (thn (he pins s σ H _ I h) fun v s1 ⟨x, H1, I1, r1, q1⟩ => ⟨σ, H1, I1, q1⟩) I.quiet hs
def tRet (te : TE) : TS := fun D σ H => te σ H D.rt
theorem ps_ret (he : PE X e te) : PS X (.Return (some e) pos) (tRet te) := by
  intro pins s σ H D I h
  exact wpAny_Return_some (thn (he pins s σ H _ I h) fun v s1 ⟨x, H1, I1, r1, q1⟩ => ⟨x, σ, H1, I1, r1, q1⟩)
def tIfS (c : TT) (t u : TS) : TS := fun D σ H => c σ H fun b H1 => if b = true then t D σ H1 else u D σ H1
theorem ps_if {c : Expr} {a b : List Stmt} {tc : TT} (hc : PT X c tc) (ha : PSs X a t) (hb : PSs X b u) : PS X (.If c a b pos) (tIfS tc t u) := by
  intro pins s σ H D I h
  refine wpAny_If (thn (hc pins s σ H _ I h) fun d s1 ⟨H1, I1, q1⟩ => ?_)
  cases d with
  | true => exact ha pins s1 σ H1 D I1 q1
  | false => exact hb pins s1 σ H1 D I1 q1

def tNever : TS := fun _ _ _ => False
theorem ps_never : PS X st tNever := fun _ _ _ _ _ _ h => h.elim
end


abbrev TG := V → St → Hp → (St → Hp → Prop) → Prop
def PG (X : Cx) (target : Expr) (t : TG) : Prop :=
  ∀ (pins : List (Addr × Obj)) (s : Shared) (σ : St) (H : Hp) (v : V) (u : Value) (Q : St → Hp → Prop), Inv X pins σ H s → RelV v u → t v σ H Q →
    wpAny (model X.prog X.w) X.A (assign target X.env u) (fun _ s' => ∃ σ' H', Inv X pins σ' H' s' ∧ Q σ' H') X.xe s

section
variable {X : Cx} {pos : Pos}
def gName (i : Nat) : TG := fun v σ H Q => Q (σ.set i (some v)) H
theorem pg_name {i : Nat} {x : Str} (hN : X.N.Nodup) (hi : X.N[i]? = some x) (hx : Loc X.env.scope x) (hf : X.fn x = true ∨ X.env.scope.names.lookup x = some .local := by first | exact .inl rfl | exact .inr rfl | assumption) : PG X (.Name x pos) (gName i) := by
  intro pins s σ H v u Q I r h
  exact wpAny_assign_Name (store_ok I hN hi hx r (fun s' I' => ⟨_, H, I', h⟩) hf)
def tAsg (te : TE) (g : TG) : TS := fun D σ H => te σ H fun x H1 => g x σ H1 D.nx
theorem ps_set {i : Nat} {x : Str} {e : Expr} {te : TE} {pos' : Pos} (hN : X.N.Nodup) (hi : X.N[i]? = some x) (hx : Loc X.env.scope x) (he : PE X e te) (hs : swapsWith e (some (.Name x pos')) pos.line X.env = pure false := by rfl) (hf : X.fn x = true ∨ X.env.scope.names.lookup x = some .local := by first | exact .inl rfl | exact .inr rfl | assumption) :
    PS X (.Assign [.Name x pos'] e pos) (tAsg te (gName i)) := by
  intro pins s σ H D I h
  refine wpAny_Assign_Name (thn (he pins s σ H _ I h) fun v s1 ⟨y, H1, I1, r1, q1⟩ => ?_) hs
  exact store_ok I1 hN hi hx r1 (fun s2 I2 => ⟨_, H1, I2, q1⟩) hf

end


section
variable {X : Cx} {pos : Pos}

end



structure It where
  go : Nat → Hp → Prop
  yld : Nat → Hp → V → Hp → Prop
  stop : Nat → Hp → Prop

def FpOk (X : Cx) (pins : List (Addr × Obj)) (H : Hp) (b : Addr) : Prop :=
  H b = none ∧ b ≠ X.env.locals ∧ b ∉ X.fs ∧ (b ∈ X.ex ∨ X.s₀.heap.objs.size ≤ b) ∧ (∀ x c, X.env.cells.lookup x = some c → c ≠ b) ∧ ∀ p ∈ X.pn ++ pins, p.1 ≠ b
theorem Inv.fpOk {X : Cx} {pins : List (Addr × Obj)} {σ : St} {H H' : Hp} {s : Shared} {b : Addr} (I : Inv X pins σ H s) (hb : s.heap.objs.size ≤ b) (hn : H' b = none) : FpOk X pins H' b := by
  refine ⟨hn, Nat.ne_of_gt (Nat.lt_of_lt_of_le I.lt hb), I.nofs hb, .inr (Nat.le_trans I.sz hb), fun x c e z => ?_, fun p hp z => ?_⟩
  · obtain ⟨v, q⟩ := I.cell x c e
    exact absurd (Nat.lt_of_lt_of_le q.lt (by rw [z]; exact hb)) (Nat.lt_irrefl _)
  · exact absurd (Nat.lt_of_lt_of_le (Heap.lt_size (I.pin p hp).1) (by rw [z]; exact hb)) (Nat.lt_irrefl _)
structure Turn (P : Program) (w : World) (K : PySem.W.Frag) (tg : Expr) (J : It) (fp : List Addr) (it : Addr) (tn : Nat → Heap → Prop) : Prop where
  mem : it ∈ fp
  obj : ∀ i h, tn i h → ∀ b ∈ fp, ∃ o, h.get? b = some o ∧ ∀ v, o.data ≠ .cell v
  keep : ∀ i h h', tn i h → (∀ b ∈ fp, ∀ o, h.get? b = some o → h'.get? b = some o) → tn i h'
  item : ∀ (X : Cx), X.prog = P → X.w = w → X.K = K → X.calm = true → ∀ (i : Nat) (pins : List (Addr × Obj)) (s : Shared) (σ : St) (H : Hp) (E : Value → Shared → Prop), Inv X pins σ H s → (∀ b ∈ fp, FpOk X pins H b) → tn i s.heap → J.go i H →
    wpAny (model P w) X.A (pyNext (.ref it)) (fun r s1 => ∃ u, r = some u ∧
      wpAny (model P w) X.A (letOwnedTupleGo tg (.ref it) u) (fun _ s2 => ∃ x H', Inv X pins σ H' s2 ∧ RelV x u ∧ J.yld i H x H' ∧ tn (i + 1) s2.heap ∧ ∀ b ∈ fp, H' b = none) E s1) E s
  done : ∀ (X : Cx), X.prog = P → X.w = w → X.K = K → X.calm = true → ∀ (i : Nat) (pins : List (Addr × Obj)) (s : Shared) (σ : St) (H : Hp) (E : Value → Shared → Prop), Inv X pins σ H s → (∀ b ∈ fp, FpOk X pins H b) → tn i s.heap → J.stop i H →
    wpAny (model P w) X.A (pyNext (.ref it)) (fun r s1 => r = none ∧ Inv X pins σ H s1) E s
  self : ∀ (A : Around) (i : Nat) (s : Shared) (Q : Value → Shared → Prop) (E : Value → Shared → Prop), tn i s.heap → Q (.ref it) s → wpAny (model P w) A (pyIter (.ref it)) Q E s
abbrev TI := St → Hp → (It → Hp → Prop) → Prop

def PIE (X : Cx) (pins : List (Addr × Obj)) (σ : St) (tg : Expr) (R : It → Hp → Prop) (itv : Value) (s2 : Shared) : Prop :=
  ∃ (it : Addr) (fp : List Addr) (tn : Nat → Heap → Prop) (J : It) (H' : Hp), itv = .ref it ∧ Inv X pins σ H' s2 ∧ Turn X.prog X.w X.K tg J fp it tn ∧ tn 0 s2.heap ∧ (∀ b ∈ fp, FpOk X pins H' b) ∧ R J H'
def PI (X : Cx) (tg iter : Expr) (wi : TI) : Prop :=
  ∀ (pins : List (Addr × Obj)) (s : Shared) (σ : St) (H : Hp) (R : It → Hp → Prop), Inv X pins σ H s → wi σ H R →
    wpAny (model X.prog X.w) X.A (eval iter X.env) (fun v s1 => wpAny (model X.prog X.w) X.A (pyIter v) (PIE X pins σ tg R) X.xe s1) X.xe s


theorem go_of {M : Model} {A : Around} {E : Value → Shared → Prop} {s : Shared} {tg : Expr} {it : Addr} {u : Value} {o : Obj} {n : String} {vs : Array Value} {Q : Unit → Shared → Prop} (ho : s.heap.get? it = some o) (hc : o.cls = .type n) (hd : o.data = .fields vs)
    (hn : ["enumerate", "zip", "dict_itemiterator", "dict_reverseitemiterator", "odict_iterator", "itertools.zip_longest", "itertools.pairwise"].contains n = false) (hQ : Q () s) : wpAny M A (letOwnedTupleGo tg (.ref it) u) Q E s := by
  unfold letOwnedTupleGo
  cases tg <;> first
    | exact wpAny_pure hQ
    | (cases u <;> first
        | exact wpAny_pure hQ
        | (refine wpAny_bind (wpAny_load ho ?_)
           rw [hc, hd]
           show wpAny M A (if (["enumerate", "zip", "dict_itemiterator", "dict_reverseitemiterator", "odict_iterator", "itertools.zip_longest", "itertools.pairwise"].contains n && vs[0]? == some (rawInt _)) = true then _ else _) Q E s
           rw [if_neg (by intro h; rw [hn, Bool.false_and] at h; cases h)]
           exact wpAny_pure hQ))


def Itl (K : PySem.W.Frag) (a : Addr) : It :=
  ⟨fun i H => ∃ xs x, SqL K H a xs ∧ xs[i]? = some x, fun i H x H' => H' = H ∧ ∀ xs, SqL K H a xs → xs[i]? = some x, fun i H => ∃ xs, SqL K H a xs ∧ xs.length ≤ i⟩
def Itt (K : PySem.W.Frag) (a : Addr) : It :=
  ⟨fun i H => ∃ xs x, SqT K H a xs ∧ xs[i]? = some x, fun i H x H' => H' = H ∧ ∀ xs, SqT K H a xs → xs[i]? = some x, fun i H => ∃ xs, SqT K H a xs ∧ xs.length ≤ i⟩

def Itr (lo : Int) (n : Nat) : It := ⟨fun i _ => i < n, fun i H x H' => H' = H ∧ x = .int (lo + i), fun i _ => n ≤ i⟩
theorem turn_list {P : Program} {w : World} {K : PySem.W.Frag} {tg : Expr} (a it : Addr) : Turn P w K tg (Itl K a) [it] it (fun i h => h.IsListIter it a i) where
  mem := by simp
  obj := fun i h st b hb => by
    have e : b = it := by simpa using hb
    subst e
    obtain ⟨o, e, c, d⟩ := st
    exact ⟨o, e, fun v z => by rw [d] at z; cases z⟩
  keep := fun i h h' st k => st.at fun o e => k it (by simp) o e
  item := by
    intro X hP hw hK hc i pins s σ H E I hf st hg
    subst hP hw hK
    obtain ⟨xs, x, hq, hx⟩ := hg
    obtain ⟨its, rv, p, hz⟩ := I.list hq
    obtain ⟨u, hu, ru⟩ := rv.get hx
    obtain ⟨f0, f1, f2, f3, f4, f5⟩ := hf it (by simp)
    refine wpAny_pyNext_list_item st p.isList (x := u) (by simpa using hu) fun h' st' sb => ?_
    have I1 : Inv X pins σ H { s with heap := h' } := I.turned (t' := s.toks) (fun b o hb e => (sb.2 b hb).trans e) f0 f1 f3 f4 f5
    obtain ⟨o, e, c, d⟩ := id st'
    exact ⟨u, rfl, go_of (s := { s with heap := h' }) e c d (by decide) ⟨x, H, I1, ru, ⟨rfl, fun ys hy => by rw [I.list_inj hy hq]; exact hx⟩, st', fun b hb => (hf b hb).1⟩⟩
  done := by
    intro X hP hw hK hc i pins s σ H E I hf st hg
    subst hP hw hK
    obtain ⟨xs, hq, hx⟩ := hg
    obtain ⟨its, rv, p, hz⟩ := I.list hq
    obtain ⟨f0, f1, f2, f3, f4, f5⟩ := hf it (by simp)
    have hl := rv.length
    exact wpAny_pyNext_list_end (I.ok.hd hc) st p.isList (by simp; omega) fun h' eb => ⟨rfl, I.turned (t' := s.toks) (fun b o hb e => eb b o hb e) f0 f1 f3 f4 f5⟩
  self := fun _ _ _ _ _ st h => wpAny_pyIter_listiter st h
theorem turn_tuple {P : Program} {w : World} {K : PySem.W.Frag} {tg : Expr} (a it : Addr) : Turn P w K tg (Itt K a) [it] it (fun i h => h.IsTupleIter it a i) where
  mem := by simp
  obj := fun i h st b hb => by
    have e : b = it := by simpa using hb
    subst e
    obtain ⟨o, e, c, d⟩ := st
    exact ⟨o, e, fun v z => by rw [d] at z; cases z⟩
  keep := fun i h h' st k => st.at fun o e => k it (by simp) o e
  item := by
    intro X hP hw hK hc i pins s σ H E I hf st hg
    subst hP hw hK
    obtain ⟨xs, x, hq, hx⟩ := hg
    obtain ⟨its, rv, p, hz⟩ := I.tuple hq
    obtain ⟨u, hu, ru⟩ := rv.get hx
    obtain ⟨f0, f1, f2, f3, f4, f5⟩ := hf it (by simp)
    refine wpAny_pyNext_tuple_item st (show s.heap.IsTuple a its.toArray from p) (x := u) (by simpa using hu) fun h' st' sb => ?_
    have I1 : Inv X pins σ H { s with heap := h' } := I.turned (t' := s.toks) (fun b o hb e => (sb.2 b hb).trans e) f0 f1 f3 f4 f5
    obtain ⟨o, e, c, d⟩ := id st'
    exact ⟨u, rfl, go_of (s := { s with heap := h' }) e c d (by decide) ⟨x, H, I1, ru, ⟨rfl, fun ys hy => by rw [I.tuple_inj hy hq]; exact hx⟩, st', fun b hb => (hf b hb).1⟩⟩
  done := by
    intro X hP hw hK hc i pins s σ H E I hf st hg
    subst hP hw hK
    obtain ⟨xs, hq, hx⟩ := hg
    obtain ⟨its, rv, p, hz⟩ := I.tuple hq
    obtain ⟨f0, f1, f2, f3, f4, f5⟩ := hf it (by simp)
    have hl := rv.length
    exact wpAny_pyNext_tuple_end (I.ok.hd hc) st (show s.heap.IsTuple a its.toArray from p) (by simp; omega) fun h' eb => ⟨rfl, I.turned (t' := s.toks) (fun b o hb e => eb b o hb e) f0 f1 f3 f4 f5⟩
  self := fun _ _ _ _ _ st h => wpAny_pyIter_tupleiter st h
theorem turn_range {P : Program} {w : World} {K : PySem.W.Frag} {tg : Expr} (it : Addr) (lo : Int) (n : Nat) : Turn P w K tg (Itr lo n) [it] it (fun i h => IsRangeIter h it (lo + (i : Nat) * 1) ((n : Int) - (i : Nat)) 1) where
  mem := by simp
  obj := fun i h st b hb => by
    have e : b = it := by simpa using hb
    subst e
    exact ⟨_, st, fun v z => by
      have z' : Data.fields _ = Data.cell v := z
      cases z'⟩
  keep := fun i h h' st k => k it (by simp) _ st
  item := by
    intro X hP hw hK hc i pins s σ H E I hf st hg
    subst hP hw hK
    obtain ⟨f0, f1, f2, f3, f4, f5⟩ := hf it (by simp)
    have W := Walks.range (prog := X.prog) (w := X.w) (I.ok.hd hc) it lo 1 n
    refine W.item i s _ _ hg st fun v h' tk hv st' kk => ?_
    obtain ⟨t, rfl⟩ := hv
    have I1 : Inv X pins σ H { s with heap := h', toks := tk } := I.turned (fun b o hb e => kk b o (by simpa using hb) e) f0 f1 f3 f4 f5
    refine ⟨_, rfl, go_of (s := { s with heap := h', toks := tk }) (n := "range_iterator") st' rfl rfl (by decide) ⟨.int (lo + i), H, I1, ⟨t, ?_⟩, ⟨rfl, rfl⟩, st', fun b hb => (hf b hb).1⟩⟩
    rw [Int.mul_one]
  done := by
    intro X hP hw hK hc i pins s σ H E I hf st hg
    subst hP hw hK
    obtain ⟨f0, f1, f2, f3, f4, f5⟩ := hf it (by simp)
    exact wpAny_pyNext_range_end (I.ok.hd hc) st (by have : n ≤ i := hg; omega) fun h' eb => ⟨rfl, I.turned (t' := s.toks) (fun b o hb e => eb b o hb e) f0 f1 f3 f4 f5⟩
  self := fun _ _ _ _ _ st h => wpAny_pyIter_rangeiter st h
end L2

namespace L2
open PySem PySem.Spec PyProof.Rows
section
variable {X : Cx} {tg : Expr}
theorem range_it {pins : List (Addr × Obj)} {σ : St} {H : Hp} {s : Shared} {R : It → Hp → Prop} {E : Value → Shared → Prop} {lo hi : Int} {t u v : Tok} {tk : Nat} (I : Inv X pins σ H s) (h1 : -(2 ^ 62) ≤ lo) (h2 : lo < 2 ^ 62) (h3 : -(2 ^ 62) ≤ hi) (h4 : hi < 2 ^ 62)
    (q : R (Itr lo (hi - lo).toNat) H) : wpAny (model X.prog X.w) X.A (pyIter (.ref s.heap.objs.size)) (PIE X pins σ tg R) E { s with heap := s.heap.push { cls := .type "range", data := .fields #[.int lo t, .int hi u, .int 1 v] }, toks := tk } := by
  refine wpAny_pyIter_range (IsRange.new ..) (small_one h1 h2 h3 h4) ?_
  have I1 : Inv X pins σ H { s with heap := s.heap.push { cls := .type "range", data := .fields #[.int lo t, .int hi u, .int 1 v] }, toks := tk } := I.kept fun b o e => Heap.get?_push_of_some _ e
  refine ⟨(s.heap.push { cls := .type "range", data := .fields #[.int lo t, .int hi u, .int 1 v] }).objs.size, [(s.heap.push { cls := .type "range", data := .fields #[.int lo t, .int hi u, .int 1 v] }).objs.size], _, _, H, rfl,
    I1.kept (t' := tk) fun b o e => Heap.get?_push_of_some _ e, turn_range _ lo (hi - lo).toNat, ?_, fun b hb => ?_, q⟩
  · have e1 : lo + ((0 : Nat) : Int) * 1 = lo := by simp
    have e2 : (((hi - lo).toNat : Nat) : Int) - ((0 : Nat) : Int) = Builtin.Range.rangeSize lo hi 1 := by rw [rangeSize_one]; split <;> omega
    show IsRangeIter _ _ (lo + ((0 : Nat) : Int) * 1) ((((hi - lo).toNat : Nat) : Int) - ((0 : Nat) : Int)) 1
    rw [e1, e2]
    exact Heap.get?_push_size _ rfl
  · have e : b = (s.heap.push { cls := .type "range", data := .fields #[.int lo t, .int hi u, .int 1 v] }).objs.size := by simpa using hb
    subst e
    exact I1.fpOk (Nat.le_refl _) (I1.hok.fresh (Nat.le_refl _))
def iRng1 (ta : TA) : TI := fun σ H R => ta σ H fun vs H1 => ∃ j : Int, vs = [.int j] ∧ -(2 ^ 62) ≤ j ∧ j < 2 ^ 62 ∧ R (Itr 0 j.toNat) H1
theorem pi_range1 {a : Expr} {ta : TA} {p pos : Pos} (hg : Gl X "range") (hm : X.mg "range" = none) (ha : PA X [a] ta) (hs : starEach [a] X.env = [(false, eval a X.env)] := by rfl) : PI X tg (.Call (.Name "range" p) [a] [] pos) (iRng1 ta) := by
  intro pins s σ H R I h
  refine Call_ (ld_blt I hg hm boot_range (PyProof.Rows.callWith_type1 (thn (ha pos pins s σ H _ I h) fun us s1 ⟨vs, H1, I1, r1, q1⟩ => ?_) hs rfl))
  obtain ⟨j, e, q1, q2, q⟩ := q1
  subst e
  cases r1 with
  | cons r rr =>
    cases rr
    obtain ⟨t, rfl⟩ := r
    exact call_range_1 (range_it I1 (by omega) (by omega) q1 q2 (by simpa using q))
def pinsAt (fp : List Addr) (h : Heap) : List (Addr × Obj) := fp.filterMap fun b => (h.get? b).map fun o => (b, o)
theorem mem_pinsAt {fp : List Addr} {h : Heap} {b : Addr} {o : Obj} (hb : b ∈ fp) (e : h.get? b = some o) : (b, o) ∈ pinsAt fp h := List.mem_filterMap.mpr ⟨b, hb, by rw [e]; rfl⟩
theorem of_pinsAt {fp : List Addr} {h : Heap} {p : Addr × Obj} (hp : p ∈ pinsAt fp h) : p.1 ∈ fp ∧ h.get? p.1 = some p.2 := by
  obtain ⟨b, hb, e⟩ := List.mem_filterMap.mp hp
  cases q : h.get? b with
  | none => rw [q] at e; cases e
  | some o =>
    rw [q] at e
    have e' : (b, o) = p := Option.some.inj e
    subst e'
    exact ⟨hb, q⟩
theorem Inv.pinned {pins : List (Addr × Obj)} {σ : St} {H : Hp} {s : Shared} {fp : List Addr} (I : Inv X pins σ H s) (hf : ∀ b ∈ fp, FpOk X pins H b) (ho : ∀ b ∈ fp, ∃ o, s.heap.get? b = some o ∧ ∀ v, o.data ≠ .cell v) : Inv X (pins ++ pinsAt fp s.heap) σ H s :=
  I.pins_of fun p hp => (List.mem_append.mp hp).elim (fun z => I.pin p (List.mem_append_right _ z)) fun z => by
    obtain ⟨hb, e⟩ := of_pinsAt z
    obtain ⟨f0, f1, f2, _⟩ := hf p.1 hb
    obtain ⟨o, e', d⟩ := ho p.1 hb
    rw [e] at e'; cases e'
    exact ⟨e, f0, f1, f2, d⟩
theorem Inv.unpinned {pins pl : List (Addr × Obj)} {σ : St} {H : Hp} {s : Shared} (I : Inv X (pins ++ pl) σ H s) : Inv X pins σ H s := I.pins_of fun p hp => I.pin p (List.mem_append_right _ (List.mem_append_left _ hp))
end



end L2

namespace L2
open PySem PySem.Spec PyProof.Rows

abbrev R2 := V → V → Hp → VK → Prop

def OpR (X : Cx) (f : Value → Value → Sem Value) (r : R2) : Prop :=
  ∀ (pins : List (Addr × Obj)) (s : Shared) (σ : St) (H : Hp) (x y : V) (v u : Value) (Q : VK), Inv X pins σ H s → RelV x v → RelV y u → r x y H Q →
    wpAny (model X.prog X.w) X.A (f v u) (EP X pins σ Q) X.xe s

def UnR (X : Cx) (f : Value → Sem Value) (r : V → Hp → VK → Prop) : Prop :=
  ∀ (pins : List (Addr × Obj)) (s : Shared) (σ : St) (H : Hp) (x : V) (v : Value) (Q : VK), Inv X pins σ H s → RelV x v → r x H Q →
    wpAny (model X.prog X.w) X.A (f v) (EP X pins σ Q) X.xe s

def CallR (X : Cx) (f : Value) (r : List V → Hp → VK → Prop) : Prop :=
  ∀ (pins : List (Addr × Obj)) (s : Shared) (σ : St) (H : Hp) (xs : List V) (us : List Value) (Q : VK), Inv X pins σ H s → Vals xs us → r xs H Q →
    wpAny (model X.prog X.w) X.A (call f us) (EP X pins σ Q) X.xe s

def TruR (X : Cx) (r : V → Hp → (Bool → Hp → Prop) → Prop) : Prop :=
  ∀ (pins : List (Addr × Obj)) (s : Shared) (σ : St) (H : Hp) (x : V) (v : Value) (Q : Bool → Hp → Prop), Inv X pins σ H s → RelV x v → r x H Q →
    wpAny (model X.prog X.w) X.A (truthy v) (TP X pins σ Q) X.xe s

def tOp (r : R2) (ta tb : TE) : TE := fun σ H Q => ta σ H fun x H1 => tb σ H1 fun y H2 => r x y H2 Q
def tUn (r : V → Hp → VK → Prop) (ta : TE) : TE := fun σ H Q => ta σ H fun x H1 => r x H1 Q

def rI (C : Int → Int → Prop) (g : Int → Int → V) : R2 := fun x y H Q => ∃ i j, x = .int i ∧ y = .int j ∧ C i j ∧ Q (g i j) H
def rI0 (g : Int → Int → V) : R2 := fun x y H Q => ∃ i j, x = .int i ∧ y = .int j ∧ Q (g i j) H
def rU (g : Int → V) : V → Hp → VK → Prop := fun x H Q => ∃ i, x = .int i ∧ Q (g i) H

section
variable {X : Cx} {a b c : Expr} {ta tb tc : TE} {pos : Pos}

theorem binT (ha : PE X a ta) (hb : PE X b tb) {pins : List (Addr × Obj)} {s : Shared} {σ : St} {H : Hp} {R : V → V → Hp → Prop} (I : Inv X pins σ H s)
    (h : ta σ H fun x H1 => tb σ H1 fun y H2 => R x y H2) {Q : Value → Shared → Prop} {f : Value → Value → Sem Value}
    (hf : ∀ v u s2 x y H2, Inv X pins σ H2 s2 → RelV x v → RelV y u → R x y H2 → wpAny (model X.prog X.w) X.A (f v u) Q X.xe s2) :
    wpAny (model X.prog X.w) X.A (eval a X.env) (fun v s₁ => wpAny (model X.prog X.w) X.A (eval b X.env) (fun u s₂ => wpAny (model X.prog X.w) X.A (f v u) Q X.xe s₂) X.xe s₁) X.xe s := by
  refine thn (ha pins s σ H _ I h) fun v s1 ⟨x, H1, I1, r1, q1⟩ => ?_
  refine thn (hb pins s1 σ H1 _ I1 q1) fun u s2 ⟨y, H2, I2, r2, q2⟩ => ?_
  exact hf v u s2 x y H2 I2 r1 r2 q2

theorem pe_op {op : Operator} {r : R2} (ho : OpR X (binaryOp op) r) (ha : PE X a ta) (hb : PE X b tb) : PE X (.BinOp a op b pos) (tOp r ta tb) := by
  intro pins s σ H Q I h
  exact wpAny_BinOp (binT ha hb I h fun v u s2 x y H2 I2 rx ry q => ho pins s2 σ H2 x y v u Q I2 rx ry q)
theorem pe_un {op : UnaryOp} {r : V → Hp → VK → Prop} (ho : UnR X (unaryOp op) r) (ha : PE X a ta) : PE X (.UnaryOp op a pos) (tUn r ta) := by
  intro pins s σ H Q I h
  exact UnaryOp_ (thn (ha pins s σ H _ I h) fun v s1 ⟨x, H1, I1, r1, q1⟩ => ho pins s1 σ H1 x v Q I1 r1 q1)

theorem opI {f : Value → Value → Sem Value} {C : Int → Int → Prop} {g : Int → Int → Int}
    (rule : ∀ (i j : Int) (t u : Tok) (s : Shared) (Q : Value → Shared → Prop) (E : Value → Shared → Prop), C i j → Q (.int (g i j) s.toks) { s with toks := s.toks + 1 } → wpAny (model X.prog X.w) X.A (f (.int i t) (.int j u)) Q E s) :
    OpR X f (rI C fun i j => .int (g i j)) := by
  intro pins s σ H x y v u Q I rx ry h
  obtain ⟨i, j, rfl, rfl, hc, q⟩ := h
  obtain ⟨t, rfl⟩ := rx
  obtain ⟨t', rfl⟩ := ry
  exact rule i j t t' s _ _ hc ⟨.int (g i j), H, I.tok _, ⟨_, rfl⟩, q⟩
theorem opI0 {f : Value → Value → Sem Value} {g : Int → Int → Int}
    (rule : ∀ (i j : Int) (t u : Tok) (s : Shared) (Q : Value → Shared → Prop) (E : Value → Shared → Prop), Q (.int (g i j) s.toks) { s with toks := s.toks + 1 } → wpAny (model X.prog X.w) X.A (f (.int i t) (.int j u)) Q E s) :
    OpR X f (rI0 fun i j => .int (g i j)) := by
  intro pins s σ H x y v u Q I rx ry h
  obtain ⟨i, j, rfl, rfl, q⟩ := h
  obtain ⟨t, rfl⟩ := rx
  obtain ⟨t', rfl⟩ := ry
  exact rule i j t t' s _ _ ⟨.int (g i j), H, I.tok _, ⟨_, rfl⟩, q⟩
theorem opB0 {f : Value → Value → Sem Value} {g : Int → Int → Bool}
    (rule : ∀ (i j : Int) (t u : Tok) (s : Shared) (Q : Value → Shared → Prop) (E : Value → Shared → Prop), Q (.bool (g i j)) s → wpAny (model X.prog X.w) X.A (f (.int i t) (.int j u)) Q E s) :
    OpR X f (rI0 fun i j => .bl (g i j)) := by
  intro pins s σ H x y v u Q I rx ry h
  obtain ⟨i, j, rfl, rfl, q⟩ := h
  obtain ⟨t, rfl⟩ := rx
  obtain ⟨t', rfl⟩ := ry
  exact rule i j t t' s _ _ ⟨.bl (g i j), H, I, rfl, q⟩

def CDiv (i j : Int) : Prop := 0 < j ∧ j < 1073741824
def CMul (i j : Int) : Prop := (-(2 ^ 64) < i ∧ i < 2 ^ 64) ∨ (-(2 ^ 64) < j ∧ j < 2 ^ 64)
theorem CMul.ok {i j : Int} (h : CMul i j) : IntMulOk i j := by
  rcases h with ⟨h1, h2⟩ | ⟨h1, h2⟩
  · exact .of_left (intBits_le_64 h1 h2)
  · exact .of_right (intBits_le_64 h1 h2)
theorem two_pow_nn (k : Nat) : (0 : Int) ≤ 2 ^ k := by
  rw [two_pow_cast]
  exact Int.natCast_nonneg _

theorem op_add : OpR X (binaryOp .Add) (rI0 fun i j => .int (i + j)) := opI0 fun _ _ _ _ _ _ _ q => add_int q
theorem op_sub : OpR X (binaryOp .Sub) (rI0 fun i j => .int (i - j)) := opI0 fun _ _ _ _ _ _ _ q => sub_int q
theorem op_mul : OpR X (binaryOp .Mult) (rI CMul fun i j => .int (i * j)) := opI fun _ _ _ _ _ _ _ hc q => mul_int q hc.ok

theorem op_fdiv : OpR X (binaryOp .FloorDiv) (rI CDiv fun i j => .int (i / j)) := opI fun i j _ _ _ _ _ hc q => by
  have h1 : (0 : Int) < j := hc.1
  have h2 : j < 1073741824 := hc.2
  exact floordiv_int (by omega) (by rw [Int.fdiv_eq_ediv_of_nonneg i (by omega)]; exact q) (.inl (PyProof.noPylong_small (by omega)))
theorem op_mod : OpR X (binaryOp .Mod) (rI (fun _ j => 0 < j) fun i j => .int (i % j)) := opI fun i j _ _ _ _ _ hc q => by
  have h1 : (0 : Int) < j := hc
  exact mod_int' (by omega) (by rw [Int.fmod_eq_emod_of_nonneg i (by omega)]; exact q)
theorem op_shr : OpR X (binaryOp .RShift) (rI (fun _ j => 0 ≤ j) fun i j => .int (i / 2 ^ j.toNat)) := opI fun i j _ _ _ _ _ hc q =>
  rshift_int hc (by rw [Int.fdiv_eq_ediv_of_nonneg i (two_pow_nn _)]; exact q)
theorem op_and : OpR X (binaryOp .BitAnd) (rI0 fun i j => .int (Builtin.bitAnd i j)) := opI0 fun _ _ _ _ _ _ _ q => and_int q
theorem op_or : OpR X (binaryOp .BitOr) (rI0 fun i j => .int (Builtin.bitOr i j)) := opI0 fun _ _ _ _ _ _ _ q => or_int q
theorem unI {f : Value → Sem Value} {g : Int → Int}
    (rule : ∀ (i : Int) (t : Tok) (s : Shared) (Q : Value → Shared → Prop) (E : Value → Shared → Prop), Q (.int (g i) s.toks) { s with toks := s.toks + 1 } → wpAny (model X.prog X.w) X.A (f (.int i t)) Q E s) :
    UnR X f (rU fun i => .int (g i)) := by
  intro pins s σ H x v Q I rx h
  obtain ⟨i, rfl, q⟩ := h
  obtain ⟨t, rfl⟩ := rx
  exact rule i t s _ _ ⟨.int (g i), H, I.tok _, ⟨_, rfl⟩, q⟩
theorem un_neg : UnR X (unaryOp .USub) (rU fun i => .int (-i)) := unI fun _ _ _ _ _ q => neg_int q
theorem un_inv : UnR X (unaryOp .Invert) (rU fun i => .int (Builtin.bitNot i)) := unI fun _ _ _ _ _ q => invert_int q


end



def scal : V → V → Bool
  | .non, .non => true | .non, .int _ => true | .int _, .non => true | .non, .bl _ => true | .bl _, .non => true | .non, .str _ => true | .str _, .non => true
  | .int _, .int _ => true | .bl _, .bl _ => true | .str _, .str _ => true | .byt _, .byt _ => true
  | .int _, .str _ => true | .str _, .int _ => true | .bl _, .str _ => true | .str _, .bl _ => true
  | _, _ => false
def rEq : R2 := fun x y H Q => scal x y = true ∧ Q (.bl (decide (x = y))) H
def rNe : R2 := fun x y H Q => scal x y = true ∧ Q (.bl (!decide (x = y))) H

theorem dec_int {i j : Int} : decide (V.int i = V.int j) = (i == j) := by
  rw [Bool.eq_iff_iff]
  simp
theorem dec_bl {i j : Bool} : decide (V.bl i = V.bl j) = (i == j) := by
  rw [Bool.eq_iff_iff]
  simp
theorem dec_str {i j : Str} : decide (V.str i = V.str j) = (i == j) := by
  rw [Bool.eq_iff_iff]
  simp
theorem dec_byt {i j : Array UInt8} : decide (V.byt i = V.byt j) = (i.toList == j.toList) := by
  rw [Bool.eq_iff_iff]
  cases i
  cases j
  simp

section
variable {X : Cx} {a b c : Expr} {ta tb tc : TE} {pos : Pos}
theorem fin_bl {pins : List (Addr × Obj)} {σ : St} {H : Hp} {s : Shared} {Q : VK} {k k' : Bool} (I : Inv X pins σ H s) (q : Q (.bl k) H) (e : k = k') : EP X pins σ Q (.bool k') s := by
  subst e
  exact ⟨.bl k, H, I, rfl, q⟩
theorem op_eq : OpR X (compareOp .Eq) rEq := by
  intro pins s σ H x y v u Q I rx ry h
  obtain ⟨hs, q⟩ := h
  cases x with
  | non =>
    cases rx
    cases y with
    | non => cases ry; exact PySem.EqNone.eq_none_none (fin_bl I q (by simp))
    | bl j => cases ry; exact PySem.EqNone.eq_none_bool (fin_bl I q (by simp))
    | int j => obtain ⟨t', rfl⟩ := ry; exact PySem.EqNone.eq_none_int (fin_bl I q (by simp))
    | str j => obtain ⟨t', rfl⟩ := ry; exact PySem.EqNone.eq_none_str (fin_bl I q (by simp))
    | _ => exact absurd (show false = true from hs) Bool.false_ne_true
  | bl i =>
    cases rx
    cases y with
    | non => cases ry; exact PySem.EqNone.eq_bool_none (fin_bl I q (by simp))
    | bl j => cases ry; exact eq_bool (fin_bl I q dec_bl)
    | str j => obtain ⟨t', rfl⟩ := ry; exact PySem.EqMixed.eq_bool_str (fin_bl I q (by simp))
    | _ => exact absurd (show false = true from hs) Bool.false_ne_true
  | int i =>
    obtain ⟨t, rfl⟩ := rx
    cases y with
    | non => cases ry; exact PySem.EqNone.eq_int_none (fin_bl I q (by simp))
    | int j => obtain ⟨t', rfl⟩ := ry; exact eq_int (fin_bl I q dec_int)
    | str j => obtain ⟨t', rfl⟩ := ry; exact PySem.EqMixed.eq_int_str (fin_bl I q (by simp))
    | _ => exact absurd (show false = true from hs) Bool.false_ne_true
  | str i =>
    obtain ⟨t, rfl⟩ := rx
    cases y with
    | non => cases ry; exact PySem.EqNone.eq_str_none (fin_bl I q (by simp))
    | bl j => cases ry; exact PySem.EqMixed.eq_str_bool (fin_bl I q (by simp))
    | int j => obtain ⟨t', rfl⟩ := ry; exact PySem.EqMixed.eq_str_int (fin_bl I q (by simp))
    | str j => obtain ⟨t', rfl⟩ := ry; exact eq_str (fin_bl I q dec_str)
    | _ => exact absurd (show false = true from hs) Bool.false_ne_true
  | byt i =>
    obtain ⟨t, rfl⟩ := rx
    cases y with
    | byt j => obtain ⟨t', rfl⟩ := ry; exact PySem.W.eq_bytes (fin_bl I q dec_byt)
    | _ => exact absurd (show false = true from hs) Bool.false_ne_true
  | _ => cases y <;> exact absurd (show false = true from hs) Bool.false_ne_true
theorem op_ne : OpR X (compareOp .NotEq) rNe := by
  intro pins s σ H x y v u Q I rx ry h
  obtain ⟨hs, q⟩ := h
  cases x with
  | non =>
    cases rx
    cases y with
    | non => cases ry; exact PySem.EqNone.ne_none_none (fin_bl I q (by simp))
    | bl j => cases ry; exact PySem.EqNone.ne_none_bool (fin_bl I q (by simp))
    | int j => obtain ⟨t', rfl⟩ := ry; exact PySem.EqNone.ne_none_int (fin_bl I q (by simp))
    | str j => obtain ⟨t', rfl⟩ := ry; exact PySem.EqNone.ne_none_str (fin_bl I q (by simp))
    | _ => exact absurd (show false = true from hs) Bool.false_ne_true
  | bl i =>
    cases rx
    cases y with
    | non => cases ry; exact PySem.EqNone.ne_bool_none (fin_bl I q (by simp))
    | bl j => cases ry; exact ne_bool (fin_bl I q (congrArg not dec_bl))
    | str j => obtain ⟨t', rfl⟩ := ry; exact PySem.EqMixed.ne_bool_str (fin_bl I q (by simp))
    | _ => exact absurd (show false = true from hs) Bool.false_ne_true
  | int i =>
    obtain ⟨t, rfl⟩ := rx
    cases y with
    | non => cases ry; exact PySem.EqNone.ne_int_none (fin_bl I q (by simp))
    | int j => obtain ⟨t', rfl⟩ := ry; exact ne_int (fin_bl I q (congrArg not dec_int))
    | str j => obtain ⟨t', rfl⟩ := ry; exact PySem.EqMixed.ne_int_str (fin_bl I q (by simp))
    | _ => exact absurd (show false = true from hs) Bool.false_ne_true
  | str i =>
    obtain ⟨t, rfl⟩ := rx
    cases y with
    | non => cases ry; exact PySem.EqNone.ne_str_none (fin_bl I q (by simp))
    | bl j => cases ry; exact PySem.EqMixed.ne_str_bool (fin_bl I q (by simp))
    | int j => obtain ⟨t', rfl⟩ := ry; exact PySem.EqMixed.ne_str_int (fin_bl I q (by simp))
    | str j => obtain ⟨t', rfl⟩ := ry; exact ne_str (fin_bl I q (congrArg not dec_str))
    | _ => exact absurd (show false = true from hs) Bool.false_ne_true
  | byt i =>
    obtain ⟨t, rfl⟩ := rx
    cases y with
    | byt j => obtain ⟨t', rfl⟩ := ry; exact PySem.W.ne_bytes (fin_bl I q (congrArg not dec_byt))
    | _ => exact absurd (show false = true from hs) Bool.false_ne_true
  | _ => cases y <;> exact absurd (show false = true from hs) Bool.false_ne_true

theorem op_lt : OpR X (compareOp .Lt) (rI0 fun i j => .bl (decide (i < j))) := opB0 fun _ _ _ _ _ _ _ q => lt_int q
theorem op_le : OpR X (compareOp .LtE) (rI0 fun i j => .bl (decide (i ≤ j))) := opB0 fun _ _ _ _ _ _ _ q => le_int q
theorem op_gt : OpR X (compareOp .Gt) (rI0 fun i j => .bl (decide (j < i))) := opB0 fun _ _ _ _ _ _ _ q => gt_int q
theorem op_isN : OpR X (compareOp .Is) (fun x y H Q => y = .non ∧ Q (.bl (decide (x = .non))) H) := by
  intro pins s σ H x y v u Q I rx ry h
  obtain ⟨rfl, q⟩ := h
  cases ry
  refine is_none_gen (fin_bl I q ?_)
  cases x <;> first
    | (cases rx; rfl)
    | (obtain ⟨t, rfl⟩ := rx; rfl)
theorem OpR.or {f : Value → Value → Sem Value} {r r' : R2} (h : OpR X f r) (h' : OpR X f r') : OpR X f (fun x y H Q => r x y H Q ∨ r' x y H Q) := by
  intro pins s σ H x y v u Q I rx ry q
  rcases q with q | q
  · exact h pins s σ H x y v u Q I rx ry q
  · exact h' pins s σ H x y v u Q I rx ry q

theorem nomark (b : Expr) {op : CmpOp} (h : op ≠ .In := by decide) (h2 : op ≠ .NotIn := by decide) : behindInMarks op b = false := by
  have e1 : (op == CmpOp.In) = false := by cases op <;> first | rfl | exact absurd rfl h
  have e2 : (op == CmpOp.NotIn) = false := by cases op <;> first | rfl | exact absurd rfl h2
  cases b <;> simp [behindInMarks, e1, e2]

theorem pe_cmpR {op : CmpOp} {r : R2} (ho : OpR X (compareOp op) r) (ha : PE X a ta) (hb : PE X b tb) (hm : behindInMarks op b = false) : PE X (.Compare a [op] [b] pos) (tOp r ta tb) := by
  intro pins s σ H Q I h
  exact wpAny_Compare1 (binT ha hb I h fun v u s2 x y H2 I2 rx ry q => ho pins s2 σ H2 x y v u Q I2 rx ry q) hm

def tTest (t : TE) : TT := fun σ H Q => t σ H fun x H' => ∃ k, x = .bl k ∧ Q k H'
theorem pt_cmpR {op : CmpOp} {r : R2} (ho : OpR X (compareOp op) r) (ha : PE X a ta) (hb : PE X b tb) (hm : behindInMarks op b = false) : PT X (.Compare a [op] [b] pos) (tTest (tOp r ta tb)) := by
  intro pins s σ H Q I h
  refine wpAny_isTrue_Compare1 (thn (ha pins s σ H _ I h) fun v s1 ⟨x, H1, I1, r1, q1⟩ => thn (hb pins s1 σ H1 _ I1 q1) fun u s2 ⟨y, H2, I2, r2, q2⟩ =>
    thn (ho pins s2 σ H2 x y v u _ I2 r1 r2 q2) fun c s3 ⟨z, H3, I3, r3, k, e, q3⟩ => ?_) hm
  subst e
  cases r3
  exact wpAny_truthy_bool ⟨H3, I3, q3⟩

def tChain (r r' : R2) (ta tb tc : TE) : TE := fun σ H Q => ta σ H fun x H1 => tb σ H1 fun y H2 => r x y H2 fun z H3 => ∃ k, z = .bl k ∧
  (if k = true then tc σ H3 fun w' H4 => r' y w' H4 Q else Q (.bl false) H3)
theorem pt_chain {op op' : CmpOp} {r r' : R2} (ho : OpR X (compareOp op) r) (ho' : OpR X (compareOp op') r') (ha : PE X a ta) (hb : PE X b tb) (hc : PE X c tc)
    (hm : lastMarks [op, op'] [b, c] = false := by with_unfolding_all rfl) : PT X (.Compare a [op, op'] [b, c] pos) (tTest (tChain r r' ta tb tc)) := by
  intro pins s σ H Q I h
  refine isTrue_chain (thn (ha pins s σ H _ I h) fun v s1 ⟨x, H1, I1, r1, q1⟩ => test_link (thn (hb pins s1 σ H1 _ I1 q1) fun u s2 ⟨y, H2, I2, r2, q2⟩ =>
    thn (ho pins s2 σ H2 x y v u _ I2 r1 r2 q2) fun d s3 ⟨z, H3, I3, r3, k, e, q3⟩ => ?_)) hm
  subst e
  cases r3
  refine wpAny_truthy_bool ?_
  cases k with
  | false =>
    obtain ⟨k', e', q'⟩ := q3
    cases e'
    exact ite_ff ⟨H3, I3, q'⟩
  | true =>
    refine ite_tt (test_last (thn (hc pins s3 σ H3 _ I3 q3) fun w' s4 ⟨z', H4, I4, r4, q4⟩ => thn (ho' pins s4 σ H4 y z' u w' _ I4 r2 r4 q4) fun d' s5 ⟨z2, H5, I5, r5, k2, e2, q5⟩ => ?_))
    subst e2
    cases r5
    exact wpAny_truthy_bool ⟨H5, I5, q5⟩



def TruV (K : PySem.W.Frag) (x : V) (H : Hp) (k : Bool) : Prop :=
  match x with
  | .non => k = false
  | .bl b => k = b
  | .int i => k = (i != 0)
  | .str y => y.length ≤ sizeLine ∧ k = ((y.length : Int) != 0)
  | .byt y => y.size ≤ sizeLine ∧ k = ((y.size : Int) != 0)
  | .ref p => (∃ xs, SqL K H p xs ∧ k = !xs.isEmpty) ∨ (∃ xs, SqT K H p xs ∧ k = !xs.isEmpty) ∨ ∃ kvs, H p = some (.dK kvs) ∧ k = !kvs.isEmpty
  | _ => False
theorem isEmpty_kv {κ : Type} {kvs : List (κ × V)} {vs : List (κ × Value)} (r : KV kvs vs) : (!vs.isEmpty) = !kvs.isEmpty := by
  cases r <;> rfl
theorem isEmpty_of {xs : List V} {its : List Value} (r : Vals xs its) : (!its.toArray.isEmpty) = !xs.isEmpty := by
  cases r <;> simp
theorem line63 : (sizeLine : Nat) < 2 ^ 63 := by rw [sizeLine_eq]; decide
theorem tru_ok : TruR X (fun x H Q => ∃ k, TruV X.K x H k ∧ Q k H) := by
  intro pins s σ H x v Q I rx h
  obtain ⟨k, e, q⟩ := h
  have hl := line63
  have hs : sizeLine = 16777216 := sizeLine_eq
  cases x with
  | non =>
    cases rx
    have e' : k = false := e
    subst e'
    exact truthy_none ⟨H, I, q⟩
  | bl b =>
    cases rx
    have e' : k = b := e
    subst e'
    exact wpAny_truthy_bool ⟨H, I, q⟩
  | int i =>
    obtain ⟨t, rfl⟩ := rx
    have e' : k = (i != 0) := e
    subst e'
    exact PySem.P.truthy_int ⟨H, I, q⟩
  | str y =>
    obtain ⟨t, rfl⟩ := rx
    obtain ⟨hy, e'⟩ : y.length ≤ sizeLine ∧ k = ((y.length : Int) != 0) := e
    subst e'
    exact PySem.P.truthy_str (by omega) ⟨H, I.tok _, q⟩
  | byt y =>
    obtain ⟨t, rfl⟩ := rx
    obtain ⟨hy, e'⟩ : y.size ≤ sizeLine ∧ k = ((y.size : Int) != 0) := e
    subst e'
    exact PySem.W.truthy_bytes (by omega) ⟨H, I.tok _, q⟩
  | ref p =>
    cases rx
    have e' : (∃ xs, SqL X.K H p xs ∧ k = !xs.isEmpty) ∨ (∃ xs, SqT X.K H p xs ∧ k = !xs.isEmpty) ∨ ∃ kvs, H p = some (.dK kvs) ∧ k = !kvs.isEmpty := e
    rcases e' with ⟨xs, hx, e'⟩ | ⟨xs, hx, e'⟩ | ⟨kvs, hx, e'⟩
    · subst e'
      obtain ⟨its, r, pl, hz⟩ := I.list hx
      have hlen := r.length
      exact wpAny_truthy_list pl.isList (by simp only [List.size_toArray]; omega) ⟨H, I.tok _, by rw [isEmpty_of r]; exact q⟩
    · subst e'
      obtain ⟨its, r, pl, hz⟩ := I.tuple hx
      have hlen := r.length
      exact truthy_tuple pl (by simp only [List.size_toArray]; omega) ⟨H, I.tok _, by rw [isEmpty_of r]; exact q⟩
    · subst e'
      obtain ⟨hz, hS, vs, r, m⟩ : kvs.length ≤ sizeLine ∧ (p == sysModules) = false ∧ ∃ vs, KV kvs vs ∧ s.heap.DictOf (mixKind X.prog X.w) p vs := I.hok p _ hx
      have hlen : kvs.length = vs.length := Paired.length r
      exact wpAny_truthy_dict hS m (by omega) ⟨H, I.tok _, by rw [isEmpty_kv r]; exact q⟩
  | _ => exact (show False from e).elim

theorem pt_truth (ha : PE X a ta) (he : ∀ whole, isTrue a X.env whole = (do let v ← whole; standAt a.pos; holding [v] (truthy v))) :
    PT X a (fun σ H Q => ta σ H fun x H' => ∃ k, TruV X.K x H' k ∧ Q k H') := by
  intro pins s σ H Q I h
  exact isTrue_plain (thn (ha pins s σ H _ I h) fun v s1 ⟨x, H1, I1, r1, q1⟩ => tru_ok pins s1 σ H1 x v Q I1 r1 q1) (he _)


theorem op_add_str : OpR X (binaryOp .Add) (fun x y H Q => ∃ i j, x = .str i ∧ y = .str j ∧ i.length + j.length ≤ sizeLine ∧ Q (.str (i ++ j)) H) := by
  intro pins s σ H x y v u Q I rx ry h
  obtain ⟨i, j, rfl, rfl, hz, q⟩ := h
  obtain ⟨t, rfl⟩ := rx
  obtain ⟨t', rfl⟩ := ry
  exact add_str (fun t' tk => ⟨.str (i ++ j), H, I.tok _, ⟨_, rfl⟩, q⟩) hz
theorem vals1 {x : V} {us : List Value} (r : Vals [x] us) : ∃ u, us = [u] ∧ RelV x u := by
  cases r with
  | cons r1 r2 => cases r2; exact ⟨_, rfl, r1⟩
theorem vals2 {x y : V} {us : List Value} (r : Vals [x, y] us) : ∃ u w', us = [u, w'] ∧ RelV x u ∧ RelV y w' := by
  cases r with
  | cons r1 r2 =>
    cases r2 with
    | cons r3 r4 => cases r4; exact ⟨_, _, rfl, r1, r3⟩
def LenV (K : PySem.W.Frag) (x : V) (H : Hp) (n : Nat) : Prop :=
  match x with
  | .str y => y.length ≤ sizeLine ∧ n = y.length
  | .byt y => y.size ≤ sizeLine ∧ n = y.size
  | .ref p => (∃ xs, SqL K H p xs ∧ n = xs.length) ∨ ∃ xs, SqT K H p xs ∧ n = xs.length
  | _ => False
theorem call_len : CallR X (.builtin "len") (fun xs H Q => ∃ x n, xs = [x] ∧ LenV X.K x H n ∧ Q (.int n) H) := by
  intro pins s σ H xs us Q I r h
  obtain ⟨x, n, rfl, e, q⟩ := h
  obtain ⟨u, rfl, rx⟩ := vals1 r
  have hl := line63
  have hs : sizeLine = 16777216 := sizeLine_eq
  cases x with
  | str y =>
    obtain ⟨t, rfl⟩ := rx
    obtain ⟨hy, e'⟩ : y.length ≤ sizeLine ∧ n = y.length := e
    subst e'
    exact len_str (by omega) ⟨.int _, H, I.tok _, ⟨_, rfl⟩, q⟩
  | byt y =>
    obtain ⟨t, rfl⟩ := rx
    obtain ⟨hy, e'⟩ : y.size ≤ sizeLine ∧ n = y.size := e
    subst e'
    exact PySem.W.len_bytes (by omega) ⟨.int _, H, I.tok _, ⟨_, rfl⟩, q⟩
  | ref p =>
    cases rx
    have e' : (∃ xs, SqL X.K H p xs ∧ n = xs.length) ∨ ∃ xs, SqT X.K H p xs ∧ n = xs.length := e
    rcases e' with ⟨xs, hx, e'⟩ | ⟨xs, hx, e'⟩
    · subst e'
      obtain ⟨its, r', pl, hz⟩ := I.list hx
      have hlen := r'.length
      exact Calls.call_len_list pl.isList (by simp only [List.size_toArray]; omega) ⟨.int xs.length, H, I.tok _, ⟨_, by simp only [List.size_toArray]; rw [hlen]⟩, q⟩
    · subst e'
      obtain ⟨its, r', pl, hz⟩ := I.tuple hx
      have hlen := r'.length
      exact len_tuple pl (by simp only [List.size_toArray]; omega) ⟨.int xs.length, H, I.tok _, ⟨_, by simp only [List.size_toArray]; rw [hlen]⟩, q⟩
  | _ => exact (show False from e).elim

end
end L2

namespace L2
open PySem PySem.Spec PyProof.Rows


structure ObjM (h : Heap) (x dx C : Addr) (mA : Str → Option Value) : Prop where
  obj : h.get? x = some (PySem.W.instObj C dx)
  ns : h.Ns1 dx mA
  ne : dx ≠ x

theorem lookIn_ns {h : Heap} {dx : Addr} {mA : Str → Option Value} (n : h.Ns1 dx mA) : ∃ od, h.get? dx = some od ∧ ∀ name, PySem.W.lookIn name od = some (mA name) := by
  obtain ⟨o, es, ep, ho, hd, hk, _, hm⟩ := n
  refine ⟨o, ho, fun name => ?_⟩
  have e := hm name
  unfold nsFind findBy at e
  rw [← Array.find?_toList] at e
  unfold PySem.W.lookIn
  rw [hd]
  dsimp only
  split
  · rename_i y q
    rw [q] at e
    exact congrArg some e
  · rename_i q
    rw [q] at e
    have a : es.toList.any (·.refKey) = false := by
      rw [List.any_eq_false]
      intro y hy
      obtain ⟨z, t, hkey⟩ := hk y (Array.mem_toList_iff.mp hy)
      simp [DictEntry.refKey, hkey]
    have a' : ¬ es.toList.any (·.refKey) = true := by rw [a]; exact Bool.false_ne_true
    rw [if_neg a']
    exact congrArg some e

theorem ObjM.look {h : Heap} {x dx C : Addr} {mA : Str → Option Value} (I : ObjM h x dx C mA) : ∃ od, PySem.W.InstAt h x (PySem.W.instObj C dx) C (some od) ∧ ∀ name, PySem.W.lookIn name od = some (mA name) :=
  let ⟨od, ho, hl⟩ := lookIn_ns I.ns
  ⟨od, ⟨I.obj, rfl, rfl, ho⟩, hl⟩

section
variable {prog : Program} {w : World} {A : Around} {E : Value → Shared → Prop} {s : Shared} {K : PySem.W.Frag} {x dx C f : Addr} {mA : Str → Option Value} {name : Str} {v : Value}

theorem get_map {expr : Bool} {Q : Value → Shared → Prop} (X : K.In s.heap) (I : ObjM s.heap x dx C mA) (hg : PySem.W.plainGet K C name = true) (hh : PySem.W.hasDictIn K C = true)
    (ha : PySem.W.findIn K (.ref C) name = some none) (hv : mA name = some v) (hv' : PySem.W.handedIn v = true) (h : Q v { s with toks := s.toks + 1 }) :
    wpAny (model prog w) A (getAttr (.ref x) name expr) Q E s := by
  obtain ⟨od, J, hl⟩ := I.look
  exact PySem.W.get_value X J (PySem.W.plainGet_of hg).1 (PySem.W.findObj_own hh ha rfl (by rw [hl, hv])) hv' h

theorem get_meth {pl : Sem Bool} {Q : Value × List Value → Shared → Prop} (X : K.In s.heap) (I : ObjM s.heap x dx C mA) (hg : PySem.W.plainGet K C name = true)
    (hf : PySem.W.findIn K (.ref C) name = some (some (.ref f))) (ht : PySem.W.isFn K (.ref f) = true) (hv : mA name = none) (h : Q (.ref f, [.ref x]) s) :
    wpAny (model prog w) A (getMethod (.ref x) name pl) Q E s := by
  obtain ⟨od, J, hl⟩ := I.look
  exact PySem.W.method_fn X J (PySem.W.plainGet_of hg).1 (PySem.W.plainGet_of hg).2 hf (beq_iff_eq.mp ht) (by show (PySem.W.lookIn name od).map (·.isSome) = some false; rw [hl, hv]; rfl) h

theorem set_map {ns : List Str} {Q : Unit → Shared → Prop} (X : K.In s.heap) (I : ObjM s.heap x dx C mA)
    (hs : PySem.W.findIn K (.ref C) "__setattr__" = some (some (.builtin "object.__setattr__"))) (hp : PySem.W.plainOver K C = true) (ht : PySem.W.takerIn K C name = some none) (hh : PySem.W.hasDictIn K C = true)
    (hw : PySem.Within mA ns) (hsz : ns.length ≤ sizeLine)
    (h : ∀ h', ObjM h' x dx C (fun y => if y = name then some v else mA y) → Heap.SameBut dx s.heap h' → Q () { s with heap := h', toks := s.toks + 2 }) :
    wpAny (model prog w) A (setAttr (.ref x) name v) Q E s := by
  obtain ⟨od, J, hl⟩ := I.look
  refine PySem.W.set_plain X J hs (PySem.W.osa_open (s := { s with toks := s.toks + 1 }) (r := none) X J hp ht fun b => ?_)
  obtain ⟨cd, hc, hd'⟩ := PySem.W.any_some hh
  have hx : s.heap.get? x = some ⟨.ref C, some dx, .plain, #[]⟩ := I.obj
  refine wpAny_bind (wpAny_pure (wpAny_bind (wpAny_bind (wpAny_loadPart hx (wpAny_bind (PySem.W.Looks.here (s := { s with toks := s.toks + 1 }) (PySem.W.looks_clsIn X hc) ?_))))))
  rw [hd']
  refine wpAny_pure (a := some dx) (wpAny_bind (wpAny_pure (wpAny_bind ?_)))
  refine wpAny_nsSet1 (s := { s with toks := s.toks + 1 }) I.ns fun h' hn2 hs2 => ?_
  obtain ⟨oD, esD, epD, hoD, hdD, hcD⟩ := hn2.count (PySem.Within.cons name v hw)
  refine wpAny_bind (wpAny_lookBehind hoD (by rw [hdD]; exact pastItsLine_dict (Nat.le_trans hcD (by rw [List.length_cons]; omega))) ?_)
  exact wpAny_pure (h _ ⟨(hs2.2 _ (Ne.symm I.ne)).trans I.obj, hn2, I.ne⟩ hs2)


theorem make_map {R : Result → Shared → Prop} {vs : List Value} {kw : List (Str × Value)} (X : K.In s.heap) (hm : PySem.W.makesIn K C = true)
    (hi : PySem.W.findIn K (.ref C) "__init__" = some (some (.ref f))) (hf : PySem.W.typeIn K (.ref f) = some (.type "function"))
    (h : codeAny (model prog w) (A.under (.builtin "type.__call__" ⟨.ref C :: vs, kw⟩)) (.call (.ref f) ⟨.ref (s.heap.objs.size + 1) :: vs, kw⟩) (PySem.W.InitBack (s.heap.objs.size + 1) R)
      { s with heap := (s.heap.push PySem.W.emptyDict).push (PySem.W.instObj C s.heap.objs.size) }) :
    codeAny (model prog w) A (.call (.ref C) ⟨vs, kw⟩) R s := by
  obtain ⟨hh, g, d, t, os⟩ := s
  exact PySem.W.make_core (PySem.W.makes_of X hm) (PySem.W.looks_findIn X hi) (fun self => PySem.W.bind_fn X self hf) (.inl rfl) h

end


def putF (f : Str) (v : V) : List (Str × V) → List (Str × V)
  | [] => [(f, v)]
  | (g, x) :: r => if g = f then (g, v) :: r else (g, x) :: putF f v r
theorem lookup_putF (f g : Str) (v : V) : ∀ fs : List (Str × V), (putF f v fs).lookup g = if g = f then some v else fs.lookup g
  | [] => by
    show List.lookup g [(f, v)] = _
    by_cases h : g = f
    · have hb : (g == f) = true := beq_iff_eq.mpr h
      simp only [List.lookup, hb, if_pos h]
    · have hb : (g == f) = false := beq_eq_false_iff_ne.mpr h
      simp only [List.lookup, hb, if_neg h]
  | (k, x) :: r => by
    have ih := lookup_putF f g v r
    rw [show putF f v ((k, x) :: r) = (if k = f then (k, v) :: r else (k, x) :: putF f v r) from rfl]
    by_cases hk : k = f
    · rw [if_pos hk]
      by_cases h : g = k
      · have hb : (g == k) = true := beq_iff_eq.mpr h
        simp only [List.lookup, hb, if_pos (h.trans hk)]
      · have hb : (g == k) = false := beq_eq_false_iff_ne.mpr h
        simp only [List.lookup, hb, if_neg (fun e : g = f => h (e.trans hk.symm))]
    · rw [if_neg hk]
      by_cases h : g = k
      · have hb : (g == k) = true := beq_iff_eq.mpr h
        simp only [List.lookup, hb, if_neg (fun e : g = f => hk (h.symm.trans e))]
      · have hb : (g == k) = false := beq_eq_false_iff_ne.mpr h
        simp only [List.lookup, hb]
        exact ih
theorem keys_putF (f : Str) (v : V) : ∀ fs : List (Str × V), f ∈ (putF f v fs).map (·.1) ∧ ∀ g, g ∈ fs.map (·.1) → g ∈ (putF f v fs).map (·.1)
  | [] => ⟨by simp [putF], fun g h => by simp at h⟩
  | (k, x) :: r => by
    obtain ⟨i1, i2⟩ := keys_putF f v r
    rw [show putF f v ((k, x) :: r) = (if k = f then (k, v) :: r else (k, x) :: putF f v r) from rfl]
    by_cases hk : k = f
    · rw [if_pos hk]
      subst hk
      exact ⟨by simp, fun g h => by simpa using h⟩
    · rw [if_neg hk]
      refine ⟨?_, fun g h => ?_⟩
      · rw [List.map_cons]
        exact List.mem_cons_of_mem _ i1
      · rw [List.map_cons] at h ⊢
        rcases List.mem_cons.mp h with e | e
        · exact List.mem_cons.mpr (.inl e)
        · exact List.mem_cons_of_mem _ (i2 g e)
theorem length_putF (f : Str) (v : V) : ∀ fs : List (Str × V), (putF f v fs).length ≤ fs.length + 1
  | [] => by simp [putF]
  | (k, x) :: r => by
    have ih := length_putF f v r
    rw [show putF f v ((k, x) :: r) = (if k = f then (k, v) :: r else (k, x) :: putF f v r) from rfl]
    by_cases hk : k = f
    · rw [if_pos hk, List.length_cons, List.length_cons]; omega
    · rw [if_neg hk, List.length_cons, List.length_cons]; omega

theorem RelO.some_of {v : V} {o : Option Value} (r : RelO (some v) o) : ∃ u, o = some u ∧ RelV v u := by
  cases o with
  | none => exact (show False from r).elim
  | some u => exact ⟨u, rfl, r⟩
theorem RelO.none_of {o : Option Value} (r : RelO none o) : o = none := by
  cases o with
  | none => rfl
  | some u => exact (show False from r).elim
theorem handed_of {v : V} {u : Value} (r : RelV v u) : PySem.W.handedIn u = true := by
  cases v with
  | non => cases (show u = Value.none from r); rfl
  | bl b => cases (show u = Value.bool b from r); rfl
  | int i => obtain ⟨t, e⟩ := (show ∃ t, u = Value.int i t from r); cases e; rfl
  | str x => obtain ⟨t, e⟩ := (show ∃ t, u = Value.str x t from r); cases e; rfl
  | byt b => obtain ⟨t, e⟩ := (show ∃ t, u = Value.bytes b t from r); cases e; rfl
  | flt b => obtain ⟨t, e⟩ := (show ∃ t, u = Value.float b t from r); cases e; rfl
  | ref a => cases (show u = Value.ref a from r); rfl
  | ty n => cases (show u = Value.type n from r); rfl

section
variable {P : Program} {w : World} {H H' : Hp} {h h' : Heap} {a C dx : Addr} {fs fs' : List (Str × V)}
theorem ins_get (hok : HOk P w H h) (e : H a = some (.ins C dx fs)) : ∃ mA, ObjM h a dx C mA ∧ (∀ f, RelO (fs.lookup f) (mA f)) ∧ PySem.Within mA (fs.map (·.1)) ∧ fs.length ≤ 1000 ∧ H dx = some (.own a) := by
  obtain ⟨d, z, ne, ob, mA, n, r, q⟩ := (show ObjOk P w H h a (.ins C dx fs) from hok a _ e)
  exact ⟨mA, ⟨ob, n, ne⟩, r, q, z, d⟩
end


structure Cls (K : PySem.W.Frag) (C : Addr) : Prop where
  pg : PySem.W.plainGet K C Str.empty = true
  hd : PySem.W.hasDictIn K C = true
  po : PySem.W.plainOver K C = true
  sa : PySem.W.findIn K (.ref C) "__setattr__" = some (some (.builtin "object.__setattr__"))
theorem Cls.get {K : PySem.W.Frag} {C : Addr} (c : Cls K C) (f : Str) : PySem.W.plainGet K C f = true := c.pg

def NoAttr (K : PySem.W.Frag) (C : Addr) (f : Str) : Prop := PySem.W.findIn K (.ref C) f = some none
theorem NoAttr.taker {K : PySem.W.Frag} {C : Addr} {f : Str} (n : NoAttr K C f) : PySem.W.takerIn K C f = some none := by
  unfold PySem.W.takerIn
  rw [show PySem.W.findIn K (.ref C) f = some none from n]
  rfl

structure Meth (K : PySem.W.Frag) (C : Addr) (m : Str) (f : Addr) : Prop where
  at_ : PySem.W.findIn K (.ref C) m = some (some (.ref f))
  fn : PySem.W.isFn K (.ref f) = true
  kp : PySem.W.keepIn K (.ref f) = true

section
variable {X : Cx} {pins : List (Addr × Obj)} {σ : St} {H : Hp} {s : Shared} {a C dx : Addr} {fs : List (Str × V)} {f : Str} {v : V} {A : Around} {E : Value → Shared → Prop}

theorem getattr_ok {b : Bool} {Q : Value → Shared → Prop} (I : Inv X pins σ H s) (e : H a = some (.ins C dx fs)) (c : Cls X.K C) (n : NoAttr X.K C f) (l : fs.lookup f = some v)
    (h : ∀ u s', Inv X pins σ H s' → RelV v u → Q u s') : wpAny (model X.prog X.w) A (getAttr (.ref a) f b) Q E s := by
  obtain ⟨mA, O, r, _, _, _⟩ := ins_get I.hok e
  obtain ⟨u, hu, ru⟩ := RelO.some_of (v := v) (o := mA f) (by rw [← l]; exact r f)
  exact get_map I.kIn O (c.get f) c.hd n hu (handed_of ru) (h u _ (I.tok _) ru)

theorem getmeth_ok {m : Str} {g : Addr} {pl : Sem Bool} {Q : Value × List Value → Shared → Prop} (I : Inv X pins σ H s) (e : H a = some (.ins C dx fs)) (c : Cls X.K C) (k : Meth X.K C m g) (l : fs.lookup m = none)
    (h : Q (.ref g, [.ref a]) s) : wpAny (model X.prog X.w) A (getMethod (.ref a) m pl) Q E s := by
  obtain ⟨mA, O, r, _, _, _⟩ := ins_get I.hok e
  have hn : mA m = none := RelO.none_of (by rw [← l]; exact r m)
  exact get_meth I.kIn O (c.get m) k.at_ k.fn hn h

theorem setattr_ok {y : V} {u : Value} {Q : Unit → Shared → Prop} (I : Inv X pins σ H s) (e : H a = some (.ins C dx fs)) (c : Cls X.K C) (n : NoAttr X.K C f) (hl : fs.length < 1000) (ry : RelV y u)
    (h : ∀ s', Inv X pins σ (upd H a (.ins C dx (putF f y fs))) s' → Q () s') : wpAny (model X.prog X.w) A (setAttr (.ref a) f u) Q E s := by
  obtain ⟨mA, O, r, wi, _, ho⟩ := ins_get I.hok e
  have hz : (fs.map (·.1)).length ≤ sizeLine := by rw [List.length_map, sizeLine_eq]; omega
  refine set_map I.kIn O c.sa c.po n.taker c.hd wi hz fun h' O' sb => h _ ?_
  have hd : ∃ o, h'.get? dx = some o := let ⟨o, _, _, e', _⟩ := O'.ns; ⟨o, e'⟩
  refine I.write (x := a) (e := dx) (by rw [e]; exact True.intro) (.inr ho) (fun b q hb z => (sb.2 b hb).trans z) hd ?_
  refine ⟨by rw [upd_ne O.ne]; exact ho, ?_, O.ne, O'.obj, _, O'.ns, fun g => ?_, fun g hg => ?_⟩
  · have := length_putF f y fs; omega
  · show RelO ((putF f y fs).lookup g) (if g = f then some u else mA g)
    rw [lookup_putF]
    by_cases q : g = f
    · rw [if_pos q, if_pos q]; exact ry
    · rw [if_neg q, if_neg q]; exact r g
  · by_cases q : g = f
    · rw [q]; exact (keys_putF f y fs).1
    · refine (keys_putF f y fs).2 g (wi g fun z => hg ?_)
      show (if g = f then some u else mA g) = none
      rw [if_neg q]; exact z


theorem Inv.made (I : Inv X pins σ H s) : Inv X pins σ (upd (upd H s.heap.objs.size (.own (s.heap.objs.size + 1))) (s.heap.objs.size + 1) (.ins C s.heap.objs.size []))
    { s with heap := (s.heap.push PySem.W.emptyDict).push (PySem.W.instObj C s.heap.objs.size) } := by
  have e1 : (s.heap.push PySem.W.emptyDict).get? s.heap.objs.size = some PySem.W.emptyDict := Heap.get?_push_size s.heap rfl
  have e2 : ((s.heap.push PySem.W.emptyDict).push (PySem.W.instObj C s.heap.objs.size)).get? (s.heap.objs.size + 1) = some (PySem.W.instObj C s.heap.objs.size) := by
    have := Heap.get?_push_size (s.heap.push PySem.W.emptyDict) (o := PySem.W.instObj C s.heap.objs.size) rfl
    rwa [Heap.size_push] at this
  have e3 : (s.heap.push PySem.W.emptyDict).Ns s.heap.objs.size (fun _ => none) := ⟨PySem.W.emptyDict, #[], _, e1, rfl, (fun e he => absurd he (by simp)), fun _ => rfl⟩
  have I1 := I.laid (a := s.heap.objs.size) (o := .own (s.heap.objs.size + 1)) (h' := s.heap.push PySem.W.emptyDict) (t' := s.toks) (fun b u q => Heap.get?_push_of_some _ q) (Nat.le_refl _) ⟨_, e1⟩
  refine I1.laid (a := s.heap.objs.size + 1) (o := .ins C s.heap.objs.size []) (t' := s.toks) (fun b u q => Heap.get?_push_of_some _ q) (Nat.le_of_eq (Heap.size_push _ _)) ?_
  have ne : s.heap.objs.size ≠ s.heap.objs.size + 1 := Nat.ne_of_lt (Nat.lt_succ_self _)
  refine ⟨by rw [upd_ne ne, upd_same], Nat.zero_le _, ne, e2, fun _ => none, (Heap.Ns1.of_empty e3).at fun o q => Heap.get?_push_of_some _ q, fun _ => True.intro, fun y hy => absurd rfl hy⟩


theorem attr_of {prog : Program} {w : World} {env : Env} {e : Expr} {f : Str} {pos : Pos} {s : Shared} {Q : Value → Shared → Prop} (hb : attributeBase e f env (eval e env) = eval e env)
    (h : wpAny (model prog w) A (eval e env) (fun o s₁ => wpAny (model prog w) A (getAttr o f true) Q E s₁) E s) : wpAny (model prog w) A (eval (.Attribute e f pos) env) Q E s :=
  Attribute_any_ h (by rw [arm_eval_Attribute, hb])
end



def tFld (K : PySem.W.Frag) (ta : TE) (f : Str) : TE := fun σ H Q => ta σ H fun x H1 => ∃ a C dx fs v, x = .ref a ∧ H1 a = some (.ins C dx fs) ∧ Cls K C ∧ NoAttr K C f ∧ fs.lookup f = some v ∧ Q v H1

def sFld (K : PySem.W.Frag) (ta tv : TE) (f : Str) : TS := fun D σ H => tv σ H fun y H1 => ta σ H1 fun x H2 => ∃ a C dx fs, x = .ref a ∧ H2 a = some (.ins C dx fs) ∧ Cls K C ∧ NoAttr K C f ∧ fs.length < 1000 ∧
  D.nx σ (upd H2 a (.ins C dx (putF f y fs)))

section
variable {X : Cx} {o e value : Expr} {f : Str} {pos pos' tpos : Pos} {ta tv : TE}
theorem pe_fld (he : PE X e ta) (hb : attributeBase e f X.env (eval e X.env) = eval e X.env) : PE X (.Attribute e f pos) (tFld X.K ta f) := by
  intro pins s σ H Q I h
  refine attr_of hb (thn (he pins s σ H _ I h) fun u s1 ⟨x, H1, I1, rx, a, C, dx, fs, v, ex, ea, c, n, l, q⟩ => ?_)
  subst ex
  obtain rfl : u = Value.ref a := rx
  exact getattr_ok I1 ea c n l fun u' s2 I2 ru => ⟨v, H1, I2, ru, q⟩
theorem ps_fld (ha : PE X o ta) (hv : PE X value tv) (hs : swapsWith value (some (.Attribute o f pos')) pos.line X.env = pure false) : PS X (.Assign [.Attribute o f pos'] value pos) (sFld X.K ta tv f) := by
  intro pins s σ H D I h
  refine plainObj_wpAny_Assign_Attribute (thn (hv pins s σ H _ I h) fun u s1 ⟨y, H1, I1, ry, q⟩ => thn (ha pins s1 σ H1 _ I1 q) fun ov s2 ⟨x, H2, I2, rx, a, C, dx, fs, ex, ea, c, n, l, q2⟩ => ?_) hs
  subst ex
  obtain rfl : ov = Value.ref a := rx
  exact setattr_ok I2 ea c n l ry fun s3 I3 => ⟨σ, _, I3, q2⟩
end


section
variable {X : Cx} {pins : List (Addr × Obj)} {σ : St} {H : Hp} {s : Shared} {A : Around} {E : Value → Shared → Prop} {Q : Value → Shared → Prop} {c : Value} {b : Bool}

inductive TyOf (K : PySem.W.Frag) (H : Hp) : V → Value → Prop where
  | non : TyOf K H .non (.type "NoneType")
  | bl (x : Bool) : TyOf K H (.bl x) (.type "bool")
  | int (i : Int) : TyOf K H (.int i) (.type "int")
  | str (x : Str) : TyOf K H (.str x) (.type "str")
  | flt (x : UInt64) : TyOf K H (.flt x) (.type "float")
  | lst {a : Addr} {xs : List V} (e : H a = some (.lst xs)) : TyOf K H (.ref a) (.type "list")
  | frz {a : Addr} {o : Obj} {xs : List V} (e : H a = some (.frz o (.lst xs))) : TyOf K H (.ref a) (.type "list")
  | tup {a : Addr} {xs : List V} (e : H a = some (.tup xs)) : TyOf K H (.ref a) (.type "tuple")
  | dK {a : Addr} {kvs : List (Key × V)} (e : H a = some (.dK kvs)) : TyOf K H (.ref a) (.type "dict")
  | dT {a : Addr} {kvs : List (List Key × V)} (e : H a = some (.dT kvs)) : TyOf K H (.ref a) (.type "dict")
  | ins {a C dx : Addr} {fs : List (Str × V)} (e : H a = some (.ins C dx fs)) (cl : Cls K C) (ha : PySem.W.findIn K (.ref C) "__class__" = some (some (.builtin "object.__class__")))
      (hn : PySem.W.specialIn K (.builtin "object.__class__") "__get__" = some (some (.builtin "getset_descriptor.__get__"))) (htk : PySem.W.takesIn K (.builtin "object.__class__") = some true)
      (hm : PySem.W.mroIn K C (.type "object") = some true) : TyOf K H (.ref a) (.ref C)

theorem isinst_ok {x : V} {u t : Value} (I : Inv X pins σ H s) (rx : RelV x u) (ty : TyOf X.K H x t) (e : PySem.W.kitOne X.K t c = some b) (h : ∀ tk, Q (.bool b) { s with toks := tk }) :
    wpAny (model X.prog X.w) A (call (.builtin "isinstance") [u, c]) Q E s := by
  cases ty with
  | non => cases (show u = Value.none from rx); exact PySem.W.kia_one PySem.W.kitx_none I.kIn True.intro e (fun z => nomatch z) h
  | bl y => cases (show u = Value.bool y from rx); exact PySem.W.kia_one PySem.W.kitx_bool I.kIn True.intro e (fun z => nomatch z) h
  | int i => obtain ⟨t, q⟩ := (show ∃ t, u = Value.int i t from rx); cases q; exact PySem.W.kia_one PySem.W.kitx_int I.kIn True.intro e (fun z => nomatch z) h
  | str y => obtain ⟨t, q⟩ := (show ∃ t, u = Value.str y t from rx); cases q; exact PySem.W.kia_one PySem.W.kitx_str I.kIn True.intro e (fun z => nomatch z) h
  | flt y => obtain ⟨t, q⟩ := (show ∃ t, u = Value.float y t from rx); cases q; exact PySem.W.kia_one PySem.W.kitx_float I.kIn True.intro e (fun z => nomatch z) h
  | @lst a xs ea =>
    cases (show u = Value.ref a from rx)
    obtain ⟨_, _, n, _, h1⟩ := (show ObjOk X.prog X.w H s.heap a (.lst xs) from I.hok a _ ea)
    exact PySem.W.kia_one PySem.W.kitx_list I.kIn ⟨_, h1, rfl⟩ e (fun z => nomatch z) h
  | @frz a ob xs ea =>
    cases (show u = Value.ref a from rx)
    obtain ⟨_, _, _, n, _, h1⟩ := (show ObjOk X.prog X.w H s.heap a (.frz ob (.lst xs)) from I.hok a _ ea)
    exact PySem.W.kia_one PySem.W.kitx_list I.kIn ⟨_, h1, rfl⟩ e (fun z => nomatch z) h
  | @tup a xs ea =>
    cases (show u = Value.ref a from rx)
    obtain ⟨_, _, _, p⟩ := (show ObjOk X.prog X.w H s.heap a (.tup xs) from I.hok a _ ea)
    obtain ⟨o, h1, h2, _⟩ := p
    exact PySem.W.kia_one PySem.W.kitx_tuple I.kIn ⟨o, h1, h2⟩ e (fun z => nomatch z) h
  | @dK a kvs ea =>
    cases (show u = Value.ref a from rx)
    obtain ⟨_, _, vs, _, p⟩ := (show ObjOk X.prog X.w H s.heap a (.dK kvs) from I.hok a _ ea)
    obtain ⟨o, es, ep, h1, h2, _⟩ := p
    exact PySem.W.kia_one PySem.W.kitx_dict I.kIn ⟨o, h1, h2.1⟩ e (fun z => nomatch z) h
  | @dT a kvs ea =>
    cases (show u = Value.ref a from rx)
    obtain ⟨_, _, xs, _, o, es, ep, h1, h2, _⟩ := (show ObjOk X.prog X.w H s.heap a (.dT kvs) from I.hok a _ ea)
    exact PySem.W.kia_one PySem.W.kitx_dict I.kIn ⟨o, h1, h2.1⟩ e (fun z => nomatch z) h
  | @ins a C dx fs ea cl ha hn htk hm =>
    cases (show u = Value.ref a from rx)
    obtain ⟨mA, O, _⟩ := ins_get I.hok ea
    obtain ⟨od, J, _⟩ := O.look
    exact PySem.W.kia_one (PySem.W.kitx_own (cl.get _) cl.hd ha hn htk hm) I.kIn J e (fun z => nomatch z) h
end
end L2

namespace L2
open PySem PySem.Spec PyProof.Rows


structure Room (k : Nat) (A : Around) : Prop where
  hd : A.handled = none
  dp : A.depth + 3 * k + 5 < recursionLimit
  un : A.units + 16 * k + 200 < cLine
theorem Room.mono {j k : Nat} {A : Around} (r : Room k A) (h : j ≤ k) : Room j A := ⟨r.hd, by have := r.dp; omega, by have := r.un; omega⟩
theorem Room.deeper {k : Nat} {A : Around} (r : Room (k + 1) A) (env : Env) : Room k (A.deeper env) :=
  ⟨r.hd, by have := r.dp; show A.depth + 1 + 3 * k + 5 < _; omega, by have := r.un; show A.units + 3 + 16 * k + 200 < _; omega⟩
theorem make_depth {A : Around} {C : Addr} {us : List Value} {kw : List (Str × Value)} : (A.under (.builtin "type.__call__" ⟨.ref C :: us, kw⟩)).depth = A.depth + 1 := by
  first | rfl | simp [Around.under, Code.weight, Code.isCreation, Code.isGuard, Code.isCaller, Code.frames, Code.isFrame, guardIds]
theorem make_units {A : Around} {C : Addr} {us : List Value} {kw : List (Str × Value)} : (A.under (.builtin "type.__call__" ⟨.ref C :: us, kw⟩)).units = A.units + 1 := by
  first | rfl | simp [Around.under, Code.cUnits, Code.frames, Code.isFrame]
theorem Room.make {k : Nat} {A : Around} (r : Room (k + 1) A) (C : Addr) (us : List Value) (kw : List (Str × Value)) : Room k (A.under (.builtin "type.__call__" ⟨.ref C :: us, kw⟩)) :=
  ⟨r.hd, by have := r.dp; rw [make_depth]; omega, by have := r.un; rw [make_units]; omega⟩
theorem Room.depth {k : Nat} {A : Around} (r : Room k A) : A.depth < recursionLimit := by have := r.dp; omega
theorem Room.units {k : Nat} {A : Around} (r : Room k A) : A.units + 64 < cLine := by have := r.un; omega
def tNil : TA := fun _ H Q => Q [] H
def tCons (ta : TE) (tr : TA) : TA := fun σ H Q => ta σ H fun x H1 => tr σ H1 fun xs H2 => Q (x :: xs) H2
section
variable {X : Cx} {e : Expr} {es : List Expr} {te : TE} {t : TA} {pos : Pos}
theorem pa_nil : PA X [] tNil := fun _ _ _ _ H Q I h => Calls.spliced_nil ⟨[], H, I, .nil, h⟩
theorem pa_cons (ha : PE X e te) (hr : PA X es t) (hs : starEach (e :: es) X.env = (false, eval e X.env) :: starEach es X.env := by rfl) : PA X (e :: es) (tCons te t) := by
  intro pos pins s σ H Q I h
  rw [hs]
  show wpAny _ _ (spliced ((false, eval e X.env) :: backTo pos (starEach es X.env))) _ _ s
  refine Calls.spliced_cons (thn (ha pins s σ H _ I h) fun u s1 ⟨x, H1, I1, r1, q1⟩ => ?_)
  exact thn (hr pos pins s1 σ H1 _ I1 q1) fun us s2 ⟨xs, H2, I2, r2, q2⟩ => ⟨x :: xs, H2, I2, .cons r1 r2, q2⟩


def tTup (t : TA) : TE := fun σ H Q => t σ H fun xs H1 => xs.length ≤ sizeLine ∧ ∀ p, H1 p = none → Q (.ref p) (upd H1 p (.tup xs))
def tLst (t : TA) : TE := fun σ H Q => t σ H fun xs H1 => xs.length ≤ sizeLine ∧ ∀ p, H1 p = none → Q (.ref p) (upd H1 p (.lst xs))
theorem pe_tup {x1} (h : PA X es t) : PE X (.Tuple es x1 pos) (tTup t) := by
  intro pins s σ H Q I hq
  refine wpAny_Tuple_spliced (thn (h pos pins s σ H _ I hq) fun us s1 ⟨xs, H1, I1, r, z, q⟩ => ⟨by rw [← r.length]; exact z, ?_⟩)
  have hf : H1 s1.heap.objs.size = none := I1.hok.fresh (Nat.le_refl _)
  refine ⟨.ref s1.heap.objs.size, upd H1 s1.heap.objs.size (.tup xs), I1.laid (t' := s1.toks) (fun b u e => Heap.get?_push_of_some _ e) (Nat.le_refl _) ?_, rfl, q _ hf⟩
  exact ⟨z, us, r, ⟨_, Heap.get?_push_size _ rfl, rfl, _, rfl⟩⟩
theorem pe_lst (h : PA X es t) : PE X (.List es pos) (tLst t) := by
  intro pins s σ H Q I hq
  refine wpAny_List_spliced (thn (h pos pins s σ H _ I hq) fun us s1 ⟨xs, H1, I1, r, z, q⟩ => ⟨by rw [← r.length]; exact z, ?_⟩)
  have hf : H1 s1.heap.objs.size = none := I1.hok.fresh (Nat.le_refl _)
  refine ⟨.ref s1.heap.objs.size, upd H1 s1.heap.objs.size (.lst xs), I1.laid (t' := s1.toks) (fun b u e => Heap.get?_push_of_some _ e) (Nat.le_refl _) ?_, rfl, q _ hf⟩
  exact ⟨z, us, 0, r, Heap.get?_push_size _ rfl⟩
end



abbrev Sp := List V → Hp → VK → XK → Prop

abbrev CXT := List Env → Hp → Shared → XK → Value → Shared → Prop


structure Env0 (P : Program) (w : World) (K : PySem.W.Frag) (mg : Str → Option Value) (base : Heap) (A : Around) (outer : List Env) (s : Shared) (H : Hp) : Prop where
  frames : A.frames = some outer
  mod : Mod K mg base
  bs : ∀ b o, base.get? b = some o → s.heap.get? b = some o ∧ H b = none
  bsz : base.objs.size ≤ s.heap.objs.size
  funs : s.heap.FunFrames base outer
  frf : ∀ b ∈ frs outer, H b = none
  hok : HOk P w H s.heap
  bare : AllBare s.gens

def CE (outer : List Env) (P : Program) (w : World) (H : Hp) (s : Shared) (Q : VK) (u : Value) (s' : Shared) : Prop :=
  ∃ v H', s'.os = s.os ∧ AllBare s'.gens ∧ Un (frs outer) [] H H' s.heap s'.heap ∧ HOk P w H' s'.heap ∧ RelV v u ∧ Q v H'
def CR (CX : CXT) (outer : List Env) (P : Program) (w : World) (H : Hp) (s : Shared) (Q : VK) (E : XK) (r : Result) (s' : Shared) : Prop :=
  match r with
  | .ok (.ret u) => CE outer P w H s Q u s'
  | .ok _ => False
  | .error e => CX outer H s E e s'
structure FnOk (P : Program) (w : World) (K : PySem.W.Frag) (mg : Str → Option Value) (base : Heap) (CX : CXT) (k : Nat) (f : Addr) (fd : FuncData) (ps : List Str) (sp : Sp) : Prop where
  len : ∀ vs H Q E, sp vs H Q E → vs.length = ps.length
  run : ∀ (A : Around) (outer : List Env) (s : Shared) (H : Hp) (args : Args) (us : List Value) (vs : List V) (Q : VK) (E : XK), Room k A → Env0 P w K mg base A outer s H → BindsTo s fd args (ps.zip us) → Vals vs us → sp vs H Q E →
    codeAny (model P w) A (.call (.ref f) args) (CR CX outer P w H s Q E) s
theorem FnOk.mono {P : Program} {w : World} {K : PySem.W.Frag} {mg : Str → Option Value} {base : Heap} {CX : CXT} {j k : Nat} {f : Addr} {fd : FuncData} {ps : List Str} {sp : Sp} (F : FnOk P w K mg base CX j f fd ps sp) (h : j ≤ k) :
    FnOk P w K mg base CX k f fd ps sp := ⟨F.len, fun A outer s H args us vs Q E hr => F.run A outer s H args us vs Q E (hr.mono h)⟩

theorem Env0.make {P : Program} {w : World} {K : PySem.W.Frag} {mg : Str → Option Value} {base : Heap} {A : Around} {outer : List Env} {s : Shared} {H : Hp} (e : Env0 P w K mg base A outer s H) (C : Addr) (us : List Value) (kw : List (Str × Value)) :
    Env0 P w K mg base (A.under (.builtin "type.__call__" ⟨.ref C :: us, kw⟩)) outer s H := ⟨by first | exact e.frames | (simpa [Around.under, Code.envs, Code.isFrame, pushEnvs] using e.frames), e.mod, e.bs, e.bsz, e.funs, e.frf, e.hok, e.bare⟩
section
variable {X : Cx} {pins : List (Addr × Obj)} {σ : St} {H : Hp} {s s' : Shared}

theorem Inv.env0 (I : Inv X pins σ H s) : Env0 X.prog X.w X.K X.mg X.base X.A X.stack s H :=
  ⟨I.ok.frames, I.ok.mod, I.bs, Nat.le_trans I.ok.bsz I.sz, I.stack, I.stkFree, I.hok, I.bare⟩

theorem Inv.after {Q : VK} {u : Value} (I : Inv X pins σ H s) (h : CE X.stack X.prog X.w H s Q u s') : EP X pins σ Q u s' := by
  obtain ⟨v, H', os, bare, un, hok, r, q⟩ := h
  obtain ⟨hh, g, d, t, os'⟩ := s'
  obtain rfl : os' = s.os := os
  exact ⟨v, H', I.call (h' := hh) (g' := g) (d' := d) (t' := t) (ch := []) un hok bare (fun b z => absurd z (by simp)), r, q⟩
end



def tCall (sp : Sp) (dvs : List V) (E : XK) (t : TA) : TE := fun σ H Q => t σ H fun vs H1 => sp (vs ++ dvs) H1 Q E

def tMake (C : Addr) (sp : Sp) (dvs : List V) (E : XK) (t : TA) : TE := fun σ H Q => t σ H fun vs H1 => ∀ x dx, H1 x = none → H1 dx = none → dx ≠ x →
  sp (.ref x :: (vs ++ dvs)) (upd (upd H1 dx (.own x)) x (.ins C dx [])) (fun v H2 => v = .non ∧ Q (.ref x) H2) E


def Binds (K : PySem.W.Frag) (fd : FuncData) (ps : List Str) (ds : List Value) : Prop :=
  ∀ (s : Shared) (us : List Value), K.In s.heap → (us ++ ds).length = ps.length → BindsTo s fd ⟨us, []⟩ (ps.zip (us ++ ds))

theorem Binds.all {K : PySem.W.Frag} {fd : FuncData} {ps : List Str} (h : ∀ us : List Value, us.length = ps.length → bindArgs fd ⟨us, []⟩ = pure (ps.zip us)) : Binds K fd ps [] := fun s us _ hl => by
  rw [List.append_nil] at hl ⊢
  exact .of_eq (h us hl)


def Passes (CX : CXT) (X : Cx) (E : XK) : Prop := ∀ (pins : List (Addr × Obj)) (σ : St) (H : Hp) (s : Shared) (e : Value) (s' : Shared), Inv X pins σ H s → CX X.stack H s E e s' → X.xe e s'

section
variable {X : Cx} {CX : CXT} {k : Nat} {f C : Addr} {fd : FuncData} {ps : List Str} {sp : Sp} {dvs : List V} {ds : List Value} {E : XK} {x m : Str} {p pos apos : Pos} {e o : Expr} {es : List Expr} {ta : TE} {t : TA}


theorem run_fn {pins : List (Addr × Obj)} {σ : St} {H : Hp} {s : Shared} {Q : VK} {us : List Value} {vs : List V} (F : FnOk X.prog X.w X.K X.mg X.base CX k f fd ps sp) (hr : Room k X.A) (hb : Binds X.K fd ps ds) (hd : Vals dvs ds) (hx : Passes CX X E)
    (I : Inv X pins σ H s) (r : Vals vs us) (h : sp (vs ++ dvs) H Q E) : wpAny (model X.prog X.w) X.A (call (.ref f) us) (EP X pins σ Q) X.xe s := by
  have r2 : Vals (vs ++ dvs) (us ++ ds) := r.append hd
  have hl : (us ++ ds).length = ps.length := by rw [← r2.length]; exact F.len _ _ _ _ h
  refine wpAny_call (codeAny_mono (F.run X.A X.stack s H ⟨us, []⟩ (us ++ ds) (vs ++ dvs) Q E hr I.env0 (hb s us I.kIn hl) r2 h) fun r s' hq => ?_)
  cases r with
  | error e => exact hx pins σ H s e s' I hq
  | ok fl =>
    cases fl with
    | ret u => exact I.after hq
    | next => exact False.elim hq
    | brk => exact False.elim hq
    | cont => exact False.elim hq

theorem pe_call (F : FnOk X.prog X.w X.K X.mg X.base CX k f fd ps sp) (hr : Room k X.A) (hg : Gl X x) (hm : X.mg x = some (.ref f)) (hk : PySem.W.keepIn X.K (.ref f) = true) (hb : Binds X.K fd ps ds) (hd : Vals dvs ds) (hx : Passes CX X E)
    (ha : PA X (e :: es) t) (hdb : (x == ("__debug__" : Str)) = false := by decide) (he : starEach (e :: es) X.env = (false, eval e X.env) :: starEach es X.env := by rfl) (hpl : (backTo pos (starEach es X.env)).any (·.1) = false := by rfl) :
    PE X (.Call (.Name x p) (e :: es) [] pos) (tCall sp dvs E t) := by
  intro pins s σ H Q I h
  refine wpAny_Call_Name_kw (ld_glob I hg hm ?_ hdb)
  refine PySem.W.callWith_K (h₀ := X.base) I.ok.mod.kin hk (thn (ha pos pins s σ H _ I h) fun us s1 ⟨vs, H1, I1, r, q⟩ => ⟨I1.kIn, ?_⟩) he hpl
  exact run_fn F hr hb hd hx I1 r q
structure Mk (K : PySem.W.Frag) (C f : Addr) : Prop where
  makes : PySem.W.makesIn K C = true
  init : PySem.W.findIn K (.ref C) "__init__" = some (some (.ref f))
  fn : PySem.W.isFn K (.ref f) = true
  kp : PySem.W.keepIn K (.ref C) = true

theorem run_make {pins : List (Addr × Obj)} {σ : St} {H : Hp} {s : Shared} {Q : VK} {us : List Value} {vs : List V} (M : Mk X.K C f) (F : FnOk X.prog X.w X.K X.mg X.base CX k f fd ps sp) (hr : Room (k + 1) X.A) (hb : Binds X.K fd ps ds) (hd : Vals dvs ds)
    (hx : Passes CX X E) (I : Inv X pins σ H s) (r : Vals vs us)
    (h : ∀ x dx, H x = none → H dx = none → dx ≠ x → sp (.ref x :: (vs ++ dvs)) (upd (upd H dx (.own x)) x (.ins C dx [])) (fun v H2 => v = .non ∧ Q (.ref x) H2) E) :
    wpAny (model X.prog X.w) X.A (call (.ref C) us) (EP X pins σ Q) X.xe s := by
  have hq := h (s.heap.objs.size + 1) s.heap.objs.size (I.hok.fresh (Nat.le_succ _)) (I.hok.fresh (Nat.le_refl _)) (Nat.ne_of_lt (Nat.lt_succ_self _))
  have I2 := Inv.made (C := C) I
  have r2 : Vals (V.ref (s.heap.objs.size + 1) :: (vs ++ dvs)) (Value.ref (s.heap.objs.size + 1) :: (us ++ ds)) := .cons rfl (r.append hd)
  have hl : (Value.ref (s.heap.objs.size + 1) :: us ++ ds).length = ps.length := by
    have e := r2.length
    rw [F.len _ _ _ _ hq] at e
    exact e.symm
  refine wpAny_call (make_map (f := f) I.kIn M.makes M.init (beq_iff_eq.mp M.fn) (codeAny_mono (F.run _ X.stack _ _ ⟨Value.ref (s.heap.objs.size + 1) :: us, []⟩ (Value.ref (s.heap.objs.size + 1) :: (us ++ ds)) _ _ E (hr.make C us [])
    (I2.env0.make C us []) (hb _ (Value.ref (s.heap.objs.size + 1) :: us) I2.kIn hl) r2 hq) fun r s' hq' => ?_))
  cases r with
  | error e => exact hx pins σ _ _ e s' I2 hq'
  | ok fl =>
    cases fl with
    | ret u =>
      obtain ⟨v, H', I3, rv, ev, q3⟩ := I2.after hq'
      subst ev
      exact ⟨rv, ⟨V.ref (s.heap.objs.size + 1), H', I3, rfl, q3⟩⟩
    | next => exact False.elim hq'
    | brk => exact False.elim hq'
    | cont => exact False.elim hq'
theorem pe_make (M : Mk X.K C f) (F : FnOk X.prog X.w X.K X.mg X.base CX k f fd ps sp) (hr : Room (k + 1) X.A) (hg : Gl X x) (hm : X.mg x = some (.ref C)) (hb : Binds X.K fd ps ds) (hd : Vals dvs ds) (hx : Passes CX X E)
    (ha : PA X (e :: es) t) (hdb : (x == ("__debug__" : Str)) = false := by decide) (he : starEach (e :: es) X.env = (false, eval e X.env) :: starEach es X.env := by rfl) (hpl : (backTo pos (starEach es X.env)).any (·.1) = false := by rfl) :
    PE X (.Call (.Name x p) (e :: es) [] pos) (tMake C sp dvs E t) := by
  intro pins s σ H Q I h
  refine wpAny_Call_Name_kw (ld_glob I hg hm ?_ hdb)
  refine PySem.W.callWith_K (h₀ := X.base) I.ok.mod.kin M.kp (thn (ha pos pins s σ H _ I h) fun us s1 ⟨vs, H1, I1, r, q⟩ => ⟨I1.kIn, ?_⟩) he hpl
  exact run_make M F hr hb hd hx I1 r q
end



section
variable {X : Cx} {CX : CXT} {k : Nat} {f C : Addr} {fd : FuncData} {ps ks : List Str} {sp : Sp} {E : XK} {x m : Str} {p pos apos kpos : Pos} {e o : Expr} {es : List Expr} {kws : List Keyword} {te ta : TE} {t tk : TA} {nm : Option Str}
variable {g : List Value → List Value → List Value} {gV : List V → List V → List V}
end



structure FnScope (N P : List Str) (sc : Scope) : Prop where
  kind : sc.kind = .function
  co : sc.isCoroutine = false
  gen : sc.isGenerator = false
  nd : N.Nodup
  pre : N.take P.length = P
  par : ∀ x ∈ P, sc.names.lookup x = some .local ∨ sc.names.lookup x = some .cell
  nofree : ∀ y ∈ sc.names, y.2 ≠ .free

theorem bindL_out {kindOf : Str → Option NameKind} {x : Str} : ∀ {binds : List (Str × Value)} {m : Str → Option Value}, (∀ v, (x, v) ∉ binds) → bindL kindOf binds m x = m x
  | [], _, _ => rfl
  | (n, v) :: r, m, h => by
    unfold bindL
    rw [bindL_out fun w hw => h w (List.mem_cons_of_mem _ hw)]
    split
    · have : x ≠ n := by rintro rfl; exact h v List.mem_cons_self
      simp [this]
    · rfl
theorem bindC_out {kindOf : Str → Option NameKind} {x : Str} : ∀ {binds : List (Str × Value)} {m : Str → Option Value}, (∀ v, (x, v) ∉ binds) → bindC kindOf binds m x = m x
  | [], _, _ => rfl
  | (n, v) :: r, m, h => by
    unfold bindC
    rw [bindC_out fun w hw => h w (List.mem_cons_of_mem _ hw)]
    split
    · rfl
    · have : x ≠ n := by rintro rfl; exact h v List.mem_cons_self
      simp [this]
theorem bindL_get {kindOf : Str → Option NameKind} {x : Str} {v : Value} : ∀ {P : List Str} {vs : List Value} {i : Nat} {m : Str → Option Value}, P.Nodup → P[i]? = some x → vs[i]? = some v → kindOf x = some .local →
    bindL kindOf (P.zip vs) m x = some v
  | [], _, _, _, _, h, _, _ => by simp at h
  | _ :: _, [], _, _, _, _, h, _ => by simp at h
  | p :: P, w :: vs, 0, m, nd, h1, h2, hk => by
    simp at h1 h2; subst h1; subst h2
    show bindL kindOf ((p, w) :: P.zip vs) m p = _
    unfold bindL
    rw [bindL_out fun v hv => (List.nodup_cons.mp nd).1 (List.of_mem_zip hv).1, if_pos hk]
    simp
  | p :: P, w :: vs, i + 1, m, nd, h1, h2, hk => by
    show bindL kindOf ((p, w) :: P.zip vs) m x = _
    unfold bindL
    exact bindL_get (i := i) (List.nodup_cons.mp nd).2 (by simpa using h1) (by simpa using h2) hk
theorem bindC_get {kindOf : Str → Option NameKind} {x : Str} {v : Value} : ∀ {P : List Str} {vs : List Value} {i : Nat} {m : Str → Option Value}, P.Nodup → P[i]? = some x → vs[i]? = some v → kindOf x ≠ some .local →
    bindC kindOf (P.zip vs) m x = some v
  | [], _, _, _, _, h, _, _ => by simp at h
  | _ :: _, [], _, _, _, _, h, _ => by simp at h
  | p :: P, w :: vs, 0, m, nd, h1, h2, hk => by
    simp at h1 h2; subst h1; subst h2
    show bindC kindOf ((p, w) :: P.zip vs) m p = _
    unfold bindC
    rw [bindC_out fun v hv => (List.nodup_cons.mp nd).1 (List.of_mem_zip hv).1, if_neg hk]
    simp
  | p :: P, w :: vs, i + 1, m, nd, h1, h2, hk => by
    show bindC kindOf ((p, w) :: P.zip vs) m x = _
    unfold bindC
    exact bindC_get (i := i) (List.nodup_cons.mp nd).2 (by simpa using h1) (by simpa using h2) hk


def start (N : List Str) (vs : List V) : St := vs.map some ++ List.replicate (N.length - vs.length) none


def cxOf (CX : CXT) (P : Program) (w : World) (K : PySem.W.Frag) (mg : Str → Option Value) (base : Heap) (N : List Str) (qual : Str) (scope : Scope) (f : Addr) (cd : Value) (A : Around) (outer : List Env) (s : Shared) (H : Hp) (E : XK) : Cx where
  prog := P
  w := w
  K := K
  mg := mg
  base := base
  A := A.deeper (envOfC qual scope s.heap.objs.size f cd)
  N := N
  s₀ := s
  H₀ := H
  env := envOfC qual scope s.heap.objs.size f cd
  outer := outer
  stack := envOfC qual scope s.heap.objs.size f cd :: outer
  ex := []
  calm := true
  fn := fun _ => true
  pn := []
  xe := fun e s' => wpAny (model P w) (A.deeper (envOfC qual scope s.heap.objs.size f cd)) (leaving (envOfC qual scope s.heap.objs.size f cd) e) (fun _ s'' => CX outer H s E e s'') (fun e' s'' => CX outer H s E e' s'') s'

theorem cell_has {sc : Scope} {n : Nat} {x : Str} (h : sc.names.lookup x = some .cell) : ∃ c, (cellsFrom n sc.names []).lookup x = some c := by
  have q := PySem.W.cellsFrom_some sc.names n [] (.inl h)
  exact Option.isSome_iff_exists.mp q

theorem inv_start {CX : CXT} {P : Program} {w : World} {K : PySem.W.Frag} {mg : Str → Option Value} {base : Heap} {N ps : List Str} {qual : Str} {scope : Scope} {f : Addr} {cd : Value} {A : Around} {outer : List Env} {s s1 : Shared} {H : Hp} {E : XK} {us : List Value} {vs : List V}
    (S : FnScope N ps scope) (hd : A.handled = none) (e0 : Env0 P w K mg base A outer s H) (hl : vs.length = ps.length) (r : Vals vs us)
    (x : InCallC s s.heap.objs.size (bindL (envOfC qual scope s.heap.objs.size f cd).kindOf (ps.zip us) fun _ => none) (cellsFrom (s.heap.objs.size + 1) scope.names []) (bindC (envOfC qual scope s.heap.objs.size f cd).kindOf (ps.zip us) fun _ => none) s1) :
    Inv (cxOf CX P w K mg base N qual scope f cd A outer s H E) [] (start N vs) H s1 := by
  have hpl : ps.length ≤ N.length := by have := congrArg List.length S.pre; rw [List.length_take] at this; omega
  obtain ⟨h1, tk, rfl, hk⟩ := x.done
  have noA : ∀ b : Addr, b ∉ (cxOf CX P w K mg base N qual scope f cd A outer s H E).ex := fun b z => absurd (show b ∈ ([] : List Addr) from z) (by simp)
  refine ⟨⟨e0.mod, S.kind, rfl, rfl, Nat.le_refl _, fun y z c h1 h2 => ?_, fun y hy => ?_, fun y c _ h => ?_, fun _ => hd, Around.frames_deeper e0.frames, .inr ⟨rfl, rfl⟩, fun b z => absurd z (noA b), e0.bs, e0.bsz, fun b _ _ => noA b, fun b z => absurd z (noA b), e0.funs, e0.frf⟩,
    rfl, e0.bare, Un.kept hk, ⟨_, x.toInCall.ns, fun i y v h1 h2 h3 => ?_⟩, fun y c h => ⟨_, x.cell y c h⟩, e0.hok.fresh (Nat.le_refl _), fun y c h => ?_, fun p hp => absurd (show p ∈ ([] : List (Addr × Obj)) from hp) (by simp), e0.hok.kept hk, ?_⟩
  · exact name_of_addr x.apart (PySem.mem_of_lookup h1) (PySem.mem_of_lookup h2)
  · have hy : scope.names.lookup y = some .cell ∨ scope.names.lookup y = some .free := hy
    rcases hy with hy | hy
    · exact cell_has hy
    · exact absurd rfl (S.nofree _ (PySem.mem_of_lookup hy))
  · exact Nat.le_of_lt (x.above y c (PySem.mem_of_lookup h))
  · have hi : i < vs.length := by
      unfold start at h2
      by_cases hi : i < vs.length
      · exact hi
      · rw [List.getElem?_append_right (by simpa using hi)] at h2
        rw [List.getElem?_replicate] at h2
        split at h2 <;> cases h2
    have ha : vs[i]? = some v := by
      unfold start at h2
      rw [List.getElem?_append_left (by simpa using hi), List.getElem?_map] at h2
      cases e : vs[i]? with
      | none => rw [e] at h2; cases h2
      | some a => rw [e] at h2; cases h2; rfl
    obtain ⟨u, hu, rv⟩ := r.get ha
    have hp : ps[i]? = some y := by
      rw [← S.pre, List.getElem?_take_of_lt (by omega)]; exact h1
    have ndP : ps.Nodup := by rw [← S.pre]; exact S.nd.sublist (List.take_sublist _ _)
    refine ⟨u, rv, ?_⟩
    rcases S.par y (List.mem_of_getElem? hp) with k | k
    · exact .inl ⟨k, bindL_get ndP hp hu k⟩
    · obtain ⟨c, e⟩ := cell_has (n := s.heap.objs.size + 1) k
      refine .inr ⟨.inl k, c, e, ?_⟩
      have q := x.cell y c e
      rw [bindC_get ndP hp hu (by show scope.names.lookup y ≠ _; rw [k]; decide)] at q
      exact q
  · exact e0.hok.fresh (Nat.le_of_lt (x.above y c (PySem.mem_of_lookup h)))
  · unfold start
    show _ = N.length
    rw [List.length_append, List.length_map, List.length_replicate]
    omega


theorem fn_of {CX : CXT} {P : Program} {w : World} {K : PySem.W.Frag} {mg : Str → Option Value} {base : Heap} {k : Nat} {f : Addr} {name qual : Str} {params : Arguments} {body : List Stmt} {scope : Scope} {dV kV doc pm cdv ct oc : Value} {an od : Option Addr}
    {osl : Array (Option Value)} {N ps : List Str} {sp : Sp} (lk : K.lookup f = some ⟨oc, od, .func (PySem.W.fnOf name qual params body scope dV kV doc pm an cdv ct), osl⟩) (hcd : PySem.W.codeIn K cdv qual = true) (S : FnScope N ps scope)
    (len : ∀ vs H Q E, sp vs H Q E → vs.length = ps.length)
    (hbody : ∀ (A : Around) (outer : List Env) (s : Shared) (H : Hp) (vs : List V) (Q : VK) (E : XK), Room k (A.deeper (envOfC qual scope s.heap.objs.size f cdv)) → sp vs H Q E →
      ∃ t, PSs (cxOf CX P w K mg base N qual scope f cdv A outer s H E) body t ∧ t { nx := fun _ H' => Q .non H', rt := Q } (start N vs) H) :
    FnOk P w K mg base CX (k + 1) f (PySem.W.fnOf name qual params body scope dV kV doc pm an cdv ct) ps sp := by
  refine ⟨len, fun A outer s H args us vs Q E hr e0 hb r hsp => ?_⟩
  have hl := len _ _ _ _ hsp
  have KX : K.In s.heap := e0.mod.kin.keeps fun b o e => (e0.bs b o e).1
  have lim : s.heap.NoLimit := e0.mod.nolimit.keeps fun b o e => (e0.bs b o e).1
  have hkind : ∀ y ∈ ps.zip us, scope.names.lookup y.1 = some .local ∨ (scope.names.lookup y.1 = some .cell ∧ ((cellsFrom (s.heap.objs.size + 1) scope.names []).lookup y.1).isSome = true) := fun ⟨n, v⟩ hy => by
    rcases S.par n (List.of_mem_zip hy).1 with q | q
    · exact .inl q
    · exact .inr ⟨q, PySem.W.cellsFrom_some _ _ _ (.inl q)⟩
  refine codeAny_call_function hr.depth (KX _ _ lk) rfl S.co S.gen rfl (PySem.W.codeRec_of KX hcd) (hb _ _ _ _ ?_)
  refine wpAny_newFunctionEnv_cells S.kind hkind fun env he s1 x => ?_
  subst he
  refine ⟨lim.keeps x.toInCall.keep, codeAny_func ?_⟩
  obtain ⟨t, ht, hq⟩ := hbody A outer s H vs Q E (hr.deeper _) hsp
  have I : Inv (cxOf CX P w K mg base N qual scope f cdv A outer s H E) [] (start N vs) H s1 := inv_start S hr.hd e0 hl r x
  refine wpAny_mono (ht [] s1 (start N vs) H _ I hq) (fun fl s' hs => ?_) fun e s' hs => hs
  have fin : ∀ {σ' : St} {H' : Hp} {v : V} {u : Value}, Inv (cxOf CX P w K mg base N qual scope f cdv A outer s H E) [] σ' H' s' → RelV v u → Q v H' → CE outer P w H s Q u s' :=
    fun {σ' H' v u} J rv q => ⟨v, H', J.os, J.bare, J.base, J.hok, rv, q⟩
  cases fl with
  | ret u =>
    obtain ⟨v, σ', H', J, rv, q⟩ := hs
    exact fin J rv q
  | next =>
    obtain ⟨σ', H', J, q⟩ := hs
    exact fin (v := V.non) (u := Value.none) J rfl q
  | brk =>
    obtain ⟨_, _, _, q⟩ := hs
    exact False.elim q
  | cont =>
    obtain ⟨_, _, _, q⟩ := hs
    exact False.elim q
end L2

namespace L2
open PySem PySem.Spec PyProof.Rows
section
variable {X : Cx} {x : Str} {p pos : Pos} {e : Expr} {es : List Expr} {t : TA} {id T : String} {r : List V → Hp → VK → Prop}

def tCB (r : List V → Hp → VK → Prop) (t : TA) : TE := fun σ H Q => t σ H fun vs H1 => r vs H1 Q

theorem pe_callB (hc : CallR X (.builtin id) r) (hg : Gl X x) (hm : X.mg x = none) (hv : bootBuiltins x = some (.builtin id)) (ha : PA X (e :: es) t) (hn : x ≠ "__name__" := by decide) (hdb : (x == ("__debug__" : Str)) = false := by decide)
    (he : starEach (e :: es) X.env = (false, eval e X.env) :: starEach es X.env := by rfl) (hpl : (backTo pos (starEach es X.env)).any (·.1) = false := by rfl) : PE X (.Call (.Name x p) (e :: es) [] pos) (tCB r t) := by
  intro pins s σ H Q I h
  refine wpAny_Call_Name_kw (ld_blt I hg hm hv ?_ hn hdb)
  exact PyProof.Rows.callWith_builtin1 (thn (ha pos pins s σ H _ I h) fun us s1 ⟨vs, H1, I1, r1, q1⟩ => hc pins s1 σ H1 vs us Q I1 r1 q1) he hpl

end
end L2

namespace HT
open PySem PyProof.Rows


section
open PySem.SeqAt
open PySem.AutoSeq1 (wpAny_loadPart')
open PySem.MeetsSeq PySem.MeetsSeq2 PySem.MeetsSeq3

end

section
variable {prog : Program} {w : World} {A : Around} {E : Value → Shared → Prop} {s : Shared}

theorem cat_tup {t b : Addr} {vs ws : List Value} {Q : Value → Shared → Prop} (ht : IsTup s.heap t vs.toArray) (hb : IsTup s.heap b ws.toArray) (hv : vs ≠ [])
    (h1 : ws = [] → Q (.ref t) s) (h2 : ws ≠ [] → Q (.ref s.heap.objs.size) { s with heap := s.heap.push { cls := .type "tuple", data := .seq (vs ++ ws).toArray } })
    (hsz : vs.length + ws.length ≤ sizeLine) : wpAny (model prog w) A (binaryOp .Add (.ref t) (.ref b)) Q E s := by
  obtain ⟨⟨cls, dd, data, sl⟩, ho, hc, n, hd⟩ := id ht
  obtain ⟨⟨cls2, dd2, data2, sl2⟩, ho2, hc2, n2, hd2⟩ := id hb
  simp only at hc hd hc2 hd2
  subst hc hd hc2 hd2
  have e : vs.toArray ++ ws.toArray = (vs ++ ws).toArray := by simp
  by_cases hw : ws = []
  · exact concat_meets ⟨_, ho, rfl⟩ ⟨_, ho2, rfl⟩ noFill_tuple_add seq_tuple_add PySem.F.slot_tuple_add PySem.F.entry_tuple_add (PySem.F.args_tuple_add_2 _ _)
      (tuple_addW1 t b vs.toArray ws.toArray n n2 dd dd2 sl sl2 (by simpa using hv) (by simp [hw])) ⟨ho, ho2, h1 hw⟩
  · refine concat_meets ⟨_, ho, rfl⟩ ⟨_, ho2, rfl⟩ noFill_tuple_add seq_tuple_add PySem.F.slot_tuple_add PySem.F.entry_tuple_add (PySem.F.args_tuple_add_2 _ _)
      (tuple_addW2 t b vs.toArray ws.toArray n n2 dd dd2 sl sl2 (by simpa using hv) (by simpa using hw) (by rw [List.size_toArray, List.size_toArray]; exact hsz)) ⟨ho, ho2, ?_⟩
    rw [e]
    exact h2 hw



end
end HT

namespace L2
open PySem PySem.Spec PyProof.Rows


section
variable {X : Cx} {e : Expr} {te : TE} {lo hi : Option Expr} {tl th : TO} {pos p2 : Pos}

def rCatT (K : PySem.W.Frag) : R2 := fun x y H Q => ∃ a b xs ys, x = .ref a ∧ y = .ref b ∧ SqT K H a xs ∧ SqT K H b ys ∧ xs ≠ [] ∧ xs.length + ys.length ≤ sizeLine ∧
  (ys = [] → Q (.ref a) H) ∧ (ys ≠ [] → ∀ p, H p = none → Q (.ref p) (upd H p (.tup (xs ++ ys))))
theorem Vals.nil_iff {xs : List V} {us : List Value} (r : Vals xs us) : us = [] ↔ xs = [] := by
  cases r with
  | nil => simp
  | cons _ _ => simp
theorem op_catT : OpR X (binaryOp .Add) (rCatT X.K) := by
  intro pins s σ H x y v u Q I rx ry h
  obtain ⟨a, b, xs, ys, rfl, rfl, ha, hb, hx, hz, q1, q2⟩ := h
  cases rx
  cases ry
  obtain ⟨its, r1, p1, _⟩ := I.tuple ha
  obtain ⟨its2, r2, p2, _⟩ := I.tuple hb
  refine HT.cat_tup p1 p2 (fun z => hx (r1.nil_iff.mp z)) (fun z => ⟨.ref a, H, I, rfl, q1 (r2.nil_iff.mp z)⟩) (fun z => ?_) (by rw [← r1.length, ← r2.length]; exact hz)
  refine ⟨.ref s.heap.objs.size, _, I.laid (t' := s.toks) (o := .tup (xs ++ ys)) (fun b ob q => Heap.get?_push_of_some _ q) (Nat.le_refl _) ?_, rfl, q2 (fun w => z (r2.nil_iff.mpr w)) _ (I.hok.fresh (Nat.le_refl _))⟩
  exact ⟨by rw [List.length_append]; exact hz, _, r1.append r2, IsTup.new _ _⟩

end
end L2

namespace L2
open PySem PySem.Spec PyProof.Rows



def ixN (n : Nat) (i : Int) : Option Nat := if 0 ≤ i then (if i < n then some i.toNat else none) else if -(n : Int) ≤ i then some (i + n).toNat else none
def atI {α : Type} (xs : List α) (i : Int) : Option α := (ixN xs.length i).bind fun j => xs[j]?
theorem ixN_seq {n : Nat} {i : Int} {j : Nat} (h : ixN n i = some j) : seqIndex? i n = some j ∧ j < n ∧ -(n : Int) ≤ i ∧ i < n := by
  unfold ixN at h
  by_cases h0 : 0 ≤ i
  · rw [if_pos h0] at h
    by_cases h1 : i < n
    · rw [if_pos h1] at h
      have e : i.toNat = j := Option.some.inj h
      exact ⟨by rw [seqIndex_of h0 h1, e], by omega, by omega, h1⟩
    · rw [if_neg h1] at h; cases h
  · rw [if_neg h0] at h
    by_cases h1 : -(n : Int) ≤ i
    · rw [if_pos h1] at h
      have e : (i + n).toNat = j := Option.some.inj h
      exact ⟨by rw [seqIndex_neg (by omega) h1, e], by omega, h1, by omega⟩
    · rw [if_neg h1] at h; cases h
theorem atI_get {α : Type} {xs : List α} {i : Int} {v : α} (h : atI xs i = some v) : ∃ j, seqIndex? i xs.length = some j ∧ xs[j]? = some v ∧ j < xs.length ∧ -(xs.length : Int) ≤ i ∧ i < xs.length := by
  unfold atI at h
  cases e : ixN xs.length i with
  | none => rw [e] at h; cases h
  | some j =>
    rw [e] at h
    obtain ⟨h1, h2, h3, h4⟩ := ixN_seq e
    exact ⟨j, h1, h, h2, h3, h4⟩
theorem atI_nat {α : Type} {xs : List α} {j : Nat} {v : α} (h : xs[j]? = some v) : atI xs (j : Int) = some v := by
  have hj : j < xs.length := (List.getElem?_eq_some_iff.mp h).1
  have e : ixN xs.length (j : Int) = some j := by
    unfold ixN
    rw [if_pos (by omega), if_pos (by omega)]; simp
  unfold atI; rw [e]; exact h
def PlainIx (b : Expr) : Prop := ∀ o i, subscripted b false o i = operate [o, i] (getItem o i)

def IxR (X : Cx) (r : R2) : Prop :=
  ∀ (value slice : Expr) (pins : List (Addr × Obj)) (s : Shared) (σ : St) (H : Hp) (x y : V) (v u : Value) (Q : VK), Inv X pins σ H s → RelV x v → RelV y u → r x y H Q →
    subscripted slice false v u = operate [v, u] (getItem v u) → wpAny (model X.prog X.w) X.A (subscriptTail value slice v u) (EP X pins σ Q) X.xe s

def MtR (X : Cx) (id : String) (r : V → List V → Hp → VK → Prop) : Prop :=
  ∀ (pins : List (Addr × Obj)) (s : Shared) (σ : St) (H : Hp) (x : V) (xs : List V) (v : Value) (us : List Value) (Q : VK), Inv X pins σ H s → RelV x v → Vals xs us → r x xs H Q →
    wpAny (model X.prog X.w) X.A (call (.builtin id) (v :: us)) (EP X pins σ Q) X.xe s
section
variable {X : Cx} {a b : Expr} {ta tb : TE} {pos : Pos}
theorem IxR.or {r r' : R2} (h : IxR X r) (h' : IxR X r') : IxR X (fun x y H Q => r x y H Q ∨ r' x y H Q) := by
  intro value slice pins s σ H x y v u Q I rx ry q hs
  rcases q with q | q
  · exact h value slice pins s σ H x y v u Q I rx ry q hs
  · exact h' value slice pins s σ H x y v u Q I rx ry q hs
theorem pe_ix {r : R2} (hr : IxR X r) (ha : PE X a ta) (hb : PE X b tb) (hs : PlainIx b) : PE X (.Subscript a b pos) (tOp r ta tb) := by
  intro pins s σ H Q I h
  exact Subscript_ (binT ha hb I h fun v u s2 x y H2 I2 rx ry q => hr a b pins s2 σ H2 x y v u Q I2 rx ry q (hs _ _))

def rIxL (K : PySem.W.Frag) : R2 := fun x y H Q => ∃ p xs i v, x = .ref p ∧ y = .int i ∧ SqL K H p xs ∧ atI xs i = some v ∧ Q v H
def rIxT (K : PySem.W.Frag) : R2 := fun x y H Q => ∃ p xs i v, x = .ref p ∧ y = .int i ∧ SqT K H p xs ∧ atI xs i = some v ∧ Q v H
def rIxS : R2 := fun x y H Q => ∃ z i c, x = .str z ∧ y = .int i ∧ z.length ≤ sizeLine ∧ atI z.cps.toList i = some c ∧ Q (.str ⟨#[c]⟩) H
theorem ix_list : IxR X (rIxL X.K) := by
  intro value slice pins s σ H x y v u Q I rx ry h hs
  obtain ⟨p, xs, i, z, rfl, rfl, hq, he, q⟩ := h
  cases rx
  obtain ⟨t, rfl⟩ := ry
  obtain ⟨its, r, pl, hz⟩ := I.list hq
  obtain ⟨j, h1, h2, h3, h4, h5⟩ := atI_get he
  obtain ⟨w, ew, rw'⟩ := r.get h2
  have hl := r.length
  have hn := line63
  have fin : EP X pins σ Q w s := ⟨z, H, I, rw', q⟩
  by_cases h0 : 0 ≤ i
  · have hj : i.toNat = j := by
      rw [seqIndex_of h0 h5] at h1
      exact Option.some.inj h1
    exact item_listR pl.isList h0 (by omega) (by rw [hj]; simpa using ew) fin hs
  · have hj : (i + (its.toArray.size : Int)).toNat = j := by
      rw [seqIndex_neg (by omega) h4] at h1
      rw [List.size_toArray, ← hl]
      exact Option.some.inj h1
    exact subscriptTail_builtinR (x := w) pl.isList.typeIs slot_list_getitem.lookup
      (wpAny_getItem_list_neg (Q := fun r s' => r = w ∧ EP X pins σ Q r s') pl.isList (by omega) (by rw [List.size_toArray] <;> omega) (by omega) (by rw [hj]; simpa using ew) ⟨rfl, fin⟩) hs
theorem ix_tup : IxR X (rIxT X.K) := by
  intro value slice pins s σ H x y v u Q I rx ry h hs
  obtain ⟨p, xs, i, z, rfl, rfl, hq, he, q⟩ := h
  cases rx
  obtain ⟨t, rfl⟩ := ry
  obtain ⟨its, r, pl, hz⟩ := I.tuple hq
  obtain ⟨j, h1, h2, h3, h4, h5⟩ := atI_get he
  obtain ⟨w, ew, rw'⟩ := r.get h2
  have hl := r.length
  have hn := line63
  have fin : EP X pins σ Q w s := ⟨z, H, I, rw', q⟩
  exact subscriptTail_builtinR (x := w) pl.typeIs slot_tuple_getitem.lookup
    (getItem_tuple (j := j) (Q := fun r s' => r = w ∧ EP X pins σ Q r s') pl (by omega) (by omega) (by rw [List.size_toArray, ← hl]; exact h1) (by simpa using ew) ⟨rfl, fin⟩) hs
theorem ix_str : IxR X rIxS := by
  intro value slice pins s σ H x y v u Q I rx ry h hs
  obtain ⟨z, i, c, rfl, rfl, hz, he, q⟩ := h
  obtain ⟨t, rfl⟩ := rx
  obtain ⟨t', rfl⟩ := ry
  obtain ⟨j, h1, h2, h3, h4, h5⟩ := atI_get he
  have hl : z.cps.toList.length = z.length := by simp [Str.length]
  rw [hl] at h1 h4 h5
  have hn := line63
  exact tail_any (typeIs_str s z t) slot_str_getitem.lookup (getItem_str (c := c) (by
    have e1 : decide (i < -(2 ^ 63 : Int)) = false := decide_eq_false (by omega)
    have e2 : decide (i ≥ 2 ^ 63) = false := decide_eq_false (by omega)
    rw [e1, e2, Bool.or_false]) (by rw [h1]; simpa using h2) ⟨.str ⟨#[c]⟩, H, I.tok _, ⟨_, rfl⟩, q⟩) hs

def rIx (K : PySem.W.Frag) : R2 := fun x y H Q => rIxL K x y H Q ∨ rIxT K x y H Q ∨ rIxS x y H Q
theorem ix_seq : IxR X (rIx X.K) := ix_list.or (ix_tup.or ix_str)



def flatV : V → Bool
  | .non => true
  | .bl _ => true
  | .int _ => true
  | .str _ => true
  | _ => false

def eqV : V → V → Bool
  | .non, .non => true
  | .bl a, .bl b => a == b
  | .bl a, .int b => (if a then 1 else 0) == b
  | .int a, .bl b => a == (if b then 1 else 0)
  | .int a, .int b => a == b
  | .str a, .str b => a == b
  | _, _ => false
theorem eqAt_V {A : Around} {s : Shared} {y x : V} {u v : Value} (ry : RelV y u) (rx : RelV x v) (fy : flatV y = true) (fx : flatV x = true) : SeqAt.EqAt A s u v (eqV y x) := by
  cases y with
  | non =>
    cases ry
    cases x with
    | non => cases rx; exact SeqAt.EqAt.same _
    | bl b => cases rx; exact SeqAt.EqAt.none_bool b
    | int b => obtain ⟨t, rfl⟩ := rx; exact SeqAt.EqAt.none_int b t
    | str b => obtain ⟨t, rfl⟩ := rx; exact SeqAt.EqAt.none_str b t
    | _ => exact absurd (show false = true from fx) Bool.false_ne_true
  | bl a =>
    cases ry
    cases x with
    | non => cases rx; exact SeqAt.EqAt.bool_none a
    | bl b => cases rx; exact SeqAt.EqAt.bool_bool a b
    | int b => obtain ⟨t, rfl⟩ := rx; exact SeqAt.EqAt.bool_int a b t
    | str b => obtain ⟨t, rfl⟩ := rx; exact SeqAt.EqAt.bool_str a b t
    | _ => exact absurd (show false = true from fx) Bool.false_ne_true
  | int a =>
    obtain ⟨t', rfl⟩ := ry
    cases x with
    | non => cases rx; exact SeqAt.EqAt.int_none a t'
    | bl b => cases rx; exact SeqAt.EqAt.int_bool a t' b
    | int b => obtain ⟨t, rfl⟩ := rx; exact SeqAt.EqAt.int_int a t' b t
    | str b => obtain ⟨t, rfl⟩ := rx; exact SeqAt.EqAt.int_str a t' b t
    | _ => exact absurd (show false = true from fx) Bool.false_ne_true
  | str a =>
    obtain ⟨t', rfl⟩ := ry
    cases x with
    | non => cases rx; exact SeqAt.EqAt.str_none a t'
    | bl b => cases rx; exact SeqAt.EqAt.str_bool a t' b
    | int b => obtain ⟨t, rfl⟩ := rx; exact SeqAt.EqAt.str_int a t' b t
    | str b => obtain ⟨t, rfl⟩ := rx; exact SeqAt.EqAt.str_str a t' b t
    | _ => exact absurd (show false = true from fx) Bool.false_ne_true
  | _ => exact absurd (show false = true from fy) Bool.false_ne_true

def eqU (x : V) (u : Value) : Bool := match u with
  | .none => eqV .non x
  | .bool b => eqV (.bl b) x
  | .int i _ => eqV (.int i) x
  | .str z _ => eqV (.str z) x
  | _ => false
theorem eqU_of {x y : V} {u : Value} (r : RelV y u) (f : flatV y = true) : eqU x u = eqV y x := by
  cases y with
  | non => cases r; rfl
  | bl b => cases r; rfl
  | int i => obtain ⟨t, rfl⟩ := r; rfl
  | str z => obtain ⟨t, rfl⟩ := r; rfl
  | _ => exact absurd (show false = true from f) Bool.false_ne_true
theorem any_eqU {x : V} : ∀ {xs : List V} {us : List Value}, Vals xs us → xs.all flatV = true → us.any (eqU x) = xs.any fun y => eqV y x
  | _, _, .nil, _ => rfl
  | y :: xs, u :: us, .cons r t, f => by
    rw [List.all_cons, Bool.and_eq_true] at f
    rw [List.any_cons, List.any_cons, eqU_of r f.1, any_eqU t f.2]
theorem mem_eqAt {A : Around} {s : Shared} {x : V} {v : Value} (rx : RelV x v) (fx : flatV x = true) : ∀ {xs : List V} {us : List Value}, Vals xs us → xs.all flatV = true → ∀ u ∈ us, SeqAt.EqAt A s u v (eqU x u)
  | _, _, .nil, _ => fun u hu => by cases hu
  | y :: xs, u :: us, .cons r t, f => fun u' hu => by
    rw [List.all_cons, Bool.and_eq_true] at f
    rcases List.mem_cons.mp hu with rfl | hu
    · rw [eqU_of r f.1]; exact eqAt_V r rx f.1 fx
    · exact mem_eqAt rx fx t f.2 u' hu
def inV (x : V) (xs : List V) : Bool := xs.any fun y => eqV y x

def rIn (K : PySem.W.Frag) (neg : Bool) : R2 := fun x y H Q => ∃ p xs, y = .ref p ∧ (SqL K H p xs ∨ SqT K H p xs) ∧ flatV x = true ∧ xs.all flatV = true ∧ Q (.bl (if neg then !inV x xs else inV x xs)) H
theorem op_in_seq : OpR X (compareOp .In) (rIn X.K false) := by
  intro pins s σ H x y v u Q I rx ry h
  obtain ⟨p, xs, rfl, hq, fx, fs, q⟩ := h
  cases ry
  rcases hq with hq | hq
  · obtain ⟨its, r, pl, hz⟩ := I.list hq
    refine SeqAt.in_listAt (eqU x) pl.isList (fun w hw => mem_eqAt rx fx r fs w (by simpa using hw)) ⟨.bl _, H, I, rfl, ?_⟩
    rw [show its.toArray.any (eqU x) = its.any (eqU x) by simp, any_eqU r fs]
    exact q
  · obtain ⟨its, r, pl, hz⟩ := I.tuple hq
    refine SeqAt.in_tupleAt (eqU x) pl (fun w hw => mem_eqAt rx fx r fs w (by simpa using hw)) ⟨.bl _, H, I, rfl, ?_⟩
    rw [show its.toArray.any (eqU x) = its.any (eqU x) by simp, any_eqU r fs]
    exact q
def tyV (K : PySem.W.Frag) (T : String) (x : V) (H : Hp) : Prop := match x with
  | .str _ => T = "str"
  | .int _ => T = "int"
  | .ref p => (T = "list" ∧ ∃ xs, SqL K H p xs) ∨ (T = "tuple" ∧ ∃ o, K.lookup p = some o ∧ o.cls = .type "tuple" ∧ o.dict = none) ∨
      (T = "dict" ∧ ((∃ kvs, H p = some (.dK kvs)) ∨ ∃ kvs, H p = some (.dT kvs))) ∨ (T = "set" ∧ ∃ S n, H p = some (.set S n))
  | _ => False
theorem tyV_is {pins : List (Addr × Obj)} {σ : St} {H : Hp} {s : Shared} {T : String} {x : V} {v : Value} (I : Inv X pins σ H s) (r : RelV x v) (ty : tyV X.K T x H) :
    s.TypeIs v T ∧ ∀ a, v = .ref a → ∃ ob, s.heap.get? a = some ob ∧ ob.dict = none := by
  cases x with
  | str z =>
    obtain ⟨t, rfl⟩ := r
    cases (show T = "str" from ty)
    exact ⟨typeIs_str s z t, fun _ e => nomatch e⟩
  | int i =>
    obtain ⟨t, rfl⟩ := r
    cases (show T = "int" from ty)
    exact ⟨typeIs_int s i t, fun _ e => nomatch e⟩
  | ref p =>
    cases r
    rcases ty with ⟨rfl, xs, hq⟩ | ⟨rfl, o, hk, hc, hd⟩ | ⟨rfl, hk⟩ | ⟨rfl, S, n, hk⟩
    · obtain ⟨its, _, pl, _⟩ := I.list hq
      refine ⟨pl.isList.typeIs, fun a e => ?_⟩
      cases e
      obtain ⟨o, n, e, c, hd, _⟩ := pl
      exact ⟨o, e, hd⟩
    · refine ⟨⟨o, I.kIn p o hk, hc⟩, fun a e => ?_⟩
      cases e
      exact ⟨o, I.kIn _ o hk, hd⟩
    · have z : ∃ o, s.heap.get? p = some o ∧ o.ExactDict := by
        rcases hk with ⟨kvs, hk⟩ | ⟨kvs, hk⟩
        · obtain ⟨_, _, _, _, o, _, _, e, ex, _⟩ := I.hok p _ hk
          exact ⟨o, e, ex⟩
        · obtain ⟨_, _, _, _, o, _, _, e, ex, _⟩ := I.hok p _ hk
          exact ⟨o, e, ex⟩
      obtain ⟨o, e, ex⟩ := z
      refine ⟨⟨o, e, ex.1⟩, fun a e2 => ?_⟩
      cases e2
      exact ⟨o, e, ex.2.1⟩
    · obtain ⟨o, _, _, _, e, ex, _⟩ := I.hok p _ hk
      refine ⟨⟨o, e, ex.1⟩, fun a e2 => ?_⟩
      cases e2
      exact ⟨o, e, ex.2.1⟩
  | _ => exact False.elim ty
def tBM (K : PySem.W.Frag) (T : String) (r : V → List V → Hp → VK → Prop) (to : TE) (t : TA) : TE := fun σ H Q => to σ H fun x H1 => tyV K T x H1 ∧ t σ H1 fun xs H2 => r x xs H2 Q
variable {o e : Expr} {es : List Expr} {to : TE} {t : TA} {name : Str} {apos cpos : Pos} {T id : String} {r : V → List V → Hp → VK → Prop}
theorem pe_bm (pa : PlainAttrs T) (slot : Slot T name id) (hty : typeOf (.builtin id) = pure (.type "method_descriptor")) (hm : MtR X id r) (ho : PE X o to) (ha : PA X (e :: es) t)
    (hbase : attributeBase o name X.env (eval o X.env) = eval o X.env := by rfl)
    (hfew : ((backTo cpos (starEach (e :: es) X.env)).all (fun x => !x.1) && (backToKw cpos (keywordEach [] X.env)).all (fun x => x.1.isSome)
      && decide ((e :: es).length + ([] : List Keyword).length + (if ([] : List Keyword).isEmpty then 0 else 1) < 30)) = true := by rfl)
    (hline : (apos.endLine == cpos.line) = true := by rfl) (hs : starEach (e :: es) X.env = (false, eval e X.env) :: starEach es X.env := by rfl) (hplain : (backTo cpos (starEach es X.env)).any (·.1) = false := by rfl) :
    PE X (.Call (.Attribute o name apos) (e :: es) [] cpos) (tBM X.K T r to t) := by
  intro pins s σ H Q I h
  refine wpAny_Call_method_late hbase hfew hline rfl (thn (ho pins s σ H _ I h) fun v s1 ⟨x, H1, I1, r1, ty, q1⟩ => ?_)
  obtain ⟨h1, h2⟩ := tyV_is I1 r1 ty
  refine ⟨T, id, pa, slot, hty, h1, h2, ?_⟩
  have hA := ha cpos pins s1 σ H1 _ I1 q1
  rw [hs] at hA ⊢
  refine Calls.callWith_builtin (by show (false || (backTo cpos (starEach es X.env)).any (·.1)) = false; rw [hplain] <;> rfl) (Calls.evalArgs_plain ?_)
  exact thn hA fun us s2 ⟨vs, H2, I2, r2, q2⟩ => hm pins s2 σ H2 x vs v us Q I2 r1 r2 q2

end
end L2

namespace L2
open PySem PySem.Spec PyProof.Rows

def MtM (X : Cx) (id : String) (r : V → List V → Hp → VK → Prop) : Prop :=
  ∀ (pins : List (Addr × Obj)) (s : Shared) (σ : St) (H : Hp) (x : V) (xs : List V) (v : Value) (us : List Value) (Q : VK), Inv X pins σ H s → RelV x v → Vals xs us → r x xs H Q →
    wpAny (model X.prog X.w) X.A (call (.builtin id) (v :: us)) (EP X pins σ Q) X.xe s


theorem Vals.one : ∀ {x : V} {us : List Value}, Vals [x] us → ∃ u, us = [u] ∧ RelV x u
  | _, _, .cons r .nil => ⟨_, rfl, r⟩
theorem Vals.rep {xs : List V} {us : List Value} (h : Vals xs us) : ∀ k : Nat, Vals (List.replicate k xs).flatten (List.replicate k us).flatten
  | 0 => .nil
  | k + 1 => by
    rw [List.replicate_succ, List.replicate_succ, List.flatten_cons, List.flatten_cons]
    exact Vals.append h (Vals.rep h k)
theorem foldl_rep (its : List Value) : ∀ (k : Nat) (acc : List Value),
    List.foldl (fun x1 x2 => x1 ++ x2) acc.toArray (List.replicate k its.toArray) = (acc ++ (List.replicate k its).flatten).toArray
  | 0, acc => by simp
  | k + 1, acc => by
    have e : acc.toArray ++ its.toArray = (acc ++ its).toArray := by simp
    have e2 : (acc ++ its) ++ (List.replicate k its).flatten = acc ++ (List.replicate (k + 1) its).flatten := by
      rw [List.replicate_succ, List.flatten_cons, List.append_assoc]
    rw [← e2, ← foldl_rep its k (acc ++ its), ← e, List.replicate_succ, List.foldl_cons]

section
variable {X : Cx} {pins : List (Addr × Obj)} {σ : St} {H : Hp} {s : Shared} {l b : Addr} {xs ys zs : List V}


theorem Inv.lset {its its' : List Value} {n : Nat} {f : Array Value → Array Value} {t' : Nat} (I : Inv X pins σ H s) (hH : H l = some (.lst xs))
    (e : s.heap.get? l = some { cls := .type "list", data := .seq its.toArray n }) (hf : f its.toArray = its'.toArray) (hv : Vals ys its') (hz : ys.length ≤ sizeLine) :
    Inv X pins σ (upd H l (.lst ys)) { s with heap := s.heap.update l (Obj.mapSeq f), toks := t' } := by
  have q := PySem.IsL.update e f
  rw [hf] at q
  refine I.write (x := l) (e := l) (by rw [hH]; exact trivial) (.inl rfl) (fun b' u hb hu => (Heap.get?_update_other s.heap (Obj.mapSeq f) (Ne.symm hb)).trans hu) ⟨_, q⟩ ?_
  exact ⟨hz, its', _, hv, q⟩
theorem Inv.lnew {its : List Value} {t' : Nat} (I : Inv X pins σ H s) (hv : Vals ys its) (hz : ys.length ≤ sizeLine) :
    Inv X pins σ (upd H s.heap.objs.size (.lst ys)) { s with heap := s.heap.push { cls := .type "list", data := .seq its.toArray }, toks := t' } :=
  I.laid (fun _ _ q => Heap.get?_push_of_some _ q) (Nat.le_refl _) ⟨hz, its, 0, hv, Heap.get?_push_size _ rfl⟩
theorem Inv.fresh (I : Inv X pins σ H s) : H s.heap.objs.size = none := I.hok.fresh (Nat.le_refl _)
theorem Inv.lstM (I : Inv X pins σ H s) (hH : H l = some (.lst xs)) : xs.length ≤ sizeLine ∧ ∃ (its : List Value) (n : Nat), Vals xs its ∧ xs.length = its.length ∧ s.heap.get? l = some { cls := .type "list", data := .seq its.toArray n } := by
  obtain ⟨z, its, n, r, e⟩ := I.hok l _ hH
  exact ⟨z, its, n, r, r.length, e⟩

theorem notLongL {n : Nat} (h : n ≤ sizeLine) : Builtin.List.listTooLong n = false := by
  unfold Builtin.List.listTooLong
  exact decide_eq_false (by omega)
end

section
variable {X : Cx}


def rAppend : V → List V → Hp → VK → Prop := fun x vs H Q => ∃ l xs y, x = .ref l ∧ vs = [y] ∧ H l = some (.lst xs) ∧ xs.length < sizeLine ∧ Q .non (upd H l (.lst (xs ++ [y])))
theorem mt_append : MtM X "list.append" rAppend := by
  intro pins s σ H x vs v us Q I rx rv h
  obtain ⟨l, xs, y, rfl, rfl, hH, hz, q⟩ := h
  cases rx
  obtain ⟨u, rfl, ru⟩ := rv.one
  obtain ⟨z, its, n, r, hl, e⟩ := I.lstM hH
  refine call_meets F.slot_list_append ⟨_, e, rfl⟩ F.entry_list_append (F.args_list_append_2 _ _) (PySem.list_append l its.toArray n u (by rw [List.size_toArray]; omega)) ⟨e, ?_⟩
  refine ⟨.non, _, I.lset (its' := its ++ [u]) hH e (by simp) (r.append (.cons ru .nil)) ?_, rfl, q⟩
  rw [List.length_append, List.length_singleton]
  omega

def rCat : R2 := fun x y H Q => ∃ l b xs zs, x = .ref l ∧ y = .ref b ∧ H l = some (.lst xs) ∧ H b = some (.lst zs) ∧ xs.length + zs.length ≤ sizeLine ∧ ∀ p, H p = none → Q (.ref p) (upd H p (.lst (xs ++ zs)))
theorem op_cat : OpR X (binaryOp .Add) rCat := by
  intro pins s σ H x y v u Q I rx ry h
  obtain ⟨l, b, xs, zs, rfl, rfl, hH, hB, hz, q⟩ := h
  cases rx
  cases ry
  obtain ⟨z, its, n, r, hl, e⟩ := I.lstM hH
  obtain ⟨z2, its2, n2, r2, hl2, e2⟩ := I.lstM hB
  refine PySem.P.add_list e e2 ?_ (by rw [List.size_toArray, List.size_toArray]; omega)
  have ea : its.toArray ++ its2.toArray = (its ++ its2).toArray := by simp
  rw [ea]
  exact ⟨.ref _, _, I.lnew (t' := s.toks) (r.append r2) (by rw [List.length_append]; omega), rfl, q _ I.fresh⟩

def rRep : R2 := fun x y H Q => ∃ l k xs, x = .ref l ∧ y = .int k ∧ H l = some (.lst xs) ∧ -(2 ^ 63) ≤ k ∧ k < 2 ^ 63 ∧ xs.length * k.toNat ≤ sizeLine ∧
  ∀ p, H p = none → Q (.ref p) (upd H p (.lst (List.replicate k.toNat xs).flatten))
theorem len_rep {α : Type} (xs : List α) (k : Nat) : (List.replicate k xs).flatten.length = k * xs.length := by
  induction k with
  | zero => simp
  | succ k ih => rw [List.replicate_succ, List.flatten_cons, List.length_append, ih, Nat.succ_mul, Nat.add_comm]
theorem op_rep : OpR X (binaryOp .Mult) rRep := by
  intro pins s σ H x y v u Q I rx ry h
  obtain ⟨l, k, xs, rfl, rfl, hH, h1, h2, hz, q⟩ := h
  cases rx
  obtain ⟨t, rfl⟩ := ry
  obtain ⟨z, its, n, r, hl, e⟩ := I.lstM hH
  have hlen : its.toArray.size * k.toNat ≤ sizeLine := by rw [List.size_toArray, ← hl]; exact hz
  have hcap : ¬ its.toArray.size * k.toNat > (2 ^ 63 - 1) / 8 := by
    have : (sizeLine : Nat) ≤ (2 ^ 63 - 1) / 8 := by decide
    omega
  have hfit : ¬ (!Builtin.List.listFitsIndex k) = true := by
    rw [fitsIndex_both h1 h2]
    exact Bool.false_ne_true
  have hlong : ¬ Builtin.List.listTooLong (its.toArray.size * k.toNat) = true := by
    rw [notLongL hlen]
    exact Bool.false_ne_true
  have hnew : List.foldl (fun x1 x2 => x1 ++ x2) #[] (List.replicate (if its.toArray.isEmpty = true then 0 else k.toNat) its.toArray) = (List.replicate k.toNat its).flatten.toArray := by
    have f0 : ∀ m : Nat, List.foldl (fun x1 x2 => x1 ++ x2) #[] (List.replicate m its.toArray) = (List.replicate m its).flatten.toArray := fun m => by
      have := foldl_rep its m []
      rw [List.nil_append] at this
      exact this
    rw [f0]
    cases its with
    | nil => simp
    | cons a r' => rw [if_neg (by simp)]
  refine wpAny_binaryOp_repeat_ref (T := "list") (U := "int") (by decide) ⟨_, e, rfl⟩ (fun s' => typeIs_int s' k t) noFill_list_mul F.fills_int_mul F.slot_int_rmul repeat_list F.slot_int_index.lookup
    (call_meets F.slot_int_rmul (typeIs_int s k t) F.entry_int_rmul (F.args_int_rmul_2 _ _) (int___rmul___int_list k t l its.toArray n)
      ⟨e, rfl, ⟨_, e, rfl⟩, call_meets F.slot_list_mul ⟨_, e, rfl⟩ F.entry_list_mul (F.args_list_mul_2 _ _) (AutoListH.list___mul___list_int_3 l its.toArray n k t hfit hcap hlong) ⟨e, ?_⟩⟩)
  rw [hnew]
  exact ⟨.ref _, _, I.lnew (t' := s.toks) (r.rep k.toNat) (by rw [len_rep, Nat.mul_comm]; exact hz), rfl, q _ I.fresh⟩


end


section
variable {prog : Program} {w : World} {A : Around} {E : Value → Shared → Prop} {s : Shared}
end

section
variable {X : Cx}

end
end L2

namespace L2
open PySem PySem.Spec PyProof.Rows


section
variable {κ : Type} [DecidableEq κ]
end



section
variable {P : Program} {w : World} {H : Hp} {h : Heap} {a : Addr}
end


section
variable {X : Cx} {pins : List (Addr × Obj)} {σ : St} {H : Hp} {s : Shared} {a : Addr} {y v : V} {u r : Value} {o : Option V} {A : Around} {E : Value → Shared → Prop}

end

section
variable {X : Cx} {pins : List (Addr × Obj)} {σ : St} {H : Hp} {s : Shared} {a : Addr} {kvs : List (Key × V)} {k : Key} {u : Value} {A : Around} {E : Value → Shared → Prop}

end




section
variable {X : Cx} {o i e value : Expr} {pos pos' tpos : Pos} {td ty tv : TE}
end



section
variable {X : Cx} {pos : Pos}
end


section
variable {X : Cx} {pins : List (Addr × Obj)} {σ : St} {H : Hp} {s : Shared} {a : Addr} {y d : V} {u r : Value} {o : Option V} {A : Around} {E : Value → Shared → Prop}

end

section
variable {X : Cx} {o e f : Expr} {apos cpos : Pos} {td ty tx : TE}
end


section
variable {X : Cx} {pins : List (Addr × Obj)} {σ : St} {H : Hp} {s : Shared} {a : Addr} {kvs : List (Key × V)} {A : Around} {E : Value → Shared → Prop}
end


section
variable {X : Cx} {pins : List (Addr × Obj)} {σ : St} {H : Hp} {s : Shared} {a : Addr} {y : V} {u : Value} {A : Around} {E : Value → Shared → Prop}

end
end L2

namespace Att
open PySem PySem.W PySem.Calls PyProof.Rows


theorem ints_of_wellAll {P : Params} {h : Heap} : ∀ (ns : List Int) (vs : List Value), WellAll P h vs (ns.map WData.int) → IntsAre vs ns := by
  intro ns
  induction ns with
  | nil =>
    intro vs w
    rw [List.map_nil] at w
    cases w
    exact .nil
  | cons n ns ih =>
    intro vs w
    rw [List.map_cons] at w
    cases w with
    | cons a b =>
      cases a
      exact .cons _ _ (ih _ b)

theorem script_of {l : OpenLaw} {n : Nat} (hn : l.most = some n) {P : Params} {h : Heap} {args : List WData} {vals : List Value}
    (hpre : l.row.toRowW.claim.pre args = true) (hwl : WellAll P h vals args) :
    ∃ a vs ns, vals = [Value.ref a] ∧ args = [WData.list (ns.map WData.int)] ∧ h.get? a = some { cls := .type "list", data := .seq vs.toArray } ∧ IntsAre vs ns ∧ ns.length ≤ n := by
  have hsh : WShape.hasAll [] args [.list .int] = true := (pre_splitW hpre).1
  have hc : l.pre.holds [] { args := args } = true := (pre_splitW hpre).2
  obtain ⟨d, r, rfl, h1, h2⟩ := hasAllW_cons hsh
  obtain rfl := hasAllW_nil h2
  obtain ⟨xs, rfl, h3⟩ := hasW_list h1
  obtain ⟨ns, rfl⟩ := items_int h3
  have hlen : ns.length ≤ n := by
    unfold OpenLaw.pre at hc
    have h4 : (WTm.not (.lt (.lit (.int (n : Int))) (.len (.arg 0)))).holds [] { args := [.list (ns.map .int)] } = true := by
      have h4 := (holds_andW hc).1
      rw [hn] at h4
      exact h4
    have h5 := condW_of h4 (w_not (w_lt w_lit (w_len_list (w_arg rfl))))
    rw [List.length_map] at h5
    refine Nat.le_of_not_lt fun q => ?_
    have q' : (n : Int) < ((ns.length : Nat) : Int) := by omega
    first
      | (rw [decide_eq_true q'] at h5; exact absurd h5 (by decide))
      | (simp at h5; omega)
  cases hwl with
  | cons w1 w2 =>
    cases w2
    cases w1 with
    | list ho hall => exact ⟨_, _, ns, rfl, rfl, ho, ints_of_wellAll ns _ hall, hlen⟩

theorem post_true (l : OpenLaw) (args : List WData) : l.row.toRowW.claim.post args (.bool true) args = true :=
  postW_of (r := l.row.toRowW) (X := (true == true))
    (show WShape.has [] (.bool true) .bool = true by first | rfl | decide | simp [WShape.has, WShape.arms, WShape.armsAll])
    (show (WTm.eq .res (.lit (.bool true))).value [] { args := args, res := some (.bool true), after := args } = some (.bool (true == true)) from w_eq_bool (w_res rfl) w_lit) rfl


theorem attach_call {l : OpenLaw} {n : Nat} {q : Program} {loose : List Str} {XP : (Str → Option Value) → Heap → Prop} {YP : World → Heap → Prop} {d : DefRec}
    (hn : l.most = some n) (hdf : d.params.defaults = [])
    (call : ∀ (w : World) (s₀ s₁ : Shared) (mg mb : Str → Option Value) (fa : Addr) (o : Obj) (pm cd doc : Value) (a : Addr) (vs : List Value) (ns : List Int),
      Ground q loose [] XP w s₀ mg mb s₁.heap → YP w s₁.heap →
      s₁.heap.get? fa = some o → o.data = .func (docDef d.name d.params d.body d.scope pm cd doc) → s₁.heap.CodeRec cd d.name → mg d.name = some (.ref fa) →
      s₁.heap.get? a = some { cls := .type "list", data := .seq vs.toArray } → IntsAre vs ns → ns.length ≤ n → s₁.gens = #[] →
      codeAny (model l.prog w) callerA (.call (.ref fa) ⟨[.ref a], []⟩) (fun r s' => r = .ok (.ret (.bool true)) ∧ OldK s₁.heap s'.heap ∧ s'.os = s₁.os ∧ AllBare s'.gens) s₁) :
    WalkO q loose XP YP l.row.toRowW d [] (fun f vs => PySem.call f vs) := by
  intro w s₀ s₁ mg mb G Y fa o pm cd doc dV kV ho hd hcd hD hmg hg args vals as hpre hlay hrd hwl hlo
  obtain rfl : dV = .none := Dflts.none hD hdf
  obtain rfl : kV = .none := Dflts.noKw hD
  obtain ⟨a, vs, ns, rfl, rfl, hobj, hints, hlen⟩ := script_of hn hpre hwl
  refine enter_call (codeAny_mono (call w s₀ s₁ mg mb fa o pm cd doc a vs ns G Y ho (fd_plain hd) hcd hmg hobj hints hlen hg) fun r s' hq => ?_)
  obtain ⟨rfl, h2, h3, h4⟩ := hq
  exact ⟨.inl ⟨.bool true, .bool true, [], rfl, fun _ => rfl, .bool true, post_true l _, fun _ => ⟨List.Pairwise.nil, fun _ hm => (nomatch hm)⟩⟩, h2, h3, h4⟩


section
variable {prog : Program} {w : World} {A : Around} {E : Value → Shared → Prop} {s : Shared} {K : Frag}


end
end Att

namespace L2
open PySem PySem.Spec PyProof.Rows

theorem vals_ints : ∀ {vs : List Value} {ns : List Int}, IntsAre vs ns → Vals (ns.map V.int) vs
  | _, _, .nil => .nil
  | _, _, .cons n t h => .cons ⟨t, rfl⟩ (vals_ints h)


def Only (H : Hp) : Prop := ∀ b, H b = none ∨ ∃ o xs, H b = some (.frz o (.lst xs))


theorem law_call {P : Program} {w : World} {K : PySem.W.Frag} {mg mb : Str → Option Value} {CX : CXT} {k : Nat} {fa a : Addr} {fd : FuncData} {x : Str} {sp : Sp} {s₁ : Shared} {vs : List Value} {ns : List Int}
    (KX : K.In s₁.heap) (hns : s₁.heap.Ns mainGlobals mg) (hb : s₁.heap.Ns builtinsNs mb) (hbb : ∀ x : Str, x ≠ "__name__" → mb x = bootBuiltins x) (hlim : s₁.heap.NoLimit) (hg : s₁.gens = #[])
    (ha : s₁.heap.get? a = some { cls := .type "list", data := .seq vs.toArray }) (hi : IntsAre vs ns) (hl : ns.length ≤ sizeLine) (hr : Room k callerA)
    (F : ∀ base : Heap, K.In base → base.Ns mainGlobals mg → FnOk P w K mg base CX k fa fd [x] sp) (hbind : ∀ (s : Shared) (u : Value), BindsTo s fd ⟨[u], []⟩ [(x, u)])
    (hsp : ∀ H : Hp, Only H → SqL K H a (ns.map V.int) → sp [.ref a] H (fun v _ => v = .bl true) fun _ _ _ => False)
    (hCX : ∀ H e s', CX [] H s₁ (fun _ _ _ => False) e s' → False) :
    codeAny (model P w) callerA (.call (.ref fa) ⟨[.ref a], []⟩) (fun r s' => r = .ok (.ret (.bool true)) ∧ OldK s₁.heap s'.heap ∧ s'.os = s₁.os ∧ AllBare s'.gens) s₁ := by
  have rv := vals_ints hi
  have lenV := hi.length
  -- from an abstract heap in which nothing but the script may be tracked
  have core : ∀ H : Hp, Only H → SqL K H a (ns.map V.int) → HOk P w H s₁.heap → (∀ b, H b ≠ none → b = a) → (H a ≠ none → K.lookup a = none) →
      codeAny (model P w) callerA (.call (.ref fa) ⟨[.ref a], []⟩) (fun r s' => r = .ok (.ret (.bool true)) ∧ OldK s₁.heap s'.heap ∧ s'.os = s₁.os ∧ AllBare s'.gens) s₁ := by
    intro H hO hS hok hA hK
    have base_of : ∀ {b : Addr} {o : Obj}, s₁.heap.get? b = some o → H b = none → (hidT s₁.heap H).get? b = some o := fun e n => hidT_get e n
    have noA : ∀ {b : Addr} {o : Obj} {es : Array DictEntry} {ep : Nat}, s₁.heap.get? b = some o → o.data = .dict es ep → H b = none := fun {b o es ep} e d => by
      cases q : H b with
      | none => rfl
      | some u =>
        have e' : b = a := hA b (by rw [q]; simp)
        subst e'
        rw [ha] at e; cases e
        have d' : Data.seq vs.toArray _ = Data.dict es ep := d
        cases d'
    have nsK : ∀ {b : Addr} {m : Str → Option Value}, s₁.heap.Ns b m → (hidT s₁.heap H).Ns b m := fun {b m} ⟨o, es, ep, e, d, r⟩ => ⟨o, es, ep, base_of e (noA e d), d, r⟩
    have hKb : K.In (hidT s₁.heap H) := fun b o e => base_of (KX b o e) (by
      cases q : H b with
      | none => rfl
      | some u =>
        have e' : b = a := hA b (by rw [q]; simp)
        subst e'
        rw [hK (by rw [q]; simp)] at e; cases e)
    have hM : Mod K mg (hidT s₁.heap H) := ⟨hKb, nsK hns, ⟨mb, nsK hb, hbb⟩, let ⟨mc, h1, h2⟩ := hlim; ⟨mc, nsK h1, h2⟩⟩
    have e0 : Env0 P w K mg (hidT s₁.heap H) callerA [] s₁ H := ⟨rfl, hM, fun b o e => of_hidT e, Nat.le_of_eq (hidT_size _ _), trivial, fun b hb => absurd (show b ∈ ([] : List Addr) from hb) (by simp), hok, .of_eq hg⟩
    refine codeAny_mono ((F _ hKb (nsK hns)).run callerA [] s₁ H ⟨[.ref a], []⟩ [.ref a] [.ref a] _ _ hr e0 (hbind s₁ (.ref a)) (.cons rfl .nil) (hsp H hO hS)) fun r s' h => ?_
    cases r with
    | error e => exact (hCX H e s' h).elim
    | ok fl =>
      cases fl with
      | next => exact False.elim h
      | brk => exact False.elim h
      | cont => exact False.elim h
      | ret u =>
        obtain ⟨v, H', os, bare, un, hok', r', q⟩ := h
        have q' : v = .bl true := q
        subst q'
        obtain rfl : u = Value.bool true := r'
        refine ⟨rfl, OldK.of_keep fun b o e => ?_, os, bare⟩
        cases q : H b with
        | none => exact un.keep b o e q (by intro z; exact absurd (show b ∈ ([] : List Addr) from z) (by simp)) (by simp)
        | some u =>
          rcases hO b with z | ⟨ob, xs, z⟩
          · rw [q] at z; cases z
          · have z2 := un.frzs b ob _ z
            obtain ⟨e1, _⟩ := hok b _ z
            obtain ⟨e2, _⟩ := hok' b _ z2
            rw [e] at e1; cases e1
            exact e2
  cases hk : K.lookup a with
  | some o =>
    -- the script is one of the module's own objects
    have e := KX a o hk
    rw [ha] at e
    cases e
    refine core (fun _ => none) (fun _ => .inl rfl) (.inr ⟨_, vs.toArray, _, hk, rfl, rfl, rfl, by rw [List.size_toArray, lenV]; exact hl, by simpa using rv⟩) (fun b u z => by have z' : (none : Option HO) = some u := z; cases z') (fun b z => absurd rfl z) fun z => absurd rfl z
  | none =>
    refine core (fun b => if b = a then some (.frz { cls := .type "list", data := .seq vs.toArray } (.lst (ns.map V.int))) else none) (fun b => ?_) (.inl (.inr ⟨{ cls := .type "list", data := .seq vs.toArray }, if_pos rfl⟩)) (fun b u z => ?_) (fun b z => ?_) fun _ => hk
    · by_cases hb : b = a
      · exact .inr ⟨_, _, if_pos hb⟩
      · exact .inl (if_neg hb)
    · by_cases hb : b = a
      · have z' := (if_pos hb).symm.trans z
        cases z'
        subst hb
        exact ⟨ha, by rw [List.length_map]; exact hl, vs, _, rv, ha⟩
      · have z' := (if_neg hb).symm.trans z
        cases z'
    · by_cases hb : b = a
      · exact hb
      · exact absurd (if_neg hb) z
end L2

namespace L2
open PySem PySem.Spec PyProof.Rows

abbrev KOf {K : PySem.W.Frag} {h : Heap} (_ : K.In h) : PySem.W.Frag := K


theorem walk_of {l : PySem.W.OpenLaw} {n k : Nat} {q : Program} {loose : List Str} {XP : (Str → Option Value) → Heap → Prop} {YP : World → Heap → Prop} {d : DefRec} {K : Params → PySem.W.Frag} {CX : World → CXT} {sp : World → Sp} {x : Str}
    (hn : l.most = some n) (hn2 : n ≤ sizeLine) (hdf : d.params.defaults = []) (hr : Room k callerA)
    (hY : ∀ (w : World) (h : Heap), YP w h → (K w.params).In h)
    (F : ∀ (w : World) (mg : Str → Option Value) (fa : Addr) (h : Heap), (K w.params).In h → h.Ns mainGlobals mg → mg d.name = some (.ref fa) →
      ∃ fd : FuncData, (∀ (s : Shared) (u : Value), BindsTo s fd ⟨[u], []⟩ [(x, u)]) ∧
        ∀ base : Heap, (K w.params).In base → base.Ns mainGlobals mg → FnOk l.prog w (K w.params) mg base (CX w) k fa fd [x] (sp w))
    (hsp : ∀ (w : World) (H : Hp) (a : Addr) (ns : List Int), ns.length ≤ n → Only H → SqL (K w.params) H a (ns.map V.int) → sp w [.ref a] H (fun v _ => v = .bl true) fun _ _ _ => False)
    (hCX : ∀ (w : World) (H : Hp) (s : Shared) (e : Value) (s' : Shared), CX w [] H s (fun _ _ _ => False) e s' → False) :
    PySem.W.WalkO q loose XP YP l.row.toRowW d [] (fun f vs => PySem.call f vs) := by
  refine Att.attach_call hn hdf fun w s₀ s₁ mg mb fa o pm cd doc a vs ns G Y ho hd hcd hmg hobj hints hlen hg => ?_
  have KX := hY w _ Y
  obtain ⟨fd, hb, hF⟩ := F w mg fa _ KX G.T.g hmg
  exact law_call KX G.T.g G.T.b G.T.builtins G.T.nolimit hg hobj hints (Nat.le_trans hlen hn2) hr hF hb (fun H hO hS => hsp w H a ns hlen hO hS) fun H e s' => hCX w H s₁ e s'

end L2




namespace L2
open PySem PySem.Spec PyProof.Rows



def inClass (s : Stmt) (j : Nat) : Stmt := match s with
  | .ClassDef _ _ _ body _ _ _ _ _ _ _ => body.getD j (.Pass ⟨0, 0, 0, 0⟩)
  | _ => .Pass ⟨0, 0, 0, 0⟩
def defArgs (s : Stmt) : Arguments := match s with
  | .FunctionDef _ a _ _ _ _ _ _ _ _ => a
  | _ => { posonlyargs := [], args := [], vararg := none, kwonlyargs := [], kw_defaults := [], kwarg := none, defaults := [] }
def defBody (s : Stmt) : List Stmt := match s with
  | .FunctionDef _ _ b _ _ _ _ _ _ _ => b
  | _ => []
def defScope (s : Stmt) : Scope := match s with
  | .FunctionDef _ _ _ _ _ _ sc _ _ _ => sc
  | _ => { kind := .function, names := [], isGenerator := false, isCoroutine := false }


abbrev CX0 : CXT := fun _ _ _ _ _ _ => False
abbrev E0 : XK := fun _ _ _ => False
theorem pass0 {X : Cx} : Passes CX0 X E0 := fun _ _ _ _ _ _ _ h => h.elim


structure Fun (K : PySem.W.Frag) (x qual : Str) (st : Stmt) (f : Addr) (fd : FuncData) : Prop where
  ex : ∃ (oc : Value) (od : Option Addr) (kV doc pm : Value) (an : Option Addr) (cdv ct : Value) (osl : Array (Option Value)),
    fd = PySem.W.fnOf x qual (defArgs st) (defBody st) (defScope st) .none kV doc pm an cdv ct ∧ K.lookup f = some ⟨oc, od, .func fd, osl⟩ ∧ PySem.W.codeIn K cdv qual = true
  kp : PySem.W.keepIn K (.ref f) = true
section
variable {P : Program} {w : World} {K : PySem.W.Frag} {mg : Str → Option Value} {base : Heap}

theorem Fun.ok {x qual : Str} {st : Stmt} {f : Addr} {fd : FuncData} {N ps : List Str} {k : Nat} {sp : Sp} (F : Fun K x qual st f fd) (S : FnScope N ps (defScope st)) (len : ∀ vs H Q E, sp vs H Q E → vs.length = ps.length)
    (hbody : ∀ (cdv : Value) (A : Around) (outer : List Env) (s : Shared) (H : Hp) (vs : List V) (Q : VK) (E : XK), Room k (A.deeper (envOfC qual (defScope st) s.heap.objs.size f cdv)) → sp vs H Q E →
      ∃ t, PSs (cxOf CX0 P w K mg base N qual (defScope st) f cdv A outer s H E).nox (defBody st) t ∧ t { nx := fun _ H' => Q .non H', rt := Q } (start N vs) H) : FnOk P w K mg base CX0 (k + 1) f fd ps sp := by
  obtain ⟨oc, od, kV, doc, pm, an, cdv, ct, osl, rfl, lk, hcd⟩ := F.ex
  refine fn_of lk hcd S len fun A outer s H vs Q E hr hsp => ?_
  obtain ⟨t, h, q⟩ := hbody cdv A outer s H vs Q E hr hsp
  exact ⟨t, h.nox, q⟩

theorem Fun.binds {x qual : Str} {st : Stmt} {f : Addr} {fd : FuncData} {ps : List Str} (F : Fun K x qual st f fd)
    (h : ∀ (kV doc pm : Value) (an : Option Addr) (cdv ct : Value) (us : List Value), us.length = ps.length → bindArgs (PySem.W.fnOf x qual (defArgs st) (defBody st) (defScope st) .none kV doc pm an cdv ct) ⟨us, []⟩ = pure (ps.zip us)) : Binds K fd ps [] := by
  obtain ⟨oc, od, kV, doc, pm, an, cdv, ct, osl, rfl, lk, hcd⟩ := F.ex
  exact .all (h kV doc pm an cdv ct)
theorem fun_mk {x qual : Str} {st : Stmt} {f : Addr} {oc : Value} {od an : Option Addr} {osl : Array (Option Value)} {kV doc pm cdv ct : Value} (l : K.lookup f = some ⟨oc, od, .func (PySem.W.fnOf x qual (defArgs st) (defBody st) (defScope st) .none kV doc pm an cdv ct), osl⟩)
    (c : PySem.W.codeIn K cdv qual = true) (k : PySem.W.keepIn K (.ref f) = true) : Fun K x qual st f (PySem.W.fnOf x qual (defArgs st) (defBody st) (defScope st) .none kV doc pm an cdv ct) := ⟨⟨oc, od, kV, doc, pm, an, cdv, ct, osl, rfl, l, c⟩, k⟩
end
section
variable {X : Cx}
theorem pv (i : Nat) {x : Str} {pos : Pos} (hN : X.N[i]? = some x := by rfl) (hv : Vis X.env.scope x := by first | exact Or.inl rfl | exact Or.inr (Or.inl rfl) | exact Or.inr (Or.inr rfl)) (hd : (x == ("__debug__" : Str)) = false := by decide)
    (hcd : (x == ("__classdict__" : Str)) = false := by decide) : PE X (.Name x pos) (tVar i) := pe_var hN hv hd hcd

end


theorem iteF {A B : Prop} (h : B) : if false = true then A else B := by
  rw [if_neg Bool.false_ne_true]
  exact h
theorem iteT {A B : Prop} (h : A) : if true = true then A else B := by
  rw [if_pos rfl]
  exact h
def Same (H H' : Hp) : Prop := ∀ b o, H b = some o → H' b = some o
theorem Same.refl (H : Hp) : Same H H := fun _ _ h => h
theorem Same.trans {H H1 H2 : Hp} (a : Same H H1) (b : Same H1 H2) : Same H H2 := fun c o h => b c o (a c o h)
theorem Same.seq {K : PySem.W.Frag} {H H' : Hp} {a : Addr} {xs : List V} (e : Same H H') (h : SqL K H a xs) : SqL K H' a xs := by
  rcases h with (h | ⟨o, h⟩) | h
  · exact .inl (.inl (e _ _ h))
  · exact .inl (.inr ⟨o, e _ _ h⟩)
  · exact .inr h


section
variable {κ : Type} [DecidableEq κ]
end
end L2

namespace Bt
theorem add_or (a b : Nat) (h : a &&& b = 0) : a + b = a ||| b := by
  have ha : a < 2 ^ (a + b + 1) := Nat.lt_of_lt_of_le Nat.lt_two_pow_self (Nat.pow_le_pow_right (by decide) (by omega))
  have hb : b < 2 ^ (a + b + 1) := Nat.lt_of_lt_of_le Nat.lt_two_pow_self (Nat.pow_le_pow_right (by decide) (by omega))
  have hab : a + b < 2 ^ (a + b + 1) := Nat.lt_of_lt_of_le Nat.lt_two_pow_self (Nat.pow_le_pow_right (by decide) (by omega))
  have e := BitVec.add_eq_or_of_and_eq_zero (BitVec.ofNat (a + b + 1) a) (BitVec.ofNat (a + b + 1) b) (by
    apply BitVec.eq_of_toNat_eq
    rw [BitVec.toNat_and, BitVec.toNat_ofNat, BitVec.toNat_ofNat, Nat.mod_eq_of_lt ha, Nat.mod_eq_of_lt hb, h]
    simp)
  have e2 := congrArg BitVec.toNat e
  rw [BitVec.toNat_or, BitVec.toNat_add, BitVec.toNat_ofNat, BitVec.toNat_ofNat, Nat.mod_eq_of_lt ha, Nat.mod_eq_of_lt hb, Nat.mod_eq_of_lt hab] at e2
  exact e2

def wo (s p : Nat) : Nat := s - (s &&& p)
theorem wo_eq (s p : Nat) : wo s p = s ^^^ (s &&& p) := by
  unfold wo
  have h : (s ^^^ (s &&& p)) + (s &&& p) = s := by
    have e : (s ^^^ (s &&& p)) &&& (s &&& p) = 0 := by
      apply Nat.eq_of_testBit_eq; intro i
      simp only [Nat.testBit_and, Nat.testBit_xor, Nat.zero_testBit]
      cases s.testBit i <;> cases p.testBit i <;> rfl
    rw [add_or _ _ e]
    apply Nat.eq_of_testBit_eq; intro i
    simp only [Nat.testBit_or, Nat.testBit_and, Nat.testBit_xor]
    cases s.testBit i <;> cases p.testBit i <;> rfl
  omega
theorem wo_bit (s p i : Nat) : (wo s p).testBit i = (s.testBit i && !p.testBit i) := by
  rw [wo_eq]; simp only [Nat.testBit_and, Nat.testBit_xor]
  cases s.testBit i <;> cases p.testBit i <;> rfl

def bits : List Nat → Nat
  | [] => 0
  | p :: ps => 2 ^ p + bits ps
theorem bits_bit : ∀ (ps : List Nat), ps.Nodup → ∀ i, (bits ps).testBit i = decide (i ∈ ps)
  | [], _, i => by simp [bits]
  | p :: ps, h, i => by
    obtain ⟨h1, h2⟩ := List.nodup_cons.mp h
    have e : 2 ^ p &&& bits ps = 0 := by
      apply Nat.eq_of_testBit_eq; intro j
      rw [Nat.testBit_and, Nat.testBit_two_pow, bits_bit ps h2 j, Nat.zero_testBit]
      by_cases hj : p = j
      · subst hj; simp [h1]
      · simp [hj]
    show (2 ^ p + bits ps).testBit i = _
    rw [add_or _ _ e, Nat.testBit_or, Nat.testBit_two_pow, bits_bit ps h2 i]
    by_cases hi : p = i
    · subst hi; simp
    · have hi' : i ≠ p := fun z => hi z.symm
      simp [hi, hi']
end Bt
namespace L3
open PySem PySem.Spec PyProof.Rows L2
abbrev St := L2.St


def lstO (its : List Value) : Obj := { cls := .type "list", data := .seq its.toArray its.length }
theorem lstO_snoc (its : List Value) (y : Value) : ({ cls := .type "list", data := .seq (its.toArray.push y) (its.length + 1) } : Obj) = lstO (its ++ [y]) := by
  show ({ cls := .type "list", data := .seq (its.toArray.push y) (its.length + 1) } : Obj) = { cls := .type "list", data := .seq (its ++ [y]).toArray (its ++ [y]).length }
  rw [List.length_append, List.length_singleton, List.push_toArray]

section
variable {prog : Program} {w : World} {A : Around} {R : Result → Shared → Prop} {s : Shared}

theorem compLoop_go {elt target iter : Expr} {ifs : List Expr} {scope : Scope} {pos : Pos} {it acc : Value} {env : Env} (I : Nat → Shared → Prop)
    (turn : ∀ n s, I n s → wpAny (model prog w) A (pyNext it) (fun r s1 => match r with
      | none => R (.ok .next) s1
      | some v => wpAny (model prog w) A (letOwnedTupleGo target it v) (fun _ s2 => wpAny (model prog w) A (assign target env v) (fun _ s3 =>
          wpAny (model prog w) A (forIn ifs true fun c r => if r = true then do let ok ← isTrue c env (eval c env); pure (ForInStep.yield ok) else pure (ForInStep.yield r)) (fun ok s4 =>
            if ok = true then wpAny (model prog w) A (eval elt env) (fun x s5 =>
              wpAny (model prog w) A (call (.builtin "list.append") [acc, x]) (fun _ s6 => ∃ m, m < n ∧ I m s6) (notedBy (model prog w) A env fun e s' => R (.error e) s') s5) (notedBy (model prog w) A env fun e s' => R (.error e) s') s4
            else ∃ m, m < n ∧ I m s4) (notedBy (model prog w) A env fun e s' => R (.error e) s') s3) (notedBy (model prog w) A env fun e s' => R (.error e) s') s2)
          (notedBy (model prog w) A env fun e s' => R (.error e) s') s1) (notedBy (model prog w) A env fun e s' => R (.error e) s') s)
    (n : Nat) (h : I n s) :
    codeAny (model prog w) A (.compLoop (.ListComp elt [⟨target, iter, ifs, 0⟩] scope pos) 0 it acc env) R s := by
  refine codeAny_loop rfl I (fun n s hI => ?_) n h
  show wpAny _ A ((compTurn (.ListComp elt [⟨target, iter, ifs, 0⟩] scope pos) 0 it acc env).onRaise (fun x => do noteFrame x env; theTreesLotGoes x)) _ _ s
  refine wpAny_noted ?_
  rw [compTurn_list]
  refine wpAny_bind (wpAny_standAt (wpAny_bind (wpAny_mono (turn n s hI) (fun r s1 h1 => ?_) fun _ _ h' => h')))
  cases r with
  | none => exact wpAny_pure h1
  | some v =>
    refine wpAny_bind (wpAny_mono h1 (fun _ s2 h2 => ?_) fun _ _ h' => h')
    refine wpAny_bind (wpAny_mono h2 (fun _ s3 h3 => wpAny_bind (wpAny_mono h3 (fun ok s4 h4 => ?_) fun _ _ h' => h')) fun _ _ h' => h')
    cases ok with
    | false => exact wpAny_pure ⟨rfl, h4⟩
    | true =>
      exact wpAny_bind (wpAny_bind (wpAny_mono h4 (fun x s5 h5 => wpAny_bind (wpAny_mono h5 (fun _ s6 h6 => wpAny_pure (wpAny_pure ⟨rfl, h6⟩)) fun _ _ h' => h')) fun _ _ h' => h'))
end


def cxComp (X : Cx) (scope : Scope) (cl : List (Str × Addr)) (own : List Str) (fr : List (Str × Nat)) (C : Addr) (s2 : Shared) (H2 : Hp) (fp : List Addr) : Cx :=
  { prog := X.prog, w := X.w, K := X.K, mg := X.mg, base := X.base, A := X.A, N := own ++ fr.map (·.1), s₀ := s2, H₀ := H2, env := compEnvC scope cl C X.env, outer := X.stack, stack := X.stack,
    ex := fp, fn := fun _ => false, calm := X.calm, pn := [], xe := fun _ _ => False }

def innerS (own : List Str) (fr : List (Str × Nat)) (σ : St) : St := own.map (fun _ => none) ++ fr.map fun p => (σ[p.2]?).join
def ClOk (env : Env) : List (Str × Addr) → Prop
  | [] => True
  | (n, c) :: r => env.cells.lookup n = some c ∧ ClOk env r
theorem ClOk.get {env : Env} : ∀ {cl : List (Str × Addr)} {x : Str} {c : Addr}, ClOk env cl → cl.lookup x = some c → env.cells.lookup x = some c
  | [], _, _, _, h => by simp at h
  | (n, d) :: r, x, c, ok, h => by
    rw [List.lookup_cons] at h
    cases e : x == n with
    | true =>
      rw [e] at h
      have e' : x = n := by simpa using e
      cases h
      rw [e']
      exact ok.1
    | false =>
      rw [e] at h
      exact ClOk.get ok.2 h
def CellK (sc : Scope) (x : Str) : Prop := sc.names.lookup x = some .cell ∨ sc.names.lookup x = some .free
def FrOk (X : Cx) (scope : Scope) (cl : List (Str × Addr)) : List (Str × Nat) → Prop
  | [] => True
  | (x, j) :: r => (X.N[j]? = some x ∧ CellK X.env.scope x ∧ CellK (relabel scope X.env) x ∧ (cl.lookup x).isSome = true) ∧ FrOk X scope cl r
theorem FrOk.get {X : Cx} {scope : Scope} {cl : List (Str × Addr)} : ∀ {fr : List (Str × Nat)} {i : Nat} {p : Str × Nat}, FrOk X scope cl fr → fr[i]? = some p →
    X.N[p.2]? = some p.1 ∧ CellK X.env.scope p.1 ∧ CellK (relabel scope X.env) p.1 ∧ (cl.lookup p.1).isSome = true
  | [], _, _, _, h => by simp at h
  | (x, j) :: r, 0, p, ok, h => by
    simp at h
    subst h
    exact ok.1
  | (x, j) :: r, i + 1, p, ok, h => FrOk.get (i := i) ok.2 (by simpa using h)
structure CompSc (X : Cx) (scope : Scope) (cl : List (Str × Addr)) (own : List Str) (fr : List (Str × Nat)) : Prop where
  clos : closureFor scope X.env = pure cl
  cells : ClOk X.env cl
  frs : FrOk X scope cl fr
  kind : scope.kind = .function
  nocell : ∀ y ∈ scope.names, y.2 ≠ .cell
  names : ∀ y ∈ scope.names, y.2 = .local → scope.names.lookup y.1 = some .local
  has : (scope.names.all fun y => y.2 != .free || (cl.lookup y.1).isSome) = true

theorem lookup_relabel_has {env : Env} {cl : List (Str × Addr)} : ∀ {names : List (Str × NameKind)} {x : Str}, (∀ y ∈ names, y.2 ≠ .cell) → (names.all fun y => y.2 != .free || (cl.lookup y.1).isSome) = true →
    ((names.map fun (n, k) => if (k == NameKind.free && env.scope.kind == .function && env.kindOf n == some .cell) then (n, NameKind.cell) else (n, k)).lookup x = some .cell ∨
     (names.map fun (n, k) => if (k == NameKind.free && env.scope.kind == .function && env.kindOf n == some .cell) then (n, NameKind.cell) else (n, k)).lookup x = some .free) → ∃ c, cl.lookup x = some c
  | [], _, _, _, h => by rcases h with h | h <;> simp at h
  | (n, k) :: r, x, nc, ha, h => by
    rw [List.all_cons, Bool.and_eq_true] at ha
    have ih := @lookup_relabel_has env cl r x (fun y hy => nc y (List.mem_cons_of_mem _ hy)) ha.2
    have nk : k ≠ .cell := nc (n, k) List.mem_cons_self
    have hk := ha.1
    cases hx : x == n with
    | true =>
      have ex : x = n := by simpa using hx
      subst ex
      by_cases hf : k = .free
      · subst hf
        have z : (cl.lookup x).isSome = true := by simpa using hk
        exact Option.isSome_iff_exists.mp z
      · exfalso
        have hb : (k == NameKind.free) = false := by simpa using hf
        rcases h with h | h
        · rw [List.map_cons] at h
          simp only [hb, Bool.false_and, Bool.false_eq_true, if_false, List.lookup_cons, beq_self_eq_true] at h
          exact nk (Option.some.inj h)
        · rw [List.map_cons] at h
          simp only [hb, Bool.false_and, Bool.false_eq_true, if_false, List.lookup_cons, beq_self_eq_true] at h
          exact hf (Option.some.inj h)
    | false =>
      refine ih ?_
      rcases h with h | h
      · left
        rw [List.map_cons] at h
        by_cases hc : (k == NameKind.free && env.scope.kind == .function && env.kindOf n == some .cell) = true
        · simp only [hc, if_true, List.lookup_cons, hx] at h; exact h
        · simp only [hc, Bool.false_eq_true, if_false, List.lookup_cons, hx] at h; exact h
      · right
        rw [List.map_cons] at h
        by_cases hc : (k == NameKind.free && env.scope.kind == .function && env.kindOf n == some .cell) = true
        · simp only [hc, if_true, List.lookup_cons, hx] at h; exact h
        · simp only [hc, Bool.false_eq_true, if_false, List.lookup_cons, hx] at h; exact h


def PTs (Y : Cx) (ifs : List Expr) (t : TT) : Prop :=
  ∀ (pins : List (Addr × Obj)) (s : Shared) (σ : St) (H : Hp) (Q : Bool → Hp → Prop), Inv Y pins σ H s → t σ H Q →
    wpAny (model Y.prog Y.w) Y.A (forIn ifs true fun c r => if r = true then do let ok ← isTrue c Y.env (eval c Y.env); pure (ForInStep.yield ok) else pure (ForInStep.yield r)) (TP Y pins σ Q) Y.xe s
def tTrue : TT := fun _ H Q => Q true H
theorem pts_nil {Y : Cx} : PTs Y [] tTrue := fun _ _ _ H _ I h => wpAny_tests_nil ⟨H, I, h⟩
theorem pts_one {Y : Cx} {c : Expr} {t : TT} (h : PT Y c t) : PTs Y [c] t := fun pins s σ H Q I hw => wpAny_tests_one (h pins s σ H Q I hw)


def tComp (own : List Str) (fr : List (Str × Nat)) (wi : TI) (g : TG) (tc : TT) (te : TE) (fin : List V → Hp → Prop) : St → Hp → Prop := fun σ H => wi σ H fun J H1 =>
  ∃ W : Nat → Nat → List V → St → Hp → Prop, (∃ m, W 0 m [] (innerS own fr σ) H1) ∧ ∀ i m ys σ' H', W i m ys σ' H' →
    (J.stop i H' ∧ ys.length ≤ sizeLine ∧ fin ys H') ∨
    (J.go i H' ∧ ∃ N : List V → St → Hp → Prop, (∀ ys2 σ2 H2, N ys2 σ2 H2 → ys2.length ≤ sizeLine ∧ ∃ m', m' < m ∧ W (i + 1) m' ys2 σ2 H2) ∧
      ∀ x H2, J.yld i H' x H2 → g x σ' H2 fun σ3 H3 => tc σ3 H3 fun b H4 => if b = true then te σ3 H4 fun y H5 => N (ys ++ [y]) σ3 H5 else N ys σ3 H4)


structure Off (X : Cx) (pins : List (Addr × Obj)) (H : Hp) (C : Addr) : Prop where
  none : H C = none
  loc : C ≠ X.env.locals
  above : X.s₀.heap.objs.size ≤ C
  cell : ∀ x c, X.env.cells.lookup x = some c → c ≠ C
  pin : ∀ p ∈ X.pn ++ pins, p.1 ≠ C

section
variable {X : Cx} {tg elt iter : Expr} {ifs : List Expr} {scope : Scope} {cl : List (Str × Addr)} {own : List Str} {fr : List (Str × Nat)} {wi : TI} {g : TG} {tc : TT} {te : TE} {pos : Pos}

theorem comp_core (hc : X.calm = true) (S : CompSc X scope cl own fr) (hi : PI X tg iter wi) (hg : ∀ C s2 H2 fp, PG (cxComp X scope cl own fr C s2 H2 fp) tg g)
    (ht : ∀ C s2 H2 fp, PTs (cxComp X scope cl own fr C s2 H2 fp) ifs tc) (he : ∀ C s2 H2 fp, PE (cxComp X scope cl own fr C s2 H2 fp) elt te)
    {pins : List (Addr × Obj)} {s : Shared} {σ : St} {H : Hp} {fin : List V → Hp → Prop} (I : Inv X pins σ H s) (h : tComp own fr wi g tc te fin σ H)
    {RR : Value → Addr → Result → Shared → Prop}
    (hR : ∀ (D C : Addr) (s4 : Shared) (H3 : Hp) (ys : List V) (m : Str → Option Value), H3 D = none → Inv X pins σ (upd H3 D (.lst ys)) s4 → s4.heap.Ns C m → Off X pins (upd H3 D (.lst ys)) C → fin ys H3 → RR (.ref D) C (.ok .next) s4) :
    wpAny (model X.prog X.w) X.A (eval iter X.env) (fun x s1 => wpAny (model X.prog X.w) X.A (pyIter x) (fun itv s2 => wpAny (model X.prog X.w) X.A (newList []) (fun acc s3 =>
      wpAny (model X.prog X.w) X.A (newFunctionEnv scope X.env.globals cl [] X.env.qual none .none (some X.env)) (fun cenv s4 =>
        codeAny (model X.prog X.w) X.A (.compStart (.ListComp elt [⟨tg, iter, ifs, 0⟩] scope pos) 0 itv acc { cenv with scope := relabel scope X.env }) (RR acc cenv.locals) s4) X.xe s3) X.xe s2) X.xe s1) X.xe s := by
  refine thn (hi pins s σ H _ I h) fun v s1 h1 => thn h1 fun itv s2 h2 => ?_
  obtain ⟨it, fp, tn, J, H2, rfl, I2, T, st2, f2, W, ⟨m0, w0⟩, turn⟩ := h2
  refine wpAny_newObj_type (wpAny_newFunctionEnv S.nocell (by intro y hy; simp at hy) (fun h1 hns1 hsb1 => ?_) S.kind)
  dsimp only at hns1 hsb1 ⊢
  generalize hHP : s2.heap.push { cls := .type "list", dict := none, data := .seq ([] : List Value).toArray } = HP at hns1 hsb1 ⊢
  have hC : HP.objs.size = s2.heap.objs.size + 1 := by rw [← hHP, Heap.size_push]
  have hDC : s2.heap.objs.size ≠ HP.objs.size := by rw [hC]; exact Nat.ne_of_lt (Nat.lt_succ_self _)
  have below : ∀ b, b < s2.heap.objs.size → b ≠ HP.objs.size ∧ b ≠ s2.heap.objs.size := fun b hb => ⟨by rw [hC]; exact Nat.ne_of_lt (Nat.lt_succ_of_lt hb), Nat.ne_of_lt hb⟩
  have old : ∀ b o, s2.heap.get? b = some o → h1.get? b = some o := fun b o e => hsb1.extBut b o (below b (Heap.lt_size e)).1 (Heap.get?_push_of_some _ (hHP ▸ Heap.get?_push_of_some _ e))
  have hacc : h1.get? s2.heap.objs.size = some (lstO []) := hsb1.extBut _ _ hDC (Heap.get?_push_of_some _ (hHP ▸ Heap.get?_push_size _ rfl))
  have hfpo : ∀ b ∈ fp, b < s2.heap.objs.size := fun b hb => by obtain ⟨o, e, _⟩ := T.obj 0 _ st2 b hb; exact Heap.lt_size e
  have hcells : ∀ x c, cl.lookup x = some c → X.env.cells.lookup x = some c := fun x c e => S.cells.get e
  have hcD : ∀ x c, X.env.cells.lookup x = some c → c < s2.heap.objs.size := fun x c e => by obtain ⟨v, q⟩ := I2.cell x c e; exact q.lt
  have st1 : tn 0 h1 := T.keep _ _ _ st2 fun b _ o e => old b o e
  have hDfree : H2 s2.heap.objs.size = none := I2.hok.fresh (Nat.le_refl _)
  have hCfree : H2 HP.objs.size = none := I2.hok.fresh (by rw [hC]; exact Nat.le_succ _)
  have nostk : ∀ b, s2.heap.objs.size ≤ b → b ∉ L2.frs X.stack := fun b hb hm => by
    rcases List.mem_cons.mp (I2.stkSub b hm) with e | e
    · exact absurd I2.lt (by rw [← e]; exact Nat.not_lt.mpr hb)
    · exact I2.nofs hb e
  have hDlt : s2.heap.objs.size < h1.objs.size := Heap.lt_size hacc
  -- the block's context
  have YOk : (cxComp X scope cl own fr HP.objs.size s2 H2 fp).Ok := by
    refine ⟨I2.ok.mod, S.kind, I2.ok.glob, I2.ok.blt, ?_, fun x y c e1 e2 => I2.ok.inj x y c (hcells _ _ e1) (hcells _ _ e2), fun x hx => ?_, fun x c hf => ?_, I2.ok.hd, I2.ok.frames, .inl rfl, fun b hb => ⟨?_, fun x c e => ?_⟩,
      I2.bs, Nat.le_trans I2.ok.bsz I2.sz, fun b o e hb => ?_, fun b hb hm => ?_, I2.stack, I2.stkFree⟩
    · show s2.heap.objs.size ≤ HP.objs.size
      rw [hC]; exact Nat.le_succ _
    · exact lookup_relabel_has (env := X.env) S.nocell S.has hx
    · cases hf
    · exact (below b (hfpo b hb)).1
    · exact (f2 b hb).2.2.2.2.1 x c (hcells _ _ e)
    · rcases (f2 b hb).2.2.2.1 with z | z
      · exact I2.ok.noex b o e z
      · exact absurd (Heap.lt_size (I2.ok.bs b o e).1) (Nat.not_lt.mpr z)
    · rcases List.mem_cons.mp (I2.stkSub b hm) with e | e
      · exact (f2 b hb).2.1 e
      · exact (f2 b hb).2.2.1 e
  have hpinD : ∀ {h' : Heap} {its : List Value} {H' : Hp}, h'.get? s2.heap.objs.size = some (lstO its) → H' s2.heap.objs.size = none → ∀ p ∈ ([(s2.heap.objs.size, lstO its)] : List (Addr × Obj)),
      h'.get? p.1 = some p.2 ∧ H' p.1 = none ∧ p.1 ≠ HP.objs.size ∧ p.1 ∉ L2.frs X.stack ∧ ∀ v, p.2.data ≠ .cell v := fun {h' its H'} e n p hp => by
    have e1 : p = (s2.heap.objs.size, lstO its) := by simpa using hp
    subst e1
    exact ⟨e, n, hDC, nostk _ (Nat.le_refl _), fun v z => by cases z⟩
  have IY : Inv (cxComp X scope cl own fr HP.objs.size s2 H2 fp) [(s2.heap.objs.size, lstO [])] (innerS own fr σ) H2 { s2 with heap := h1, toks := s2.toks + ([] : List (Str × Value)).length } := by
    refine ⟨YOk, rfl, I2.bare, Un.kept old, ⟨_, hns1, fun i x v e1 e2 e3 => ?_⟩, fun x c e => ?_, hCfree, fun x c e => I2.freeC x c (hcells _ _ e), hpinD hacc hDfree, I2.hok.kept old, ?_⟩
    · have e1' : (own ++ fr.map (·.1))[i]? = some x := e1
      have e2' : (own.map (fun _ => (none : Option V)) ++ fr.map fun p => (σ[p.2]?).join)[i]? = some (some v) := e2
      by_cases hi' : i < own.length
      · rw [List.getElem?_append_left (by simpa using hi'), List.getElem?_map] at e2'
        rw [List.getElem?_eq_getElem hi'] at e2'
        cases e2'
      · rw [List.getElem?_append_right (by simpa using hi'), List.getElem?_map] at e2'
        rw [List.getElem?_append_right (Nat.not_lt.mp hi'), List.getElem?_map] at e1'
        rw [List.length_map] at e2'
        cases ef : fr[i - own.length]? with
        | none => rw [ef] at e1'; cases e1'
        | some p =>
          rw [ef] at e1' e2'
          have ex : p.1 = x := Option.some.inj e1'
          have ev : (σ[p.2]?).join = some v := Option.some.inj e2'
          obtain ⟨hN, hk, hk2, hs⟩ := S.frs.get ef
          have eσ : σ[p.2]? = some (some v) := by
            cases q : σ[p.2]? with
            | none => rw [q] at ev; cases ev
            | some o => rw [q] at ev; exact congrArg some ev
          obtain ⟨m, hn, hl⟩ := I2.loc
          obtain ⟨u, r, l⟩ := hl p.2 p.1 v hN eσ (by rcases hk with k | k; exact .inr (.inl k); exact .inr (.inr k))
          subst ex
          obtain ⟨c, ec⟩ := Option.isSome_iff_exists.mp hs
          refine ⟨u, r, .inr ⟨hk2, c, ec, ?_⟩⟩
          rcases l with ⟨hl1, _⟩ | ⟨_, c', ec', z⟩
          · have hl1' : X.env.scope.names.lookup p.1 = some .local := hl1
            rcases hk with z | z
            · rw [z] at hl1'; cases hl1'
            · rw [z] at hl1'; cases hl1'
          · have := hcells _ _ ec
            rw [ec'] at this
            cases this
            exact z.keeps old
    · obtain ⟨v, z⟩ := I2.cell x c (hcells _ _ e)
      exact ⟨v, z.keeps old⟩
    · show (own.map (fun _ => (none : Option V)) ++ fr.map fun p => (σ[p.2]?).join).length = (own ++ fr.map (·.1)).length
      simp
  have stat : ∀ {its : List Value} {H' : Hp}, (∀ b ∈ fp, H' b = none) → ∀ b ∈ fp, FpOk (cxComp X scope cl own fr HP.objs.size s2 H2 fp) [(s2.heap.objs.size, lstO its)] H' b := fun {its H'} hn b hb =>
    ⟨hn b hb, (below b (hfpo b hb)).1, fun hm => by
        rcases List.mem_cons.mp (I2.stkSub b hm) with e | e
        · exact (f2 b hb).2.1 e
        · exact (f2 b hb).2.2.1 e, .inl hb, fun x c e => (f2 b hb).2.2.2.2.1 x c (hcells _ _ e), fun p hp => by
        have e1 : p = (s2.heap.objs.size, lstO its) := by
          have hp' : p ∈ ([] : List (Addr × Obj)) ++ [(s2.heap.objs.size, lstO its)] := hp
          simpa using hp'
        subst e1
        exact (below b (hfpo b hb)).2.symm⟩
  have loop : ∀ s3 : Shared, s3 = { s2 with heap := h1, toks := s2.toks + ([] : List (Str × Value)).length } →
      codeAny (model X.prog X.w) X.A (.compLoop (.ListComp elt [⟨tg, iter, ifs, 0⟩] scope pos) 0 (.ref it) (.ref s2.heap.objs.size) (compEnvC scope cl HP.objs.size X.env)) (RR (.ref s2.heap.objs.size) HP.objs.size) s3 := by
    rintro s3 rfl
    refine compLoop_go (fun n s' => ∃ i ys its σ' H', Inv (cxComp X scope cl own fr HP.objs.size s2 H2 fp) [(s2.heap.objs.size, lstO its)] σ' H' s' ∧ Vals ys its ∧ tn i s'.heap ∧ (∀ b ∈ fp, H' b = none) ∧ W i n ys σ' H') ?_ m0
      ⟨0, [], [], innerS own fr σ, H2, IY, .nil, st1, fun b hb => (f2 b hb).1, w0⟩
    rintro n s3 ⟨i, ys, its, σ3, H3, I3, rv, st3, fr3, w3⟩
    rcases turn i n ys σ3 H3 w3 with ⟨stop, hz, qn⟩ | ⟨go, N, hN, step⟩
    · refine wpAny_mono (T.done (cxComp X scope cl own fr HP.objs.size s2 H2 fp) rfl rfl rfl hc i _ s3 σ3 H3 (fun _ _ => False) I3 (stat fr3) st3 stop) (fun r s4 h4 => ?_) fun _ _ f => f.elim
      obtain ⟨hr, I4⟩ := h4
      subst hr
      obtain ⟨eD, nD, _⟩ := I4.pin (s2.heap.objs.size, lstO its) (by simp [cxComp])
      obtain ⟨m, hn, _⟩ := id I4.loc
      have nC : H3 HP.objs.size = none := I4.free
      have bu := I4.base
      have J4 : Inv X pins σ (upd H3 s2.heap.objs.size (.lst ys)) s4 := by
        refine I2.call' (ch := fp) I4.os ⟨fun b o e n hb hx => bu.keep b o e n hb hx, fun b o e n hb hx => bu.slot b o e n hb hx, fun b o e n hx => ?_, fun b o e hx => bu.there b o e hx, fun b xs e => ?_, fun b o u e => ?_, fun b ps e => ?_⟩ ?_ I4.bare ?_
        · rw [upd_ne (below b (Heap.lt_size e)).2]; exact bu.free b o e n hx
        · have z := bu.tups b xs e
          rw [upd_ne (ne_of_none z nD)]; exact z
        · have z := bu.frzs b o u e
          rw [upd_ne (ne_of_none z nD)]; exact z
        · obtain ⟨more, z⟩ := bu.tbls b ps e
          exact ⟨more, by rw [upd_ne (ne_of_none z nD)]; exact z⟩
        · intro b o e
          by_cases hb : b = s2.heap.objs.size
          · subst hb
            rw [upd_same] at e
            cases e
            exact ⟨hz, its, its.length, rv, eD⟩
          · rw [upd_ne hb] at e
            exact (I4.hok b o e).stay (fun c u _ q => q) (fun c q => by rw [upd_ne (ne_of_none q nD)]; exact q) fun c xs q => by rw [upd_ne (ne_of_none q nD)]; exact q
        · intro b hb
          exact ⟨(f2 b hb).2.2.2.1, (f2 b hb).2.1, (f2 b hb).2.2.2.2.1, (f2 b hb).2.2.2.2.2⟩
      refine hR _ _ s4 H3 ys m nD J4 hn ⟨?_, ?_, ?_, ?_, ?_⟩ qn
      · rw [upd_ne hDC.symm]; exact nC
      · exact Nat.ne_of_gt (Nat.lt_of_lt_of_le I2.lt (by rw [hC]; exact Nat.le_succ _))
      · exact Nat.le_trans I2.sz (by rw [hC]; exact Nat.le_succ _)
      · exact fun x c e => (below c (hcD x c e)).1
      · exact fun p hp => (below p.1 (Heap.lt_size (I2.pin p hp).1)).1
    · refine wpAny_mono (T.item (cxComp X scope cl own fr HP.objs.size s2 H2 fp) rfl rfl rfl hc i _ s3 σ3 H3 (fun _ _ => False) I3 (stat fr3) st3 go) (fun r s4 h4 => ?_) fun _ _ f => f.elim
      obtain ⟨u, hr, h4⟩ := h4
      subst hr
      refine wpAny_mono h4 (fun _ s5 h5 => ?_) fun _ _ f => f.elim
      obtain ⟨x, H5, I5, r5, y5, st5, fr5⟩ := h5
      have I5' := I5.pinned (stat fr5) (T.obj _ _ st5)
      refine wpAny_mono (hg _ _ _ _ _ s5 σ3 H5 x u _ I5' r5 (step x H5 y5)) (fun _ s6 h6 => ?_) fun _ _ f => f.elim
      obtain ⟨σ6, H6, I6, q6⟩ := h6
      refine wpAny_mono (ht _ _ _ _ _ s6 σ6 H6 _ I6 q6) (fun ok s7 h7 => ?_) fun _ _ f => f.elim
      obtain ⟨H7, I7, q7⟩ := h7
      have keepT : ∀ {σ8 : St} {H8 : Hp} {s8 : Shared} {l : List (Addr × Obj)}, Inv (cxComp X scope cl own fr HP.objs.size s2 H2 fp) (l ++ pinsAt fp s5.heap) σ8 H8 s8 → tn (i + 1) s8.heap ∧ ∀ b ∈ fp, H8 b = none := fun {σ8 H8 s8 l} I8 => by
        refine ⟨T.keep _ _ _ st5 fun b hb o e => (I8.pin (b, o) (List.mem_append_right _ (List.mem_append_right _ (mem_pinsAt hb e)))).1, fun b hb => ?_⟩
        obtain ⟨o, e, _⟩ := T.obj _ _ st5 b hb
        exact (I8.pin (b, o) (List.mem_append_right _ (List.mem_append_right _ (mem_pinsAt hb e)))).2.1
      cases ok with
      | false =>
        rw [if_neg Bool.false_ne_true] at q7 ⊢
        obtain ⟨_, m', hm, w7⟩ := hN _ _ _ q7
        exact ⟨m', hm, i + 1, ys, its, σ6, H7, I7.unpinned, rv, (keepT I7).1, (keepT I7).2, w7⟩
      | true =>
        rw [if_pos rfl] at q7 ⊢
        refine wpAny_mono (he _ _ _ _ _ s7 σ6 H7 _ I7 q7) (fun y s8 h8 => ?_) fun _ _ f => f.elim
        obtain ⟨yv, H8, I8, r8, n8⟩ := h8
        obtain ⟨hlt', m', hm, w8⟩ := hN _ _ _ n8
        have hlt : ys.length < sizeLine := by rw [List.length_append] at hlt'; exact hlt'
        obtain ⟨eD, nD, nL, _, _⟩ := I8.pin (s2.heap.objs.size, lstO its) (by simp [cxComp])
        refine append_at (its := its.toArray) (n := its.length) (hsz := by rw [List.size_toArray, ← rv.length]; exact Nat.le_of_lt hlt) eD fun h9 sb9 eD9 => ?_
        have I8p : Inv (cxComp X scope cl own fr HP.objs.size s2 H2 fp) (pinsAt fp s5.heap) σ6 H8 s8 := I8.pins_of fun p hp => I8.pin p (List.mem_append_right _ (List.mem_append_right _ hp))
        have I9p : Inv (cxComp X scope cl own fr HP.objs.size s2 H2 fp) (pinsAt fp s5.heap) σ6 H8 { s8 with heap := h9 } :=
          I8p.turned (t' := s8.toks) (fun b o hb e => (sb9.2 b hb).trans e) nD nL (.inr (Nat.le_refl _)) (fun x c e => (below c (hcD x c (hcells _ _ e))).2) fun p hp => by
            have hp' : p ∈ pinsAt fp s5.heap := by simpa [cxComp] using hp
            exact (below p.1 (hfpo _ (of_pinsAt hp').1)).2
        have eD9' : h9.get? s2.heap.objs.size = some (lstO (its ++ [y])) := eD9.trans (congrArg some (lstO_snoc its y))
        have I9 : Inv (cxComp X scope cl own fr HP.objs.size s2 H2 fp) [(s2.heap.objs.size, lstO (its ++ [y]))] σ6 H8 { s8 with heap := h9 } := I9p.pins_of (hpinD eD9' nD)
        have K9 := keepT (l := []) (by simpa using I9p)
        exact ⟨m', hm, i + 1, ys ++ [yv], its ++ [y], σ6, H8, I9, rv.append (.cons r8 .nil), K9.1, K9.2, w8⟩
  exact codeAny_compStart_list (loop _ rfl) (T.self _ 0 _ _ _ st1 (loop _ rfl))


def tCompE (own : List Str) (fr : List (Str × Nat)) (wi : TI) (g : TG) (tc : TT) (te : TE) : TE := fun σ H Q => tComp own fr wi g tc te (fun ys H3 => ∀ p, H3 p = none → Q (.ref p) (upd H3 p (.lst ys))) σ H
theorem pe_comp (hc : X.calm = true) (S : CompSc X scope cl own fr) (hi : PI X tg iter wi) (hg : ∀ C s2 H2 fp, PG (cxComp X scope cl own fr C s2 H2 fp) tg g)
    (ht : ∀ C s2 H2 fp, PTs (cxComp X scope cl own fr C s2 H2 fp) ifs tc) (he : ∀ C s2 H2 fp, PE (cxComp X scope cl own fr C s2 H2 fp) elt te)
    (hs : ∀ x, foldedSetIterable iter X.env x = pure x := by intro _; rfl) : PE X (.ListComp elt [⟨tg, iter, ifs, 0⟩] scope pos) (tCompE own fr wi g tc te) := by
  intro pins s σ H Q I h
  rw [eval_ListComp]
  refine wpAny_comprehension_free (use := none) rfl hs S.clos S.kind S.names ?_
  refine comp_core hc S hi hg ht he I h fun D C s4 H3 ys m nD J hn off q => ?_
  refine ⟨m, hn, fun h' sb => ⟨.ref D, _, J.turned (t' := s4.toks) (fun b o hb e => (sb.2 b hb).trans e) off.none off.loc (.inr off.above) off.cell off.pin, rfl, q D nD⟩⟩

def tCompS (i : Nat) (own : List Str) (fr : List (Str × Nat)) (wi : TI) (g : TG) (tc : TT) (te : TE) : TS := fun D σ H => tComp own fr wi g tc te (fun ys H3 => ∀ p, H3 p = none → D.nx (σ.set i (some (.ref p))) (upd H3 p (.lst ys))) σ H
theorem ps_setC {i : Nat} {y : Str} {py spos : Pos} (hN : X.N.Nodup) (hi' : X.N[i]? = some y) (hx : X.env.scope.names.lookup y = some .local) (hc : X.calm = true) (S : CompSc X scope cl own fr) (hi : PI X tg iter wi) (hg : ∀ C s2 H2 fp, PG (cxComp X scope cl own fr C s2 H2 fp) tg g)
    (ht : ∀ C s2 H2 fp, PTs (cxComp X scope cl own fr C s2 H2 fp) ifs tc) (he : ∀ C s2 H2 fp, PE (cxComp X scope cl own fr C s2 H2 fp) elt te)
    (hsw : swapsWith (.ListComp elt [⟨tg, iter, ifs, 0⟩] scope pos) (some (.Name y py)) spos.line X.env = pure true := by rfl)
    (hs : ∀ x, foldedSetIterable iter X.env x = pure x := by intro _; rfl) : PS X (.Assign [.Name y py] (.ListComp elt [⟨tg, iter, ifs, 0⟩] scope pos) spos) (tCompS i own fr wi g tc te) := by
  intro pins s σ H D I h
  rw [exec_Assign_Name_used _ _ _ _ hsw]
  refine wpAny_bind (wpAny_standAt (wpAny_bind ?_))
  show wpAny _ X.A (do let _ ← comprehension (.ListComp elt [⟨tg, iter, ifs, 0⟩] scope pos) scope X.env _ (newList []) false (eval iter X.env) (some (assign (.Name y py) X.env))) _ _ s
  refine wpAny_bind (wpAny_mono (wpAny_comprehension_free (use := some (assign (.Name y py) X.env)) (Q := fun _ s' => SP X pins D .next s') rfl hs S.clos S.kind S.names ?_) (fun _ s' hq => wpAny_pure (wpAny_pure hq)) fun _ _ e => e)
  refine comp_core hc S hi hg ht he I h fun Da C s4 H3 ys m nD J hn off q => ?_
  show wpAny _ X.A (assign (.Name y py) X.env (.ref Da)) _ _ _
  refine wpAny_assign_Name (store_ok2 J hN hi' (.inl hx) (v := .ref Da) rfl (fun s5 I5 hsb => ?_) (.inr hx))
  obtain ⟨a, sb, ha⟩ := hsb
  have nCa : C ≠ a := by
    rcases ha with z | z
    · rw [z]; exact off.loc
    · exact (off.cell _ _ z).symm
  refine ⟨m, hn.sameBut sb nCa, fun h' sb' => ⟨_, _, I5.turned (t' := s5.toks) (fun b o hb e => (sb'.2 b hb).trans e) off.none off.loc (.inr off.above) off.cell off.pin, q Da nD⟩⟩
end
section
variable {K : PySem.W.Frag} {a : Addr} {xs : List V} {own : List Str} {fr : List (Str × Nat)} {g : TG} {tc : TT} {te : TE} {fin : List V → Hp → Prop} {σ : St} {H : Hp}

def CompW (J : It) (g : TG) (tc : TT) (te : TE) (fin : List V → Hp → Prop) (σ0 : St) (H1 : Hp) : Prop :=
  ∃ W : Nat → Nat → List V → St → Hp → Prop, (∃ m, W 0 m [] σ0 H1) ∧ ∀ i m ys σ' H', W i m ys σ' H' →
    (J.stop i H' ∧ ys.length ≤ sizeLine ∧ fin ys H') ∨
    (J.go i H' ∧ ∃ N : List V → St → Hp → Prop, (∀ ys2 σ2 H2, N ys2 σ2 H2 → ys2.length ≤ sizeLine ∧ ∃ m', m' < m ∧ W (i + 1) m' ys2 σ2 H2) ∧
      ∀ x H2, J.yld i H' x H2 → g x σ' H2 fun σ3 H3 => tc σ3 H3 fun b H4 => if b = true then te σ3 H4 fun y H5 => N (ys ++ [y]) σ3 H5 else N ys σ3 H4)
theorem comp_list {σ0 : St} (Pv : Nat → List V → St → Hp → Prop) (h0 : Pv 0 [] σ0 H) (hl : ∀ i ys σ H, i ≤ xs.length → Pv i ys σ H → SqL K H a xs ∧ ys.length ≤ sizeLine)
    (hs : ∀ i x ys σ H, xs[i]? = some x → Pv i ys σ H → g x σ H fun σ3 H3 => tc σ3 H3 fun b H4 => if b = true then te σ3 H4 fun y H5 => Pv (i + 1) (ys ++ [y]) σ3 H5 else Pv (i + 1) ys σ3 H4)
    (hd : ∀ ys σ H, Pv xs.length ys σ H → fin ys H) : CompW (Itl K a) g tc te fin σ0 H := by
  refine ⟨fun i m ys σ H => m = xs.length - i ∧ i ≤ xs.length ∧ Pv i ys σ H, ⟨xs.length, by simp, Nat.zero_le _, h0⟩, ?_⟩
  rintro i m ys σ H ⟨rfl, hi, p⟩
  obtain ⟨q, hz⟩ := hl i ys σ H hi p
  by_cases hlt : i < xs.length
  · refine .inr ⟨⟨xs, xs[i], q, by simp [hlt]⟩, Pv (i + 1), fun ys2 σ2 H2 p' => ⟨(hl (i + 1) ys2 σ2 H2 hlt p').2, xs.length - (i + 1), by omega, rfl, hlt, p'⟩, fun x H2 y => ?_⟩
    obtain ⟨e, y⟩ := y
    subst e
    exact hs i x ys σ _ (y xs q) p
  · have e : i = xs.length := by omega
    subst e
    exact .inl ⟨⟨xs, q, Nat.le_refl _⟩, hz, hd ys σ H p⟩
theorem comp_range {σ0 : St} {lo : Int} {n : Nat} (Pv : Nat → List V → St → Hp → Prop) (h0 : Pv 0 [] σ0 H) (hl : ∀ i ys σ H, i ≤ n → Pv i ys σ H → ys.length ≤ sizeLine)
    (hs : ∀ i ys σ H, i < n → Pv i ys σ H → g (.int (lo + i)) σ H fun σ3 H3 => tc σ3 H3 fun b H4 => if b = true then te σ3 H4 fun y H5 => Pv (i + 1) (ys ++ [y]) σ3 H5 else Pv (i + 1) ys σ3 H4)
    (hd : ∀ ys σ H, Pv n ys σ H → fin ys H) : CompW (Itr lo n) g tc te fin σ0 H := by
  refine ⟨fun i m ys σ H => m = n - i ∧ i ≤ n ∧ Pv i ys σ H, ⟨n, by simp, Nat.zero_le _, h0⟩, ?_⟩
  rintro i m ys σ H ⟨rfl, hi, p⟩
  by_cases hlt : i < n
  · refine .inr ⟨hlt, Pv (i + 1), fun ys2 σ2 H2 p' => ⟨hl (i + 1) ys2 σ2 H2 hlt p', n - (i + 1), by omega, rfl, hlt, p'⟩, fun x H2 y => ?_⟩
    obtain ⟨e, y⟩ := y
    subst e y
    exact hs i ys σ _ hlt p
  · have e : i = n := by omega
    subst e
    exact .inl ⟨Nat.le_refl _, hl _ ys σ H hi p, hd ys σ H p⟩
end
end L3
namespace L3
open PySem PySem.Spec PyProof.Rows L2 PySem.SeqAt


theorem look_new {H : Hp} {p q : Addr} {o u : HO} (hq : H q = some u) (hp : H p = none) : upd H p o q = some u := by
  rw [upd_ne (ne_of_none hq hp)]; exact hq
theorem same_new {H : Hp} {p : Addr} {o : HO} (h : H p = none) : Same H (upd H p o) := fun b u q => look_new q h
theorem same_upd {H H1 : Hp} {p : Addr} {o : HO} (s : Same H H1) (h : H p = none) : Same H (upd H1 p o) := fun b u q => by
  rw [upd_ne (ne_of_none q h)]; exact s b u q
mutual
def Dp (K : PySem.W.Frag) (H : Hp) : PyData → V → Prop
  | .none, v => v = .non
  | .bool b, v => v = .bl b
  | .int i, v => v = .int i
  | .str x, v => v = .str x
  | .list ds, v => ∃ a xs, v = .ref a ∧ SqL K H a xs ∧ DpAll K H ds xs
  | .tuple ds, v => ∃ a xs, v = .ref a ∧ SqT K H a xs ∧ DpAll K H ds xs
  | .dict _, _ => False
def DpAll (K : PySem.W.Frag) (H : Hp) : List PyData → List V → Prop
  | [], vs => vs = []
  | d :: ds, vs => ∃ v r, vs = v :: r ∧ Dp K H d v ∧ DpAll K H ds r
end
section
variable {X : Cx} {pins : List (Addr × Obj)} {σ : St} {H : Hp} {s : Shared}
mutual
theorem dp_reads (I : Inv X pins σ H s) : ∀ (d : PyData) (v : V) (u : Value), Dp X.K H d v → RelV v u → ∃ as, Reads s.heap u d as
  | .none, v, u, h, r => by
    rw [Dp] at h; subst h; cases (show u = Value.none from r); exact ⟨_, .none⟩
  | .bool b, v, u, h, r => by
    rw [Dp] at h; subst h; cases (show u = Value.bool b from r); exact ⟨_, .bool b⟩
  | .int i, v, u, h, r => by
    rw [Dp] at h; subst h; obtain ⟨t, e⟩ := (show ∃ t, u = Value.int i t from r); subst e; exact ⟨_, .int i t⟩
  | .str x, v, u, h, r => by
    rw [Dp] at h; subst h; obtain ⟨t, e⟩ := (show ∃ t, u = Value.str x t from r); subst e; exact ⟨_, .str x t⟩
  | .list ds, v, u, h, r => by
    rw [Dp] at h
    obtain ⟨a, xs, e, hq, ha⟩ := h
    subst e
    cases (show u = Value.ref a from r)
    obtain ⟨its, rv, pl, hz⟩ := I.list hq
    obtain ⟨o, ho, hc, n, hd⟩ := pl.isList
    obtain ⟨as, z⟩ := dpAll_reads I ds xs its ha rv
    exact ⟨_, .list ho hc hd (by simpa using z)⟩
  | .tuple ds, v, u, h, r => by
    rw [Dp] at h
    obtain ⟨a, xs, e, hq, ha⟩ := h
    subst e
    cases (show u = Value.ref a from r)
    obtain ⟨its, rv, pl, hz⟩ := I.tuple hq
    obtain ⟨o, ho, hc, n, hd⟩ := pl
    obtain ⟨as, z⟩ := dpAll_reads I ds xs its ha rv
    exact ⟨_, .tuple ho hc hd (by simpa using z)⟩
  | .dict _, v, u, h, r => by rw [Dp] at h; exact h.elim
theorem dpAll_reads (I : Inv X pins σ H s) : ∀ (ds : List PyData) (vs : List V) (us : List Value), DpAll X.K H ds vs → Vals vs us → ∃ as, ReadsAll s.heap us ds as
  | [], vs, us, h, r => by
    rw [DpAll] at h; subst h; cases r; exact ⟨_, .nil⟩
  | d :: ds, vs, us, h, r => by
    rw [DpAll] at h
    obtain ⟨v, rr, e, h1, h2⟩ := h
    subst e
    cases r with
    | cons r1 r2 =>
      obtain ⟨as, z1⟩ := dp_reads I d _ _ h1 r1
      obtain ⟨bs, z2⟩ := dpAll_reads I ds _ _ h2 r2
      exact ⟨_, .cons z1 z2⟩
end
end
def rEqD (K : PySem.W.Frag) : R2 := fun x y H Q => ∃ dx dy, Dp K H dx x ∧ Dp K H dy y ∧ shaped dx = true ∧ shaped dy = true ∧ Q (.bl (PyData.eqv dx dy)) H
def rNeD (K : PySem.W.Frag) : R2 := fun x y H Q => ∃ dx dy, Dp K H dx x ∧ Dp K H dy y ∧ shaped dx = true ∧ shaped dy = true ∧ Q (.bl (!PyData.eqv dx dy)) H

def rEqA (K : PySem.W.Frag) : R2 := fun x y H Q => rEq x y H Q ∨ rEqD K x y H Q
def rNeA (K : PySem.W.Frag) : R2 := fun x y H Q => rNe x y H Q ∨ rNeD K x y H Q
section
variable {X : Cx}
theorem op_eqD (hu : X.A.units + 64 < cLine) : OpR X (compareOp .Eq) (rEqD X.K) := by
  intro pins s σ H x y v u Q I rx ry h
  obtain ⟨dx, dy, hx, hy, sx, sy, q⟩ := h
  obtain ⟨as, ra⟩ := dp_reads I dx x v hx rx
  obtain ⟨bs, rb⟩ := dp_reads I dy y u hy ry
  exact eq_dataH ra rb sx sy hu ⟨.bl _, H, I, rfl, q⟩
theorem op_neD (hu : X.A.units + 64 < cLine) : OpR X (compareOp .NotEq) (rNeD X.K) := by
  intro pins s σ H x y v u Q I rx ry h
  obtain ⟨dx, dy, hx, hy, sx, sy, q⟩ := h
  obtain ⟨as, ra⟩ := dp_reads I dx x v hx rx
  obtain ⟨bs, rb⟩ := dp_reads I dy y u hy ry
  exact ne_dataH ra rb sx sy hu ⟨.bl _, H, I, rfl, q⟩
theorem op_eqA (hu : X.A.units + 64 < cLine) : OpR X (compareOp .Eq) (rEqA X.K) := op_eq.or (op_eqD hu)
theorem op_neA (hu : X.A.units + 64 < cLine) : OpR X (compareOp .NotEq) (rNeA X.K) := op_ne.or (op_neD hu)
end
theorem r_eqS {K : PySem.W.Frag} {x y : V} {H : Hp} {Q : VK} (h : scal x y = true) (q : Q (.bl (decide (x = y))) H) : rEqA K x y H Q := .inl ⟨h, q⟩
theorem r_neS {K : PySem.W.Frag} {x y : V} {H : Hp} {Q : VK} (h : scal x y = true) (q : Q (.bl (!decide (x = y))) H) : rNeA K x y H Q := .inl ⟨h, q⟩
def clsOf : V → Value
  | .ty n => .type n
  | .ref a => .ref a
  | _ => .none
theorem clsOf_eq {c : V} {u : Value} (r : RelV c u) (h : clsOf c ≠ .none) : u = clsOf c := by
  cases c <;> first | exact r | exact (h rfl).elim
def rIsi (K : PySem.W.Frag) : List V → Hp → VK → Prop := fun xs H Q => ∃ x c t b, xs = [x, c] ∧ clsOf c ≠ .none ∧ TyOf K H x t ∧ PySem.W.kitOne K t (clsOf c) = some b ∧ Q (.bl b) H
theorem call_isi {X : Cx} : CallR X (.builtin "isinstance") (rIsi X.K) := by
  intro pins s σ H xs us Q I r h
  obtain ⟨x, c, t, b, rfl, hc, ty, e, q⟩ := h
  obtain ⟨u, w', rfl, rx, rc⟩ := vals2 r
  cases clsOf_eq rc hc
  exact isinst_ok I rx ty e fun tk => ⟨.bl b, H, I.tok _, rfl, q⟩
theorem r_isi {K : PySem.W.Frag} {x c : V} {H : Hp} {Q : VK} {t : Value} {b : Bool} (hc : clsOf c ≠ .none) (ty : TyOf K H x t) (e : PySem.W.kitOne K t (clsOf c) = some b) (q : Q (.bl b) H) : rIsi K [x, c] H Q := ⟨x, c, t, b, rfl, hc, ty, e, q⟩


theorem bool_index : typeLookup (.type "bool") "__index__" = pure (some (.builtin "int.__index__")) := by rw [typeLookup_type, builtinLookup_eq_fast]; kernel_rfl
theorem listSubscript_bool {M : Model} {A : Around} {E : Value → Shared → Prop} {s : Shared} {b : Bool} {Q : Option Int → Shared → Prop} (h : Q (some (if b then 1 else 0)) s) :
    wpAny M A (Builtin.List.listSubscript? (.bool b)) Q E s := by
  unfold Builtin.List.listSubscript?
  refine wpAny_bind (wpAny_specialOf (T := "bool") (show s.TypeIs (.bool b) "bool" from rfl) bool_index ?_)
  show wpAny M A (asIndex (.bool b) >>= _) Q E s
  refine wpAny_bind (wpAny_of_eq (a := if b then 1 else 0) rfl ?_)
  show wpAny M A (if (!Builtin.List.listFitsIndex (if b then 1 else 0)) = true then _ else _) Q E s
  rw [if_neg (by cases b <;> decide)]
  exact wpAny_pure h
theorem getItem_list_bool {prog : Program} {w : World} {A : Around} {E : Value → Shared → Prop} {s : Shared} {l : Addr} {items : Array Value} {b : Bool} {x : Value} {Q : Value → Shared → Prop} (hl : s.heap.IsList l items)
    (hx : items[if b then 1 else 0]? = some x) (h : Q x s) : wpAny (model prog w) A (getItem (.ref l) (.bool b)) Q E s := by
  obtain ⟨o, ho, hc, ne, hd⟩ := id hl
  unfold getItem
  try with_reducible refine wpAny_holding ?_
  first | refine wpAny_bind (wpAny_pure ?_) | skip
  refine wpAny_bind (wpAny_sequenceKey hl.typeIs (by decide) ?_)
  refine wpAny_bind (wpAny_callSpecial?_slot (name := Str.ofString "__getitem__") hl.typeIs slot_list_getitem
    (wpAny_call_entry slot_list_getitem hl.typeIs entry_list_getitem ?_ (args_list_getitem _ _)))
  show wpAny _ _ (Builtin.List.listSubscript? (.bool b) >>= _) _ _ s
  refine wpAny_bind (listSubscript_bool ?_)
  cases b with
  | true =>
    have hx' : items[1]? = some x := hx
    show wpAny _ _ ((seqItemAt l 1 >>= fun r => pure (r.map (1, ·))) >>= _) _ _ s
    refine wpAny_bind (wpAny_bind (wpAny_seqItemAt ho hd (wpAny_pure ?_)))
    rw [hx']
    first
      | exact wpAny_bind (wpAny_pure (wpAny_pure ⟨x, rfl, wpAny_pure h⟩))
      | exact wpAny_pure ⟨x, rfl, wpAny_pure h⟩
  | false =>
    have hx' : items[0]? = some x := hx
    show wpAny _ _ ((seqItemAt l 0 >>= fun r => pure (r.map (0, ·))) >>= _) _ _ s
    refine wpAny_bind (wpAny_bind (wpAny_seqItemAt ho hd (wpAny_pure ?_)))
    rw [hx']
    first
      | exact wpAny_bind (wpAny_pure (wpAny_pure ⟨x, rfl, wpAny_pure h⟩))
      | exact wpAny_pure ⟨x, rfl, wpAny_pure h⟩
def rIxB (K : PySem.W.Frag) : R2 := fun x y H Q => ∃ p xs b v, x = .ref p ∧ y = .bl b ∧ SqL K H p xs ∧ xs[if b then 1 else 0]? = some v ∧ Q v H
theorem ix_bool {X : Cx} : IxR X (rIxB X.K) := by
  intro value slice pins s σ H x y v u Q I rx ry h hs
  obtain ⟨p, xs, b, z, rfl, rfl, hq, he, q⟩ := h
  cases rx
  cases ry
  obtain ⟨its, r, pl, hz⟩ := I.list hq
  obtain ⟨w, ew, rw'⟩ := r.get he
  exact subscriptTail_builtinR (x := w) pl.isList.typeIs slot_list_getitem.lookup
    (getItem_list_bool (Q := fun r s' => r = w ∧ EP X pins σ Q r s') pl.isList (by simpa using ew) ⟨rfl, z, H, I, rw', q⟩) hs

def rIxA (K : PySem.W.Frag) : R2 := fun x y H Q => rIx K x y H Q ∨ rIxB K x y H Q
theorem ix_any {X : Cx} : IxR X (rIxA X.K) := ix_seq.or ix_bool
theorem r_ixL {K : PySem.W.Frag} {p : Addr} {xs : List V} {i : Int} {v : V} {H : Hp} {Q : VK} (h : SqL K H p xs) (e : atI xs i = some v) (q : Q v H) : rIxA K (.ref p) (.int i) H Q := .inl (.inl ⟨p, xs, i, v, rfl, rfl, h, e, q⟩)
theorem r_ixB {K : PySem.W.Frag} {p : Addr} {xs : List V} {b : Bool} {v : V} {H : Hp} {Q : VK} (h : SqL K H p xs) (e : xs[if b then 1 else 0]? = some v) (q : Q v H) : rIxA K (.ref p) (.bl b) H Q := .inr ⟨p, xs, b, v, rfl, rfl, h, e, q⟩


def rStr : R2 := fun x y H Q => ∃ i j, x = .str i ∧ y = .str j ∧ i.length + j.length ≤ sizeLine ∧ Q (.str (i ++ j)) H
def rPlus (K : PySem.W.Frag) : R2 := fun x y H Q => rI0 (fun i j => .int (i + j)) x y H Q ∨ rCat x y H Q ∨ rCatT K x y H Q ∨ rStr x y H Q
theorem op_plus {X : Cx} : OpR X (binaryOp .Add) (rPlus X.K) := op_add.or (op_cat.or (op_catT.or op_add_str))
theorem r_plusI {K : PySem.W.Frag} {i j : Int} {H : Hp} {Q : VK} (q : Q (.int (i + j)) H) : rPlus K (.int i) (.int j) H Q := .inl ⟨i, j, rfl, rfl, q⟩
def rTimes : R2 := fun x y H Q => rI CMul (fun i j => .int (i * j)) x y H Q ∨ rRep x y H Q
theorem op_times {X : Cx} : OpR X (binaryOp .Mult) rTimes := op_mul.or op_rep
theorem r_timesI {i j : Int} {H : Hp} {Q : VK} (h : CMul i j) (q : Q (.int (i * j)) H) : rTimes (.int i) (.int j) H Q := .inl ⟨i, j, rfl, rfl, h, q⟩
structure FnE (P : Program) (w : World) (K : PySem.W.Frag) (mg : Str → Option Value) (base : Heap) (CX : CXT) (k : Nat) (x : Str) (sp : Sp) : Prop where
  ex : ∃ (f : Addr) (fd : FuncData) (ps : List Str), FnOk P w K mg base CX k f fd ps sp ∧ mg x = some (.ref f) ∧ PySem.W.keepIn K (.ref f) = true ∧ Binds K fd ps []
structure MethE (P : Program) (w : World) (K : PySem.W.Frag) (mg : Str → Option Value) (base : Heap) (CX : CXT) (k : Nat) (C : Addr) (m : Str) (sp : Sp) : Prop where
  cl : Cls K C
  ex : ∃ (f : Addr) (fd : FuncData) (ps : List Str), Meth K C m f ∧ FnOk P w K mg base CX k f fd ps sp ∧ Binds K fd ps []
structure MkE (P : Program) (w : World) (K : PySem.W.Frag) (mg : Str → Option Value) (base : Heap) (CX : CXT) (k : Nat) (x : Str) (C : Addr) (sp : Sp) : Prop where
  ex : ∃ (f : Addr) (fd : FuncData) (ps : List Str), Mk K C f ∧ FnOk P w K mg base CX k f fd ps sp ∧ mg x = some (.ref C) ∧ Binds K fd ps []
theorem MethE.mono {P : Program} {w : World} {K : PySem.W.Frag} {mg : Str → Option Value} {base : Heap} {CX : CXT} {j k : Nat} {C : Addr} {m : Str} {sp : Sp} (M : MethE P w K mg base CX j C m sp) (h : j ≤ k) : MethE P w K mg base CX k C m sp := by
  obtain ⟨f, fd, ps, a, b, c⟩ := M.ex
  exact ⟨M.cl, f, fd, ps, a, b.mono h, c⟩
def tCallE (sp : Sp) (E : XK) (t : TA) : TE := fun σ H Q => t σ H fun vs H1 => sp vs H1 Q E
def tMakeE (C : Addr) (sp : Sp) (E : XK) (t : TA) : TE := fun σ H Q => t σ H fun vs H1 => ∀ x dx, H1 x = none → H1 dx = none → dx ≠ x →
  sp (.ref x :: vs) (upd (upd H1 dx (.own x)) x (.ins C dx [])) (fun v H2 => v = .non ∧ Q (.ref x) H2) E
def tMethE (P : Program) (w : World) (K : PySem.W.Frag) (mg : Str → Option Value) (base : Heap) (CX : CXT) (k : Nat) (m : Str) (E : XK) (ta : TE) (t : TA) : TE := fun σ H Q => ta σ H fun x H1 =>
  ∃ a C dx fs sp, x = .ref a ∧ H1 a = some (.ins C dx fs) ∧ fs.lookup m = none ∧ MethE P w K mg base CX k C m sp ∧ t σ H1 fun vs H2 => sp (.ref a :: vs) H2 Q E
section
variable {X : Cx} {CX : CXT} {k : Nat} {C : Addr} {sp : Sp} {E : XK} {x m : Str} {p pos apos : Pos} {e o : Expr} {es : List Expr} {ta : TE} {t : TA}
theorem pe_callE (G : FnE X.prog X.w X.K X.mg X.base CX k x sp) (hr : Room k X.A) (hx : Passes CX X E) (hg : Gl X x) (ha : PA X (e :: es) t) (hdb : (x == ("__debug__" : Str)) = false := by decide)
    (he : starEach (e :: es) X.env = (false, eval e X.env) :: starEach es X.env := by rfl) (hpl : (backTo pos (starEach es X.env)).any (·.1) = false := by rfl) : PE X (.Call (.Name x p) (e :: es) [] pos) (tCallE sp E t) := by
  obtain ⟨f, fd, ps, F, hm, hk, hb⟩ := G.ex
  have z := pe_call (p := p) (pos := pos) F hr hg hm hk hb .nil hx ha hdb he hpl
  intro pins s σ H Q I h
  refine z pins s σ H Q I ?_
  have e1 : tCall sp [] E t = tCallE sp E t := by
    funext σ H Q
    show t σ H (fun vs H1 => sp (vs ++ []) H1 Q E) = t σ H (fun vs H1 => sp vs H1 Q E)
    simp only [List.append_nil]
  rw [e1]; exact h
theorem pe_makeE (G : MkE X.prog X.w X.K X.mg X.base CX k x C sp) (hr : Room (k + 1) X.A) (hx : Passes CX X E) (hg : Gl X x) (ha : PA X (e :: es) t) (hdb : (x == ("__debug__" : Str)) = false := by decide)
    (he : starEach (e :: es) X.env = (false, eval e X.env) :: starEach es X.env := by rfl) (hpl : (backTo pos (starEach es X.env)).any (·.1) = false := by rfl) : PE X (.Call (.Name x p) (e :: es) [] pos) (tMakeE C sp E t) := by
  obtain ⟨f, fd, ps, M, F, hm, hb⟩ := G.ex
  have z := pe_make (p := p) (pos := pos) M F hr hg hm hb .nil hx ha hdb he hpl
  intro pins s σ H Q I h
  refine z pins s σ H Q I ?_
  have e1 : tMake C sp [] E t = tMakeE C sp E t := by
    funext σ H Q
    show t σ H (fun vs H1 => ∀ x dx, H1 x = none → H1 dx = none → dx ≠ x → sp (.ref x :: (vs ++ [])) _ _ E) = t σ H (fun vs H1 => ∀ x dx, H1 x = none → H1 dx = none → dx ≠ x → sp (.ref x :: vs) _ _ E)
    simp only [List.append_nil]
  rw [e1]; exact h
theorem pe_methE {pl : Sem Bool} (he : PE X o ta) (hr : Room k X.A) (hx : Passes CX X E) (ha : PA X (e :: es) t)
    (hst : starEach (e :: es) X.env = (false, eval e X.env) :: starEach es X.env := by rfl) (hpl : (backTo pos (starEach es X.env)).any (·.1) = false := by rfl)
    (ht : eval (.Call (.Attribute o m apos) (e :: es) [] pos) X.env = (do
      let ov ← eval o X.env
      standAt apos.atName
      let (f, first) ← holding [ov] (getMethod ov m pl)
      callWith pos f first (backTo pos (starEach (e :: es) X.env)) (backToKw pos (keywordEach [] X.env))) := by rfl) :
    PE X (.Call (.Attribute o m apos) (e :: es) [] pos) (tMethE X.prog X.w X.K X.mg X.base CX k m E ta t) := by
  intro pins s σ H Q I h
  refine PySem.W.methodCall_KW (pl := pl) (thn (he pins s σ H _ I h) fun u s1 ⟨x, H1, I1, rx, a, C, dx, fs, sp, ex, ea, l, M, q⟩ => ?_) ht
  subst ex
  obtain rfl : u = Value.ref a := rx
  obtain ⟨f, fd, ps, hm, F, hb⟩ := M.ex
  refine getmeth_ok I1 ea M.cl hm l ?_
  refine PySem.W.callWith_K (first := [.ref a]) (h₀ := X.base) I.ok.mod.kin hm.kp (thn (ha pos pins s1 σ H1 _ I1 q) fun us s2 ⟨vs, H2, I2, r, q2⟩ => ⟨I2.kIn, ?_⟩) hst hpl
  exact run_fn (us := .ref a :: us) (vs := .ref a :: vs) F hr hb .nil hx I2 (.cons rfl r) (by rw [List.append_nil]; exact q2)
end


theorem b_len : bootBuiltins "len" = some (.builtin "len") := by decide +kernel
theorem b_isinstance : bootBuiltins "isinstance" = some (.builtin "isinstance") := by decide +kernel
theorem b_sum : bootBuiltins "sum" = some (.builtin "sum") := by decide +kernel
theorem b_int : bootBuiltins "int" = some (.type "int") := by decide +kernel
theorem b_bool : bootBuiltins "bool" = some (.type "bool") := by decide +kernel
def rFld (K : PySem.W.Frag) (f : Str) : V → Hp → VK → Prop := fun x H1 Q => ∃ a C dx fs v, x = .ref a ∧ H1 a = some (.ins C dx fs) ∧ Cls K C ∧ NoAttr K C f ∧ fs.lookup f = some v ∧ Q v H1
def rMeth (P : Program) (w : World) (K : PySem.W.Frag) (mg : Str → Option Value) (base : Heap) (CX : CXT) (k : Nat) (m : Str) (E : XK) (σ : St) (t : TA) : V → Hp → VK → Prop := fun x H1 Q =>
  ∃ a C dx fs sp, x = .ref a ∧ H1 a = some (.ins C dx fs) ∧ fs.lookup m = none ∧ MethE P w K mg base CX k C m sp ∧ t σ H1 fun vs H2 => sp (.ref a :: vs) H2 Q E
def sFldV (K : PySem.W.Frag) (f : Str) (y : V) (D : Ends) (σ : St) : V → Hp → Prop := fun x H2 => ∃ a C dx fs, x = .ref a ∧ H2 a = some (.ins C dx fs) ∧ Cls K C ∧ NoAttr K C f ∧ fs.length < 1000 ∧ D.nx σ (upd H2 a (.ins C dx (putF f y fs)))
def rLen (K : PySem.W.Frag) : List V → Hp → VK → Prop := fun xs H Q => ∃ x n, xs = [x] ∧ LenV K x H n ∧ Q (.int n) H
theorem call_lenA {X : Cx} : CallR X (.builtin "len") (rLen X.K) := call_len
theorem r_lenL {K : PySem.W.Frag} {p : Addr} {xs : List V} {H : Hp} {Q : VK} (h : SqL K H p xs) (q : Q (.int xs.length) H) : rLen K [.ref p] H Q := ⟨.ref p, xs.length, rfl, .inl ⟨xs, h, rfl⟩, q⟩
def rTru (K : PySem.W.Frag) (x : V) (H : Hp) (Q : Bool → Hp → Prop) : Prop := ∃ k, TruV K x H k ∧ Q k H
theorem r_truI {K : PySem.W.Frag} {i : Int} {H : Hp} {Q : Bool → Hp → Prop} (q : Q (i != 0) H) : rTru K (.int i) H Q := ⟨_, rfl, q⟩
theorem sql_new {K : PySem.W.Frag} {H : Hp} {a p : Addr} {xs : List V} {o : HO} (h : SqL K H a xs) (hp : H p = none) : SqL K (upd H p o) a xs := Same.seq (same_new hp) h
theorem same_at {H H' : Hp} {q : Addr} {u : HO} (s : Same H H') (h : H q = some u) : H' q = some u := s _ _ h
theorem r_append {l : Addr} {xs : List V} {y : V} {H : Hp} {Q : VK} (h : H l = some (.lst xs)) (z : xs.length < sizeLine) (q : Q .non (upd H l (.lst (xs ++ [y])))) : rAppend (.ref l) [y] H Q := ⟨l, xs, y, rfl, rfl, h, z, q⟩
theorem ty_list {K : PySem.W.Frag} {H : Hp} {p : Addr} {xs : List V} (h : H p = some (.lst xs)) : tyV K "list" (.ref p) H := .inl ⟨rfl, xs, SqL.of h⟩

def iSeq (K : PySem.W.Frag) (tl : TE) : TI := fun σ H R => tl σ H fun x H1 => ∃ a, x = .ref a ∧ (((∃ xs, SqL K H1 a xs) ∧ R (Itl K a) H1) ∨ ((∃ xs, SqT K H1 a xs) ∧ R (Itt K a) H1))
theorem r_iSeq {K : PySem.W.Frag} {tl : TE} {σ : St} {H : Hp} {R : It → Hp → Prop} (q : tl σ H fun x H1 => ∃ a, x = .ref a ∧ (((∃ xs, SqL K H1 a xs) ∧ R (Itl K a) H1) ∨ ((∃ xs, SqT K H1 a xs) ∧ R (Itt K a) H1))) : iSeq K tl σ H R := q
theorem r_rng1 {ta : TA} {σ : St} {H : Hp} {R : It → Hp → Prop} (q : ta σ H fun vs H1 => ∃ j : Int, vs = [.int j] ∧ -(2 ^ 62) ≤ j ∧ j < 2 ^ 62 ∧ R (Itr 0 j.toNat) H1) : iRng1 ta σ H R := q
theorem pi_seq {X : Cx} {tg l : Expr} {tl : TE} (hl : PE X l tl) : PI X tg l (iSeq X.K tl) := by
  intro pins s σ H R I h
  refine thn (hl pins s σ H _ I h) fun v s1 ⟨x, H1, I1, r1, q1⟩ => ?_
  obtain ⟨a, e, hq⟩ := q1
  subst e
  cases r1
  rcases hq with ⟨⟨xs, hq⟩, q⟩ | ⟨⟨xs, hq⟩, q⟩
  · obtain ⟨its, rv, p, hz⟩ := I1.list hq
    refine wpAny_pyIter_list p.isList ?_
    refine ⟨s1.heap.objs.size, [s1.heap.objs.size], _, _, H1, rfl, I1.kept (t' := s1.toks) fun b o e => Heap.get?_push_of_some _ e, turn_list a _, ⟨_, Heap.get?_push_size _ rfl, rfl, rfl⟩, fun b hb => ?_, q⟩
    have e : b = s1.heap.objs.size := by simpa using hb
    subst e
    exact I1.fpOk (Nat.le_refl _) (I1.hok.fresh (Nat.le_refl _))
  · obtain ⟨its, rv, p, hz⟩ := I1.tuple hq
    refine wpAny_pyIter_tuple (show s1.heap.IsTuple a its.toArray from p) ?_
    refine ⟨s1.heap.objs.size, [s1.heap.objs.size], _, _, H1, rfl, I1.kept (t' := s1.toks) fun b o e => Heap.get?_push_of_some _ e, turn_tuple a _, ⟨_, Heap.get?_push_size _ rfl, rfl, rfl⟩, fun b hb => ?_, q⟩
    have e : b = s1.heap.objs.size := by simpa using hb
    subst e
    exact I1.fpOk (Nat.le_refl _) (I1.hok.fresh (Nat.le_refl _))
section
variable {σ : St} {H : Hp} {Q : VK}
theorem r_var {i : Nat} {v : V} (h : σ[i]? = some (some v)) (q : Q v H) : tVar i σ H Q := ⟨v, h, q⟩
theorem r_c {v : V} (q : Q v H) : tC v σ H Q := q
theorem r_op {r : R2} {ta tb : TE} (q : ta σ H fun x H1 => tb σ H1 fun y H2 => r x y H2 Q) : tOp r ta tb σ H Q := q
theorem r_un {r : V → Hp → VK → Prop} {ta : TE} (q : ta σ H fun x H1 => r x H1 Q) : tUn r ta σ H Q := q
theorem r_U {g : Int → V} {i : Int} (q : Q (g i) H) : rU g (.int i) H Q := ⟨i, rfl, q⟩
theorem r_I0 {g : Int → Int → V} {i j : Int} (q : Q (g i j) H) : rI0 g (.int i) (.int j) H Q := ⟨i, j, rfl, rfl, q⟩
theorem r_I {C : Int → Int → Prop} {g : Int → Int → V} {i j : Int} (h : C i j) (q : Q (g i j) H) : rI C g (.int i) (.int j) H Q := ⟨i, j, rfl, rfl, h, q⟩
theorem r_cb {r : List V → Hp → VK → Prop} {t : TA} (q : t σ H fun vs H1 => r vs H1 Q) : tCB r t σ H Q := q
theorem r_callE {sp : Sp} {E : XK} {t : TA} (q : t σ H fun vs H1 => sp vs H1 Q E) : tCallE sp E t σ H Q := q
theorem r_makeE {C : Addr} {sp : Sp} {E : XK} {t : TA} (q : t σ H fun vs H1 => ∀ x dx, H1 x = none → H1 dx = none → dx ≠ x → sp (.ref x :: vs) (upd (upd H1 dx (.own x)) x (.ins C dx [])) (fun v H2 => v = .non ∧ Q (.ref x) H2) E) : tMakeE C sp E t σ H Q := q
theorem r_methE {P : Program} {w : World} {K : PySem.W.Frag} {mg : Str → Option Value} {base : Heap} {CX : CXT} {k : Nat} {m : Str} {E : XK} {ta : TE} {t : TA} (q : ta σ H fun x H1 => rMeth P w K mg base CX k m E σ t x H1 Q) : tMethE P w K mg base CX k m E ta t σ H Q := q
theorem r_methV {P : Program} {w : World} {K : PySem.W.Frag} {mg : Str → Option Value} {base : Heap} {CX : CXT} {k : Nat} {m : Str} {E : XK} {t : TA} {p C dx : Addr} {fs : List (Str × V)} {sp : Sp} (h : H p = some (.ins C dx fs)) (l : fs.lookup m = none) (M : MethE P w K mg base CX k C m sp)
    (q : t σ H fun vs H2 => sp (.ref p :: vs) H2 Q E) : rMeth P w K mg base CX k m E σ t (.ref p) H Q := ⟨p, C, dx, fs, sp, rfl, h, l, M, q⟩
theorem r_fld {K : PySem.W.Frag} {ta : TE} {f : Str} (q : ta σ H fun x H1 => rFld K f x H1 Q) : tFld K ta f σ H Q := q
theorem r_fldV {K : PySem.W.Frag} {f : Str} {p C dx : Addr} {fs : List (Str × V)} {v : V} (h : H p = some (.ins C dx fs)) (c : Cls K C) (n : NoAttr K C f) (l : fs.lookup f = some v) (q : Q v H) : rFld K f (.ref p) H Q := ⟨p, C, dx, fs, v, rfl, h, c, n, l, q⟩
theorem r_tup {t : TA} (q : t σ H fun xs H1 => xs.length ≤ sizeLine ∧ ∀ p, H1 p = none → Q (.ref p) (upd H1 p (.tup xs))) : tTup t σ H Q := q
theorem r_lst {t : TA} (q : t σ H fun xs H1 => xs.length ≤ sizeLine ∧ ∀ p, H1 p = none → Q (.ref p) (upd H1 p (.lst xs))) : tLst t σ H Q := q
theorem r_andV {ta tb : TE} (q : ta σ H fun x H1 => ∃ c, x = .bl c ∧ if c = true then tb σ H1 Q else Q (.bl false) H1) : tAndV ta tb σ H Q := q
theorem r_notV {ta : TE} (q : ta σ H fun x H1 => ∃ c, x = .bl c ∧ Q (.bl (!c)) H1) : tNotV ta σ H Q := q
theorem r_bm {K : PySem.W.Frag} {T : String} {r : V → List V → Hp → VK → Prop} {to : TE} {t : TA} (q : to σ H fun x H1 => tyV K T x H1 ∧ t σ H1 fun xs H2 => r x xs H2 Q) : tBM K T r to t σ H Q := q
end
section
variable {σ : St} {H : Hp} {Q : List V → Hp → Prop}
theorem r_nil (q : Q [] H) : tNil σ H Q := q
theorem r_cons {ta : TE} {tr : TA} (q : ta σ H fun x H1 => tr σ H1 fun xs H2 => Q (x :: xs) H2) : tCons ta tr σ H Q := q
end
section
variable {σ : St} {H : Hp} {Q : Option Int → Hp → Prop}
end
section
variable {σ : St} {H : Hp} {Q : Bool → Hp → Prop}
theorem r_test {t : TE} (q : t σ H fun x H' => ∃ k, x = .bl k ∧ Q k H') : tTest t σ H Q := q
theorem r_or {t u : TT} (q : t σ H fun c H1 => if c = true then Q true H1 else u σ H1 Q) : tOr t u σ H Q := q
theorem r_true (q : Q true H) : tTrue σ H Q := q
def tTru (K : PySem.W.Frag) (ta : TE) : TT := fun σ H Q => ta σ H fun x H' => rTru K x H' Q
theorem pt_tru {X : Cx} {a : Expr} {ta : TE} (ha : PE X a ta) (he : ∀ whole, isTrue a X.env whole = (do let v ← whole; standAt a.pos; holding [v] (truthy v)) := by intro _; rfl) : PT X a (tTru X.K ta) := pt_truth ha he
theorem r_tru {K : PySem.W.Frag} {ta : TE} (q : ta σ H fun x H' => rTru K x H' Q) : tTru K ta σ H Q := q
end
section
variable {D : Ends} {σ : St} {H : Hp}
theorem r_next (q : D.nx σ H) : tNext D σ H := q
theorem r_seq {t u : TS} (q : t { D with nx := u D } σ H) : tSeq t u D σ H := q
theorem r_ret {te : TE} (q : te σ H D.rt) : tRet te D σ H := q
theorem r_ifS {c : TT} {t u : TS} (q : c σ H fun b H1 => if b = true then t D σ H1 else u D σ H1) : tIfS c t u D σ H := q
theorem r_asg {te : TE} {g : TG} (q : te σ H fun x H1 => g x σ H1 D.nx) : tAsg te g D σ H := q
theorem r_drop {te : TE} (q : te σ H fun _ H1 => D.nx σ H1) : tDrop te D σ H := q
theorem r_sFld {K : PySem.W.Frag} {ta tv : TE} {f : Str} (q : tv σ H fun y H1 => ta σ H1 fun x H2 => sFldV K f y D σ x H2) : sFld K ta tv f D σ H := q
theorem r_sFldV {K : PySem.W.Frag} {f : Str} {y : V} {p C dx : Addr} {fs : List (Str × V)} (h : H p = some (.ins C dx fs)) (c : Cls K C) (n : NoAttr K C f) (l : fs.length < 1000) (q : D.nx σ (upd H p (.ins C dx (putF f y fs)))) : sFldV K f y D σ (.ref p) H := ⟨p, C, dx, fs, rfl, h, c, n, l, q⟩
end
theorem ifDec {c A B : Prop} [Decidable c] (h1 : c → A) (h2 : ¬ c → B) : if decide c = true then A else B := by
  by_cases h : c
  · rw [if_pos (decide_eq_true h)]; exact h1 h
  · rw [if_neg (by rw [decide_eq_false h]; exact Bool.false_ne_true)]; exact h2 h
theorem ifDecN {c A B : Prop} [Decidable c] (h1 : ¬ c → A) (h2 : c → B) : if (!decide c) = true then A else B := by
  by_cases h : c
  · rw [if_neg (by rw [decide_eq_true h]; decide)]; exact h2 h
  · rw [if_pos (by rw [decide_eq_false h]; rfl)]; exact h1 h
theorem ifInt {a b : Int} {A B : Prop} (h1 : a = b → A) (h2 : a ≠ b → B) : if decide (V.int a = V.int b) = true then A else B :=
  ifDec (fun e => h1 (by cases e; rfl)) fun e => h2 fun z => e (by rw [z])
theorem ifIntN {a b : Int} {A B : Prop} (h1 : a ≠ b → A) (h2 : a = b → B) : if (!decide (V.int a = V.int b)) = true then A else B :=
  ifDecN (fun e => h1 fun z => e (by rw [z])) fun e => h2 (by cases e; rfl)
end L3
namespace L3
open PySem PySem.Spec PyProof.Rows L2
section
variable {P : Program} {w : World} {K : PySem.W.Frag} {mg : Str → Option Value} {base : Heap} {x qual : Str} {st : Stmt} {N ps : List Str} {sp : Sp} {C : Addr}

def BodyOk (P : Program) (w : World) (K : PySem.W.Frag) (mg : Str → Option Value) (base : Heap) (k : Nat) (qual : Str) (st : Stmt) (N : List Str) (sp : Sp) : Prop :=
  ∀ (f : Addr) (cdv : Value) (A : Around) (outer : List Env) (s : Shared) (H : Hp) (vs : List V) (Q : VK) (E : XK), Room k (A.deeper (envOfC qual (defScope st) s.heap.objs.size f cdv)) → sp vs H Q E →
    ∃ t, PSs (cxOf CX0 P w K mg base N qual (defScope st) f cdv A outer s H E).nox (defBody st) t ∧ t { nx := fun _ H' => Q .non H', rt := Q } (start N vs) H
theorem fnE_of (k : Nat) (h : ∃ f fd, Fun K x qual st f fd ∧ mg x = some (.ref f) ∧ Binds K fd ps []) (S : FnScope N ps (defScope st)) (len : ∀ vs H Q E, sp vs H Q E → vs.length = ps.length)
    (hbody : BodyOk P w K mg base k qual st N sp) : FnE P w K mg base CX0 (k + 1) x sp := by
  obtain ⟨f, fd, F, hm, hb⟩ := h
  exact ⟨f, fd, ps, F.ok S len (hbody f), hm, F.kp, hb⟩
theorem methE_of (k : Nat) (c : Cls K C) (h : ∃ f fd, Fun K x qual st f fd ∧ Meth K C x f ∧ Binds K fd ps []) (S : FnScope N ps (defScope st)) (len : ∀ vs H Q E, sp vs H Q E → vs.length = ps.length)
    (hbody : BodyOk P w K mg base k qual st N sp) : MethE P w K mg base CX0 (k + 1) C x sp := by
  obtain ⟨f, fd, F, hm, hb⟩ := h
  exact ⟨c, f, fd, ps, hm, F.ok S len (hbody f), hb⟩
theorem mkE_of {y : Str} (k : Nat) (hy : mg y = some (.ref C)) (h : ∃ f fd, Fun K "__init__" qual st f fd ∧ Mk K C f ∧ Binds K fd ps []) (S : FnScope N ps (defScope st)) (len : ∀ vs H Q E, sp vs H Q E → vs.length = ps.length)
    (hbody : BodyOk P w K mg base k qual st N sp) : MkE P w K mg base CX0 (k + 1) y C sp := by
  obtain ⟨f, fd, F, hm, hb⟩ := h
  exact ⟨f, fd, ps, hm, F.ok S len (hbody f), hy, hb⟩
end
end L3

namespace L3
open PySem PySem.Spec PyProof.Rows L2 PySem.SeqAt

section
variable {X : Cx} {K : PySem.W.Frag}
theorem op_plusK (h : X.K = K) : OpR X (binaryOp .Add) (rPlus K) := by subst h; exact op_plus
theorem op_eqK (h : X.K = K) (hu : X.A.units + 64 < cLine) : OpR X (compareOp .Eq) (rEqA K) := by subst h; exact op_eqA hu
theorem op_neK (h : X.K = K) (hu : X.A.units + 64 < cLine) : OpR X (compareOp .NotEq) (rNeA K) := by subst h; exact op_neA hu
theorem op_inK (h : X.K = K) : OpR X (compareOp .In) (rIn K false) := by subst h; exact op_in_seq
theorem ix_K (h : X.K = K) : IxR X (rIxA K) := by subst h; exact ix_any
theorem pi_seqK {tg l : Expr} {tl : TE} (h : X.K = K) (hl : PE X l tl) : PI X tg l (iSeq K tl) := by subst h; exact pi_seq hl
theorem call_lenK (h : X.K = K) : CallR X (.builtin "len") (rLen K) := by subst h; exact call_lenA
theorem call_isiK (h : X.K = K) : CallR X (.builtin "isinstance") (rIsi K) := by subst h; exact call_isi
theorem pe_fldK {e : Expr} {f : Str} {pos : Pos} {ta : TE} (h : X.K = K) (he : PE X e ta) (hb : attributeBase e f X.env (eval e X.env) = eval e X.env := by rfl) : PE X (.Attribute e f pos) (tFld K ta f) := by subst h; exact pe_fld he hb
theorem ps_fldK {o value : Expr} {f : Str} {pos pos' : Pos} {ta tv : TE} (h : X.K = K) (ha : PE X o ta) (hv : PE X value tv) (hs : swapsWith value (some (.Attribute o f pos')) pos.line X.env = pure false := by rfl) :
    PS X (.Assign [.Attribute o f pos'] value pos) (sFld K ta tv f) := by subst h; exact ps_fld ha hv hs
theorem pt_truK {a : Expr} {ta : TE} (h : X.K = K) (ha : PE X a ta) (he : ∀ whole, isTrue a X.env whole = (do let v ← whole; standAt a.pos; holding [v] (truthy v)) := by intro _; rfl) : PT X a (tTru K ta) := by subst h; exact pt_tru ha he
theorem pe_bmK {o e : Expr} {es : List Expr} {to : TE} {t : TA} {name : Str} {apos cpos : Pos} {T id : String} {r : V → List V → Hp → VK → Prop} (h : X.K = K) (pa : PlainAttrs T) (slot : Slot T name id) (hty : typeOf (.builtin id) = pure (.type "method_descriptor")) (hm : MtR X id r) (ho : PE X o to) (ha : PA X (e :: es) t)
    (hbase : attributeBase o name X.env (eval o X.env) = eval o X.env := by rfl)
    (hfew : ((backTo cpos (starEach (e :: es) X.env)).all (fun x => !x.1) && (backToKw cpos (keywordEach [] X.env)).all (fun x => x.1.isSome)
      && decide ((e :: es).length + ([] : List Keyword).length + (if ([] : List Keyword).isEmpty then 0 else 1) < 30)) = true := by rfl)
    (hline : (apos.endLine == cpos.line) = true := by rfl) (hs : starEach (e :: es) X.env = (false, eval e X.env) :: starEach es X.env := by rfl) (hplain : (backTo cpos (starEach es X.env)).any (·.1) = false := by rfl) :
    PE X (.Call (.Attribute o name apos) (e :: es) [] cpos) (tBM K T r to t) := by subst h; exact pe_bm pa slot hty hm ho ha hbase hfew hline hs hplain
end
section
variable {X : Cx} {P : Program} {w : World} {K : PySem.W.Frag} {mg : Str → Option Value} {base : Heap} {CX : CXT} {k : Nat} {E : XK} {m : Str} {pos apos : Pos} {e o : Expr} {es : List Expr} {ta : TE} {t : TA}
theorem pe_methK {pl : Sem Bool} (hP : X.prog = P ∧ X.w = w ∧ X.K = K ∧ X.mg = mg ∧ X.base = base) (he : PE X o ta) (hr : Room k X.A) (hx : Passes CX X E) (ha : PA X (e :: es) t)
    (hst : starEach (e :: es) X.env = (false, eval e X.env) :: starEach es X.env := by rfl) (hpl : (backTo pos (starEach es X.env)).any (·.1) = false := by rfl)
    (ht : eval (.Call (.Attribute o m apos) (e :: es) [] pos) X.env = (do
      let ov ← eval o X.env
      standAt apos.atName
      let (f, first) ← holding [ov] (getMethod ov m pl)
      callWith pos f first (backTo pos (starEach (e :: es) X.env)) (backToKw pos (keywordEach [] X.env))) := by rfl) :
    PE X (.Call (.Attribute o m apos) (e :: es) [] pos) (tMethE P w K mg base CX k m E ta t) := by
  obtain ⟨rfl, rfl, rfl, rfl, rfl⟩ := hP
  exact pe_methE (pl := pl) he hr hx ha hst hpl ht
end
end L3
namespace L3
open PySem PySem.Spec PyProof.Rows L2 PySem.SeqAt

theorem r_alloc {H : Hp} {R : Addr → Prop} (q : ∀ p, H p = none → R p) : ∀ p, H p = none → R p := q
theorem r_small {n : Nat} {R : Prop} (h : n ≤ sizeLine) (q : R) : n ≤ sizeLine ∧ R := ⟨h, q⟩
theorem none_same {H H' : Hp} {q : Addr} (s : Same H H') (h : H' q = none) : H q = none := by
  cases e : H q with
  | none => rfl
  | some u => rw [s _ _ e] at h; cases h
theorem same_none {H H1 : Hp} {p : Addr} {o : HO} (s : Same H H1) (h : H1 p = none) : Same H (upd H1 p o) := s.trans (same_new h)

def CInv {α : Type} (xs : List α) (f : α → V) (Sg : St → Prop) (H : Hp) (i : Nat) (ys : List V) (σ : St) (H1 : Hp) : Prop := Same H H1 ∧ Sg σ ∧ ys = (xs.take i).map f
theorem CInv.next {α : Type} {xs : List α} {f : α → V} {Sg : St → Prop} {H H1 H5 : Hp} {i : Nat} {ys : List V} {σ σ3 : St} {x : α} {y : V} (c : CInv xs f Sg H i ys σ H1) (hx : xs[i]? = some x) (e : y = f x) (s : Same H H5) (sg : Sg σ3) : CInv xs f Sg H (i + 1) (ys ++ [y]) σ3 H5 := by
  obtain ⟨_, _, rfl⟩ := c
  refine ⟨s, sg, ?_⟩
  subst e
  rw [List.take_add_one, hx, Option.toList_some, List.map_append]; rfl
theorem comp_mapL {K : PySem.W.Frag} {a : Addr} {α : Type} {xs : List α} {emb : α → V} {g : TG} {tc : TT} {te : TE} {fin : List V → Hp → Prop} {σ0 : St} {H : Hp} (f : α → V) (Sg : St → Prop) (hl : SqL K H a (xs.map emb)) (hz : xs.length ≤ sizeLine) (h0 : Sg σ0)
    (hs : ∀ (i : Nat) (x : α) (ys : List V) (σ : St) (H1 : Hp), xs[i]? = some x → CInv xs f Sg H i ys σ H1 → Same H H1 → Sg σ →
      g (emb x) σ H1 fun σ3 H3 => tc σ3 H3 fun b H4 => if b = true then te σ3 H4 fun y H5 => CInv xs f Sg H (i + 1) (ys ++ [y]) σ3 H5 else CInv xs f Sg H (i + 1) ys σ3 H4)
    (hd : ∀ H1, Same H H1 → fin (xs.map f) H1) : CompW (Itl K a) g tc te fin σ0 H := by
  refine comp_list (xs := xs.map emb) (CInv xs f Sg H) ⟨Same.refl _, h0, rfl⟩ ?_ ?_ ?_
  · rintro i ys σ H1 hi ⟨s, _, rfl⟩
    refine ⟨s.seq hl, ?_⟩
    rw [List.length_map, List.length_take]; omega
  · intro i x ys σ H1 hx c
    rw [List.getElem?_map] at hx
    obtain ⟨z, hz, rfl⟩ := Option.map_eq_some_iff.mp hx
    exact hs i z ys σ H1 hz c c.1 c.2.1
  · rintro ys σ H1 ⟨s, _, rfl⟩
    rw [List.length_map, List.take_length]
    exact hd H1 s
theorem r_ifB {b : Bool} {A B : Prop} (h1 : b = true → A) (h2 : b = false → B) : if b = true then A else B := by
  cases b with
  | true => exact h1 rfl
  | false => exact h2 rfl
theorem r_62 {j : Int} {R : Prop} (h1 : -(2 ^ 62) ≤ j) (h2 : j < 2 ^ 62) (q : R) : -(2 ^ 62) ≤ j ∧ j < 2 ^ 62 ∧ R := ⟨h1, h2, q⟩
theorem r_itL {K : PySem.W.Frag} {H : Hp} {a : Addr} {xs : List V} {A B : Prop} (h : SqL K H a xs) (q : A) : ((∃ xs, SqL K H a xs) ∧ A) ∨ ((∃ xs, SqT K H a xs) ∧ B) := .inl ⟨⟨xs, h⟩, q⟩
theorem r_tyL {K : PySem.W.Frag} {H : Hp} {p : Addr} {xs : List V} {R : Prop} (h : H p = some (.lst xs)) (q : R) : tyV K "list" (.ref p) H ∧ R := ⟨ty_list h, q⟩
theorem map_int {α : Type} (l : List α) (f : α → Int) : l.map (fun k => V.int (f k)) = (l.map f).map V.int := by rw [List.map_map]; rfl
theorem r_gN {i : Nat} {v : V} {σ σ' : St} {H : Hp} {Q : St → Hp → Prop} (h : σ.set i (some v) = σ') (q : Q σ' H) : gName i v σ H Q := by subst h; exact q
theorem r_st {N : List Str} {vs : List V} {σ' : St} {t : TS} {D : Ends} {H : Hp} (h : start N vs = σ') (q : t D σ' H) : t D (start N vs) H := by subst h; exact q
theorem r_compS' {i : Nat} {own : List Str} {fr : List (Str × Nat)} {wi : TI} {g : TG} {tc : TT} {te : TE} {D : Ends} {σ σi : St} {H : Hp} (h : innerS own fr σ = σi) (q : wi σ H fun J H1 => CompW J g tc te (fun ys H3 => ∀ p, H3 p = none → gName i (.ref p) σ (upd H3 p (.lst ys)) D.nx) σi H1) : tCompS i own fr wi g tc te D σ H := by subst h; exact q
theorem r_compE' {own : List Str} {fr : List (Str × Nat)} {wi : TI} {g : TG} {tc : TT} {te : TE} {σ σi : St} {H : Hp} {Q : VK} (h : innerS own fr σ = σi) (q : wi σ H fun J H1 => CompW J g tc te (fun ys H3 => ∀ p, H3 p = none → Q (.ref p) (upd H3 p (.lst ys))) σi H1) : tCompE own fr wi g tc te σ H Q := by subst h; exact q
def rIsN : R2 := fun x y H Q => y = .non ∧ Q (.bl (decide (x = .non))) H
theorem op_isNA {X : Cx} : OpR X (compareOp .Is) rIsN := op_isN
theorem r_isNn {H : Hp} {Q : VK} (q : Q (.bl true) H) : rIsN .non .non H Q := ⟨rfl, q⟩
theorem r_isNi {i : Int} {H : Hp} {Q : VK} (q : Q (.bl false) H) : rIsN (.int i) .non H Q := ⟨rfl, q⟩
theorem r_ixD {K : PySem.W.Frag} {p : Addr} {x0 x1 : V} {c : Prop} [Decidable c] {H : Hp} {Q : VK} (h : SqL K H p [x0, x1]) (q1 : c → Q x1 H) (q0 : ¬ c → Q x0 H) : rIxA K (.ref p) (.bl (decide c)) H Q := by
  by_cases e : c
  · exact r_ixB h (by rw [decide_eq_true e]; rfl) (q1 e)
  · exact r_ixB h (by rw [decide_eq_false e]; rfl) (q0 e)
theorem r_ixDi {K : PySem.W.Frag} {p : Addr} {x0 x1 : V} {a b : Int} {H : Hp} {Q : VK} (h : SqL K H p [x0, x1]) (q1 : a = b → Q x1 H) (q0 : a ≠ b → Q x0 H) : rIxA K (.ref p) (.bl (decide (V.int a = V.int b))) H Q :=
  r_ixD h (fun e => q1 (by cases e; rfl)) fun e => q0 fun z => e (by rw [z])

theorem r_ixDj {K : PySem.W.Frag} {p : Addr} {x y a b : Int} {H : Hp} {Q : VK} (h : SqL K H p [.int x, .int y]) (q : Q (.int (if a = b then y else x)) H) : rIxA K (.ref p) (.bl (decide (V.int a = V.int b))) H Q :=
  r_ixDi h (fun e => by rw [if_pos e] at q; exact q) fun e => by rw [if_neg e] at q; exact q
theorem at2 (x y c : Int) : atI [V.int x, .int y] (c % 2) = some (.int (if c % 2 = 0 then x else y)) := by
  have h : c % 2 = 0 ∨ c % 2 = 1 := by omega
  rcases h with h | h <;> rw [h] <;> rfl

def CShl (i j : Int) : Prop := 0 ≤ j ∧ j ≤ 1000000 ∧ ∃ k : Nat, k ≤ 1000000 ∧ i.natAbs < 2 ^ k
theorem op_shlB {X : Cx} : OpR X (binaryOp .LShift) (rI CShl fun i j => .int (i * 2 ^ j.toNat)) := opI fun i j _ _ _ _ _ hc q => by
  obtain ⟨h0, h1, k, hk, hb⟩ := hc
  have := PySem.intBits_le_iff.mpr hb
  exact lshift_int h0 (by have e : (2 : Int) ^ 27 = 134217728 := rfl; rw [e]; omega) q
theorem shl_one {j : Int} (h0 : 0 ≤ j) (h1 : j ≤ 1000000) : CShl 1 j := ⟨h0, h1, 1, by decide, by decide⟩
theorem one_shl (j : Nat) : (1 : Int) * 2 ^ j = ((2 ^ j : Nat) : Int) := by rw [Int.one_mul]; exact (Int.natCast_pow 2 j).symm
theorem bitAnd_nat (s t : Nat) : Builtin.bitAnd (s : Int) (t : Int) = ((s &&& t : Nat) : Int) := by
  unfold Builtin.bitAnd
  rw [decide_eq_true (Int.natCast_nonneg s), decide_eq_true (Int.natCast_nonneg t)]
  show ((((s : Int).toNat &&& (t : Int).toNat : Nat)) : Int) = _
  rw [Int.toNat_natCast, Int.toNat_natCast]
theorem bitAnd_wo (s t : Nat) : Builtin.bitAnd (s : Int) (Builtin.bitNot (t : Int)) = ((Bt.wo s t : Nat) : Int) := by
  have hn : ¬ (0 : Int) ≤ Builtin.bitNot (t : Int) := by unfold Builtin.bitNot; omega
  have e : (Builtin.bitNot (Builtin.bitNot (t : Int))).toNat = t := by unfold Builtin.bitNot; omega
  unfold Builtin.bitAnd
  rw [decide_eq_true (Int.natCast_nonneg s), decide_eq_false hn]
  show (s : Int) - (((s : Int).toNat &&& (Builtin.bitNot (Builtin.bitNot (t : Int))).toNat : Nat) : Int) = _
  rw [Int.toNat_natCast, e]
  have : (s &&& t) ≤ s := Nat.and_le_left
  unfold Bt.wo; omega
theorem bitOr_nat (s t : Nat) : Builtin.bitOr (s : Int) (t : Int) = ((s ||| t : Nat) : Int) := by
  have hs : ¬ (0 : Int) ≤ Builtin.bitNot (s : Int) := by unfold Builtin.bitNot; omega
  have ht : ¬ (0 : Int) ≤ Builtin.bitNot (t : Int) := by unfold Builtin.bitNot; omega
  have es : (Builtin.bitNot (Builtin.bitNot (s : Int))).toNat = s := by unfold Builtin.bitNot; omega
  have et : (Builtin.bitNot (Builtin.bitNot (t : Int))).toNat = t := by unfold Builtin.bitNot; omega
  unfold Builtin.bitOr Builtin.bitAnd
  rw [decide_eq_false hs, decide_eq_false ht]
  show Builtin.bitNot (Builtin.bitNot (((Builtin.bitNot (Builtin.bitNot (s : Int))).toNat ||| (Builtin.bitNot (Builtin.bitNot (t : Int))).toNat : Nat) : Int)) = _
  rw [es, et]
  unfold Builtin.bitNot; omega

theorem vals_ints : ∀ {ns : List Int} {its : List Value}, Vals (ns.map V.int) its → ∃ xs : List (Int × Tok), its = xs.map (fun p => Value.int p.1 p.2) ∧ xs.map (·.1) = ns
  | [], its, r => by cases r; exact ⟨[], rfl, rfl⟩
  | n :: ns, its, r => by
    cases r with
    | cons r1 r2 =>
      obtain ⟨t, e⟩ := (show ∃ t, _ = Value.int n t from r1)
      subst e
      obtain ⟨xs, e1, e2⟩ := vals_ints r2
      exact ⟨(n, t) :: xs, by rw [e1]; rfl, by rw [List.map_cons, e2]⟩
def rSum (K : PySem.W.Frag) : List V → Hp → VK → Prop := fun xs H Q => ∃ (p : Addr) (ns : List Int), xs = [.ref p] ∧ SqL K H p (ns.map V.int) ∧ Q (.int ns.sum) H
theorem call_sumI {X : Cx} (hc : X.calm = true) : CallR X (.builtin "sum") (rSum X.K) := by
  intro pins s σ H xs us Q I r h
  obtain ⟨p, ns, rfl, hq, q⟩ := h
  obtain ⟨u, rfl, rx⟩ := vals1 r
  cases rx
  obtain ⟨its, rv, pl, hz⟩ := I.list hq
  obtain ⟨ys, e1, e2⟩ := vals_ints rv
  have e3 : its.toArray = intItems ys.toArray := by unfold intItems; rw [e1]; simp
  have hl : s.heap.IsList p (intItems ys.toArray) := by rw [← e3]; exact pl.isList
  refine sum_intListG (I.ok.hd hc) hl fun h' tk t' hk => ?_
  rw [preSum_eq, List.take_of_length_le (by simp)]
  refine ⟨.int ns.sum, H, I.kept hk, ⟨t', ?_⟩, q⟩
  rw [show ys.toArray.toList.map (·.1) = ns from e2]
theorem call_sumK {X : Cx} {K : PySem.W.Frag} (h : X.K = K) (hc : X.calm = true) : CallR X (.builtin "sum") (rSum K) := by subst h; exact call_sumI hc
theorem r_sum {K : PySem.W.Frag} {p : Addr} {ns : List Int} {H : Hp} {Q : VK} (h : SqL K H p (ns.map V.int)) (q : Q (.int ns.sum) H) : rSum K [.ref p] H Q := ⟨p, ns, rfl, h, q⟩

def FInv {α : Type} (xs : List α) (f : α → V) (pr : α → Bool) (Sg : St → Prop) (H : Hp) (i : Nat) (ys : List V) (σ : St) (H1 : Hp) : Prop := Same H H1 ∧ Sg σ ∧ ys = ((xs.take i).filter pr).map f
theorem FInv.yes {α : Type} {xs : List α} {f : α → V} {pr : α → Bool} {Sg : St → Prop} {H H1 H5 : Hp} {i : Nat} {ys : List V} {σ σ3 : St} {x : α} {y : V} (c : FInv xs f pr Sg H i ys σ H1) (hx : xs[i]? = some x) (hp : pr x = true) (e : y = f x) (s : Same H H5) (sg : Sg σ3) : FInv xs f pr Sg H (i + 1) (ys ++ [y]) σ3 H5 := by
  obtain ⟨_, _, rfl⟩ := c
  refine ⟨s, sg, ?_⟩
  subst e
  rw [List.take_add_one, hx, Option.toList_some, List.filter_append, List.map_append, List.filter_cons, if_pos hp]; rfl
theorem FInv.no {α : Type} {xs : List α} {f : α → V} {pr : α → Bool} {Sg : St → Prop} {H H1 H5 : Hp} {i : Nat} {ys : List V} {σ σ3 : St} {x : α} (c : FInv xs f pr Sg H i ys σ H1) (hx : xs[i]? = some x) (hp : pr x = false) (s : Same H H5) (sg : Sg σ3) : FInv xs f pr Sg H (i + 1) ys σ3 H5 := by
  obtain ⟨_, _, rfl⟩ := c
  refine ⟨s, sg, ?_⟩
  rw [List.take_add_one, hx, Option.toList_some, List.filter_append, List.map_append, List.filter_cons, if_neg (by rw [hp]; decide)]
  simp
theorem comp_filL {K : PySem.W.Frag} {a : Addr} {α : Type} {xs : List α} {emb : α → V} {g : TG} {tc : TT} {te : TE} {fin : List V → Hp → Prop} {σ0 : St} {H : Hp} (f : α → V) (pr : α → Bool) (Sg : St → Prop) (hl : SqL K H a (xs.map emb)) (hz : xs.length ≤ sizeLine) (h0 : Sg σ0)
    (hs : ∀ (i : Nat) (x : α) (ys : List V) (σ : St) (H1 : Hp), xs[i]? = some x → FInv xs f pr Sg H i ys σ H1 → Same H H1 → Sg σ →
      g (emb x) σ H1 fun σ3 H3 => tc σ3 H3 fun b H4 => if b = true then te σ3 H4 fun y H5 => FInv xs f pr Sg H (i + 1) (ys ++ [y]) σ3 H5 else FInv xs f pr Sg H (i + 1) ys σ3 H4)
    (hd : ∀ H1, Same H H1 → fin ((xs.filter pr).map f) H1) : CompW (Itl K a) g tc te fin σ0 H := by
  refine comp_list (xs := xs.map emb) (FInv xs f pr Sg H) ⟨Same.refl _, h0, rfl⟩ ?_ ?_ ?_
  · rintro i ys σ H1 hi ⟨s, _, rfl⟩
    refine ⟨s.seq hl, ?_⟩
    have h1 := List.length_filter_le pr (xs.take i)
    have h2 : (xs.take i).length ≤ xs.length := by rw [List.length_take]; omega
    rw [List.length_map]; omega
  · intro i x ys σ H1 hx c
    rw [List.getElem?_map] at hx
    obtain ⟨z, hz, rfl⟩ := Option.map_eq_some_iff.mp hx
    exact hs i z ys σ H1 hz c c.1 c.2.1
  · rintro ys σ H1 ⟨s, _, rfl⟩
    rw [List.length_map, List.take_length]
    exact hd H1 s
theorem r_inP {K : PySem.W.Frag} {p : Addr} {xs : List V} {x : V} {H : Hp} {Q : VK} (h : SqL K H p xs) (f1 : flatV x = true) (f2 : xs.all flatV = true) (q : Q (.bl (inV x xs)) H) : rIn K false x (.ref p) H Q := ⟨p, xs, rfl, .inl h, f1, f2, q⟩
theorem r_inT {K : PySem.W.Frag} {p : Addr} {xs : List V} {x : V} {H : Hp} {Q : VK} (h : SqT K H p xs) (f1 : flatV x = true) (f2 : xs.all flatV = true) (q : Q (.bl (inV x xs)) H) : rIn K false x (.ref p) H Q := ⟨p, xs, rfl, .inr h, f1, f2, q⟩
end L3
namespace L3
open PySem PySem.Spec PyProof.Rows L2 PySem.SeqAt

section
variable {P : Program} {w : World} {K : PySem.W.Frag} {mg : Str → Option Value} {base : Heap}
end
section
variable {X : Cx} {CX : CXT} {k : Nat} {C : Addr} {sp : Sp} {E : XK} {x m : Str} {p pos apos : Pos} {e o : Expr} {es : List Expr} {ta : TE} {t : TA}
end
section
variable {P : Program} {w : World} {K : PySem.W.Frag} {mg : Str → Option Value} {base : Heap} {x qual : Str} {st : Stmt} {N ps : List Str} {sp : Sp} {C : Addr}
end

section
variable {K : PySem.W.Frag} {a : Addr} {xs : List V} {g : TG} {tc : TT} {te : TE} {fin : List V → Hp → Prop} {H : Hp}
end
end L3
namespace L3
open PySem PySem.Spec PyProof.Rows

section
variable {prog : Program} {w : World} {A : Around} {E : Value → Shared → Prop} {s : Shared}

end
section
variable {prog : Program} {w : World} {A : Around} {E : Value → Shared → Prop} {s : Shared}
end
end L3
namespace L3
open PySem PySem.Spec PyProof.Rows L2

end L3
namespace L3
open PySem PySem.Spec PyProof.Rows L2

end L3

namespace L3
open PySem PySem.Spec PyProof.Rows L2 PySem.SeqAt

end L3
namespace L3
open PySem PySem.Spec PyProof.Rows L2 PySem.SeqAt

end L3
namespace L3
open PySem PySem.Spec PyProof.Rows L2 PySem.SeqAt
section
variable {P : Program} {w : World} {K : PySem.W.Frag} {mg : Str → Option Value} {base : Heap} {x qual : Str} {st : Stmt} {N ps : List Str} {sp : Sp} {C : Addr} {k : Nat}

end

section
variable {X : Cx} {pins : List (Addr × Obj)} {σ : St} {H : Hp} {s : Shared}

end
end L3
namespace L3
open PySem PySem.Spec PyProof.Rows L2 PySem.SeqAt


section
variable {X : Cx} {pins : List (Addr × Obj)} {σ : St} {H : Hp} {s : Shared} {k : Nat} {g x n : Str} {sp : Sp} {e : Expr} {es : List Expr} {t : TA} {gp cpos pos py : Pos}

end
end L3
namespace L3
open PySem PySem.Spec PyProof.Rows L2 PySem.SeqAt
section
variable {X : Cx} {pins : List (Addr × Obj)} {σ : St} {H H1 H' : Hp} {s s1 s' : Shared} {ea C : Addr}

end
end L3
namespace L3
open PySem PySem.Spec PyProof.Rows L2 PySem.SeqAt PySem.W Builtin Builtin.ObjectAttr Builtin.Getset_descriptor

section
variable {prog : Program} {w : World} {A : Around} {E : Value → Shared → Prop} {s : Shared} {K : PySem.W.Frag} {x C : Addr} {ox : Obj}
end
end L3
namespace L3
open PySem PySem.Spec PyProof.Rows L2 PySem.SeqAt PySem.W Builtin Builtin.ObjectAttr Builtin.Getset_descriptor
section
variable {prog : Program} {w : World} {A : Around} {E : Value → Shared → Prop} {s : Shared} {K : PySem.W.Frag} {x C : Addr} {ox : Obj}
end
end L3
namespace L3
open PySem PySem.Spec PyProof.Rows L2 PySem.SeqAt

section
variable {X : Cx} {k : Nat} {g : Str} {sp : Sp} {e c : Expr} {es : List Expr} {t : TA} {gp cpos pos : Pos} {b1 b2 : List Stmt} {tc : TT} {t1 t2 : TB}
end
section
variable {X : Cx} {v : Expr} {tv : TE} {x y : Str} {j1 j2 : Nat} {p0 p1 p2 p3 : Pos}
end
end L3
namespace L3
open PySem PySem.Spec PyProof.Rows

section
variable {prog : Program} {w : World} {A : Around} {E : Value → Shared → Prop} {s : Shared}
end
section
variable {prog : Program} {w : World} {A : Around} {E : Value → Shared → Prop} {s : Shared}
end
end L3
namespace L3
open PySem PySem.Spec PyProof.Rows L2

end L3
namespace L3
open PySem PySem.Spec PyProof.Rows L2 PySem.SeqAt

end L3
namespace L3
open PySem PySem.Spec PyProof.Rows L2 PySem.SeqAt

section
variable {P : Program} {w : World} {K : PySem.W.Frag} {mg : Str → Option Value} {base : Heap} {dv : Value}
end
section
variable {X : Cx} {CX : CXT} {k : Nat} {C : Addr} {dV : V} {sp : Sp} {E : XK} {x m : Str} {p pos apos : Pos} {e o : Expr} {es : List Expr} {ta : TE} {t : TA}
end
section
variable {P : Program} {w : World} {K : PySem.W.Frag} {mg : Str → Option Value} {base : Heap} {x qual : Str} {st : Stmt} {N ps : List Str} {sp : Sp} {C : Addr}
end

end L3
namespace FB
open PySem PySem.Spec PyProof.Rows L2 L3 PySem.SeqAt


inductive Rw where
  | set (b n : Int) | copy (b o : Int) | add (b o t : Int) | sub (b o t : Int) | mul (b o t : Int) | less (b o t : Int)
  | grow (m : Int) | shrink (m : Int) | put (b c : Int) | get (b c : Int)
  | jump (t : Int) | branch (b t : Int) | call (t : Int) | back (b : Int) | drop (b : Int)
def isBox (b : Int) : Prop := 0 ≤ b ∧ b ≤ 7
def isVal (n : Int) : Prop := 0 ≤ n ∧ n ≤ 4294967295
def isMany (n : Int) : Prop := 0 ≤ n ∧ n ≤ 4000
def isTgt (n : Int) : Prop := 0 ≤ n ∧ n ≤ 2000
def Rw.ok : Rw → Prop
  | .set b n => isBox b ∧ isVal n
  | .copy b o => isBox b ∧ isBox o
  | .add b o t | .sub b o t | .mul b o t | .less b o t => isBox b ∧ isBox o ∧ isBox t
  | .grow m | .shrink m => isMany m
  | .put b c | .get b c => isBox b ∧ isMany c
  | .jump t | .call t => isTgt t
  | .branch b t => isBox b ∧ isTgt t
  | .back b | .drop b => isBox b
def gI (xs : List Int) (i : Int) : Int := xs.getD i.toNat 0
def sI (xs : List Int) (i v : Int) : List Int := xs.set i.toNat v
theorem sI_len (xs : List Int) (i v : Int) : (sI xs i v).length = xs.length := by unfold sI; exact List.length_set ..
theorem gI_at {xs : List Int} {i : Int} (h0 : 0 ≤ i) (h1 : i < xs.length) : atI (xs.map V.int) i = some (.int (gI xs i)) := by
  have e : i = ((i.toNat : Nat) : Int) := by omega
  have hl : i.toNat < xs.length := by omega
  have z : atI (xs.map V.int) ((i.toNat : Nat) : Int) = some (.int (gI xs i)) := atI_nat (by
    rw [List.getElem?_map, List.getElem?_eq_getElem hl]
    simp [gI, List.getD, List.getElem?_eq_getElem hl])
  rw [← e] at z; exact z
theorem r_lenI {K : PySem.W.Frag} {p : Addr} {xs : List Int} {H : Hp} {Q : VK} (h : SqL K H p (xs.map V.int)) (q : Q (.int xs.length) H) : rLen K [.ref p] H Q := r_lenL h (by rw [List.length_map]; exact q)
def Rw.height : Rw → Int → Option Int
  | .grow m, h => if h + m > 4000 then none else some (h + m)
  | .shrink m, h => if h < m then none else some (h - m)
  | .put _ c, h => if h ≤ c then none else some h
  | .get _ c, h => if h ≤ c then none else some h
  | _, h => some h

def fillS (s p src : Nat) : Nat := if s &&& src = 0 then Bt.wo s p else s ||| p
def Rw.keep : Rw → Nat → Int → Nat
  | .set b _, s, _ | .add b _ _, s, _ | .sub b _ _, s, _ | .mul b _ _, s, _ | .less b _ _, s, _ => Bt.wo s (2 ^ b.toNat)
  | .copy b o, s, _ => fillS s (2 ^ b.toNat) (2 ^ o.toNat)
  | .shrink m, s, h => Bt.wo s ((2 ^ m.toNat - 1) * 2 ^ (8 + h - m).toNat)
  | .put b c, s, h => fillS s (2 ^ (8 + h - 1 - c).toNat) (2 ^ b.toNat)
  | .get b c, s, h => fillS s (2 ^ b.toNat) (2 ^ (8 + h - 1 - c).toNat)
  | .call _, s, _ => Bt.wo s 143
  | _, s, _ => s
def Rw.flds : Rw → List (Str × V)
  | .set b n => putF "number" (.int n) (putF "box" (.int b) [])
  | .copy b o => putF "one" (.int o) (putF "box" (.int b) [])
  | .add b o t | .sub b o t | .mul b o t | .less b o t => putF "other" (.int t) (putF "one" (.int o) (putF "box" (.int b) []))
  | .grow m | .shrink m => putF "many" (.int m) []
  | .put b c | .get b c => putF "cell" (.int c) (putF "box" (.int b) [])
  | .jump t | .call t => putF "target" (.int t) []
  | .branch b t => putF "target" (.int t) (putF "box" (.int b) [])
  | .back b | .drop b => putF "box" (.int b) []
structure Adr where
  C_Row : Addr
  C_Set : Addr
  C_Copy : Addr
  C_Add : Addr
  C_Sub : Addr
  C_Mul : Addr
  C_Less : Addr
  C_Grow : Addr
  C_Shrink : Addr
  C_Put : Addr
  C_Get : Addr
  C_Jump : Addr
  C_Branch : Addr
  C_Call : Addr
  C_Back : Addr
  C_Drop : Addr
  C_Reckoning : Addr
  C_Reaching : Addr
  C_FrameError : Addr
  C_NoRow : Addr
  C_NoTable : Addr
  C_NoText : Addr
  C_Table : Addr
  C_Reading : Addr
  C_Machine : Addr
  C_Astray : Addr
  C_NoProgram : Addr
  C_NoLine : Addr
  C_NoName : Addr
  G_START : Addr
  G_WHICH : Addr
  G_COUNTS : Addr
def Rw.cls (a : Adr) : Rw → Addr
  | .set .. => a.C_Set
  | .copy .. => a.C_Copy
  | .add .. => a.C_Add
  | .sub .. => a.C_Sub
  | .mul .. => a.C_Mul
  | .less .. => a.C_Less
  | .grow .. => a.C_Grow
  | .shrink .. => a.C_Shrink
  | .put .. => a.C_Put
  | .get .. => a.C_Get
  | .jump .. => a.C_Jump
  | .branch .. => a.C_Branch
  | .call .. => a.C_Call
  | .back .. => a.C_Back
  | .drop .. => a.C_Drop

def RowAt (a : Adr) (H : Hp) (p : Addr) (r : Rw) : Prop := ∃ dx, H p = some (.ins (r.cls a) dx r.flds)
def spBounded : Sp := fun vs H Q _ => ∃ n top : Int, vs = [.int n, .int top] ∧ 0 ≤ n ∧ n ≤ top ∧ Q (.int n) H
def kpInit (H : Hp) (x dx C : Addr) (fs : List (Str × V)) (Q : VK) : Prop := H x = some (.ins C dx []) ∧ ∀ H', (∀ b o, H b = some o → b ≠ x → H' b = some o) → H' x = some (.ins C dx fs) → Q .non H'
def spIni1 (C : Addr) (mk : Int → Rw) : Sp := fun vs H Q _ => ∃ (x dx : Addr) (i : Int), vs = [.ref x, .int i] ∧ (mk i).ok ∧ kpInit H x dx C (mk i).flds Q
def spIni2 (C : Addr) (mk : Int → Int → Rw) : Sp := fun vs H Q _ => ∃ (x dx : Addr) (i j : Int), vs = [.ref x, .int i, .int j] ∧ (mk i j).ok ∧ kpInit H x dx C (mk i j).flds Q
def spIni3 (C : Addr) (mk : Int → Int → Int → Rw) : Sp := fun vs H Q _ => ∃ (x dx : Addr) (i j k : Int), vs = [.ref x, .int i, .int j, .int k] ∧ (mk i j k).ok ∧ kpInit H x dx C (mk i j k).flds Q
theorem kp_make {C : Addr} {a : Adr} {r : Rw} {H : Hp} {Q : VK} (hc : r.cls a = C) (q : ∀ p H', Same H H' → H p = none → RowAt a H' p r → Q (.ref p) H') {x dx : Addr} (hx : H x = none) (hdx : H dx = none) :
    kpInit (upd (upd H dx (.own x)) x (.ins C dx [])) x dx C r.flds (fun v H2 => v = .non ∧ Q (.ref x) H2) := by
  refine ⟨upd_same, fun H' kp hH' => ⟨rfl, q x H' (fun b o e => ?_) hx ⟨dx, by rw [hc]; exact hH'⟩⟩⟩
  exact kp b o (by rw [upd_ne (ne_of_none e hx), upd_ne (ne_of_none e hdx)]; exact e) (ne_of_none e hx)
theorem r_row1 {C : Addr} {mk : Int → Rw} {a : Adr} {i : Int} {H : Hp} {Q : VK} {E : XK} (hk : (mk i).ok) (hc : (mk i).cls a = C) (q : ∀ p H', Same H H' → H p = none → RowAt a H' p (mk i) → Q (.ref p) H') :
    ∀ x dx, H x = none → H dx = none → dx ≠ x → spIni1 C mk (.ref x :: [.int i]) (upd (upd H dx (.own x)) x (.ins C dx [])) (fun v H2 => v = .non ∧ Q (.ref x) H2) E := fun x dx hx hdx _ => ⟨x, dx, i, rfl, hk, kp_make hc q hx hdx⟩
theorem r_row2 {C : Addr} {mk : Int → Int → Rw} {a : Adr} {i j : Int} {H : Hp} {Q : VK} {E : XK} (hk : (mk i j).ok) (hc : (mk i j).cls a = C) (q : ∀ p H', Same H H' → H p = none → RowAt a H' p (mk i j) → Q (.ref p) H') :
    ∀ x dx, H x = none → H dx = none → dx ≠ x → spIni2 C mk (.ref x :: [.int i, .int j]) (upd (upd H dx (.own x)) x (.ins C dx [])) (fun v H2 => v = .non ∧ Q (.ref x) H2) E := fun x dx hx hdx _ => ⟨x, dx, i, j, rfl, hk, kp_make hc q hx hdx⟩
theorem r_row3 {C : Addr} {mk : Int → Int → Int → Rw} {a : Adr} {i j k : Int} {H : Hp} {Q : VK} {E : XK} (hk : (mk i j k).ok) (hc : (mk i j k).cls a = C) (q : ∀ p H', Same H H' → H p = none → RowAt a H' p (mk i j k) → Q (.ref p) H') :
    ∀ x dx, H x = none → H dx = none → dx ≠ x → spIni3 C mk (.ref x :: [.int i, .int j, .int k]) (upd (upd H dx (.own x)) x (.ins C dx [])) (fun v H2 => v = .non ∧ Q (.ref x) H2) E := fun x dx hx hdx _ => ⟨x, dx, i, j, k, rfl, hk, kp_make hc q hx hdx⟩
theorem kp_two {H : Hp} {x : Addr} {o1 o2 : HO} : ∀ b o, H b = some o → b ≠ x → upd (upd H x o1) x o2 b = some o := fun b o e ne => by rw [upd_ne ne, upd_ne ne]; exact e
theorem kp_one {H : Hp} {x : Addr} {o1 : HO} : ∀ b o, H b = some o → b ≠ x → upd H x o1 b = some o := fun b o e ne => by rw [upd_ne ne]; exact e
theorem kp_three {H : Hp} {x : Addr} {o1 o2 o3 : HO} : ∀ b o, H b = some o → b ≠ x → upd (upd (upd H x o1) x o2) x o3 b = some o := fun b o e ne => by rw [upd_ne ne, upd_ne ne, upd_ne ne]; exact e

def optV : Option Int → V
  | none => .non
  | some i => .int i
def spHeight (a : Adr) (r : Rw) : Sp := fun vs H Q _ => ∃ (x : Addr) (h : Int), vs = [.ref x, .int h] ∧ RowAt a H x r ∧ Q (optV (r.height h)) H
def spKeeps (a : Adr) (r : Rw) : Sp := fun vs H Q _ => ∃ (x : Addr) (s : Nat) (h : Int), vs = [.ref x, .int (s : Int), .int h] ∧ RowAt a H x r ∧ r.ok ∧ 0 ≤ h ∧ h ≤ 4000 ∧ (r.height h).isSome = true ∧ Q (.int (r.keep s h : Nat)) H
def spBoxPl : Sp := fun vs H Q _ => ∃ b : Int, vs = [.int b] ∧ 0 ≤ b ∧ b ≤ 7 ∧ Q (.int ((2 ^ b.toNat : Nat) : Int)) H
def spCellPl : Sp := fun vs H Q _ => ∃ c h : Int, vs = [.int c, .int h] ∧ 0 ≤ c ∧ c < h ∧ h ≤ 4000 ∧ Q (.int ((2 ^ (8 + h - 1 - c).toNat : Nat) : Int)) H
def spWithout : Sp := fun vs H Q _ => ∃ s p : Nat, vs = [.int (s : Int), .int (p : Int)] ∧ Q (.int (Bt.wo s p : Nat)) H
def spFilled : Sp := fun vs H Q _ => ∃ s p t : Nat, vs = [.int (s : Int), .int (p : Int), .int (t : Int)] ∧ Q (.int (fillS s p t : Nat)) H
theorem r_boxPl {b : Int} {H : Hp} {Q : VK} {E : XK} (h0 : 0 ≤ b) (h1 : b ≤ 7) (q : Q (.int ((2 ^ b.toNat : Nat) : Int)) H) : spBoxPl [.int b] H Q E := ⟨b, rfl, h0, h1, q⟩
theorem r_cellPl {c h : Int} {H : Hp} {Q : VK} {E : XK} (h0 : 0 ≤ c) (h1 : c < h) (h2 : h ≤ 4000) (q : Q (.int ((2 ^ (8 + h - 1 - c).toNat : Nat) : Int)) H) : spCellPl [.int c, .int h] H Q E := ⟨c, h, rfl, h0, h1, h2, q⟩
theorem r_without {s p : Nat} {H : Hp} {Q : VK} {E : XK} (q : Q (.int (Bt.wo s p : Nat)) H) : spWithout [.int (s : Int), .int (p : Int)] H Q E := ⟨s, p, rfl, q⟩
theorem r_filled {s p t : Nat} {H : Hp} {Q : VK} {E : XK} (q : Q (.int (fillS s p t : Nat)) H) : spFilled [.int (s : Int), .int (p : Int), .int (t : Int)] H Q E := ⟨s, p, t, rfl, q⟩
theorem r_bounded {n top : Int} {H : Hp} {Q : VK} {E : XK} (h0 : 0 ≤ n) (h1 : n ≤ top) (q : Q (.int n) H) : spBounded [.int n, .int top] H Q E := ⟨n, top, rfl, h0, h1, q⟩
def cellAt (ns : List Int) (k : Int) : Int := ns.getD k.toNat 0
def spCellAt (K : PySem.W.Frag) : Sp := fun vs H Q _ => ∃ (p : Addr) (ns : List Int) (k : Int), vs = [.ref p, .int k] ∧ SqL K H p (ns.map V.int) ∧ 0 ≤ k ∧ Q (.int (cellAt ns k)) H
theorem r_cellAt {K : PySem.W.Frag} {p : Addr} {ns : List Int} {k : Int} {H : Hp} {Q : VK} {E : XK} (h : SqL K H p (ns.map V.int)) (h0 : 0 ≤ k) (q : Q (.int (cellAt ns k)) H) : spCellAt K [.ref p, .int k] H Q E := ⟨p, ns, k, rfl, h, h0, q⟩
theorem cellAt_out {ns : List Int} {k : Int} (h0 : 0 ≤ k) (h : ¬ k < ns.length) : cellAt ns k = 0 := by
  unfold cellAt
  rw [List.getD_eq_getElem?_getD, List.getElem?_eq_none (by omega)]
  rfl
def spWhole : Sp := fun vs H Q _ => ∃ i : Int, vs = [.int i] ∧ Q (.bl true) H
theorem r_whole {i : Int} {H : Hp} {Q : VK} {E : XK} (q : Q (.bl true) H) : spWhole [.int i] H Q E := ⟨i, rfl, q⟩
def spLaw (K : PySem.W.Frag) : Sp := fun vs H Q _ => ∃ (a : Addr) (ns : List Int), vs = [.ref a] ∧ SqL K H a (ns.map V.int) ∧ ns.length ≤ 63 ∧ ∀ H', Q (.bl true) H'
theorem look_of {fs : List (Str × V)} {f g : Str} {v w : V} (h : f ≠ g) (e : fs.lookup f = some w) : (putF g v fs).lookup f = some w := by rw [lookup_putF, if_neg h]; exact e
theorem look_hit {fs : List (Str × V)} {f : Str} {v : V} : (putF f v fs).lookup f = some v := by rw [lookup_putF, if_pos rfl]
theorem look_no {fs : List (Str × V)} {f g : Str} {v : V} (h : f ≠ g) (e : fs.lookup f = none) : (putF g v fs).lookup f = none := by rw [lookup_putF, if_neg h]; exact e
theorem len_of {fs : List (Str × V)} {f : Str} {v : V} {n : Nat} (e : fs.length ≤ n) : (putF f v fs).length ≤ n + 1 := Nat.le_trans (length_putF _ _ _) (Nat.succ_le_succ e)
end FB

namespace FB
open PySem PySem.Spec PyProof.Rows L2 L3 PySem.SeqAt
local macro_rules | `(tactic| walk_at "clok") => `(tactic| repeat (first | exact True.intro | refine ⟨rfl, ?_⟩))
local macro_rules | `(tactic| walk_at "frok") => `(tactic| repeat (first | exact True.intro | refine ⟨⟨rfl, (by first | exact Or.inl rfl | exact Or.inr rfl), (by first | exact Or.inl rfl | exact Or.inr rfl), rfl⟩, ?_⟩))
local macro_rules | `(tactic| walk_at "hlk") => `(tactic| first | (with_reducible assumption) | (exact upd_same) | ((with_reducible refine' look_new ?x ?y); (case y => with_reducible assumption); (case x => walk_at "hlk")) | ((fail_if_success (((with_reducible refine' look_new ?x ?y); (case y => with_reducible assumption)))); (with_reducible refine' look_ne ?x ?y); (case x => walk_at "ne"); (case y => walk_at "hlk")) | ((with_reducible refine' same_at ?x ?y); (case x => with_reducible assumption); (case y => walk_at "hlk")))
local macro_rules | `(tactic| walk_at "ne") => `(tactic| first | (with_reducible assumption) | (apply Ne.symm; (with_reducible assumption)) | ((with_reducible refine' ne_of_none ?x ?y); (case y => with_reducible assumption); (case x => walk_at "hlk")) | (apply Ne.symm; (with_reducible refine' ne_of_none ?x ?y); (case y => with_reducible assumption); (case x => walk_at "hlk")))
local macro_rules | `(tactic| walk_at "sql") => `(tactic| first | (with_reducible assumption) | (refine' SqL.of ?x; (case x => first | (with_reducible assumption) | (exact upd_same))) | ((with_reducible refine' sql_new ?x ?y); (case y => with_reducible assumption); (case x => walk_at "sql")) | ((fail_if_success (((with_reducible refine' sql_new ?x ?y); (case y => with_reducible assumption)))); first | ((with_reducible refine' sql_upd ?s ?h ?q); (case h => with_reducible assumption); (case s => walk_at "same"); (case q => walk_at "sql")) | (refine' SqL.of ?x; (case x => (with_reducible refine' look_ne ?x2 ?y2); (case x2 => walk_at "ne"); (case y2 => walk_at "hlk")))) | ((with_reducible refine' Same.seq ?x ?y); (case x => with_reducible assumption); (case y => walk_at "sql")))
local macro_rules | `(tactic| walk_at "sqt") => `(tactic| first | (with_reducible assumption) | (refine' SqT.of ?x; (case x => first | (with_reducible assumption) | (exact upd_same))) | ((with_reducible refine' sqt_new ?x ?y); (case y => with_reducible assumption); (case x => walk_at "sqt")) | ((fail_if_success (((with_reducible refine' sqt_new ?x ?y); (case y => with_reducible assumption)))); first | ((with_reducible refine' sqt_upd ?s ?h ?q); (case h => with_reducible assumption); (case s => walk_at "same"); (case q => walk_at "sqt")) | (refine' SqT.of ?x; (case x => (with_reducible refine' look_ne ?x2 ?y2); (case x2 => walk_at "ne"); (case y2 => walk_at "hlk")))) | ((with_reducible refine' SqT_same ?x ?y); (case x => with_reducible assumption); (case y => walk_at "sqt")))
local macro_rules | `(tactic| walk_at "lk") => `(tactic| first | (with_reducible exact look_hit) | (refine' look_of ?x ?y; (case x => decide +kernel); (case y => walk_at "lk")) | exact look_hit)
local macro_rules | `(tactic| walk_at "nolk") => `(tactic| first | (with_reducible rfl) | (refine' look_no ?x ?y; (case x => decide +kernel); (case y => walk_at "nolk")) | rfl)
local macro_rules | `(tactic| walk_at "fewf") => `(tactic| first | exact Nat.lt_of_le_of_lt (Nat.le_refl 0) (by decide) | exact Nat.lt_of_le_of_lt (len_of (Nat.le_refl 0)) (by decide) | exact Nat.lt_of_le_of_lt (len_of (len_of (Nat.le_refl 0))) (by decide) | exact Nat.lt_of_le_of_lt (len_of (len_of (len_of (Nat.le_refl 0)))) (by decide))
local macro_rules | `(tactic| walk_at "small") => `(tactic| first | exact Nat.le_of_ble_eq_true rfl | (show _ ≤ sizeLine; rw [sizeLine_eq]; first | omega | (simp only [List.length_map, List.length_cons, List.length_nil, List.length_append, List.length_replicate, List.length_set, List.length_range]; omega)))
local macro_rules | `(tactic| walk_at "r1") => `(tactic| with_reducible first
  | refine r_var (by with_unfolding_all rfl) ?_
  | refine r_c ?_ | refine r_op ?_ | refine r_I0 ?_ | refine r_plusI ?_ | refine r_seq ?_ | refine r_asg ?_ | (refine' r_gN ?x ?_; (case x => simp only [List.set_cons_succ, List.set_cons_zero]; rfl)) | refine r_ret ?_ | refine r_ifS ?_ | refine r_test ?_
  | refine r_cons ?_ | refine r_nil ?_ | refine r_cb ?_ | refine r_callE ?_ | refine r_makeE ?_ | refine r_methE ?_ | refine r_fld ?_ | refine r_tru ?_ | refine r_truB ?_ | refine r_truI ?_
  | refine r_not ?_ | refine r_and ?_ | refine r_or ?_ | refine r_next ?_ | refine r_drop ?_ | refine r_sFld ?_ | refine r_retN ?_ | refine r_un ?_ | refine r_U ?_ | refine r_if ?_
  | refine r_andV ?_ | refine r_orV ?_ | refine r_notV ?_ | refine r_sl ?_ | refine r_part ?_ | refine r_noPart ?_ | refine r_bm ?_ | refine r_bm0 ?_ | refine r_tup ?_ | refine r_lst ?_ | refine r_two ?_
  | (refine' r_compE' ?x ?_; (case x => with_unfolding_all rfl)) | (refine' r_compS' ?x ?_; (case x => with_unfolding_all rfl)) | refine r_for ?_ | refine r_iSeq ?_ | refine r_rng1 ?_ | refine r_rng2 ?_ | refine r_true ?_
  | refine r_isNr ?_ | refine r_isNn ?_ | refine r_isNi ?_ | refine r_notNr ?_ | refine r_notNn ?_ | refine r_notNi ?_
  | refine iteT ?_ | refine iteF ?_ | refine iteNT ?_ | refine iteNF ?_
  | refine ⟨_, rfl, ?_⟩)
local macro_rules | `(tactic| walk_at "r2") => `(tactic| first
  | ((with_reducible refine' r_fldV ?h ?c ?n ?l ?_); (case h => walk_at "hlk"); (case c => walk_at "cls"); (case n => walk_at "noat"); (case l => walk_at "lk"))
  | ((with_reducible refine' r_sFldV ?h ?c ?n ?l ?_); (case h => walk_at "hlk"); (case c => walk_at "cls"); (case n => walk_at "noat"); (case l => walk_at "fewf"))
  | ((with_reducible refine' r_lenI ?h ?_); (case h => walk_at "sql"))
  | ((with_reducible refine' r_lenL ?h ?_); (case h => walk_at "sql"))
  | ((with_reducible refine' r_lenT ?h ?_); (case h => walk_at "sqt"))
  | ((with_reducible refine' r_listL ?h ?_); (case h => walk_at "sql"))
  | ((with_reducible refine' r_listT ?h ?_); (case h => walk_at "sqt"))
  | ((with_reducible refine' r_eqS ?h ?_); (case h => rfl))
  | ((with_reducible refine' r_neS ?h ?_); (case h => rfl)))
local macro_rules | `(tactic| walk_at "none") => `(tactic| first | (with_reducible assumption) | ((with_reducible refine' none_same ?x ?y); (case y => with_reducible assumption); (case x => walk_at "same")))
local macro_rules | `(tactic| walk_at "same") => `(tactic| first | (with_reducible assumption) | (with_reducible exact Same.refl _) | ((with_reducible refine' same_none ?x ?y); (case y => with_reducible assumption); (case x => walk_at "same")) | ((fail_if_success (((with_reducible refine' same_none ?x ?y); (case y => with_reducible assumption)))); (with_reducible refine' same_upd ?x ?y); (case y => walk_at "none"); (case x => walk_at "same")) | ((with_reducible refine' Same.trans ?x ?y); (case y => with_reducible assumption); (case x => walk_at "same")))
local macro_rules | `(tactic| walk_at "tt") => `(tactic| first | assumption | omega | with_unfolding_all rfl | decide | (simp only [List.length_map, List.length_cons, List.length_nil, List.length_append, List.length_replicate, List.length_set, sI_len]; omega))
local macro_rules | `(tactic| walk_at "nn") => `(tactic| first | assumption | omega | decide | (simp only [List.length_map, List.length_cons, List.length_nil, List.length_append, List.length_replicate, List.length_set, sI_len]; omega))
local macro_rules | `(tactic| walk_at "cond") => `(tactic| first
  | ((with_reducible refine' r_I ?h ?_); (case h => first | exact ⟨by decide, by decide⟩ | (show (0 : Int) < _; first | decide | omega) | (show (0 : Int) ≤ _; first | decide | omega)))
  | ((with_reducible refine' r_ifB ?x ?_); (case x => intro hh; exact absurd hh (by decide)); intro _)
  | ((with_reducible refine' r_ifB ?_ ?x); (case x => intro hh; exact absurd hh (by decide)); intro _)
  | ((with_reducible refine' ifInt ?x ?_); (case x => intro hh; exact absurd hh (by walk_at "nn")); intro _)
  | ((with_reducible refine' ifInt ?_ ?x); (case x => intro hh; exact absurd (by walk_at "tt") hh); intro _)
  | ((with_reducible refine' ifIntN ?x ?_); (case x => intro hh; exact absurd (by walk_at "tt") hh); intro _)
  | ((with_reducible refine' ifIntN ?_ ?x); (case x => intro hh; exact absurd hh (by walk_at "nn")); intro _)
  | ((with_reducible refine' ifDec ?x ?_); (case x => intro hh; exact absurd hh (by walk_at "nn")); intro _)
  | ((with_reducible refine' ifDec ?_ ?x); (case x => intro hh; exact absurd (by walk_at "tt") hh); intro _)
  | ((with_reducible refine' ifDecN ?x ?_); (case x => intro hh; exact absurd (by walk_at "tt") hh); intro _)
  | ((with_reducible refine' ifDecN ?_ ?x); (case x => intro hh; exact absurd hh (by walk_at "nn")); intro _))
local macro_rules | `(tactic| walk_at "at") => `(tactic| first | assumption | ((with_reducible refine' gI_at ?x ?y); (case x => walk_at "tt"); (case y => walk_at "tt")) | ((with_reducible refine' gI_neg ?x ?y); (case x => walk_at "tt"); (case y => walk_at "tt")) | rfl)
local macro_rules | `(tactic| walk_at "calls") => `(tactic| first
  | ((with_reducible refine' r_bounded ?a ?b ?_); (case a => omega); (case b => omega))
  | ((with_reducible refine' r_withBox ?h ?a ?b ?_); (case h => walk_at "sql"); (case a => omega); (case b => omega))
  | ((with_reducible refine' r_cellAt ?h ?a ?_); (case h => walk_at "sql"); (case a => omega))
  | (with_reducible refine r_whole ?_) | (with_reducible refine r_without ?_) | (with_reducible refine r_filled ?_)
  | ((with_reducible refine' r_boxPl ?a ?b ?_); (case a => omega); (case b => omega))
  | ((with_reducible refine' r_cellPl ?a ?b ?c ?_); (case a => omega); (case b => omega); (case c => omega))
  | ((with_reducible refine' r_setI ?x ?y ?z ?_); (case x => walk_at "hlk"); (case y => walk_at "tt"); (case z => walk_at "tt"))
  | ((with_reducible refine' r_setIN ?x ?y ?z ?_); (case x => walk_at "hlk"); (case y => walk_at "tt"); (case z => walk_at "tt"))
  | ((with_reducible refine' r_ixT ?h ?e ?_); (case h => walk_at "sqt"); (case e => walk_at "at"))
  | ((with_reducible refine' r_ixL ?h ?e ?_); (case h => walk_at "sql"); (case e => walk_at "at"))
  | (with_reducible refine r_gSub ?_))
local macro_rules | `(tactic| walk_at "ty") => `(tactic| first | (with_reducible exact TyOf.int _) | (with_reducible exact TyOf.bl _) | (with_reducible exact TyOf.str _) | (with_reducible exact TyOf.non) | (refine' TyOf.lst ?x; (case x => walk_at "hlk")) | (refine' TyOf.tup ?x; (case x => walk_at "hlk")))
local macro_rules | `(tactic| walk_at "dp") => `(tactic| first | (with_reducible exact dp_int _) | (with_reducible exact dp_str _) | (with_reducible exact dp_bool _) | (with_reducible exact dp_none) | ((with_reducible refine' dp_ints ?x); (case x => walk_at "sql")) | ((with_reducible refine' dp_lst ?x ?y); (case x => walk_at "sql"); (case y => walk_at "dps")) | ((with_reducible refine' dp_tup ?x ?y); (case x => walk_at "sqt"); (case y => walk_at "dps")))
local macro_rules | `(tactic| walk_at "dps") => `(tactic| first | (with_reducible exact dpAll_nil) | ((with_reducible refine' dpAll_cons ?x ?y); (case x => walk_at "dp"); (case y => walk_at "dps")))
local macro_rules | `(tactic| walk_at "shaped") => `(tactic| first | exact shaped_ints _ | (unfold shaped; simp [PyData.canLay0, PyData.canLayAll0, canLay_ints, PyData.depth, PyData.depthAll, depth_ints]))
local macro_rules | `(tactic| walk_at "eqd") => `(tactic| first
  | ((with_reducible refine' r_eqT ?d ?x ?y ?s ?_); (case x => walk_at "dp"); (case y => walk_at "dp"); (case s => walk_at "shaped"))
  | ((with_reducible refine' r_neT ?d ?x ?y ?s ?_); (case x => walk_at "dp"); (case y => walk_at "dp"); (case s => walk_at "shaped")))
local macro_rules | `(tactic| walk_at "r3") => `(tactic| first
  | (with_reducible refine r_alloc (fun _ _ => ?_))
  | ((with_reducible refine' r_small ?x ?_); (case x => walk_at "small"))
  | ((with_reducible refine' r_62 ?x ?y ?_); (case x => walk_at "tt"); (case y => walk_at "tt"))
  | ((with_reducible refine' r_62b ?x ?y ?z ?u ?_); (case x => walk_at "tt"); (case y => walk_at "tt"); (case z => walk_at "tt"); (case u => walk_at "tt"))
  | ((with_reducible refine' r_itL ?x ?_); (case x => walk_at "sql"))
  | ((with_reducible refine' r_itT ?x ?_); (case x => walk_at "sqt"))
  | ((with_reducible refine' r_slI ?x ?_); (case x => walk_at "sql"))
  | ((with_reducible refine' r_slL ?x ?_); (case x => walk_at "sql"))
  | ((with_reducible refine' r_timesZ ?x ?y ?z ?_); (case x => walk_at "hlk"); (case y => walk_at "tt"); (case z => walk_at "tt"))
  | ((with_reducible refine' r_plusII ?x ?y ?z ?_); (case x => walk_at "hlk"); (case y => walk_at "hlk"); (case z => walk_at "small"))
  | ((with_reducible refine' r_tyL ?x ?_); (case x => walk_at "hlk"))
  | ((with_reducible refine' r_timesI ?h ?_); (case h => walk_at "cmul"))
  | ((with_reducible refine' r_sum ?h ?_); (case h => walk_at "sql"))
  | ((with_reducible refine' r_inT ?h ?x ?y ?_); (case h => walk_at "sqt"); (case x => rfl); (case y => rfl))
  | ((with_reducible refine' r_clear ?x ?_); (case x => walk_at "hlk"))
  | ((with_reducible refine' r_append ?x ?y ?_); (case x => walk_at "hlk"); (case y => walk_at "small"))
  | ((with_reducible refine' r_isi ?c ?t ?e ?_); (case c => exact fun z => nomatch z); (case t => walk_at "ty"); (case e => walk_at "kit")))
local macro_rules | `(tactic| walk_at "rd") => `(tactic| repeat (first | walk_at "r1" | walk_at "r3" | walk_at "r2" | walk_at "cond" | walk_at "calls" | walk_at "mine"))
local macro_rules | `(tactic| walk_at "rds") => `(tactic| repeat' (first | walk_at "r1" | walk_at "r3" | walk_at "r2" | walk_at "cond" | walk_at "calls" | walk_at "mine" | walk_at "cs"))
local macro_rules | `(tactic| walk_at "sp") => `(tactic| (repeat' split) <;> first | assumption | rfl | (exfalso; omega))
local macro_rules | `(tactic| walk_at "rok") => `(tactic| first | assumption | exact ⟨by omega, by omega⟩)
local macro_rules | `(tactic| walk_at "cmul") => `(tactic| first | exact Or.inl ⟨by decide, by decide⟩ | exact Or.inr ⟨by decide, by decide⟩ | exact Or.inl ⟨by omega, by omega⟩ | exact Or.inr ⟨by omega, by omega⟩)

set_option hygiene false
local macro_rules | `(tactic| walk_at "cs") => `(tactic| with_reducible first | refine ifInt (fun hh => ?_) (fun hh => ?_) | refine ifIntN (fun hh => ?_) (fun hh => ?_) | refine ifDec (fun hh => ?_) (fun hh => ?_) | refine ifDecN (fun hh => ?_) (fun hh => ?_) | (refine' r_ixDi ?h (fun hh => ?_) (fun hh => ?_); (case h => walk_at "sql")) | (refine' r_ixD ?h (fun hh => ?_) (fun hh => ?_); (case h => walk_at "sql")))
local macro_rules | `(tactic| walk_at "tf") => `(tactic| (show Q _ _; refine' q _ _ _ _ ?zs ?znt ?znb ?znp ?ze1 ?ze2 ?ze3 ?zt ?zb ?zp; (case zt => walk_at "hlk"); (case zb => walk_at "hlk"); (case zp => walk_at "hlk"); (case zs => walk_at "same"); (case znt => walk_at "none"); (case znb => walk_at "none"); (case znp => walk_at "none"); (case ze1 => walk_at "ne"); (case ze2 => walk_at "ne"); (case ze3 => walk_at "ne")))

local macro_rules | `(tactic| walk_at "cls") => `(tactic| first | assumption | exact T.cl_Less | exact T.cl_Set | exact T.cl_Copy | exact T.cl_Add | exact T.cl_Sub | exact T.cl_Mul | exact T.cl_Drop | exact T.cl_Jump | exact T.cl_Branch | exact T.cl_Call | exact T.cl_Back | exact T.cl_Get | exact T.cl_Grow | exact T.cl_Shrink | exact T.cl_Put)
local macro_rules | `(tactic| walk_at "noat") => `(tactic| first | assumption | exact T.n_Less_box | exact T.n_Less_one | exact T.n_Less_other | exact T.n_Set_box | exact T.n_Set_number | exact T.n_Copy_box | exact T.n_Copy_one | exact T.n_Add_box | exact T.n_Add_one | exact T.n_Add_other | exact T.n_Sub_box | exact T.n_Sub_one | exact T.n_Sub_other | exact T.n_Mul_box | exact T.n_Mul_one | exact T.n_Mul_other | exact T.n_Drop_box | exact T.n_Jump_target | exact T.n_Branch_box | exact T.n_Branch_target | exact T.n_Call_target | exact T.n_Back_box | exact T.n_Get_box | exact T.n_Get_cell | exact T.n_Grow_many | exact T.n_Shrink_many | exact T.n_Put_box | exact T.n_Put_cell)
local macro_rules | `(tactic| walk_at "kit") => `(tactic| first | assumption | exact T.k_int_int | exact T.k_int_bool)
set_option hygiene true
def top (i : Nat) : Stmt := PySem.Challenge.pw_frameback_k06_kept_sets.main.body.getD i (.Pass ⟨0, 0, 0, 0⟩)
abbrev s_bounded : Stmt := top 9
theorem sc_bounded : FnScope ["number", "top"] ["number", "top"] (defScope s_bounded) := ⟨rfl, rfl, rfl, by decide +kernel, rfl, by decide +kernel, by decide +kernel⟩
abbrev s_box_place : Stmt := top 12
theorem sc_box_place : FnScope ["box"] ["box"] (defScope s_box_place) := ⟨rfl, rfl, rfl, by decide +kernel, rfl, by decide +kernel, by decide +kernel⟩
abbrev s_cell_place : Stmt := top 13
theorem sc_cell_place : FnScope ["cell", "high"] ["cell", "high"] (defScope s_cell_place) := ⟨rfl, rfl, rfl, by decide +kernel, rfl, by decide +kernel, by decide +kernel⟩
abbrev s_without : Stmt := top 14
theorem sc_without : FnScope ["places", "place"] ["places", "place"] (defScope s_without) := ⟨rfl, rfl, rfl, by decide +kernel, rfl, by decide +kernel, by decide +kernel⟩
abbrev s_filled : Stmt := top 15
theorem sc_filled : FnScope ["places", "place", "source"] ["places", "place", "source"] (defScope s_filled) := ⟨rfl, rfl, rfl, by decide +kernel, rfl, by decide +kernel, by decide +kernel⟩
abbrev s_Row_height : Stmt := inClass (top 16) 1
theorem sc_Row_height : FnScope ["self", "high"] ["self", "high"] (defScope s_Row_height) := ⟨rfl, rfl, rfl, by decide +kernel, rfl, by decide +kernel, by decide +kernel⟩
abbrev s_Row_keeps : Stmt := inClass (top 16) 2
theorem sc_Row_keeps : FnScope ["self", "places", "high"] ["self", "places", "high"] (defScope s_Row_keeps) := ⟨rfl, rfl, rfl, by decide +kernel, rfl, by decide +kernel, by decide +kernel⟩
abbrev s_Set_init : Stmt := inClass (top 17) 0
theorem sc_Set_init : FnScope ["self", "box", "number"] ["self", "box", "number"] (defScope s_Set_init) := ⟨rfl, rfl, rfl, by decide +kernel, rfl, by decide +kernel, by decide +kernel⟩
abbrev s_Set_keeps : Stmt := inClass (top 17) 2
theorem sc_Set_keeps : FnScope ["self", "places", "high"] ["self", "places", "high"] (defScope s_Set_keeps) := ⟨rfl, rfl, rfl, by decide +kernel, rfl, by decide +kernel, by decide +kernel⟩
abbrev s_Copy_init : Stmt := inClass (top 18) 0
theorem sc_Copy_init : FnScope ["self", "box", "one"] ["self", "box", "one"] (defScope s_Copy_init) := ⟨rfl, rfl, rfl, by decide +kernel, rfl, by decide +kernel, by decide +kernel⟩
abbrev s_Copy_keeps : Stmt := inClass (top 18) 2
theorem sc_Copy_keeps : FnScope ["self", "places", "high"] ["self", "places", "high"] (defScope s_Copy_keeps) := ⟨rfl, rfl, rfl, by decide +kernel, rfl, by decide +kernel, by decide +kernel⟩
abbrev s_Reckoning_init : Stmt := inClass (top 19) 0
theorem sc_Reckoning_init : FnScope ["self", "box", "one", "other"] ["self", "box", "one", "other"] (defScope s_Reckoning_init) := ⟨rfl, rfl, rfl, by decide +kernel, rfl, by decide +kernel, by decide +kernel⟩
abbrev s_Reckoning_keeps : Stmt := inClass (top 19) 1
theorem sc_Reckoning_keeps : FnScope ["self", "places", "high"] ["self", "places", "high"] (defScope s_Reckoning_keeps) := ⟨rfl, rfl, rfl, by decide +kernel, rfl, by decide +kernel, by decide +kernel⟩
abbrev s_Grow_init : Stmt := inClass (top 24) 0
theorem sc_Grow_init : FnScope ["self", "many"] ["self", "many"] (defScope s_Grow_init) := ⟨rfl, rfl, rfl, by decide +kernel, rfl, by decide +kernel, by decide +kernel⟩
abbrev s_Grow_height : Stmt := inClass (top 24) 2
theorem sc_Grow_height : FnScope ["self", "high"] ["self", "high"] (defScope s_Grow_height) := ⟨rfl, rfl, rfl, by decide +kernel, rfl, by decide +kernel, by decide +kernel⟩
abbrev s_Shrink_init : Stmt := inClass (top 25) 0
theorem sc_Shrink_init : FnScope ["self", "many"] ["self", "many"] (defScope s_Shrink_init) := ⟨rfl, rfl, rfl, by decide +kernel, rfl, by decide +kernel, by decide +kernel⟩
abbrev s_Shrink_height : Stmt := inClass (top 25) 2
theorem sc_Shrink_height : FnScope ["self", "high"] ["self", "high"] (defScope s_Shrink_height) := ⟨rfl, rfl, rfl, by decide +kernel, rfl, by decide +kernel, by decide +kernel⟩
abbrev s_Shrink_keeps : Stmt := inClass (top 25) 3
theorem sc_Shrink_keeps : FnScope ["self", "places", "high", "gone"] ["self", "places", "high"] (defScope s_Shrink_keeps) := ⟨rfl, rfl, rfl, by decide +kernel, rfl, by decide +kernel, by decide +kernel⟩
abbrev s_Reaching_init : Stmt := inClass (top 26) 0
theorem sc_Reaching_init : FnScope ["self", "box", "cell"] ["self", "box", "cell"] (defScope s_Reaching_init) := ⟨rfl, rfl, rfl, by decide +kernel, rfl, by decide +kernel, by decide +kernel⟩
abbrev s_Reaching_height : Stmt := inClass (top 26) 1
theorem sc_Reaching_height : FnScope ["self", "high"] ["self", "high"] (defScope s_Reaching_height) := ⟨rfl, rfl, rfl, by decide +kernel, rfl, by decide +kernel, by decide +kernel⟩
abbrev s_Put_keeps : Stmt := inClass (top 27) 1
theorem sc_Put_keeps : FnScope ["self", "places", "high"] ["self", "places", "high"] (defScope s_Put_keeps) := ⟨rfl, rfl, rfl, by decide +kernel, rfl, by decide +kernel, by decide +kernel⟩
abbrev s_Get_keeps : Stmt := inClass (top 28) 1
theorem sc_Get_keeps : FnScope ["self", "places", "high"] ["self", "places", "high"] (defScope s_Get_keeps) := ⟨rfl, rfl, rfl, by decide +kernel, rfl, by decide +kernel, by decide +kernel⟩
abbrev s_Jump_init : Stmt := inClass (top 31) 0
theorem sc_Jump_init : FnScope ["self", "target"] ["self", "target"] (defScope s_Jump_init) := ⟨rfl, rfl, rfl, by decide +kernel, rfl, by decide +kernel, by decide +kernel⟩
abbrev s_Branch_init : Stmt := inClass (top 32) 0
theorem sc_Branch_init : FnScope ["self", "box", "target"] ["self", "box", "target"] (defScope s_Branch_init) := ⟨rfl, rfl, rfl, by decide +kernel, rfl, by decide +kernel, by decide +kernel⟩
abbrev s_Call_init : Stmt := inClass (top 33) 0
theorem sc_Call_init : FnScope ["self", "target"] ["self", "target"] (defScope s_Call_init) := ⟨rfl, rfl, rfl, by decide +kernel, rfl, by decide +kernel, by decide +kernel⟩
abbrev s_Call_keeps : Stmt := inClass (top 33) 2
theorem sc_Call_keeps : FnScope ["self", "places", "high"] ["self", "places", "high"] (defScope s_Call_keeps) := ⟨rfl, rfl, rfl, by decide +kernel, rfl, by decide +kernel, by decide +kernel⟩
abbrev s_Back_init : Stmt := inClass (top 34) 0
theorem sc_Back_init : FnScope ["self", "box"] ["self", "box"] (defScope s_Back_init) := ⟨rfl, rfl, rfl, by decide +kernel, rfl, by decide +kernel, by decide +kernel⟩
abbrev s_Drop_init : Stmt := inClass (top 35) 0
theorem sc_Drop_init : FnScope ["self", "box"] ["self", "box"] (defScope s_Drop_init) := ⟨rfl, rfl, rfl, by decide +kernel, rfl, by decide +kernel, by decide +kernel⟩
abbrev s_law_cell_at : Stmt := top 37
theorem sc_law_cell_at : FnScope ["_law_script", "_law_k"] ["_law_script", "_law_k"] (defScope s_law_cell_at) := ⟨rfl, rfl, rfl, by decide +kernel, rfl, by decide +kernel, by decide +kernel⟩
abbrev s_law_whole : Stmt := top 38
theorem sc_law_whole : FnScope ["_law_found"] ["_law_found"] (defScope s_law_whole) := ⟨rfl, rfl, rfl, by decide +kernel, rfl, by decide +kernel, by decide +kernel⟩
abbrev s_law_mixed : Stmt := top 39
theorem sc_law_mixed : FnScope ["_law_cell", "_law_k", "_law_number"] ["_law_cell", "_law_k"] (defScope s_law_mixed) := ⟨rfl, rfl, rfl, by decide +kernel, rfl, by decide +kernel, by decide +kernel⟩
abbrev s_law_filling : Stmt := top 40
theorem sc_law_filling : FnScope ["_law_kind", "_law_box", "_law_one", "_law_cell"] ["_law_kind", "_law_box", "_law_one", "_law_cell"] (defScope s_law_filling) := ⟨rfl, rfl, rfl, by decide +kernel, rfl, by decide +kernel, by decide +kernel⟩
abbrev s_law_going : Stmt := top 41
theorem sc_law_going : FnScope ["_law_kind", "_law_box", "_law_cell"] ["_law_kind", "_law_box", "_law_cell"] (defScope s_law_going) := ⟨rfl, rfl, rfl, by decide +kernel, rfl, by decide +kernel, by decide +kernel⟩
abbrev s_law_row : Stmt := top 42
theorem sc_law_row : FnScope ["_law_kind", "_law_box", "_law_one", "_law_many", "_law_cell"] ["_law_kind", "_law_box", "_law_one", "_law_many", "_law_cell"] (defScope s_law_row) := ⟨rfl, rfl, rfl, by decide +kernel, rfl, by decide +kernel, by decide +kernel⟩
abbrev s_law_due : Stmt := top 43
theorem sc_law_due : FnScope ["_law_kind", "_law_box", "_law_one", "_law_many", "_law_high", "_law_places", "_law_there", "_law_filled", "_law_source", "_law_rest"] ["_law_kind", "_law_box", "_law_one", "_law_many", "_law_high", "_law_places"] (defScope s_law_due) := ⟨rfl, rfl, rfl, by decide +kernel, rfl, by decide +kernel, by decide +kernel⟩
abbrev s_law : Stmt := top 44
theorem sc_law : FnScope ["_law_script", "_law_cell", "_law_kind", "_law_high", "_law_many", "_law_part", "_law_box", "_law_one", "_law_row_here", "_law_share", "_law_places", "_law_found", "_law_due_here"] ["_law_script"] (defScope s_law) := ⟨rfl, rfl, rfl, by decide +kernel, rfl, by decide +kernel, by decide +kernel⟩
structure Txt (K : PySem.W.Frag) (mg : Str → Option Value) (a : Adr) : Prop where
  z_bool : mg "bool" = none
  z_int : mg "int" = none
  z_isinstance : mg "isinstance" = none
  z_len : mg "len" = none
  z_range : mg "range" = none
  z_sum : mg "sum" = none
  g_FIRST_CELL_BIT : ∃ t, mg "FIRST_CELL_BIT" = some (Value.int 8 t)
  g_LOST_BY_CALL : ∃ t, mg "LOST_BY_CALL" = some (Value.int 143 t)
  g_TOP_BOX : ∃ t, mg "TOP_BOX" = some (Value.int 7 t)
  g_TOP_CELLS : ∃ t, mg "TOP_CELLS" = some (Value.int 4000 t)
  g_TOP_TARGET : ∃ t, mg "TOP_TARGET" = some (Value.int 2000 t)
  g_TOP_VALUE : ∃ t, mg "TOP_VALUE" = some (Value.int 4294967295 t)
  c_Add : mg "Add" = some (.ref a.C_Add)
  c_Back : mg "Back" = some (.ref a.C_Back)
  c_Branch : mg "Branch" = some (.ref a.C_Branch)
  c_Call : mg "Call" = some (.ref a.C_Call)
  c_Copy : mg "Copy" = some (.ref a.C_Copy)
  c_Drop : mg "Drop" = some (.ref a.C_Drop)
  c_Get : mg "Get" = some (.ref a.C_Get)
  c_Grow : mg "Grow" = some (.ref a.C_Grow)
  c_Jump : mg "Jump" = some (.ref a.C_Jump)
  c_Less : mg "Less" = some (.ref a.C_Less)
  c_Mul : mg "Mul" = some (.ref a.C_Mul)
  c_NoRow : mg "NoRow" = some (.ref a.C_NoRow)
  c_Put : mg "Put" = some (.ref a.C_Put)
  c_Set : mg "Set" = some (.ref a.C_Set)
  c_Shrink : mg "Shrink" = some (.ref a.C_Shrink)
  c_Sub : mg "Sub" = some (.ref a.C_Sub)
  cl_Less : Cls K a.C_Less
  n_Less_box : NoAttr K a.C_Less "box"
  n_Less_one : NoAttr K a.C_Less "one"
  n_Less_other : NoAttr K a.C_Less "other"
  i_Less : ∃ f fd, Fun K "__init__" "Reckoning.__init__" s_Reckoning_init f fd ∧ Mk K a.C_Less f ∧ Binds K fd ["self", "box", "one", "other"] []
  m_Less_height : ∃ f fd, Fun K "height" "Row.height" s_Row_height f fd ∧ Meth K a.C_Less "height" f ∧ Binds K fd ["self", "high"] []
  m_Less_keeps : ∃ f fd, Fun K "keeps" "Reckoning.keeps" s_Reckoning_keeps f fd ∧ Meth K a.C_Less "keeps" f ∧ Binds K fd ["self", "places", "high"] []
  cl_Set : Cls K a.C_Set
  n_Set_box : NoAttr K a.C_Set "box"
  n_Set_number : NoAttr K a.C_Set "number"
  i_Set : ∃ f fd, Fun K "__init__" "Set.__init__" s_Set_init f fd ∧ Mk K a.C_Set f ∧ Binds K fd ["self", "box", "number"] []
  m_Set_height : ∃ f fd, Fun K "height" "Row.height" s_Row_height f fd ∧ Meth K a.C_Set "height" f ∧ Binds K fd ["self", "high"] []
  m_Set_keeps : ∃ f fd, Fun K "keeps" "Set.keeps" s_Set_keeps f fd ∧ Meth K a.C_Set "keeps" f ∧ Binds K fd ["self", "places", "high"] []
  cl_Copy : Cls K a.C_Copy
  n_Copy_box : NoAttr K a.C_Copy "box"
  n_Copy_one : NoAttr K a.C_Copy "one"
  i_Copy : ∃ f fd, Fun K "__init__" "Copy.__init__" s_Copy_init f fd ∧ Mk K a.C_Copy f ∧ Binds K fd ["self", "box", "one"] []
  m_Copy_height : ∃ f fd, Fun K "height" "Row.height" s_Row_height f fd ∧ Meth K a.C_Copy "height" f ∧ Binds K fd ["self", "high"] []
  m_Copy_keeps : ∃ f fd, Fun K "keeps" "Copy.keeps" s_Copy_keeps f fd ∧ Meth K a.C_Copy "keeps" f ∧ Binds K fd ["self", "places", "high"] []
  cl_Add : Cls K a.C_Add
  n_Add_box : NoAttr K a.C_Add "box"
  n_Add_one : NoAttr K a.C_Add "one"
  n_Add_other : NoAttr K a.C_Add "other"
  i_Add : ∃ f fd, Fun K "__init__" "Reckoning.__init__" s_Reckoning_init f fd ∧ Mk K a.C_Add f ∧ Binds K fd ["self", "box", "one", "other"] []
  m_Add_height : ∃ f fd, Fun K "height" "Row.height" s_Row_height f fd ∧ Meth K a.C_Add "height" f ∧ Binds K fd ["self", "high"] []
  m_Add_keeps : ∃ f fd, Fun K "keeps" "Reckoning.keeps" s_Reckoning_keeps f fd ∧ Meth K a.C_Add "keeps" f ∧ Binds K fd ["self", "places", "high"] []
  cl_Sub : Cls K a.C_Sub
  n_Sub_box : NoAttr K a.C_Sub "box"
  n_Sub_one : NoAttr K a.C_Sub "one"
  n_Sub_other : NoAttr K a.C_Sub "other"
  i_Sub : ∃ f fd, Fun K "__init__" "Reckoning.__init__" s_Reckoning_init f fd ∧ Mk K a.C_Sub f ∧ Binds K fd ["self", "box", "one", "other"] []
  m_Sub_height : ∃ f fd, Fun K "height" "Row.height" s_Row_height f fd ∧ Meth K a.C_Sub "height" f ∧ Binds K fd ["self", "high"] []
  m_Sub_keeps : ∃ f fd, Fun K "keeps" "Reckoning.keeps" s_Reckoning_keeps f fd ∧ Meth K a.C_Sub "keeps" f ∧ Binds K fd ["self", "places", "high"] []
  cl_Mul : Cls K a.C_Mul
  n_Mul_box : NoAttr K a.C_Mul "box"
  n_Mul_one : NoAttr K a.C_Mul "one"
  n_Mul_other : NoAttr K a.C_Mul "other"
  i_Mul : ∃ f fd, Fun K "__init__" "Reckoning.__init__" s_Reckoning_init f fd ∧ Mk K a.C_Mul f ∧ Binds K fd ["self", "box", "one", "other"] []
  m_Mul_height : ∃ f fd, Fun K "height" "Row.height" s_Row_height f fd ∧ Meth K a.C_Mul "height" f ∧ Binds K fd ["self", "high"] []
  m_Mul_keeps : ∃ f fd, Fun K "keeps" "Reckoning.keeps" s_Reckoning_keeps f fd ∧ Meth K a.C_Mul "keeps" f ∧ Binds K fd ["self", "places", "high"] []
  cl_Drop : Cls K a.C_Drop
  n_Drop_box : NoAttr K a.C_Drop "box"
  i_Drop : ∃ f fd, Fun K "__init__" "Drop.__init__" s_Drop_init f fd ∧ Mk K a.C_Drop f ∧ Binds K fd ["self", "box"] []
  m_Drop_height : ∃ f fd, Fun K "height" "Row.height" s_Row_height f fd ∧ Meth K a.C_Drop "height" f ∧ Binds K fd ["self", "high"] []
  m_Drop_keeps : ∃ f fd, Fun K "keeps" "Row.keeps" s_Row_keeps f fd ∧ Meth K a.C_Drop "keeps" f ∧ Binds K fd ["self", "places", "high"] []
  cl_Jump : Cls K a.C_Jump
  n_Jump_target : NoAttr K a.C_Jump "target"
  i_Jump : ∃ f fd, Fun K "__init__" "Jump.__init__" s_Jump_init f fd ∧ Mk K a.C_Jump f ∧ Binds K fd ["self", "target"] []
  m_Jump_height : ∃ f fd, Fun K "height" "Row.height" s_Row_height f fd ∧ Meth K a.C_Jump "height" f ∧ Binds K fd ["self", "high"] []
  m_Jump_keeps : ∃ f fd, Fun K "keeps" "Row.keeps" s_Row_keeps f fd ∧ Meth K a.C_Jump "keeps" f ∧ Binds K fd ["self", "places", "high"] []
  cl_Branch : Cls K a.C_Branch
  n_Branch_box : NoAttr K a.C_Branch "box"
  n_Branch_target : NoAttr K a.C_Branch "target"
  i_Branch : ∃ f fd, Fun K "__init__" "Branch.__init__" s_Branch_init f fd ∧ Mk K a.C_Branch f ∧ Binds K fd ["self", "box", "target"] []
  m_Branch_height : ∃ f fd, Fun K "height" "Row.height" s_Row_height f fd ∧ Meth K a.C_Branch "height" f ∧ Binds K fd ["self", "high"] []
  m_Branch_keeps : ∃ f fd, Fun K "keeps" "Row.keeps" s_Row_keeps f fd ∧ Meth K a.C_Branch "keeps" f ∧ Binds K fd ["self", "places", "high"] []
  cl_Call : Cls K a.C_Call
  n_Call_target : NoAttr K a.C_Call "target"
  i_Call : ∃ f fd, Fun K "__init__" "Call.__init__" s_Call_init f fd ∧ Mk K a.C_Call f ∧ Binds K fd ["self", "target"] []
  m_Call_height : ∃ f fd, Fun K "height" "Row.height" s_Row_height f fd ∧ Meth K a.C_Call "height" f ∧ Binds K fd ["self", "high"] []
  m_Call_keeps : ∃ f fd, Fun K "keeps" "Call.keeps" s_Call_keeps f fd ∧ Meth K a.C_Call "keeps" f ∧ Binds K fd ["self", "places", "high"] []
  cl_Back : Cls K a.C_Back
  n_Back_box : NoAttr K a.C_Back "box"
  i_Back : ∃ f fd, Fun K "__init__" "Back.__init__" s_Back_init f fd ∧ Mk K a.C_Back f ∧ Binds K fd ["self", "box"] []
  m_Back_height : ∃ f fd, Fun K "height" "Row.height" s_Row_height f fd ∧ Meth K a.C_Back "height" f ∧ Binds K fd ["self", "high"] []
  m_Back_keeps : ∃ f fd, Fun K "keeps" "Row.keeps" s_Row_keeps f fd ∧ Meth K a.C_Back "keeps" f ∧ Binds K fd ["self", "places", "high"] []
  cl_Get : Cls K a.C_Get
  n_Get_box : NoAttr K a.C_Get "box"
  n_Get_cell : NoAttr K a.C_Get "cell"
  i_Get : ∃ f fd, Fun K "__init__" "Reaching.__init__" s_Reaching_init f fd ∧ Mk K a.C_Get f ∧ Binds K fd ["self", "box", "cell"] []
  m_Get_height : ∃ f fd, Fun K "height" "Reaching.height" s_Reaching_height f fd ∧ Meth K a.C_Get "height" f ∧ Binds K fd ["self", "high"] []
  m_Get_keeps : ∃ f fd, Fun K "keeps" "Get.keeps" s_Get_keeps f fd ∧ Meth K a.C_Get "keeps" f ∧ Binds K fd ["self", "places", "high"] []
  cl_Grow : Cls K a.C_Grow
  n_Grow_many : NoAttr K a.C_Grow "many"
  i_Grow : ∃ f fd, Fun K "__init__" "Grow.__init__" s_Grow_init f fd ∧ Mk K a.C_Grow f ∧ Binds K fd ["self", "many"] []
  m_Grow_height : ∃ f fd, Fun K "height" "Grow.height" s_Grow_height f fd ∧ Meth K a.C_Grow "height" f ∧ Binds K fd ["self", "high"] []
  m_Grow_keeps : ∃ f fd, Fun K "keeps" "Row.keeps" s_Row_keeps f fd ∧ Meth K a.C_Grow "keeps" f ∧ Binds K fd ["self", "places", "high"] []
  cl_Shrink : Cls K a.C_Shrink
  n_Shrink_many : NoAttr K a.C_Shrink "many"
  i_Shrink : ∃ f fd, Fun K "__init__" "Shrink.__init__" s_Shrink_init f fd ∧ Mk K a.C_Shrink f ∧ Binds K fd ["self", "many"] []
  m_Shrink_height : ∃ f fd, Fun K "height" "Shrink.height" s_Shrink_height f fd ∧ Meth K a.C_Shrink "height" f ∧ Binds K fd ["self", "high"] []
  m_Shrink_keeps : ∃ f fd, Fun K "keeps" "Shrink.keeps" s_Shrink_keeps f fd ∧ Meth K a.C_Shrink "keeps" f ∧ Binds K fd ["self", "places", "high"] []
  cl_Put : Cls K a.C_Put
  n_Put_box : NoAttr K a.C_Put "box"
  n_Put_cell : NoAttr K a.C_Put "cell"
  i_Put : ∃ f fd, Fun K "__init__" "Reaching.__init__" s_Reaching_init f fd ∧ Mk K a.C_Put f ∧ Binds K fd ["self", "box", "cell"] []
  m_Put_height : ∃ f fd, Fun K "height" "Reaching.height" s_Reaching_height f fd ∧ Meth K a.C_Put "height" f ∧ Binds K fd ["self", "high"] []
  m_Put_keeps : ∃ f fd, Fun K "keeps" "Put.keeps" s_Put_keeps f fd ∧ Meth K a.C_Put "keeps" f ∧ Binds K fd ["self", "places", "high"] []
  k_int_int : PySem.W.kitOne K (.type "int") (.type "int") = some true
  k_int_bool : PySem.W.kitOne K (.type "int") (.type "bool") = some false
  fn_bounded : ∃ f fd, Fun K "bounded" "bounded" s_bounded f fd ∧ mg "bounded" = some (.ref f) ∧ Binds K fd ["number", "top"] []
  fn_box_place : ∃ f fd, Fun K "box_place" "box_place" s_box_place f fd ∧ mg "box_place" = some (.ref f) ∧ Binds K fd ["box"] []
  fn_cell_place : ∃ f fd, Fun K "cell_place" "cell_place" s_cell_place f fd ∧ mg "cell_place" = some (.ref f) ∧ Binds K fd ["cell", "high"] []
  fn_without : ∃ f fd, Fun K "without" "without" s_without f fd ∧ mg "without" = some (.ref f) ∧ Binds K fd ["places", "place"] []
  fn_filled : ∃ f fd, Fun K "filled" "filled" s_filled f fd ∧ mg "filled" = some (.ref f) ∧ Binds K fd ["places", "place", "source"] []
  fn_law_cell_at : ∃ f fd, Fun K "_law_cell_at" "_law_cell_at" s_law_cell_at f fd ∧ mg "_law_cell_at" = some (.ref f) ∧ Binds K fd ["_law_script", "_law_k"] []
  fn_law_whole : ∃ f fd, Fun K "_law_whole" "_law_whole" s_law_whole f fd ∧ mg "_law_whole" = some (.ref f) ∧ Binds K fd ["_law_found"] []
  fn_law_mixed : ∃ f fd, Fun K "_law_mixed" "_law_mixed" s_law_mixed f fd ∧ mg "_law_mixed" = some (.ref f) ∧ Binds K fd ["_law_cell", "_law_k"] []
  fn_law_filling : ∃ f fd, Fun K "_law_filling" "_law_filling" s_law_filling f fd ∧ mg "_law_filling" = some (.ref f) ∧ Binds K fd ["_law_kind", "_law_box", "_law_one", "_law_cell"] []
  fn_law_going : ∃ f fd, Fun K "_law_going" "_law_going" s_law_going f fd ∧ mg "_law_going" = some (.ref f) ∧ Binds K fd ["_law_kind", "_law_box", "_law_cell"] []
  fn_law_row : ∃ f fd, Fun K "_law_row" "_law_row" s_law_row f fd ∧ mg "_law_row" = some (.ref f) ∧ Binds K fd ["_law_kind", "_law_box", "_law_one", "_law_many", "_law_cell"] []
  fn_law_due : ∃ f fd, Fun K "_law_due" "_law_due" s_law_due f fd ∧ mg "_law_due" = some (.ref f) ∧ Binds K fd ["_law_kind", "_law_box", "_law_one", "_law_many", "_law_high", "_law_places"] []
  fn_law : ∃ f fd, Fun K "law" "law" s_law f fd ∧ mg "law" = some (.ref f) ∧ Binds K fd ["_law_script"] []

abbrev emb (p : Nat) : V := .int (p : Int)
theorem flat_emb (ps : List Nat) : (ps.map emb).all flatV = true := by rw [List.all_map]; exact List.all_eq_true.mpr fun _ _ => rfl
theorem inV_emb (q : Nat) (ps : List Nat) : inV (.int (q : Int)) (ps.map emb) = decide (q ∈ ps) := by
  unfold inV
  rw [List.any_map]
  induction ps with
  | nil => rfl
  | cons p ps ih =>
    rw [List.any_cons, ih]
    show (eqV (.int (p : Int)) (.int (q : Int)) || _) = _
    by_cases e : q = p
    · subst e; simp [eqV]
    · have : ¬ ((p : Int) = q) := by omega
      simp [eqV, e, this]
theorem inV_neg (ps : List Nat) : inV (.int (-1)) (ps.map emb) = false := by
  unfold inV
  rw [List.any_map]
  induction ps with
  | nil => rfl
  | cons p ps ih =>
    rw [List.any_cons, ih]
    show (eqV (.int (p : Int)) (.int (-1)) || _) = _
    have : ¬ ((p : Int) = -1) := by omega
    simp [eqV, this]
def spMixed : Sp := fun vs H Q _ => ∃ c k : Int, vs = [.int c, .int k] ∧ 0 ≤ k ∧ ∀ r : Int, Q (.int r) H
theorem r_mixed {c k : Int} {H : Hp} {Q : VK} {E : XK} (h : 0 ≤ k) (q : ∀ r : Int, Q (.int r) H) : spMixed [.int c, .int k] H Q E := ⟨c, k, rfl, h, q⟩
def fillOf (k b o c : Int) : Rw := if k = 0 then .set b (c / 512 % 4294967296) else if k = 1 then .copy b o else if k = 2 then .add b o (c / 64 % 8) else if k = 3 then .sub b o (c / 64 % 8)
  else if k = 4 then .mul b o (c / 64 % 8) else .less b o (c / 64 % 8)
def goOf (k b c : Int) : Rw := if k = 6 then .jump (c / 8 % 2001) else if k = 7 then .branch b (c / 8 % 2001) else if k = 8 then .call (c / 8 % 2001) else if k = 9 then .back b else .drop b
def rowOf (k b o m c : Int) : Rw := if k < 6 then fillOf k b o c else if k < 11 then goOf k b c else if k = 11 then .grow m else if k = 12 then .shrink m else if k = 13 then .put b m else .get b m
def spFill (a : Adr) : Sp := fun vs H Q _ => ∃ k b o c : Int, vs = [.int k, .int b, .int o, .int c] ∧ isBox b ∧ isBox o ∧ ∀ p H', Same H H' → H p = none → RowAt a H' p (fillOf k b o c) → Q (.ref p) H'
def spGoing (a : Adr) : Sp := fun vs H Q _ => ∃ k b c : Int, vs = [.int k, .int b, .int c] ∧ isBox b ∧ ∀ p H', Same H H' → H p = none → RowAt a H' p (goOf k b c) → Q (.ref p) H'
def spRow (a : Adr) : Sp := fun vs H Q _ => ∃ k b o m c : Int, vs = [.int k, .int b, .int o, .int m, .int c] ∧ isBox b ∧ isBox o ∧ isMany m ∧ ∀ p H', Same H H' → H p = none → RowAt a H' p (rowOf k b o m c) → Q (.ref p) H'
def restS (f : Nat) (src : Option Nat) (ps : List Nat) : List Nat := ps.filter (fun p => decide (p ≠ f)) ++ (match src with | none => [] | some q => if q ∈ ps then [f] else [])
def dueS (k b o m h : Int) (ps : List Nat) : List Nat :=
  if k = 12 then ps.filter (fun p => decide ((p : Int) < 8 + h - m)) else if k = 8 then ps.filter (fun p => decide (7 < p) || (decide (3 < p) && decide (p < 7)))
  else if k = 6 ∨ k = 7 ∨ k = 9 ∨ k = 10 ∨ k = 11 then ps
  else if k = 1 then restS b.toNat (some o.toNat) ps else if k = 13 then restS (8 + h - 1 - m).toNat (some b.toNat) ps else if k = 14 then restS b.toNat (some (8 + h - 1 - m).toNat) ps else restS b.toNat none ps
def spDue (K : PySem.W.Frag) : Sp := fun vs H Q _ => ∃ (k b o m h : Int) (p : Addr) (ps : List Nat), vs = [.int k, .int b, .int o, .int m, .int h, .ref p] ∧ 0 ≤ k ∧ k ≤ 14 ∧ isBox b ∧ isBox o ∧ isMany m ∧ 0 ≤ h ∧ h ≤ 4000 ∧ (12 < k → m < h) ∧ H p = some (.lst (ps.map emb)) ∧ ps.length ≤ 5000 ∧
  ∀ r H', Same H H' → H' r = some (.lst ((dueS k b o m h ps).map emb)) → Q (.ref r) H'
def spDueP (pk : Int → Prop) (K : PySem.W.Frag) : Sp := fun vs H Q _ => ∃ (k b o m h : Int) (p : Addr) (ps : List Nat), vs = [.int k, .int b, .int o, .int m, .int h, .ref p] ∧ pk k ∧ isBox b ∧ isBox o ∧ isMany m ∧ 0 ≤ h ∧ h ≤ 4000 ∧ (12 < k → m < h) ∧ H p = some (.lst (ps.map emb)) ∧ ps.length ≤ 5000 ∧
  ∀ r H', Same H H' → H' r = some (.lst ((dueS k b o m h ps).map emb)) → Q (.ref r) H'
def pickA (x : Int) : Int := if x % 4 = 0 then 1 else if x % 4 = 1 then 13 else if x % 4 = 2 then 14 else 12
theorem at4a (x : Int) : atI [V.int 1, .int 13, .int 14, .int 12] (x % 4) = some (.int (pickA x)) := by
  have h : x % 4 = 0 ∨ x % 4 = 1 ∨ x % 4 = 2 ∨ x % 4 = 3 := by omega
  unfold pickA
  rcases h with h | h | h | h <;> rw [h] <;> rfl
theorem pickA_ok (x : Int) : 0 ≤ pickA x ∧ pickA x ≤ 14 := by unfold pickA; (repeat' split) <;> omega
def pickB (x : Int) : Int := if x % 4 = 0 then 1 else if x % 4 = 1 then 2 else if x % 4 = 2 then 2 else 9
theorem at4b (x : Int) : atI [V.int 1, .int 2, .int 2, .int 9] (x % 4) = some (.int (pickB x)) := by
  have h : x % 4 = 0 ∨ x % 4 = 1 ∨ x % 4 = 2 ∨ x % 4 = 3 := by omega
  unfold pickB
  rcases h with h | h | h | h <;> rw [h] <;> rfl
theorem pickB_ok (x : Int) : 1 ≤ pickB x := by unfold pickB; (repeat' split) <;> omega
theorem height_hm {k b o m c h d : Int} (hh : (rowOf k b o m c).height h = some d) (k1 : k ≤ 14) : 12 < k → m < h := by
  intro hk
  have e : k = 13 ∨ k = 14 := by omega
  by_cases z : h ≤ m
  · exfalso
    rcases e with rfl | rfl
    · rw [show (rowOf 13 b o m c).height h = none from if_pos z] at hh; cases hh
    · rw [show (rowOf 14 b o m c).height h = none from if_pos z] at hh; cases hh
  · omega
theorem rowOf_ok {k b o m c : Int} (hb : isBox b) (ho : isBox o) (hm : isMany m) : (rowOf k b o m c).ok := by
  unfold rowOf fillOf goOf
  repeat' split
  all_goals first | exact hm | exact hb | exact ⟨by omega, by omega⟩ | exact ⟨hb, hm⟩ | exact ⟨hb, ho⟩ | exact ⟨hb, by omega, by omega⟩ | exact ⟨hb, ho, by omega, by omega⟩
theorem dueS_len (k b o m h : Int) (ps : List Nat) : (dueS k b o m h ps).length ≤ ps.length + 1 := by
  have hr : ∀ f src, (restS f src ps).length ≤ ps.length + 1 := fun f src => by
    unfold restS
    rw [List.length_append]
    have := List.length_filter_le (fun p => decide (p ≠ f)) ps
    split
    · simp only [List.length_nil]; omega
    · split <;> simp only [List.length_cons, List.length_nil] <;> omega
  unfold dueS
  repeat' split
  all_goals first | exact hr _ _ | exact Nat.le_succ_of_le (List.length_filter_le ..) | exact Nat.le_succ _
theorem dueS_lt {k b o m h : Int} {ps : List Nat} (hl : ∀ p ∈ ps, p < 100000) (hb : isBox b) (h1 : h ≤ 4000) (h2 : 0 ≤ m) : ∀ x ∈ dueS k b o m h ps, x < 100000 := by
  have hb1 := hb.1
  have hb2 := hb.2
  have hr : ∀ f src, f < 100000 → ∀ x ∈ restS f src ps, x < 100000 := fun f src hf x hx => by
    unfold restS at hx
    rcases List.mem_append.mp hx with hx | hx
    · exact hl x (List.mem_filter.mp hx).1
    · split at hx
      · exact absurd hx (by simp)
      · split at hx
        · have e : x = f := by simpa using hx
          omega
        · exact absurd hx (by simp)
  unfold dueS
  repeat' split
  all_goals intro x hx
  all_goals first | exact hl x (List.mem_filter.mp hx).1 | exact hl x hx | exact hr _ _ (by omega) x hx
theorem nodup_snoc {f : Nat} {ps : List Nat} (h : ps.Nodup) : (ps.filter (fun p => decide (p ≠ f)) ++ [f]).Nodup := by
  rw [List.nodup_append]
  refine ⟨h.filter _, by simp, ?_⟩
  intro x hx y hy
  have e : y = f := by simpa using hy
  have := (List.mem_filter.mp hx).2
  subst e
  simpa using this
theorem restS_nodup {f : Nat} {src : Option Nat} {ps : List Nat} (h : ps.Nodup) : (restS f src ps).Nodup := by
  unfold restS
  split
  · rw [List.append_nil]; exact h.filter _
  · split
    · exact nodup_snoc h
    · rw [List.append_nil]; exact h.filter _
theorem dueS_nodup {k b o m h : Int} {ps : List Nat} (hn : ps.Nodup) : (dueS k b o m h ps).Nodup := by
  unfold dueS
  repeat' split
  all_goals first | exact restS_nodup hn | exact hn.filter _ | exact hn
theorem sum_emb (ps : List Nat) : (ps.map fun p => ((2 ^ p : Nat) : Int)).sum = ((Bt.bits ps : Nat) : Int) := by
  induction ps with
  | nil => rfl
  | cons p ps ih => rw [List.map_cons, List.sum_cons, ih]; show _ = ((2 ^ p + Bt.bits ps : Nat) : Int); rw [Int.natCast_add]
theorem and_pow (s i : Nat) : (s &&& 2 ^ i = 0) ↔ s.testBit i = false := by
  constructor
  · intro h
    have := congrArg (fun x => x.testBit i) h
    simp only [Nat.testBit_and, Nat.testBit_two_pow, Nat.zero_testBit] at this
    simpa using this
  · intro h
    apply Nat.eq_of_testBit_eq; intro j
    rw [Nat.testBit_and, Nat.testBit_two_pow, Nat.zero_testBit]
    by_cases e : i = j
    · subst e; rw [h]; rfl
    · simp [e]
theorem wo_rest {f : Nat} {ps : List Nat} (hn : ps.Nodup) : Bt.wo (Bt.bits ps) (2 ^ f) = Bt.bits (restS f none ps) := by
  apply Nat.eq_of_testBit_eq; intro i
  rw [Bt.wo_bit, Bt.bits_bit _ hn, Bt.bits_bit _ (restS_nodup hn), Nat.testBit_two_pow]
  unfold restS
  rw [List.append_nil]
  by_cases e : i ∈ ps <;> by_cases e2 : i = f <;> simp [List.mem_filter, e, e2]
  all_goals (try subst e2) <;> simp_all [eq_comm]
theorem fill_rest {f q : Nat} {ps : List Nat} (hn : ps.Nodup) : fillS (Bt.bits ps) (2 ^ f) (2 ^ q) = Bt.bits (restS f (some q) ps) := by
  unfold fillS
  by_cases e : q ∈ ps
  · have e1 : ¬ (Bt.bits ps &&& 2 ^ q = 0) := by rw [and_pow, Bt.bits_bit _ hn]; simp [e]
    rw [if_neg e1]
    apply Nat.eq_of_testBit_eq; intro i
    rw [Nat.testBit_or, Bt.bits_bit _ hn, Bt.bits_bit _ (restS_nodup hn), Nat.testBit_two_pow]
    unfold restS
    simp only [if_pos e]
    by_cases ei : i ∈ ps <;> by_cases e2 : i = f <;> simp [List.mem_append, List.mem_filter, ei, e2]
    all_goals (try subst e2) <;> simp_all [eq_comm]
  · have e1 : Bt.bits ps &&& 2 ^ q = 0 := by rw [and_pow, Bt.bits_bit _ hn]; simp [e]
    rw [if_pos e1, wo_rest hn]
    unfold restS
    simp only [if_neg e]
theorem keep_due {k b o m h c : Int} {ps : List Nat} (hn : ps.Nodup) (hl : ∀ p ∈ ps, (p : Int) < 8 + h) (k0 : 0 ≤ k) (k1 : k ≤ 14) (hm : isMany m) (hh : ((rowOf k b o m c).height h).isSome = true) :
    (rowOf k b o m c).keep (Bt.bits ps) h = Bt.bits (dueS k b o m h ps) := by
  have hk : k = 0 ∨ k = 1 ∨ k = 2 ∨ k = 3 ∨ k = 4 ∨ k = 5 ∨ k = 6 ∨ k = 7 ∨ k = 8 ∨ k = 9 ∨ k = 10 ∨ k = 11 ∨ k = 12 ∨ k = 13 ∨ k = 14 := by omega
  rcases hk with rfl | rfl | rfl | rfl | rfl | rfl | rfl | rfl | rfl | rfl | rfl | rfl | rfl | rfl | rfl
  all_goals first
    | exact wo_rest hn
    | exact fill_rest hn
    | rfl
    | skip
  · show Bt.wo (Bt.bits ps) 143 = Bt.bits (ps.filter fun p => decide (7 < p) || (decide (3 < p) && decide (p < 7)))
    apply Nat.eq_of_testBit_eq; intro i
    rw [Bt.wo_bit, Bt.bits_bit _ hn, Bt.bits_bit _ (hn.filter _)]
    by_cases e : i ∈ ps
    · have e3 : (143 : Nat).testBit i = !(decide (7 < i) || (decide (3 < i) && decide (i < 7))) := by
        by_cases h8 : i < 8
        · have : i = 0 ∨ i = 1 ∨ i = 2 ∨ i = 3 ∨ i = 4 ∨ i = 5 ∨ i = 6 ∨ i = 7 := by omega
          rcases this with rfl | rfl | rfl | rfl | rfl | rfl | rfl | rfl <;> decide
        · rw [Nat.testBit_lt_two_pow (Nat.lt_of_lt_of_le (by decide : 143 < 2 ^ 8) (Nat.pow_le_pow_right (by decide) (by omega)))]
          simp; omega
      rw [e3]
      simp only [List.mem_filter, e, true_and, decide_true, Bool.true_and, Bool.not_not]
      cases (decide (7 < i) || (decide (3 < i) && decide (i < 7))) <;> rfl
    · simp [List.mem_filter, e]
  · have hm0 := hm.1
    have h2 : ¬ h < m := fun e => by rw [show (rowOf 12 b o m c).height h = none from if_pos e] at hh; cases hh
    show Bt.wo (Bt.bits ps) ((2 ^ m.toNat - 1) * 2 ^ (8 + h - m).toNat) = Bt.bits (ps.filter fun p => decide ((p : Int) < 8 + h - m))
    apply Nat.eq_of_testBit_eq; intro i
    rw [Bt.wo_bit, Bt.bits_bit _ hn, Bt.bits_bit _ (hn.filter _)]
    by_cases e : i ∈ ps
    · have hi := hl i e
      rw [Nat.testBit_mul_two_pow, Nat.testBit_two_pow_sub_one]
      simp only [List.mem_filter, e, true_and, decide_true, Bool.true_and, decide_eq_true_eq]
      by_cases h3 : (i : Int) < 8 + h - m
      · have : ¬ i ≥ (8 + h - m).toNat := by omega
        simp [h3, this]
      · have h4 : i ≥ (8 + h - m).toNat := by omega
        have h5 : i - (8 + h - m).toNat < m.toNat := by omega
        simp [h3, h4, h5]
    · simp [List.mem_filter, e]

local macro_rules | `(tactic| walk_at "mine") => `(tactic| ((with_reducible refine' r_mixed ?h (fun _ => ?_)); (case h => omega)))
section
variable {P : Program} {w : World} {K : PySem.W.Frag} {mg : Str → Option Value} {base : Heap} {a : Adr}
set_option maxHeartbeats 4000000 in
theorem bd_law_due_k12 (T : Txt K mg a) : BodyOk P w K mg base 0 "_law_due" s_law_due ["_law_kind", "_law_box", "_law_one", "_law_many", "_law_high", "_law_places", "_law_there", "_law_filled", "_law_source", "_law_rest"] (spDueP (fun k => k = 12) K) := by
    intro f cdv A outer s H vs Q E hr h
    obtain ⟨k, b, o, m, z, p, ps, rfl, hk, ⟨b1, b2⟩, ⟨o1, o2⟩, ⟨m1, m2⟩, z0, z1, hmz, hp, hpl, q⟩ := h
    have hl : ∀ f : Nat → Bool, (ps.filter f).length ≤ 5000 := fun f => Nat.le_trans (List.length_filter_le f ps) hpl
    refine ⟨_, (pss_cons (ps_set (i := 6) sc_law_due.nd rfl (Or.inl rfl) (pe_op op_sub (pe_op op_sub (pe_op (op_plusK (K := K) rfl) pe_int (pv 4)) pe_int) (pv 3)))
      (pss_cons (ps_if (pt_cmpR (op_eqK (K := K) rfl hr.units) (pv 0) pe_int (nomark _)) (pss_one (ps_ret (pe_comp (own := ["_law_place"]) (fr := [("_law_many", 3), ("_law_high", 4)]) rfl ⟨rfl, (by walk_at "clok"), (by walk_at "frok"), rfl, (by decide +kernel), (by decide +kernel), rfl⟩ (pi_seqK (K := K) rfl (pv 5)) (fun _ _ _ _ => (pg_name (i := 0) (show List.Nodup [("_law_place" : Str), ("_law_many" : Str), ("_law_high" : Str)] from by decide +kernel) rfl (Or.inl rfl))) (fun _ _ _ _ => (pts_one (pt_cmpR op_lt (pv 0) (pe_op op_sub (pe_op (op_plusK (K := K) rfl) pe_int (pv 2)) (pv 1)) (nomark _)))) (fun _ _ _ _ => (pv 0))))) pss_nil)
      (pss_cons (ps_if (pt_cmpR (op_eqK (K := K) rfl hr.units) (pv 0) pe_int (nomark _)) (pss_one (ps_ret (pe_comp (own := ["_law_place"]) (fr := []) rfl ⟨rfl, (by walk_at "clok"), (by walk_at "frok"), rfl, (by decide +kernel), (by decide +kernel), rfl⟩ (pi_seqK (K := K) rfl (pv 5)) (fun _ _ _ _ => (pg_name (i := 0) (show List.Nodup [("_law_place" : Str)] from by decide +kernel) rfl (Or.inl rfl))) (fun _ _ _ _ => (pts_one (PW.pt (pw_or (pt_cmpR op_gt (pv 0) pe_int (nomark _)) (pw_or1 (pt_chain op_lt op_lt pe_int (pv 0) pe_int)))))) (fun _ _ _ _ => (pv 0))))) pss_nil)
      (pss_cons (ps_if (pt_cmpR (op_inK (K := K) rfl) (pv 0) (pe_tup (pa_cons pe_int (pa_cons pe_int (pa_cons pe_int (pa_cons pe_int (pa_cons pe_int pa_nil)))))) rfl) (pss_one (ps_ret (pv 5))) pss_nil)
      (pss_cons (ps_set (i := 7) sc_law_due.nd rfl (Or.inr rfl) (pv 1))
      (pss_cons (ps_set (i := 8) sc_law_due.nd rfl (Or.inl rfl) (pe_un un_neg pe_int))
      (pss_cons (ps_if (pt_cmpR (op_eqK (K := K) rfl hr.units) (pv 0) pe_int (nomark _)) (pss_one (ps_set (i := 8) sc_law_due.nd rfl (Or.inl rfl) (pv 2))) pss_nil)
      (pss_cons (ps_if (pt_cmpR (op_eqK (K := K) rfl hr.units) (pv 0) pe_int (nomark _)) (pss_cons (ps_set (i := 7) sc_law_due.nd rfl (Or.inr rfl) (pv 6))
      (pss_one (ps_set (i := 8) sc_law_due.nd rfl (Or.inl rfl) (pv 1)))) pss_nil)
      (pss_cons (ps_if (pt_cmpR (op_eqK (K := K) rfl hr.units) (pv 0) pe_int (nomark _)) (pss_one (ps_set (i := 8) sc_law_due.nd rfl (Or.inl rfl) (pv 6))) pss_nil)
      (pss_cons (ps_setC (i := 9) sc_law_due.nd rfl rfl (own := ["_law_place"]) (fr := [("_law_filled", 7)]) rfl ⟨rfl, (by walk_at "clok"), (by walk_at "frok"), rfl, (by decide +kernel), (by decide +kernel), rfl⟩ (pi_seqK (K := K) rfl (pv 5)) (fun _ _ _ _ => (pg_name (i := 0) (show List.Nodup [("_law_place" : Str), ("_law_filled" : Str)] from by decide +kernel) rfl (Or.inl rfl))) (fun _ _ _ _ => (pts_one (pt_cmpR (op_neK (K := K) rfl hr.units) (pv 0) (pv 1) (nomark _)))) (fun _ _ _ _ => (pv 0)))
      (pss_cons (ps_if (pt_cmpR (op_inK (K := K) rfl) (pv 8) (pv 5) rfl) (pss_one (ps_expr (pe_bmK (K := K) rfl PySem.F.plainAttrs_list PySem.F.slot_list_append PySem.F.type_list_append mt_append (pv 9) (pa_cons (pv 7) pa_nil)))) pss_nil)
      (pss_one (ps_ret (pv 9)))))))))))))), ?_⟩
    refine r_st (σ' := [some _, some _, some _, some _, some _, some _, none, none, none, none]) rfl ?_
    subst hk
    walk_at "rd"
    refine comp_filL emb (fun p => decide ((p : Int) < 8 + z - m)) (fun σ => ∃ v, σ = [v, some (.int m), some (.int z)]) (SqL.of hp) (by walk_at "small") ⟨_, rfl⟩ ?_ ?_
    · rintro i x ys σ H1 hx c s ⟨v, rfl⟩
      walk_at "rd"
      refine ifDec (fun hh => ?_) (fun hh => ?_)
      · walk_at "rd"
        exact c.yes hx (decide_eq_true hh) rfl (by walk_at "same") ⟨_, rfl⟩
      · walk_at "rd"
        exact c.no hx (decide_eq_false hh) (by walk_at "same") ⟨_, rfl⟩
    intro H1 s1
    walk_at "rd"
    show Q _ _
    exact q _ _ (by walk_at "same") upd_same
end
section
variable {P : Program} {w : World} {K : PySem.W.Frag} {mg : Str → Option Value} {base : Heap} {a : Adr}
theorem r_chain {r r' : R2} {ta tb tc : TE} {σ : L2.St} {H : Hp} {Q : VK} (h : ta σ H fun x H1 => tb σ H1 fun y H2 => r x y H2 fun z H3 => ∃ k, z = .bl k ∧ (if k then tc σ H3 fun u H4 => r' y u H4 Q else Q (.bl false) H3)) : tChain r r' ta tb tc σ H Q := h
set_option maxHeartbeats 4000000 in
theorem bd_law_due_k8 (T : Txt K mg a) : BodyOk P w K mg base 0 "_law_due" s_law_due ["_law_kind", "_law_box", "_law_one", "_law_many", "_law_high", "_law_places", "_law_there", "_law_filled", "_law_source", "_law_rest"] (spDueP (fun k => k = 8) K) := by
    intro f cdv A outer s H vs Q E hr h
    obtain ⟨k, b, o, m, z, p, ps, rfl, hk, ⟨b1, b2⟩, ⟨o1, o2⟩, ⟨m1, m2⟩, z0, z1, hmz, hp, hpl, q⟩ := h
    have hl : ∀ f : Nat → Bool, (ps.filter f).length ≤ 5000 := fun f => Nat.le_trans (List.length_filter_le f ps) hpl
    refine ⟨_, (pss_cons (ps_set (i := 6) sc_law_due.nd rfl (Or.inl rfl) (pe_op op_sub (pe_op op_sub (pe_op (op_plusK (K := K) rfl) pe_int (pv 4)) pe_int) (pv 3)))
      (pss_cons (ps_if (pt_cmpR (op_eqK (K := K) rfl hr.units) (pv 0) pe_int (nomark _)) (pss_one (ps_ret (pe_comp (own := ["_law_place"]) (fr := [("_law_many", 3), ("_law_high", 4)]) rfl ⟨rfl, (by walk_at "clok"), (by walk_at "frok"), rfl, (by decide +kernel), (by decide +kernel), rfl⟩ (pi_seqK (K := K) rfl (pv 5)) (fun _ _ _ _ => (pg_name (i := 0) (show List.Nodup [("_law_place" : Str), ("_law_many" : Str), ("_law_high" : Str)] from by decide +kernel) rfl (Or.inl rfl))) (fun _ _ _ _ => (pts_one (pt_cmpR op_lt (pv 0) (pe_op op_sub (pe_op (op_plusK (K := K) rfl) pe_int (pv 2)) (pv 1)) (nomark _)))) (fun _ _ _ _ => (pv 0))))) pss_nil)
      (pss_cons (ps_if (pt_cmpR (op_eqK (K := K) rfl hr.units) (pv 0) pe_int (nomark _)) (pss_one (ps_ret (pe_comp (own := ["_law_place"]) (fr := []) rfl ⟨rfl, (by walk_at "clok"), (by walk_at "frok"), rfl, (by decide +kernel), (by decide +kernel), rfl⟩ (pi_seqK (K := K) rfl (pv 5)) (fun _ _ _ _ => (pg_name (i := 0) (show List.Nodup [("_law_place" : Str)] from by decide +kernel) rfl (Or.inl rfl))) (fun _ _ _ _ => (pts_one (PW.pt (pw_or (pt_cmpR op_gt (pv 0) pe_int (nomark _)) (pw_or1 (pt_chain op_lt op_lt pe_int (pv 0) pe_int)))))) (fun _ _ _ _ => (pv 0))))) pss_nil)
      (pss_cons (ps_if (pt_cmpR (op_inK (K := K) rfl) (pv 0) (pe_tup (pa_cons pe_int (pa_cons pe_int (pa_cons pe_int (pa_cons pe_int (pa_cons pe_int pa_nil)))))) rfl) (pss_one (ps_ret (pv 5))) pss_nil)
      (pss_cons (ps_set (i := 7) sc_law_due.nd rfl (Or.inr rfl) (pv 1))
      (pss_cons (ps_set (i := 8) sc_law_due.nd rfl (Or.inl rfl) (pe_un un_neg pe_int))
      (pss_cons (ps_if (pt_cmpR (op_eqK (K := K) rfl hr.units) (pv 0) pe_int (nomark _)) (pss_one (ps_set (i := 8) sc_law_due.nd rfl (Or.inl rfl) (pv 2))) pss_nil)
      (pss_cons (ps_if (pt_cmpR (op_eqK (K := K) rfl hr.units) (pv 0) pe_int (nomark _)) (pss_cons (ps_set (i := 7) sc_law_due.nd rfl (Or.inr rfl) (pv 6))
      (pss_one (ps_set (i := 8) sc_law_due.nd rfl (Or.inl rfl) (pv 1)))) pss_nil)
      (pss_cons (ps_if (pt_cmpR (op_eqK (K := K) rfl hr.units) (pv 0) pe_int (nomark _)) (pss_one (ps_set (i := 8) sc_law_due.nd rfl (Or.inl rfl) (pv 6))) pss_nil)
      (pss_cons (ps_setC (i := 9) sc_law_due.nd rfl rfl (own := ["_law_place"]) (fr := [("_law_filled", 7)]) rfl ⟨rfl, (by walk_at "clok"), (by walk_at "frok"), rfl, (by decide +kernel), (by decide +kernel), rfl⟩ (pi_seqK (K := K) rfl (pv 5)) (fun _ _ _ _ => (pg_name (i := 0) (show List.Nodup [("_law_place" : Str), ("_law_filled" : Str)] from by decide +kernel) rfl (Or.inl rfl))) (fun _ _ _ _ => (pts_one (pt_cmpR (op_neK (K := K) rfl hr.units) (pv 0) (pv 1) (nomark _)))) (fun _ _ _ _ => (pv 0)))
      (pss_cons (ps_if (pt_cmpR (op_inK (K := K) rfl) (pv 8) (pv 5) rfl) (pss_one (ps_expr (pe_bmK (K := K) rfl PySem.F.plainAttrs_list PySem.F.slot_list_append PySem.F.type_list_append mt_append (pv 9) (pa_cons (pv 7) pa_nil)))) pss_nil)
      (pss_one (ps_ret (pv 9)))))))))))))), ?_⟩
    refine r_st (σ' := [some _, some _, some _, some _, some _, some _, none, none, none, none]) rfl ?_
    subst hk
    walk_at "rd"
    refine comp_filL emb (fun p => decide (7 < p) || (decide (3 < p) && decide (p < 7))) (fun σ => ∃ v, σ = [v]) (SqL.of hp) (by walk_at "small") ⟨_, rfl⟩ ?_ ?_
    · rintro i x ys σ H1 hx c s ⟨v, rfl⟩
      walk_at "rds"
      rotate_left
      refine r_chain ?_
      walk_at "rds"
      all_goals first
        | exact c.yes hx (by simp only [Bool.or_eq_true, Bool.and_eq_true, decide_eq_true_eq]; omega) rfl (by walk_at "same") ⟨_, rfl⟩
        | exact c.no hx (by rw [Bool.eq_false_iff]; simp only [ne_eq, Bool.or_eq_true, Bool.and_eq_true, decide_eq_true_eq]; omega) (by walk_at "same") ⟨_, rfl⟩
    intro H1 s1
    walk_at "rd"
    show Q _ _
    exact q _ _ (by walk_at "same") upd_same
end
section
variable {P : Program} {w : World} {K : PySem.W.Frag} {mg : Str → Option Value} {base : Heap} {a : Adr}
set_option maxHeartbeats 4000000 in
theorem bd_law_due_k1 (T : Txt K mg a) : BodyOk P w K mg base 0 "_law_due" s_law_due ["_law_kind", "_law_box", "_law_one", "_law_many", "_law_high", "_law_places", "_law_there", "_law_filled", "_law_source", "_law_rest"] (spDueP (fun k => k = 1) K) := by
    intro f cdv A outer s H vs Q E hr h
    obtain ⟨k, b, o, m, z, p, ps, rfl, hk, ⟨b1, b2⟩, ⟨o1, o2⟩, ⟨m1, m2⟩, z0, z1, hmz, hp, hpl, q⟩ := h
    have hl : ∀ f : Nat → Bool, (ps.filter f).length ≤ 5000 := fun f => Nat.le_trans (List.length_filter_le f ps) hpl
    refine ⟨_, (pss_cons (ps_set (i := 6) sc_law_due.nd rfl (Or.inl rfl) (pe_op op_sub (pe_op op_sub (pe_op (op_plusK (K := K) rfl) pe_int (pv 4)) pe_int) (pv 3)))
      (pss_cons (ps_if (pt_cmpR (op_eqK (K := K) rfl hr.units) (pv 0) pe_int (nomark _)) (pss_one (ps_ret (pe_comp (own := ["_law_place"]) (fr := [("_law_many", 3), ("_law_high", 4)]) rfl ⟨rfl, (by walk_at "clok"), (by walk_at "frok"), rfl, (by decide +kernel), (by decide +kernel), rfl⟩ (pi_seqK (K := K) rfl (pv 5)) (fun _ _ _ _ => (pg_name (i := 0) (show List.Nodup [("_law_place" : Str), ("_law_many" : Str), ("_law_high" : Str)] from by decide +kernel) rfl (Or.inl rfl))) (fun _ _ _ _ => (pts_one (pt_cmpR op_lt (pv 0) (pe_op op_sub (pe_op (op_plusK (K := K) rfl) pe_int (pv 2)) (pv 1)) (nomark _)))) (fun _ _ _ _ => (pv 0))))) pss_nil)
      (pss_cons (ps_if (pt_cmpR (op_eqK (K := K) rfl hr.units) (pv 0) pe_int (nomark _)) (pss_one (ps_ret (pe_comp (own := ["_law_place"]) (fr := []) rfl ⟨rfl, (by walk_at "clok"), (by walk_at "frok"), rfl, (by decide +kernel), (by decide +kernel), rfl⟩ (pi_seqK (K := K) rfl (pv 5)) (fun _ _ _ _ => (pg_name (i := 0) (show List.Nodup [("_law_place" : Str)] from by decide +kernel) rfl (Or.inl rfl))) (fun _ _ _ _ => (pts_one (PW.pt (pw_or (pt_cmpR op_gt (pv 0) pe_int (nomark _)) (pw_or1 (pt_chain op_lt op_lt pe_int (pv 0) pe_int)))))) (fun _ _ _ _ => (pv 0))))) pss_nil)
      (pss_cons (ps_if (pt_cmpR (op_inK (K := K) rfl) (pv 0) (pe_tup (pa_cons pe_int (pa_cons pe_int (pa_cons pe_int (pa_cons pe_int (pa_cons pe_int pa_nil)))))) rfl) (pss_one (ps_ret (pv 5))) pss_nil)
      (pss_cons (ps_set (i := 7) sc_law_due.nd rfl (Or.inr rfl) (pv 1))
      (pss_cons (ps_set (i := 8) sc_law_due.nd rfl (Or.inl rfl) (pe_un un_neg pe_int))
      (pss_cons (ps_if (pt_cmpR (op_eqK (K := K) rfl hr.units) (pv 0) pe_int (nomark _)) (pss_one (ps_set (i := 8) sc_law_due.nd rfl (Or.inl rfl) (pv 2))) pss_nil)
      (pss_cons (ps_if (pt_cmpR (op_eqK (K := K) rfl hr.units) (pv 0) pe_int (nomark _)) (pss_cons (ps_set (i := 7) sc_law_due.nd rfl (Or.inr rfl) (pv 6))
      (pss_one (ps_set (i := 8) sc_law_due.nd rfl (Or.inl rfl) (pv 1)))) pss_nil)
      (pss_cons (ps_if (pt_cmpR (op_eqK (K := K) rfl hr.units) (pv 0) pe_int (nomark _)) (pss_one (ps_set (i := 8) sc_law_due.nd rfl (Or.inl rfl) (pv 6))) pss_nil)
      (pss_cons (ps_setC (i := 9) sc_law_due.nd rfl rfl (own := ["_law_place"]) (fr := [("_law_filled", 7)]) rfl ⟨rfl, (by walk_at "clok"), (by walk_at "frok"), rfl, (by decide +kernel), (by decide +kernel), rfl⟩ (pi_seqK (K := K) rfl (pv 5)) (fun _ _ _ _ => (pg_name (i := 0) (show List.Nodup [("_law_place" : Str), ("_law_filled" : Str)] from by decide +kernel) rfl (Or.inl rfl))) (fun _ _ _ _ => (pts_one (pt_cmpR (op_neK (K := K) rfl hr.units) (pv 0) (pv 1) (nomark _)))) (fun _ _ _ _ => (pv 0)))
      (pss_cons (ps_if (pt_cmpR (op_inK (K := K) rfl) (pv 8) (pv 5) rfl) (pss_one (ps_expr (pe_bmK (K := K) rfl PySem.F.plainAttrs_list PySem.F.slot_list_append PySem.F.type_list_append mt_append (pv 9) (pa_cons (pv 7) pa_nil)))) pss_nil)
      (pss_one (ps_ret (pv 9)))))))))))))), ?_⟩
    refine r_st (σ' := [some _, some _, some _, some _, some _, some _, none, none, none, none]) rfl ?_
    subst hk
    walk_at "rd"
    refine comp_filL emb (fun p => decide (p ≠ (b).toNat)) (fun σ => ∃ v, σ = [v, some (.int b)]) (SqL.of (by walk_at "hlk")) (by walk_at "small") ⟨_, rfl⟩ ?_ ?_
    · rintro i x ys σ H1 hx c s ⟨v, rfl⟩
      walk_at "rd"
      refine ifIntN (fun hh => ?_) (fun hh => ?_)
      · walk_at "rd"
        exact c.yes hx (decide_eq_true (by omega)) rfl (by walk_at "same") ⟨_, rfl⟩
      · walk_at "rd"
        exact c.no hx (decide_eq_false (by omega)) (by walk_at "same") ⟨_, rfl⟩
    intro H1 s1
    have hl1 := hl (fun p => decide (p ≠ (b).toNat))
    walk_at "rd"
    refine r_inP (by walk_at "sql") rfl (flat_emb ps) ?_
    rw [show (V.int o) = V.int ((o.toNat : Nat) : Int) from by congr 1; omega, inV_emb]
    by_cases e : o.toNat ∈ ps
    · rw [decide_eq_true e]
      walk_at "rd"
      refine q _ _ (by walk_at "same") ?_
      show _ = some (HO.lst ((ps.filter (fun p => decide (p ≠ (b).toNat)) ++ (if o.toNat ∈ ps then [(b).toNat] else [])).map emb))
      rw [if_pos e, List.map_append, show [(b).toNat].map emb = [V.int b] from by show [V.int _] = _; congr 2; omega]
      walk_at "hlk"
    · rw [decide_eq_false e]
      walk_at "rd"
      refine q _ _ (by walk_at "same") ?_
      show _ = some (HO.lst ((ps.filter (fun p => decide (p ≠ (b).toNat)) ++ (if o.toNat ∈ ps then [(b).toNat] else [])).map emb))
      rw [if_neg e, List.append_nil]
      walk_at "hlk"
end
section
variable {P : Program} {w : World} {K : PySem.W.Frag} {mg : Str → Option Value} {base : Heap} {a : Adr}
set_option maxHeartbeats 4000000 in
theorem bd_law_due_k13 (T : Txt K mg a) : BodyOk P w K mg base 0 "_law_due" s_law_due ["_law_kind", "_law_box", "_law_one", "_law_many", "_law_high", "_law_places", "_law_there", "_law_filled", "_law_source", "_law_rest"] (spDueP (fun k => k = 13) K) := by
    intro f cdv A outer s H vs Q E hr h
    obtain ⟨k, b, o, m, z, p, ps, rfl, hk, ⟨b1, b2⟩, ⟨o1, o2⟩, ⟨m1, m2⟩, z0, z1, hmz, hp, hpl, q⟩ := h
    have hl : ∀ f : Nat → Bool, (ps.filter f).length ≤ 5000 := fun f => Nat.le_trans (List.length_filter_le f ps) hpl
    refine ⟨_, (pss_cons (ps_set (i := 6) sc_law_due.nd rfl (Or.inl rfl) (pe_op op_sub (pe_op op_sub (pe_op (op_plusK (K := K) rfl) pe_int (pv 4)) pe_int) (pv 3)))
      (pss_cons (ps_if (pt_cmpR (op_eqK (K := K) rfl hr.units) (pv 0) pe_int (nomark _)) (pss_one (ps_ret (pe_comp (own := ["_law_place"]) (fr := [("_law_many", 3), ("_law_high", 4)]) rfl ⟨rfl, (by walk_at "clok"), (by walk_at "frok"), rfl, (by decide +kernel), (by decide +kernel), rfl⟩ (pi_seqK (K := K) rfl (pv 5)) (fun _ _ _ _ => (pg_name (i := 0) (show List.Nodup [("_law_place" : Str), ("_law_many" : Str), ("_law_high" : Str)] from by decide +kernel) rfl (Or.inl rfl))) (fun _ _ _ _ => (pts_one (pt_cmpR op_lt (pv 0) (pe_op op_sub (pe_op (op_plusK (K := K) rfl) pe_int (pv 2)) (pv 1)) (nomark _)))) (fun _ _ _ _ => (pv 0))))) pss_nil)
      (pss_cons (ps_if (pt_cmpR (op_eqK (K := K) rfl hr.units) (pv 0) pe_int (nomark _)) (pss_one (ps_ret (pe_comp (own := ["_law_place"]) (fr := []) rfl ⟨rfl, (by walk_at "clok"), (by walk_at "frok"), rfl, (by decide +kernel), (by decide +kernel), rfl⟩ (pi_seqK (K := K) rfl (pv 5)) (fun _ _ _ _ => (pg_name (i := 0) (show List.Nodup [("_law_place" : Str)] from by decide +kernel) rfl (Or.inl rfl))) (fun _ _ _ _ => (pts_one (PW.pt (pw_or (pt_cmpR op_gt (pv 0) pe_int (nomark _)) (pw_or1 (pt_chain op_lt op_lt pe_int (pv 0) pe_int)))))) (fun _ _ _ _ => (pv 0))))) pss_nil)
      (pss_cons (ps_if (pt_cmpR (op_inK (K := K) rfl) (pv 0) (pe_tup (pa_cons pe_int (pa_cons pe_int (pa_cons pe_int (pa_cons pe_int (pa_cons pe_int pa_nil)))))) rfl) (pss_one (ps_ret (pv 5))) pss_nil)
      (pss_cons (ps_set (i := 7) sc_law_due.nd rfl (Or.inr rfl) (pv 1))
      (pss_cons (ps_set (i := 8) sc_law_due.nd rfl (Or.inl rfl) (pe_un un_neg pe_int))
      (pss_cons (ps_if (pt_cmpR (op_eqK (K := K) rfl hr.units) (pv 0) pe_int (nomark _)) (pss_one (ps_set (i := 8) sc_law_due.nd rfl (Or.inl rfl) (pv 2))) pss_nil)
      (pss_cons (ps_if (pt_cmpR (op_eqK (K := K) rfl hr.units) (pv 0) pe_int (nomark _)) (pss_cons (ps_set (i := 7) sc_law_due.nd rfl (Or.inr rfl) (pv 6))
      (pss_one (ps_set (i := 8) sc_law_due.nd rfl (Or.inl rfl) (pv 1)))) pss_nil)
      (pss_cons (ps_if (pt_cmpR (op_eqK (K := K) rfl hr.units) (pv 0) pe_int (nomark _)) (pss_one (ps_set (i := 8) sc_law_due.nd rfl (Or.inl rfl) (pv 6))) pss_nil)
      (pss_cons (ps_setC (i := 9) sc_law_due.nd rfl rfl (own := ["_law_place"]) (fr := [("_law_filled", 7)]) rfl ⟨rfl, (by walk_at "clok"), (by walk_at "frok"), rfl, (by decide +kernel), (by decide +kernel), rfl⟩ (pi_seqK (K := K) rfl (pv 5)) (fun _ _ _ _ => (pg_name (i := 0) (show List.Nodup [("_law_place" : Str), ("_law_filled" : Str)] from by decide +kernel) rfl (Or.inl rfl))) (fun _ _ _ _ => (pts_one (pt_cmpR (op_neK (K := K) rfl hr.units) (pv 0) (pv 1) (nomark _)))) (fun _ _ _ _ => (pv 0)))
      (pss_cons (ps_if (pt_cmpR (op_inK (K := K) rfl) (pv 8) (pv 5) rfl) (pss_one (ps_expr (pe_bmK (K := K) rfl PySem.F.plainAttrs_list PySem.F.slot_list_append PySem.F.type_list_append mt_append (pv 9) (pa_cons (pv 7) pa_nil)))) pss_nil)
      (pss_one (ps_ret (pv 9)))))))))))))), ?_⟩
    refine r_st (σ' := [some _, some _, some _, some _, some _, some _, none, none, none, none]) rfl ?_
    subst hk
    have hmz : m < z := hmz (by decide)
    walk_at "rd"
    refine comp_filL emb (fun p => decide (p ≠ ((8 + z - 1 - m)).toNat)) (fun σ => ∃ v, σ = [v, some (.int (8 + z - 1 - m))]) (SqL.of (by walk_at "hlk")) (by walk_at "small") ⟨_, rfl⟩ ?_ ?_
    · rintro i x ys σ H1 hx c s ⟨v, rfl⟩
      walk_at "rd"
      refine ifIntN (fun hh => ?_) (fun hh => ?_)
      · walk_at "rd"
        exact c.yes hx (decide_eq_true (by omega)) rfl (by walk_at "same") ⟨_, rfl⟩
      · walk_at "rd"
        exact c.no hx (decide_eq_false (by omega)) (by walk_at "same") ⟨_, rfl⟩
    intro H1 s1
    have hl1 := hl (fun p => decide (p ≠ ((8 + z - 1 - m)).toNat))
    walk_at "rd"
    refine r_inP (by walk_at "sql") rfl (flat_emb ps) ?_
    rw [show (V.int b) = V.int ((b.toNat : Nat) : Int) from by congr 1; omega, inV_emb]
    by_cases e : b.toNat ∈ ps
    · rw [decide_eq_true e]
      walk_at "rd"
      refine q _ _ (by walk_at "same") ?_
      show _ = some (HO.lst ((ps.filter (fun p => decide (p ≠ ((8 + z - 1 - m)).toNat)) ++ (if b.toNat ∈ ps then [((8 + z - 1 - m)).toNat] else [])).map emb))
      rw [if_pos e, List.map_append, show [((8 + z - 1 - m)).toNat].map emb = [V.int (8 + z - 1 - m)] from by show [V.int _] = _; congr 2; omega]
      walk_at "hlk"
    · rw [decide_eq_false e]
      walk_at "rd"
      refine q _ _ (by walk_at "same") ?_
      show _ = some (HO.lst ((ps.filter (fun p => decide (p ≠ ((8 + z - 1 - m)).toNat)) ++ (if b.toNat ∈ ps then [((8 + z - 1 - m)).toNat] else [])).map emb))
      rw [if_neg e, List.append_nil]
      walk_at "hlk"
end
section
variable {P : Program} {w : World} {K : PySem.W.Frag} {mg : Str → Option Value} {base : Heap} {a : Adr}
set_option maxHeartbeats 4000000 in
theorem bd_law_due_k14 (T : Txt K mg a) : BodyOk P w K mg base 0 "_law_due" s_law_due ["_law_kind", "_law_box", "_law_one", "_law_many", "_law_high", "_law_places", "_law_there", "_law_filled", "_law_source", "_law_rest"] (spDueP (fun k => k = 14) K) := by
    intro f cdv A outer s H vs Q E hr h
    obtain ⟨k, b, o, m, z, p, ps, rfl, hk, ⟨b1, b2⟩, ⟨o1, o2⟩, ⟨m1, m2⟩, z0, z1, hmz, hp, hpl, q⟩ := h
    have hl : ∀ f : Nat → Bool, (ps.filter f).length ≤ 5000 := fun f => Nat.le_trans (List.length_filter_le f ps) hpl
    refine ⟨_, (pss_cons (ps_set (i := 6) sc_law_due.nd rfl (Or.inl rfl) (pe_op op_sub (pe_op op_sub (pe_op (op_plusK (K := K) rfl) pe_int (pv 4)) pe_int) (pv 3)))
      (pss_cons (ps_if (pt_cmpR (op_eqK (K := K) rfl hr.units) (pv 0) pe_int (nomark _)) (pss_one (ps_ret (pe_comp (own := ["_law_place"]) (fr := [("_law_many", 3), ("_law_high", 4)]) rfl ⟨rfl, (by walk_at "clok"), (by walk_at "frok"), rfl, (by decide +kernel), (by decide +kernel), rfl⟩ (pi_seqK (K := K) rfl (pv 5)) (fun _ _ _ _ => (pg_name (i := 0) (show List.Nodup [("_law_place" : Str), ("_law_many" : Str), ("_law_high" : Str)] from by decide +kernel) rfl (Or.inl rfl))) (fun _ _ _ _ => (pts_one (pt_cmpR op_lt (pv 0) (pe_op op_sub (pe_op (op_plusK (K := K) rfl) pe_int (pv 2)) (pv 1)) (nomark _)))) (fun _ _ _ _ => (pv 0))))) pss_nil)
      (pss_cons (ps_if (pt_cmpR (op_eqK (K := K) rfl hr.units) (pv 0) pe_int (nomark _)) (pss_one (ps_ret (pe_comp (own := ["_law_place"]) (fr := []) rfl ⟨rfl, (by walk_at "clok"), (by walk_at "frok"), rfl, (by decide +kernel), (by decide +kernel), rfl⟩ (pi_seqK (K := K) rfl (pv 5)) (fun _ _ _ _ => (pg_name (i := 0) (show List.Nodup [("_law_place" : Str)] from by decide +kernel) rfl (Or.inl rfl))) (fun _ _ _ _ => (pts_one (PW.pt (pw_or (pt_cmpR op_gt (pv 0) pe_int (nomark _)) (pw_or1 (pt_chain op_lt op_lt pe_int (pv 0) pe_int)))))) (fun _ _ _ _ => (pv 0))))) pss_nil)
      (pss_cons (ps_if (pt_cmpR (op_inK (K := K) rfl) (pv 0) (pe_tup (pa_cons pe_int (pa_cons pe_int (pa_cons pe_int (pa_cons pe_int (pa_cons pe_int pa_nil)))))) rfl) (pss_one (ps_ret (pv 5))) pss_nil)
      (pss_cons (ps_set (i := 7) sc_law_due.nd rfl (Or.inr rfl) (pv 1))
      (pss_cons (ps_set (i := 8) sc_law_due.nd rfl (Or.inl rfl) (pe_un un_neg pe_int))
      (pss_cons (ps_if (pt_cmpR (op_eqK (K := K) rfl hr.units) (pv 0) pe_int (nomark _)) (pss_one (ps_set (i := 8) sc_law_due.nd rfl (Or.inl rfl) (pv 2))) pss_nil)
      (pss_cons (ps_if (pt_cmpR (op_eqK (K := K) rfl hr.units) (pv 0) pe_int (nomark _)) (pss_cons (ps_set (i := 7) sc_law_due.nd rfl (Or.inr rfl) (pv 6))
      (pss_one (ps_set (i := 8) sc_law_due.nd rfl (Or.inl rfl) (pv 1)))) pss_nil)
      (pss_cons (ps_if (pt_cmpR (op_eqK (K := K) rfl hr.units) (pv 0) pe_int (nomark _)) (pss_one (ps_set (i := 8) sc_law_due.nd rfl (Or.inl rfl) (pv 6))) pss_nil)
      (pss_cons (ps_setC (i := 9) sc_law_due.nd rfl rfl (own := ["_law_place"]) (fr := [("_law_filled", 7)]) rfl ⟨rfl, (by walk_at "clok"), (by walk_at "frok"), rfl, (by decide +kernel), (by decide +kernel), rfl⟩ (pi_seqK (K := K) rfl (pv 5)) (fun _ _ _ _ => (pg_name (i := 0) (show List.Nodup [("_law_place" : Str), ("_law_filled" : Str)] from by decide +kernel) rfl (Or.inl rfl))) (fun _ _ _ _ => (pts_one (pt_cmpR (op_neK (K := K) rfl hr.units) (pv 0) (pv 1) (nomark _)))) (fun _ _ _ _ => (pv 0)))
      (pss_cons (ps_if (pt_cmpR (op_inK (K := K) rfl) (pv 8) (pv 5) rfl) (pss_one (ps_expr (pe_bmK (K := K) rfl PySem.F.plainAttrs_list PySem.F.slot_list_append PySem.F.type_list_append mt_append (pv 9) (pa_cons (pv 7) pa_nil)))) pss_nil)
      (pss_one (ps_ret (pv 9)))))))))))))), ?_⟩
    refine r_st (σ' := [some _, some _, some _, some _, some _, some _, none, none, none, none]) rfl ?_
    subst hk
    have hmz : m < z := hmz (by decide)
    walk_at "rd"
    refine comp_filL emb (fun p => decide (p ≠ (b).toNat)) (fun σ => ∃ v, σ = [v, some (.int b)]) (SqL.of (by walk_at "hlk")) (by walk_at "small") ⟨_, rfl⟩ ?_ ?_
    · rintro i x ys σ H1 hx c s ⟨v, rfl⟩
      walk_at "rd"
      refine ifIntN (fun hh => ?_) (fun hh => ?_)
      · walk_at "rd"
        exact c.yes hx (decide_eq_true (by omega)) rfl (by walk_at "same") ⟨_, rfl⟩
      · walk_at "rd"
        exact c.no hx (decide_eq_false (by omega)) (by walk_at "same") ⟨_, rfl⟩
    intro H1 s1
    have hl1 := hl (fun p => decide (p ≠ (b).toNat))
    walk_at "rd"
    refine r_inP (by walk_at "sql") rfl (flat_emb ps) ?_
    rw [show (V.int (8 + z - 1 - m)) = V.int (((8 + z - 1 - m).toNat : Nat) : Int) from by congr 1; omega, inV_emb]
    by_cases e : (8 + z - 1 - m).toNat ∈ ps
    · rw [decide_eq_true e]
      walk_at "rd"
      refine q _ _ (by walk_at "same") ?_
      show _ = some (HO.lst ((ps.filter (fun p => decide (p ≠ (b).toNat)) ++ (if (8 + z - 1 - m).toNat ∈ ps then [(b).toNat] else [])).map emb))
      rw [if_pos e, List.map_append, show [(b).toNat].map emb = [V.int b] from by show [V.int _] = _; congr 2; omega]
      walk_at "hlk"
    · rw [decide_eq_false e]
      walk_at "rd"
      refine q _ _ (by walk_at "same") ?_
      show _ = some (HO.lst ((ps.filter (fun p => decide (p ≠ (b).toNat)) ++ (if (8 + z - 1 - m).toNat ∈ ps then [(b).toNat] else [])).map emb))
      rw [if_neg e, List.append_nil]
      walk_at "hlk"
end
section
variable {P : Program} {w : World} {K : PySem.W.Frag} {mg : Str → Option Value} {base : Heap} {a : Adr}
set_option maxHeartbeats 4000000 in
theorem bd_law_due_kA (T : Txt K mg a) : BodyOk P w K mg base 0 "_law_due" s_law_due ["_law_kind", "_law_box", "_law_one", "_law_many", "_law_high", "_law_places", "_law_there", "_law_filled", "_law_source", "_law_rest"] (spDueP (fun k => k = 6 ∨ k = 7 ∨ k = 9 ∨ k = 10 ∨ k = 11) K) := by
    intro f cdv A outer s H vs Q E hr h
    obtain ⟨k, b, o, m, z, p, ps, rfl, hk, ⟨b1, b2⟩, ⟨o1, o2⟩, ⟨m1, m2⟩, z0, z1, hmz, hp, hpl, q⟩ := h
    have hl : ∀ f : Nat → Bool, (ps.filter f).length ≤ 5000 := fun f => Nat.le_trans (List.length_filter_le f ps) hpl
    refine ⟨_, (pss_cons (ps_set (i := 6) sc_law_due.nd rfl (Or.inl rfl) (pe_op op_sub (pe_op op_sub (pe_op (op_plusK (K := K) rfl) pe_int (pv 4)) pe_int) (pv 3)))
      (pss_cons (ps_if (pt_cmpR (op_eqK (K := K) rfl hr.units) (pv 0) pe_int (nomark _)) (pss_one (ps_ret (pe_comp (own := ["_law_place"]) (fr := [("_law_many", 3), ("_law_high", 4)]) rfl ⟨rfl, (by walk_at "clok"), (by walk_at "frok"), rfl, (by decide +kernel), (by decide +kernel), rfl⟩ (pi_seqK (K := K) rfl (pv 5)) (fun _ _ _ _ => (pg_name (i := 0) (show List.Nodup [("_law_place" : Str), ("_law_many" : Str), ("_law_high" : Str)] from by decide +kernel) rfl (Or.inl rfl))) (fun _ _ _ _ => (pts_one (pt_cmpR op_lt (pv 0) (pe_op op_sub (pe_op (op_plusK (K := K) rfl) pe_int (pv 2)) (pv 1)) (nomark _)))) (fun _ _ _ _ => (pv 0))))) pss_nil)
      (pss_cons (ps_if (pt_cmpR (op_eqK (K := K) rfl hr.units) (pv 0) pe_int (nomark _)) (pss_one (ps_ret (pe_comp (own := ["_law_place"]) (fr := []) rfl ⟨rfl, (by walk_at "clok"), (by walk_at "frok"), rfl, (by decide +kernel), (by decide +kernel), rfl⟩ (pi_seqK (K := K) rfl (pv 5)) (fun _ _ _ _ => (pg_name (i := 0) (show List.Nodup [("_law_place" : Str)] from by decide +kernel) rfl (Or.inl rfl))) (fun _ _ _ _ => (pts_one (PW.pt (pw_or (pt_cmpR op_gt (pv 0) pe_int (nomark _)) (pw_or1 (pt_chain op_lt op_lt pe_int (pv 0) pe_int)))))) (fun _ _ _ _ => (pv 0))))) pss_nil)
      (pss_cons (ps_if (pt_cmpR (op_inK (K := K) rfl) (pv 0) (pe_tup (pa_cons pe_int (pa_cons pe_int (pa_cons pe_int (pa_cons pe_int (pa_cons pe_int pa_nil)))))) rfl) (pss_one (ps_ret (pv 5))) pss_nil)
      (pss_cons (ps_set (i := 7) sc_law_due.nd rfl (Or.inr rfl) (pv 1))
      (pss_cons (ps_set (i := 8) sc_law_due.nd rfl (Or.inl rfl) (pe_un un_neg pe_int))
      (pss_cons (ps_if (pt_cmpR (op_eqK (K := K) rfl hr.units) (pv 0) pe_int (nomark _)) (pss_one (ps_set (i := 8) sc_law_due.nd rfl (Or.inl rfl) (pv 2))) pss_nil)
      (pss_cons (ps_if (pt_cmpR (op_eqK (K := K) rfl hr.units) (pv 0) pe_int (nomark _)) (pss_cons (ps_set (i := 7) sc_law_due.nd rfl (Or.inr rfl) (pv 6))
      (pss_one (ps_set (i := 8) sc_law_due.nd rfl (Or.inl rfl) (pv 1)))) pss_nil)
      (pss_cons (ps_if (pt_cmpR (op_eqK (K := K) rfl hr.units) (pv 0) pe_int (nomark _)) (pss_one (ps_set (i := 8) sc_law_due.nd rfl (Or.inl rfl) (pv 6))) pss_nil)
      (pss_cons (ps_setC (i := 9) sc_law_due.nd rfl rfl (own := ["_law_place"]) (fr := [("_law_filled", 7)]) rfl ⟨rfl, (by walk_at "clok"), (by walk_at "frok"), rfl, (by decide +kernel), (by decide +kernel), rfl⟩ (pi_seqK (K := K) rfl (pv 5)) (fun _ _ _ _ => (pg_name (i := 0) (show List.Nodup [("_law_place" : Str), ("_law_filled" : Str)] from by decide +kernel) rfl (Or.inl rfl))) (fun _ _ _ _ => (pts_one (pt_cmpR (op_neK (K := K) rfl hr.units) (pv 0) (pv 1) (nomark _)))) (fun _ _ _ _ => (pv 0)))
      (pss_cons (ps_if (pt_cmpR (op_inK (K := K) rfl) (pv 8) (pv 5) rfl) (pss_one (ps_expr (pe_bmK (K := K) rfl PySem.F.plainAttrs_list PySem.F.slot_list_append PySem.F.type_list_append mt_append (pv 9) (pa_cons (pv 7) pa_nil)))) pss_nil)
      (pss_one (ps_ret (pv 9)))))))))))))), ?_⟩
    refine r_st (σ' := [some _, some _, some _, some _, some _, some _, none, none, none, none]) rfl ?_
    walk_at "rd"
    rw [show inV (V.int k) [V.int 6, V.int 7, V.int 9, V.int 10, V.int 11] = true from by rcases hk with rfl | rfl | rfl | rfl | rfl <;> rfl]
    walk_at "rd"
    have hd : dueS k b o m z ps = ps := by unfold dueS; rw [if_neg (by omega), if_neg (by omega), if_pos hk]
    refine q _ _ (by walk_at "same") ?_
    rw [hd]
    walk_at "hlk"
end
section
variable {P : Program} {w : World} {K : PySem.W.Frag} {mg : Str → Option Value} {base : Heap} {a : Adr}
set_option maxHeartbeats 4000000 in
theorem bd_law_due_kB (T : Txt K mg a) : BodyOk P w K mg base 0 "_law_due" s_law_due ["_law_kind", "_law_box", "_law_one", "_law_many", "_law_high", "_law_places", "_law_there", "_law_filled", "_law_source", "_law_rest"] (spDueP (fun k => k = 0 ∨ k = 2 ∨ k = 3 ∨ k = 4 ∨ k = 5) K) := by
    intro f cdv A outer s H vs Q E hr h
    obtain ⟨k, b, o, m, z, p, ps, rfl, hk, ⟨b1, b2⟩, ⟨o1, o2⟩, ⟨m1, m2⟩, z0, z1, hmz, hp, hpl, q⟩ := h
    have hl : ∀ f : Nat → Bool, (ps.filter f).length ≤ 5000 := fun f => Nat.le_trans (List.length_filter_le f ps) hpl
    refine ⟨_, (pss_cons (ps_set (i := 6) sc_law_due.nd rfl (Or.inl rfl) (pe_op op_sub (pe_op op_sub (pe_op (op_plusK (K := K) rfl) pe_int (pv 4)) pe_int) (pv 3)))
      (pss_cons (ps_if (pt_cmpR (op_eqK (K := K) rfl hr.units) (pv 0) pe_int (nomark _)) (pss_one (ps_ret (pe_comp (own := ["_law_place"]) (fr := [("_law_many", 3), ("_law_high", 4)]) rfl ⟨rfl, (by walk_at "clok"), (by walk_at "frok"), rfl, (by decide +kernel), (by decide +kernel), rfl⟩ (pi_seqK (K := K) rfl (pv 5)) (fun _ _ _ _ => (pg_name (i := 0) (show List.Nodup [("_law_place" : Str), ("_law_many" : Str), ("_law_high" : Str)] from by decide +kernel) rfl (Or.inl rfl))) (fun _ _ _ _ => (pts_one (pt_cmpR op_lt (pv 0) (pe_op op_sub (pe_op (op_plusK (K := K) rfl) pe_int (pv 2)) (pv 1)) (nomark _)))) (fun _ _ _ _ => (pv 0))))) pss_nil)
      (pss_cons (ps_if (pt_cmpR (op_eqK (K := K) rfl hr.units) (pv 0) pe_int (nomark _)) (pss_one (ps_ret (pe_comp (own := ["_law_place"]) (fr := []) rfl ⟨rfl, (by walk_at "clok"), (by walk_at "frok"), rfl, (by decide +kernel), (by decide +kernel), rfl⟩ (pi_seqK (K := K) rfl (pv 5)) (fun _ _ _ _ => (pg_name (i := 0) (show List.Nodup [("_law_place" : Str)] from by decide +kernel) rfl (Or.inl rfl))) (fun _ _ _ _ => (pts_one (PW.pt (pw_or (pt_cmpR op_gt (pv 0) pe_int (nomark _)) (pw_or1 (pt_chain op_lt op_lt pe_int (pv 0) pe_int)))))) (fun _ _ _ _ => (pv 0))))) pss_nil)
      (pss_cons (ps_if (pt_cmpR (op_inK (K := K) rfl) (pv 0) (pe_tup (pa_cons pe_int (pa_cons pe_int (pa_cons pe_int (pa_cons pe_int (pa_cons pe_int pa_nil)))))) rfl) (pss_one (ps_ret (pv 5))) pss_nil)
      (pss_cons (ps_set (i := 7) sc_law_due.nd rfl (Or.inr rfl) (pv 1))
      (pss_cons (ps_set (i := 8) sc_law_due.nd rfl (Or.inl rfl) (pe_un un_neg pe_int))
      (pss_cons (ps_if (pt_cmpR (op_eqK (K := K) rfl hr.units) (pv 0) pe_int (nomark _)) (pss_one (ps_set (i := 8) sc_law_due.nd rfl (Or.inl rfl) (pv 2))) pss_nil)
      (pss_cons (ps_if (pt_cmpR (op_eqK (K := K) rfl hr.units) (pv 0) pe_int (nomark _)) (pss_cons (ps_set (i := 7) sc_law_due.nd rfl (Or.inr rfl) (pv 6))
      (pss_one (ps_set (i := 8) sc_law_due.nd rfl (Or.inl rfl) (pv 1)))) pss_nil)
      (pss_cons (ps_if (pt_cmpR (op_eqK (K := K) rfl hr.units) (pv 0) pe_int (nomark _)) (pss_one (ps_set (i := 8) sc_law_due.nd rfl (Or.inl rfl) (pv 6))) pss_nil)
      (pss_cons (ps_setC (i := 9) sc_law_due.nd rfl rfl (own := ["_law_place"]) (fr := [("_law_filled", 7)]) rfl ⟨rfl, (by walk_at "clok"), (by walk_at "frok"), rfl, (by decide +kernel), (by decide +kernel), rfl⟩ (pi_seqK (K := K) rfl (pv 5)) (fun _ _ _ _ => (pg_name (i := 0) (show List.Nodup [("_law_place" : Str), ("_law_filled" : Str)] from by decide +kernel) rfl (Or.inl rfl))) (fun _ _ _ _ => (pts_one (pt_cmpR (op_neK (K := K) rfl hr.units) (pv 0) (pv 1) (nomark _)))) (fun _ _ _ _ => (pv 0)))
      (pss_cons (ps_if (pt_cmpR (op_inK (K := K) rfl) (pv 8) (pv 5) rfl) (pss_one (ps_expr (pe_bmK (K := K) rfl PySem.F.plainAttrs_list PySem.F.slot_list_append PySem.F.type_list_append mt_append (pv 9) (pa_cons (pv 7) pa_nil)))) pss_nil)
      (pss_one (ps_ret (pv 9)))))))))))))), ?_⟩
    refine r_st (σ' := [some _, some _, some _, some _, some _, some _, none, none, none, none]) rfl ?_
    have hd : dueS k b o m z ps = ps.filter (fun p => decide (p ≠ b.toNat)) ++ [] := by unfold dueS; rw [if_neg (by omega), if_neg (by omega), if_neg (by omega), if_neg (by omega), if_neg (by omega), if_neg (by omega)]; rfl
    rw [hd] at q
    walk_at "rd"
    rw [show inV (V.int k) [V.int 6, V.int 7, V.int 9, V.int 10, V.int 11] = false from by rcases hk with rfl | rfl | rfl | rfl | rfl <;> rfl]
    walk_at "rd"
    refine comp_filL emb (fun p => decide (p ≠ (b).toNat)) (fun σ => ∃ v, σ = [v, some (.int b)]) (SqL.of (by walk_at "hlk")) (by walk_at "small") ⟨_, rfl⟩ ?_ ?_
    · rintro i x ys σ H1 hx c s ⟨v, rfl⟩
      walk_at "rd"
      refine ifIntN (fun hh => ?_) (fun hh => ?_)
      · walk_at "rd"
        exact c.yes hx (decide_eq_true (by omega)) rfl (by walk_at "same") ⟨_, rfl⟩
      · walk_at "rd"
        exact c.no hx (decide_eq_false (by omega)) (by walk_at "same") ⟨_, rfl⟩
    intro H1 s1
    have hl1 := hl (fun p => decide (p ≠ (b).toNat))
    walk_at "rd"
    refine r_inP (by walk_at "sql") rfl (flat_emb ps) ?_
    rw [inV_neg]
    walk_at "rd"
    refine q _ _ (by walk_at "same") ?_
    show _ = some (HO.lst ((ps.filter (fun p => decide (p ≠ b.toNat)) ++ []).map emb))
    rw [List.append_nil]
    walk_at "hlk"
end
section
variable {P : Program} {w : World} {K : PySem.W.Frag} {mg : Str → Option Value} {base : Heap} {a : Adr}
set_option maxHeartbeats 4000000 in
theorem ok_bounded (T : Txt K mg a) : FnE P w K mg base CX0 1 "bounded" spBounded := by
  refine fnE_of (sp := spBounded) 0 T.fn_bounded sc_bounded (fun vs H Q E h => ?_) (fun f cdv A outer s H vs Q E hr h => ?_)
  · obtain ⟨n, top, rfl, _⟩ := h
    rfl
  · obtain ⟨n, top, rfl, h0, h1, q⟩ := h
    refine ⟨_, (pss_cons (ps_if (PW.pt (pw_or (pt_cmpR op_lt (pv 0) pe_int (nomark _)) (pw_or1 (pt_cmpR op_gt (pv 0) (pv 1) (nomark _))))) (pss_one ps_never) pss_nil)
      (pss_one (ps_ret (pv 0)))), ?_⟩
    refine r_st (σ' := [some _, some _]) rfl ?_
    walk_at "rd"
    exact q
end
section
variable {P : Program} {w : World} {K : PySem.W.Frag} {mg : Str → Option Value} {base : Heap} {a : Adr}
set_option maxHeartbeats 4000000 in
theorem ok_box_place (T : Txt K mg a) : FnE P w K mg base CX0 1 "box_place" spBoxPl := by
  refine fnE_of (sp := spBoxPl) 0 T.fn_box_place sc_box_place (fun vs H Q E h => ?_) (fun f cdv A outer s H vs Q E hr h => ?_)
  · obtain ⟨b, rfl, _⟩ := h
    rfl
  · obtain ⟨b, rfl, h0, h1, q⟩ := h
    refine ⟨_, (pss_one (ps_ret (pe_op op_shlB pe_int (pv 0)))), ?_⟩
    refine r_st (σ' := [some _]) rfl ?_
    walk_at "rd"
    refine r_I (shl_one h0 (by omega)) ?_
    rw [one_shl]
    exact q
end
section
variable {P : Program} {w : World} {K : PySem.W.Frag} {mg : Str → Option Value} {base : Heap} {a : Adr}
set_option maxHeartbeats 4000000 in
theorem ok_cell_place (T : Txt K mg a) : FnE P w K mg base CX0 1 "cell_place" spCellPl := by
  refine fnE_of (sp := spCellPl) 0 T.fn_cell_place sc_cell_place (fun vs H Q E h => ?_) (fun f cdv A outer s H vs Q E hr h => ?_)
  · obtain ⟨c, z, rfl, _⟩ := h
    rfl
  · obtain ⟨c, z, rfl, h0, h1, h2, q⟩ := h
    refine ⟨_, (pss_one (ps_ret (pe_op op_shlB pe_int (pe_op op_sub (pe_op op_sub (pe_op (op_plusK (K := K) rfl) (pe_glob (v := .int 8) rfl T.g_FIRST_CELL_BIT.choose_spec ⟨_, rfl⟩) (pv 1)) pe_int) (pv 0))))), ?_⟩
    refine r_st (σ' := [some _, some _]) rfl ?_
    walk_at "rd"
    refine r_I (shl_one (by omega) (by omega)) ?_
    rw [one_shl]
    exact q
end
section
variable {P : Program} {w : World} {K : PySem.W.Frag} {mg : Str → Option Value} {base : Heap} {a : Adr}
set_option maxHeartbeats 4000000 in
theorem ok_without (T : Txt K mg a) : FnE P w K mg base CX0 1 "without" spWithout := by
  refine fnE_of (sp := spWithout) 0 T.fn_without sc_without (fun vs H Q E h => ?_) (fun f cdv A outer s H vs Q E hr h => ?_)
  · obtain ⟨s, p, rfl, _⟩ := h
    rfl
  · obtain ⟨s, p, rfl, q⟩ := h
    refine ⟨_, (pss_one (ps_ret (pe_op op_and (pv 0) (pe_un un_inv (pv 1))))), ?_⟩
    refine r_st (σ' := [some _, some _]) rfl ?_
    walk_at "rd"
    rw [bitAnd_wo]
    exact q
end
section
variable {P : Program} {w : World} {K : PySem.W.Frag} {mg : Str → Option Value} {base : Heap} {a : Adr}
set_option maxHeartbeats 4000000 in
theorem me_Less_height (T : Txt K mg a) (b o t : Int) : MethE P w K mg base CX0 1 a.C_Less "height" (spHeight a (.less b o t)) := by
  refine methE_of (sp := (spHeight a (.less b o t))) 0 T.cl_Less T.m_Less_height sc_Row_height (fun vs H Q E h => ?_) (fun f cdv A outer s H vs Q E hr h => ?_)
  · obtain ⟨x, z, rfl, _⟩ := h
    rfl
  · obtain ⟨x, z, rfl, ⟨dx, hx⟩, q⟩ := h
    change H x = some (.ins a.C_Less dx (putF "other" (.int t) (putF "one" (.int o) (putF "box" (.int b) [])))) at hx
    refine ⟨_, (pss_one (ps_ret (pv 1))), ?_⟩
    refine r_st (σ' := [some _, some _]) rfl ?_
    walk_at "rds"
    all_goals (try simp only [Rw.height] at q); (repeat' split at q) <;> first | exact q | (exfalso; omega)
end
section
variable {P : Program} {w : World} {K : PySem.W.Frag} {mg : Str → Option Value} {base : Heap} {a : Adr}
set_option maxHeartbeats 4000000 in
theorem me_Set_height (T : Txt K mg a) (b n : Int) : MethE P w K mg base CX0 1 a.C_Set "height" (spHeight a (.set b n)) := by
  refine methE_of (sp := (spHeight a (.set b n))) 0 T.cl_Set T.m_Set_height sc_Row_height (fun vs H Q E h => ?_) (fun f cdv A outer s H vs Q E hr h => ?_)
  · obtain ⟨x, z, rfl, _⟩ := h
    rfl
  · obtain ⟨x, z, rfl, ⟨dx, hx⟩, q⟩ := h
    change H x = some (.ins a.C_Set dx (putF "number" (.int n) (putF "box" (.int b) []))) at hx
    refine ⟨_, (pss_one (ps_ret (pv 1))), ?_⟩
    refine r_st (σ' := [some _, some _]) rfl ?_
    walk_at "rds"
    all_goals (try simp only [Rw.height] at q); (repeat' split at q) <;> first | exact q | (exfalso; omega)
end
section
variable {P : Program} {w : World} {K : PySem.W.Frag} {mg : Str → Option Value} {base : Heap} {a : Adr}
set_option maxHeartbeats 4000000 in
theorem me_Copy_height (T : Txt K mg a) (b o : Int) : MethE P w K mg base CX0 1 a.C_Copy "height" (spHeight a (.copy b o)) := by
  refine methE_of (sp := (spHeight a (.copy b o))) 0 T.cl_Copy T.m_Copy_height sc_Row_height (fun vs H Q E h => ?_) (fun f cdv A outer s H vs Q E hr h => ?_)
  · obtain ⟨x, z, rfl, _⟩ := h
    rfl
  · obtain ⟨x, z, rfl, ⟨dx, hx⟩, q⟩ := h
    change H x = some (.ins a.C_Copy dx (putF "one" (.int o) (putF "box" (.int b) []))) at hx
    refine ⟨_, (pss_one (ps_ret (pv 1))), ?_⟩
    refine r_st (σ' := [some _, some _]) rfl ?_
    walk_at "rds"
    all_goals (try simp only [Rw.height] at q); (repeat' split at q) <;> first | exact q | (exfalso; omega)
end
section
variable {P : Program} {w : World} {K : PySem.W.Frag} {mg : Str → Option Value} {base : Heap} {a : Adr}
set_option maxHeartbeats 4000000 in
theorem me_Add_height (T : Txt K mg a) (b o t : Int) : MethE P w K mg base CX0 1 a.C_Add "height" (spHeight a (.add b o t)) := by
  refine methE_of (sp := (spHeight a (.add b o t))) 0 T.cl_Add T.m_Add_height sc_Row_height (fun vs H Q E h => ?_) (fun f cdv A outer s H vs Q E hr h => ?_)
  · obtain ⟨x, z, rfl, _⟩ := h
    rfl
  · obtain ⟨x, z, rfl, ⟨dx, hx⟩, q⟩ := h
    change H x = some (.ins a.C_Add dx (putF "other" (.int t) (putF "one" (.int o) (putF "box" (.int b) [])))) at hx
    refine ⟨_, (pss_one (ps_ret (pv 1))), ?_⟩
    refine r_st (σ' := [some _, some _]) rfl ?_
    walk_at "rds"
    all_goals (try simp only [Rw.height] at q); (repeat' split at q) <;> first | exact q | (exfalso; omega)
end
section
variable {P : Program} {w : World} {K : PySem.W.Frag} {mg : Str → Option Value} {base : Heap} {a : Adr}
set_option maxHeartbeats 4000000 in
theorem me_Sub_height (T : Txt K mg a) (b o t : Int) : MethE P w K mg base CX0 1 a.C_Sub "height" (spHeight a (.sub b o t)) := by
  refine methE_of (sp := (spHeight a (.sub b o t))) 0 T.cl_Sub T.m_Sub_height sc_Row_height (fun vs H Q E h => ?_) (fun f cdv A outer s H vs Q E hr h => ?_)
  · obtain ⟨x, z, rfl, _⟩ := h
    rfl
  · obtain ⟨x, z, rfl, ⟨dx, hx⟩, q⟩ := h
    change H x = some (.ins a.C_Sub dx (putF "other" (.int t) (putF "one" (.int o) (putF "box" (.int b) [])))) at hx
    refine ⟨_, (pss_one (ps_ret (pv 1))), ?_⟩
    refine r_st (σ' := [some _, some _]) rfl ?_
    walk_at "rds"
    all_goals (try simp only [Rw.height] at q); (repeat' split at q) <;> first | exact q | (exfalso; omega)
end
section
variable {P : Program} {w : World} {K : PySem.W.Frag} {mg : Str → Option Value} {base : Heap} {a : Adr}
set_option maxHeartbeats 4000000 in
theorem me_Mul_height (T : Txt K mg a) (b o t : Int) : MethE P w K mg base CX0 1 a.C_Mul "height" (spHeight a (.mul b o t)) := by
  refine methE_of (sp := (spHeight a (.mul b o t))) 0 T.cl_Mul T.m_Mul_height sc_Row_height (fun vs H Q E h => ?_) (fun f cdv A outer s H vs Q E hr h => ?_)
  · obtain ⟨x, z, rfl, _⟩ := h
    rfl
  · obtain ⟨x, z, rfl, ⟨dx, hx⟩, q⟩ := h
    change H x = some (.ins a.C_Mul dx (putF "other" (.int t) (putF "one" (.int o) (putF "box" (.int b) [])))) at hx
    refine ⟨_, (pss_one (ps_ret (pv 1))), ?_⟩
    refine r_st (σ' := [some _, some _]) rfl ?_
    walk_at "rds"
    all_goals (try simp only [Rw.height] at q); (repeat' split at q) <;> first | exact q | (exfalso; omega)
end
section
variable {P : Program} {w : World} {K : PySem.W.Frag} {mg : Str → Option Value} {base : Heap} {a : Adr}
set_option maxHeartbeats 4000000 in
theorem me_Drop_height (T : Txt K mg a) (b : Int) : MethE P w K mg base CX0 1 a.C_Drop "height" (spHeight a (.drop b)) := by
  refine methE_of (sp := (spHeight a (.drop b))) 0 T.cl_Drop T.m_Drop_height sc_Row_height (fun vs H Q E h => ?_) (fun f cdv A outer s H vs Q E hr h => ?_)
  · obtain ⟨x, z, rfl, _⟩ := h
    rfl
  · obtain ⟨x, z, rfl, ⟨dx, hx⟩, q⟩ := h
    change H x = some (.ins a.C_Drop dx (putF "box" (.int b) [])) at hx
    refine ⟨_, (pss_one (ps_ret (pv 1))), ?_⟩
    refine r_st (σ' := [some _, some _]) rfl ?_
    walk_at "rds"
    all_goals (try simp only [Rw.height] at q); (repeat' split at q) <;> first | exact q | (exfalso; omega)
end
section
variable {P : Program} {w : World} {K : PySem.W.Frag} {mg : Str → Option Value} {base : Heap} {a : Adr}
set_option maxHeartbeats 4000000 in
theorem me_Jump_height (T : Txt K mg a) (t : Int) : MethE P w K mg base CX0 1 a.C_Jump "height" (spHeight a (.jump t)) := by
  refine methE_of (sp := (spHeight a (.jump t))) 0 T.cl_Jump T.m_Jump_height sc_Row_height (fun vs H Q E h => ?_) (fun f cdv A outer s H vs Q E hr h => ?_)
  · obtain ⟨x, z, rfl, _⟩ := h
    rfl
  · obtain ⟨x, z, rfl, ⟨dx, hx⟩, q⟩ := h
    change H x = some (.ins a.C_Jump dx (putF "target" (.int t) [])) at hx
    refine ⟨_, (pss_one (ps_ret (pv 1))), ?_⟩
    refine r_st (σ' := [some _, some _]) rfl ?_
    walk_at "rds"
    all_goals (try simp only [Rw.height] at q); (repeat' split at q) <;> first | exact q | (exfalso; omega)
end
section
variable {P : Program} {w : World} {K : PySem.W.Frag} {mg : Str → Option Value} {base : Heap} {a : Adr}
set_option maxHeartbeats 4000000 in
theorem me_Branch_height (T : Txt K mg a) (b t : Int) : MethE P w K mg base CX0 1 a.C_Branch "height" (spHeight a (.branch b t)) := by
  refine methE_of (sp := (spHeight a (.branch b t))) 0 T.cl_Branch T.m_Branch_height sc_Row_height (fun vs H Q E h => ?_) (fun f cdv A outer s H vs Q E hr h => ?_)
  · obtain ⟨x, z, rfl, _⟩ := h
    rfl
  · obtain ⟨x, z, rfl, ⟨dx, hx⟩, q⟩ := h
    change H x = some (.ins a.C_Branch dx (putF "target" (.int t) (putF "box" (.int b) []))) at hx
    refine ⟨_, (pss_one (ps_ret (pv 1))), ?_⟩
    refine r_st (σ' := [some _, some _]) rfl ?_
    walk_at "rds"
    all_goals (try simp only [Rw.height] at q); (repeat' split at q) <;> first | exact q | (exfalso; omega)
end
section
variable {P : Program} {w : World} {K : PySem.W.Frag} {mg : Str → Option Value} {base : Heap} {a : Adr}
set_option maxHeartbeats 4000000 in
theorem me_Call_height (T : Txt K mg a) (t : Int) : MethE P w K mg base CX0 1 a.C_Call "height" (spHeight a (.call t)) := by
  refine methE_of (sp := (spHeight a (.call t))) 0 T.cl_Call T.m_Call_height sc_Row_height (fun vs H Q E h => ?_) (fun f cdv A outer s H vs Q E hr h => ?_)
  · obtain ⟨x, z, rfl, _⟩ := h
    rfl
  · obtain ⟨x, z, rfl, ⟨dx, hx⟩, q⟩ := h
    change H x = some (.ins a.C_Call dx (putF "target" (.int t) [])) at hx
    refine ⟨_, (pss_one (ps_ret (pv 1))), ?_⟩
    refine r_st (σ' := [some _, some _]) rfl ?_
    walk_at "rds"
    all_goals (try simp only [Rw.height] at q); (repeat' split at q) <;> first | exact q | (exfalso; omega)
end
section
variable {P : Program} {w : World} {K : PySem.W.Frag} {mg : Str → Option Value} {base : Heap} {a : Adr}
set_option maxHeartbeats 4000000 in
theorem me_Back_height (T : Txt K mg a) (b : Int) : MethE P w K mg base CX0 1 a.C_Back "height" (spHeight a (.back b)) := by
  refine methE_of (sp := (spHeight a (.back b))) 0 T.cl_Back T.m_Back_height sc_Row_height (fun vs H Q E h => ?_) (fun f cdv A outer s H vs Q E hr h => ?_)
  · obtain ⟨x, z, rfl, _⟩ := h
    rfl
  · obtain ⟨x, z, rfl, ⟨dx, hx⟩, q⟩ := h
    change H x = some (.ins a.C_Back dx (putF "box" (.int b) [])) at hx
    refine ⟨_, (pss_one (ps_ret (pv 1))), ?_⟩
    refine r_st (σ' := [some _, some _]) rfl ?_
    walk_at "rds"
    all_goals (try simp only [Rw.height] at q); (repeat' split at q) <;> first | exact q | (exfalso; omega)
end
section
variable {P : Program} {w : World} {K : PySem.W.Frag} {mg : Str → Option Value} {base : Heap} {a : Adr}
set_option maxHeartbeats 4000000 in
theorem me_Drop_keeps (T : Txt K mg a) (b : Int) : MethE P w K mg base CX0 1 a.C_Drop "keeps" (spKeeps a (.drop b)) := by
  refine methE_of (sp := (spKeeps a (.drop b))) 0 T.cl_Drop T.m_Drop_keeps sc_Row_keeps (fun vs H Q E h => ?_) (fun f cdv A outer s H vs Q E hr h => ?_)
  · obtain ⟨x, s, z, rfl, _⟩ := h
    rfl
  · obtain ⟨x, s, z, rfl, ⟨dx, hx⟩, hk, z0, z1, hs, q⟩ := h
    change H x = some (.ins a.C_Drop dx (putF "box" (.int b) [])) at hx
    obtain ⟨k1, k2⟩ := hk
    refine ⟨_, (pss_one (ps_ret (pv 1))), ?_⟩
    refine r_st (σ' := [some _, some _, some _]) rfl ?_
    walk_at "rd"
    exact q
end
section
variable {P : Program} {w : World} {K : PySem.W.Frag} {mg : Str → Option Value} {base : Heap} {a : Adr}
set_option maxHeartbeats 4000000 in
theorem me_Jump_keeps (T : Txt K mg a) (t : Int) : MethE P w K mg base CX0 1 a.C_Jump "keeps" (spKeeps a (.jump t)) := by
  refine methE_of (sp := (spKeeps a (.jump t))) 0 T.cl_Jump T.m_Jump_keeps sc_Row_keeps (fun vs H Q E h => ?_) (fun f cdv A outer s H vs Q E hr h => ?_)
  · obtain ⟨x, s, z, rfl, _⟩ := h
    rfl
  · obtain ⟨x, s, z, rfl, ⟨dx, hx⟩, hk, z0, z1, hs, q⟩ := h
    change H x = some (.ins a.C_Jump dx (putF "target" (.int t) [])) at hx
    obtain ⟨k1, k2⟩ := hk
    refine ⟨_, (pss_one (ps_ret (pv 1))), ?_⟩
    refine r_st (σ' := [some _, some _, some _]) rfl ?_
    walk_at "rd"
    exact q
end
section
variable {P : Program} {w : World} {K : PySem.W.Frag} {mg : Str → Option Value} {base : Heap} {a : Adr}
set_option maxHeartbeats 4000000 in
theorem me_Branch_keeps (T : Txt K mg a) (b t : Int) : MethE P w K mg base CX0 1 a.C_Branch "keeps" (spKeeps a (.branch b t)) := by
  refine methE_of (sp := (spKeeps a (.branch b t))) 0 T.cl_Branch T.m_Branch_keeps sc_Row_keeps (fun vs H Q E h => ?_) (fun f cdv A outer s H vs Q E hr h => ?_)
  · obtain ⟨x, s, z, rfl, _⟩ := h
    rfl
  · obtain ⟨x, s, z, rfl, ⟨dx, hx⟩, hk, z0, z1, hs, q⟩ := h
    change H x = some (.ins a.C_Branch dx (putF "target" (.int t) (putF "box" (.int b) []))) at hx
    obtain ⟨⟨k1, k2⟩, ⟨k3, k4⟩⟩ := hk
    refine ⟨_, (pss_one (ps_ret (pv 1))), ?_⟩
    refine r_st (σ' := [some _, some _, some _]) rfl ?_
    walk_at "rd"
    exact q
end
section
variable {P : Program} {w : World} {K : PySem.W.Frag} {mg : Str → Option Value} {base : Heap} {a : Adr}
set_option maxHeartbeats 4000000 in
theorem me_Back_keeps (T : Txt K mg a) (b : Int) : MethE P w K mg base CX0 1 a.C_Back "keeps" (spKeeps a (.back b)) := by
  refine methE_of (sp := (spKeeps a (.back b))) 0 T.cl_Back T.m_Back_keeps sc_Row_keeps (fun vs H Q E h => ?_) (fun f cdv A outer s H vs Q E hr h => ?_)
  · obtain ⟨x, s, z, rfl, _⟩ := h
    rfl
  · obtain ⟨x, s, z, rfl, ⟨dx, hx⟩, hk, z0, z1, hs, q⟩ := h
    change H x = some (.ins a.C_Back dx (putF "box" (.int b) [])) at hx
    obtain ⟨k1, k2⟩ := hk
    refine ⟨_, (pss_one (ps_ret (pv 1))), ?_⟩
    refine r_st (σ' := [some _, some _, some _]) rfl ?_
    walk_at "rd"
    exact q
end
section
variable {P : Program} {w : World} {K : PySem.W.Frag} {mg : Str → Option Value} {base : Heap} {a : Adr}
set_option maxHeartbeats 4000000 in
theorem me_Grow_keeps (T : Txt K mg a) (m : Int) : MethE P w K mg base CX0 1 a.C_Grow "keeps" (spKeeps a (.grow m)) := by
  refine methE_of (sp := (spKeeps a (.grow m))) 0 T.cl_Grow T.m_Grow_keeps sc_Row_keeps (fun vs H Q E h => ?_) (fun f cdv A outer s H vs Q E hr h => ?_)
  · obtain ⟨x, s, z, rfl, _⟩ := h
    rfl
  · obtain ⟨x, s, z, rfl, ⟨dx, hx⟩, hk, z0, z1, hs, q⟩ := h
    change H x = some (.ins a.C_Grow dx (putF "many" (.int m) [])) at hx
    obtain ⟨k1, k2⟩ := hk
    refine ⟨_, (pss_one (ps_ret (pv 1))), ?_⟩
    refine r_st (σ' := [some _, some _, some _]) rfl ?_
    walk_at "rd"
    exact q
end
section
variable {P : Program} {w : World} {K : PySem.W.Frag} {mg : Str → Option Value} {base : Heap} {a : Adr}
set_option maxHeartbeats 4000000 in
theorem me_Grow_height (T : Txt K mg a) (m : Int) : MethE P w K mg base CX0 1 a.C_Grow "height" (spHeight a (.grow m)) := by
  refine methE_of (sp := (spHeight a (.grow m))) 0 T.cl_Grow T.m_Grow_height sc_Grow_height (fun vs H Q E h => ?_) (fun f cdv A outer s H vs Q E hr h => ?_)
  · obtain ⟨x, z, rfl, _⟩ := h
    rfl
  · obtain ⟨x, z, rfl, ⟨dx, hx⟩, q⟩ := h
    change H x = some (.ins a.C_Grow dx (putF "many" (.int m) [])) at hx
    refine ⟨_, (pss_cons (ps_if (pt_cmpR op_gt (pe_op (op_plusK (K := K) rfl) (pv 1) (pe_fldK (K := K) rfl (pv 0))) (pe_glob (v := .int 4000) rfl T.g_TOP_CELLS.choose_spec ⟨_, rfl⟩) (nomark _)) (pss_one (ps_ret pe_non)) pss_nil)
      (pss_one (ps_ret (pe_op (op_plusK (K := K) rfl) (pv 1) (pe_fldK (K := K) rfl (pv 0)))))), ?_⟩
    refine r_st (σ' := [some _, some _]) rfl ?_
    walk_at "rds"
    all_goals (try simp only [Rw.height] at q); (repeat' split at q) <;> first | exact q | (exfalso; omega)
end
section
variable {P : Program} {w : World} {K : PySem.W.Frag} {mg : Str → Option Value} {base : Heap} {a : Adr}
set_option maxHeartbeats 4000000 in
theorem me_Shrink_height (T : Txt K mg a) (m : Int) : MethE P w K mg base CX0 1 a.C_Shrink "height" (spHeight a (.shrink m)) := by
  refine methE_of (sp := (spHeight a (.shrink m))) 0 T.cl_Shrink T.m_Shrink_height sc_Shrink_height (fun vs H Q E h => ?_) (fun f cdv A outer s H vs Q E hr h => ?_)
  · obtain ⟨x, z, rfl, _⟩ := h
    rfl
  · obtain ⟨x, z, rfl, ⟨dx, hx⟩, q⟩ := h
    change H x = some (.ins a.C_Shrink dx (putF "many" (.int m) [])) at hx
    refine ⟨_, (pss_cons (ps_if (pt_cmpR op_lt (pv 1) (pe_fldK (K := K) rfl (pv 0)) (nomark _)) (pss_one (ps_ret pe_non)) pss_nil)
      (pss_one (ps_ret (pe_op op_sub (pv 1) (pe_fldK (K := K) rfl (pv 0)))))), ?_⟩
    refine r_st (σ' := [some _, some _]) rfl ?_
    walk_at "rds"
    all_goals (try simp only [Rw.height] at q); (repeat' split at q) <;> first | exact q | (exfalso; omega)
end
section
variable {P : Program} {w : World} {K : PySem.W.Frag} {mg : Str → Option Value} {base : Heap} {a : Adr}
set_option maxHeartbeats 4000000 in
theorem me_Get_height (T : Txt K mg a) (b c : Int) : MethE P w K mg base CX0 1 a.C_Get "height" (spHeight a (.get b c)) := by
  refine methE_of (sp := (spHeight a (.get b c))) 0 T.cl_Get T.m_Get_height sc_Reaching_height (fun vs H Q E h => ?_) (fun f cdv A outer s H vs Q E hr h => ?_)
  · obtain ⟨x, z, rfl, _⟩ := h
    rfl
  · obtain ⟨x, z, rfl, ⟨dx, hx⟩, q⟩ := h
    change H x = some (.ins a.C_Get dx (putF "cell" (.int c) (putF "box" (.int b) []))) at hx
    refine ⟨_, (pss_cons (ps_if (pt_cmpR op_le (pv 1) (pe_fldK (K := K) rfl (pv 0)) (nomark _)) (pss_one (ps_ret pe_non)) pss_nil)
      (pss_one (ps_ret (pv 1)))), ?_⟩
    refine r_st (σ' := [some _, some _]) rfl ?_
    walk_at "rds"
    all_goals (try simp only [Rw.height] at q); (repeat' split at q) <;> first | exact q | (exfalso; omega)
end
section
variable {P : Program} {w : World} {K : PySem.W.Frag} {mg : Str → Option Value} {base : Heap} {a : Adr}
set_option maxHeartbeats 4000000 in
theorem me_Put_height (T : Txt K mg a) (b c : Int) : MethE P w K mg base CX0 1 a.C_Put "height" (spHeight a (.put b c)) := by
  refine methE_of (sp := (spHeight a (.put b c))) 0 T.cl_Put T.m_Put_height sc_Reaching_height (fun vs H Q E h => ?_) (fun f cdv A outer s H vs Q E hr h => ?_)
  · obtain ⟨x, z, rfl, _⟩ := h
    rfl
  · obtain ⟨x, z, rfl, ⟨dx, hx⟩, q⟩ := h
    change H x = some (.ins a.C_Put dx (putF "cell" (.int c) (putF "box" (.int b) []))) at hx
    refine ⟨_, (pss_cons (ps_if (pt_cmpR op_le (pv 1) (pe_fldK (K := K) rfl (pv 0)) (nomark _)) (pss_one (ps_ret pe_non)) pss_nil)
      (pss_one (ps_ret (pv 1)))), ?_⟩
    refine r_st (σ' := [some _, some _]) rfl ?_
    walk_at "rds"
    all_goals (try simp only [Rw.height] at q); (repeat' split at q) <;> first | exact q | (exfalso; omega)
end
section
variable {P : Program} {w : World} {K : PySem.W.Frag} {mg : Str → Option Value} {base : Heap} {a : Adr}
set_option maxHeartbeats 4000000 in
theorem ok_law_cell_at (T : Txt K mg a) : FnE P w K mg base CX0 1 "_law_cell_at" (spCellAt K) := by
  refine fnE_of (sp := (spCellAt K)) 0 T.fn_law_cell_at sc_law_cell_at (fun vs H Q E h => ?_) (fun f cdv A outer s H vs Q E hr h => ?_)
  · obtain ⟨p, ns, k, rfl, _⟩ := h
    rfl
  · obtain ⟨p, ns, k, rfl, hS, h0, q⟩ := h
    refine ⟨_, (pss_cons (ps_if (pt_cmpR op_lt (pv 1) (pe_callB (call_lenK (K := K) rfl) rfl T.z_len b_len (pa_cons (pv 0) pa_nil)) (nomark _)) (pss_one (ps_ret (pe_ix (ix_K (K := K) rfl) (pv 0) (pv 1) (fun _ _ => rfl)))) pss_nil)
      (pss_one (ps_ret pe_int))), ?_⟩
    refine r_st (σ' := [some _, some _]) rfl ?_
    walk_at "rd"
    refine ifDec (fun hh => ?_) (fun hh => ?_)
    · walk_at "rd"
      exact q
    · walk_at "rd"
      have e := cellAt_out h0 hh
      rw [e] at q
      exact q
end
section
variable {P : Program} {w : World} {K : PySem.W.Frag} {mg : Str → Option Value} {base : Heap} {a : Adr}
set_option maxHeartbeats 4000000 in
theorem ok_law_whole (T : Txt K mg a) : FnE P w K mg base CX0 1 "_law_whole" spWhole := by
  refine fnE_of (sp := spWhole) 0 T.fn_law_whole sc_law_whole (fun vs H Q E h => ?_) (fun f cdv A outer s H vs Q E hr h => ?_)
  · obtain ⟨i, rfl, _⟩ := h
    rfl
  · obtain ⟨i, rfl, q⟩ := h
    refine ⟨_, (pss_one (ps_ret (pe_and (pe_callB (call_isiK (K := K) rfl) rfl T.z_isinstance b_isinstance (pa_cons (pv 0) (pa_cons (pe_bltn (v := .ty "int") rfl T.z_int b_int rfl) pa_nil))) (pe_one (pe_not (pe_callB (call_isiK (K := K) rfl) rfl T.z_isinstance b_isinstance (pa_cons (pv 0) (pa_cons (pe_bltn (v := .ty "bool") rfl T.z_bool b_bool rfl) pa_nil)))))))), ?_⟩
    refine r_st (σ' := [some _]) rfl ?_
    walk_at "rd"
    exact q
end
section
variable {P : Program} {w : World} {K : PySem.W.Frag} {mg : Str → Option Value} {base : Heap} {a : Adr}
set_option maxHeartbeats 4000000 in
theorem ok_law_mixed (T : Txt K mg a) : FnE P w K mg base CX0 1 "_law_mixed" spMixed := by
  refine fnE_of (sp := spMixed) 0 T.fn_law_mixed sc_law_mixed (fun vs H Q E h => ?_) (fun f cdv A outer s H vs Q E hr h => ?_)
  · obtain ⟨c, k, rfl, _⟩ := h
    rfl
  · obtain ⟨c, k, rfl, h0, q⟩ := h
    refine ⟨_, (pss_cons (ps_if (pt_cmpR (op_eqK (K := K) rfl hr.units) (pe_op op_mod (pv 0) pe_int) pe_int (nomark _)) (pss_one (ps_ret (pe_op op_and (pe_op op_shr (pe_op op_fdiv (pv 0) pe_int) (pe_op op_times pe_int (pv 1))) pe_int))) pss_nil)
      (pss_cons (ps_set (i := 2) sc_law_mixed.nd rfl (Or.inl rfl) (pe_op op_mod (pe_op op_times (pe_op (op_plusK (K := K) rfl) (pe_op (op_plusK (K := K) rfl) (pe_op op_mod (pv 0) pe_int) (pe_op op_times pe_int (pv 1))) pe_int) pe_int) pe_int))
      (pss_cons (ps_set (i := 2) sc_law_mixed.nd rfl (Or.inl rfl) (pe_op op_mod (pe_op op_times (pv 2) (pe_op (op_plusK (K := K) rfl) (pe_op op_fdiv (pv 2) pe_int) pe_int)) pe_int))
      (pss_one (ps_ret (pe_op op_mod (pe_op op_times (pv 2) (pe_op (op_plusK (K := K) rfl) (pe_op (op_plusK (K := K) rfl) (pe_op op_fdiv (pv 2) pe_int) pe_int) (pv 1))) pe_int)))))), ?_⟩
    refine r_st (σ' := [some _, some _, none]) rfl ?_
    walk_at "rds"
    all_goals exact q _
end
section
variable {P : Program} {w : World} {K : PySem.W.Frag} {mg : Str → Option Value} {base : Heap} {a : Adr}
set_option maxHeartbeats 4000000 in
theorem ok_law_due (T : Txt K mg a) : FnE P w K mg base CX0 1 "_law_due" (spDue K) := by
  refine fnE_of (sp := (spDue K)) 0 T.fn_law_due sc_law_due (fun vs H Q E h => ?_) (fun f cdv A outer s H vs Q E hr h => ?_)
  · obtain ⟨k, b, o, m, z, p, ps, rfl, _⟩ := h
    rfl
  · obtain ⟨k, b, o, m, z, p, ps, rfl, k0, k1, rest⟩ := h
    have hk : k = 12 ∨ k = 8 ∨ k = 1 ∨ k = 13 ∨ k = 14 ∨ (k = 6 ∨ k = 7 ∨ k = 9 ∨ k = 10 ∨ k = 11) ∨ (k = 0 ∨ k = 2 ∨ k = 3 ∨ k = 4 ∨ k = 5) := by omega
    rcases hk with e | e | e | e | e | e | e
    · exact bd_law_due_k12 T f cdv A outer s H _ Q E hr ⟨k, b, o, m, z, p, ps, rfl, e, rest⟩
    · exact bd_law_due_k8 T f cdv A outer s H _ Q E hr ⟨k, b, o, m, z, p, ps, rfl, e, rest⟩
    · exact bd_law_due_k1 T f cdv A outer s H _ Q E hr ⟨k, b, o, m, z, p, ps, rfl, e, rest⟩
    · exact bd_law_due_k13 T f cdv A outer s H _ Q E hr ⟨k, b, o, m, z, p, ps, rfl, e, rest⟩
    · exact bd_law_due_k14 T f cdv A outer s H _ Q E hr ⟨k, b, o, m, z, p, ps, rfl, e, rest⟩
    · exact bd_law_due_kA T f cdv A outer s H _ Q E hr ⟨k, b, o, m, z, p, ps, rfl, e, rest⟩
    · exact bd_law_due_kB T f cdv A outer s H _ Q E hr ⟨k, b, o, m, z, p, ps, rfl, e, rest⟩
end
section
variable {P : Program} {w : World} {K : PySem.W.Frag} {mg : Str → Option Value} {base : Heap} {a : Adr}
set_option maxHeartbeats 4000000 in
theorem ok_filled (T : Txt K mg a) : FnE P w K mg base CX0 2 "filled" spFilled := by
  refine fnE_of (sp := spFilled) 1 T.fn_filled sc_filled (fun vs H Q E h => ?_) (fun f cdv A outer s H vs Q E hr h => ?_)
  · obtain ⟨s, p, t, rfl, _⟩ := h
    rfl
  · obtain ⟨s, p, t, rfl, q⟩ := h
    refine ⟨_, (pss_cons (ps_if (pt_truK (K := K) rfl (pe_op op_and (pv 0) (pv 2))) (pss_one (ps_ret (pe_op op_or (pv 0) (pv 1)))) pss_nil)
      (pss_one (ps_ret (pe_callE (ok_without (K := K) T) (hr.mono (by decide)) pass0 rfl (pa_cons (pv 0) (pa_cons (pv 1) pa_nil)))))), ?_⟩
    refine r_st (σ' := [some _, some _, some _]) rfl ?_
    walk_at "rd"
    rw [bitAnd_nat]
    unfold fillS at q
    by_cases e : s &&& t = 0
    · rw [if_pos e] at q
      rw [e, show (((0 : Nat) : Int) != 0) = false from rfl]
      walk_at "rd"
      exact q
    · rw [if_neg e] at q
      rw [show (((s &&& t : Nat) : Int) != 0) = true from by simp [e]]
      walk_at "rd"
      rw [bitOr_nat]
      exact q
end
section
variable {P : Program} {w : World} {K : PySem.W.Frag} {mg : Str → Option Value} {base : Heap} {a : Adr}
set_option maxHeartbeats 4000000 in
theorem mk_Set (T : Txt K mg a) : MkE P w K mg base CX0 2 "Set" a.C_Set (spIni2 a.C_Set Rw.set) := by
  refine mkE_of (sp := (spIni2 a.C_Set Rw.set)) 1 T.c_Set T.i_Set sc_Set_init (fun vs H Q E h => ?_) (fun f cdv A outer s H vs Q E hr h => ?_)
  · obtain ⟨x, dx, i, j, rfl, _⟩ := h
    rfl
  · obtain ⟨x, dx, i, j, rfl, ⟨⟨h1, h2⟩, ⟨h3, h4⟩⟩, hx, q⟩ := h
    refine ⟨_, (pss_cons (ps_fldK (K := K) rfl (pv 0) (pe_callE (ok_bounded (K := K) T) (hr.mono (by decide)) pass0 rfl (pa_cons (pv 1) (pa_cons (pe_glob (v := .int 7) rfl T.g_TOP_BOX.choose_spec ⟨_, rfl⟩) pa_nil))))
      (pss_one (ps_fldK (K := K) rfl (pv 0) (pe_callE (ok_bounded (K := K) T) (hr.mono (by decide)) pass0 rfl (pa_cons (pv 2) (pa_cons (pe_glob (v := .int 4294967295) rfl T.g_TOP_VALUE.choose_spec ⟨_, rfl⟩) pa_nil)))))), ?_⟩
    refine r_st (σ' := [some _, some _, some _]) rfl ?_
    walk_at "rd"
    exact q _ kp_two upd_same
end
section
variable {P : Program} {w : World} {K : PySem.W.Frag} {mg : Str → Option Value} {base : Heap} {a : Adr}
set_option maxHeartbeats 4000000 in
theorem me_Set_keeps (T : Txt K mg a) (b n : Int) : MethE P w K mg base CX0 2 a.C_Set "keeps" (spKeeps a (.set b n)) := by
  refine methE_of (sp := (spKeeps a (.set b n))) 1 T.cl_Set T.m_Set_keeps sc_Set_keeps (fun vs H Q E h => ?_) (fun f cdv A outer s H vs Q E hr h => ?_)
  · obtain ⟨x, s, z, rfl, _⟩ := h
    rfl
  · obtain ⟨x, s, z, rfl, ⟨dx, hx⟩, hk, z0, z1, hs, q⟩ := h
    change H x = some (.ins a.C_Set dx (putF "number" (.int n) (putF "box" (.int b) []))) at hx
    obtain ⟨⟨k1, k2⟩, ⟨k3, k4⟩⟩ := hk
    refine ⟨_, (pss_one (ps_ret (pe_callE (ok_without (K := K) T) (hr.mono (by decide)) pass0 rfl (pa_cons (pv 1) (pa_cons (pe_callE (ok_box_place (K := K) T) (hr.mono (by decide)) pass0 rfl (pa_cons (pe_fldK (K := K) rfl (pv 0)) pa_nil)) pa_nil))))), ?_⟩
    refine r_st (σ' := [some _, some _, some _]) rfl ?_
    walk_at "rd"
    exact q
end
section
variable {P : Program} {w : World} {K : PySem.W.Frag} {mg : Str → Option Value} {base : Heap} {a : Adr}
set_option maxHeartbeats 4000000 in
theorem mk_Copy (T : Txt K mg a) : MkE P w K mg base CX0 2 "Copy" a.C_Copy (spIni2 a.C_Copy Rw.copy) := by
  refine mkE_of (sp := (spIni2 a.C_Copy Rw.copy)) 1 T.c_Copy T.i_Copy sc_Copy_init (fun vs H Q E h => ?_) (fun f cdv A outer s H vs Q E hr h => ?_)
  · obtain ⟨x, dx, i, j, rfl, _⟩ := h
    rfl
  · obtain ⟨x, dx, i, j, rfl, ⟨⟨h1, h2⟩, ⟨h3, h4⟩⟩, hx, q⟩ := h
    refine ⟨_, (pss_cons (ps_fldK (K := K) rfl (pv 0) (pe_callE (ok_bounded (K := K) T) (hr.mono (by decide)) pass0 rfl (pa_cons (pv 1) (pa_cons (pe_glob (v := .int 7) rfl T.g_TOP_BOX.choose_spec ⟨_, rfl⟩) pa_nil))))
      (pss_one (ps_fldK (K := K) rfl (pv 0) (pe_callE (ok_bounded (K := K) T) (hr.mono (by decide)) pass0 rfl (pa_cons (pv 2) (pa_cons (pe_glob (v := .int 7) rfl T.g_TOP_BOX.choose_spec ⟨_, rfl⟩) pa_nil)))))), ?_⟩
    refine r_st (σ' := [some _, some _, some _]) rfl ?_
    walk_at "rd"
    exact q _ kp_two upd_same
end
section
variable {P : Program} {w : World} {K : PySem.W.Frag} {mg : Str → Option Value} {base : Heap} {a : Adr}
set_option maxHeartbeats 4000000 in
theorem mk_Less (T : Txt K mg a) : MkE P w K mg base CX0 2 "Less" a.C_Less (spIni3 a.C_Less Rw.less) := by
  refine mkE_of (sp := (spIni3 a.C_Less Rw.less)) 1 T.c_Less T.i_Less sc_Reckoning_init (fun vs H Q E h => ?_) (fun f cdv A outer s H vs Q E hr h => ?_)
  · obtain ⟨x, dx, i, j, k, rfl, _⟩ := h
    rfl
  · obtain ⟨x, dx, i, j, k, rfl, ⟨⟨h1, h2⟩, ⟨h3, h4⟩, ⟨h5, h6⟩⟩, hx, q⟩ := h
    refine ⟨_, (pss_cons (ps_fldK (K := K) rfl (pv 0) (pe_callE (ok_bounded (K := K) T) (hr.mono (by decide)) pass0 rfl (pa_cons (pv 1) (pa_cons (pe_glob (v := .int 7) rfl T.g_TOP_BOX.choose_spec ⟨_, rfl⟩) pa_nil))))
      (pss_cons (ps_fldK (K := K) rfl (pv 0) (pe_callE (ok_bounded (K := K) T) (hr.mono (by decide)) pass0 rfl (pa_cons (pv 2) (pa_cons (pe_glob (v := .int 7) rfl T.g_TOP_BOX.choose_spec ⟨_, rfl⟩) pa_nil))))
      (pss_one (ps_fldK (K := K) rfl (pv 0) (pe_callE (ok_bounded (K := K) T) (hr.mono (by decide)) pass0 rfl (pa_cons (pv 3) (pa_cons (pe_glob (v := .int 7) rfl T.g_TOP_BOX.choose_spec ⟨_, rfl⟩) pa_nil))))))), ?_⟩
    refine r_st (σ' := [some _, some _, some _, some _]) rfl ?_
    walk_at "rd"
    exact q _ kp_three upd_same
end
section
variable {P : Program} {w : World} {K : PySem.W.Frag} {mg : Str → Option Value} {base : Heap} {a : Adr}
set_option maxHeartbeats 4000000 in
theorem mk_Add (T : Txt K mg a) : MkE P w K mg base CX0 2 "Add" a.C_Add (spIni3 a.C_Add Rw.add) := by
  refine mkE_of (sp := (spIni3 a.C_Add Rw.add)) 1 T.c_Add T.i_Add sc_Reckoning_init (fun vs H Q E h => ?_) (fun f cdv A outer s H vs Q E hr h => ?_)
  · obtain ⟨x, dx, i, j, k, rfl, _⟩ := h
    rfl
  · obtain ⟨x, dx, i, j, k, rfl, ⟨⟨h1, h2⟩, ⟨h3, h4⟩, ⟨h5, h6⟩⟩, hx, q⟩ := h
    refine ⟨_, (pss_cons (ps_fldK (K := K) rfl (pv 0) (pe_callE (ok_bounded (K := K) T) (hr.mono (by decide)) pass0 rfl (pa_cons (pv 1) (pa_cons (pe_glob (v := .int 7) rfl T.g_TOP_BOX.choose_spec ⟨_, rfl⟩) pa_nil))))
      (pss_cons (ps_fldK (K := K) rfl (pv 0) (pe_callE (ok_bounded (K := K) T) (hr.mono (by decide)) pass0 rfl (pa_cons (pv 2) (pa_cons (pe_glob (v := .int 7) rfl T.g_TOP_BOX.choose_spec ⟨_, rfl⟩) pa_nil))))
      (pss_one (ps_fldK (K := K) rfl (pv 0) (pe_callE (ok_bounded (K := K) T) (hr.mono (by decide)) pass0 rfl (pa_cons (pv 3) (pa_cons (pe_glob (v := .int 7) rfl T.g_TOP_BOX.choose_spec ⟨_, rfl⟩) pa_nil))))))), ?_⟩
    refine r_st (σ' := [some _, some _, some _, some _]) rfl ?_
    walk_at "rd"
    exact q _ kp_three upd_same
end
section
variable {P : Program} {w : World} {K : PySem.W.Frag} {mg : Str → Option Value} {base : Heap} {a : Adr}
set_option maxHeartbeats 4000000 in
theorem mk_Sub (T : Txt K mg a) : MkE P w K mg base CX0 2 "Sub" a.C_Sub (spIni3 a.C_Sub Rw.sub) := by
  refine mkE_of (sp := (spIni3 a.C_Sub Rw.sub)) 1 T.c_Sub T.i_Sub sc_Reckoning_init (fun vs H Q E h => ?_) (fun f cdv A outer s H vs Q E hr h => ?_)
  · obtain ⟨x, dx, i, j, k, rfl, _⟩ := h
    rfl
  · obtain ⟨x, dx, i, j, k, rfl, ⟨⟨h1, h2⟩, ⟨h3, h4⟩, ⟨h5, h6⟩⟩, hx, q⟩ := h
    refine ⟨_, (pss_cons (ps_fldK (K := K) rfl (pv 0) (pe_callE (ok_bounded (K := K) T) (hr.mono (by decide)) pass0 rfl (pa_cons (pv 1) (pa_cons (pe_glob (v := .int 7) rfl T.g_TOP_BOX.choose_spec ⟨_, rfl⟩) pa_nil))))
      (pss_cons (ps_fldK (K := K) rfl (pv 0) (pe_callE (ok_bounded (K := K) T) (hr.mono (by decide)) pass0 rfl (pa_cons (pv 2) (pa_cons (pe_glob (v := .int 7) rfl T.g_TOP_BOX.choose_spec ⟨_, rfl⟩) pa_nil))))
      (pss_one (ps_fldK (K := K) rfl (pv 0) (pe_callE (ok_bounded (K := K) T) (hr.mono (by decide)) pass0 rfl (pa_cons (pv 3) (pa_cons (pe_glob (v := .int 7) rfl T.g_TOP_BOX.choose_spec ⟨_, rfl⟩) pa_nil))))))), ?_⟩
    refine r_st (σ' := [some _, some _, some _, some _]) rfl ?_
    walk_at "rd"
    exact q _ kp_three upd_same
end
section
variable {P : Program} {w : World} {K : PySem.W.Frag} {mg : Str → Option Value} {base : Heap} {a : Adr}
set_option maxHeartbeats 4000000 in
theorem mk_Mul (T : Txt K mg a) : MkE P w K mg base CX0 2 "Mul" a.C_Mul (spIni3 a.C_Mul Rw.mul) := by
  refine mkE_of (sp := (spIni3 a.C_Mul Rw.mul)) 1 T.c_Mul T.i_Mul sc_Reckoning_init (fun vs H Q E h => ?_) (fun f cdv A outer s H vs Q E hr h => ?_)
  · obtain ⟨x, dx, i, j, k, rfl, _⟩ := h
    rfl
  · obtain ⟨x, dx, i, j, k, rfl, ⟨⟨h1, h2⟩, ⟨h3, h4⟩, ⟨h5, h6⟩⟩, hx, q⟩ := h
    refine ⟨_, (pss_cons (ps_fldK (K := K) rfl (pv 0) (pe_callE (ok_bounded (K := K) T) (hr.mono (by decide)) pass0 rfl (pa_cons (pv 1) (pa_cons (pe_glob (v := .int 7) rfl T.g_TOP_BOX.choose_spec ⟨_, rfl⟩) pa_nil))))
      (pss_cons (ps_fldK (K := K) rfl (pv 0) (pe_callE (ok_bounded (K := K) T) (hr.mono (by decide)) pass0 rfl (pa_cons (pv 2) (pa_cons (pe_glob (v := .int 7) rfl T.g_TOP_BOX.choose_spec ⟨_, rfl⟩) pa_nil))))
      (pss_one (ps_fldK (K := K) rfl (pv 0) (pe_callE (ok_bounded (K := K) T) (hr.mono (by decide)) pass0 rfl (pa_cons (pv 3) (pa_cons (pe_glob (v := .int 7) rfl T.g_TOP_BOX.choose_spec ⟨_, rfl⟩) pa_nil))))))), ?_⟩
    refine r_st (σ' := [some _, some _, some _, some _]) rfl ?_
    walk_at "rd"
    exact q _ kp_three upd_same
end
section
variable {P : Program} {w : World} {K : PySem.W.Frag} {mg : Str → Option Value} {base : Heap} {a : Adr}
set_option maxHeartbeats 4000000 in
theorem me_Less_keeps (T : Txt K mg a) (b o t : Int) : MethE P w K mg base CX0 2 a.C_Less "keeps" (spKeeps a (.less b o t)) := by
  refine methE_of (sp := (spKeeps a (.less b o t))) 1 T.cl_Less T.m_Less_keeps sc_Reckoning_keeps (fun vs H Q E h => ?_) (fun f cdv A outer s H vs Q E hr h => ?_)
  · obtain ⟨x, s, z, rfl, _⟩ := h
    rfl
  · obtain ⟨x, s, z, rfl, ⟨dx, hx⟩, hk, z0, z1, hs, q⟩ := h
    change H x = some (.ins a.C_Less dx (putF "other" (.int t) (putF "one" (.int o) (putF "box" (.int b) [])))) at hx
    obtain ⟨⟨k1, k2⟩, ⟨k3, k4⟩, ⟨k5, k6⟩⟩ := hk
    refine ⟨_, (pss_one (ps_ret (pe_callE (ok_without (K := K) T) (hr.mono (by decide)) pass0 rfl (pa_cons (pv 1) (pa_cons (pe_callE (ok_box_place (K := K) T) (hr.mono (by decide)) pass0 rfl (pa_cons (pe_fldK (K := K) rfl (pv 0)) pa_nil)) pa_nil))))), ?_⟩
    refine r_st (σ' := [some _, some _, some _]) rfl ?_
    walk_at "rd"
    exact q
end
section
variable {P : Program} {w : World} {K : PySem.W.Frag} {mg : Str → Option Value} {base : Heap} {a : Adr}
set_option maxHeartbeats 4000000 in
theorem me_Add_keeps (T : Txt K mg a) (b o t : Int) : MethE P w K mg base CX0 2 a.C_Add "keeps" (spKeeps a (.add b o t)) := by
  refine methE_of (sp := (spKeeps a (.add b o t))) 1 T.cl_Add T.m_Add_keeps sc_Reckoning_keeps (fun vs H Q E h => ?_) (fun f cdv A outer s H vs Q E hr h => ?_)
  · obtain ⟨x, s, z, rfl, _⟩ := h
    rfl
  · obtain ⟨x, s, z, rfl, ⟨dx, hx⟩, hk, z0, z1, hs, q⟩ := h
    change H x = some (.ins a.C_Add dx (putF "other" (.int t) (putF "one" (.int o) (putF "box" (.int b) [])))) at hx
    obtain ⟨⟨k1, k2⟩, ⟨k3, k4⟩, ⟨k5, k6⟩⟩ := hk
    refine ⟨_, (pss_one (ps_ret (pe_callE (ok_without (K := K) T) (hr.mono (by decide)) pass0 rfl (pa_cons (pv 1) (pa_cons (pe_callE (ok_box_place (K := K) T) (hr.mono (by decide)) pass0 rfl (pa_cons (pe_fldK (K := K) rfl (pv 0)) pa_nil)) pa_nil))))), ?_⟩
    refine r_st (σ' := [some _, some _, some _]) rfl ?_
    walk_at "rd"
    exact q
end
section
variable {P : Program} {w : World} {K : PySem.W.Frag} {mg : Str → Option Value} {base : Heap} {a : Adr}
set_option maxHeartbeats 4000000 in
theorem me_Sub_keeps (T : Txt K mg a) (b o t : Int) : MethE P w K mg base CX0 2 a.C_Sub "keeps" (spKeeps a (.sub b o t)) := by
  refine methE_of (sp := (spKeeps a (.sub b o t))) 1 T.cl_Sub T.m_Sub_keeps sc_Reckoning_keeps (fun vs H Q E h => ?_) (fun f cdv A outer s H vs Q E hr h => ?_)
  · obtain ⟨x, s, z, rfl, _⟩ := h
    rfl
  · obtain ⟨x, s, z, rfl, ⟨dx, hx⟩, hk, z0, z1, hs, q⟩ := h
    change H x = some (.ins a.C_Sub dx (putF "other" (.int t) (putF "one" (.int o) (putF "box" (.int b) [])))) at hx
    obtain ⟨⟨k1, k2⟩, ⟨k3, k4⟩, ⟨k5, k6⟩⟩ := hk
    refine ⟨_, (pss_one (ps_ret (pe_callE (ok_without (K := K) T) (hr.mono (by decide)) pass0 rfl (pa_cons (pv 1) (pa_cons (pe_callE (ok_box_place (K := K) T) (hr.mono (by decide)) pass0 rfl (pa_cons (pe_fldK (K := K) rfl (pv 0)) pa_nil)) pa_nil))))), ?_⟩
    refine r_st (σ' := [some _, some _, some _]) rfl ?_
    walk_at "rd"
    exact q
end
section
variable {P : Program} {w : World} {K : PySem.W.Frag} {mg : Str → Option Value} {base : Heap} {a : Adr}
set_option maxHeartbeats 4000000 in
theorem me_Mul_keeps (T : Txt K mg a) (b o t : Int) : MethE P w K mg base CX0 2 a.C_Mul "keeps" (spKeeps a (.mul b o t)) := by
  refine methE_of (sp := (spKeeps a (.mul b o t))) 1 T.cl_Mul T.m_Mul_keeps sc_Reckoning_keeps (fun vs H Q E h => ?_) (fun f cdv A outer s H vs Q E hr h => ?_)
  · obtain ⟨x, s, z, rfl, _⟩ := h
    rfl
  · obtain ⟨x, s, z, rfl, ⟨dx, hx⟩, hk, z0, z1, hs, q⟩ := h
    change H x = some (.ins a.C_Mul dx (putF "other" (.int t) (putF "one" (.int o) (putF "box" (.int b) [])))) at hx
    obtain ⟨⟨k1, k2⟩, ⟨k3, k4⟩, ⟨k5, k6⟩⟩ := hk
    refine ⟨_, (pss_one (ps_ret (pe_callE (ok_without (K := K) T) (hr.mono (by decide)) pass0 rfl (pa_cons (pv 1) (pa_cons (pe_callE (ok_box_place (K := K) T) (hr.mono (by decide)) pass0 rfl (pa_cons (pe_fldK (K := K) rfl (pv 0)) pa_nil)) pa_nil))))), ?_⟩
    refine r_st (σ' := [some _, some _, some _]) rfl ?_
    walk_at "rd"
    exact q
end
section
variable {P : Program} {w : World} {K : PySem.W.Frag} {mg : Str → Option Value} {base : Heap} {a : Adr}
set_option maxHeartbeats 4000000 in
theorem mk_Grow (T : Txt K mg a) : MkE P w K mg base CX0 2 "Grow" a.C_Grow (spIni1 a.C_Grow Rw.grow) := by
  refine mkE_of (sp := (spIni1 a.C_Grow Rw.grow)) 1 T.c_Grow T.i_Grow sc_Grow_init (fun vs H Q E h => ?_) (fun f cdv A outer s H vs Q E hr h => ?_)
  · obtain ⟨x, dx, i, rfl, _⟩ := h
    rfl
  · obtain ⟨x, dx, i, rfl, ⟨h1, h2⟩, hx, q⟩ := h
    refine ⟨_, (pss_one (ps_fldK (K := K) rfl (pv 0) (pe_callE (ok_bounded (K := K) T) (hr.mono (by decide)) pass0 rfl (pa_cons (pv 1) (pa_cons (pe_glob (v := .int 4000) rfl T.g_TOP_CELLS.choose_spec ⟨_, rfl⟩) pa_nil))))), ?_⟩
    refine r_st (σ' := [some _, some _]) rfl ?_
    walk_at "rd"
    exact q _ kp_one upd_same
end
section
variable {P : Program} {w : World} {K : PySem.W.Frag} {mg : Str → Option Value} {base : Heap} {a : Adr}
set_option maxHeartbeats 4000000 in
theorem mk_Shrink (T : Txt K mg a) : MkE P w K mg base CX0 2 "Shrink" a.C_Shrink (spIni1 a.C_Shrink Rw.shrink) := by
  refine mkE_of (sp := (spIni1 a.C_Shrink Rw.shrink)) 1 T.c_Shrink T.i_Shrink sc_Shrink_init (fun vs H Q E h => ?_) (fun f cdv A outer s H vs Q E hr h => ?_)
  · obtain ⟨x, dx, i, rfl, _⟩ := h
    rfl
  · obtain ⟨x, dx, i, rfl, ⟨h1, h2⟩, hx, q⟩ := h
    refine ⟨_, (pss_one (ps_fldK (K := K) rfl (pv 0) (pe_callE (ok_bounded (K := K) T) (hr.mono (by decide)) pass0 rfl (pa_cons (pv 1) (pa_cons (pe_glob (v := .int 4000) rfl T.g_TOP_CELLS.choose_spec ⟨_, rfl⟩) pa_nil))))), ?_⟩
    refine r_st (σ' := [some _, some _]) rfl ?_
    walk_at "rd"
    exact q _ kp_one upd_same
end
section
variable {P : Program} {w : World} {K : PySem.W.Frag} {mg : Str → Option Value} {base : Heap} {a : Adr}
set_option maxHeartbeats 4000000 in
theorem me_Shrink_keeps (T : Txt K mg a) (m : Int) : MethE P w K mg base CX0 2 a.C_Shrink "keeps" (spKeeps a (.shrink m)) := by
  refine methE_of (sp := (spKeeps a (.shrink m))) 1 T.cl_Shrink T.m_Shrink_keeps sc_Shrink_keeps (fun vs H Q E h => ?_) (fun f cdv A outer s H vs Q E hr h => ?_)
  · obtain ⟨x, s, z, rfl, _⟩ := h
    rfl
  · obtain ⟨x, s, z, rfl, ⟨dx, hx⟩, hk, z0, z1, hs, q⟩ := h
    change H x = some (.ins a.C_Shrink dx (putF "many" (.int m) [])) at hx
    obtain ⟨k1, k2⟩ := hk
    have hh : ¬ z < m := fun e => by rw [show Rw.height (.shrink m) z = none from if_pos e] at hs; cases hs
    refine ⟨_, (pss_cons (ps_set (i := 3) sc_Shrink_keeps.nd rfl (Or.inl rfl) (pe_op op_shlB (pe_op op_sub (pe_op op_shlB pe_int (pe_fldK (K := K) rfl (pv 0))) pe_int) (pe_op op_sub (pe_op (op_plusK (K := K) rfl) (pe_glob (v := .int 8) rfl T.g_FIRST_CELL_BIT.choose_spec ⟨_, rfl⟩) (pv 2)) (pe_fldK (K := K) rfl (pv 0)))))
      (pss_one (ps_ret (pe_callE (ok_without (K := K) T) (hr.mono (by decide)) pass0 rfl (pa_cons (pv 1) (pa_cons (pv 3) pa_nil)))))), ?_⟩
    refine r_st (σ' := [some _, some _, some _, none]) rfl ?_
    walk_at "rd"
    refine r_I (shl_one (by omega) (by omega)) ?_
    walk_at "rd"
    rw [one_shl, show ((2 ^ m.toNat : Nat) : Int) - 1 = ((2 ^ m.toNat - 1 : Nat) : Int) from by have := Nat.one_le_two_pow (n := m.toNat); omega]
    refine r_I ⟨by omega, by omega, m.toNat, by omega, by rw [Int.natAbs_natCast]; have := Nat.one_le_two_pow (n := m.toNat); omega⟩ ?_
    rw [show ((2 ^ m.toNat - 1 : Nat) : Int) * 2 ^ (8 + z - m).toNat = (((2 ^ m.toNat - 1) * 2 ^ (8 + z - m).toNat : Nat) : Int) from by rw [Int.natCast_mul, Int.natCast_pow]; rfl]
    walk_at "rd"
    exact q
end
section
variable {P : Program} {w : World} {K : PySem.W.Frag} {mg : Str → Option Value} {base : Heap} {a : Adr}
set_option maxHeartbeats 4000000 in
theorem mk_Get (T : Txt K mg a) : MkE P w K mg base CX0 2 "Get" a.C_Get (spIni2 a.C_Get Rw.get) := by
  refine mkE_of (sp := (spIni2 a.C_Get Rw.get)) 1 T.c_Get T.i_Get sc_Reaching_init (fun vs H Q E h => ?_) (fun f cdv A outer s H vs Q E hr h => ?_)
  · obtain ⟨x, dx, i, j, rfl, _⟩ := h
    rfl
  · obtain ⟨x, dx, i, j, rfl, ⟨⟨h1, h2⟩, ⟨h3, h4⟩⟩, hx, q⟩ := h
    refine ⟨_, (pss_cons (ps_fldK (K := K) rfl (pv 0) (pe_callE (ok_bounded (K := K) T) (hr.mono (by decide)) pass0 rfl (pa_cons (pv 1) (pa_cons (pe_glob (v := .int 7) rfl T.g_TOP_BOX.choose_spec ⟨_, rfl⟩) pa_nil))))
      (pss_one (ps_fldK (K := K) rfl (pv 0) (pe_callE (ok_bounded (K := K) T) (hr.mono (by decide)) pass0 rfl (pa_cons (pv 2) (pa_cons (pe_glob (v := .int 4000) rfl T.g_TOP_CELLS.choose_spec ⟨_, rfl⟩) pa_nil)))))), ?_⟩
    refine r_st (σ' := [some _, some _, some _]) rfl ?_
    walk_at "rd"
    exact q _ kp_two upd_same
end
section
variable {P : Program} {w : World} {K : PySem.W.Frag} {mg : Str → Option Value} {base : Heap} {a : Adr}
set_option maxHeartbeats 4000000 in
theorem mk_Put (T : Txt K mg a) : MkE P w K mg base CX0 2 "Put" a.C_Put (spIni2 a.C_Put Rw.put) := by
  refine mkE_of (sp := (spIni2 a.C_Put Rw.put)) 1 T.c_Put T.i_Put sc_Reaching_init (fun vs H Q E h => ?_) (fun f cdv A outer s H vs Q E hr h => ?_)
  · obtain ⟨x, dx, i, j, rfl, _⟩ := h
    rfl
  · obtain ⟨x, dx, i, j, rfl, ⟨⟨h1, h2⟩, ⟨h3, h4⟩⟩, hx, q⟩ := h
    refine ⟨_, (pss_cons (ps_fldK (K := K) rfl (pv 0) (pe_callE (ok_bounded (K := K) T) (hr.mono (by decide)) pass0 rfl (pa_cons (pv 1) (pa_cons (pe_glob (v := .int 7) rfl T.g_TOP_BOX.choose_spec ⟨_, rfl⟩) pa_nil))))
      (pss_one (ps_fldK (K := K) rfl (pv 0) (pe_callE (ok_bounded (K := K) T) (hr.mono (by decide)) pass0 rfl (pa_cons (pv 2) (pa_cons (pe_glob (v := .int 4000) rfl T.g_TOP_CELLS.choose_spec ⟨_, rfl⟩) pa_nil)))))), ?_⟩
    refine r_st (σ' := [some _, some _, some _]) rfl ?_
    walk_at "rd"
    exact q _ kp_two upd_same
end
section
variable {P : Program} {w : World} {K : PySem.W.Frag} {mg : Str → Option Value} {base : Heap} {a : Adr}
set_option maxHeartbeats 4000000 in
theorem mk_Jump (T : Txt K mg a) : MkE P w K mg base CX0 2 "Jump" a.C_Jump (spIni1 a.C_Jump Rw.jump) := by
  refine mkE_of (sp := (spIni1 a.C_Jump Rw.jump)) 1 T.c_Jump T.i_Jump sc_Jump_init (fun vs H Q E h => ?_) (fun f cdv A outer s H vs Q E hr h => ?_)
  · obtain ⟨x, dx, i, rfl, _⟩ := h
    rfl
  · obtain ⟨x, dx, i, rfl, ⟨h1, h2⟩, hx, q⟩ := h
    refine ⟨_, (pss_one (ps_fldK (K := K) rfl (pv 0) (pe_callE (ok_bounded (K := K) T) (hr.mono (by decide)) pass0 rfl (pa_cons (pv 1) (pa_cons (pe_glob (v := .int 2000) rfl T.g_TOP_TARGET.choose_spec ⟨_, rfl⟩) pa_nil))))), ?_⟩
    refine r_st (σ' := [some _, some _]) rfl ?_
    walk_at "rd"
    exact q _ kp_one upd_same
end
section
variable {P : Program} {w : World} {K : PySem.W.Frag} {mg : Str → Option Value} {base : Heap} {a : Adr}
set_option maxHeartbeats 4000000 in
theorem mk_Branch (T : Txt K mg a) : MkE P w K mg base CX0 2 "Branch" a.C_Branch (spIni2 a.C_Branch Rw.branch) := by
  refine mkE_of (sp := (spIni2 a.C_Branch Rw.branch)) 1 T.c_Branch T.i_Branch sc_Branch_init (fun vs H Q E h => ?_) (fun f cdv A outer s H vs Q E hr h => ?_)
  · obtain ⟨x, dx, i, j, rfl, _⟩ := h
    rfl
  · obtain ⟨x, dx, i, j, rfl, ⟨⟨h1, h2⟩, ⟨h3, h4⟩⟩, hx, q⟩ := h
    refine ⟨_, (pss_cons (ps_fldK (K := K) rfl (pv 0) (pe_callE (ok_bounded (K := K) T) (hr.mono (by decide)) pass0 rfl (pa_cons (pv 1) (pa_cons (pe_glob (v := .int 7) rfl T.g_TOP_BOX.choose_spec ⟨_, rfl⟩) pa_nil))))
      (pss_one (ps_fldK (K := K) rfl (pv 0) (pe_callE (ok_bounded (K := K) T) (hr.mono (by decide)) pass0 rfl (pa_cons (pv 2) (pa_cons (pe_glob (v := .int 2000) rfl T.g_TOP_TARGET.choose_spec ⟨_, rfl⟩) pa_nil)))))), ?_⟩
    refine r_st (σ' := [some _, some _, some _]) rfl ?_
    walk_at "rd"
    exact q _ kp_two upd_same
end
section
variable {P : Program} {w : World} {K : PySem.W.Frag} {mg : Str → Option Value} {base : Heap} {a : Adr}
set_option maxHeartbeats 4000000 in
theorem mk_Call (T : Txt K mg a) : MkE P w K mg base CX0 2 "Call" a.C_Call (spIni1 a.C_Call Rw.call) := by
  refine mkE_of (sp := (spIni1 a.C_Call Rw.call)) 1 T.c_Call T.i_Call sc_Call_init (fun vs H Q E h => ?_) (fun f cdv A outer s H vs Q E hr h => ?_)
  · obtain ⟨x, dx, i, rfl, _⟩ := h
    rfl
  · obtain ⟨x, dx, i, rfl, ⟨h1, h2⟩, hx, q⟩ := h
    refine ⟨_, (pss_one (ps_fldK (K := K) rfl (pv 0) (pe_callE (ok_bounded (K := K) T) (hr.mono (by decide)) pass0 rfl (pa_cons (pv 1) (pa_cons (pe_glob (v := .int 2000) rfl T.g_TOP_TARGET.choose_spec ⟨_, rfl⟩) pa_nil))))), ?_⟩
    refine r_st (σ' := [some _, some _]) rfl ?_
    walk_at "rd"
    exact q _ kp_one upd_same
end
section
variable {P : Program} {w : World} {K : PySem.W.Frag} {mg : Str → Option Value} {base : Heap} {a : Adr}
set_option maxHeartbeats 4000000 in
theorem me_Call_keeps (T : Txt K mg a) (t : Int) : MethE P w K mg base CX0 2 a.C_Call "keeps" (spKeeps a (.call t)) := by
  refine methE_of (sp := (spKeeps a (.call t))) 1 T.cl_Call T.m_Call_keeps sc_Call_keeps (fun vs H Q E h => ?_) (fun f cdv A outer s H vs Q E hr h => ?_)
  · obtain ⟨x, s, z, rfl, _⟩ := h
    rfl
  · obtain ⟨x, s, z, rfl, ⟨dx, hx⟩, hk, z0, z1, hs, q⟩ := h
    change H x = some (.ins a.C_Call dx (putF "target" (.int t) [])) at hx
    obtain ⟨k1, k2⟩ := hk
    refine ⟨_, (pss_one (ps_ret (pe_callE (ok_without (K := K) T) (hr.mono (by decide)) pass0 rfl (pa_cons (pv 1) (pa_cons (pe_glob (v := .int 143) rfl T.g_LOST_BY_CALL.choose_spec ⟨_, rfl⟩) pa_nil))))), ?_⟩
    refine r_st (σ' := [some _, some _, some _]) rfl ?_
    walk_at "rd"
    exact r_without (p := 143) q
end
section
variable {P : Program} {w : World} {K : PySem.W.Frag} {mg : Str → Option Value} {base : Heap} {a : Adr}
set_option maxHeartbeats 4000000 in
theorem mk_Back (T : Txt K mg a) : MkE P w K mg base CX0 2 "Back" a.C_Back (spIni1 a.C_Back Rw.back) := by
  refine mkE_of (sp := (spIni1 a.C_Back Rw.back)) 1 T.c_Back T.i_Back sc_Back_init (fun vs H Q E h => ?_) (fun f cdv A outer s H vs Q E hr h => ?_)
  · obtain ⟨x, dx, i, rfl, _⟩ := h
    rfl
  · obtain ⟨x, dx, i, rfl, ⟨h1, h2⟩, hx, q⟩ := h
    refine ⟨_, (pss_one (ps_fldK (K := K) rfl (pv 0) (pe_callE (ok_bounded (K := K) T) (hr.mono (by decide)) pass0 rfl (pa_cons (pv 1) (pa_cons (pe_glob (v := .int 7) rfl T.g_TOP_BOX.choose_spec ⟨_, rfl⟩) pa_nil))))), ?_⟩
    refine r_st (σ' := [some _, some _]) rfl ?_
    walk_at "rd"
    exact q _ kp_one upd_same
end
section
variable {P : Program} {w : World} {K : PySem.W.Frag} {mg : Str → Option Value} {base : Heap} {a : Adr}
set_option maxHeartbeats 4000000 in
theorem mk_Drop (T : Txt K mg a) : MkE P w K mg base CX0 2 "Drop" a.C_Drop (spIni1 a.C_Drop Rw.drop) := by
  refine mkE_of (sp := (spIni1 a.C_Drop Rw.drop)) 1 T.c_Drop T.i_Drop sc_Drop_init (fun vs H Q E h => ?_) (fun f cdv A outer s H vs Q E hr h => ?_)
  · obtain ⟨x, dx, i, rfl, _⟩ := h
    rfl
  · obtain ⟨x, dx, i, rfl, ⟨h1, h2⟩, hx, q⟩ := h
    refine ⟨_, (pss_one (ps_fldK (K := K) rfl (pv 0) (pe_callE (ok_bounded (K := K) T) (hr.mono (by decide)) pass0 rfl (pa_cons (pv 1) (pa_cons (pe_glob (v := .int 7) rfl T.g_TOP_BOX.choose_spec ⟨_, rfl⟩) pa_nil))))), ?_⟩
    refine r_st (σ' := [some _, some _]) rfl ?_
    walk_at "rd"
    exact q _ kp_one upd_same
end
section
variable {P : Program} {w : World} {K : PySem.W.Frag} {mg : Str → Option Value} {base : Heap} {a : Adr}
set_option maxHeartbeats 4000000 in
theorem me_Copy_keeps (T : Txt K mg a) (b o : Int) : MethE P w K mg base CX0 3 a.C_Copy "keeps" (spKeeps a (.copy b o)) := by
  refine methE_of (sp := (spKeeps a (.copy b o))) 2 T.cl_Copy T.m_Copy_keeps sc_Copy_keeps (fun vs H Q E h => ?_) (fun f cdv A outer s H vs Q E hr h => ?_)
  · obtain ⟨x, s, z, rfl, _⟩ := h
    rfl
  · obtain ⟨x, s, z, rfl, ⟨dx, hx⟩, hk, z0, z1, hs, q⟩ := h
    change H x = some (.ins a.C_Copy dx (putF "one" (.int o) (putF "box" (.int b) []))) at hx
    obtain ⟨⟨k1, k2⟩, ⟨k3, k4⟩⟩ := hk
    refine ⟨_, (pss_one (ps_ret (pe_callE (ok_filled (K := K) T) (hr.mono (by decide)) pass0 rfl (pa_cons (pv 1) (pa_cons (pe_callE (ok_box_place (K := K) T) (hr.mono (by decide)) pass0 rfl (pa_cons (pe_fldK (K := K) rfl (pv 0)) pa_nil)) (pa_cons (pe_callE (ok_box_place (K := K) T) (hr.mono (by decide)) pass0 rfl (pa_cons (pe_fldK (K := K) rfl (pv 0)) pa_nil)) pa_nil)))))), ?_⟩
    refine r_st (σ' := [some _, some _, some _]) rfl ?_
    walk_at "rd"
    exact q
end
section
variable {P : Program} {w : World} {K : PySem.W.Frag} {mg : Str → Option Value} {base : Heap} {a : Adr}
set_option maxHeartbeats 4000000 in
theorem me_Put_keeps (T : Txt K mg a) (b c : Int) : MethE P w K mg base CX0 3 a.C_Put "keeps" (spKeeps a (.put b c)) := by
  refine methE_of (sp := (spKeeps a (.put b c))) 2 T.cl_Put T.m_Put_keeps sc_Put_keeps (fun vs H Q E h => ?_) (fun f cdv A outer s H vs Q E hr h => ?_)
  · obtain ⟨x, s, z, rfl, _⟩ := h
    rfl
  · obtain ⟨x, s, z, rfl, ⟨dx, hx⟩, hk, z0, z1, hs, q⟩ := h
    change H x = some (.ins a.C_Put dx (putF "cell" (.int c) (putF "box" (.int b) []))) at hx
    obtain ⟨⟨k1, k2⟩, ⟨k3, k4⟩⟩ := hk
    have hh : ¬ z ≤ c := fun e => by rw [show Rw.height (.put b c) z = none from if_pos e] at hs; cases hs
    refine ⟨_, (pss_one (ps_ret (pe_callE (ok_filled (K := K) T) (hr.mono (by decide)) pass0 rfl (pa_cons (pv 1) (pa_cons (pe_callE (ok_cell_place (K := K) T) (hr.mono (by decide)) pass0 rfl (pa_cons (pe_fldK (K := K) rfl (pv 0)) (pa_cons (pv 2) pa_nil))) (pa_cons (pe_callE (ok_box_place (K := K) T) (hr.mono (by decide)) pass0 rfl (pa_cons (pe_fldK (K := K) rfl (pv 0)) pa_nil)) pa_nil)))))), ?_⟩
    refine r_st (σ' := [some _, some _, some _]) rfl ?_
    walk_at "rd"
    exact q
end
section
variable {P : Program} {w : World} {K : PySem.W.Frag} {mg : Str → Option Value} {base : Heap} {a : Adr}
set_option maxHeartbeats 4000000 in
theorem me_Get_keeps (T : Txt K mg a) (b c : Int) : MethE P w K mg base CX0 3 a.C_Get "keeps" (spKeeps a (.get b c)) := by
  refine methE_of (sp := (spKeeps a (.get b c))) 2 T.cl_Get T.m_Get_keeps sc_Get_keeps (fun vs H Q E h => ?_) (fun f cdv A outer s H vs Q E hr h => ?_)
  · obtain ⟨x, s, z, rfl, _⟩ := h
    rfl
  · obtain ⟨x, s, z, rfl, ⟨dx, hx⟩, hk, z0, z1, hs, q⟩ := h
    change H x = some (.ins a.C_Get dx (putF "cell" (.int c) (putF "box" (.int b) []))) at hx
    obtain ⟨⟨k1, k2⟩, ⟨k3, k4⟩⟩ := hk
    have hh : ¬ z ≤ c := fun e => by rw [show Rw.height (.get b c) z = none from if_pos e] at hs; cases hs
    refine ⟨_, (pss_one (ps_ret (pe_callE (ok_filled (K := K) T) (hr.mono (by decide)) pass0 rfl (pa_cons (pv 1) (pa_cons (pe_callE (ok_box_place (K := K) T) (hr.mono (by decide)) pass0 rfl (pa_cons (pe_fldK (K := K) rfl (pv 0)) pa_nil)) (pa_cons (pe_callE (ok_cell_place (K := K) T) (hr.mono (by decide)) pass0 rfl (pa_cons (pe_fldK (K := K) rfl (pv 0)) (pa_cons (pv 2) pa_nil))) pa_nil)))))), ?_⟩
    refine r_st (σ' := [some _, some _, some _]) rfl ?_
    walk_at "rd"
    exact q
end
section
variable {P : Program} {w : World} {K : PySem.W.Frag} {mg : Str → Option Value} {base : Heap} {a : Adr}
set_option maxHeartbeats 4000000 in
theorem ok_law_filling (T : Txt K mg a) : FnE P w K mg base CX0 4 "_law_filling" (spFill a) := by
  refine fnE_of (sp := (spFill a)) 3 T.fn_law_filling sc_law_filling (fun vs H Q E h => ?_) (fun f cdv A outer s H vs Q E hr h => ?_)
  · obtain ⟨k, b, o, c, rfl, _⟩ := h
    rfl
  · obtain ⟨k, b, o, c, rfl, hb, ho, q⟩ := h
    refine ⟨_, (pss_cons (ps_if (pt_cmpR (op_eqK (K := K) rfl hr.units) (pv 0) pe_int (nomark _)) (pss_one (ps_ret (pe_makeE (mk_Set (K := K) T) (hr.mono (by decide)) pass0 rfl (pa_cons (pv 1) (pa_cons (pe_op op_mod (pe_op op_fdiv (pv 3) pe_int) pe_int) pa_nil))))) pss_nil)
      (pss_cons (ps_if (pt_cmpR (op_eqK (K := K) rfl hr.units) (pv 0) pe_int (nomark _)) (pss_one (ps_ret (pe_makeE (mk_Copy (K := K) T) (hr.mono (by decide)) pass0 rfl (pa_cons (pv 1) (pa_cons (pv 2) pa_nil))))) pss_nil)
      (pss_cons (ps_if (pt_cmpR (op_eqK (K := K) rfl hr.units) (pv 0) pe_int (nomark _)) (pss_one (ps_ret (pe_makeE (mk_Add (K := K) T) (hr.mono (by decide)) pass0 rfl (pa_cons (pv 1) (pa_cons (pv 2) (pa_cons (pe_op op_mod (pe_op op_fdiv (pv 3) pe_int) pe_int) pa_nil)))))) pss_nil)
      (pss_cons (ps_if (pt_cmpR (op_eqK (K := K) rfl hr.units) (pv 0) pe_int (nomark _)) (pss_one (ps_ret (pe_makeE (mk_Sub (K := K) T) (hr.mono (by decide)) pass0 rfl (pa_cons (pv 1) (pa_cons (pv 2) (pa_cons (pe_op op_mod (pe_op op_fdiv (pv 3) pe_int) pe_int) pa_nil)))))) pss_nil)
      (pss_cons (ps_if (pt_cmpR (op_eqK (K := K) rfl hr.units) (pv 0) pe_int (nomark _)) (pss_one (ps_ret (pe_makeE (mk_Mul (K := K) T) (hr.mono (by decide)) pass0 rfl (pa_cons (pv 1) (pa_cons (pv 2) (pa_cons (pe_op op_mod (pe_op op_fdiv (pv 3) pe_int) pe_int) pa_nil)))))) pss_nil)
      (pss_one (ps_ret (pe_makeE (mk_Less (K := K) T) (hr.mono (by decide)) pass0 rfl (pa_cons (pv 1) (pa_cons (pv 2) (pa_cons (pe_op op_mod (pe_op op_fdiv (pv 3) pe_int) pe_int) pa_nil))))))))))), ?_⟩
    refine r_st (σ' := [some _, some _, some _, some _]) rfl ?_
    walk_at "rds"
    all_goals first
      | exact r_row1 (a := a) (by walk_at "rok") rfl fun p H' s n z => q p H' s n (by unfold fillOf; walk_at "sp")
      | exact r_row2 (a := a) ⟨by walk_at "rok", by walk_at "rok"⟩ rfl fun p H' s n z => q p H' s n (by unfold fillOf; walk_at "sp")
      | exact r_row3 (a := a) ⟨by walk_at "rok", by walk_at "rok", by walk_at "rok"⟩ rfl fun p H' s n z => q p H' s n (by unfold fillOf; walk_at "sp")
end
section
variable {P : Program} {w : World} {K : PySem.W.Frag} {mg : Str → Option Value} {base : Heap} {a : Adr}
set_option maxHeartbeats 4000000 in
theorem ok_law_going (T : Txt K mg a) : FnE P w K mg base CX0 4 "_law_going" (spGoing a) := by
  refine fnE_of (sp := (spGoing a)) 3 T.fn_law_going sc_law_going (fun vs H Q E h => ?_) (fun f cdv A outer s H vs Q E hr h => ?_)
  · obtain ⟨k, b, c, rfl, _⟩ := h
    rfl
  · obtain ⟨k, b, c, rfl, hb, q⟩ := h
    refine ⟨_, (pss_cons (ps_if (pt_cmpR (op_eqK (K := K) rfl hr.units) (pv 0) pe_int (nomark _)) (pss_one (ps_ret (pe_makeE (mk_Jump (K := K) T) (hr.mono (by decide)) pass0 rfl (pa_cons (pe_op op_mod (pe_op op_fdiv (pv 2) pe_int) pe_int) pa_nil)))) pss_nil)
      (pss_cons (ps_if (pt_cmpR (op_eqK (K := K) rfl hr.units) (pv 0) pe_int (nomark _)) (pss_one (ps_ret (pe_makeE (mk_Branch (K := K) T) (hr.mono (by decide)) pass0 rfl (pa_cons (pv 1) (pa_cons (pe_op op_mod (pe_op op_fdiv (pv 2) pe_int) pe_int) pa_nil))))) pss_nil)
      (pss_cons (ps_if (pt_cmpR (op_eqK (K := K) rfl hr.units) (pv 0) pe_int (nomark _)) (pss_one (ps_ret (pe_makeE (mk_Call (K := K) T) (hr.mono (by decide)) pass0 rfl (pa_cons (pe_op op_mod (pe_op op_fdiv (pv 2) pe_int) pe_int) pa_nil)))) pss_nil)
      (pss_cons (ps_if (pt_cmpR (op_eqK (K := K) rfl hr.units) (pv 0) pe_int (nomark _)) (pss_one (ps_ret (pe_makeE (mk_Back (K := K) T) (hr.mono (by decide)) pass0 rfl (pa_cons (pv 1) pa_nil)))) pss_nil)
      (pss_one (ps_ret (pe_makeE (mk_Drop (K := K) T) (hr.mono (by decide)) pass0 rfl (pa_cons (pv 1) pa_nil)))))))), ?_⟩
    refine r_st (σ' := [some _, some _, some _]) rfl ?_
    walk_at "rds"
    all_goals first
      | exact r_row1 (a := a) (by walk_at "rok") rfl fun p H' s n z => q p H' s n (by unfold goOf; walk_at "sp")
      | exact r_row2 (a := a) ⟨by walk_at "rok", by walk_at "rok"⟩ rfl fun p H' s n z => q p H' s n (by unfold goOf; walk_at "sp")
      | exact r_row3 (a := a) ⟨by walk_at "rok", by walk_at "rok", by walk_at "rok"⟩ rfl fun p H' s n z => q p H' s n (by unfold goOf; walk_at "sp")
end
section
variable {P : Program} {w : World} {K : PySem.W.Frag} {mg : Str → Option Value} {base : Heap} {a : Adr}
set_option maxHeartbeats 4000000 in
theorem ok_law_row (T : Txt K mg a) : FnE P w K mg base CX0 5 "_law_row" (spRow a) := by
  refine fnE_of (sp := (spRow a)) 4 T.fn_law_row sc_law_row (fun vs H Q E h => ?_) (fun f cdv A outer s H vs Q E hr h => ?_)
  · obtain ⟨k, b, o, m, c, rfl, _⟩ := h
    rfl
  · obtain ⟨k, b, o, m, c, rfl, hb, ho, hm, q⟩ := h
    refine ⟨_, (pss_cons (ps_if (pt_cmpR op_lt (pv 0) pe_int (nomark _)) (pss_one (ps_ret (pe_callE (ok_law_filling (K := K) T) (hr.mono (by decide)) pass0 rfl (pa_cons (pv 0) (pa_cons (pv 1) (pa_cons (pv 2) (pa_cons (pv 4) pa_nil))))))) pss_nil)
      (pss_cons (ps_if (pt_cmpR op_lt (pv 0) pe_int (nomark _)) (pss_one (ps_ret (pe_callE (ok_law_going (K := K) T) (hr.mono (by decide)) pass0 rfl (pa_cons (pv 0) (pa_cons (pv 1) (pa_cons (pv 4) pa_nil)))))) pss_nil)
      (pss_cons (ps_if (pt_cmpR (op_eqK (K := K) rfl hr.units) (pv 0) pe_int (nomark _)) (pss_one (ps_ret (pe_makeE (mk_Grow (K := K) T) (hr.mono (by decide)) pass0 rfl (pa_cons (pv 3) pa_nil)))) pss_nil)
      (pss_cons (ps_if (pt_cmpR (op_eqK (K := K) rfl hr.units) (pv 0) pe_int (nomark _)) (pss_one (ps_ret (pe_makeE (mk_Shrink (K := K) T) (hr.mono (by decide)) pass0 rfl (pa_cons (pv 3) pa_nil)))) pss_nil)
      (pss_cons (ps_if (pt_cmpR (op_eqK (K := K) rfl hr.units) (pv 0) pe_int (nomark _)) (pss_one (ps_ret (pe_makeE (mk_Put (K := K) T) (hr.mono (by decide)) pass0 rfl (pa_cons (pv 1) (pa_cons (pv 3) pa_nil))))) pss_nil)
      (pss_one (ps_ret (pe_makeE (mk_Get (K := K) T) (hr.mono (by decide)) pass0 rfl (pa_cons (pv 1) (pa_cons (pv 3) pa_nil)))))))))), ?_⟩
    refine r_st (σ' := [some _, some _, some _, some _, some _]) rfl ?_
    walk_at "rds"
    all_goals first
      | exact ⟨_, _, _, _, rfl, hb, ho, fun p H' s n z => q p H' s n (by unfold rowOf; walk_at "sp")⟩
      | exact ⟨_, _, _, rfl, hb, fun p H' s n z => q p H' s n (by unfold rowOf; walk_at "sp")⟩
      | exact r_row1 (a := a) (by walk_at "rok") rfl fun p H' s n z => q p H' s n (by unfold rowOf; walk_at "sp")
      | exact r_row2 (a := a) ⟨by walk_at "rok", by walk_at "rok"⟩ rfl fun p H' s n z => q p H' s n (by unfold rowOf; walk_at "sp")
end
section
variable {P : Program} {w : World} {K : PySem.W.Frag} {mg : Str → Option Value} {base : Heap} {a : Adr}
theorem flds_keeps (r : Rw) : r.flds.lookup ("keeps" : Str) = none := by
  cases r <;> (show List.lookup _ (putF _ _ _) = none; walk_at "nolk")
theorem flds_height (r : Rw) : r.flds.lookup ("height" : Str) = none := by
  cases r <;> (show List.lookup _ (putF _ _ _) = none; walk_at "nolk")
theorem me_all_keeps (T : Txt K mg a) (r : Rw) : MethE P w K mg base CX0 3 (r.cls a) "keeps" (spKeeps a r) := by
  cases r
  · exact (me_Set_keeps T _ _).mono (by decide)
  · exact (me_Copy_keeps T _ _).mono (by decide)
  · exact (me_Add_keeps T _ _ _).mono (by decide)
  · exact (me_Sub_keeps T _ _ _).mono (by decide)
  · exact (me_Mul_keeps T _ _ _).mono (by decide)
  · exact (me_Less_keeps T _ _ _).mono (by decide)
  · exact (me_Grow_keeps T _).mono (by decide)
  · exact (me_Shrink_keeps T _).mono (by decide)
  · exact (me_Put_keeps T _ _).mono (by decide)
  · exact (me_Get_keeps T _ _).mono (by decide)
  · exact (me_Jump_keeps T _).mono (by decide)
  · exact (me_Branch_keeps T _ _).mono (by decide)
  · exact (me_Call_keeps T _).mono (by decide)
  · exact (me_Back_keeps T _).mono (by decide)
  · exact (me_Drop_keeps T _).mono (by decide)
theorem me_all_height (T : Txt K mg a) (r : Rw) : MethE P w K mg base CX0 1 (r.cls a) "height" (spHeight a r) := by
  cases r
  · exact (me_Set_height T _ _).mono (by decide)
  · exact (me_Copy_height T _ _).mono (by decide)
  · exact (me_Add_height T _ _ _).mono (by decide)
  · exact (me_Sub_height T _ _ _).mono (by decide)
  · exact (me_Mul_height T _ _ _).mono (by decide)
  · exact (me_Less_height T _ _ _).mono (by decide)
  · exact (me_Grow_height T _).mono (by decide)
  · exact (me_Shrink_height T _).mono (by decide)
  · exact (me_Put_height T _ _).mono (by decide)
  · exact (me_Get_height T _ _).mono (by decide)
  · exact (me_Jump_height T _).mono (by decide)
  · exact (me_Branch_height T _ _).mono (by decide)
  · exact (me_Call_height T _).mono (by decide)
  · exact (me_Back_height T _).mono (by decide)
  · exact (me_Drop_height T _).mono (by decide)
end
section
variable {P : Program} {w : World} {K : PySem.W.Frag} {mg : Str → Option Value} {base : Heap} {a : Adr}
set_option maxHeartbeats 4000000 in
theorem law_fn {fa : Addr} {fd : FuncData} (T : Txt K mg a) (F : Fun K "law" "law" s_law fa fd) : FnOk P w K mg base CX0 6 fa fd ["_law_script"] (spLaw K) := by
  refine F.ok (k := 5) sc_law (fun vs H Q E h => ?_) (fun cdv A outer s H vs Q E hr h => ?_)
  · obtain ⟨a0, ns, rfl, _⟩ := h
    rfl
  · obtain ⟨a0, ns, rfl, hS, h63, q⟩ := h
    refine ⟨_, (pss_cons (ps_set (i := 1) sc_law.nd rfl (Or.inl rfl) (pe_callE (ok_law_cell_at (K := K) T) (hr.mono (by decide)) pass0 rfl (pa_cons (pv 0) (pa_cons pe_int pa_nil))))
      (pss_cons (ps_set (i := 2) sc_law.nd rfl (Or.inl rfl) (pe_ix (ix_K (K := K) rfl) (pe_lst (pa_cons (pe_op op_mod (pv 1) pe_int) (pa_cons (pe_ix (ix_K (K := K) rfl) (pe_lst (pa_cons pe_int (pa_cons pe_int (pa_cons pe_int (pa_cons pe_int pa_nil))))) (pe_op op_mod (pe_op op_fdiv (pv 1) pe_int) pe_int) (fun _ _ => rfl)) pa_nil))) (pe_op op_mod (pe_op op_fdiv (pv 1) pe_int) pe_int) (fun _ _ => rfl)))
      (pss_cons (ps_set (i := 3) sc_law.nd rfl (Or.inl rfl) (pe_op op_mod (pe_op op_fdiv (pe_callE (ok_law_cell_at (K := K) T) (hr.mono (by decide)) pass0 rfl (pa_cons (pv 0) (pa_cons pe_int pa_nil))) pe_int) (pe_ix (ix_K (K := K) rfl) (pe_lst (pa_cons pe_int (pa_cons pe_int pa_nil))) (pe_cmpR (op_eqK (K := K) rfl hr.units) (pe_op op_mod (pe_callE (ok_law_cell_at (K := K) T) (hr.mono (by decide)) pass0 rfl (pa_cons (pv 0) (pa_cons pe_int pa_nil))) pe_int) pe_int (nomark _)) (fun _ _ => rfl))))
      (pss_cons (ps_set (i := 4) sc_law.nd rfl (Or.inl rfl) (pe_op op_mod (pe_callE (ok_law_cell_at (K := K) T) (hr.mono (by decide)) pass0 rfl (pa_cons (pv 0) (pa_cons pe_int pa_nil))) (pe_op (op_plusK (K := K) rfl) (pv 3) pe_int)))
      (pss_cons (ps_set (i := 5) sc_law.nd rfl (Or.inl rfl) (pe_callE (ok_law_cell_at (K := K) T) (hr.mono (by decide)) pass0 rfl (pa_cons (pv 0) (pa_cons pe_int pa_nil))))
      (pss_cons (ps_set (i := 6) sc_law.nd rfl (Or.inl rfl) (pe_op op_mod (pv 5) pe_int))
      (pss_cons (ps_set (i := 7) sc_law.nd rfl (Or.inl rfl) (pe_op op_mod (pe_op op_fdiv (pv 5) pe_int) pe_int))
      (pss_cons (ps_set (i := 8) sc_law.nd rfl (Or.inl rfl) (pe_callE (ok_law_row (K := K) T) (hr.mono (by decide)) pass0 rfl (pa_cons (pv 2) (pa_cons (pv 6) (pa_cons (pv 7) (pa_cons (pv 4) (pa_cons (pv 5) pa_nil)))))))
      (pss_cons (ps_if (pt_cmpR op_isNA (pe_methK (P := P) (w := w) (K := K) (mg := mg) (base := base) (k := 1) ⟨rfl, rfl, rfl, rfl, rfl⟩ (pv 8) (hr.mono (by decide)) pass0 (pa_cons (pv 3) pa_nil)) pe_non (nomark _)) (pss_one (ps_ret pe_bl)) pss_nil)
      (pss_cons (ps_set (i := 9) sc_law.nd rfl (Or.inr rfl) (pe_ix (ix_K (K := K) rfl) (pe_lst (pa_cons pe_int (pa_cons pe_int (pa_cons pe_int (pa_cons pe_int pa_nil))))) (pe_op op_mod (pe_callE (ok_law_cell_at (K := K) T) (hr.mono (by decide)) pass0 rfl (pa_cons (pv 0) (pa_cons pe_int pa_nil))) pe_int) (fun _ _ => rfl)))
      (pss_cons (ps_setC (i := 10) sc_law.nd rfl rfl (own := ["_law_k"]) (fr := [("_law_script", 0), ("_law_share", 9)]) rfl ⟨rfl, (by walk_at "clok"), (by walk_at "frok"), rfl, (by decide +kernel), (by decide +kernel), rfl⟩ (pi_range1 rfl T.z_range (pa_cons (pe_op (op_plusK (K := K) rfl) pe_int (pv 3)) pa_nil)) (fun _ _ _ _ => (pg_name (i := 0) (show List.Nodup [("_law_k" : Str), ("_law_script" : Str), ("_law_share" : Str)] from by decide +kernel) rfl (Or.inl rfl))) (fun _ _ _ _ => (pts_one (pt_cmpR (op_eqK (K := K) rfl hr.units) (pe_op op_mod (pe_callE (ok_law_mixed (K := K) T) (hr.mono (by decide)) pass0 rfl (pa_cons (pe_op op_fdiv (pe_callE (ok_law_cell_at (K := K) T) (hr.mono (by decide)) pass0 rfl (pa_cons (pv 1) (pa_cons pe_int pa_nil))) pe_int) (pa_cons (pv 0) pa_nil))) (pv 2)) pe_int (nomark _)))) (fun _ _ _ _ => (pv 0)))
      (pss_cons (ps_set (i := 11) sc_law.nd rfl (Or.inl rfl) (pe_methK (P := P) (w := w) (K := K) (mg := mg) (base := base) (k := 3) ⟨rfl, rfl, rfl, rfl, rfl⟩ (pv 8) (hr.mono (by decide)) pass0 (pa_cons (pe_callB (call_sumK (K := K) rfl rfl) rfl T.z_sum b_sum (pa_cons (pe_comp (own := ["_law_place"]) (fr := []) rfl ⟨rfl, (by walk_at "clok"), (by walk_at "frok"), rfl, (by decide +kernel), (by decide +kernel), rfl⟩ (pi_seqK (K := K) rfl (pv 10)) (fun _ _ _ _ => (pg_name (i := 0) (show List.Nodup [("_law_place" : Str)] from by decide +kernel) rfl (Or.inl rfl))) (fun _ _ _ _ => pts_nil) (fun _ _ _ _ => (pe_op op_shlB pe_int (pv 0)))) pa_nil)) (pa_cons (pv 3) pa_nil))))
      (pss_cons (ps_set (i := 12) sc_law.nd rfl (Or.inl rfl) (pe_callB (call_sumK (K := K) rfl rfl) rfl T.z_sum b_sum (pa_cons (pe_comp (own := ["_law_place"]) (fr := []) rfl ⟨rfl, (by walk_at "clok"), (by walk_at "frok"), rfl, (by decide +kernel), (by decide +kernel), rfl⟩ (pi_seqK (K := K) rfl (pe_callE (ok_law_due (K := K) T) (hr.mono (by decide)) pass0 rfl (pa_cons (pv 2) (pa_cons (pv 6) (pa_cons (pv 7) (pa_cons (pv 4) (pa_cons (pv 3) (pa_cons (pv 10) pa_nil)))))))) (fun _ _ _ _ => (pg_name (i := 0) (show List.Nodup [("_law_place" : Str)] from by decide +kernel) rfl (Or.inl rfl))) (fun _ _ _ _ => pts_nil) (fun _ _ _ _ => (pe_op op_shlB pe_int (pv 0)))) pa_nil)))
      (pss_one (ps_ret (pe_and (pe_callE (ok_law_whole (K := K) T) (hr.mono (by decide)) pass0 rfl (pa_cons (pv 11) pa_nil)) (pe_one (pe_cmpR (op_eqK (K := K) rfl hr.units) (pv 11) (pv 12) (nomark _))))))))))))))))))), ?_⟩
    refine r_st (σ' := [some _, none, none, none, none, none, none, none, none, none, none, none, none]) rfl ?_
    walk_at "rd"
    refine r_ixL (SqL.of upd_same) (at4a _) ?_
    walk_at "rd"
    refine r_ixL (SqL.of upd_same) (at2 _ _ _) ?_
    walk_at "rd"
    refine r_ixDj (SqL.of upd_same) ?_
    refine r_I (show (0 : Int) < _ from by split <;> decide) ?_
    have hk : ∀ x y z : Int, 0 ≤ z ∧ z ≤ 14 → 0 ≤ (if x % 2 = 0 then y % 15 else z) ∧ (if x % 2 = 0 then y % 15 else z) ≤ 14 := fun x y z hz => by split <;> omega
    have hk0 := hk (cellAt ns 0 / 60) (cellAt ns 0) _ (pickA_ok (cellAt ns 0 / 15))
    generalize (if cellAt ns 0 / 60 % 2 = 0 then cellAt ns 0 % 15 else pickA (cellAt ns 0 / 15)) = k at hk0 ⊢
    have hh : ∀ x y : Int, 0 ≤ x % (if y % 8 = 3 then (301 : Int) else 13) ∧ x % (if y % 8 = 3 then (301 : Int) else 13) ≤ 300 := fun x y => by split <;> omega
    have hh0 := hh (cellAt ns 1 / 8) (cellAt ns 1)
    generalize (cellAt ns 1 / 8 % if cellAt ns 1 % 8 = 3 then (301 : Int) else 13) = n at hh0 ⊢
    clear hh hk
    obtain ⟨k0, k1⟩ := hk0
    obtain ⟨z0, z1⟩ := hh0
    walk_at "rd"
    have hm0 : 0 ≤ cellAt ns 2 % (n + 2) ∧ cellAt ns 2 % (n + 2) ≤ n + 1 := ⟨Int.emod_nonneg _ (by omega), by have := Int.emod_lt_of_pos (cellAt ns 2) (show 0 < n + 2 by omega); omega⟩
    generalize cellAt ns 2 % (n + 2) = m at hm0 ⊢
    generalize cellAt ns 3 = c at *
    have b1 : isBox (c % 8) := ⟨by omega, by omega⟩
    have o1 : isBox (c / 8 % 8) := ⟨by omega, by omega⟩
    have m1 : isMany m := ⟨by omega, by omega⟩
    walk_at "rd"
    refine ⟨_, _, _, _, _, rfl, b1, o1, m1, fun pr H6 s6 n6 hr => ?_⟩
    obtain ⟨dx, hrow⟩ := id hr
    walk_at "rd"
    refine r_methV (by walk_at "hlk") (flds_height _) ((me_all_height T _).mono (by decide)) ?_
    walk_at "rd"
    refine ⟨pr, _, rfl, ⟨dx, by walk_at "hlk"⟩, ?_⟩
    cases hd : (rowOf k (c % 8) (c / 8 % 8) m c).height n with
    | none =>
      rw [show optV none = V.non from rfl]
      walk_at "rd"
      exact q _
    | some d =>
      have hmz := height_hm hd k1
      rw [show optV (some d) = V.int d from rfl]
      walk_at "rd"
      refine r_ixL (SqL.of upd_same) (at4b _) ?_
      have hsh := pickB_ok (cellAt ns 4)
      generalize pickB (cellAt ns 4) = sh at hsh ⊢
      walk_at "rd"
      rename_i lx hlx
      refine comp_range (fun i ys σ H1 => Same (upd H6 lx (.lst [.int 1, .int 2, .int 2, .int 9])) H1 ∧ (∃ v, σ = [v, some (.ref a0), some (.int sh)]) ∧ ∃ ps : List Nat, ys = ps.map emb ∧ ps.Nodup ∧ (∀ p ∈ ps, p < i) ∧ ps.length ≤ i) ⟨Same.refl _, ⟨_, rfl⟩, [], rfl, List.nodup_nil, fun p hp => (nomatch hp), Nat.le_refl _⟩ ?_ ?_ ?_
      · rintro i ys σ H1 hi ⟨_, _, ps, rfl, _, _, hl⟩
        rw [List.length_map]
        walk_at "small"
      · rintro i ys σ H1 hi ⟨s1, ⟨v, rfl⟩, ps, rfl, hn, hlt, hl⟩
        walk_at "rd"
        walk_at "cs"
        · walk_at "rd"
          refine ⟨s1, ⟨_, rfl⟩, ps ++ [i], ?_, ?_, ?_, ?_⟩
          · rw [List.map_append]; simp [emb]
          · rw [List.nodup_append]
            refine ⟨hn, by simp, fun x hx y hy => ?_⟩
            have e : y = i := by simpa using hy
            have := hlt x hx
            omega
          · intro p hp
            rcases List.mem_append.mp hp with hp | hp
            · have := hlt p hp; omega
            · have e : p = i := by simpa using hp
              omega
          · rw [List.length_append]; simp; exact hl
        · walk_at "rd"
          exact ⟨s1, ⟨_, rfl⟩, ps, rfl, hn, fun p hp => by have := hlt p hp; omega, by omega⟩
      rintro ys σ H7 ⟨s7, _, ps, rfl, hn, hlt, hl⟩
      walk_at "rd"
      refine r_methV (by walk_at "hlk") (flds_keeps _) ((me_all_keeps T _).mono (by decide)) ?_
      walk_at "rd"
      refine comp_mapL (xs := ps) (emb := emb) (fun p => .int ((2 ^ p : Nat) : Int)) (fun σ => ∃ v, σ = [v]) (SqL.of (by walk_at "hlk")) (by walk_at "small") ⟨_, rfl⟩ ?_ ?_
      · rintro i x ys σ H1 hx cc s ⟨v, rfl⟩
        have hlt := hlt x (List.mem_of_getElem? hx)
        walk_at "rd"
        refine r_I (shl_one (by omega) (by omega)) ?_
        rw [Int.toNat_natCast, one_shl]
        exact cc.next hx rfl (by walk_at "same") ⟨_, rfl⟩
      intro HN sN
      rw [map_int]
      walk_at "rd"
      rw [sum_emb]
      refine ⟨pr, Bt.bits ps, _, rfl, ⟨dx, by walk_at "hlk"⟩, rowOf_ok b1 o1 m1, by omega, by omega, by rw [hd]; rfl, ?_⟩
      rw [keep_due hn (fun p hp => by have := hlt p hp; omega) k0 k1 m1 (by rw [hd]; rfl)]
      walk_at "rd"
      refine ⟨_, _, _, _, _, _, ps, rfl, k0, k1, b1, o1, m1, by omega, by omega, hmz, by walk_at "hlk", by omega, fun r H8 s8 hr8 => ?_⟩
      have dl := dueS_len k (c % 8) (c / 8 % 8) m n ps
      have dlt : ∀ x ∈ dueS k (c % 8) (c / 8 % 8) m n ps, x < 100000 := dueS_lt (fun p hp => by have := hlt p hp; omega) b1 (by omega) (by omega)
      have dn := dueS_nodup (k := k) (b := c % 8) (o := c / 8 % 8) (m := m) (h := n) hn
      walk_at "rd"
      refine comp_mapL (xs := (dueS k (c % 8) (c / 8 % 8) m n ps)) (emb := emb) (fun p => .int ((2 ^ p : Nat) : Int)) (fun σ => ∃ v, σ = [v]) (SqL.of (by walk_at "hlk")) (by walk_at "small") ⟨_, rfl⟩ ?_ ?_
      · rintro i x ys σ H1 hx cc s ⟨v, rfl⟩
        have hlt := dlt x (List.mem_of_getElem? hx)
        walk_at "rd"
        refine r_I (shl_one (by omega) (by omega)) ?_
        rw [Int.toNat_natCast, one_shl]
        exact cc.next hx rfl (by walk_at "same") ⟨_, rfl⟩
      intro HN sN
      rw [map_int]
      walk_at "rd"
      rw [sum_emb]
      walk_at "rd"
      rw [decide_eq_true rfl]
      exact q _
end
set_option maxHeartbeats 8000000 in
theorem txt_mk {K : PySem.W.Frag} {h : Heap} {mg : Str → Option Value} {fa : Addr} (X : K.In h) (G : h.Ns mainGlobals mg) (hfa : mg "law" = some (.ref fa))
    {t_FIRST_CELL_BIT : Tok}
    {t_LOST_BY_CALL : Tok}
    {t_TOP_BOX : Tok}
    {t_TOP_CELLS : Tok}
    {t_TOP_TARGET : Tok}
    {t_TOP_VALUE : Tok}
    {C_Add : Addr}
    {C_Back : Addr}
    {C_Branch : Addr}
    {C_Call : Addr}
    {C_Copy : Addr}
    {C_Drop : Addr}
    {C_Get : Addr}
    {C_Grow : Addr}
    {C_Jump : Addr}
    {C_Less : Addr}
    {C_Mul : Addr}
    {C_NoRow : Addr}
    {C_Put : Addr}
    {C_Set : Addr}
    {C_Shrink : Addr}
    {C_Sub : Addr}
    {f1 : Addr} {od1 an1 : Option Addr} {sl1 : Array (Option Value)} {oc1 kV1 dc1 pm1 cd1 ct1 : Value}
    {f2 : Addr} {od2 an2 : Option Addr} {sl2 : Array (Option Value)} {oc2 kV2 dc2 pm2 cd2 ct2 : Value}
    {f3 : Addr} {od3 an3 : Option Addr} {sl3 : Array (Option Value)} {oc3 kV3 dc3 pm3 cd3 ct3 : Value}
    {f4 : Addr} {od4 an4 : Option Addr} {sl4 : Array (Option Value)} {oc4 kV4 dc4 pm4 cd4 ct4 : Value}
    {f5 : Addr} {od5 an5 : Option Addr} {sl5 : Array (Option Value)} {oc5 kV5 dc5 pm5 cd5 ct5 : Value}
    {f6 : Addr} {od6 an6 : Option Addr} {sl6 : Array (Option Value)} {oc6 kV6 dc6 pm6 cd6 ct6 : Value}
    {f7 : Addr} {od7 an7 : Option Addr} {sl7 : Array (Option Value)} {oc7 kV7 dc7 pm7 cd7 ct7 : Value}
    {f8 : Addr} {od8 an8 : Option Addr} {sl8 : Array (Option Value)} {oc8 kV8 dc8 pm8 cd8 ct8 : Value}
    {f9 : Addr} {od9 an9 : Option Addr} {sl9 : Array (Option Value)} {oc9 kV9 dc9 pm9 cd9 ct9 : Value}
    {f10 : Addr} {od10 an10 : Option Addr} {sl10 : Array (Option Value)} {oc10 kV10 dc10 pm10 cd10 ct10 : Value}
    {f11 : Addr} {od11 an11 : Option Addr} {sl11 : Array (Option Value)} {oc11 kV11 dc11 pm11 cd11 ct11 : Value}
    {f12 : Addr} {od12 an12 : Option Addr} {sl12 : Array (Option Value)} {oc12 kV12 dc12 pm12 cd12 ct12 : Value}
    {f13 : Addr} {od13 an13 : Option Addr} {sl13 : Array (Option Value)} {oc13 kV13 dc13 pm13 cd13 ct13 : Value}
    {f14 : Addr} {od14 an14 : Option Addr} {sl14 : Array (Option Value)} {oc14 kV14 dc14 pm14 cd14 ct14 : Value}
    {f15 : Addr} {od15 an15 : Option Addr} {sl15 : Array (Option Value)} {oc15 kV15 dc15 pm15 cd15 ct15 : Value}
    {f16 : Addr} {od16 an16 : Option Addr} {sl16 : Array (Option Value)} {oc16 kV16 dc16 pm16 cd16 ct16 : Value}
    {f17 : Addr} {od17 an17 : Option Addr} {sl17 : Array (Option Value)} {oc17 kV17 dc17 pm17 cd17 ct17 : Value}
    {f18 : Addr} {od18 an18 : Option Addr} {sl18 : Array (Option Value)} {oc18 kV18 dc18 pm18 cd18 ct18 : Value}
    {f19 : Addr} {od19 an19 : Option Addr} {sl19 : Array (Option Value)} {oc19 kV19 dc19 pm19 cd19 ct19 : Value}
    {f20 : Addr} {od20 an20 : Option Addr} {sl20 : Array (Option Value)} {oc20 kV20 dc20 pm20 cd20 ct20 : Value}
    {f21 : Addr} {od21 an21 : Option Addr} {sl21 : Array (Option Value)} {oc21 kV21 dc21 pm21 cd21 ct21 : Value}
    {f22 : Addr} {od22 an22 : Option Addr} {sl22 : Array (Option Value)} {oc22 kV22 dc22 pm22 cd22 ct22 : Value}
    {f23 : Addr} {od23 an23 : Option Addr} {sl23 : Array (Option Value)} {oc23 kV23 dc23 pm23 cd23 ct23 : Value}
    {f24 : Addr} {od24 an24 : Option Addr} {sl24 : Array (Option Value)} {oc24 kV24 dc24 pm24 cd24 ct24 : Value}
    {f25 : Addr} {od25 an25 : Option Addr} {sl25 : Array (Option Value)} {oc25 kV25 dc25 pm25 cd25 ct25 : Value}
    {f26 : Addr} {od26 an26 : Option Addr} {sl26 : Array (Option Value)} {oc26 kV26 dc26 pm26 cd26 ct26 : Value}
    {f27 : Addr} {od27 an27 : Option Addr} {sl27 : Array (Option Value)} {oc27 kV27 dc27 pm27 cd27 ct27 : Value}
    {f28 : Addr} {od28 an28 : Option Addr} {sl28 : Array (Option Value)} {oc28 kV28 dc28 pm28 cd28 ct28 : Value}
    {f29 : Addr} {od29 an29 : Option Addr} {sl29 : Array (Option Value)} {oc29 kV29 dc29 pm29 cd29 ct29 : Value}
    {f30 : Addr} {od30 an30 : Option Addr} {sl30 : Array (Option Value)} {oc30 kV30 dc30 pm30 cd30 ct30 : Value}
    {f31 : Addr} {od31 an31 : Option Addr} {sl31 : Array (Option Value)} {oc31 kV31 dc31 pm31 cd31 ct31 : Value}
    {f32 : Addr} {od32 an32 : Option Addr} {sl32 : Array (Option Value)} {oc32 kV32 dc32 pm32 cd32 ct32 : Value}
    {f33 : Addr} {od33 an33 : Option Addr} {sl33 : Array (Option Value)} {oc33 kV33 dc33 pm33 cd33 ct33 : Value}
    {f34 : Addr} {od34 an34 : Option Addr} {sl34 : Array (Option Value)} {oc34 kV34 dc34 pm34 cd34 ct34 : Value}
    {f35 : Addr} {od35 an35 : Option Addr} {sl35 : Array (Option Value)} {oc35 kV35 dc35 pm35 cd35 ct35 : Value}
    {f36 : Addr} {od36 an36 : Option Addr} {sl36 : Array (Option Value)} {oc36 kV36 dc36 pm36 cd36 ct36 : Value}
    {f37 : Addr} {od37 an37 : Option Addr} {sl37 : Array (Option Value)} {oc37 kV37 dc37 pm37 cd37 ct37 : Value}
    {f38 : Addr} {od38 an38 : Option Addr} {sl38 : Array (Option Value)} {oc38 kV38 dc38 pm38 cd38 ct38 : Value}
    {f39 : Addr} {od39 an39 : Option Addr} {sl39 : Array (Option Value)} {oc39 kV39 dc39 pm39 cd39 ct39 : Value}
    {f40 : Addr} {od40 an40 : Option Addr} {sl40 : Array (Option Value)} {oc40 kV40 dc40 pm40 cd40 ct40 : Value}
    {f41 : Addr} {od41 an41 : Option Addr} {sl41 : Array (Option Value)} {oc41 kV41 dc41 pm41 cd41 ct41 : Value}
    {f42 : Addr} {od42 an42 : Option Addr} {sl42 : Array (Option Value)} {oc42 kV42 dc42 pm42 cd42 ct42 : Value}
    {f43 : Addr} {od43 an43 : Option Addr} {sl43 : Array (Option Value)} {oc43 kV43 dc43 pm43 cd43 ct43 : Value}
    {f44 : Addr} {od44 an44 : Option Addr} {sl44 : Array (Option Value)} {oc44 kV44 dc44 pm44 cd44 ct44 : Value}
    {f45 : Addr} {od45 an45 : Option Addr} {sl45 : Array (Option Value)} {oc45 kV45 dc45 pm45 cd45 ct45 : Value}
    {f46 : Addr} {od46 an46 : Option Addr} {sl46 : Array (Option Value)} {oc46 kV46 dc46 pm46 cd46 ct46 : Value}
    {f47 : Addr} {od47 an47 : Option Addr} {sl47 : Array (Option Value)} {oc47 kV47 dc47 pm47 cd47 ct47 : Value}
    {f48 : Addr} {od48 an48 : Option Addr} {sl48 : Array (Option Value)} {oc48 kV48 dc48 pm48 cd48 ct48 : Value}
    {f49 : Addr} {od49 an49 : Option Addr} {sl49 : Array (Option Value)} {oc49 kV49 dc49 pm49 cd49 ct49 : Value}
    {f50 : Addr} {od50 an50 : Option Addr} {sl50 : Array (Option Value)} {oc50 kV50 dc50 pm50 cd50 ct50 : Value}
    {f51 : Addr} {od51 an51 : Option Addr} {sl51 : Array (Option Value)} {oc51 kV51 dc51 pm51 cd51 ct51 : Value}
    {f52 : Addr} {od52 an52 : Option Addr} {sl52 : Array (Option Value)} {oc52 kV52 dc52 pm52 cd52 ct52 : Value}
    {f53 : Addr} {od53 an53 : Option Addr} {sl53 : Array (Option Value)} {oc53 kV53 dc53 pm53 cd53 ct53 : Value}
    {f54 : Addr} {od54 an54 : Option Addr} {sl54 : Array (Option Value)} {oc54 kV54 dc54 pm54 cd54 ct54 : Value}
    {f55 : Addr} {od55 an55 : Option Addr} {sl55 : Array (Option Value)} {oc55 kV55 dc55 pm55 cd55 ct55 : Value}
    {f56 : Addr} {od56 an56 : Option Addr} {sl56 : Array (Option Value)} {oc56 kV56 dc56 pm56 cd56 ct56 : Value}
    {f57 : Addr} {od57 an57 : Option Addr} {sl57 : Array (Option Value)} {oc57 kV57 dc57 pm57 cd57 ct57 : Value}
    {f58 : Addr} {od58 an58 : Option Addr} {sl58 : Array (Option Value)} {oc58 kV58 dc58 pm58 cd58 ct58 : Value}
    (z_bool : PySem.W.nsIn K mainGlobals "bool" = some none)
    (z_int : PySem.W.nsIn K mainGlobals "int" = some none)
    (z_isinstance : PySem.W.nsIn K mainGlobals "isinstance" = some none)
    (z_len : PySem.W.nsIn K mainGlobals "len" = some none)
    (z_range : PySem.W.nsIn K mainGlobals "range" = some none)
    (z_sum : PySem.W.nsIn K mainGlobals "sum" = some none)
    (g_FIRST_CELL_BIT : PySem.W.nsIn K mainGlobals "FIRST_CELL_BIT" = some (some (Value.int 8 t_FIRST_CELL_BIT)))
    (g_LOST_BY_CALL : PySem.W.nsIn K mainGlobals "LOST_BY_CALL" = some (some (Value.int 143 t_LOST_BY_CALL)))
    (g_TOP_BOX : PySem.W.nsIn K mainGlobals "TOP_BOX" = some (some (Value.int 7 t_TOP_BOX)))
    (g_TOP_CELLS : PySem.W.nsIn K mainGlobals "TOP_CELLS" = some (some (Value.int 4000 t_TOP_CELLS)))
    (g_TOP_TARGET : PySem.W.nsIn K mainGlobals "TOP_TARGET" = some (some (Value.int 2000 t_TOP_TARGET)))
    (g_TOP_VALUE : PySem.W.nsIn K mainGlobals "TOP_VALUE" = some (some (Value.int 4294967295 t_TOP_VALUE)))
    (c_Add : PySem.W.nsIn K mainGlobals "Add" = some (some (.ref C_Add)))
    (c_Back : PySem.W.nsIn K mainGlobals "Back" = some (some (.ref C_Back)))
    (c_Branch : PySem.W.nsIn K mainGlobals "Branch" = some (some (.ref C_Branch)))
    (c_Call : PySem.W.nsIn K mainGlobals "Call" = some (some (.ref C_Call)))
    (c_Copy : PySem.W.nsIn K mainGlobals "Copy" = some (some (.ref C_Copy)))
    (c_Drop : PySem.W.nsIn K mainGlobals "Drop" = some (some (.ref C_Drop)))
    (c_Get : PySem.W.nsIn K mainGlobals "Get" = some (some (.ref C_Get)))
    (c_Grow : PySem.W.nsIn K mainGlobals "Grow" = some (some (.ref C_Grow)))
    (c_Jump : PySem.W.nsIn K mainGlobals "Jump" = some (some (.ref C_Jump)))
    (c_Less : PySem.W.nsIn K mainGlobals "Less" = some (some (.ref C_Less)))
    (c_Mul : PySem.W.nsIn K mainGlobals "Mul" = some (some (.ref C_Mul)))
    (c_NoRow : PySem.W.nsIn K mainGlobals "NoRow" = some (some (.ref C_NoRow)))
    (c_Put : PySem.W.nsIn K mainGlobals "Put" = some (some (.ref C_Put)))
    (c_Set : PySem.W.nsIn K mainGlobals "Set" = some (some (.ref C_Set)))
    (c_Shrink : PySem.W.nsIn K mainGlobals "Shrink" = some (some (.ref C_Shrink)))
    (c_Sub : PySem.W.nsIn K mainGlobals "Sub" = some (some (.ref C_Sub)))
    (pg_Less : PySem.W.plainGet K C_Less Str.empty = true)
    (hd_Less : PySem.W.hasDictIn K C_Less = true)
    (po_Less : PySem.W.plainOver K C_Less = true)
    (sa_Less : PySem.W.findIn K (.ref C_Less) "__setattr__" = some (some (.builtin "object.__setattr__")))
    (mk_Less : PySem.W.makesIn K C_Less = true)
    (kc_Less : PySem.W.keepIn K (.ref C_Less) = true)
    (n_Less_box : PySem.W.findIn K (.ref C_Less) "box" = some none)
    (n_Less_one : PySem.W.findIn K (.ref C_Less) "one" = some none)
    (n_Less_other : PySem.W.findIn K (.ref C_Less) "other" = some none)
    (a1 : PySem.W.findIn K (.ref C_Less) "__init__" = some (some (.ref f1)))
    (i1 : PySem.W.isFn K (.ref f1) = true)
    (l1 : K.lookup f1 = some ⟨oc1, od1, .func (PySem.W.fnOf "__init__" "Reckoning.__init__" (defArgs s_Reckoning_init) (defBody s_Reckoning_init) (defScope s_Reckoning_init) .none kV1 dc1 pm1 an1 cd1 ct1), sl1⟩)
    (c1 : PySem.W.codeIn K cd1 "Reckoning.__init__" = true) (k1 : PySem.W.keepIn K (.ref f1) = true)
    (a2 : PySem.W.findIn K (.ref C_Less) "height" = some (some (.ref f2)))
    (i2 : PySem.W.isFn K (.ref f2) = true)
    (l2 : K.lookup f2 = some ⟨oc2, od2, .func (PySem.W.fnOf "height" "Row.height" (defArgs s_Row_height) (defBody s_Row_height) (defScope s_Row_height) .none kV2 dc2 pm2 an2 cd2 ct2), sl2⟩)
    (c2 : PySem.W.codeIn K cd2 "Row.height" = true) (k2 : PySem.W.keepIn K (.ref f2) = true)
    (a3 : PySem.W.findIn K (.ref C_Less) "keeps" = some (some (.ref f3)))
    (i3 : PySem.W.isFn K (.ref f3) = true)
    (l3 : K.lookup f3 = some ⟨oc3, od3, .func (PySem.W.fnOf "keeps" "Reckoning.keeps" (defArgs s_Reckoning_keeps) (defBody s_Reckoning_keeps) (defScope s_Reckoning_keeps) .none kV3 dc3 pm3 an3 cd3 ct3), sl3⟩)
    (c3 : PySem.W.codeIn K cd3 "Reckoning.keeps" = true) (k3 : PySem.W.keepIn K (.ref f3) = true)
    (pg_Set : PySem.W.plainGet K C_Set Str.empty = true)
    (hd_Set : PySem.W.hasDictIn K C_Set = true)
    (po_Set : PySem.W.plainOver K C_Set = true)
    (sa_Set : PySem.W.findIn K (.ref C_Set) "__setattr__" = some (some (.builtin "object.__setattr__")))
    (mk_Set : PySem.W.makesIn K C_Set = true)
    (kc_Set : PySem.W.keepIn K (.ref C_Set) = true)
    (n_Set_box : PySem.W.findIn K (.ref C_Set) "box" = some none)
    (n_Set_number : PySem.W.findIn K (.ref C_Set) "number" = some none)
    (a4 : PySem.W.findIn K (.ref C_Set) "__init__" = some (some (.ref f4)))
    (i4 : PySem.W.isFn K (.ref f4) = true)
    (l4 : K.lookup f4 = some ⟨oc4, od4, .func (PySem.W.fnOf "__init__" "Set.__init__" (defArgs s_Set_init) (defBody s_Set_init) (defScope s_Set_init) .none kV4 dc4 pm4 an4 cd4 ct4), sl4⟩)
    (c4 : PySem.W.codeIn K cd4 "Set.__init__" = true) (k4 : PySem.W.keepIn K (.ref f4) = true)
    (a5 : PySem.W.findIn K (.ref C_Set) "height" = some (some (.ref f5)))
    (i5 : PySem.W.isFn K (.ref f5) = true)
    (l5 : K.lookup f5 = some ⟨oc5, od5, .func (PySem.W.fnOf "height" "Row.height" (defArgs s_Row_height) (defBody s_Row_height) (defScope s_Row_height) .none kV5 dc5 pm5 an5 cd5 ct5), sl5⟩)
    (c5 : PySem.W.codeIn K cd5 "Row.height" = true) (k5 : PySem.W.keepIn K (.ref f5) = true)
    (a6 : PySem.W.findIn K (.ref C_Set) "keeps" = some (some (.ref f6)))
    (i6 : PySem.W.isFn K (.ref f6) = true)
    (l6 : K.lookup f6 = some ⟨oc6, od6, .func (PySem.W.fnOf "keeps" "Set.keeps" (defArgs s_Set_keeps) (defBody s_Set_keeps) (defScope s_Set_keeps) .none kV6 dc6 pm6 an6 cd6 ct6), sl6⟩)
    (c6 : PySem.W.codeIn K cd6 "Set.keeps" = true) (k6 : PySem.W.keepIn K (.ref f6) = true)
    (pg_Copy : PySem.W.plainGet K C_Copy Str.empty = true)
    (hd_Copy : PySem.W.hasDictIn K C_Copy = true)
    (po_Copy : PySem.W.plainOver K C_Copy = true)
    (sa_Copy : PySem.W.findIn K (.ref C_Copy) "__setattr__" = some (some (.builtin "object.__setattr__")))
    (mk_Copy : PySem.W.makesIn K C_Copy = true)
    (kc_Copy : PySem.W.keepIn K (.ref C_Copy) = true)
    (n_Copy_box : PySem.W.findIn K (.ref C_Copy) "box" = some none)
    (n_Copy_one : PySem.W.findIn K (.ref C_Copy) "one" = some none)
    (a7 : PySem.W.findIn K (.ref C_Copy) "__init__" = some (some (.ref f7)))
    (i7 : PySem.W.isFn K (.ref f7) = true)
    (l7 : K.lookup f7 = some ⟨oc7, od7, .func (PySem.W.fnOf "__init__" "Copy.__init__" (defArgs s_Copy_init) (defBody s_Copy_init) (defScope s_Copy_init) .none kV7 dc7 pm7 an7 cd7 ct7), sl7⟩)
    (c7 : PySem.W.codeIn K cd7 "Copy.__init__" = true) (k7 : PySem.W.keepIn K (.ref f7) = true)
    (a8 : PySem.W.findIn K (.ref C_Copy) "height" = some (some (.ref f8)))
    (i8 : PySem.W.isFn K (.ref f8) = true)
    (l8 : K.lookup f8 = some ⟨oc8, od8, .func (PySem.W.fnOf "height" "Row.height" (defArgs s_Row_height) (defBody s_Row_height) (defScope s_Row_height) .none kV8 dc8 pm8 an8 cd8 ct8), sl8⟩)
    (c8 : PySem.W.codeIn K cd8 "Row.height" = true) (k8 : PySem.W.keepIn K (.ref f8) = true)
    (a9 : PySem.W.findIn K (.ref C_Copy) "keeps" = some (some (.ref f9)))
    (i9 : PySem.W.isFn K (.ref f9) = true)
    (l9 : K.lookup f9 = some ⟨oc9, od9, .func (PySem.W.fnOf "keeps" "Copy.keeps" (defArgs s_Copy_keeps) (defBody s_Copy_keeps) (defScope s_Copy_keeps) .none kV9 dc9 pm9 an9 cd9 ct9), sl9⟩)
    (c9 : PySem.W.codeIn K cd9 "Copy.keeps" = true) (k9 : PySem.W.keepIn K (.ref f9) = true)
    (pg_Add : PySem.W.plainGet K C_Add Str.empty = true)
    (hd_Add : PySem.W.hasDictIn K C_Add = true)
    (po_Add : PySem.W.plainOver K C_Add = true)
    (sa_Add : PySem.W.findIn K (.ref C_Add) "__setattr__" = some (some (.builtin "object.__setattr__")))
    (mk_Add : PySem.W.makesIn K C_Add = true)
    (kc_Add : PySem.W.keepIn K (.ref C_Add) = true)
    (n_Add_box : PySem.W.findIn K (.ref C_Add) "box" = some none)
    (n_Add_one : PySem.W.findIn K (.ref C_Add) "one" = some none)
    (n_Add_other : PySem.W.findIn K (.ref C_Add) "other" = some none)
    (a10 : PySem.W.findIn K (.ref C_Add) "__init__" = some (some (.ref f10)))
    (i10 : PySem.W.isFn K (.ref f10) = true)
    (l10 : K.lookup f10 = some ⟨oc10, od10, .func (PySem.W.fnOf "__init__" "Reckoning.__init__" (defArgs s_Reckoning_init) (defBody s_Reckoning_init) (defScope s_Reckoning_init) .none kV10 dc10 pm10 an10 cd10 ct10), sl10⟩)
    (c10 : PySem.W.codeIn K cd10 "Reckoning.__init__" = true) (k10 : PySem.W.keepIn K (.ref f10) = true)
    (a11 : PySem.W.findIn K (.ref C_Add) "height" = some (some (.ref f11)))
    (i11 : PySem.W.isFn K (.ref f11) = true)
    (l11 : K.lookup f11 = some ⟨oc11, od11, .func (PySem.W.fnOf "height" "Row.height" (defArgs s_Row_height) (defBody s_Row_height) (defScope s_Row_height) .none kV11 dc11 pm11 an11 cd11 ct11), sl11⟩)
    (c11 : PySem.W.codeIn K cd11 "Row.height" = true) (k11 : PySem.W.keepIn K (.ref f11) = true)
    (a12 : PySem.W.findIn K (.ref C_Add) "keeps" = some (some (.ref f12)))
    (i12 : PySem.W.isFn K (.ref f12) = true)
    (l12 : K.lookup f12 = some ⟨oc12, od12, .func (PySem.W.fnOf "keeps" "Reckoning.keeps" (defArgs s_Reckoning_keeps) (defBody s_Reckoning_keeps) (defScope s_Reckoning_keeps) .none kV12 dc12 pm12 an12 cd12 ct12), sl12⟩)
    (c12 : PySem.W.codeIn K cd12 "Reckoning.keeps" = true) (k12 : PySem.W.keepIn K (.ref f12) = true)
    (pg_Sub : PySem.W.plainGet K C_Sub Str.empty = true)
    (hd_Sub : PySem.W.hasDictIn K C_Sub = true)
    (po_Sub : PySem.W.plainOver K C_Sub = true)
    (sa_Sub : PySem.W.findIn K (.ref C_Sub) "__setattr__" = some (some (.builtin "object.__setattr__")))
    (mk_Sub : PySem.W.makesIn K C_Sub = true)
    (kc_Sub : PySem.W.keepIn K (.ref C_Sub) = true)
    (n_Sub_box : PySem.W.findIn K (.ref C_Sub) "box" = some none)
    (n_Sub_one : PySem.W.findIn K (.ref C_Sub) "one" = some none)
    (n_Sub_other : PySem.W.findIn K (.ref C_Sub) "other" = some none)
    (a13 : PySem.W.findIn K (.ref C_Sub) "__init__" = some (some (.ref f13)))
    (i13 : PySem.W.isFn K (.ref f13) = true)
    (l13 : K.lookup f13 = some ⟨oc13, od13, .func (PySem.W.fnOf "__init__" "Reckoning.__init__" (defArgs s_Reckoning_init) (defBody s_Reckoning_init) (defScope s_Reckoning_init) .none kV13 dc13 pm13 an13 cd13 ct13), sl13⟩)
    (c13 : PySem.W.codeIn K cd13 "Reckoning.__init__" = true) (k13 : PySem.W.keepIn K (.ref f13) = true)
    (a14 : PySem.W.findIn K (.ref C_Sub) "height" = some (some (.ref f14)))
    (i14 : PySem.W.isFn K (.ref f14) = true)
    (l14 : K.lookup f14 = some ⟨oc14, od14, .func (PySem.W.fnOf "height" "Row.height" (defArgs s_Row_height) (defBody s_Row_height) (defScope s_Row_height) .none kV14 dc14 pm14 an14 cd14 ct14), sl14⟩)
    (c14 : PySem.W.codeIn K cd14 "Row.height" = true) (k14 : PySem.W.keepIn K (.ref f14) = true)
    (a15 : PySem.W.findIn K (.ref C_Sub) "keeps" = some (some (.ref f15)))
    (i15 : PySem.W.isFn K (.ref f15) = true)
    (l15 : K.lookup f15 = some ⟨oc15, od15, .func (PySem.W.fnOf "keeps" "Reckoning.keeps" (defArgs s_Reckoning_keeps) (defBody s_Reckoning_keeps) (defScope s_Reckoning_keeps) .none kV15 dc15 pm15 an15 cd15 ct15), sl15⟩)
    (c15 : PySem.W.codeIn K cd15 "Reckoning.keeps" = true) (k15 : PySem.W.keepIn K (.ref f15) = true)
    (pg_Mul : PySem.W.plainGet K C_Mul Str.empty = true)
    (hd_Mul : PySem.W.hasDictIn K C_Mul = true)
    (po_Mul : PySem.W.plainOver K C_Mul = true)
    (sa_Mul : PySem.W.findIn K (.ref C_Mul) "__setattr__" = some (some (.builtin "object.__setattr__")))
    (mk_Mul : PySem.W.makesIn K C_Mul = true)
    (kc_Mul : PySem.W.keepIn K (.ref C_Mul) = true)
    (n_Mul_box : PySem.W.findIn K (.ref C_Mul) "box" = some none)
    (n_Mul_one : PySem.W.findIn K (.ref C_Mul) "one" = some none)
    (n_Mul_other : PySem.W.findIn K (.ref C_Mul) "other" = some none)
    (a16 : PySem.W.findIn K (.ref C_Mul) "__init__" = some (some (.ref f16)))
    (i16 : PySem.W.isFn K (.ref f16) = true)
    (l16 : K.lookup f16 = some ⟨oc16, od16, .func (PySem.W.fnOf "__init__" "Reckoning.__init__" (defArgs s_Reckoning_init) (defBody s_Reckoning_init) (defScope s_Reckoning_init) .none kV16 dc16 pm16 an16 cd16 ct16), sl16⟩)
    (c16 : PySem.W.codeIn K cd16 "Reckoning.__init__" = true) (k16 : PySem.W.keepIn K (.ref f16) = true)
    (a17 : PySem.W.findIn K (.ref C_Mul) "height" = some (some (.ref f17)))
    (i17 : PySem.W.isFn K (.ref f17) = true)
    (l17 : K.lookup f17 = some ⟨oc17, od17, .func (PySem.W.fnOf "height" "Row.height" (defArgs s_Row_height) (defBody s_Row_height) (defScope s_Row_height) .none kV17 dc17 pm17 an17 cd17 ct17), sl17⟩)
    (c17 : PySem.W.codeIn K cd17 "Row.height" = true) (k17 : PySem.W.keepIn K (.ref f17) = true)
    (a18 : PySem.W.findIn K (.ref C_Mul) "keeps" = some (some (.ref f18)))
    (i18 : PySem.W.isFn K (.ref f18) = true)
    (l18 : K.lookup f18 = some ⟨oc18, od18, .func (PySem.W.fnOf "keeps" "Reckoning.keeps" (defArgs s_Reckoning_keeps) (defBody s_Reckoning_keeps) (defScope s_Reckoning_keeps) .none kV18 dc18 pm18 an18 cd18 ct18), sl18⟩)
    (c18 : PySem.W.codeIn K cd18 "Reckoning.keeps" = true) (k18 : PySem.W.keepIn K (.ref f18) = true)
    (pg_Drop : PySem.W.plainGet K C_Drop Str.empty = true)
    (hd_Drop : PySem.W.hasDictIn K C_Drop = true)
    (po_Drop : PySem.W.plainOver K C_Drop = true)
    (sa_Drop : PySem.W.findIn K (.ref C_Drop) "__setattr__" = some (some (.builtin "object.__setattr__")))
    (mk_Drop : PySem.W.makesIn K C_Drop = true)
    (kc_Drop : PySem.W.keepIn K (.ref C_Drop) = true)
    (n_Drop_box : PySem.W.findIn K (.ref C_Drop) "box" = some none)
    (a19 : PySem.W.findIn K (.ref C_Drop) "__init__" = some (some (.ref f19)))
    (i19 : PySem.W.isFn K (.ref f19) = true)
    (l19 : K.lookup f19 = some ⟨oc19, od19, .func (PySem.W.fnOf "__init__" "Drop.__init__" (defArgs s_Drop_init) (defBody s_Drop_init) (defScope s_Drop_init) .none kV19 dc19 pm19 an19 cd19 ct19), sl19⟩)
    (c19 : PySem.W.codeIn K cd19 "Drop.__init__" = true) (k19 : PySem.W.keepIn K (.ref f19) = true)
    (a20 : PySem.W.findIn K (.ref C_Drop) "height" = some (some (.ref f20)))
    (i20 : PySem.W.isFn K (.ref f20) = true)
    (l20 : K.lookup f20 = some ⟨oc20, od20, .func (PySem.W.fnOf "height" "Row.height" (defArgs s_Row_height) (defBody s_Row_height) (defScope s_Row_height) .none kV20 dc20 pm20 an20 cd20 ct20), sl20⟩)
    (c20 : PySem.W.codeIn K cd20 "Row.height" = true) (k20 : PySem.W.keepIn K (.ref f20) = true)
    (a21 : PySem.W.findIn K (.ref C_Drop) "keeps" = some (some (.ref f21)))
    (i21 : PySem.W.isFn K (.ref f21) = true)
    (l21 : K.lookup f21 = some ⟨oc21, od21, .func (PySem.W.fnOf "keeps" "Row.keeps" (defArgs s_Row_keeps) (defBody s_Row_keeps) (defScope s_Row_keeps) .none kV21 dc21 pm21 an21 cd21 ct21), sl21⟩)
    (c21 : PySem.W.codeIn K cd21 "Row.keeps" = true) (k21 : PySem.W.keepIn K (.ref f21) = true)
    (pg_Jump : PySem.W.plainGet K C_Jump Str.empty = true)
    (hd_Jump : PySem.W.hasDictIn K C_Jump = true)
    (po_Jump : PySem.W.plainOver K C_Jump = true)
    (sa_Jump : PySem.W.findIn K (.ref C_Jump) "__setattr__" = some (some (.builtin "object.__setattr__")))
    (mk_Jump : PySem.W.makesIn K C_Jump = true)
    (kc_Jump : PySem.W.keepIn K (.ref C_Jump) = true)
    (n_Jump_target : PySem.W.findIn K (.ref C_Jump) "target" = some none)
    (a22 : PySem.W.findIn K (.ref C_Jump) "__init__" = some (some (.ref f22)))
    (i22 : PySem.W.isFn K (.ref f22) = true)
    (l22 : K.lookup f22 = some ⟨oc22, od22, .func (PySem.W.fnOf "__init__" "Jump.__init__" (defArgs s_Jump_init) (defBody s_Jump_init) (defScope s_Jump_init) .none kV22 dc22 pm22 an22 cd22 ct22), sl22⟩)
    (c22 : PySem.W.codeIn K cd22 "Jump.__init__" = true) (k22 : PySem.W.keepIn K (.ref f22) = true)
    (a23 : PySem.W.findIn K (.ref C_Jump) "height" = some (some (.ref f23)))
    (i23 : PySem.W.isFn K (.ref f23) = true)
    (l23 : K.lookup f23 = some ⟨oc23, od23, .func (PySem.W.fnOf "height" "Row.height" (defArgs s_Row_height) (defBody s_Row_height) (defScope s_Row_height) .none kV23 dc23 pm23 an23 cd23 ct23), sl23⟩)
    (c23 : PySem.W.codeIn K cd23 "Row.height" = true) (k23 : PySem.W.keepIn K (.ref f23) = true)
    (a24 : PySem.W.findIn K (.ref C_Jump) "keeps" = some (some (.ref f24)))
    (i24 : PySem.W.isFn K (.ref f24) = true)
    (l24 : K.lookup f24 = some ⟨oc24, od24, .func (PySem.W.fnOf "keeps" "Row.keeps" (defArgs s_Row_keeps) (defBody s_Row_keeps) (defScope s_Row_keeps) .none kV24 dc24 pm24 an24 cd24 ct24), sl24⟩)
    (c24 : PySem.W.codeIn K cd24 "Row.keeps" = true) (k24 : PySem.W.keepIn K (.ref f24) = true)
    (pg_Branch : PySem.W.plainGet K C_Branch Str.empty = true)
    (hd_Branch : PySem.W.hasDictIn K C_Branch = true)
    (po_Branch : PySem.W.plainOver K C_Branch = true)
    (sa_Branch : PySem.W.findIn K (.ref C_Branch) "__setattr__" = some (some (.builtin "object.__setattr__")))
    (mk_Branch : PySem.W.makesIn K C_Branch = true)
    (kc_Branch : PySem.W.keepIn K (.ref C_Branch) = true)
    (n_Branch_box : PySem.W.findIn K (.ref C_Branch) "box" = some none)
    (n_Branch_target : PySem.W.findIn K (.ref C_Branch) "target" = some none)
    (a25 : PySem.W.findIn K (.ref C_Branch) "__init__" = some (some (.ref f25)))
    (i25 : PySem.W.isFn K (.ref f25) = true)
    (l25 : K.lookup f25 = some ⟨oc25, od25, .func (PySem.W.fnOf "__init__" "Branch.__init__" (defArgs s_Branch_init) (defBody s_Branch_init) (defScope s_Branch_init) .none kV25 dc25 pm25 an25 cd25 ct25), sl25⟩)
    (c25 : PySem.W.codeIn K cd25 "Branch.__init__" = true) (k25 : PySem.W.keepIn K (.ref f25) = true)
    (a26 : PySem.W.findIn K (.ref C_Branch) "height" = some (some (.ref f26)))
    (i26 : PySem.W.isFn K (.ref f26) = true)
    (l26 : K.lookup f26 = some ⟨oc26, od26, .func (PySem.W.fnOf "height" "Row.height" (defArgs s_Row_height) (defBody s_Row_height) (defScope s_Row_height) .none kV26 dc26 pm26 an26 cd26 ct26), sl26⟩)
    (c26 : PySem.W.codeIn K cd26 "Row.height" = true) (k26 : PySem.W.keepIn K (.ref f26) = true)
    (a27 : PySem.W.findIn K (.ref C_Branch) "keeps" = some (some (.ref f27)))
    (i27 : PySem.W.isFn K (.ref f27) = true)
    (l27 : K.lookup f27 = some ⟨oc27, od27, .func (PySem.W.fnOf "keeps" "Row.keeps" (defArgs s_Row_keeps) (defBody s_Row_keeps) (defScope s_Row_keeps) .none kV27 dc27 pm27 an27 cd27 ct27), sl27⟩)
    (c27 : PySem.W.codeIn K cd27 "Row.keeps" = true) (k27 : PySem.W.keepIn K (.ref f27) = true)
    (pg_Call : PySem.W.plainGet K C_Call Str.empty = true)
    (hd_Call : PySem.W.hasDictIn K C_Call = true)
    (po_Call : PySem.W.plainOver K C_Call = true)
    (sa_Call : PySem.W.findIn K (.ref C_Call) "__setattr__" = some (some (.builtin "object.__setattr__")))
    (mk_Call : PySem.W.makesIn K C_Call = true)
    (kc_Call : PySem.W.keepIn K (.ref C_Call) = true)
    (n_Call_target : PySem.W.findIn K (.ref C_Call) "target" = some none)
    (a28 : PySem.W.findIn K (.ref C_Call) "__init__" = some (some (.ref f28)))
    (i28 : PySem.W.isFn K (.ref f28) = true)
    (l28 : K.lookup f28 = some ⟨oc28, od28, .func (PySem.W.fnOf "__init__" "Call.__init__" (defArgs s_Call_init) (defBody s_Call_init) (defScope s_Call_init) .none kV28 dc28 pm28 an28 cd28 ct28), sl28⟩)
    (c28 : PySem.W.codeIn K cd28 "Call.__init__" = true) (k28 : PySem.W.keepIn K (.ref f28) = true)
    (a29 : PySem.W.findIn K (.ref C_Call) "height" = some (some (.ref f29)))
    (i29 : PySem.W.isFn K (.ref f29) = true)
    (l29 : K.lookup f29 = some ⟨oc29, od29, .func (PySem.W.fnOf "height" "Row.height" (defArgs s_Row_height) (defBody s_Row_height) (defScope s_Row_height) .none kV29 dc29 pm29 an29 cd29 ct29), sl29⟩)
    (c29 : PySem.W.codeIn K cd29 "Row.height" = true) (k29 : PySem.W.keepIn K (.ref f29) = true)
    (a30 : PySem.W.findIn K (.ref C_Call) "keeps" = some (some (.ref f30)))
    (i30 : PySem.W.isFn K (.ref f30) = true)
    (l30 : K.lookup f30 = some ⟨oc30, od30, .func (PySem.W.fnOf "keeps" "Call.keeps" (defArgs s_Call_keeps) (defBody s_Call_keeps) (defScope s_Call_keeps) .none kV30 dc30 pm30 an30 cd30 ct30), sl30⟩)
    (c30 : PySem.W.codeIn K cd30 "Call.keeps" = true) (k30 : PySem.W.keepIn K (.ref f30) = true)
    (pg_Back : PySem.W.plainGet K C_Back Str.empty = true)
    (hd_Back : PySem.W.hasDictIn K C_Back = true)
    (po_Back : PySem.W.plainOver K C_Back = true)
    (sa_Back : PySem.W.findIn K (.ref C_Back) "__setattr__" = some (some (.builtin "object.__setattr__")))
    (mk_Back : PySem.W.makesIn K C_Back = true)
    (kc_Back : PySem.W.keepIn K (.ref C_Back) = true)
    (n_Back_box : PySem.W.findIn K (.ref C_Back) "box" = some none)
    (a31 : PySem.W.findIn K (.ref C_Back) "__init__" = some (some (.ref f31)))
    (i31 : PySem.W.isFn K (.ref f31) = true)
    (l31 : K.lookup f31 = some ⟨oc31, od31, .func (PySem.W.fnOf "__init__" "Back.__init__" (defArgs s_Back_init) (defBody s_Back_init) (defScope s_Back_init) .none kV31 dc31 pm31 an31 cd31 ct31), sl31⟩)
    (c31 : PySem.W.codeIn K cd31 "Back.__init__" = true) (k31 : PySem.W.keepIn K (.ref f31) = true)
    (a32 : PySem.W.findIn K (.ref C_Back) "height" = some (some (.ref f32)))
    (i32 : PySem.W.isFn K (.ref f32) = true)
    (l32 : K.lookup f32 = some ⟨oc32, od32, .func (PySem.W.fnOf "height" "Row.height" (defArgs s_Row_height) (defBody s_Row_height) (defScope s_Row_height) .none kV32 dc32 pm32 an32 cd32 ct32), sl32⟩)
    (c32 : PySem.W.codeIn K cd32 "Row.height" = true) (k32 : PySem.W.keepIn K (.ref f32) = true)
    (a33 : PySem.W.findIn K (.ref C_Back) "keeps" = some (some (.ref f33)))
    (i33 : PySem.W.isFn K (.ref f33) = true)
    (l33 : K.lookup f33 = some ⟨oc33, od33, .func (PySem.W.fnOf "keeps" "Row.keeps" (defArgs s_Row_keeps) (defBody s_Row_keeps) (defScope s_Row_keeps) .none kV33 dc33 pm33 an33 cd33 ct33), sl33⟩)
    (c33 : PySem.W.codeIn K cd33 "Row.keeps" = true) (k33 : PySem.W.keepIn K (.ref f33) = true)
    (pg_Get : PySem.W.plainGet K C_Get Str.empty = true)
    (hd_Get : PySem.W.hasDictIn K C_Get = true)
    (po_Get : PySem.W.plainOver K C_Get = true)
    (sa_Get : PySem.W.findIn K (.ref C_Get) "__setattr__" = some (some (.builtin "object.__setattr__")))
    (mk_Get : PySem.W.makesIn K C_Get = true)
    (kc_Get : PySem.W.keepIn K (.ref C_Get) = true)
    (n_Get_box : PySem.W.findIn K (.ref C_Get) "box" = some none)
    (n_Get_cell : PySem.W.findIn K (.ref C_Get) "cell" = some none)
    (a34 : PySem.W.findIn K (.ref C_Get) "__init__" = some (some (.ref f34)))
    (i34 : PySem.W.isFn K (.ref f34) = true)
    (l34 : K.lookup f34 = some ⟨oc34, od34, .func (PySem.W.fnOf "__init__" "Reaching.__init__" (defArgs s_Reaching_init) (defBody s_Reaching_init) (defScope s_Reaching_init) .none kV34 dc34 pm34 an34 cd34 ct34), sl34⟩)
    (c34 : PySem.W.codeIn K cd34 "Reaching.__init__" = true) (k34 : PySem.W.keepIn K (.ref f34) = true)
    (a35 : PySem.W.findIn K (.ref C_Get) "height" = some (some (.ref f35)))
    (i35 : PySem.W.isFn K (.ref f35) = true)
    (l35 : K.lookup f35 = some ⟨oc35, od35, .func (PySem.W.fnOf "height" "Reaching.height" (defArgs s_Reaching_height) (defBody s_Reaching_height) (defScope s_Reaching_height) .none kV35 dc35 pm35 an35 cd35 ct35), sl35⟩)
    (c35 : PySem.W.codeIn K cd35 "Reaching.height" = true) (k35 : PySem.W.keepIn K (.ref f35) = true)
    (a36 : PySem.W.findIn K (.ref C_Get) "keeps" = some (some (.ref f36)))
    (i36 : PySem.W.isFn K (.ref f36) = true)
    (l36 : K.lookup f36 = some ⟨oc36, od36, .func (PySem.W.fnOf "keeps" "Get.keeps" (defArgs s_Get_keeps) (defBody s_Get_keeps) (defScope s_Get_keeps) .none kV36 dc36 pm36 an36 cd36 ct36), sl36⟩)
    (c36 : PySem.W.codeIn K cd36 "Get.keeps" = true) (k36 : PySem.W.keepIn K (.ref f36) = true)
    (pg_Grow : PySem.W.plainGet K C_Grow Str.empty = true)
    (hd_Grow : PySem.W.hasDictIn K C_Grow = true)
    (po_Grow : PySem.W.plainOver K C_Grow = true)
    (sa_Grow : PySem.W.findIn K (.ref C_Grow) "__setattr__" = some (some (.builtin "object.__setattr__")))
    (mk_Grow : PySem.W.makesIn K C_Grow = true)
    (kc_Grow : PySem.W.keepIn K (.ref C_Grow) = true)
    (n_Grow_many : PySem.W.findIn K (.ref C_Grow) "many" = some none)
    (a37 : PySem.W.findIn K (.ref C_Grow) "__init__" = some (some (.ref f37)))
    (i37 : PySem.W.isFn K (.ref f37) = true)
    (l37 : K.lookup f37 = some ⟨oc37, od37, .func (PySem.W.fnOf "__init__" "Grow.__init__" (defArgs s_Grow_init) (defBody s_Grow_init) (defScope s_Grow_init) .none kV37 dc37 pm37 an37 cd37 ct37), sl37⟩)
    (c37 : PySem.W.codeIn K cd37 "Grow.__init__" = true) (k37 : PySem.W.keepIn K (.ref f37) = true)
    (a38 : PySem.W.findIn K (.ref C_Grow) "height" = some (some (.ref f38)))
    (i38 : PySem.W.isFn K (.ref f38) = true)
    (l38 : K.lookup f38 = some ⟨oc38, od38, .func (PySem.W.fnOf "height" "Grow.height" (defArgs s_Grow_height) (defBody s_Grow_height) (defScope s_Grow_height) .none kV38 dc38 pm38 an38 cd38 ct38), sl38⟩)
    (c38 : PySem.W.codeIn K cd38 "Grow.height" = true) (k38 : PySem.W.keepIn K (.ref f38) = true)
    (a39 : PySem.W.findIn K (.ref C_Grow) "keeps" = some (some (.ref f39)))
    (i39 : PySem.W.isFn K (.ref f39) = true)
    (l39 : K.lookup f39 = some ⟨oc39, od39, .func (PySem.W.fnOf "keeps" "Row.keeps" (defArgs s_Row_keeps) (defBody s_Row_keeps) (defScope s_Row_keeps) .none kV39 dc39 pm39 an39 cd39 ct39), sl39⟩)
    (c39 : PySem.W.codeIn K cd39 "Row.keeps" = true) (k39 : PySem.W.keepIn K (.ref f39) = true)
    (pg_Shrink : PySem.W.plainGet K C_Shrink Str.empty = true)
    (hd_Shrink : PySem.W.hasDictIn K C_Shrink = true)
    (po_Shrink : PySem.W.plainOver K C_Shrink = true)
    (sa_Shrink : PySem.W.findIn K (.ref C_Shrink) "__setattr__" = some (some (.builtin "object.__setattr__")))
    (mk_Shrink : PySem.W.makesIn K C_Shrink = true)
    (kc_Shrink : PySem.W.keepIn K (.ref C_Shrink) = true)
    (n_Shrink_many : PySem.W.findIn K (.ref C_Shrink) "many" = some none)
    (a40 : PySem.W.findIn K (.ref C_Shrink) "__init__" = some (some (.ref f40)))
    (i40 : PySem.W.isFn K (.ref f40) = true)
    (l40 : K.lookup f40 = some ⟨oc40, od40, .func (PySem.W.fnOf "__init__" "Shrink.__init__" (defArgs s_Shrink_init) (defBody s_Shrink_init) (defScope s_Shrink_init) .none kV40 dc40 pm40 an40 cd40 ct40), sl40⟩)
    (c40 : PySem.W.codeIn K cd40 "Shrink.__init__" = true) (k40 : PySem.W.keepIn K (.ref f40) = true)
    (a41 : PySem.W.findIn K (.ref C_Shrink) "height" = some (some (.ref f41)))
    (i41 : PySem.W.isFn K (.ref f41) = true)
    (l41 : K.lookup f41 = some ⟨oc41, od41, .func (PySem.W.fnOf "height" "Shrink.height" (defArgs s_Shrink_height) (defBody s_Shrink_height) (defScope s_Shrink_height) .none kV41 dc41 pm41 an41 cd41 ct41), sl41⟩)
    (c41 : PySem.W.codeIn K cd41 "Shrink.height" = true) (k41 : PySem.W.keepIn K (.ref f41) = true)
    (a42 : PySem.W.findIn K (.ref C_Shrink) "keeps" = some (some (.ref f42)))
    (i42 : PySem.W.isFn K (.ref f42) = true)
    (l42 : K.lookup f42 = some ⟨oc42, od42, .func (PySem.W.fnOf "keeps" "Shrink.keeps" (defArgs s_Shrink_keeps) (defBody s_Shrink_keeps) (defScope s_Shrink_keeps) .none kV42 dc42 pm42 an42 cd42 ct42), sl42⟩)
    (c42 : PySem.W.codeIn K cd42 "Shrink.keeps" = true) (k42 : PySem.W.keepIn K (.ref f42) = true)
    (pg_Put : PySem.W.plainGet K C_Put Str.empty = true)
    (hd_Put : PySem.W.hasDictIn K C_Put = true)
    (po_Put : PySem.W.plainOver K C_Put = true)
    (sa_Put : PySem.W.findIn K (.ref C_Put) "__setattr__" = some (some (.builtin "object.__setattr__")))
    (mk_Put : PySem.W.makesIn K C_Put = true)
    (kc_Put : PySem.W.keepIn K (.ref C_Put) = true)
    (n_Put_box : PySem.W.findIn K (.ref C_Put) "box" = some none)
    (n_Put_cell : PySem.W.findIn K (.ref C_Put) "cell" = some none)
    (a43 : PySem.W.findIn K (.ref C_Put) "__init__" = some (some (.ref f43)))
    (i43 : PySem.W.isFn K (.ref f43) = true)
    (l43 : K.lookup f43 = some ⟨oc43, od43, .func (PySem.W.fnOf "__init__" "Reaching.__init__" (defArgs s_Reaching_init) (defBody s_Reaching_init) (defScope s_Reaching_init) .none kV43 dc43 pm43 an43 cd43 ct43), sl43⟩)
    (c43 : PySem.W.codeIn K cd43 "Reaching.__init__" = true) (k43 : PySem.W.keepIn K (.ref f43) = true)
    (a44 : PySem.W.findIn K (.ref C_Put) "height" = some (some (.ref f44)))
    (i44 : PySem.W.isFn K (.ref f44) = true)
    (l44 : K.lookup f44 = some ⟨oc44, od44, .func (PySem.W.fnOf "height" "Reaching.height" (defArgs s_Reaching_height) (defBody s_Reaching_height) (defScope s_Reaching_height) .none kV44 dc44 pm44 an44 cd44 ct44), sl44⟩)
    (c44 : PySem.W.codeIn K cd44 "Reaching.height" = true) (k44 : PySem.W.keepIn K (.ref f44) = true)
    (a45 : PySem.W.findIn K (.ref C_Put) "keeps" = some (some (.ref f45)))
    (i45 : PySem.W.isFn K (.ref f45) = true)
    (l45 : K.lookup f45 = some ⟨oc45, od45, .func (PySem.W.fnOf "keeps" "Put.keeps" (defArgs s_Put_keeps) (defBody s_Put_keeps) (defScope s_Put_keeps) .none kV45 dc45 pm45 an45 cd45 ct45), sl45⟩)
    (c45 : PySem.W.codeIn K cd45 "Put.keeps" = true) (k45 : PySem.W.keepIn K (.ref f45) = true)
    (k_int_int : PySem.W.kitOne K (.type "int") (.type "int") = some true)
    (k_int_bool : PySem.W.kitOne K (.type "int") (.type "bool") = some false)
    (a46 : PySem.W.nsIn K mainGlobals "bounded" = some (some (.ref f46)))
    (l46 : K.lookup f46 = some ⟨oc46, od46, .func (PySem.W.fnOf "bounded" "bounded" (defArgs s_bounded) (defBody s_bounded) (defScope s_bounded) .none kV46 dc46 pm46 an46 cd46 ct46), sl46⟩)
    (c46 : PySem.W.codeIn K cd46 "bounded" = true) (k46 : PySem.W.keepIn K (.ref f46) = true)
    (a47 : PySem.W.nsIn K mainGlobals "box_place" = some (some (.ref f47)))
    (l47 : K.lookup f47 = some ⟨oc47, od47, .func (PySem.W.fnOf "box_place" "box_place" (defArgs s_box_place) (defBody s_box_place) (defScope s_box_place) .none kV47 dc47 pm47 an47 cd47 ct47), sl47⟩)
    (c47 : PySem.W.codeIn K cd47 "box_place" = true) (k47 : PySem.W.keepIn K (.ref f47) = true)
    (a48 : PySem.W.nsIn K mainGlobals "cell_place" = some (some (.ref f48)))
    (l48 : K.lookup f48 = some ⟨oc48, od48, .func (PySem.W.fnOf "cell_place" "cell_place" (defArgs s_cell_place) (defBody s_cell_place) (defScope s_cell_place) .none kV48 dc48 pm48 an48 cd48 ct48), sl48⟩)
    (c48 : PySem.W.codeIn K cd48 "cell_place" = true) (k48 : PySem.W.keepIn K (.ref f48) = true)
    (a49 : PySem.W.nsIn K mainGlobals "without" = some (some (.ref f49)))
    (l49 : K.lookup f49 = some ⟨oc49, od49, .func (PySem.W.fnOf "without" "without" (defArgs s_without) (defBody s_without) (defScope s_without) .none kV49 dc49 pm49 an49 cd49 ct49), sl49⟩)
    (c49 : PySem.W.codeIn K cd49 "without" = true) (k49 : PySem.W.keepIn K (.ref f49) = true)
    (a50 : PySem.W.nsIn K mainGlobals "filled" = some (some (.ref f50)))
    (l50 : K.lookup f50 = some ⟨oc50, od50, .func (PySem.W.fnOf "filled" "filled" (defArgs s_filled) (defBody s_filled) (defScope s_filled) .none kV50 dc50 pm50 an50 cd50 ct50), sl50⟩)
    (c50 : PySem.W.codeIn K cd50 "filled" = true) (k50 : PySem.W.keepIn K (.ref f50) = true)
    (a51 : PySem.W.nsIn K mainGlobals "_law_cell_at" = some (some (.ref f51)))
    (l51 : K.lookup f51 = some ⟨oc51, od51, .func (PySem.W.fnOf "_law_cell_at" "_law_cell_at" (defArgs s_law_cell_at) (defBody s_law_cell_at) (defScope s_law_cell_at) .none kV51 dc51 pm51 an51 cd51 ct51), sl51⟩)
    (c51 : PySem.W.codeIn K cd51 "_law_cell_at" = true) (k51 : PySem.W.keepIn K (.ref f51) = true)
    (a52 : PySem.W.nsIn K mainGlobals "_law_whole" = some (some (.ref f52)))
    (l52 : K.lookup f52 = some ⟨oc52, od52, .func (PySem.W.fnOf "_law_whole" "_law_whole" (defArgs s_law_whole) (defBody s_law_whole) (defScope s_law_whole) .none kV52 dc52 pm52 an52 cd52 ct52), sl52⟩)
    (c52 : PySem.W.codeIn K cd52 "_law_whole" = true) (k52 : PySem.W.keepIn K (.ref f52) = true)
    (a53 : PySem.W.nsIn K mainGlobals "_law_mixed" = some (some (.ref f53)))
    (l53 : K.lookup f53 = some ⟨oc53, od53, .func (PySem.W.fnOf "_law_mixed" "_law_mixed" (defArgs s_law_mixed) (defBody s_law_mixed) (defScope s_law_mixed) .none kV53 dc53 pm53 an53 cd53 ct53), sl53⟩)
    (c53 : PySem.W.codeIn K cd53 "_law_mixed" = true) (k53 : PySem.W.keepIn K (.ref f53) = true)
    (a54 : PySem.W.nsIn K mainGlobals "_law_filling" = some (some (.ref f54)))
    (l54 : K.lookup f54 = some ⟨oc54, od54, .func (PySem.W.fnOf "_law_filling" "_law_filling" (defArgs s_law_filling) (defBody s_law_filling) (defScope s_law_filling) .none kV54 dc54 pm54 an54 cd54 ct54), sl54⟩)
    (c54 : PySem.W.codeIn K cd54 "_law_filling" = true) (k54 : PySem.W.keepIn K (.ref f54) = true)
    (a55 : PySem.W.nsIn K mainGlobals "_law_going" = some (some (.ref f55)))
    (l55 : K.lookup f55 = some ⟨oc55, od55, .func (PySem.W.fnOf "_law_going" "_law_going" (defArgs s_law_going) (defBody s_law_going) (defScope s_law_going) .none kV55 dc55 pm55 an55 cd55 ct55), sl55⟩)
    (c55 : PySem.W.codeIn K cd55 "_law_going" = true) (k55 : PySem.W.keepIn K (.ref f55) = true)
    (a56 : PySem.W.nsIn K mainGlobals "_law_row" = some (some (.ref f56)))
    (l56 : K.lookup f56 = some ⟨oc56, od56, .func (PySem.W.fnOf "_law_row" "_law_row" (defArgs s_law_row) (defBody s_law_row) (defScope s_law_row) .none kV56 dc56 pm56 an56 cd56 ct56), sl56⟩)
    (c56 : PySem.W.codeIn K cd56 "_law_row" = true) (k56 : PySem.W.keepIn K (.ref f56) = true)
    (a57 : PySem.W.nsIn K mainGlobals "_law_due" = some (some (.ref f57)))
    (l57 : K.lookup f57 = some ⟨oc57, od57, .func (PySem.W.fnOf "_law_due" "_law_due" (defArgs s_law_due) (defBody s_law_due) (defScope s_law_due) .none kV57 dc57 pm57 an57 cd57 ct57), sl57⟩)
    (c57 : PySem.W.codeIn K cd57 "_law_due" = true) (k57 : PySem.W.keepIn K (.ref f57) = true)
    (a58 : PySem.W.nsIn K mainGlobals "law" = some (some (.ref f58)))
    (l58 : K.lookup f58 = some ⟨oc58, od58, .func (PySem.W.fnOf "law" "law" (defArgs s_law) (defBody s_law) (defScope s_law) .none kV58 dc58 pm58 an58 cd58 ct58), sl58⟩)
    (c58 : PySem.W.codeIn K cd58 "law" = true) (k58 : PySem.W.keepIn K (.ref f58) = true) :
    ∃ (a : Adr) (fd : FuncData), Txt K mg a ∧ Fun K "law" "law" s_law fa fd ∧ ∀ (s : Shared) (v : Value), BindsTo s fd ⟨[v], []⟩ [("_law_script", v)] := by
  have e := hfa.symm.trans (PySem.W.mg_of X G a58)
  cases e
  refine ⟨⟨0, C_Set, C_Copy, C_Add, C_Sub, C_Mul, C_Less, C_Grow, C_Shrink, C_Put, C_Get, C_Jump, C_Branch, C_Call, C_Back, C_Drop, 0, 0, 0, C_NoRow, 0, 0, 0, 0, 0, 0, 0, 0, 0, 0, 0, 0⟩, _, ?_, fun_mk (st := s_law) l58 c58 k58, fun s v => .of_eq rfl⟩
  exact {
    z_bool := PySem.W.mg_none_of X G z_bool
    z_int := PySem.W.mg_none_of X G z_int
    z_isinstance := PySem.W.mg_none_of X G z_isinstance
    z_len := PySem.W.mg_none_of X G z_len
    z_range := PySem.W.mg_none_of X G z_range
    z_sum := PySem.W.mg_none_of X G z_sum
    g_FIRST_CELL_BIT := ⟨_, PySem.W.mg_of X G g_FIRST_CELL_BIT⟩
    g_LOST_BY_CALL := ⟨_, PySem.W.mg_of X G g_LOST_BY_CALL⟩
    g_TOP_BOX := ⟨_, PySem.W.mg_of X G g_TOP_BOX⟩
    g_TOP_CELLS := ⟨_, PySem.W.mg_of X G g_TOP_CELLS⟩
    g_TOP_TARGET := ⟨_, PySem.W.mg_of X G g_TOP_TARGET⟩
    g_TOP_VALUE := ⟨_, PySem.W.mg_of X G g_TOP_VALUE⟩
    c_Add := PySem.W.mg_of X G c_Add
    c_Back := PySem.W.mg_of X G c_Back
    c_Branch := PySem.W.mg_of X G c_Branch
    c_Call := PySem.W.mg_of X G c_Call
    c_Copy := PySem.W.mg_of X G c_Copy
    c_Drop := PySem.W.mg_of X G c_Drop
    c_Get := PySem.W.mg_of X G c_Get
    c_Grow := PySem.W.mg_of X G c_Grow
    c_Jump := PySem.W.mg_of X G c_Jump
    c_Less := PySem.W.mg_of X G c_Less
    c_Mul := PySem.W.mg_of X G c_Mul
    c_NoRow := PySem.W.mg_of X G c_NoRow
    c_Put := PySem.W.mg_of X G c_Put
    c_Set := PySem.W.mg_of X G c_Set
    c_Shrink := PySem.W.mg_of X G c_Shrink
    c_Sub := PySem.W.mg_of X G c_Sub
    cl_Less := ⟨pg_Less, hd_Less, po_Less, sa_Less⟩
    n_Less_box := n_Less_box
    n_Less_one := n_Less_one
    n_Less_other := n_Less_other
    i_Less := ⟨_, _, fun_mk (st := s_Reckoning_init) l1 c1 k1, ⟨mk_Less, a1, i1, kc_Less⟩, (fun_mk (st := s_Reckoning_init) l1 c1 k1).binds (ps := ["self", "box", "one", "other"]) fun _ _ _ _ _ _ us hl => match us, hl with | [_, _, _, _], _ => rfl⟩
    m_Less_height := ⟨_, _, fun_mk (st := s_Row_height) l2 c2 k2, ⟨a2, i2, k2⟩, (fun_mk (st := s_Row_height) l2 c2 k2).binds (ps := ["self", "high"]) fun _ _ _ _ _ _ us hl => match us, hl with | [_, _], _ => rfl⟩
    m_Less_keeps := ⟨_, _, fun_mk (st := s_Reckoning_keeps) l3 c3 k3, ⟨a3, i3, k3⟩, (fun_mk (st := s_Reckoning_keeps) l3 c3 k3).binds (ps := ["self", "places", "high"]) fun _ _ _ _ _ _ us hl => match us, hl with | [_, _, _], _ => rfl⟩
    cl_Set := ⟨pg_Set, hd_Set, po_Set, sa_Set⟩
    n_Set_box := n_Set_box
    n_Set_number := n_Set_number
    i_Set := ⟨_, _, fun_mk (st := s_Set_init) l4 c4 k4, ⟨mk_Set, a4, i4, kc_Set⟩, (fun_mk (st := s_Set_init) l4 c4 k4).binds (ps := ["self", "box", "number"]) fun _ _ _ _ _ _ us hl => match us, hl with | [_, _, _], _ => rfl⟩
    m_Set_height := ⟨_, _, fun_mk (st := s_Row_height) l5 c5 k5, ⟨a5, i5, k5⟩, (fun_mk (st := s_Row_height) l5 c5 k5).binds (ps := ["self", "high"]) fun _ _ _ _ _ _ us hl => match us, hl with | [_, _], _ => rfl⟩
    m_Set_keeps := ⟨_, _, fun_mk (st := s_Set_keeps) l6 c6 k6, ⟨a6, i6, k6⟩, (fun_mk (st := s_Set_keeps) l6 c6 k6).binds (ps := ["self", "places", "high"]) fun _ _ _ _ _ _ us hl => match us, hl with | [_, _, _], _ => rfl⟩
    cl_Copy := ⟨pg_Copy, hd_Copy, po_Copy, sa_Copy⟩
    n_Copy_box := n_Copy_box
    n_Copy_one := n_Copy_one
    i_Copy := ⟨_, _, fun_mk (st := s_Copy_init) l7 c7 k7, ⟨mk_Copy, a7, i7, kc_Copy⟩, (fun_mk (st := s_Copy_init) l7 c7 k7).binds (ps := ["self", "box", "one"]) fun _ _ _ _ _ _ us hl => match us, hl with | [_, _, _], _ => rfl⟩
    m_Copy_height := ⟨_, _, fun_mk (st := s_Row_height) l8 c8 k8, ⟨a8, i8, k8⟩, (fun_mk (st := s_Row_height) l8 c8 k8).binds (ps := ["self", "high"]) fun _ _ _ _ _ _ us hl => match us, hl with | [_, _], _ => rfl⟩
    m_Copy_keeps := ⟨_, _, fun_mk (st := s_Copy_keeps) l9 c9 k9, ⟨a9, i9, k9⟩, (fun_mk (st := s_Copy_keeps) l9 c9 k9).binds (ps := ["self", "places", "high"]) fun _ _ _ _ _ _ us hl => match us, hl with | [_, _, _], _ => rfl⟩
    cl_Add := ⟨pg_Add, hd_Add, po_Add, sa_Add⟩
    n_Add_box := n_Add_box
    n_Add_one := n_Add_one
    n_Add_other := n_Add_other
    i_Add := ⟨_, _, fun_mk (st := s_Reckoning_init) l10 c10 k10, ⟨mk_Add, a10, i10, kc_Add⟩, (fun_mk (st := s_Reckoning_init) l10 c10 k10).binds (ps := ["self", "box", "one", "other"]) fun _ _ _ _ _ _ us hl => match us, hl with | [_, _, _, _], _ => rfl⟩
    m_Add_height := ⟨_, _, fun_mk (st := s_Row_height) l11 c11 k11, ⟨a11, i11, k11⟩, (fun_mk (st := s_Row_height) l11 c11 k11).binds (ps := ["self", "high"]) fun _ _ _ _ _ _ us hl => match us, hl with | [_, _], _ => rfl⟩
    m_Add_keeps := ⟨_, _, fun_mk (st := s_Reckoning_keeps) l12 c12 k12, ⟨a12, i12, k12⟩, (fun_mk (st := s_Reckoning_keeps) l12 c12 k12).binds (ps := ["self", "places", "high"]) fun _ _ _ _ _ _ us hl => match us, hl with | [_, _, _], _ => rfl⟩
    cl_Sub := ⟨pg_Sub, hd_Sub, po_Sub, sa_Sub⟩
    n_Sub_box := n_Sub_box
    n_Sub_one := n_Sub_one
    n_Sub_other := n_Sub_other
    i_Sub := ⟨_, _, fun_mk (st := s_Reckoning_init) l13 c13 k13, ⟨mk_Sub, a13, i13, kc_Sub⟩, (fun_mk (st := s_Reckoning_init) l13 c13 k13).binds (ps := ["self", "box", "one", "other"]) fun _ _ _ _ _ _ us hl => match us, hl with | [_, _, _, _], _ => rfl⟩
    m_Sub_height := ⟨_, _, fun_mk (st := s_Row_height) l14 c14 k14, ⟨a14, i14, k14⟩, (fun_mk (st := s_Row_height) l14 c14 k14).binds (ps := ["self", "high"]) fun _ _ _ _ _ _ us hl => match us, hl with | [_, _], _ => rfl⟩
    m_Sub_keeps := ⟨_, _, fun_mk (st := s_Reckoning_keeps) l15 c15 k15, ⟨a15, i15, k15⟩, (fun_mk (st := s_Reckoning_keeps) l15 c15 k15).binds (ps := ["self", "places", "high"]) fun _ _ _ _ _ _ us hl => match us, hl with | [_, _, _], _ => rfl⟩
    cl_Mul := ⟨pg_Mul, hd_Mul, po_Mul, sa_Mul⟩
    n_Mul_box := n_Mul_box
    n_Mul_one := n_Mul_one
    n_Mul_other := n_Mul_other
    i_Mul := ⟨_, _, fun_mk (st := s_Reckoning_init) l16 c16 k16, ⟨mk_Mul, a16, i16, kc_Mul⟩, (fun_mk (st := s_Reckoning_init) l16 c16 k16).binds (ps := ["self", "box", "one", "other"]) fun _ _ _ _ _ _ us hl => match us, hl with | [_, _, _, _], _ => rfl⟩
    m_Mul_height := ⟨_, _, fun_mk (st := s_Row_height) l17 c17 k17, ⟨a17, i17, k17⟩, (fun_mk (st := s_Row_height) l17 c17 k17).binds (ps := ["self", "high"]) fun _ _ _ _ _ _ us hl => match us, hl with | [_, _], _ => rfl⟩
    m_Mul_keeps := ⟨_, _, fun_mk (st := s_Reckoning_keeps) l18 c18 k18, ⟨a18, i18, k18⟩, (fun_mk (st := s_Reckoning_keeps) l18 c18 k18).binds (ps := ["self", "places", "high"]) fun _ _ _ _ _ _ us hl => match us, hl with | [_, _, _], _ => rfl⟩
    cl_Drop := ⟨pg_Drop, hd_Drop, po_Drop, sa_Drop⟩
    n_Drop_box := n_Drop_box
    i_Drop := ⟨_, _, fun_mk (st := s_Drop_init) l19 c19 k19, ⟨mk_Drop, a19, i19, kc_Drop⟩, (fun_mk (st := s_Drop_init) l19 c19 k19).binds (ps := ["self", "box"]) fun _ _ _ _ _ _ us hl => match us, hl with | [_, _], _ => rfl⟩
    m_Drop_height := ⟨_, _, fun_mk (st := s_Row_height) l20 c20 k20, ⟨a20, i20, k20⟩, (fun_mk (st := s_Row_height) l20 c20 k20).binds (ps := ["self", "high"]) fun _ _ _ _ _ _ us hl => match us, hl with | [_, _], _ => rfl⟩
    m_Drop_keeps := ⟨_, _, fun_mk (st := s_Row_keeps) l21 c21 k21, ⟨a21, i21, k21⟩, (fun_mk (st := s_Row_keeps) l21 c21 k21).binds (ps := ["self", "places", "high"]) fun _ _ _ _ _ _ us hl => match us, hl with | [_, _, _], _ => rfl⟩
    cl_Jump := ⟨pg_Jump, hd_Jump, po_Jump, sa_Jump⟩
    n_Jump_target := n_Jump_target
    i_Jump := ⟨_, _, fun_mk (st := s_Jump_init) l22 c22 k22, ⟨mk_Jump, a22, i22, kc_Jump⟩, (fun_mk (st := s_Jump_init) l22 c22 k22).binds (ps := ["self", "target"]) fun _ _ _ _ _ _ us hl => match us, hl with | [_, _], _ => rfl⟩
    m_Jump_height := ⟨_, _, fun_mk (st := s_Row_height) l23 c23 k23, ⟨a23, i23, k23⟩, (fun_mk (st := s_Row_height) l23 c23 k23).binds (ps := ["self", "high"]) fun _ _ _ _ _ _ us hl => match us, hl with | [_, _], _ => rfl⟩
    m_Jump_keeps := ⟨_, _, fun_mk (st := s_Row_keeps) l24 c24 k24, ⟨a24, i24, k24⟩, (fun_mk (st := s_Row_keeps) l24 c24 k24).binds (ps := ["self", "places", "high"]) fun _ _ _ _ _ _ us hl => match us, hl with | [_, _, _], _ => rfl⟩
    cl_Branch := ⟨pg_Branch, hd_Branch, po_Branch, sa_Branch⟩
    n_Branch_box := n_Branch_box
    n_Branch_target := n_Branch_target
    i_Branch := ⟨_, _, fun_mk (st := s_Branch_init) l25 c25 k25, ⟨mk_Branch, a25, i25, kc_Branch⟩, (fun_mk (st := s_Branch_init) l25 c25 k25).binds (ps := ["self", "box", "target"]) fun _ _ _ _ _ _ us hl => match us, hl with | [_, _, _], _ => rfl⟩
    m_Branch_height := ⟨_, _, fun_mk (st := s_Row_height) l26 c26 k26, ⟨a26, i26, k26⟩, (fun_mk (st := s_Row_height) l26 c26 k26).binds (ps := ["self", "high"]) fun _ _ _ _ _ _ us hl => match us, hl with | [_, _], _ => rfl⟩
    m_Branch_keeps := ⟨_, _, fun_mk (st := s_Row_keeps) l27 c27 k27, ⟨a27, i27, k27⟩, (fun_mk (st := s_Row_keeps) l27 c27 k27).binds (ps := ["self", "places", "high"]) fun _ _ _ _ _ _ us hl => match us, hl with | [_, _, _], _ => rfl⟩
    cl_Call := ⟨pg_Call, hd_Call, po_Call, sa_Call⟩
    n_Call_target := n_Call_target
    i_Call := ⟨_, _, fun_mk (st := s_Call_init) l28 c28 k28, ⟨mk_Call, a28, i28, kc_Call⟩, (fun_mk (st := s_Call_init) l28 c28 k28).binds (ps := ["self", "target"]) fun _ _ _ _ _ _ us hl => match us, hl with | [_, _], _ => rfl⟩
    m_Call_height := ⟨_, _, fun_mk (st := s_Row_height) l29 c29 k29, ⟨a29, i29, k29⟩, (fun_mk (st := s_Row_height) l29 c29 k29).binds (ps := ["self", "high"]) fun _ _ _ _ _ _ us hl => match us, hl with | [_, _], _ => rfl⟩
    m_Call_keeps := ⟨_, _, fun_mk (st := s_Call_keeps) l30 c30 k30, ⟨a30, i30, k30⟩, (fun_mk (st := s_Call_keeps) l30 c30 k30).binds (ps := ["self", "places", "high"]) fun _ _ _ _ _ _ us hl => match us, hl with | [_, _, _], _ => rfl⟩
    cl_Back := ⟨pg_Back, hd_Back, po_Back, sa_Back⟩
    n_Back_box := n_Back_box
    i_Back := ⟨_, _, fun_mk (st := s_Back_init) l31 c31 k31, ⟨mk_Back, a31, i31, kc_Back⟩, (fun_mk (st := s_Back_init) l31 c31 k31).binds (ps := ["self", "box"]) fun _ _ _ _ _ _ us hl => match us, hl with | [_, _], _ => rfl⟩
    m_Back_height := ⟨_, _, fun_mk (st := s_Row_height) l32 c32 k32, ⟨a32, i32, k32⟩, (fun_mk (st := s_Row_height) l32 c32 k32).binds (ps := ["self", "high"]) fun _ _ _ _ _ _ us hl => match us, hl with | [_, _], _ => rfl⟩
    m_Back_keeps := ⟨_, _, fun_mk (st := s_Row_keeps) l33 c33 k33, ⟨a33, i33, k33⟩, (fun_mk (st := s_Row_keeps) l33 c33 k33).binds (ps := ["self", "places", "high"]) fun _ _ _ _ _ _ us hl => match us, hl with | [_, _, _], _ => rfl⟩
    cl_Get := ⟨pg_Get, hd_Get, po_Get, sa_Get⟩
    n_Get_box := n_Get_box
    n_Get_cell := n_Get_cell
    i_Get := ⟨_, _, fun_mk (st := s_Reaching_init) l34 c34 k34, ⟨mk_Get, a34, i34, kc_Get⟩, (fun_mk (st := s_Reaching_init) l34 c34 k34).binds (ps := ["self", "box", "cell"]) fun _ _ _ _ _ _ us hl => match us, hl with | [_, _, _], _ => rfl⟩
    m_Get_height := ⟨_, _, fun_mk (st := s_Reaching_height) l35 c35 k35, ⟨a35, i35, k35⟩, (fun_mk (st := s_Reaching_height) l35 c35 k35).binds (ps := ["self", "high"]) fun _ _ _ _ _ _ us hl => match us, hl with | [_, _], _ => rfl⟩
    m_Get_keeps := ⟨_, _, fun_mk (st := s_Get_keeps) l36 c36 k36, ⟨a36, i36, k36⟩, (fun_mk (st := s_Get_keeps) l36 c36 k36).binds (ps := ["self", "places", "high"]) fun _ _ _ _ _ _ us hl => match us, hl with | [_, _, _], _ => rfl⟩
    cl_Grow := ⟨pg_Grow, hd_Grow, po_Grow, sa_Grow⟩
    n_Grow_many := n_Grow_many
    i_Grow := ⟨_, _, fun_mk (st := s_Grow_init) l37 c37 k37, ⟨mk_Grow, a37, i37, kc_Grow⟩, (fun_mk (st := s_Grow_init) l37 c37 k37).binds (ps := ["self", "many"]) fun _ _ _ _ _ _ us hl => match us, hl with | [_, _], _ => rfl⟩
    m_Grow_height := ⟨_, _, fun_mk (st := s_Grow_height) l38 c38 k38, ⟨a38, i38, k38⟩, (fun_mk (st := s_Grow_height) l38 c38 k38).binds (ps := ["self", "high"]) fun _ _ _ _ _ _ us hl => match us, hl with | [_, _], _ => rfl⟩
    m_Grow_keeps := ⟨_, _, fun_mk (st := s_Row_keeps) l39 c39 k39, ⟨a39, i39, k39⟩, (fun_mk (st := s_Row_keeps) l39 c39 k39).binds (ps := ["self", "places", "high"]) fun _ _ _ _ _ _ us hl => match us, hl with | [_, _, _], _ => rfl⟩
    cl_Shrink := ⟨pg_Shrink, hd_Shrink, po_Shrink, sa_Shrink⟩
    n_Shrink_many := n_Shrink_many
    i_Shrink := ⟨_, _, fun_mk (st := s_Shrink_init) l40 c40 k40, ⟨mk_Shrink, a40, i40, kc_Shrink⟩, (fun_mk (st := s_Shrink_init) l40 c40 k40).binds (ps := ["self", "many"]) fun _ _ _ _ _ _ us hl => match us, hl with | [_, _], _ => rfl⟩
    m_Shrink_height := ⟨_, _, fun_mk (st := s_Shrink_height) l41 c41 k41, ⟨a41, i41, k41⟩, (fun_mk (st := s_Shrink_height) l41 c41 k41).binds (ps := ["self", "high"]) fun _ _ _ _ _ _ us hl => match us, hl with | [_, _], _ => rfl⟩
    m_Shrink_keeps := ⟨_, _, fun_mk (st := s_Shrink_keeps) l42 c42 k42, ⟨a42, i42, k42⟩, (fun_mk (st := s_Shrink_keeps) l42 c42 k42).binds (ps := ["self", "places", "high"]) fun _ _ _ _ _ _ us hl => match us, hl with | [_, _, _], _ => rfl⟩
    cl_Put := ⟨pg_Put, hd_Put, po_Put, sa_Put⟩
    n_Put_box := n_Put_box
    n_Put_cell := n_Put_cell
    i_Put := ⟨_, _, fun_mk (st := s_Reaching_init) l43 c43 k43, ⟨mk_Put, a43, i43, kc_Put⟩, (fun_mk (st := s_Reaching_init) l43 c43 k43).binds (ps := ["self", "box", "cell"]) fun _ _ _ _ _ _ us hl => match us, hl with | [_, _, _], _ => rfl⟩
    m_Put_height := ⟨_, _, fun_mk (st := s_Reaching_height) l44 c44 k44, ⟨a44, i44, k44⟩, (fun_mk (st := s_Reaching_height) l44 c44 k44).binds (ps := ["self", "high"]) fun _ _ _ _ _ _ us hl => match us, hl with | [_, _], _ => rfl⟩
    m_Put_keeps := ⟨_, _, fun_mk (st := s_Put_keeps) l45 c45 k45, ⟨a45, i45, k45⟩, (fun_mk (st := s_Put_keeps) l45 c45 k45).binds (ps := ["self", "places", "high"]) fun _ _ _ _ _ _ us hl => match us, hl with | [_, _, _], _ => rfl⟩
    k_int_int := k_int_int
    k_int_bool := k_int_bool
    fn_bounded := ⟨_, _, fun_mk (st := s_bounded) l46 c46 k46, PySem.W.mg_of X G a46, (fun_mk (st := s_bounded) l46 c46 k46).binds (ps := ["number", "top"]) fun _ _ _ _ _ _ us hl => match us, hl with | [_, _], _ => rfl⟩
    fn_box_place := ⟨_, _, fun_mk (st := s_box_place) l47 c47 k47, PySem.W.mg_of X G a47, (fun_mk (st := s_box_place) l47 c47 k47).binds (ps := ["box"]) fun _ _ _ _ _ _ us hl => match us, hl with | [_], _ => rfl⟩
    fn_cell_place := ⟨_, _, fun_mk (st := s_cell_place) l48 c48 k48, PySem.W.mg_of X G a48, (fun_mk (st := s_cell_place) l48 c48 k48).binds (ps := ["cell", "high"]) fun _ _ _ _ _ _ us hl => match us, hl with | [_, _], _ => rfl⟩
    fn_without := ⟨_, _, fun_mk (st := s_without) l49 c49 k49, PySem.W.mg_of X G a49, (fun_mk (st := s_without) l49 c49 k49).binds (ps := ["places", "place"]) fun _ _ _ _ _ _ us hl => match us, hl with | [_, _], _ => rfl⟩
    fn_filled := ⟨_, _, fun_mk (st := s_filled) l50 c50 k50, PySem.W.mg_of X G a50, (fun_mk (st := s_filled) l50 c50 k50).binds (ps := ["places", "place", "source"]) fun _ _ _ _ _ _ us hl => match us, hl with | [_, _, _], _ => rfl⟩
    fn_law_cell_at := ⟨_, _, fun_mk (st := s_law_cell_at) l51 c51 k51, PySem.W.mg_of X G a51, (fun_mk (st := s_law_cell_at) l51 c51 k51).binds (ps := ["_law_script", "_law_k"]) fun _ _ _ _ _ _ us hl => match us, hl with | [_, _], _ => rfl⟩
    fn_law_whole := ⟨_, _, fun_mk (st := s_law_whole) l52 c52 k52, PySem.W.mg_of X G a52, (fun_mk (st := s_law_whole) l52 c52 k52).binds (ps := ["_law_found"]) fun _ _ _ _ _ _ us hl => match us, hl with | [_], _ => rfl⟩
    fn_law_mixed := ⟨_, _, fun_mk (st := s_law_mixed) l53 c53 k53, PySem.W.mg_of X G a53, (fun_mk (st := s_law_mixed) l53 c53 k53).binds (ps := ["_law_cell", "_law_k"]) fun _ _ _ _ _ _ us hl => match us, hl with | [_, _], _ => rfl⟩
    fn_law_filling := ⟨_, _, fun_mk (st := s_law_filling) l54 c54 k54, PySem.W.mg_of X G a54, (fun_mk (st := s_law_filling) l54 c54 k54).binds (ps := ["_law_kind", "_law_box", "_law_one", "_law_cell"]) fun _ _ _ _ _ _ us hl => match us, hl with | [_, _, _, _], _ => rfl⟩
    fn_law_going := ⟨_, _, fun_mk (st := s_law_going) l55 c55 k55, PySem.W.mg_of X G a55, (fun_mk (st := s_law_going) l55 c55 k55).binds (ps := ["_law_kind", "_law_box", "_law_cell"]) fun _ _ _ _ _ _ us hl => match us, hl with | [_, _, _], _ => rfl⟩
    fn_law_row := ⟨_, _, fun_mk (st := s_law_row) l56 c56 k56, PySem.W.mg_of X G a56, (fun_mk (st := s_law_row) l56 c56 k56).binds (ps := ["_law_kind", "_law_box", "_law_one", "_law_many", "_law_cell"]) fun _ _ _ _ _ _ us hl => match us, hl with | [_, _, _, _, _], _ => rfl⟩
    fn_law_due := ⟨_, _, fun_mk (st := s_law_due) l57 c57 k57, PySem.W.mg_of X G a57, (fun_mk (st := s_law_due) l57 c57 k57).binds (ps := ["_law_kind", "_law_box", "_law_one", "_law_many", "_law_high", "_law_places"]) fun _ _ _ _ _ _ us hl => match us, hl with | [_, _, _, _, _, _], _ => rfl⟩
    fn_law := ⟨_, _, fun_mk (st := s_law) l58 c58 k58, PySem.W.mg_of X G a58, (fun_mk (st := s_law) l58 c58 k58).binds (ps := ["_law_script"]) fun _ _ _ _ _ _ us hl => match us, hl with | [_], _ => rfl⟩ }
theorem walk {l : PySem.W.OpenLaw} {q : Program} {loose : List Str} {XP : (Str → Option Value) → Heap → Prop} {YP : World → Heap → Prop} {d : DefRec} {K : Params → PySem.W.Frag} (hn : l.most = some 63) (hdf : d.params.defaults = [])
    (hY : ∀ (w : World) (h : Heap), YP w h → (K w.params).In h)
    (F : ∀ (w : World) (mg : Str → Option Value) (fa : Addr) (h : Heap), (K w.params).In h → h.Ns mainGlobals mg → mg d.name = some (.ref fa) →
      ∃ fd : FuncData, (∀ (s : Shared) (u : Value), BindsTo s fd ⟨[u], []⟩ [("_law_script", u)]) ∧ ∀ base : Heap, (K w.params).In base → base.Ns mainGlobals mg → FnOk l.prog w (K w.params) mg base CX0 6 fa fd ["_law_script"] (spLaw (K w.params))) :
    PySem.W.WalkO q loose XP YP l.row.toRowW d [] (fun f vs => PySem.call f vs) :=
  L2.walk_of (n := 63) (k := 6) (x := "_law_script") (CX := fun _ => CX0) (sp := fun w => spLaw (K w.params)) hn (by decide) hdf ⟨rfl, by decide, by decide⟩ hY F (fun _ _ a ns hl _ hS => ⟨a, ns, rfl, hS, hl, fun _ => rfl⟩) fun _ _ _ _ _ z => z
end FB
def PySem.W.Fast.tw3647201108867401791 : Nat := 0
def PySem.W.Fast.tw17991704960209518967 : Nat := 0
def PySem.W.Fast.tw16806539455972376833 : Nat := 0
def PySem.W.Fast.tw14661449004051006302 : Nat := 0
def PySem.W.Fast.tw6886578162072643409 : Nat := 0
def PySem.W.Fast.tw12896533255297885019 : Nat := 0
def PySem.W.Fast.tw16772495106638557644 : Nat := 0
def PySem.W.Fast.tw4675767960105389741 : Nat := 0
def PySem.W.Fast.tw5662677219397142948 : Nat := 0
def PySem.W.Fast.tw5642293794001489423 : Nat := 0
def PySem.W.Fast.tw5463572944747288235 : Nat := 0
def PySem.W.Fast.tw18379750254356140234 : Nat := 0
def PySem.W.Fast.tw12225666849727369848 : Nat := 0
def PySem.W.Fast.tw4148056391283100363 : Nat := 0
def PySem.W.Fast.tw16457888534201537929 : Nat := 0
def PySem.W.Fast.tw17929550164659889724 : Nat := 0
def PySem.W.Fast.tw5999871100854246547 : Nat := 0
def PySem.W.Fast.tw11051594603816802435 : Nat := 0
def PySem.W.Fast.tw6549424027664455087 : Nat := 0
def PySem.W.Fast.tw13046316535075583960 : Nat := 0
def PySem.W.Fast.tw3048142286852733041 : Nat := 0
def PySem.W.Fast.tw10761414641150533415 : Nat := 0
def PySem.W.Fast.tw4641631084268104946 : Nat := 0
def PySem.W.Fast.tw704764454387311099 : Nat := 0
def PySem.W.Fast.tw17351590584260262730 : Nat := 0
def PySem.W.Fast.tw718521474819264770 : Nat := 0
def PySem.W.Fast.tw1848997734300029620 : Nat := 0
def PySem.W.Fast.tw9716217984092409250 : Nat := 0
def PySem.W.Fast.tw8942851112481653079 : Nat := 0
def PySem.W.Fast.tw7470496787510240356 : Nat := 0
def PySem.W.Fast.tw1690026001794240402 : Nat := 0
def PySem.W.Fast.tw9986636512056414365 : Nat := 0
def PySem.W.Fast.tw7820911481075400233 : Nat := 0
def PySem.W.Fast.tw15734782416165687306 : Nat := 0
def PySem.W.Fast.tw11323470007632325896 : Nat := 0
def PySem.W.Fast.tw4396419985842503311 : Nat := 0
def PySem.W.Fast.tw13329428760782303505 : Nat := 0
def PySem.W.Fast.tw15043289243669347282 : Nat := 0
def PySem.W.Fast.tw2943627663495204655 : Nat := 0
def PySem.W.Fast.tw3471328743713018762 : Nat := 0
def PySem.W.Fast.tw13260974966249903273 : Nat := 0
def PySem.W.Fast.tw759622976544227373 : Nat := 0
def PySem.W.Fast.tw1570191890124954013 : Nat := 0
def PySem.W.Fast.tw7208425016048450226 : Nat := 0
def PySem.W.Fast.tw14797541934088050128 : Nat := 0
def PySem.W.Fast.tw8422564781165947367 : Nat := 0
def PySem.W.Fast.tw15245429275130767920 : Nat := 0
def PySem.W.Fast.tw1306142674501483352 : Nat := 0
def PySem.W.Fast.tw10054517393046947247 : Nat := 0
def PySem.W.Fast.tw13818168142054730631 : Nat := 0
def PySem.W.Fast.tw11474620306307747927 : Nat := 0
def PySem.W.Fast.tw5962262304488234635 : Nat := 0
def PySem.W.Fast.tw260898998554371063 : Nat := 0
def PySem.W.Fast.tw12999155229525957770 : Nat := 0
def PySem.W.Fast.tw18413168240389181338 : Nat := 0
def PySem.W.Fast.tw9250315036008073719 : Nat := 0
def PySem.W.Fast.tw6807191944761560850 : Nat := 0
def PySem.W.Fast.tw761207519444285437 : Nat := 0
def PySem.W.Fast.tw10450233364484563945 : Nat := 0
def PySem.W.Fast.tw2399417952117681986 : Nat := 0
def PySem.W.Fast.tw6746295190756951206 : Nat := 0
def PySem.W.Fast.tw6119117840902635321 : Nat := 0
def PySem.W.Fast.tw4903444404720259330 : Nat := 0
def PySem.W.Fast.tw7308599027111052039 : Nat := 0
def PySem.W.Fast.tw17495932425045697787 : Nat := 0
def PySem.W.Fast.tw15475736355137846644 : Nat := 0
def PySem.W.Fast.tw18053716800626834553 : Nat := 0
def PySem.W.Fast.tw6967326676056996454 : Nat := 0
def PySem.W.Fast.tw7547866249498877701 : Nat := 0
def PySem.W.Fast.tw3299805100104658266 : Nat := 0
def PySem.W.Fast.tw15672595317347989692 : Nat := 0
def PySem.W.Fast.tw6221214365207478006 : Nat := 0
def PySem.W.Fast.tw5232048226285821176 : Nat := 0
def PySem.W.Fast.tw461020510094498733 : Nat := 0
def PySem.W.Fast.tw2098125040038488916 : Nat := 0
def PySem.W.Fast.tw17750061390178154257 : Nat := 0
def PySem.W.Fast.tw11731135858057911244 : Nat := 0
def PySem.W.Fast.tw2030923995817586320 : Nat := 0
def PySem.W.Fast.tw9383378380983772548 : Nat := 0
def PySem.W.Fast.tw9689190463357784206 : Nat := 0
def PySem.W.Fast.tw9873137171463064495 : Nat := 0
def PySem.W.Fast.tw17558453357541641708 : Nat := 0
def PySem.W.Fast.tw484274459850307230 : Nat := 0
def PySem.W.Fast.tw8588283004841969261 : Nat := 0
def PySem.W.Fast.tw10198583328550961233 : Nat := 0
def PySem.W.Fast.tw767818626295682637 : Nat := 0
def PySem.W.Fast.tw15710132452170112750 : Nat := 0
def PySem.W.Fast.tw9218180551635905662 : Nat := 0
def PySem.W.Fast.tw4852961108912023851 : Nat := 0
def PySem.W.Fast.tw8498743241022593749 : Nat := 0
def PySem.W.Fast.tw6321430117649487678 : Nat := 0
def PySem.W.Fast.tw12428468354249112539 : Nat := 0
def PySem.W.Fast.tw6547546851887902196 : Nat := 0
def PySem.W.Fast.tw5434712802690200448 : Nat := 0
def PySem.W.Fast.tw1022358834109005737 : Nat := 0
def PySem.W.Fast.tw8543691337698792489 : Nat := 0
def PySem.W.Fast.tw4665949731242777020 : Nat := 0
def PySem.W.Fast.tw5355336393511167967 : Nat := 0
def PySem.W.Fast.tw7092536726068713456 : Nat := 0
def PySem.W.Fast.tw12136830743087866484 : Nat := 0
def PySem.W.Fast.tw10474512518118989495 : Nat := 0
def PySem.W.Fast.tw7257826147352062924 : Nat := 0
def PySem.W.Fast.tw10376348044829320647 : Nat := 0
def PySem.W.Fast.tw13862652395590002014 : Nat := 0
def PySem.W.Fast.tw11583687075575560354 : Nat := 0
def PySem.W.Fast.tw13959534276879267934 : Nat := 0
def PySem.W.Fast.tw15916165008293167712 : Nat := 0
def PySem.W.Fast.tw5899850330731020328 : Nat := 0
def PySem.W.Fast.tw8740326736531358793 : Nat := 0
def PySem.W.Fast.tw2832351902339048401 : Nat := 0
def PySem.W.Fast.tw12959134392448429705 : Nat := 0
def PySem.W.Fast.tw556101653137858780 : Nat := 0
def PySem.W.Fast.tw16239040636054280035 : Nat := 0
def PySem.W.Fast.tw10638114836850206514 : Nat := 0
def PySem.W.Fast.tw2820394686803416799 : Nat := 0
def PySem.W.Fast.tw6862721663810675830 : Nat := 0
def PySem.W.Fast.tw5331757079245673416 : Nat := 0
def PySem.W.Fast.tw13736680868003336116 : Nat := 0
def PySem.W.Fast.tw8600061590997515661 : Nat := 0
def PySem.W.Fast.tw6507384512356187605 : Nat := 0
def PySem.W.Fast.tw4080335069015707772 : Nat := 0
def PySem.W.Fast.tw11093131506622055514 : Nat := 0
def PySem.W.Fast.tw13457147049031431252 : Nat := 0
def PySem.W.Fast.tw16426455137735667128 : Nat := 0
def PySem.W.Fast.tw14194163057004263301 : Nat := 0
def PySem.W.Fast.tw11690601190830312882 : Nat := 0
def PySem.W.Fast.tw2369304177905218661 : Nat := 0
def PySem.W.Fast.tw14638004562686324211 : Nat := 0
def PySem.W.Fast.tw6572592710893396277 : Nat := 0
def PySem.W.Fast.tw4506184176569475902 : Nat := 0
def PySem.W.Fast.tw9239176065424653456 : Nat := 0
def PySem.W.Fast.tw4601063580929850808 : Nat := 0
def PySem.W.Fast.tw2023060038768628943 : Nat := 0
def PySem.W.Fast.tw6468847190329323951 : Nat := 0
def PySem.W.Fast.tw7641843548278685257 : Nat := 0
def PySem.W.Fast.tw8484412352302352995 : Nat := 0
def PySem.W.Fast.tw10941368957608435344 : Nat := 0
def PySem.W.Fast.tw14350254757563015409 : Nat := 0
def PySem.W.Fast.tw6400250061633300272 : Nat := 0
def PySem.W.Fast.tw6511206621154033001 : Nat := 0
def PySem.W.Fast.tw8868594666737271886 : Nat := 0
def PySem.W.Fast.tw17062649019180918826 : Nat := 0
def PySem.W.Fast.tw7954039808139632266 : Nat := 0
def PySem.W.Fast.tw17348717042930385069 : Nat := 0
def PySem.W.Fast.tw16200206091935741099 : Nat := 0
def PySem.W.Fast.tw14841597908167059512 : Nat := 0
def PySem.W.Fast.tw9186272069228124328 : Nat := 0
def PySem.W.Fast.tw1591354190982844083 : Nat := 0
def PySem.W.Fast.tw13271601654473234123 : Nat := 0
def PySem.W.Fast.tw269057930087442331 : Nat := 0
def PySem.W.Fast.tw3209814334515032173 : Nat := 0
def PySem.W.Fast.tw4436879476643945898 : Nat := 0
def PySem.W.Fast.tw3061128886505884613 : Nat := 0
def PySem.W.Fast.tw15687362779759695617 : Nat := 0
def PySem.W.Fast.tw17490798337214247083 : Nat := 0
def PySem.W.Fast.tw10365005121510140257 : Nat := 0
def PySem.W.Fast.tw15699935718131883049 : Nat := 0
def PySem.W.Fast.tw17204526963795706247 : Nat := 0
def PySem.W.Fast.tw3199103327158836042 : Nat := 0
def PySem.W.Fast.tw6136154972569552516 : Nat := 0
def PySem.W.Fast.tw17611987343397411998 : Nat := 0
def PySem.W.Fast.tw1772749777914273962 : Nat := 0
def PySem.W.Fast.tw15733739580074374685 : Nat := 0
def PySem.W.Fast.tw17520799784036776617 : Nat := 0
def PySem.W.Fast.tw14000256172248219338 : Nat := 0
def PySem.W.Fast.tw597277910600524353 : Nat := 0
def PySem.W.Fast.tw18078870204363907125 : Nat := 0
def PySem.W.Fast.tw7138884891239033253 : Nat := 0
def PySem.W.Fast.tw18108474581465185322 : Nat := 0
def PySem.W.Fast.tw5355740950357971025 : Nat := 0
def PySem.W.Fast.tw14085163197961709912 : Nat := 0
def PySem.W.Fast.tw11366883196922293733 : Nat := 0
def PySem.W.Fast.tw1343681709951146571 : Nat := 0
def PySem.W.Fast.tw4303824873258465459 : Nat := 0
def PySem.W.Fast.tw363647145550211167 : Nat := 0
def PySem.W.Fast.tw6555689409035382101 : Nat := 0
def PySem.W.Fast.tw2373913336465238171 : Nat := 0
def PySem.W.Fast.tw13918052124622189880 : Nat := 0
def PySem.W.Fast.tw11834634826584545883 : Nat := 0
def PySem.W.Fast.tw17076102727179552520 : Nat := 0
def PySem.W.Fast.tw13425322119621869130 : Nat := 0
def PySem.W.Fast.tw17954086314219368032 : Nat := 0
def PySem.W.Fast.tw4935617476575263748 : Nat := 0
def PySem.W.Fast.tw6129555378622673339 : Nat := 0
def PySem.W.Fast.tw4633595549367083791 : Nat := 0
def PySem.W.Fast.tw13377718301213718718 : Nat := 0
def PySem.W.Fast.tw5829349682176733220 : Nat := 0
def PySem.W.Fast.tw12601026128391392291 : Nat := 0
def PySem.W.Fast.tw13859606277752765700 : Nat := 0
def PySem.W.Fast.tw9215448231322638120 : Nat := 0
def PySem.W.Fast.tw11317177604635278334 : Nat := 0
def PySem.W.Fast.tw11242757035345676947 : Nat := 0
def PySem.W.Fast.tw2330714508182669727 : Nat := 0
def PySem.W.Fast.tw14377010889721009625 : Nat := 0
def PySem.W.Fast.tw12784369529770500534 : Nat := 0
def PySem.W.Fast.tw3406719256864939340 : Nat := 0
def PySem.W.Fast.tw2758683105510213947 : Nat := 0
def PySem.W.Fast.tw9312908964697433226 : Nat := 0
def PySem.W.Fast.tw1279304588223206400 : Nat := 0
def PySem.W.Fast.tw17972452616869759724 : Nat := 0
def PySem.W.Fast.tw12927025866595977837 : Nat := 0
def PySem.W.Fast.tw5179261776515881045 : Nat := 0
def PySem.W.Fast.tw3385393157079710211 : Nat := 0
def PySem.W.Fast.tw3308682862204318405 : Nat := 0
def PySem.W.Fast.tw15489971124164649136 : Nat := 0
def PySem.W.Fast.tw8407013415931524591 : Nat := 0
def PySem.W.Fast.tw15741778476110268990 : Nat := 0
def PySem.W.Fast.tw1355556393024123953 : Nat := 0
def PySem.W.Fast.tw2550117637416931961 : Nat := 0
def PySem.W.Fast.tw8691048335079846839 : Nat := 0
def PySem.W.Fast.tw3532923633946087083 : Nat := 0
def PySem.W.Fast.tw3971071903770561938 : Nat := 0
def PySem.W.Fast.tw12280278077206388650 : Nat := 0
def PySem.W.Fast.tw1095948583987342506 : Nat := 0
def PySem.W.Fast.tw17777279164354876176 : Nat := 0
def PySem.W.Fast.tw8361039925744195340 : Nat := 0
def PySem.W.Fast.tw11496914070898470732 : Nat := 0
def PySem.W.Fast.tw8707577877321283722 : Nat := 0
def PySem.W.Fast.tw8325996135601147638 : Nat := 0
def PySem.W.Fast.tw5093589325891659100 : Nat := 0
def PySem.W.Fast.tw9114921310537573119 : Nat := 0
def PySem.W.Fast.tw15639680081888080649 : Nat := 0
def PySem.W.Fast.tw16912430309487863339 : Nat := 0
def PySem.W.Fast.tw2898268903681423283 : Nat := 0
def PySem.W.Fast.tw7117051914302450707 : Nat := 0
def PySem.W.Fast.tw5265262287025848932 : Nat := 0
def PySem.W.Fast.tw12644943315484164099 : Nat := 0
def PySem.W.Fast.tw14935529082205293220 : Nat := 0
def PySem.W.Fast.tw15934193833443191968 : Nat := 0
def PySem.W.Fast.tw13046116885864720579 : Nat := 0
def PySem.W.Fast.tw12599107092732013229 : Nat := 0
def PySem.W.Fast.tw3986545872272014658 : Nat := 0
def PySem.W.Fast.tw4810655760061225441 : Nat := 0
def PySem.W.Fast.tw3836243460524855759 : Nat := 0
def PySem.W.Fast.tw15256114446391401278 : Nat := 0
def PySem.W.Fast.tw8483452447970581288 : Nat := 0
def PySem.W.Fast.tw16146305389099121907 : Nat := 0
def PySem.W.Fast.tw10030218302945625961 : Nat := 0
def PySem.W.Fast.tw12507198271402059070 : Nat := 0
def PySem.W.Fast.tw4828927484975265672 : Nat := 0
def PySem.W.Fast.tw3317266842732673174 : Nat := 0
def PySem.W.Fast.tw4770217723359910527 : Nat := 0
def PySem.W.Fast.tw5506102249147460031 : Nat := 0
def PySem.W.Fast.tw4586762644971038970 : Nat := 0
def PySem.W.Fast.tw9391506417418602539 : Nat := 0
def PySem.W.Fast.tw13403426356067571160 : Nat := 0
def PySem.W.Fast.tw14058901706975151865 : Nat := 0
def PySem.W.Fast.tw1063279479477390884 : Nat := 0
def PySem.W.Fast.tw10075753211586998331 : Nat := 0
def PySem.W.Fast.tw13212746619361595683 : Nat := 0
def PySem.W.Fast.tw10695507184219161790 : Nat := 0
def PySem.W.Fast.tw13732657749281208504 : Nat := 0
def PySem.W.Fast.tw1365248790021933731 : Nat := 0
def PySem.W.Fast.tw8010715004789728099 : Nat := 0
def PySem.W.Fast.tw15570312444432440292 : Nat := 0
def PySem.W.Fast.tw9882293184939491377 : Nat := 0
def PySem.W.Fast.tw820293643833181424 : Nat := 0
def PySem.W.Fast.tw829478613091903272 : Nat := 0
def PySem.W.Fast.tw4624126642787061330 : Nat := 0
def PySem.W.Fast.tw11118053045261404570 : Nat := 0
def PySem.W.Fast.tw5236805712400555899 : Nat := 0
def PySem.W.Fast.tw14575517880823719114 : Nat := 0
def PySem.W.Fast.tw14007167167266843553 : Nat := 0
def PySem.W.Fast.tw5701154036234762467 : Nat := 0
def PySem.W.Fast.tw2322760850299365326 : Nat := 0
def PySem.W.Fast.tw8691203774662452492 : Nat := 0
def PySem.W.Fast.tw16744061466004072179 : Nat := 0
def PySem.W.Fast.tw4482933918916666695 : Nat := 0
def PySem.W.Fast.tw16350358225781264321 : Nat := 0
def PySem.W.Fast.tw1089654161471376852 : Nat := 0
def PySem.W.Fast.tw11571114330431089850 : Nat := 0
def PySem.W.Fast.tw12617324641394068425 : Nat := 0
def PySem.W.Fast.tw3182852330256521986 : Nat := 0
def PySem.W.Fast.tw9501272628557786092 : Nat := 0
def PySem.W.Fast.tw17299549029187051243 : Nat := 0
def PySem.W.Fast.tw17244790500190274987 : Nat := 0
def PySem.W.Fast.tw11873392320761311794 : Nat := 0
def PySem.W.Fast.tw2324460484358643731 : Nat := 0
def PySem.W.Fast.tw6468420519648739941 : Nat := 0
def PySem.W.Fast.tw5266242612619772062 : Nat := 0
def PySem.W.Fast.tw6524309313076572632 : Nat := 0
def PySem.W.Fast.tw4881729758195976069 : Nat := 0
def PySem.W.Fast.tw10660733654223691787 : Nat := 0
def PySem.W.Fast.tw3969743855094005270 : Nat := 0
def PySem.W.Fast.tw16283577472778515648 : Nat := 0
def PySem.W.Fast.tw4709756441551087884 : Nat := 0
def PySem.W.Fast.tw17906146876573935271 : Nat := 0
def PySem.W.Fast.tw16501235870074001943 : Nat := 0
def PySem.W.Fast.tw14186773908586784922 : Nat := 0
def PySem.W.Fast.tw16332356521675032494 : Nat := 0
def PySem.W.Fast.tw10714292025334102038 : Nat := 0
def PySem.W.Fast.tw7320616444315804884 : Nat := 0
def PySem.W.Fast.tw5964800720206651369 : Nat := 0
def PySem.W.Fast.tw14692549203026981348 : Nat := 0
def PySem.W.Fast.tw2605426947574249815 : Nat := 0
def PySem.W.Fast.tw17232075532939052998 : Nat := 0
def PySem.W.Fast.tw1717134644366025669 : Nat := 0
def PySem.W.Fast.tw4637146495569820659 : Nat := 0
def PySem.W.Fast.tw7740716576090715326 : Nat := 0
def PySem.W.Fast.tw15867396542240885660 : Nat := 0
def PySem.W.Fast.tw15821496695528462884 : Nat := 0
def PySem.W.Fast.tw3549508904147046054 : Nat := 0
def PySem.W.Fast.tw4010356174506809155 : Nat := 0
def PySem.W.Fast.tw9618573551262533503 : Nat := 0
def PySem.W.Fast.tw13885659061292138701 : Nat := 0
def PySem.W.Fast.tw4850127640627220445 : Nat := 0
def PySem.W.Fast.tw6066489341653006360 : Nat := 0
def PySem.W.Fast.tw7754731696292760098 : Nat := 0
def PySem.W.Fast.tw18235837139363517972 : Nat := 0
def PySem.W.Fast.tw14954716832162797790 : Nat := 0
def PySem.W.Fast.tw1666740528916691999 : Nat := 0
def PySem.W.Fast.tw12415281073495866338 : Nat := 0
def PySem.W.Fast.tw12841972628261199978 : Nat := 0
def PySem.W.Fast.tw8258332697511002853 : Nat := 0
def PySem.W.Fast.tw17219172635696608489 : Nat := 0
def PySem.W.Fast.tw14819767906050271600 : Nat := 0
def PySem.W.Fast.tw5358511512069963677 : Nat := 0
def PySem.W.Fast.tw14756284921705633186 : Nat := 0
def PySem.W.Fast.tw11576308528835366316 : Nat := 0
def PySem.W.Fast.tw11472467634557686890 : Nat := 0
def PySem.W.Fast.tw6788452807942575906 : Nat := 0
def PySem.W.Fast.tw3341603000560072735 : Nat := 0
def PySem.W.Fast.tw10299271422321967195 : Nat := 0
def PySem.W.Fast.tw1026914764071893415 : Nat := 0
def PySem.W.Fast.tw10488897861265081898 : Nat := 0
def PySem.W.Fast.tw12131278133892408994 : Nat := 0
def PySem.W.Fast.tw8632269757996077554 : Nat := 0
def PySem.W.Fast.tw9205218445569019578 : Nat := 0
def PySem.W.Fast.tw1738282853630505517 : Nat := 0
def PySem.W.Fast.tw16971316692751454401 : Nat := 0
def PySem.W.Fast.tw13579577144226542698 : Nat := 0
def PySem.W.Fast.tw15445551726019851783 : Nat := 0
def PySem.W.Fast.tw6162386561581260648 : Nat := 0
def PySem.W.Fast.tw3743852591314580844 : Nat := 0
def PySem.W.Fast.tw1860514881854907071 : Nat := 0
def PySem.W.Fast.tw18219531058487014647 : Nat := 0
def PySem.W.Fast.tw8751511957911300637 : Nat := 0
def PySem.W.Fast.tw3258801895868542461 : Nat := 0
def PySem.W.Fast.tw30842097140510973 : Nat := 0
def PySem.W.Fast.tw7671431856789116708 : Nat := 0
def PySem.W.Fast.tw12433310238453593258 : Nat := 0
def PySem.W.Fast.tw12507112644218310222 : Nat := 0
def PySem.W.Fast.tw10980317528227662822 : Nat := 0
def PySem.W.Fast.tw4124969290045111338 : Nat := 0
def PySem.W.Fast.tw5471555360577041723 : Nat := 0
def PySem.W.Fast.tw1151262838307863174 : Nat := 0
def PySem.W.Fast.tw5229625070662616344 : Nat := 0
def PySem.W.Fast.tw5306366365645207199 : Nat := 0
def PySem.W.Fast.tw13316907071053316609 : Nat := 0
def PySem.W.Fast.tw9479940990166782081 : Nat := 0
def PySem.W.Fast.tw7507985933061835597 : Nat := 0
def PySem.W.Fast.tw1201982144484597571 : Nat := 0
def PySem.W.Fast.tw6135267014788680163 : Nat := 0
def PySem.W.Fast.tw9171060709333701789 : Nat := 0
def PySem.W.Fast.tw2290197237353925268 : Nat := 0
def PySem.W.Fast.tw779921964265282968 : Nat := 0
def PySem.W.Fast.tw3911411720093960122 : Nat := 0
def PySem.W.Fast.tw3756267331979840925 : Nat := 0
def PySem.W.Fast.tw9174369368488680217 : Nat := 0
def PySem.W.Fast.tw7699557621819107461 : Nat := 0
def PySem.W.Fast.tw4327608508492174537 : Nat := 0
def PySem.W.Fast.tw5162146457080382782 : Nat := 0
def PySem.W.Fast.tw3468349090706349279 : Nat := 0
def PySem.W.Fast.tw11540428248808262685 : Nat := 0
def PySem.W.Fast.tw16992755473725904314 : Nat := 0
def PySem.W.Fast.tw9896948644762494683 : Nat := 0
def PySem.W.Fast.tw11240650184765855295 : Nat := 0
def PySem.W.Fast.tw17201838125032499654 : Nat := 0
def PySem.W.Fast.tw9623287195999162252 : Nat := 0
def PySem.W.Fast.tw12944680284707834295 : Nat := 0
def PySem.W.Fast.tw13366288945785241274 : Nat := 0
def PySem.W.Fast.tw9542496643545648329 : Nat := 0
def PySem.W.Fast.tw10574604260127270708 : Nat := 0
def PySem.W.Fast.tw6602773820924928945 : Nat := 0
def PySem.W.Fast.tw16271329645383944348 : Nat := 0
def PySem.W.Fast.tw11915520366001682496 : Nat := 0
def PySem.W.Fast.tw14677499879016149519 : Nat := 0
def PySem.W.Fast.tw13835974937532821391 : Nat := 0
def PySem.W.Fast.tw12531942129069321391 : Nat := 0
def PySem.W.Fast.tw3100802205402680055 : Nat := 0
def PySem.W.Fast.tw2212153802835723543 : Nat := 0
def PySem.W.Fast.tw2186482046279833754 : Nat := 0
def PySem.W.Fast.tw14150755494196084779 : Nat := 0
def PySem.W.Fast.tw1469448931041475200 : Nat := 0
def PySem.W.Fast.tw17590848053699109162 : Nat := 0
def PySem.W.Fast.tw2781771598711288946 : Nat := 0
def PySem.W.Fast.tw930401839627240409 : Nat := 0
def PySem.W.Fast.tw9361545105159392262 : Nat := 0
def PySem.W.Fast.tw16910123480948105628 : Nat := 0
def PySem.W.Fast.tw14904656270844880997 : Nat := 0
def PySem.W.Fast.tw309940658371413551 : Nat := 0
def PySem.W.Fast.tw6753990822936331077 : Nat := 0
def PySem.W.Fast.tw3941943694169405002 : Nat := 0
def PySem.W.Fast.tw13950454433923518940 : Nat := 0
def PySem.W.Fast.tw8404253503709345785 : Nat := 0
def PySem.W.Fast.tw14639590714768082251 : Nat := 0
def PySem.W.Fast.tw7111688014639958226 : Nat := 0
def PySem.W.Fast.tw592586741089715299 : Nat := 0
def PySem.W.Fast.tw2642415112077223336 : Nat := 0
def PySem.W.Fast.tw12983093076937493663 : Nat := 0
def PySem.W.Fast.tw15016348189829545283 : Nat := 0
def PySem.W.Fast.tw16479395925401155103 : Nat := 0
def PySem.W.Fast.tw16146398005066186255 : Nat := 0
def PySem.W.Fast.tw7206860876581782317 : Nat := 0
def PySem.W.Fast.tw7973434196663115265 : Nat := 0
def PySem.W.Fast.tw5971508331955472507 : Nat := 0
def PySem.W.Fast.tw11730458806745410477 : Nat := 0
def PySem.W.Fast.tw4482187119514171599 : Nat := 0
def PySem.W.Fast.tw15236565715914558841 : Nat := 0
def PySem.W.Fast.tw885125472347047090 : Nat := 0
def PySem.W.Fast.tw14306638087158031903 : Nat := 0
def PySem.W.Fast.tw15554538125321630235 : Nat := 0
def PySem.W.Fast.tw15775393598494110560 : Nat := 0
def PySem.W.Fast.tw37467042797311449 : Nat := 0
def PySem.W.Fast.tw7257104445497626522 : Nat := 0
def PySem.W.Fast.tw4619076263050603071 : Nat := 0
def PySem.W.Fast.tw1633321276100626978 : Nat := 0
def PySem.W.Fast.tw3148415886279182275 : Nat := 0
def PySem.W.Fast.tw3365808490053245939 : Nat := 0
def PySem.W.Fast.tw16896551995118723463 : Nat := 0
def PySem.W.Fast.tw7293136008619333025 : Nat := 0
def PySem.W.Fast.tw7474415095927823609 : Nat := 0
def PySem.W.Fast.tw16957882832114058358 : Nat := 0
def PySem.W.Fast.tw6376132194528298431 : Nat := 0
def PySem.W.Fast.tw17331795752817370611 : Nat := 0
def PySem.W.Fast.tw14567311009823600060 : Nat := 0
def PySem.W.Fast.tw17247513548941643860 : Nat := 0
def PySem.W.Fast.tw12995571403524952798 : Nat := 0
def PySem.W.Fast.tw15910372197163776226 : Nat := 0
def PySem.W.Fast.tw8506990538919207815 : Nat := 0
def PySem.W.Fast.tw10928674782098541946 : Nat := 0
def PySem.W.Fast.tw15671719447309534482 : Nat := 0
def PySem.W.Fast.tw16609746585899529977 : Nat := 0
def PySem.W.Fast.tw11889272198976948021 : Nat := 0
def PySem.W.Fast.tw10678257858319571821 : Nat := 0
def PySem.W.Fast.tw9265007603575755564 : Nat := 0
def PySem.W.Fast.tw17722039203069903523 : Nat := 0
def PySem.W.Fast.tw7583999243971450277 : Nat := 0
def PySem.W.Fast.tw4755902412135723734 : Nat := 0
def PySem.W.Fast.tw5888571970862375932 : Nat := 0
def PySem.W.Fast.tw15714642047240826029 : Nat := 0
def PySem.W.Fast.tw7014166758393548051 : Nat := 0
def PySem.W.Fast.tw14674784078525777492 : Nat := 0
def PySem.W.Fast.tw13900219181544547238 : Nat := 0
def PySem.W.Fast.tw6226354171108721284 : Nat := 0
def PySem.W.Fast.tw9341859736157535794 : Nat := 0
def PySem.W.Fast.tw11537357223668260823 : Nat := 0
def PySem.W.Fast.tw5263565196486103678 : Nat := 0
def PySem.W.Fast.tw4875148044657572098 : Nat := 0
def PySem.W.Fast.tw16475132293716564536 : Nat := 0
def PySem.W.Fast.tw8360814450124536595 : Nat := 0
def PySem.W.Fast.tw15284419917475572020 : Nat := 0
def PySem.W.Fast.tw6173503745427089124 : Nat := 0
def PySem.W.Fast.tw806139810958735709 : Nat := 0
def PySem.W.Fast.tw7364011844081167188 : Nat := 0
def PySem.W.Fast.tw15497092390391819680 : Nat := 0
def PySem.W.Fast.tw12869868069072032510 : Nat := 0
def PySem.W.Fast.tw14175901499605720481 : Nat := 0
def PySem.W.Fast.tw17323897943546851493 : Nat := 0
def PySem.W.Fast.tw10438599679825510040 : Nat := 0
def PySem.W.Fast.tw649286320142230094 : Nat := 0
def PySem.W.Fast.tw6670868212111361074 : Nat := 0
def PySem.W.Fast.tw197751445989036658 : Nat := 0
def PySem.W.Fast.tw14094683956241669415 : Nat := 0
def PySem.W.Fast.tw2562115532538034457 : Nat := 0
def PySem.W.Fast.tw6355563747803536051 : Nat := 0
def PySem.W.Fast.tw10480519183134000071 : Nat := 0
def PySem.W.Fast.tw341265830421998945 : Nat := 0
def PySem.W.Fast.tw5816887052311373887 : Nat := 0
def PySem.W.Fast.tw16549874527518128097 : Nat := 0
def PySem.W.Fast.tw9356052087910989109 : Nat := 0
def PySem.W.Fast.tw9990669601378726274 : Nat := 0
def PySem.W.Fast.tw8337307396871759115 : Nat := 0
def PySem.W.Fast.tw11881384644762292494 : Nat := 0
def PySem.W.Fast.tw11324581456190773656 : Nat := 0
def PySem.W.Fast.tw12659606571038958051 : Nat := 0
def PySem.W.Fast.tw14556650773382504165 : Nat := 0
def PySem.W.Fast.tw7347670381924347608 : Nat := 0
def PySem.W.Fast.tw15094433774008409724 : Nat := 0
def PySem.W.Fast.tw14036794258134264889 : Nat := 0
def PySem.W.Fast.tw8503582875423337643 : Nat := 0
def PySem.W.Fast.tw7353191914193716166 : Nat := 0
def PySem.W.Fast.tw11294792083407415072 : Nat := 0
def PySem.W.Fast.tw10858183562544871458 : Nat := 0
def PySem.W.Fast.tw3093559074172046902 : Nat := 0
def PySem.W.Fast.tw16402565838039394146 : Nat := 0
def PySem.W.Fast.tw7501041390383090173 : Nat := 0
def PySem.W.Fast.tw5217671323708664839 : Nat := 0
def PySem.W.Fast.tw11676278960216647553 : Nat := 0
def PySem.W.Fast.tw3934005631103674237 : Nat := 0
def PySem.W.Fast.tw6982468467633329790 : Nat := 0
def PySem.W.Fast.tw7971488179177059292 : Nat := 0
def PySem.W.Fast.tw16073573522421166625 : Nat := 0
def PySem.W.Fast.tw14542341537283520 : Nat := 0
def PySem.W.Fast.tw17767696255520801007 : Nat := 0
def PySem.W.Fast.tw15888901862005411416 : Nat := 0
def PySem.W.Fast.tw13813964142038377663 : Nat := 0
def PySem.W.Fast.tw11827292134452299412 : Nat := 0
def PySem.W.Fast.tw3250595735605971985 : Nat := 0
def PySem.W.Fast.tw14263705007914663021 : Nat := 0
def PySem.W.Fast.tw12935322475124038453 : Nat := 0
def PySem.W.Fast.tw11664493148084533383 : Nat := 0
def PySem.W.Fast.tw9743488342929844806 : Nat := 0
def PySem.W.Fast.tw9503333179901510792 : Nat := 0
def PySem.W.Fast.tw346527691986755578 : Nat := 0
def PySem.W.Fast.tw9441423176391795064 : Nat := 0
def PySem.W.Fast.tw10470746133341714201 : Nat := 0
def PySem.W.Fast.tw7062255346702728978 : Nat := 0
def PySem.W.Fast.tw10536724204774203655 : Nat := 0
def PySem.W.Fast.tw11303641633957001311 : Nat := 0
def PySem.W.Fast.tw7880459582776711379 : Nat := 0
def PySem.W.Fast.tw3971201449249008677 : Nat := 0
def PySem.W.Fast.tw1292026479697301949 : Nat := 0
def PySem.W.Fast.tw15340339902617661045 : Nat := 0
def PySem.W.Fast.tw1404477587073557820 : Nat := 0
def PySem.W.Fast.tw12826944693331418144 : Nat := 0
def PySem.W.Fast.tw13495687959375984917 : Nat := 0
def PySem.W.Fast.tw14326570344868422572 : Nat := 0
def PySem.W.Fast.tw12279301259973089300 : Nat := 0
def PySem.W.Fast.tw3341414531703205354 : Nat := 0
def PySem.W.Fast.tw11839430485087725388 : Nat := 0
def PySem.W.Fast.tw12828336986945136622 : Nat := 0
def PySem.W.Fast.tw6639916700938161638 : Nat := 0
def PySem.W.Fast.tw4801330208008766962 : Nat := 0
def PySem.W.Fast.tw5034626536631071033 : Nat := 0
def PySem.W.Fast.tw6841356461856601433 : Nat := 0
def PySem.W.Fast.tw5787360913555363382 : Nat := 0
def PySem.W.Fast.tw12506921216287909414 : Nat := 0
def PySem.W.Fast.tw3661328936108200872 : Nat := 0
def PySem.W.Fast.tw11075978647116737023 : Nat := 0
def PySem.W.Fast.tw17842800319985369968 : Nat := 0
def PySem.W.Fast.tw10819557060253664133 : Nat := 0
def PySem.W.Fast.tw15581412565008570707 : Nat := 0
def PySem.W.Fast.tw9112470788146795236 : Nat := 0
def PySem.W.Fast.tw10984896737316830755 : Nat := 0
def PySem.W.Fast.tw4779917868357121056 : Nat := 0
def PySem.W.Fast.tw22997836931192052 : Nat := 0
def PySem.W.Fast.tw7611825232826551625 : Nat := 0
def PySem.W.Fast.tw10991682855443739165 : Nat := 0
def PySem.W.Fast.tw8011241327985247169 : Nat := 0
def PySem.W.Fast.tw11220656198271572381 : Nat := 0
def PySem.W.Fast.tw10699816275754558911 : Nat := 0
def PySem.W.Fast.tw10374372773980529992 : Nat := 0
def PySem.W.Fast.tw1820434691697794159 : Nat := 0
def PySem.W.Fast.tw3379169222458735538 : Nat := 0
def PySem.W.Fast.tw16214190922422628206 : Nat := 0
def PySem.W.Fast.tw14571715168374552397 : Nat := 0
def PySem.W.Fast.tw2143880174167586533 : Nat := 0
def PySem.W.Fast.tw9271987663621326943 : Nat := 0
def PySem.W.Fast.tw5067194188597306551 : Nat := 0
def PySem.W.Fast.tw7183044853347899330 : Nat := 0
def PySem.W.Fast.tw6721868912985042725 : Nat := 0
def PySem.W.Fast.tw6136572628281546775 : Nat := 0
def PySem.W.Fast.tw14712446250319911439 : Nat := 0
def PySem.W.Fast.tw1109545505362207654 : Nat := 0
def PySem.W.Fast.tw6987794008002245113 : Nat := 0
def PySem.W.Fast.tw7079778381512537117 : Nat := 0
def PySem.W.Fast.tw17847218453956852723 : Nat := 0
def PySem.W.Fast.tw9675221721084290207 : Nat := 0
def PySem.W.Fast.tw1954124582391442004 : Nat := 0
def PySem.W.Fast.tw15605659532408023486 : Nat := 0
def PySem.W.Fast.tw7718600099945675705 : Nat := 0
def PySem.W.Fast.tw4419526479577815268 : Nat := 0
def PySem.W.Fast.tw3506818257481391242 : Nat := 0
def PySem.W.Fast.tw17325999412911030279 : Nat := 0
def PySem.W.Fast.tw9840352102505701496 : Nat := 0
def PySem.W.Fast.tw18351160180525206244 : Nat := 0
def PySem.W.Fast.tw13483764124632579297 : Nat := 0
def PySem.W.Fast.tw11380845009818649932 : Nat := 0
def PySem.W.Fast.tw17198286011927528884 : Nat := 0
def PySem.W.Fast.tw14126563165217166294 : Nat := 0
def PySem.W.Fast.tw4522022435858385119 : Nat := 0
def PySem.W.Fast.tw16034014000877057997 : Nat := 0
def PySem.W.Fast.tw1237459762183813558 : Nat := 0
def PySem.W.Fast.tw3040162788564704892 : Nat := 0
def PySem.W.Fast.tw6477553699151342416 : Nat := 0
def PySem.W.Fast.tw15105711263361574902 : Nat := 0
def PySem.W.Fast.tw16806775169269565115 : Nat := 0
def PySem.W.Fast.tw9760524844406534538 : Nat := 0
def PySem.W.Fast.tw17424236676284268719 : Nat := 0
def PySem.W.Fast.tw2907063437432457647 : Nat := 0
def PySem.W.Fast.tw7722328784516365774 : Nat := 0
def PySem.W.Fast.tw13347198718544876933 : Nat := 0
def PySem.W.Fast.tw9858005601166925329 : Nat := 0
def PySem.W.Fast.tw14078318997449975802 : Nat := 0
def PySem.W.Fast.tw10416880003615845221 : Nat := 0
def PySem.W.Fast.tw3582807487500146705 : Nat := 0
def PySem.W.Fast.tw18255635252208204797 : Nat := 0
def PySem.W.Fast.tw9610342543019483293 : Nat := 0
def PySem.W.Fast.tw9967754632269434392 : Nat := 0
def PySem.W.Fast.tw18161749477420668880 : Nat := 0
def PySem.W.Fast.tw14491745219472430754 : Nat := 0
def PySem.W.Fast.tw9992458479442582625 : Nat := 0
def PySem.W.Fast.tw702365200999772437 : Nat := 0
def PySem.W.Fast.tw4745590180680081555 : Nat := 0
def PySem.W.Fast.tw18057336510489392883 : Nat := 0
def PySem.W.Fast.tw9289620458063129520 : Nat := 0
def PySem.W.Fast.tw970576500941485789 : Nat := 0
def PySem.W.Fast.tw9609476599916379641 : Nat := 0
def PySem.W.Fast.tw6895981724529283622 : Nat := 0
def PySem.W.Fast.tw4680887826291479792 : Nat := 0
def PySem.W.Fast.tw8742004106231227990 : Nat := 0
def PySem.W.Fast.tw11371817304998654987 : Nat := 0
def PySem.W.Fast.tw7869301880177232846 : Nat := 0
def PySem.W.Fast.tw8548993059777314830 : Nat := 0
def PySem.W.Fast.tw5860694589087856470 : Nat := 0
def PySem.W.Fast.tw10967632570464063889 : Nat := 0
def PySem.W.Fast.tw1895112434483840532 : Nat := 0
def PySem.W.Fast.tw7098507970621287577 : Nat := 0
def PySem.W.Fast.tw4839012719642937789 : Nat := 0
def PySem.W.Fast.tw9520815342431011934 : Nat := 0
def PySem.W.Fast.tw2455483392679296580 : Nat := 0
def PySem.W.Fast.tw10293164737039917167 : Nat := 0
def PySem.W.Fast.tw3884640026620480310 : Nat := 0
def PySem.W.Fast.tw8606168051426908090 : Nat := 0
def PySem.W.Fast.tw16658701671225137295 : Nat := 0
def PySem.W.Fast.tw8148688022349765516 : Nat := 0
def PySem.W.Fast.tw8360296893136375201 : Nat := 0
def PySem.W.Fast.tw4552251585344883799 : Nat := 0
def PySem.W.Fast.tw1962911672750921514 : Nat := 0
def PySem.W.Fast.tw10661383352358290797 : Nat := 0
def PySem.W.Fast.tw9743746789337639442 : Nat := 0
def PySem.W.Fast.tw16349114302366632105 : Nat := 0
def PySem.W.Fast.tw5115975620617343756 : Nat := 0
def PySem.W.Fast.tw17904427959361616758 : Nat := 0
def PySem.W.Fast.tw16668112121028954113 : Nat := 0
def PySem.W.Fast.tw5324957013592431734 : Nat := 0
def PySem.W.Fast.tw7672481846907227942 : Nat := 0
def PySem.W.Fast.tw17750136233452639499 : Nat := 0
def PySem.W.Fast.tw9177639002309471738 : Nat := 0
def PySem.W.Fast.tw7267667162870680027 : Nat := 0
def PySem.W.Fast.tw6823166556137690927 : Nat := 0
def PySem.W.Fast.tw4935827678453810435 : Nat := 0
def PySem.W.Fast.tw5767523545095390745 : Nat := 0
def PySem.W.Fast.tw9023915381837354995 : Nat := 0
def PySem.W.Fast.tw9537914428235905306 : Nat := 0
def PySem.W.Fast.tw16815316236368788667 : Nat := 0
def PySem.W.Fast.tw2039038304147380768 : Nat := 0
def PySem.W.Fast.tw6882355703161579255 : Nat := 0
def PySem.W.Fast.tw3482736334084093354 : Nat := 0
def PySem.W.Fast.tw17113530570610571437 : Nat := 0
def PySem.W.Fast.tw12436065564457246957 : Nat := 0
def PySem.W.Fast.tw4925205723580115791 : Nat := 0
def PySem.W.Fast.tw17917723885482584487 : Nat := 0
def PySem.W.Fast.tw16917762208551790753 : Nat := 0
def PySem.W.Fast.tw17091749973761787725 : Nat := 0
def PySem.W.Fast.tw3342335696950401800 : Nat := 0
def PySem.W.Fast.tw11271044638975522611 : Nat := 0
def PySem.W.Fast.tw7418699412432271586 : Nat := 0
def PySem.W.Fast.tw16339512705808078626 : Nat := 0
def PySem.W.Fast.tw10172480691009784712 : Nat := 0
def PySem.W.Fast.tw16478497235636247387 : Nat := 0
def PySem.W.Fast.tw3364515964862969044 : Nat := 0
def PySem.W.Fast.tw13210104396783011435 : Nat := 0
def PySem.W.Fast.tw17600793242457349333 : Nat := 0
def PySem.W.Fast.tw13780165954136678280 : Nat := 0
def PySem.W.Fast.tw11394912564281631968 : Nat := 0
def PySem.W.Fast.tw13617230020465296293 : Nat := 0
def PySem.W.Fast.tw1404372126259729340 : Nat := 0
def PySem.W.Fast.tw343750660212218560 : Nat := 0
def PySem.W.Fast.tw6672598521784275673 : Nat := 0
def PySem.W.Fast.tw15619992097124289021 : Nat := 0
def PySem.W.Fast.tw9982789893439547498 : Nat := 0
def PySem.W.Fast.tw2347499887779194138 : Nat := 0
def PySem.W.Fast.tw17833851421717445418 : Nat := 0
def PySem.W.Fast.tw4380248489427377629 : Nat := 0
def PySem.W.Fast.tw16434316333790881758 : Nat := 0
def PySem.W.Fast.tw4449314323412087943 : Nat := 0
def PySem.W.Fast.tw17338966047203876259 : Nat := 0
def PySem.W.Fast.tw835497000501016760 : Nat := 0
def PySem.W.Fast.tw12712185894296989570 : Nat := 0
def PySem.W.Fast.tw14691765840811270272 : Nat := 0
def PySem.W.Fast.tw7462928234117463938 : Nat := 0
def PySem.W.Fast.tw9051607165236074665 : Nat := 0
def PySem.W.Fast.tw1489842656357304507 : Nat := 0
def PySem.W.Fast.tw5107483942703413021 : Nat := 0
def PySem.W.Fast.tw16566998201507592022 : Nat := 0
def PySem.W.Fast.tw12503722928997956000 : Nat := 0
def PySem.W.Fast.tw11839012374827561007 : Nat := 0
def PySem.W.Fast.tw15244483460538542506 : Nat := 0
def PySem.W.Fast.tw13107956426421737976 : Nat := 0
def PySem.W.Fast.tw12768266654913084506 : Nat := 0
def PySem.W.Fast.tw5944201638068604520 : Nat := 0
def PySem.W.Fast.tw2354137763564582756 : Nat := 0
def PySem.W.Fast.tw13717268606613813861 : Nat := 0
def PySem.W.Fast.tw4382221782379308127 : Nat := 0
def PySem.W.Fast.tw12957660084154402901 : Nat := 0
def PySem.W.Fast.tw11100656999681456128 : Nat := 0
def PySem.W.Fast.tw331653759965386272 : Nat := 0
def PySem.W.Fast.tw14335552569828711840 : Nat := 0
def PySem.W.Fast.tw12867287094047727117 : Nat := 0
def PySem.W.Fast.tw7654707103142908946 : Nat := 0
def PySem.W.Fast.tw15128761786707882361 : Nat := 0
def PySem.W.Fast.tw3199691211141339457 : Nat := 0
def PySem.W.Fast.tw11282717670493908814 : Nat := 0
def PySem.W.Fast.tw16996665923742480147 : Nat := 0
def PySem.W.Fast.tw5407321383346360841 : Nat := 0
def PySem.W.Fast.tw2822977953088909487 : Nat := 0
def PySem.W.Fast.tw6541033365701831492 : Nat := 0
def PySem.W.Fast.tw8895495533230158464 : Nat := 0
def PySem.W.Fast.tw12398865329949185164 : Nat := 0
def PySem.W.Fast.tw15483813450528838641 : Nat := 0
def PySem.W.Fast.tw18397628929774069458 : Nat := 0
def PySem.W.Fast.tw2887942900865713044 : Nat := 0
def PySem.W.Fast.tw5490500817889220941 : Nat := 0
def PySem.W.Fast.tw5476727620360068121 : Nat := 0
def PySem.W.Fast.tw413107533385648820 : Nat := 0
def PySem.W.Fast.tw11563563327309953363 : Nat := 0
def PySem.W.Fast.tw2437486932941350341 : Nat := 0
def PySem.W.Fast.tw7913810152034469320 : Nat := 0
def PySem.W.Fast.tw17564606563016292675 : Nat := 0
def PySem.W.Fast.tw9865006076687134475 : Nat := 0
def PySem.W.Fast.tw15875622512149460353 : Nat := 0
def PySem.W.Fast.tw3774352442447690300 : Nat := 0
def PySem.W.Fast.tw65630004996574296 : Nat := 0
def PySem.W.Fast.tw7562216215965884540 : Nat := 0
def PySem.W.Fast.tw1247377372184369087 : Nat := 0
def PySem.W.Fast.tw4686462249072536908 : Nat := 0
def PySem.W.Fast.tw17430336530903294049 : Nat := 0
def PySem.W.Fast.tw9199811613961619498 : Nat := 0
def PySem.W.Fast.tw4453877344766752088 : Nat := 0
def PySem.W.Fast.tw12988526241766801796 : Nat := 0
def PySem.W.Fast.tw8031778655382171691 : Nat := 0
def PySem.W.Fast.tw6829820143861160515 : Nat := 0
def PySem.W.Fast.tw11450489428162384468 : Nat := 0
def PySem.W.Fast.tw5457688140313937686 : Nat := 0
def PySem.W.Fast.tw3061399200656007531 : Nat := 0
def PySem.W.Fast.tw11723893171033240164 : Nat := 0
def PySem.W.Fast.tw2248432840105484733 : Nat := 0
def PySem.W.Fast.tw13424489597265669534 : Nat := 0
def PySem.W.Fast.tw17889892291420296639 : Nat := 0
def PySem.W.Fast.tw12318936159141166519 : Nat := 0
def PySem.W.Fast.tw965574425054455610 : Nat := 0
def PySem.W.Fast.tw12453889718521797503 : Nat := 0
def PySem.W.Fast.tw11332787503019265468 : Nat := 0
def PySem.W.Fast.tw6909048150078702461 : Nat := 0
def PySem.W.Fast.tw5694649293401021729 : Nat := 0
def PySem.W.Fast.tw18403789261809566822 : Nat := 0
def PySem.W.Fast.tw6342269793564830459 : Nat := 0
def PySem.W.Fast.tw12198238584319769640 : Nat := 0
def PySem.W.Fast.tw4420949578781705286 : Nat := 0
def PySem.W.Fast.tw11670990625861807684 : Nat := 0
def PySem.W.Fast.tw13384030048640029861 : Nat := 0
def PySem.W.Fast.tw16102480177088749974 : Nat := 0
def PySem.W.Fast.tw11697463628067280037 : Nat := 0
def PySem.W.Fast.tw17696066394448403370 : Nat := 0
def PySem.W.Fast.tw1324991134831402444 : Nat := 0
def PySem.W.Fast.tw11833490060684908825 : Nat := 0
def PySem.W.Fast.tw16055989857142785072 : Nat := 0
def PySem.W.Fast.tw15539372930801444150 : Nat := 0
def PySem.W.Fast.tw14830307612672381155 : Nat := 0
def PySem.W.Fast.tw10370063167526722342 : Nat := 0
def PySem.W.Fast.tw13134379419213657144 : Nat := 0
def PySem.W.Fast.tw12301350354812399493 : Nat := 0
def PySem.W.Fast.tw9692329625164022331 : Nat := 0
def PySem.W.Fast.tw8643836069327549424 : Nat := 0
def PySem.W.Fast.tw2844782027695108266 : Nat := 0
def PySem.W.Fast.tw15437212561292400127 : Nat := 0
def PySem.W.Fast.tw11060844608965823124 : Nat := 0
def PySem.W.Fast.tw13622389784971412737 : Nat := 0
def PySem.W.Fast.tw11666663895761494388 : Nat := 0
def PySem.W.Fast.tw5853121561676036304 : Nat := 0
def PySem.W.Fast.tw9456027794170970996 : Nat := 0
def PySem.W.Fast.tw923236909619113196 : Nat := 0
def PySem.W.Fast.tw4443081567841774525 : Nat := 0
def PySem.W.Fast.tw14223086403599942029 : Nat := 0
def PySem.W.Fast.tw10696956200835219416 : Nat := 0
def PySem.W.Fast.tw1073573700593968320 : Nat := 0
def PySem.W.Fast.tw12423003400069851734 : Nat := 0
def PySem.W.Fast.tw5929744411206733632 : Nat := 0
def PySem.W.Fast.tw8996319134380691975 : Nat := 0
def PySem.W.Fast.tw7334901153700087577 : Nat := 0
def PySem.W.Fast.tw17224853246450042746 : Nat := 0
def PySem.W.Fast.tw12544382960405510624 : Nat := 0
def PySem.W.Fast.tw9041955386309230822 : Nat := 0
def PySem.W.Fast.tw2863570914049881741 : Nat := 0
def PySem.W.Fast.tw14986166500737509322 : Nat := 0
def PySem.W.Fast.tw7251458686670739791 : Nat := 0
def PySem.W.Fast.tw12567122351861500974 : Nat := 0
def PySem.W.Fast.tw691927098031371739 : Nat := 0
def PySem.W.Fast.tw3914801343241480202 : Nat := 0
def PySem.W.Fast.tw12189418700424246908 : Nat := 0
def PySem.W.Fast.tw17238201727196336807 : Nat := 0
def PySem.W.Fast.tw3241258280890005660 : Nat := 0
def PySem.W.Fast.tw6154554475838730618 : Nat := 0
def PySem.W.Fast.tw16465201778321781097 : Nat := 0
def PySem.W.Fast.tw15335497508835565598 : Nat := 0
def PySem.W.Fast.tw4160804118249914976 : Nat := 0
def PySem.W.Fast.tw13520258549757123996 : Nat := 0
def PySem.W.Fast.tw5005887973163035062 : Nat := 0
def PySem.W.Fast.tw2443710815608022030 : Nat := 0
def PySem.W.Fast.tw9319986301375696177 : Nat := 0
def PySem.W.Fast.tw5455380810427370949 : Nat := 0
def PySem.W.Fast.tw13326875334856232014 : Nat := 0
def PySem.W.Fast.tw3978877797636536927 : Nat := 0
def PySem.W.Fast.tw7114739808305108543 : Nat := 0
def PySem.W.Fast.tw12600120568283774559 : Nat := 0
def PySem.W.Fast.tw15461988521742376076 : Nat := 0
def PySem.W.Fast.tw5936633777005952461 : Nat := 0
def PySem.W.Fast.tw1562700386955600500 : Nat := 0
def PySem.W.Fast.tw16038823911378251865 : Nat := 0
def PySem.W.Fast.tw10484138331505334868 : Nat := 0
def PySem.W.Fast.tw13719124493866178044 : Nat := 0
def PySem.W.Fast.tw10449428869337686666 : Nat := 0
def PySem.W.Fast.tw11169983527676114771 : Nat := 0
def PySem.W.Fast.tw830957758558979468 : Nat := 0
def PySem.W.Fast.tw11893103819414315838 : Nat := 0
def PySem.W.Fast.tw6137960019114959203 : Nat := 0
def PySem.W.Fast.tw13586088464748378018 : Nat := 0
def PySem.W.Fast.tw17885159793436104594 : Nat := 0
def PySem.W.Fast.tw2843563695614635144 : Nat := 0
def PySem.W.Fast.tw13411730256816693011 : Nat := 0
def PySem.W.Fast.tw17034310815486779060 : Nat := 0
def PySem.W.Fast.tw12520217470182315274 : Nat := 0
def PySem.W.Fast.tw12933177982925554535 : Nat := 0
def PySem.W.Fast.tw4408115995885681090 : Nat := 0
def PySem.W.Fast.tw6927647679649446517 : Nat := 0
def PySem.W.Fast.tw11713927636017284712 : Nat := 0
def PySem.W.Fast.tw9252387549341843830 : Nat := 0
def PySem.W.Fast.tw16393867221452969699 : Nat := 0
def PySem.W.Fast.tw11167256196298594003 : Nat := 0
def PySem.W.Fast.tw15403696206472887344 : Nat := 0
def PySem.W.Fast.tw14318669263499476238 : Nat := 0
def PySem.W.Fast.tw15073729867249617770 : Nat := 0
def PySem.W.Fast.tw2068321917303406495 : Nat := 0
def PySem.W.Fast.tw645944602921822980 : Nat := 0
def PySem.W.Fast.tw16924991719675021546 : Nat := 0
def PySem.W.Fast.tw8471395460316945572 : Nat := 0
def PySem.W.Fast.tw9189673312043476667 : Nat := 0
def PySem.W.Fast.tw8692104882333636603 : Nat := 0
def PySem.W.Fast.tw17733382090379369929 : Nat := 0
def PySem.W.Fast.tw13824585459272697971 : Nat := 0
def PySem.W.Fast.tw17825418511517994962 : Nat := 0
def PySem.W.Fast.tw7796067683216898852 : Nat := 0
def PySem.W.Fast.tw3259819440967330598 : Nat := 0
def PySem.W.Fast.tw5343353058559599586 : Nat := 0
def PySem.W.Fast.tw12471759774704088947 : Nat := 0
def PySem.W.Fast.tw9067556817706769519 : Nat := 0
def PySem.W.Fast.tw16597923279943679108 : Nat := 0
def PySem.W.Fast.tw140726414675637532 : Nat := 0
def PySem.W.Fast.tw5043148045692409537 : Nat := 0
def PySem.W.Fast.tw16655521288258137818 : Nat := 0
def PySem.W.Fast.tw2745711421825591252 : Nat := 0
def PySem.W.Fast.tw7945302703916056457 : Nat := 0
def PySem.W.Fast.tw11038638485405016955 : Nat := 0
def PySem.W.Fast.tw8001894785774870525 : Nat := 0
def PySem.W.Fast.tw4805699412517789423 : Nat := 0
def PySem.W.Fast.tw854362381629147797 : Nat := 0
def PySem.W.Fast.tw14863965836758447295 : Nat := 0
def PySem.W.Fast.tw2866010531949556734 : Nat := 0
def PySem.W.Fast.tw1195545819281434326 : Nat := 0
def PySem.W.Fast.tw6752104629123075334 : Nat := 0
def PySem.W.Fast.tw16910912543901432909 : Nat := 0
def PySem.W.Fast.tw10330580344539417347 : Nat := 0
def PySem.W.Fast.tw13157599964336847054 : Nat := 0
def PySem.W.Fast.tw2003199906840750838 : Nat := 0
def PySem.W.Fast.tw10795991892017779633 : Nat := 0
def PySem.W.Fast.tw8441276368777024813 : Nat := 0
def PySem.W.Fast.tw9452760679306695304 : Nat := 0
def PySem.W.Fast.tw9823176055537256128 : Nat := 0
def PySem.W.Fast.tw18171742629595817516 : Nat := 0
def PySem.W.Fast.tw8347687609463655009 : Nat := 0
def PySem.W.Fast.tw2507789294791323500 : Nat := 0
def PySem.W.Fast.tw12899342444235133196 : Nat := 0
def PySem.W.Fast.tw15533731483667164489 : Nat := 0
def PySem.W.Fast.tw5458245422088058589 : Nat := 0
def PySem.W.Fast.tw9314917361897430903 : Nat := 0
def PySem.W.Fast.tw16315816753969661275 : Nat := 0
def PySem.W.Fast.tw14827720234987331339 : Nat := 0
def PySem.W.Fast.tw13117219126244097653 : Nat := 0
def PySem.W.Fast.tw10159426073936697550 : Nat := 0
def PySem.W.Fast.tw9660515032964398356 : Nat := 0
def PySem.W.Fast.tw16409761372422729387 : Nat := 0
def PySem.W.Fast.tw1165957549503953336 : Nat := 0
def PySem.W.Fast.tw17534469340715134092 : Nat := 0
def PySem.W.Fast.tw8776536683587050015 : Nat := 0
def PySem.W.Fast.tw12891358769329750067 : Nat := 0
def PySem.W.Fast.tw17371343712357520021 : Nat := 0
def PySem.W.Fast.tw8674267332624646259 : Nat := 0
def PySem.W.Fast.tw9484932923939168475 : Nat := 0
def PySem.W.Fast.tw4404604405637738086 : Nat := 0
def PySem.W.Fast.tw1122231239781239706 : Nat := 0
open PySem PySem.W PyProof.Rows
set_option maxRecDepth 100000 in
set_option maxHeartbeats 0 in
theorem PySem.Challenge.cw_frameback_k06_kept_sets_holds : PySem.Challenge.rw_frameback_k06_kept_sets.Holds := by
  w_on; o_law; k_head; (case hw => w_witness2)
  k_fill
  refine FB.walk (l := PySem.Challenge.rw_frameback_k06_kept_sets) rfl rfl (fun w h Y => PySem.W.kIn_of Y) ?F
  case F =>
    intro w mg fa h KX G hmg
    have T : ∃ (a : FB.Adr) (fd : FuncData), FB.Txt (L2.KOf KX) mg a ∧ L2.Fun (L2.KOf KX) "law" "law" FB.s_law fa fd ∧ ∀ (s : Shared) (v : Value), BindsTo s fd ⟨[v], []⟩ [("_law_script", v)] := by
      dsimp only [L2.KOf]
      refine' FB.txt_mk KX G hmg ?z_bool ?z_int ?z_isinstance ?z_len ?z_range ?z_sum ?g_FIRST_CELL_BIT ?g_LOST_BY_CALL ?g_TOP_BOX ?g_TOP_CELLS ?g_TOP_TARGET ?g_TOP_VALUE ?c_Add ?c_Back ?c_Branch ?c_Call ?c_Copy ?c_Drop ?c_Get ?c_Grow ?c_Jump ?c_Less ?c_Mul ?c_NoRow ?c_Put ?c_Set ?c_Shrink ?c_Sub ?pg_Less ?hd_Less ?po_Less ?sa_Less ?mk_Less ?kc_Less ?n_Less_box ?n_Less_one ?n_Less_other ?a1 ?i1 ?l1 ?c1 ?k1 ?a2 ?i2 ?l2 ?c2 ?k2 ?a3 ?i3 ?l3 ?c3 ?k3 ?pg_Set ?hd_Set ?po_Set ?sa_Set ?mk_Set ?kc_Set ?n_Set_box ?n_Set_number ?a4 ?i4 ?l4 ?c4 ?k4 ?a5 ?i5 ?l5 ?c5 ?k5 ?a6 ?i6 ?l6 ?c6 ?k6 ?pg_Copy ?hd_Copy ?po_Copy ?sa_Copy ?mk_Copy ?kc_Copy ?n_Copy_box ?n_Copy_one ?a7 ?i7 ?l7 ?c7 ?k7 ?a8 ?i8 ?l8 ?c8 ?k8 ?a9 ?i9 ?l9 ?c9 ?k9 ?pg_Add ?hd_Add ?po_Add ?sa_Add ?mk_Add ?kc_Add ?n_Add_box ?n_Add_one ?n_Add_other ?a10 ?i10 ?l10 ?c10 ?k10 ?a11 ?i11 ?l11 ?c11 ?k11 ?a12 ?i12 ?l12 ?c12 ?k12 ?pg_Sub ?hd_Sub ?po_Sub ?sa_Sub ?mk_Sub ?kc_Sub ?n_Sub_box ?n_Sub_one ?n_Sub_other ?a13 ?i13 ?l13 ?c13 ?k13 ?a14 ?i14 ?l14 ?c14 ?k14 ?a15 ?i15 ?l15 ?c15 ?k15 ?pg_Mul ?hd_Mul ?po_Mul ?sa_Mul ?mk_Mul ?kc_Mul ?n_Mul_box ?n_Mul_one ?n_Mul_other ?a16 ?i16 ?l16 ?c16 ?k16 ?a17 ?i17 ?l17 ?c17 ?k17 ?a18 ?i18 ?l18 ?c18 ?k18 ?pg_Drop ?hd_Drop ?po_Drop ?sa_Drop ?mk_Drop ?kc_Drop ?n_Drop_box ?a19 ?i19 ?l19 ?c19 ?k19 ?a20 ?i20 ?l20 ?c20 ?k20 ?a21 ?i21 ?l21 ?c21 ?k21 ?pg_Jump ?hd_Jump ?po_Jump ?sa_Jump ?mk_Jump ?kc_Jump ?n_Jump_target ?a22 ?i22 ?l22 ?c22 ?k22 ?a23 ?i23 ?l23 ?c23 ?k23 ?a24 ?i24 ?l24 ?c24 ?k24 ?pg_Branch ?hd_Branch ?po_Branch ?sa_Branch ?mk_Branch ?kc_Branch ?n_Branch_box ?n_Branch_target ?a25 ?i25 ?l25 ?c25 ?k25 ?a26 ?i26 ?l26 ?c26 ?k26 ?a27 ?i27 ?l27 ?c27 ?k27 ?pg_Call ?hd_Call ?po_Call ?sa_Call ?mk_Call ?kc_Call ?n_Call_target ?a28 ?i28 ?l28 ?c28 ?k28 ?a29 ?i29 ?l29 ?c29 ?k29 ?a30 ?i30 ?l30 ?c30 ?k30 ?pg_Back ?hd_Back ?po_Back ?sa_Back ?mk_Back ?kc_Back ?n_Back_box ?a31 ?i31 ?l31 ?c31 ?k31 ?a32 ?i32 ?l32 ?c32 ?k32 ?a33 ?i33 ?l33 ?c33 ?k33 ?pg_Get ?hd_Get ?po_Get ?sa_Get ?mk_Get ?kc_Get ?n_Get_box ?n_Get_cell ?a34 ?i34 ?l34 ?c34 ?k34 ?a35 ?i35 ?l35 ?c35 ?k35 ?a36 ?i36 ?l36 ?c36 ?k36 ?pg_Grow ?hd_Grow ?po_Grow ?sa_Grow ?mk_Grow ?kc_Grow ?n_Grow_many ?a37 ?i37 ?l37 ?c37 ?k37 ?a38 ?i38 ?l38 ?c38 ?k38 ?a39 ?i39 ?l39 ?c39 ?k39 ?pg_Shrink ?hd_Shrink ?po_Shrink ?sa_Shrink ?mk_Shrink ?kc_Shrink ?n_Shrink_many ?a40 ?i40 ?l40 ?c40 ?k40 ?a41 ?i41 ?l41 ?c41 ?k41 ?a42 ?i42 ?l42 ?c42 ?k42 ?pg_Put ?hd_Put ?po_Put ?sa_Put ?mk_Put ?kc_Put ?n_Put_box ?n_Put_cell ?a43 ?i43 ?l43 ?c43 ?k43 ?a44 ?i44 ?l44 ?c44 ?k44 ?a45 ?i45 ?l45 ?c45 ?k45 ?k_int_int ?k_int_bool ?a46 ?l46 ?c46 ?k46 ?a47 ?l47 ?c47 ?k47 ?a48 ?l48 ?c48 ?k48 ?a49 ?l49 ?c49 ?k49 ?a50 ?l50 ?c50 ?k50 ?a51 ?l51 ?c51 ?k51 ?a52 ?l52 ?c52 ?k52 ?a53 ?l53 ?c53 ?k53 ?a54 ?l54 ?c54 ?k54 ?a55 ?l55 ?c55 ?k55 ?a56 ?l56 ?c56 ?k56 ?a57 ?l57 ?c57 ?k57 ?a58 ?l58 ?c58 ?k58
      (case z_bool => first | k_is | kit_is | rfl | kernel_rfl)
      (case z_int => first | k_is | kit_is | rfl | kernel_rfl)
      (case z_isinstance => first | k_is | kit_is | rfl | kernel_rfl)
      (case z_len => first | k_is | kit_is | rfl | kernel_rfl)
      (case z_range => first | k_is | kit_is | rfl | kernel_rfl)
      (case z_sum => first | k_is | kit_is | rfl | kernel_rfl)
      (case g_FIRST_CELL_BIT => first | k_is | kit_is | rfl | kernel_rfl)
      (case g_LOST_BY_CALL => first | k_is | kit_is | rfl | kernel_rfl)
      (case g_TOP_BOX => first | k_is | kit_is | rfl | kernel_rfl)
      (case g_TOP_CELLS => first | k_is | kit_is | rfl | kernel_rfl)
      (case g_TOP_TARGET => first | k_is | kit_is | rfl | kernel_rfl)
      (case g_TOP_VALUE => first | k_is | kit_is | rfl | kernel_rfl)
      (case c_Add => first | k_is | kit_is | rfl | kernel_rfl)
      (case c_Back => first | k_is | kit_is | rfl | kernel_rfl)
      (case c_Branch => first | k_is | kit_is | rfl | kernel_rfl)
      (case c_Call => first | k_is | kit_is | rfl | kernel_rfl)
      (case c_Copy => first | k_is | kit_is | rfl | kernel_rfl)
      (case c_Drop => first | k_is | kit_is | rfl | kernel_rfl)
      (case c_Get => first | k_is | kit_is | rfl | kernel_rfl)
      (case c_Grow => first | k_is | kit_is | rfl | kernel_rfl)
      (case c_Jump => first | k_is | kit_is | rfl | kernel_rfl)
      (case c_Less => first | k_is | kit_is | rfl | kernel_rfl)
      (case c_Mul => first | k_is | kit_is | rfl | kernel_rfl)
      (case c_NoRow => first | k_is | kit_is | rfl | kernel_rfl)
      (case c_Put => first | k_is | kit_is | rfl | kernel_rfl)
      (case c_Set => first | k_is | kit_is | rfl | kernel_rfl)
      (case c_Shrink => first | k_is | kit_is | rfl | kernel_rfl)
      (case c_Sub => first | k_is | kit_is | rfl | kernel_rfl)
      (case pg_Less => first | k_is | kit_is | rfl | kernel_rfl)
      (case hd_Less => first | k_is | kit_is | rfl | kernel_rfl)
      (case po_Less => first | k_is | kit_is | rfl | kernel_rfl)
      (case sa_Less => first | k_is | kit_is | rfl | kernel_rfl)
      (case mk_Less => first | k_is | kit_is | rfl | kernel_rfl)
      (case kc_Less => first | k_is | kit_is | rfl | kernel_rfl)
      (case n_Less_box => first | k_is | kit_is | rfl | kernel_rfl)
      (case n_Less_one => first | k_is | kit_is | rfl | kernel_rfl)
      (case n_Less_other => first | k_is | kit_is | rfl | kernel_rfl)
      (case a1 => first | k_is | kit_is | rfl | kernel_rfl)
      (case i1 => first | k_is | kit_is | rfl | kernel_rfl)
      (case l1 => first | k_is | kit_is | rfl | kernel_rfl)
      (case c1 => first | k_is | kit_is | rfl | kernel_rfl)
      (case k1 => first | k_is | kit_is | rfl | kernel_rfl)
      (case a2 => first | k_is | kit_is | rfl | kernel_rfl)
      (case i2 => first | k_is | kit_is | rfl | kernel_rfl)
      (case l2 => first | k_is | kit_is | rfl | kernel_rfl)
      (case c2 => first | k_is | kit_is | rfl | kernel_rfl)
      (case k2 => first | k_is | kit_is | rfl | kernel_rfl)
      (case a3 => first | k_is | kit_is | rfl | kernel_rfl)
      (case i3 => first | k_is | kit_is | rfl | kernel_rfl)
      (case l3 => first | k_is | kit_is | rfl | kernel_rfl)
      (case c3 => first | k_is | kit_is | rfl | kernel_rfl)
      (case k3 => first | k_is | kit_is | rfl | kernel_rfl)
      (case pg_Set => first | k_is | kit_is | rfl | kernel_rfl)
      (case hd_Set => first | k_is | kit_is | rfl | kernel_rfl)
      (case po_Set => first | k_is | kit_is | rfl | kernel_rfl)
      (case sa_Set => first | k_is | kit_is | rfl | kernel_rfl)
      (case mk_Set => first | k_is | kit_is | rfl | kernel_rfl)
      (case kc_Set => first | k_is | kit_is | rfl | kernel_rfl)
      (case n_Set_box => first | k_is | kit_is | rfl | kernel_rfl)
      (case n_Set_number => first | k_is | kit_is | rfl | kernel_rfl)
      (case a4 => first | k_is | kit_is | rfl | kernel_rfl)
      (case i4 => first | k_is | kit_is | rfl | kernel_rfl)
      (case l4 => first | k_is | kit_is | rfl | kernel_rfl)
      (case c4 => first | k_is | kit_is | rfl | kernel_rfl)
      (case k4 => first | k_is | kit_is | rfl | kernel_rfl)
      (case a5 => first | k_is | kit_is | rfl | kernel_rfl)
      (case i5 => first | k_is | kit_is | rfl | kernel_rfl)
      (case l5 => first | k_is | kit_is | rfl | kernel_rfl)
      (case c5 => first | k_is | kit_is | rfl | kernel_rfl)
      (case k5 => first | k_is | kit_is | rfl | kernel_rfl)
      (case a6 => first | k_is | kit_is | rfl | kernel_rfl)
      (case i6 => first | k_is | kit_is | rfl | kernel_rfl)
      (case l6 => first | k_is | kit_is | rfl | kernel_rfl)
      (case c6 => first | k_is | kit_is | rfl | kernel_rfl)
      (case k6 => first | k_is | kit_is | rfl | kernel_rfl)
      (case pg_Copy => first | k_is | kit_is | rfl | kernel_rfl)
      (case hd_Copy => first | k_is | kit_is | rfl | kernel_rfl)
      (case po_Copy => first | k_is | kit_is | rfl | kernel_rfl)
      (case sa_Copy => first | k_is | kit_is | rfl | kernel_rfl)
      (case mk_Copy => first | k_is | kit_is | rfl | kernel_rfl)
      (case kc_Copy => first | k_is | kit_is | rfl | kernel_rfl)
      (case n_Copy_box => first | k_is | kit_is | rfl | kernel_rfl)
      (case n_Copy_one => first | k_is | kit_is | rfl | kernel_rfl)
      (case a7 => first | k_is | kit_is | rfl | kernel_rfl)
      (case i7 => first | k_is | kit_is | rfl | kernel_rfl)
      (case l7 => first | k_is | kit_is | rfl | kernel_rfl)
      (case c7 => first | k_is | kit_is | rfl | kernel_rfl)
      (case k7 => first | k_is | kit_is | rfl | kernel_rfl)
      (case a8 => first | k_is | kit_is | rfl | kernel_rfl)
      (case i8 => first | k_is | kit_is | rfl | kernel_rfl)
      (case l8 => first | k_is | kit_is | rfl | kernel_rfl)
      (case c8 => first | k_is | kit_is | rfl | kernel_rfl)
      (case k8 => first | k_is | kit_is | rfl | kernel_rfl)
      (case a9 => first | k_is | kit_is | rfl | kernel_rfl)
      (case i9 => first | k_is | kit_is | rfl | kernel_rfl)
      (case l9 => first | k_is | kit_is | rfl | kernel_rfl)
      (case c9 => first | k_is | kit_is | rfl | kernel_rfl)
      (case k9 => first | k_is | kit_is | rfl | kernel_rfl)
      (case pg_Add => first | k_is | kit_is | rfl | kernel_rfl)
      (case hd_Add => first | k_is | kit_is | rfl | kernel_rfl)
      (case po_Add => first | k_is | kit_is | rfl | kernel_rfl)
      (case sa_Add => first | k_is | kit_is | rfl | kernel_rfl)
      (case mk_Add => first | k_is | kit_is | rfl | kernel_rfl)
      (case kc_Add => first | k_is | kit_is | rfl | kernel_rfl)
      (case n_Add_box => first | k_is | kit_is | rfl | kernel_rfl)
      (case n_Add_one => first | k_is | kit_is | rfl | kernel_rfl)
      (case n_Add_other => first | k_is | kit_is | rfl | kernel_rfl)
      (case a10 => first | k_is | kit_is | rfl | kernel_rfl)
      (case i10 => first | k_is | kit_is | rfl | kernel_rfl)
      (case l10 => first | k_is | kit_is | rfl | kernel_rfl)
      (case c10 => first | k_is | kit_is | rfl | kernel_rfl)
      (case k10 => first | k_is | kit_is | rfl | kernel_rfl)
      (case a11 => first | k_is | kit_is | rfl | kernel_rfl)
      (case i11 => first | k_is | kit_is | rfl | kernel_rfl)
      (case l11 => first | k_is | kit_is | rfl | kernel_rfl)
      (case c11 => first | k_is | kit_is | rfl | kernel_rfl)
      (case k11 => first | k_is | kit_is | rfl | kernel_rfl)
      (case a12 => first | k_is | kit_is | rfl | kernel_rfl)
      (case i12 => first | k_is | kit_is | rfl | kernel_rfl)
      (case l12 => first | k_is | kit_is | rfl | kernel_rfl)
      (case c12 => first | k_is | kit_is | rfl | kernel_rfl)
      (case k12 => first | k_is | kit_is | rfl | kernel_rfl)
      (case pg_Sub => first | k_is | kit_is | rfl | kernel_rfl)
      (case hd_Sub => first | k_is | kit_is | rfl | kernel_rfl)
      (case po_Sub => first | k_is | kit_is | rfl | kernel_rfl)
      (case sa_Sub => first | k_is | kit_is | rfl | kernel_rfl)
      (case mk_Sub => first | k_is | kit_is | rfl | kernel_rfl)
      (case kc_Sub => first | k_is | kit_is | rfl | kernel_rfl)
      (case n_Sub_box => first | k_is | kit_is | rfl | kernel_rfl)
      (case n_Sub_one => first | k_is | kit_is | rfl | kernel_rfl)
      (case n_Sub_other => first | k_is | kit_is | rfl | kernel_rfl)
      (case a13 => first | k_is | kit_is | rfl | kernel_rfl)
      (case i13 => first | k_is | kit_is | rfl | kernel_rfl)
      (case l13 => first | k_is | kit_is | rfl | kernel_rfl)
      (case c13 => first | k_is | kit_is | rfl | kernel_rfl)
      (case k13 => first | k_is | kit_is | rfl | kernel_rfl)
      (case a14 => first | k_is | kit_is | rfl | kernel_rfl)
      (case i14 => first | k_is | kit_is | rfl | kernel_rfl)
      (case l14 => first | k_is | kit_is | rfl | kernel_rfl)
      (case c14 => first | k_is | kit_is | rfl | kernel_rfl)
      (case k14 => first | k_is | kit_is | rfl | kernel_rfl)
      (case a15 => first | k_is | kit_is | rfl | kernel_rfl)
      (case i15 => first | k_is | kit_is | rfl | kernel_rfl)
      (case l15 => first | k_is | kit_is | rfl | kernel_rfl)
      (case c15 => first | k_is | kit_is | rfl | kernel_rfl)
      (case k15 => first | k_is | kit_is | rfl | kernel_rfl)
      (case pg_Mul => first | k_is | kit_is | rfl | kernel_rfl)
      (case hd_Mul => first | k_is | kit_is | rfl | kernel_rfl)
      (case po_Mul => first | k_is | kit_is | rfl | kernel_rfl)
      (case sa_Mul => first | k_is | kit_is | rfl | kernel_rfl)
      (case mk_Mul => first | k_is | kit_is | rfl | kernel_rfl)
      (case kc_Mul => first | k_is | kit_is | rfl | kernel_rfl)
      (case n_Mul_box => first | k_is | kit_is | rfl | kernel_rfl)
      (case n_Mul_one => first | k_is | kit_is | rfl | kernel_rfl)
      (case n_Mul_other => first | k_is | kit_is | rfl | kernel_rfl)
      (case a16 => first | k_is | kit_is | rfl | kernel_rfl)
      (case i16 => first | k_is | kit_is | rfl | kernel_rfl)
      (case l16 => first | k_is | kit_is | rfl | kernel_rfl)
      (case c16 => first | k_is | kit_is | rfl | kernel_rfl)
      (case k16 => first | k_is | kit_is | rfl | kernel_rfl)
      (case a17 => first | k_is | kit_is | rfl | kernel_rfl)
      (case i17 => first | k_is | kit_is | rfl | kernel_rfl)
      (case l17 => first | k_is | kit_is | rfl | kernel_rfl)
      (case c17 => first | k_is | kit_is | rfl | kernel_rfl)
      (case k17 => first | k_is | kit_is | rfl | kernel_rfl)
      (case a18 => first | k_is | kit_is | rfl | kernel_rfl)
      (case i18 => first | k_is | kit_is | rfl | kernel_rfl)
      (case l18 => first | k_is | kit_is | rfl | kernel_rfl)
      (case c18 => first | k_is | kit_is | rfl | kernel_rfl)
      (case k18 => first | k_is | kit_is | rfl | kernel_rfl)
      (case pg_Drop => first | k_is | kit_is | rfl | kernel_rfl)
      (case hd_Drop => first | k_is | kit_is | rfl | kernel_rfl)
      (case po_Drop => first | k_is | kit_is | rfl | kernel_rfl)
      (case sa_Drop => first | k_is | kit_is | rfl | kernel_rfl)
      (case mk_Drop => first | k_is | kit_is | rfl | kernel_rfl)
      (case kc_Drop => first | k_is | kit_is | rfl | kernel_rfl)
      (case n_Drop_box => first | k_is | kit_is | rfl | kernel_rfl)
      (case a19 => first | k_is | kit_is | rfl | kernel_rfl)
      (case i19 => first | k_is | kit_is | rfl | kernel_rfl)
      (case l19 => first | k_is | kit_is | rfl | kernel_rfl)
      (case c19 => first | k_is | kit_is | rfl | kernel_rfl)
      (case k19 => first | k_is | kit_is | rfl | kernel_rfl)
      (case a20 => first | k_is | kit_is | rfl | kernel_rfl)
      (case i20 => first | k_is | kit_is | rfl | kernel_rfl)
      (case l20 => first | k_is | kit_is | rfl | kernel_rfl)
      (case c20 => first | k_is | kit_is | rfl | kernel_rfl)
      (case k20 => first | k_is | kit_is | rfl | kernel_rfl)
      (case a21 => first | k_is | kit_is | rfl | kernel_rfl)
      (case i21 => first | k_is | kit_is | rfl | kernel_rfl)
      (case l21 => first | k_is | kit_is | rfl | kernel_rfl)
      (case c21 => first | k_is | kit_is | rfl | kernel_rfl)
      (case k21 => first | k_is | kit_is | rfl | kernel_rfl)
      (case pg_Jump => first | k_is | kit_is | rfl | kernel_rfl)
      (case hd_Jump => first | k_is | kit_is | rfl | kernel_rfl)
      (case po_Jump => first | k_is | kit_is | rfl | kernel_rfl)
      (case sa_Jump => first | k_is | kit_is | rfl | kernel_rfl)
      (case mk_Jump => first | k_is | kit_is | rfl | kernel_rfl)
      (case kc_Jump => first | k_is | kit_is | rfl | kernel_rfl)
      (case n_Jump_target => first | k_is | kit_is | rfl | kernel_rfl)
      (case a22 => first | k_is | kit_is | rfl | kernel_rfl)
      (case i22 => first | k_is | kit_is | rfl | kernel_rfl)
      (case l22 => first | k_is | kit_is | rfl | kernel_rfl)
      (case c22 => first | k_is | kit_is | rfl | kernel_rfl)
      (case k22 => first | k_is | kit_is | rfl | kernel_rfl)
      (case a23 => first | k_is | kit_is | rfl | kernel_rfl)
      (case i23 => first | k_is | kit_is | rfl | kernel_rfl)
      (case l23 => first | k_is | kit_is | rfl | kernel_rfl)
      (case c23 => first | k_is | kit_is | rfl | kernel_rfl)
      (case k23 => first | k_is | kit_is | rfl | kernel_rfl)
      (case a24 => first | k_is | kit_is | rfl | kernel_rfl)
      (case i24 => first | k_is | kit_is | rfl | kernel_rfl)
      (case l24 => first | k_is | kit_is | rfl | kernel_rfl)
      (case c24 => first | k_is | kit_is | rfl | kernel_rfl)
      (case k24 => first | k_is | kit_is | rfl | kernel_rfl)
      (case pg_Branch => first | k_is | kit_is | rfl | kernel_rfl)
      (case hd_Branch => first | k_is | kit_is | rfl | kernel_rfl)
      (case po_Branch => first | k_is | kit_is | rfl | kernel_rfl)
      (case sa_Branch => first | k_is | kit_is | rfl | kernel_rfl)
      (case mk_Branch => first | k_is | kit_is | rfl | kernel_rfl)
      (case kc_Branch => first | k_is | kit_is | rfl | kernel_rfl)
      (case n_Branch_box => first | k_is | kit_is | rfl | kernel_rfl)
      (case n_Branch_target => first | k_is | kit_is | rfl | kernel_rfl)
      (case a25 => first | k_is | kit_is | rfl | kernel_rfl)
      (case i25 => first | k_is | kit_is | rfl | kernel_rfl)
      (case l25 => first | k_is | kit_is | rfl | kernel_rfl)
      (case c25 => first | k_is | kit_is | rfl | kernel_rfl)
      (case k25 => first | k_is | kit_is | rfl | kernel_rfl)
      (case a26 => first | k_is | kit_is | rfl | kernel_rfl)
      (case i26 => first | k_is | kit_is | rfl | kernel_rfl)
      (case l26 => first | k_is | kit_is | rfl | kernel_rfl)
      (case c26 => first | k_is | kit_is | rfl | kernel_rfl)
      (case k26 => first | k_is | kit_is | rfl | kernel_rfl)
      (case a27 => first | k_is | kit_is | rfl | kernel_rfl)
      (case i27 => first | k_is | kit_is | rfl | kernel_rfl)
      (case l27 => first | k_is | kit_is | rfl | kernel_rfl)
      (case c27 => first | k_is | kit_is | rfl | kernel_rfl)
      (case k27 => first | k_is | kit_is | rfl | kernel_rfl)
      (case pg_Call => first | k_is | kit_is | rfl | kernel_rfl)
      (case hd_Call => first | k_is | kit_is | rfl | kernel_rfl)
      (case po_Call => first | k_is | kit_is | rfl | kernel_rfl)
      (case sa_Call => first | k_is | kit_is | rfl | kernel_rfl)
      (case mk_Call => first | k_is | kit_is | rfl | kernel_rfl)
      (case kc_Call => first | k_is | kit_is | rfl | kernel_rfl)
      (case n_Call_target => first | k_is | kit_is | rfl | kernel_rfl)
      (case a28 => first | k_is | kit_is | rfl | kernel_rfl)
      (case i28 => first | k_is | kit_is | rfl | kernel_rfl)
      (case l28 => first | k_is | kit_is | rfl | kernel_rfl)
      (case c28 => first | k_is | kit_is | rfl | kernel_rfl)
      (case k28 => first | k_is | kit_is | rfl | kernel_rfl)
      (case a29 => first | k_is | kit_is | rfl | kernel_rfl)
      (case i29 => first | k_is | kit_is | rfl | kernel_rfl)
      (case l29 => first | k_is | kit_is | rfl | kernel_rfl)
      (case c29 => first | k_is | kit_is | rfl | kernel_rfl)
      (case k29 => first | k_is | kit_is | rfl | kernel_rfl)
      (case a30 => first | k_is | kit_is | rfl | kernel_rfl)
      (case i30 => first | k_is | kit_is | rfl | kernel_rfl)
      (case l30 => first | k_is | kit_is | rfl | kernel_rfl)
      (case c30 => first | k_is | kit_is | rfl | kernel_rfl)
      (case k30 => first | k_is | kit_is | rfl | kernel_rfl)
      (case pg_Back => first | k_is | kit_is | rfl | kernel_rfl)
      (case hd_Back => first | k_is | kit_is | rfl | kernel_rfl)
      (case po_Back => first | k_is | kit_is | rfl | kernel_rfl)
      (case sa_Back => first | k_is | kit_is | rfl | kernel_rfl)
      (case mk_Back => first | k_is | kit_is | rfl | kernel_rfl)
      (case kc_Back => first | k_is | kit_is | rfl | kernel_rfl)
      (case n_Back_box => first | k_is | kit_is | rfl | kernel_rfl)
      (case a31 => first | k_is | kit_is | rfl | kernel_rfl)
      (case i31 => first | k_is | kit_is | rfl | kernel_rfl)
      (case l31 => first | k_is | kit_is | rfl | kernel_rfl)
      (case c31 => first | k_is | kit_is | rfl | kernel_rfl)
      (case k31 => first | k_is | kit_is | rfl | kernel_rfl)
      (case a32 => first | k_is | kit_is | rfl | kernel_rfl)
      (case i32 => first | k_is | kit_is | rfl | kernel_rfl)
      (case l32 => first | k_is | kit_is | rfl | kernel_rfl)
      (case c32 => first | k_is | kit_is | rfl | kernel_rfl)
      (case k32 => first | k_is | kit_is | rfl | kernel_rfl)
      (case a33 => first | k_is | kit_is | rfl | kernel_rfl)
      (case i33 => first | k_is | kit_is | rfl | kernel_rfl)
      (case l33 => first | k_is | kit_is | rfl | kernel_rfl)
      (case c33 => first | k_is | kit_is | rfl | kernel_rfl)
      (case k33 => first | k_is | kit_is | rfl | kernel_rfl)
      (case pg_Get => first | k_is | kit_is | rfl | kernel_rfl)
      (case hd_Get => first | k_is | kit_is | rfl | kernel_rfl)
      (case po_Get => first | k_is | kit_is | rfl | kernel_rfl)
      (case sa_Get => first | k_is | kit_is | rfl | kernel_rfl)
      (case mk_Get => first | k_is | kit_is | rfl | kernel_rfl)
      (case kc_Get => first | k_is | kit_is | rfl | kernel_rfl)
      (case n_Get_box => first | k_is | kit_is | rfl | kernel_rfl)
      (case n_Get_cell => first | k_is | kit_is | rfl | kernel_rfl)
      (case a34 => first | k_is | kit_is | rfl | kernel_rfl)
      (case i34 => first | k_is | kit_is | rfl | kernel_rfl)
      (case l34 => first | k_is | kit_is | rfl | kernel_rfl)
      (case c34 => first | k_is | kit_is | rfl | kernel_rfl)
      (case k34 => first | k_is | kit_is | rfl | kernel_rfl)
      (case a35 => first | k_is | kit_is | rfl | kernel_rfl)
      (case i35 => first | k_is | kit_is | rfl | kernel_rfl)
      (case l35 => first | k_is | kit_is | rfl | kernel_rfl)
      (case c35 => first | k_is | kit_is | rfl | kernel_rfl)
      (case k35 => first | k_is | kit_is | rfl | kernel_rfl)
      (case a36 => first | k_is | kit_is | rfl | kernel_rfl)
      (case i36 => first | k_is | kit_is | rfl | kernel_rfl)
      (case l36 => first | k_is | kit_is | rfl | kernel_rfl)
      (case c36 => first | k_is | kit_is | rfl | kernel_rfl)
      (case k36 => first | k_is | kit_is | rfl | kernel_rfl)
      (case pg_Grow => first | k_is | kit_is | rfl | kernel_rfl)
      (case hd_Grow => first | k_is | kit_is | rfl | kernel_rfl)
      (case po_Grow => first | k_is | kit_is | rfl | kernel_rfl)
      (case sa_Grow => first | k_is | kit_is | rfl | kernel_rfl)
      (case mk_Grow => first | k_is | kit_is | rfl | kernel_rfl)
      (case kc_Grow => first | k_is | kit_is | rfl | kernel_rfl)
      (case n_Grow_many => first | k_is | kit_is | rfl | kernel_rfl)
      (case a37 => first | k_is | kit_is | rfl | kernel_rfl)
      (case i37 => first | k_is | kit_is | rfl | kernel_rfl)
      (case l37 => first | k_is | kit_is | rfl | kernel_rfl)
      (case c37 => first | k_is | kit_is | rfl | kernel_rfl)
      (case k37 => first | k_is | kit_is | rfl | kernel_rfl)
      (case a38 => first | k_is | kit_is | rfl | kernel_rfl)
      (case i38 => first | k_is | kit_is | rfl | kernel_rfl)
      (case l38 => first | k_is | kit_is | rfl | kernel_rfl)
      (case c38 => first | k_is | kit_is | rfl | kernel_rfl)
      (case k38 => first | k_is | kit_is | rfl | kernel_rfl)
      (case a39 => first | k_is | kit_is | rfl | kernel_rfl)
      (case i39 => first | k_is | kit_is | rfl | kernel_rfl)
      (case l39 => first | k_is | kit_is | rfl | kernel_rfl)
      (case c39 => first | k_is | kit_is | rfl | kernel_rfl)
      (case k39 => first | k_is | kit_is | rfl | kernel_rfl)
      (case pg_Shrink => first | k_is | kit_is | rfl | kernel_rfl)
      (case hd_Shrink => first | k_is | kit_is | rfl | kernel_rfl)
      (case po_Shrink => first | k_is | kit_is | rfl | kernel_rfl)
      (case sa_Shrink => first | k_is | kit_is | rfl | kernel_rfl)
      (case mk_Shrink => first | k_is | kit_is | rfl | kernel_rfl)
      (case kc_Shrink => first | k_is | kit_is | rfl | kernel_rfl)
      (case n_Shrink_many => first | k_is | kit_is | rfl | kernel_rfl)
      (case a40 => first | k_is | kit_is | rfl | kernel_rfl)
      (case i40 => first | k_is | kit_is | rfl | kernel_rfl)
      (case l40 => first | k_is | kit_is | rfl | kernel_rfl)
      (case c40 => first | k_is | kit_is | rfl | kernel_rfl)
      (case k40 => first | k_is | kit_is | rfl | kernel_rfl)
      (case a41 => first | k_is | kit_is | rfl | kernel_rfl)
      (case i41 => first | k_is | kit_is | rfl | kernel_rfl)
      (case l41 => first | k_is | kit_is | rfl | kernel_rfl)
      (case c41 => first | k_is | kit_is | rfl | kernel_rfl)
      (case k41 => first | k_is | kit_is | rfl | kernel_rfl)
      (case a42 => first | k_is | kit_is | rfl | kernel_rfl)
      (case i42 => first | k_is | kit_is | rfl | kernel_rfl)
      (case l42 => first | k_is | kit_is | rfl | kernel_rfl)
      (case c42 => first | k_is | kit_is | rfl | kernel_rfl)
      (case k42 => first | k_is | kit_is | rfl | kernel_rfl)
      (case pg_Put => first | k_is | kit_is | rfl | kernel_rfl)
      (case hd_Put => first | k_is | kit_is | rfl | kernel_rfl)
      (case po_Put => first | k_is | kit_is | rfl | kernel_rfl)
      (case sa_Put => first | k_is | kit_is | rfl | kernel_rfl)
      (case mk_Put => first | k_is | kit_is | rfl | kernel_rfl)
      (case kc_Put => first | k_is | kit_is | rfl | kernel_rfl)
      (case n_Put_box => first | k_is | kit_is | rfl | kernel_rfl)
      (case n_Put_cell => first | k_is | kit_is | rfl | kernel_rfl)
      (case a43 => first | k_is | kit_is | rfl | kernel_rfl)
      (case i43 => first | k_is | kit_is | rfl | kernel_rfl)
      (case l43 => first | k_is | kit_is | rfl | kernel_rfl)
      (case c43 => first | k_is | kit_is | rfl | kernel_rfl)
      (case k43 => first | k_is | kit_is | rfl | kernel_rfl)
      (case a44 => first | k_is | kit_is | rfl | kernel_rfl)
      (case i44 => first | k_is | kit_is | rfl | kernel_rfl)
      (case l44 => first | k_is | kit_is | rfl | kernel_rfl)
      (case c44 => first | k_is | kit_is | rfl | kernel_rfl)
      (case k44 => first | k_is | kit_is | rfl | kernel_rfl)
      (case a45 => first | k_is | kit_is | rfl | kernel_rfl)
      (case i45 => first | k_is | kit_is | rfl | kernel_rfl)
      (case l45 => first | k_is | kit_is | rfl | kernel_rfl)
      (case c45 => first | k_is | kit_is | rfl | kernel_rfl)
      (case k45 => first | k_is | kit_is | rfl | kernel_rfl)
      (case k_int_int => first | k_is | kit_is | rfl | kernel_rfl)
      (case k_int_bool => first | k_is | kit_is | rfl | kernel_rfl)
      (case a46 => first | k_is | kit_is | rfl | kernel_rfl)
      (case l46 => first | k_is | kit_is | rfl | kernel_rfl)
      (case c46 => first | k_is | kit_is | rfl | kernel_rfl)
      (case k46 => first | k_is | kit_is | rfl | kernel_rfl)
      (case a47 => first | k_is | kit_is | rfl | kernel_rfl)
      (case l47 => first | k_is | kit_is | rfl | kernel_rfl)
      (case c47 => first | k_is | kit_is | rfl | kernel_rfl)
      (case k47 => first | k_is | kit_is | rfl | kernel_rfl)
      (case a48 => first | k_is | kit_is | rfl | kernel_rfl)
      (case l48 => first | k_is | kit_is | rfl | kernel_rfl)
      (case c48 => first | k_is | kit_is | rfl | kernel_rfl)
      (case k48 => first | k_is | kit_is | rfl | kernel_rfl)
      (case a49 => first | k_is | kit_is | rfl | kernel_rfl)
      (case l49 => first | k_is | kit_is | rfl | kernel_rfl)
      (case c49 => first | k_is | kit_is | rfl | kernel_rfl)
      (case k49 => first | k_is | kit_is | rfl | kernel_rfl)
      (case a50 => first | k_is | kit_is | rfl | kernel_rfl)
      (case l50 => first | k_is | kit_is | rfl | kernel_rfl)
      (case c50 => first | k_is | kit_is | rfl | kernel_rfl)
      (case k50 => first | k_is | kit_is | rfl | kernel_rfl)
      (case a51 => first | k_is | kit_is | rfl | kernel_rfl)
      (case l51 => first | k_is | kit_is | rfl | kernel_rfl)
      (case c51 => first | k_is | kit_is | rfl | kernel_rfl)
      (case k51 => first | k_is | kit_is | rfl | kernel_rfl)
      (case a52 => first | k_is | kit_is | rfl | kernel_rfl)
      (case l52 => first | k_is | kit_is | rfl | kernel_rfl)
      (case c52 => first | k_is | kit_is | rfl | kernel_rfl)
      (case k52 => first | k_is | kit_is | rfl | kernel_rfl)
      (case a53 => first | k_is | kit_is | rfl | kernel_rfl)
      (case l53 => first | k_is | kit_is | rfl | kernel_rfl)
      (case c53 => first | k_is | kit_is | rfl | kernel_rfl)
      (case k53 => first | k_is | kit_is | rfl | kernel_rfl)
      (case a54 => first | k_is | kit_is | rfl | kernel_rfl)
      (case l54 => first | k_is | kit_is | rfl | kernel_rfl)
      (case c54 => first | k_is | kit_is | rfl | kernel_rfl)
      (case k54 => first | k_is | kit_is | rfl | kernel_rfl)
      (case a55 => first | k_is | kit_is | rfl | kernel_rfl)
      (case l55 => first | k_is | kit_is | rfl | kernel_rfl)
      (case c55 => first | k_is | kit_is | rfl | kernel_rfl)
      (case k55 => first | k_is | kit_is | rfl | kernel_rfl)
      (case a56 => first | k_is | kit_is | rfl | kernel_rfl)
      (case l56 => first | k_is | kit_is | rfl | kernel_rfl)
      (case c56 => first | k_is | kit_is | rfl | kernel_rfl)
      (case k56 => first | k_is | kit_is | rfl | kernel_rfl)
      (case a57 => first | k_is | kit_is | rfl | kernel_rfl)
      (case l57 => first | k_is | kit_is | rfl | kernel_rfl)
      (case c57 => first | k_is | kit_is | rfl | kernel_rfl)
      (case k57 => first | k_is | kit_is | rfl | kernel_rfl)
      (case a58 => first | k_is | kit_is | rfl | kernel_rfl)
      (case l58 => first | k_is | kit_is | rfl | kernel_rfl)
      (case c58 => first | k_is | kit_is | rfl | kernel_rfl)
      (case k58 => first | k_is | kit_is | rfl | kernel_rfl)
    obtain ⟨a, fd, T, FF, B⟩ := T
    exact ⟨fd, B, fun base _ _ => FB.law_fn T FF⟩
