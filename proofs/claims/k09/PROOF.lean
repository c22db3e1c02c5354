import PyProof.Rows.All
import Wide.All
import OpenK.AllK
import Wide.FinOn
import Lean
import PyProof.EqAt
import PyProof.EqKinds
import PyProof.TupleCall
import PySem.Challenge.RW_frameback_k09_code_as_text
set_option Elab.async false
set_option linter.all false
set_option maxRecDepth 100000
namespace L2
open PySem PySem.Spec PyProof.Rows
abbrev Key := Sum Int Str
def keyIs : Key → Value → Bool
 | .inl k, v => Value.isInt k v
 | .inr x, v => Value.isStrOf x v
def keyH (w : World) : Key → Int
 | .inl k => hashInt k
 | .inr x => hashStr w x
theorem keyIs_shape : ∀ {k : Key} {v : Value}, keyIs k v = true → (∃ i t, k = Sum.inl i ∧ v = Value.int i t) ∨ (∃ x t, k = Sum.inr x ∧ v = Value.str x t)
 | .inl i, v, h => by
   obtain ⟨t, e⟩ := Value.isInt_shape (k := i) (v := v) h
   exact .inl ⟨i, t, rfl, e⟩
 | .inr x, v, h => by
   obtain ⟨t, e⟩ := Value.isStrOf_shape (x := x) (v := v) h
   exact .inr ⟨x, t, rfl, e⟩
theorem keyIs_int (i : Int) (t : Tok) : keyIs (.inl i) (.int i t) = true := by simp [keyIs, Value.isInt]
theorem keyIs_str (x : Str) (t : Tok) : keyIs (.inr x) (.str x t) = true := by simp [keyIs, Value.isStrOf]
theorem key_ll (a b : Int) : decide ((Sum.inl a : Key) = Sum.inl b) = (a == b) := by
 by_cases e : a = b
 · subst e; simp
 · have h : ¬ (Sum.inl a : Key) = Sum.inl b := fun q => e (Sum.inl.inj q)
   rw [decide_eq_false h]
   exact (beq_eq_false_iff_ne.mpr e).symm
theorem key_rr (a b : Str) : decide ((Sum.inr a : Key) = Sum.inr b) = decide (a = b) := by
 by_cases e : a = b
 · subst e; simp
 · have h : ¬ (Sum.inr a : Key) = Sum.inr b := fun q => e (Sum.inr.inj q)
   rw [decide_eq_false h, decide_eq_false e]
theorem key_lr (a : Int) (b : Str) : decide ((Sum.inl a : Key) = Sum.inr b) = false := decide_eq_false (fun q => nomatch q)
theorem key_rl (a : Str) (b : Int) : decide ((Sum.inr a : Key) = Sum.inl b) = false := decide_eq_false (fun q => nomatch q)
def mixKind (prog : Program) (w : World) : PySem.KeyKind prog w Key where
 is := keyIs
 hash := keyH w
 inj := fun v a b ha hb => by
   rcases keyIs_shape ha with ⟨i, t, rfl, rfl⟩ | ⟨x, t, rfl, rfl⟩
   · rcases keyIs_shape hb with ⟨j, u, rfl, e⟩ | ⟨y, u, rfl, e⟩
     · injection e with e1 _; rw [e1]
     · exact nomatch e
   · rcases keyIs_shape hb with ⟨j, u, rfl, e⟩ | ⟨y, u, rfl, e⟩
     · exact nomatch e
     · injection e with e1 _; rw [e1]
 byValue := fun k v h => by
   rcases keyIs_shape h with ⟨i, t, rfl, rfl⟩ | ⟨x, t, rfl, rfl⟩ <;> rfl
 pyHash := fun hv h => by
   rcases keyIs_shape hv with ⟨i, t, rfl, rfl⟩ | ⟨x, t, rfl, rfl⟩
   · exact wpAny_pyHash_int h
   · exact wpAny_pyHash_str h
 eqBool := fun hu hv h => by
   rcases keyIs_shape hu with ⟨i, t, rfl, rfl⟩ | ⟨x, t, rfl, rfl⟩
   · rcases keyIs_shape hv with ⟨j, u, rfl, rfl⟩ | ⟨y, u, rfl, rfl⟩
     · rw [key_ll] at h; exact wpAny_eqBool_int h
     · rw [key_lr] at h; exact SeqAt.EqAt.int_str i t y u _ _ _ _ h
   · rcases keyIs_shape hv with ⟨j, u, rfl, rfl⟩ | ⟨y, u, rfl, rfl⟩
     · rw [key_rl] at h; exact SeqAt.EqAt.str_int x t j u _ _ _ _ h
     · rw [key_rr] at h; exact wpAny_eqBool_str h
 «strs» := fun k x t v h => by
   rcases keyIs_shape h with ⟨i, u, rfl, e⟩ | ⟨y, u, rfl, e⟩
   · exact nomatch e
   · injection e with e1 _
     subst e1
     cases v <;> rfl
theorem mixKind_int (prog : Program) (w : World) (i : Int) (t : Tok) : (mixKind prog w).is (.inl i) (.int i t) = true := keyIs_int i t
theorem mixKind_str (prog : Program) (w : World) (x : Str) (t : Tok) : (mixKind prog w).is (.inr x) (.str x t) = true := keyIs_str x t
end L2
namespace L2
open PySem PySem.Spec PyProof.Rows
inductive V where
 | non | bl (b : Bool) | int (i : Int) | str (x : Str) | byt (b : Array UInt8) | flt (b : UInt64) | ref (a : Addr) | ty (n : String)
 deriving DecidableEq
def RelV : V → Value → Prop
 | .non, u => u = Value.none
 | .bl b, u => u = Value.bool b
 | .int i, u => ∃ t, u = Value.int i t
 | .str x, u => ∃ t, u = Value.str x t
 | .byt b, u => ∃ t, u = Value.bytes b t
 | .flt b, u => ∃ t, u = Value.float b t
 | .ref a, u => u = Value.ref a
 | .ty n, u => u = Value.type n
abbrev Vals : List V → List Value → Prop := Paired RelV
theorem Vals.length {xs : List V} {us : List Value} (r : Vals xs us) : xs.length = us.length := Paired.length r
theorem Vals.get : ∀ {xs : List V} {us : List Value} {i : Nat} {x : V}, Vals xs us → xs[i]? = some x → ∃ u, us[i]? = some u ∧ RelV x u
 | _, _, _, _, .nil, e => by simp at e
 | _, _, 0, _, .cons r _, e => by simp at e; subst e; exact ⟨_, rfl, r⟩
 | _, _, i + 1, x, .cons _ t, e => by
   obtain ⟨u, h1, h2⟩ := Vals.get (i := i) (x := x) t (by simpa using e)
   exact ⟨u, by simpa using h1, h2⟩
theorem Vals.append : ∀ {xs ys : List V} {us ws : List Value}, Vals xs us → Vals ys ws → Vals (xs ++ ys) (us ++ ws)
 | _, _, _, _, .nil, s => s
 | _, _, _, _, .cons r t, s => .cons r (Vals.append t s)
theorem Vals.take : ∀ {xs : List V} {us : List Value} (n : Nat), Vals xs us → Vals (xs.take n) (us.take n)
 | _, _, 0, _ => .nil
 | _, _, _ + 1, .nil => .nil
 | _, _, n + 1, .cons r t => .cons r (Vals.take n t)
theorem Vals.drop : ∀ {xs : List V} {us : List Value} (n : Nat), Vals xs us → Vals (xs.drop n) (us.drop n)
 | _, _, 0, r => r
 | _, _, _ + 1, .nil => .nil
 | _, _, n + 1, .cons _ t => Vals.drop n t
def RelO : Option V → Option Value → Prop
 | some v, some u => RelV v u
 | none, none => True
 | _, _ => False
def KV {κ : Type} : List (κ × V) → List (κ × Value) → Prop := Paired fun (p : κ × V) (q : κ × Value) => p.1 = q.1 ∧ RelV p.2 q.2
def kV : Key → V
 | .inl i => .int i
 | .inr x => .str x
inductive HO where
 | lst (xs : List V)
 | tup (xs : List V)
 | dK (kvs : List (Key × V)) | dT (kvs : List (List Key × V))
 | set (S : Int → Bool) (n : Nat)
 | ins (C dx : Addr) (fs : List (Str × V))
 | own (x : Addr)
 | xd (fs : List (Str × V))
 | met (f x : Addr)
 | rng (lo hi : Int)
 | frz (o : Obj) (u : HO)
 | tbl (ps : Array Value)
 | ext (φ : Heap → Prop)
abbrev Hp := Addr → Option HO
def upd (H : Hp) (a : Addr) (o : HO) : Hp := fun b => if b = a then some o else H b
theorem upd_same {H : Hp} {a : Addr} {o : HO} : upd H a o a = some o := by unfold upd; rw [if_pos rfl]
theorem upd_ne {H : Hp} {a b : Addr} {o : HO} (h : b ≠ a) : upd H a o b = H b := by unfold upd; rw [if_neg h]
theorem ne_of_none {H : Hp} {a b : Addr} {o : HO} (h : H a = some o) (h' : H b = none) : a ≠ b := by
 intro e; subst e; rw [h] at h'; cases h'
section
variable (P : Program) (w : World)
def ObjOk (H : Hp) (h : Heap) (a : Addr) : HO → Prop
 | .lst xs => xs.length ≤ sizeLine ∧ ∃ (its : List Value) (n : Nat), Vals xs its ∧ h.get? a = some { cls := .type "list", data := .seq its.toArray n }
 | .tup xs => xs.length ≤ sizeLine ∧ ∃ its : List Value, Vals xs its ∧ IsTup h a its.toArray
 | .dK kvs => kvs.length ≤ sizeLine ∧ (a == sysModules) = false ∧ ∃ vs, KV kvs vs ∧ h.DictOf (mixKind P w) a vs
 | .dT kvs => kvs.length ≤ sizeLine ∧ (a == sysModules) = false ∧ ∃ xs : List (List Key × Addr × Value),
     Paired (fun (p : List Key × V) (q : List Key × Addr × Value) => p.1 = q.1 ∧ H q.2.1 = some (.tup (p.1.map kV)) ∧ RelV p.2 q.2.2) kvs xs ∧
     ∃ o es ep, h.get? a = some o ∧ o.ExactDict ∧ o.data = .dict es ep ∧ es.toList = xs.map (entryOfKey (tupleKind (mixKind P w))) ∧ (xs.map (·.1)).Nodup
 | .set S n => h.SetOf (intKind P w) a S n
 | .ins C dx fs => H dx = some (.own a) ∧ fs.length ≤ 1000 ∧ dx ≠ a ∧ h.get? a = some (PySem.W.instObj C dx) ∧
     ∃ mA, h.Ns1 dx mA ∧ (∀ f, RelO (fs.lookup f) (mA f)) ∧ PySem.Within mA (fs.map (·.1))
 | .own _ => ∃ o, h.get? a = some o
 | .xd fs => ∃ mA, h.Ns1 a mA ∧ ∀ f, RelO (fs.lookup f) (mA f)
 | .rng lo hi => ∃ t u v, h.get? a = some { cls := .type "range", data := .fields #[.int lo t, .int hi u, .int 1 v] }
 | .frz o u => h.get? a = some o ∧ ObjOk H h a u
 | .tbl ps => h.get? a = some { cls := .none, data := .fields ps }
 | .met f x => h.get? a = some (PySem.W.methodObj (.ref f) (.ref x))
 | .ext φ => φ h ∧ (∃ o, h.get? a = some o) ∧ ∀ h1 h2 : Heap, φ h1 → (∀ o, h1.get? a = some o → h2.get? a = some o) → φ h2
def HOk (H : Hp) (h : Heap) : Prop := ∀ a o, H a = some o → ObjOk P w H h a o
end
section
variable {P : Program} {w : World} {H H' : Hp} {h h' : Heap} {a : Addr} {o : HO}
theorem ObjOk.lt (x : ObjOk P w H h a o) : a < h.objs.size := by
 cases o with
 | lst xs => obtain ⟨_, _, _, _, e⟩ := x; exact Heap.lt_size e
 | tup xs => obtain ⟨_, _, _, p⟩ := x; exact p.lt
 | dK kvs => obtain ⟨_, _, _, _, o, _, _, e, _⟩ := x; exact Heap.lt_size e
 | dT kvs => obtain ⟨_, _, _, _, o, _, _, e, _⟩ := x; exact Heap.lt_size e
 | set S n => obtain ⟨o, _, _, _, e, _⟩ := x; exact Heap.lt_size e
 | ins C dx fs => obtain ⟨_, _, _, e, _⟩ := x; exact Heap.lt_size e
 | own y => obtain ⟨_, e⟩ := x; exact Heap.lt_size e
 | xd fs => obtain ⟨_, ⟨_, _, _, e, _⟩, _⟩ := x; exact Heap.lt_size e
 | rng lo hi => obtain ⟨_, _, _, e⟩ := x; exact Heap.lt_size e
 | frz ob u => obtain ⟨e, _⟩ := x; exact Heap.lt_size e
 | tbl ps => exact Heap.lt_size (show h.get? a = some _ from x)
 | met f y => exact Heap.lt_size (show h.get? a = some _ from x)
 | ext φ => obtain ⟨_, ⟨_, e⟩, _⟩ := x; exact Heap.lt_size e
theorem Paired.mapP {α β : Type} {F G : α → β → Prop} : ∀ {l₁ : List α} {l₂ : List β}, Paired F l₁ l₂ → (∀ a b, F a b → G a b) → Paired G l₁ l₂
 | _, _, .nil, _ => .nil
 | _, _, .cons r t, f => .cons (f _ _ r) (Paired.mapP t f)
theorem ObjOk.stay (x : ObjOk P w H h a o) (k : ∀ b u, (b = a ∨ H b = some (.own a)) → h.get? b = some u → h'.get? b = some u)
   (ho : ∀ b, H b = some (.own a) → H' b = some (.own a)) (ht : ∀ b xs, H b = some (.tup xs) → H' b = some (.tup xs)) : ObjOk P w H' h' a o := by
 induction o with
 | lst xs => obtain ⟨z, its, n, r, e⟩ := x; exact ⟨z, its, n, r, k _ _ (.inl rfl) e⟩
 | tup xs => obtain ⟨z, its, r, ob, e, c⟩ := x; exact ⟨z, its, r, ob, k _ _ (.inl rfl) e, c⟩
 | dK kvs => obtain ⟨z, y, vs, r, ob, es, ep, e, c⟩ := x; exact ⟨z, y, vs, r, ob, es, ep, k _ _ (.inl rfl) e, c⟩
 | dT kvs =>
   obtain ⟨z, y, xs, r, ob, es, ep, e, c⟩ := x
   exact ⟨z, y, xs, Paired.mapP r fun p q z => ⟨z.1, ht _ _ z.2.1, z.2.2⟩, ob, es, ep, k _ _ (.inl rfl) e, c⟩
 | set S n => obtain ⟨ob, es, ep, t, e, c⟩ := x; exact ⟨ob, es, ep, t, k _ _ (.inl rfl) e, c⟩
 | ins C dx fs =>
   obtain ⟨d, z, ne, e, mA, ⟨od, es, ep, e2, c⟩, r⟩ := x
   exact ⟨ho _ d, z, ne, k _ _ (.inl rfl) e, mA, ⟨od, es, ep, k _ _ (.inr d) e2, c⟩, r⟩
 | own y => obtain ⟨ob, e⟩ := x; exact ⟨ob, k _ _ (.inl rfl) e⟩
 | xd fs => obtain ⟨mA, ⟨od, es, ep, e, c⟩, r⟩ := x; exact ⟨mA, ⟨od, es, ep, k _ _ (.inl rfl) e, c⟩, r⟩
 | rng lo hi => obtain ⟨t, u, v, e⟩ := x; exact ⟨t, u, v, k _ _ (.inl rfl) e⟩
 | frz ob u ih => obtain ⟨e, q⟩ := x; exact ⟨k _ _ (.inl rfl) e, ih q⟩
 | tbl ps =>
   have e : h.get? a = some { cls := .none, data := .fields ps } := x
   show h'.get? a = some { cls := .none, data := .fields ps }
   exact k a _ (.inl rfl) e
 | met f y =>
   have e : h.get? a = some (PySem.W.methodObj (.ref f) (.ref y)) := x
   show h'.get? a = some (PySem.W.methodObj (.ref f) (.ref y))
   exact k a _ (.inl rfl) e
 | ext φ => obtain ⟨p, ⟨o, e⟩, st⟩ := x; exact ⟨st _ _ p fun o q => k _ _ (.inl rfl) q, ⟨o, k _ _ (.inl rfl) e⟩, st⟩
theorem HOk.lt (x : HOk P w H h) (e : H a = some o) : a < h.objs.size := (x a o e).lt
theorem HOk.fresh (x : HOk P w H h) (e : h.objs.size ≤ a) : H a = none := by
 cases q : H a with
 | none => rfl
 | some u => exact absurd (Nat.lt_of_lt_of_le (x.lt q) e) (Nat.lt_irrefl _)
theorem HOk.kept (x : HOk P w H h) (k : ∀ b u, h.get? b = some u → h'.get? b = some u) : HOk P w H h' := fun a o e =>
 (x a o e).stay (fun b u _ q => k b u q) (fun _ q => q) fun _ _ q => q
theorem HOk.laid (x : HOk P w H h) (k : ∀ b u, h.get? b = some u → h'.get? b = some u) (hp : h.objs.size ≤ a) (new : ObjOk P w (upd H a o) h' a o) : HOk P w (upd H a o) h' := fun b u e => by
 have hn := x.fresh hp
 by_cases hb : b = a
 · subst hb; rw [upd_same] at e; cases e; exact new
 · rw [upd_ne hb] at e
   exact (x b u e).stay (fun c v _ q => k c v q) (fun c q => by rw [upd_ne (ne_of_none q hn)]; exact q) fun c xs q => by rw [upd_ne (ne_of_none q hn)]; exact q
end
def Rd (H : Hp) (a : Addr) (u : HO) : Prop := H a = some u ∨ ∃ o, H a = some (.frz o u)
theorem Rd.ok {P : Program} {w : World} {H : Hp} {h : Heap} {a : Addr} {u : HO} (r : Rd H a u) (x : HOk P w H h) : ObjOk P w H h a u := by
 rcases r with r | ⟨o, r⟩
 · exact x a u r
 · obtain ⟨_, q⟩ := x a _ r
   exact q
def Mut : Option HO → Prop
 | some (.lst _) => True
 | some (.dK _) => True
 | some (.dT _) => True
 | some (.set _ _) => True
 | some (.ins _ _ _) => True
 | some (.ext _) => True
 | _ => False
section
variable {P : Program} {w : World} {H : Hp} {h h' : Heap} {x e : Addr} {o' : HO}
theorem HOk.write (ok : HOk P w H h) (mu : Mut (H x)) (he : e = x ∨ H e = some (.own x)) (k : ∀ b u, b ≠ e → h.get? b = some u → h'.get? b = some u) (heo : ∃ u, h'.get? e = some u)
   (new : ObjOk P w (upd H x o') h' x o') : HOk P w (upd H x o') h' := fun b u q => by
 have nown : ∀ c y, H c = some (.own y) → c ≠ x := fun c y r z => by subst z; rw [r] at mu; exact mu
 have ntup : ∀ c xs, H c = some (.tup xs) → c ≠ x := fun c xs r z => by subst z; rw [r] at mu; exact mu
 by_cases hb : b = x
 · subst hb; rw [upd_same] at q; cases q; exact new
 · rw [upd_ne hb] at q
   by_cases hbe : b = e
   · have q' : H b = some (.own x) := by
       rcases he with z | z
       · exact absurd (hbe.trans z) hb
       · rw [hbe]; exact z
     rw [q] at q'; cases q'
     obtain ⟨v, hv⟩ := heo
     exact ⟨v, by rw [hbe]; exact hv⟩
   · refine (ok b u q).stay (fun c v hc r => k c v ?_ r) (fun c r => by rw [upd_ne (nown c b r)]; exact r) fun c xs r => by rw [upd_ne (ntup c xs r)]; exact r
     rcases hc with rfl | hc
     · exact hbe
     · rintro rfl
       rcases he with z | z
       · exact nown c b hc z
       · rw [hc] at z; cases z; exact hb rfl
end
structure Un (fs ex : List Addr) (H H' : Hp) (h h' : Heap) : Prop where
 keep : ∀ b o, h.get? b = some o → H b = none → b ∉ fs → b ∉ ex → h'.get? b = some o
 slot : ∀ b o, h.get? b = some o → H b = none → b ∈ fs → b ∉ ex → ∃ sl, h'.get? b = some { o with slots := sl }
 free : ∀ b o, h.get? b = some o → H b = none → b ∉ ex → H' b = none
 there : ∀ b o, h.get? b = some o → b ∉ ex → ∃ o', h'.get? b = some o'
 tups : ∀ b xs, H b = some (.tup xs) → H' b = some (.tup xs)
 frzs : ∀ b o u, H b = some (.frz o u) → H' b = some (.frz o u)
 tbls : ∀ b ps, H b = some (.tbl ps) → ∃ more, H' b = some (.tbl (ps ++ more))
section
variable {fs fs' ex ex' : List Addr} {H H1 H2 : Hp} {h h1 h2 h' : Heap} {a x e : Addr} {o : HO}
theorem Un.any (u : Un fs ex H H1 h h1) {b : Addr} {ob : Obj} (q : h.get? b = some ob) (n : H b = none) (hx : b ∉ ex) : ∃ sl, h1.get? b = some { ob with slots := sl } := by
 by_cases hb : b ∈ fs
 · exact u.slot b ob q n hb hx
 · exact ⟨ob.slots, u.keep b ob q n hb hx⟩
theorem Un.kept (k : ∀ b u, h.get? b = some u → h'.get? b = some u) : Un fs ex H H h h' :=
 ⟨fun b ob q _ _ _ => k b ob q, fun b ob q _ _ _ => ⟨ob.slots, k b ob q⟩, fun _ _ _ n _ => n, fun b ob q _ => ⟨ob, k b ob q⟩, fun _ _ q => q, fun _ _ _ q => q, fun _ ps q => ⟨#[], by rw [q]; simp⟩⟩
theorem Un.refl : Un fs ex H H h h := Un.kept fun _ _ q => q
theorem Un.laid (k : ∀ b u, h.get? b = some u → h'.get? b = some u) (hp : h.objs.size ≤ a) (hn : H a = none) : Un fs ex H (upd H a o) h h' where
 keep := fun b u q _ _ _ => k b u q
 slot := fun b u q _ _ _ => ⟨u.slots, k b u q⟩
 free := fun b u q n _ => by rw [upd_ne (Nat.ne_of_lt (Nat.lt_of_lt_of_le (Heap.lt_size q) hp))]; exact n
 there := fun b u q _ => ⟨u, k b u q⟩
 tups := fun b xs q => by rw [upd_ne (ne_of_none q hn)]; exact q
 frzs := fun b u xs q => by rw [upd_ne (ne_of_none q hn)]; exact q
 tbls := fun b ps q => ⟨#[], by rw [upd_ne (ne_of_none q hn), q]; simp⟩
theorem Un.write (mu : Mut (H x)) (he : e = x ∨ H e = some (.own x)) (k : ∀ b u, b ≠ e → h.get? b = some u → h'.get? b = some u) (heo : ∃ u, h'.get? e = some u) : Un fs ex H (upd H x o) h h' := by
 have hx : ∀ b, H b = none → b ≠ x := fun b n z => by subst z; rw [n] at mu; exact mu
 have hb : ∀ b, H b = none → b ≠ e := fun b n z => by
   subst z
   rcases he with r | r
   · exact hx b n r
   · rw [n] at r; cases r
 have hm : ∀ b u, H b = some u → ¬ Mut (some u) → b ≠ x := fun b u q nm z => by subst z; rw [q] at mu; exact nm mu
 refine ⟨fun b u q n _ _ => k b u (hb b n) q, fun b u q n _ _ => ⟨u.slots, k b u (hb b n) q⟩, fun b u q n _ => by rw [upd_ne (hx b n)]; exact n, fun b u q _ => ?_,
   fun b xs q => by rw [upd_ne (hm b _ q fun z => z)]; exact q, fun b u xs q => by rw [upd_ne (hm b _ q fun z => z)]; exact q, fun b ps q => ⟨#[], by rw [upd_ne (hm b _ q fun z => z), q]; simp⟩⟩
 by_cases hbe : b = e
 · subst hbe; exact heo
 · exact ⟨u, k b u hbe q⟩
end
def trk (h : Heap) (H : Hp) : List Addr := (List.range h.objs.size).filter fun a => (H a).isSome
def hidT (h : Heap) (H : Hp) : Heap := PySem.W.hideAll h (trk h H)
theorem hidT_size (h : Heap) (H : Hp) : (hidT h H).objs.size = h.objs.size := PySem.W.hideAll_size _ _
theorem hidT_get {h : Heap} {H : Hp} {b : Addr} {o : Obj} (e : h.get? b = some o) (n : H b = none) : (hidT h H).get? b = some o :=
 PySem.W.hideAll_get _ e fun hm => by
   have q : (H b).isSome = true := (List.mem_filter.mp hm).2
   rw [n] at q; simp at q
theorem of_hidT {h : Heap} {H : Hp} {b : Addr} {o : Obj} (e : (hidT h H).get? b = some o) : h.get? b = some o ∧ H b = none := by
 have e' : h.get? b = some o := PySem.W.of_hideAll (trk h H) e
 refine ⟨e', ?_⟩
 cases q : H b with
 | none => rfl
 | some x =>
   have hm : b ∈ trk h H := List.mem_filter.mpr ⟨List.mem_range.mpr (Heap.lt_size e'), by simp [q]⟩
   have z : (hidT h H).get? b = none := PySem.W.hideAll_none (trk h H) hm
   rw [z] at e; cases e
end L2
namespace L2
open PySem PySem.Spec PyProof.Rows
structure Mod (K : PySem.W.Frag) (mg : Str → Option Value) (base : Heap) : Prop where
 kin : K.In base
 glob : base.Ns mainGlobals mg
 blt : ∃ mb, base.Ns builtinsNs mb ∧ ∀ x : Str, x ≠ "__name__" → mb x = bootBuiltins x
 nolimit : base.NoLimit
structure Cx where
 prog : Program
 w : World
 K : PySem.W.Frag
 mg : Str → Option Value
 base : Heap
 A : Around
 N : List Str
 s₀ : Shared
 H₀ : Hp
 env : Env
 outer : List Env
 stack : List Env
 ex : List Addr
 fn : Str → Bool
 calm : Bool
 pn : List (Addr × Obj)
 xe : Value → Shared → Prop
def frs (l : List Env) : List Addr := l.filterMap (·.frame)
abbrev Cx.fs (X : Cx) : List Addr := frs X.outer
def Vis (sc : Scope) (x : Str) : Prop := sc.names.lookup x = some .local ∨ sc.names.lookup x = some .cell ∨ sc.names.lookup x = some .free
def Loc (sc : Scope) (x : Str) : Prop := sc.names.lookup x = some .local ∨ sc.names.lookup x = some .cell
def Look (env : Env) (h : Heap) (m : Str → Option Value) (x : Str) (u : Value) : Prop :=
 (env.kindOf x = some .local ∧ m x = some u) ∨ ((env.kindOf x = some .cell ∨ env.kindOf x = some .free) ∧ ∃ c, env.cells.lookup x = some c ∧ h.IsCell c (some u))
structure Cx.Ok (X : Cx) : Prop where
 mod : Mod X.K X.mg X.base
 kind : X.env.scope.kind = .function
 glob : X.env.globals = mainGlobals
 blt : X.env.builtins = builtinsNs
 above : X.s₀.heap.objs.size ≤ X.env.locals
 inj : ∀ x y c, X.env.cells.lookup x = some c → X.env.cells.lookup y = some c → x = y
 has : ∀ x, (X.env.kindOf x = some .cell ∨ X.env.kindOf x = some .free) → ∃ c, X.env.cells.lookup x = some c
 cab : ∀ x c, X.fn x = true → X.env.cells.lookup x = some c → X.s₀.heap.objs.size ≤ c
 hd : X.calm = true → X.A.handled = none
 frames : X.A.frames = some X.stack
 stk : X.stack = X.outer ∨ (X.stack = X.env :: X.outer ∧ X.env.frame = some X.env.locals)
 exf : ∀ b ∈ X.ex, b ≠ X.env.locals ∧ ∀ x c, X.env.cells.lookup x = some c → c ≠ b
 bs : ∀ b o, X.base.get? b = some o → X.s₀.heap.get? b = some o ∧ X.H₀ b = none
 bsz : X.base.objs.size ≤ X.s₀.heap.objs.size
 noex : ∀ b o, X.base.get? b = some o → b ∉ X.ex
 exfs : ∀ b ∈ X.ex, b ∉ X.fs
 funs : X.s₀.heap.FunFrames X.base X.outer
 frf : ∀ b ∈ X.fs, X.H₀ b = none
structure Inv (X : Cx) (pins : List (Addr × Obj)) (σ : List (Option V)) (H : Hp) (s : Shared) : Prop where
 ok : X.Ok
 os : s.os = X.s₀.os
 bare : AllBare s.gens
 base : Un X.fs X.ex X.H₀ H X.s₀.heap s.heap
 loc : ∃ m, s.heap.Ns X.env.locals m ∧ ∀ (i : Nat) (x : Str) (v : V), X.N[i]? = some x → σ[i]? = some (some v) → Vis X.env.scope x → ∃ u, RelV v u ∧ Look X.env s.heap m x u
 cell : ∀ x c, X.env.cells.lookup x = some c → ∃ v, s.heap.IsCell c v
 free : H X.env.locals = none
 freeC : ∀ x c, X.env.cells.lookup x = some c → H c = none
 pin : ∀ p ∈ X.pn ++ pins, s.heap.get? p.1 = some p.2 ∧ H p.1 = none ∧ p.1 ≠ X.env.locals ∧ p.1 ∉ X.fs ∧ ∀ v, p.2.data ≠ .cell v
 hok : HOk X.prog X.w H s.heap
 len : σ.length = X.N.length
section
variable {X : Cx} {pins : List (Addr × Obj)} {σ : List (Option V)} {H H' : Hp} {s : Shared} {h' : Heap}
theorem Cx.Ok.nofr (ok : X.Ok) {b : Addr} {o : Obj} (e : X.base.get? b = some o) : b ∉ X.fs := fun hb => by
 have := (ok.funs.mem hb).1
 rw [e] at this; cases this
theorem Inv.bs (I : Inv X pins σ H s) : ∀ b o, X.base.get? b = some o → s.heap.get? b = some o ∧ H b = none := fun b o e =>
 ⟨I.base.keep b o (I.ok.bs b o e).1 (I.ok.bs b o e).2 (I.ok.nofr e) (I.ok.noex b o e), I.base.free b o (I.ok.bs b o e).1 (I.ok.bs b o e).2 (I.ok.noex b o e)⟩
theorem Inv.bk (I : Inv X pins σ H s) : ∀ b o, X.base.get? b = some o → s.heap.get? b = some o := fun b o e => (I.bs b o e).1
theorem Inv.mod (I : Inv X pins σ H s) : Mod X.K X.mg X.base := I.ok.mod
theorem Inv.kIn (I : Inv X pins σ H s) : X.K.In s.heap := I.ok.mod.kin.keeps I.bk
theorem Inv.lt (I : Inv X pins σ H s) : X.env.locals < s.heap.objs.size := let ⟨_, hn, _⟩ := I.loc; hn.lt
theorem Inv.sz (I : Inv X pins σ H s) : X.s₀.heap.objs.size ≤ s.heap.objs.size := Nat.le_trans I.ok.above (Nat.le_of_lt I.lt)
theorem Inv.nofs (I : Inv X pins σ H s) {a : Addr} (h : s.heap.objs.size ≤ a) : a ∉ X.fs := fun hb => by
 obtain ⟨_, o, ho, _⟩ := I.ok.funs.mem hb
 exact absurd (Nat.lt_of_lt_of_le (Heap.lt_size ho) (Nat.le_trans I.sz h)) (Nat.lt_irrefl _)
theorem Inv.cne (I : Inv X pins σ H s) : ∀ x c, X.env.cells.lookup x = some c → c ≠ X.env.locals := fun x c e z => by
 obtain ⟨v, o, ho, hd⟩ := I.cell x c e
 obtain ⟨m, ⟨o', es, ep, ho', hd', _⟩, _⟩ := I.loc
 rw [z, ho'] at ho; cases ho; rw [hd'] at hd; cases hd
theorem Inv.funs (I : Inv X pins σ H s) : s.heap.FunFrames X.base X.outer := by
 have all : ∀ (l : List Env), (∀ b ∈ frs l, b ∈ X.fs) → X.s₀.heap.FunFrames X.base l → s.heap.FunFrames X.base l := by
   intro l
   induction l with
   | nil => intro _ _; trivial
   | cons env r ih =>
     intro hs hl
     obtain ⟨hk, ⟨L, o, hf, hn, ho, hd⟩, hr⟩ := hl
     have hL : L ∈ X.fs := hs L (by unfold frs; rw [List.filterMap_cons, hf]; exact List.mem_cons_self)
     obtain ⟨sl, e⟩ := I.base.slot L o ho (I.ok.frf L hL) hL fun z => I.ok.exfs L z hL
     exact ⟨hk, ⟨L, _, hf, hn, e, hd⟩, ih (fun b hb => hs b (by unfold frs; rw [List.filterMap_cons, hf]; exact List.mem_cons_of_mem _ hb)) hr⟩
 exact all X.outer (fun _ hb => hb) I.ok.funs
theorem Inv.stack (I : Inv X pins σ H s) : s.heap.FunFrames X.base X.stack := by
 rcases I.ok.stk with e | ⟨e, hf⟩
 · rw [e]; exact I.funs
 · rw [e]
   obtain ⟨m, hn, _⟩ := I.loc
   refine .cons (by rw [I.ok.kind]; decide) hf hn ?_ I.funs
   exact Heap.get?_none_of_le (Nat.le_trans I.ok.bsz I.ok.above)
theorem Inv.stkSub (I : Inv X pins σ H s) : ∀ b ∈ frs X.stack, b ∈ X.env.locals :: X.fs := fun b hb => by
 rcases I.ok.stk with e | ⟨e, hf⟩
 · rw [e] at hb; exact List.mem_cons_of_mem _ hb
 · rw [e] at hb
   unfold frs at hb
   rw [List.filterMap_cons, hf] at hb
   exact hb
theorem Inv.stkFree (I : Inv X pins σ H s) : ∀ b ∈ frs X.stack, H b = none := fun b hb => by
 rcases List.mem_cons.mp (I.stkSub b hb) with e | hb
 · rw [e]; exact I.free
 · obtain ⟨_, o, ho, _⟩ := I.ok.funs.mem hb
   exact I.base.free b o ho (I.ok.frf b hb) fun z => I.ok.exfs b z hb
theorem Inv.step {g' : Array GenState} {t' : Nat} {d' : Drawn} {ch : List Addr} (I : Inv X pins σ H s)
   (hch : ∀ b ∈ ch, (b ∈ X.ex ∨ X.s₀.heap.objs.size ≤ b) ∧ b ≠ X.env.locals ∧ (∀ x c, X.env.cells.lookup x = some c → c ≠ b) ∧ ∀ p ∈ X.pn ++ pins, p.1 ≠ b)
   (keep : ∀ b o, b ≠ X.env.locals → b ∉ X.fs → b ∉ ch → s.heap.get? b = some o → H b = none → h'.get? b = some o)
   (slot : ∀ b o, b ≠ X.env.locals → b ∈ X.fs → b ∉ ch → s.heap.get? b = some o → H b = none → ∃ sl, h'.get? b = some { o with slots := sl }) (free : ∀ b o, b ∉ ch → s.heap.get? b = some o → H b = none → H' b = none)
   (there : ∀ b o, b ∉ ch → s.heap.get? b = some o → ∃ o', h'.get? b = some o')
   (tups : ∀ b xs, H b = some (.tup xs) → H' b = some (.tup xs)) (frzs : ∀ b o u, H b = some (.frz o u) → H' b = some (.frz o u)) (tbls : ∀ b ps, H b = some (.tbl ps) → ∃ more, H' b = some (.tbl (ps ++ more)))
   (ns : ∀ m, s.heap.Ns X.env.locals m → h'.Ns X.env.locals m) (hok : HOk X.prog X.w H' h') (hg : AllBare g') :
   Inv X pins σ H' { s with heap := h', gens := g', drawn := d', toks := t' } := by
 have neL : ∀ b o, X.s₀.heap.get? b = some o → b ≠ X.env.locals := fun b o e => Nat.ne_of_lt (Nat.lt_of_lt_of_le (Heap.lt_size e) I.ok.above)
 have neC : ∀ b o, X.s₀.heap.get? b = some o → b ∉ X.ex → b ∉ ch := fun b o e hx hb => by
   rcases (hch b hb).1 with z | z
   · exact hx z
   · exact absurd (Nat.lt_of_lt_of_le (Heap.lt_size e) z) (Nat.lt_irrefl _)
 have cellK : ∀ x c, X.env.cells.lookup x = some c → ∀ v, s.heap.IsCell c v → h'.IsCell c v := fun x c e v ⟨o, ho, hd⟩ => by
   have nch : c ∉ ch := fun z => (hch c z).2.2.1 x c e rfl
   by_cases hc : c ∈ X.fs
   · obtain ⟨sl, q⟩ := slot c o (I.cne x c e) hc nch ho (I.freeC x c e)
     exact ⟨_, q, hd⟩
   · exact ⟨o, keep c o (I.cne x c e) hc nch ho (I.freeC x c e), hd⟩
 refine ⟨I.ok, I.os, hg, ⟨fun b o e n hb hx => ?_, fun b o e n hb hx => ?_, fun b o e n hx => ?_, fun b o e hx => ?_, fun b xs e => tups b xs (I.base.tups b xs e), fun b o xs e => frzs b o xs (I.base.frzs b o xs e), fun b ps e => ?_⟩, ?_, fun x c e => ?_, ?_, fun x c e => ?_, fun p hp => ?_, hok, I.len⟩
 · exact keep b o (neL b o e) hb (neC b o e hx) (I.base.keep b o e n hb hx) (I.base.free b o e n hx)
 · obtain ⟨sl, e1⟩ := I.base.slot b o e n hb hx
   obtain ⟨sl', e2⟩ := slot b _ (neL b o e) hb (neC b o e hx) e1 (I.base.free b o e n hx)
   exact ⟨sl', e2⟩
 · obtain ⟨o', e1⟩ := I.base.there b o e hx
   exact free b o' (neC b o e hx) e1 (I.base.free b o e n hx)
 · obtain ⟨o', e1⟩ := I.base.there b o e hx
   exact there b o' (neC b o e hx) e1
 · obtain ⟨m1, e1⟩ := I.base.tbls b ps e
   obtain ⟨m2, e2⟩ := tbls b _ e1
   exact ⟨m1 ++ m2, by rw [e2, Array.append_assoc]⟩
 · obtain ⟨m, hn, hl⟩ := I.loc
   refine ⟨m, ns m hn, fun i x v e1 e2 e3 => ?_⟩
   obtain ⟨u, r, l⟩ := hl i x v e1 e2 e3
   refine ⟨u, r, ?_⟩
   rcases l with l | ⟨k, c, e, z⟩
   · exact .inl l
   · exact .inr ⟨k, c, e, cellK x c e _ z⟩
 · obtain ⟨v, z⟩ := I.cell x c e
   exact ⟨v, cellK x c e v z⟩
 · obtain ⟨m, ⟨o, _, _, ho, _⟩, _⟩ := I.loc
   exact free _ o (fun z => (hch _ z).2.1 rfl) ho I.free
 · obtain ⟨v, o, ho, hd⟩ := I.cell x c e
   exact free c o (fun z => (hch c z).2.2.1 x c e rfl) ho (I.freeC x c e)
 · obtain ⟨e, n, ne, nf, d⟩ := I.pin p hp
   have nch : p.1 ∉ ch := fun z => (hch p.1 z).2.2.2 p hp rfl
   exact ⟨keep p.1 p.2 ne nf nch e n, free p.1 p.2 nch e n, ne, nf, d⟩
theorem Inv.un {t' : Nat} (I : Inv X pins σ H s) (u : Un X.fs [] H H' s.heap h') (hok : HOk X.prog X.w H' h') : Inv X pins σ H' { s with heap := h', toks := t' } := by
 obtain ⟨m, ⟨o, es, ep, ho, r⟩, _⟩ := id I.loc
 obtain ⟨sl, hL⟩ := u.any ho I.free (by simp)
 exact I.step (g' := s.gens) (d' := s.drawn) (ch := []) (fun _ z => nomatch z) (fun b o _ hb _ e n => u.keep b o e n hb (by simp)) (fun b o _ hb _ e n => u.slot b o e n hb (by simp)) (fun b o _ e n => u.free b o e n (by simp)) (fun b o _ e => u.there b o e (by simp)) u.tups u.frzs u.tbls (fun m' hm => by
   obtain ⟨o', es', ep', ho', r'⟩ := hm
   rw [ho] at ho'; cases ho'
   exact ⟨_, es', ep', hL, r'⟩) hok I.bare
theorem Inv.call {g' : Array GenState} {t' : Nat} {d' : Drawn} {ch : List Addr} (I : Inv X pins σ H s) (u : Un (frs X.stack) ch H H' s.heap h') (hok : HOk X.prog X.w H' h') (hg : AllBare g')
   (hch : ∀ b ∈ ch, (b ∈ X.ex ∨ X.s₀.heap.objs.size ≤ b) ∧ b ≠ X.env.locals ∧ (∀ x c, X.env.cells.lookup x = some c → c ≠ b) ∧ ∀ p ∈ X.pn ++ pins, p.1 ≠ b) :
   Inv X pins σ H' { s with heap := h', gens := g', drawn := d', toks := t' } := by
 obtain ⟨m, ⟨o, es, ep, ho, r⟩, _⟩ := id I.loc
 obtain ⟨sl, hL⟩ := u.any ho I.free fun z => (hch _ z).2.1 rfl
 exact I.step (ch := ch) hch (fun b o hL hb hc e n => u.keep b o e n (fun z => (List.mem_cons.mp (I.stkSub b z)).elim hL hb) hc) (fun b o _ _ hc e n => u.any e n hc) (fun b o hc e n => u.free b o e n hc) (fun b o hc e => u.there b o e hc) u.tups u.frzs u.tbls (fun m' hm => by
   obtain ⟨o', es', ep', ho', r'⟩ := hm
   rw [ho] at ho'; cases ho'
   exact ⟨_, es', ep', hL, r'⟩) hok hg
theorem Inv.turned {t' : Nat} {it : Addr} (I : Inv X pins σ H s) (k : ∀ b o, b ≠ it → s.heap.get? b = some o → h'.get? b = some o) (hn : H it = none) (hL : it ≠ X.env.locals)
   (h1 : it ∈ X.ex ∨ X.s₀.heap.objs.size ≤ it) (h2 : ∀ x c, X.env.cells.lookup x = some c → c ≠ it) (h3 : ∀ p ∈ X.pn ++ pins, p.1 ≠ it) : Inv X pins σ H { s with heap := h', toks := t' } := by
 have nit : ∀ b u, H b = some u → b ≠ it := fun b u e z => by rw [z, hn] at e; cases e
 refine I.step (g' := s.gens) (d' := s.drawn) (ch := [it]) (fun b hb => ?_) (fun b o _ _ hc e _ => k b o (fun z => hc (by simp [z])) e) (fun b o _ _ hc e _ => ⟨o.slots, k b o (fun z => hc (by simp [z])) e⟩) (fun _ _ _ _ n => n)
   (fun b o hc e => ⟨o, k b o (fun z => hc (by simp [z])) e⟩) (fun _ _ e => e) (fun _ _ _ e => e) (fun b ps e => ⟨#[], by rw [e]; simp⟩) (fun m hm => ?_) (fun b u e => ?_) I.bare
 · have e : b = it := by simpa using hb
   subst e
   exact ⟨h1, hL, h2, h3⟩
 · obtain ⟨o, es, ep, ho, r⟩ := hm
   exact ⟨o, es, ep, k _ o (Ne.symm hL) ho, r⟩
 · refine (I.hok b u e).stay (fun c v hc q => k c v ?_ q) (fun _ q => q) fun _ _ q => q
   rcases hc with z | z
   · rw [z]; exact nit b u e
   · exact nit c _ z
theorem Inv.tok (I : Inv X pins σ H s) (t : Nat) : Inv X pins σ H { s with toks := t } := I.un (h' := s.heap) (t' := t) Un.refl I.hok
theorem Inv.kept {t' : Nat} (I : Inv X pins σ H s) (k : ∀ b u, s.heap.get? b = some u → h'.get? b = some u) : Inv X pins σ H { s with heap := h', toks := t' } := I.un (Un.kept k) (I.hok.kept k)
theorem Inv.laid {a : Addr} {o : HO} {t' : Nat} (I : Inv X pins σ H s) (k : ∀ b u, s.heap.get? b = some u → h'.get? b = some u) (hp : s.heap.objs.size ≤ a) (new : ObjOk X.prog X.w (upd H a o) h' a o) :
   Inv X pins σ (upd H a o) { s with heap := h', toks := t' } := I.un (Un.laid k hp (I.hok.fresh hp)) (I.hok.laid k hp new)
theorem Inv.write {x e : Addr} {o : HO} {t' : Nat} (I : Inv X pins σ H s) (mu : Mut (H x)) (he : e = x ∨ H e = some (.own x)) (k : ∀ b u, b ≠ e → s.heap.get? b = some u → h'.get? b = some u) (heo : ∃ u, h'.get? e = some u)
   (new : ObjOk X.prog X.w (upd H x o) h' x o) : Inv X pins σ (upd H x o) { s with heap := h', toks := t' } := I.un (Un.write mu he k heo) (I.hok.write mu he k heo new)
theorem Inv.pins_of {pins' : List (Addr × Obj)} (I : Inv X pins σ H s) (h : ∀ p ∈ pins', s.heap.get? p.1 = some p.2 ∧ H p.1 = none ∧ p.1 ≠ X.env.locals ∧ p.1 ∉ X.fs ∧ ∀ v, p.2.data ≠ .cell v) : Inv X pins' σ H s :=
 ⟨I.ok, I.os, I.bare, I.base, I.loc, I.cell, I.free, I.freeC, fun p hp => (List.mem_append.mp hp).elim (fun z => I.pin p (List.mem_append_left _ z)) (h p), I.hok, I.len⟩
theorem nodup_ix {N : List Str} (hN : N.Nodup) {i j : Nat} {x : Str} (a : N[i]? = some x) (b : N[j]? = some x) : i = j := by
 obtain ⟨h1, e1⟩ := List.getElem?_eq_some_iff.mp a
 obtain ⟨h2, e2⟩ := List.getElem?_eq_some_iff.mp b
 exact (List.getElem_inj hN).mp (e1.trans e2.symm)
theorem store_ok2 {M : Model} {A : Around} {E : Value → Shared → Prop} {i : Nat} {x : Str} {v : V} {u : Value} {Q : Unit → Shared → Prop} (I : Inv X pins σ H s) (hN : X.N.Nodup) (hi : X.N[i]? = some x) (hx : Loc X.env.scope x) (r : RelV v u)
   (h : ∀ s', Inv X pins (σ.set i (some v)) H s' → (∃ a, Heap.SameBut a s.heap s'.heap ∧ (a = X.env.locals ∨ X.env.cells.lookup x = some a)) → Q () s') (hf : X.fn x = true ∨ X.env.scope.names.lookup x = some .local := by first | exact .inl rfl | exact .inr rfl | assumption) : wpAny M A (storeName X.env x u) Q E s := by
 obtain ⟨m, hn, hl⟩ := id I.loc
 have hcls : (X.env.scope.kind == .class || (X.env.scope.kind == .module && X.env.locals != X.env.globals)) = false := by rw [I.ok.kind]; rfl
 have hiσ : i < σ.length := by rw [I.len]; exact (List.getElem?_eq_some_iff.mp hi).1
 have cne := I.cne
 have tracked : ∀ {a : Addr} {h' : Heap}, (∃ o, s.heap.get? a = some o ∧ H a = none) → Heap.SameBut a s.heap h' → HOk X.prog X.w H h' := fun {a h'} ha hs b ob e => by
   obtain ⟨_, _, hfree⟩ := ha
   refine (I.hok b ob e).stay (fun c w' hc q => (hs.2 c ?_).trans q) (fun _ q => q) fun _ _ q => q
   rintro rfl
   rcases hc with rfl | hc
   · rw [hfree] at e; cases e
   · rw [hfree] at hc; cases hc
 rcases hx with hk | hk
 · refine wpAny_storeName_local hk hn (fun h' hn' hs => ?_) hcls
   obtain ⟨oL, _, _, hoL, _⟩ := id hn
   refine h _ ⟨I.ok, I.os, I.bare, ⟨fun b o e n hb hx => ?_, fun b o e n hb hx => ?_, I.base.free, fun b o e hx => ?_, I.base.tups, I.base.frzs, I.base.tbls⟩, ⟨_, hn', fun j y v' e1 e2 e3 => ?_⟩, fun y c e => ?_, I.free, I.freeC, fun p hp => ?_, tracked ⟨oL, hoL, I.free⟩ hs, by simpa using I.len⟩ ⟨_, hs, .inl rfl⟩
   · exact (hs.2 b (Nat.ne_of_lt (Nat.lt_of_lt_of_le (Heap.lt_size e) I.ok.above))).trans (I.base.keep b o e n hb hx)
   · obtain ⟨sl, e1⟩ := I.base.slot b o e n hb hx
     exact ⟨sl, (hs.2 b (Nat.ne_of_lt (Nat.lt_of_lt_of_le (Heap.lt_size e) I.ok.above))).trans e1⟩
   · obtain ⟨o', e1⟩ := I.base.there b o e hx
     exact ⟨o', (hs.2 b (Nat.ne_of_lt (Nat.lt_of_lt_of_le (Heap.lt_size e) I.ok.above))).trans e1⟩
   · by_cases hj : j = i
     · subst hj
       rw [hi] at e1; cases e1
       rw [List.getElem?_set_self hiσ] at e2
       cases e2
       exact ⟨u, r, .inl ⟨hk, by simp⟩⟩
     · rw [List.getElem?_set_ne (Ne.symm hj)] at e2
       obtain ⟨u', r', q⟩ := hl j y v' e1 e2 e3
       refine ⟨u', r', ?_⟩
       rcases q with ⟨k, e⟩ | ⟨k, c, e, z⟩
       · refine .inl ⟨k, ?_⟩
         have : y ≠ x := fun e => hj (nodup_ix hN e1 (e ▸ hi))
         simp [this, e]
       · exact .inr ⟨k, c, e, z.sameBut hs (cne y c e)⟩
   · obtain ⟨w', z⟩ := I.cell y c e
     exact ⟨w', z.sameBut hs (cne y c e)⟩
   · obtain ⟨e, n, ne, nf, d⟩ := I.pin p hp
     exact ⟨(hs.2 p.1 ne).trans e, n, ne, nf, d⟩
 · have hfn : X.fn x = true := by
     rcases hf with z | z
     · exact z
     · rw [z] at hk; cases hk
   obtain ⟨c, hc⟩ := I.ok.has x (.inl hk)
   obtain ⟨w', z⟩ := I.cell x c hc
   refine wpAny_storeName_cell I.ok.kind hk hc z (fun h' hc' hs => ?_)
   obtain ⟨oc, hoc, hocd⟩ := id z
   refine h { s with heap := h' } ⟨I.ok, I.os, I.bare, ⟨fun b o e n hb hx => ?_, fun b o e n hb hx => ?_, I.base.free, fun b o e hx => ?_, I.base.tups, I.base.frzs, I.base.tbls⟩, ⟨m, hn.sameBut hs (Ne.symm (cne x c hc)), fun j y v' e1 e2 e3 => ?_⟩, fun y c' e => ?_, I.free, I.freeC, fun p hp => ?_, tracked ⟨oc, hoc, I.freeC x c hc⟩ hs, by simpa using I.len⟩ ⟨c, hs, .inr hc⟩
   · exact (hs.2 b (Nat.ne_of_lt (Nat.lt_of_lt_of_le (Heap.lt_size e) (I.ok.cab x c hfn hc)))).trans (I.base.keep b o e n hb hx)
   · obtain ⟨sl, e1⟩ := I.base.slot b o e n hb hx
     exact ⟨sl, (hs.2 b (Nat.ne_of_lt (Nat.lt_of_lt_of_le (Heap.lt_size e) (I.ok.cab x c hfn hc)))).trans e1⟩
   · obtain ⟨o', e1⟩ := I.base.there b o e hx
     exact ⟨o', (hs.2 b (Nat.ne_of_lt (Nat.lt_of_lt_of_le (Heap.lt_size e) (I.ok.cab x c hfn hc)))).trans e1⟩
   · by_cases hj : j = i
     · subst hj
       rw [hi] at e1; cases e1
       rw [List.getElem?_set_self hiσ] at e2
       cases e2
       exact ⟨u, r, .inr ⟨.inl hk, c, hc, hc'⟩⟩
     · rw [List.getElem?_set_ne (Ne.symm hj)] at e2
       obtain ⟨u', r', q⟩ := hl j y v' e1 e2 e3
       refine ⟨u', r', ?_⟩
       rcases q with q | ⟨k, c', e, z'⟩
       · exact .inl q
       · refine .inr ⟨k, c', e, z'.sameBut hs ?_⟩
         rintro rfl
         exact hj (nodup_ix hN e1 (I.ok.inj _ _ _ e hc ▸ hi))
   · by_cases hcc : c' = c
     · subst hcc; exact ⟨_, hc'⟩
     · obtain ⟨w2, z2⟩ := I.cell y c' e
       exact ⟨w2, z2.sameBut hs hcc⟩
   · obtain ⟨e, n, ne, nf, d⟩ := I.pin p hp
     refine ⟨(hs.2 p.1 ?_).trans e, n, ne, nf, d⟩
     intro q
     rw [q, hoc] at e
     have q' : oc = p.2 := Option.some.inj e
     exact d w' (by rw [← q']; exact hocd)
theorem store_ok {M : Model} {A : Around} {E : Value → Shared → Prop} {i : Nat} {x : Str} {v : V} {u : Value} {Q : Unit → Shared → Prop} (I : Inv X pins σ H s) (hN : X.N.Nodup) (hi : X.N[i]? = some x) (hx : Loc X.env.scope x) (r : RelV v u)
   (h : ∀ s', Inv X pins (σ.set i (some v)) H s' → Q () s') (hf : X.fn x = true ∨ X.env.scope.names.lookup x = some .local := by first | exact .inl rfl | exact .inr rfl | assumption) : wpAny M A (storeName X.env x u) Q E s :=
 store_ok2 I hN hi hx r (fun s' I' _ => h s' I') hf
theorem Inv.call' {s' : Shared} {ch : List Addr} (I : Inv X pins σ H s) (ho : s'.os = s.os) (u : Un (frs X.stack) ch H H' s.heap s'.heap) (hok : HOk X.prog X.w H' s'.heap) (hg : AllBare s'.gens)
   (hch : ∀ b ∈ ch, (b ∈ X.ex ∨ X.s₀.heap.objs.size ≤ b) ∧ b ≠ X.env.locals ∧ (∀ x c, X.env.cells.lookup x = some c → c ≠ b) ∧ ∀ p ∈ X.pn ++ pins, p.1 ≠ b) : Inv X pins σ H' s' := by
 obtain ⟨h', g', d', t', o'⟩ := s'
 have e : o' = s.os := ho
 subst e
 exact I.call (g' := g') (t' := t') (d' := d') u hok hg hch
end
abbrev XK := Value → Option Addr → Hp → Prop
abbrev St := List (Option V)
abbrev VK := V → Hp → Prop
abbrev TE := St → Hp → VK → Prop
abbrev TT := St → Hp → (Bool → Hp → Prop) → Prop
abbrev TA := St → Hp → (List V → Hp → Prop) → Prop
structure Ends where
 nx : St → Hp → Prop
 rt : VK
 bk : St → Hp → Prop := fun _ _ => False
 ct : St → Hp → Prop := fun _ _ => False
abbrev TS := Ends → St → Hp → Prop
def EP (X : Cx) (pins : List (Addr × Obj)) (σ : St) (Q : VK) (u : Value) (s' : Shared) : Prop := ∃ v H', Inv X pins σ H' s' ∧ RelV v u ∧ Q v H'
def TP (X : Cx) (pins : List (Addr × Obj)) (σ : St) (Q : Bool → Hp → Prop) (b : Bool) (s' : Shared) : Prop := ∃ H', Inv X pins σ H' s' ∧ Q b H'
def AP (X : Cx) (pins : List (Addr × Obj)) (σ : St) (Q : List V → Hp → Prop) (us : List Value) (s' : Shared) : Prop := ∃ vs H', Inv X pins σ H' s' ∧ Vals vs us ∧ Q vs H'
def SP (X : Cx) (pins : List (Addr × Obj)) (D : Ends) (f : Flow) (s' : Shared) : Prop :=
 match f with
 | .next => ∃ σ' H', Inv X pins σ' H' s' ∧ D.nx σ' H'
 | .brk => ∃ σ' H', Inv X pins σ' H' s' ∧ D.bk σ' H'
 | .cont => ∃ σ' H', Inv X pins σ' H' s' ∧ D.ct σ' H'
 | .ret u => ∃ v σ' H', Inv X pins σ' H' s' ∧ RelV v u ∧ D.rt v H'
def PE (X : Cx) (e : Expr) (t : TE) : Prop :=
 ∀ (pins : List (Addr × Obj)) (s : Shared) (σ : St) (H : Hp) (Q : VK), Inv X pins σ H s → t σ H Q → wpAny (model X.prog X.w) X.A (eval e X.env) (EP X pins σ Q) X.xe s
def PT (X : Cx) (e : Expr) (t : TT) : Prop :=
 ∀ (pins : List (Addr × Obj)) (s : Shared) (σ : St) (H : Hp) (Q : Bool → Hp → Prop), Inv X pins σ H s → t σ H Q → wpAny (model X.prog X.w) X.A (isTrue e X.env (eval e X.env)) (TP X pins σ Q) X.xe s
def PW (X : Cx) (e : Expr) (t : TT) : Prop :=
 ∀ (whole : Sem Value) (pins : List (Addr × Obj)) (s : Shared) (σ : St) (H : Hp) (Q : Bool → Hp → Prop), Inv X pins σ H s → t σ H Q → wpAny (model X.prog X.w) X.A (isTrue e X.env whole) (TP X pins σ Q) X.xe s
theorem PW.pt {X : Cx} {e : Expr} {t : TT} (h : PW X e t) : PT X e t := h _
def PA (X : Cx) (es : List Expr) (t : TA) : Prop :=
 ∀ (pos : Pos) (pins : List (Addr × Obj)) (s : Shared) (σ : St) (H : Hp) (Q : List V → Hp → Prop), Inv X pins σ H s → t σ H Q → wpAny (model X.prog X.w) X.A (spliced (backTo pos (starEach es X.env))) (AP X pins σ Q) X.xe s
def PS (X : Cx) (st : Stmt) (t : TS) : Prop :=
 ∀ (pins : List (Addr × Obj)) (s : Shared) (σ : St) (H : Hp) (D : Ends), Inv X pins σ H s → t D σ H → wpAny (model X.prog X.w) X.A (exec st X.env) (SP X pins D) X.xe s
def PSs (X : Cx) (st : List Stmt) (t : TS) : Prop :=
 ∀ (pins : List (Addr × Obj)) (s : Shared) (σ : St) (H : Hp) (D : Ends), Inv X pins σ H s → t D σ H → wpAny (model X.prog X.w) X.A (execs st X.env) (SP X pins D) X.xe s
theorem thn {α : Type} {t : Sem α} {Q Q' : α → Shared → Prop} {M : Model} {A : Around} {E : Value → Shared → Prop} {s : Shared} (h : wpAny M A t Q E s) (hQ : ∀ a s, Q a s → Q' a s) : wpAny M A t Q' E s := wpAny_mono h hQ fun _ _ x => x
end L2
namespace L2
open PySem PySem.Spec PyProof.Rows
section
variable {X : Cx}
def tVar (i : Nat) : TE := fun σ H Q => ∃ v, σ[i]? = some (some v) ∧ Q v H
def tC (v : V) : TE := fun _ H Q => Q v H
theorem pe_var {i : Nat} {x : Str} {pos : Pos} (hN : X.N[i]? = some x) (hv : Vis X.env.scope x) (hd : (x == ("__debug__" : Str)) = false := by decide) (hcd : (x == ("__classdict__" : Str)) = false := by decide) : PE X (.Name x pos) (tVar i) := by
 intro pins s σ H Q I h
 obtain ⟨v, e, h⟩ := h
 obtain ⟨m, hn, hl⟩ := I.loc
 obtain ⟨u, r, l⟩ := hl i x v hN e hv
 have fin : EP X pins σ Q u s := ⟨v, H, I, r, h⟩
 rcases l with ⟨hk, hm⟩ | ⟨hk, c, hc, hcell⟩
 · exact wpAny_Name (wpAny_loadName_local I.ok.kind hk hn hm fin) hd
 · rcases hk with hk | hk
   · exact wpAny_Name (wpAny_loadName_cell I.ok.kind hk hc hcell fin) hd
   · exact wpAny_Name (wpAny_loadName_free I.ok.kind hk hc hcell fin hcd) hd
theorem pe_int {i j pos} : PE X (.Constant (.int i) j pos) (tC (.int i)) := fun _ _ _ H _ I h => wpAny_Constant_int ⟨.int i, H, I.tok _, ⟨_, rfl⟩, h⟩
theorem pe_bl {b j pos} : PE X (.Constant (.bool b) j pos) (tC (.bl b)) := fun _ _ _ H _ I h => Constant_bool ⟨.bl b, H, I, rfl, h⟩
theorem pe_non {j pos} : PE X (.Constant .none j pos) (tC .non) := fun _ _ _ H _ I h => Constant_none ⟨.non, H, I, rfl, h⟩
theorem pe_str {x j pos} : PE X (.Constant (.str x) j pos) (tC (.str x)) := fun _ _ _ H _ I h => Calls.Constant_str ⟨.str x, H, I.tok _, ⟨_, rfl⟩, h⟩
def Gl (X : Cx) (x : Str) : Prop := X.env.kindOf x = some .globalImplicit
theorem ld_glob {E : Value → Shared → Prop} {pins : List (Addr × Obj)} {s : Shared} {σ : St} {H : Hp} {x : Str} {u : Value} {pos : Pos} {Q : Value → Shared → Prop} (I : Inv X pins σ H s) (hg : Gl X x) (hm : X.mg x = some u) (h : Q u s)
   (hd : (x == ("__debug__" : Str)) = false := by decide) : wpAny (model X.prog X.w) X.A (eval (.Name x pos) X.env) Q E s :=
 Calls.Name_function_global I.ok.kind hg (Calls.loadGlobal_global (by rw [I.ok.glob]; exact I.mod.glob.keeps I.bk) hm h) hd
theorem ld_blt {E : Value → Shared → Prop} {pins : List (Addr × Obj)} {s : Shared} {σ : St} {H : Hp} {x : Str} {u : Value} {pos : Pos} {Q : Value → Shared → Prop} (I : Inv X pins σ H s) (hg : Gl X x) (hm : X.mg x = none) (hv : bootBuiltins x = some u) (h : Q u s)
   (hn : x ≠ "__name__" := by decide) (hd : (x == ("__debug__" : Str)) = false := by decide) : wpAny (model X.prog X.w) X.A (eval (.Name x pos) X.env) Q E s := by
 obtain ⟨mb, h1, h2⟩ := I.mod.blt
 exact Calls.Name_function_global I.ok.kind hg (Calls.loadGlobal_builtin (by rw [I.ok.glob]; exact I.mod.glob.keeps I.bk) hm (by rw [I.ok.blt]; exact h1.keeps I.bk) ((h2 x hn).trans hv) h) hd
theorem pe_glob {x : Str} {v : V} {u : Value} {pos : Pos} (hg : Gl X x) (hm : X.mg x = some u) (r : RelV v u) (hd : (x == ("__debug__" : Str)) = false := by decide) : PE X (.Name x pos) (tC v) :=
 fun _ _ _ H _ I h => ld_glob I hg hm ⟨v, H, I, r, h⟩ hd
theorem pe_bltn {x : Str} {v : V} {u : Value} {pos : Pos} (hg : Gl X x) (hm : X.mg x = none) (hv : bootBuiltins x = some u) (r : RelV v u) (hn : x ≠ "__name__" := by decide) (hd : (x == ("__debug__" : Str)) = false := by decide) : PE X (.Name x pos) (tC v) :=
 fun _ _ _ H _ I h => ld_blt I hg hm hv ⟨v, H, I, r, h⟩ hn hd
variable {a b : Expr} {ta tb : TE} {pos : Pos}
variable {tA tB' : TT} {rest : List Expr}
def tAnd (t u : TT) : TT := fun σ H Q => t σ H fun c H1 => if c = true then u σ H1 Q else Q false H1
def tOr (t u : TT) : TT := fun σ H Q => t σ H fun c H1 => if c = true then Q true H1 else u σ H1 Q
def tNot (t : TT) : TT := fun σ H Q => t σ H fun c H1 => Q (!c) H1
theorem pw_and1 (ha : PT X a tA) : PW X (.BoolOp .And [a] pos) tA := by
 intro wh pins s σ H Q I h
 refine isTrue_and (thn (ha pins s σ H Q I h) fun c s1 e => ?_)
 cases c with
 | true => exact isTrue_and_nil e
 | false => exact e
theorem pw_or1 (ha : PT X a tA) : PW X (.BoolOp .Or [a] pos) tA := by
 intro wh pins s σ H Q I h
 refine isTrue_or (thn (ha pins s σ H Q I h) fun c s1 e => ?_)
 cases c with
 | false => exact isTrue_or_nil e
 | true => exact e
theorem pw_and (ha : PT X a tA) (hb : PW X (.BoolOp .And (b :: rest) pos) tB') : PW X (.BoolOp .And (a :: b :: rest) pos) (tAnd tA tB') := by
 intro wh pins s σ H Q I h
 refine isTrue_and (thn (ha pins s σ H _ I h) fun c s1 ⟨H1, I1, q1⟩ => ?_)
 cases c with
 | true => exact hb wh pins s1 σ H1 Q I1 q1
 | false => exact ⟨H1, I1, q1⟩
theorem pw_or (ha : PT X a tA) (hb : PW X (.BoolOp .Or (b :: rest) pos) tB') : PW X (.BoolOp .Or (a :: b :: rest) pos) (tOr tA tB') := by
 intro wh pins s σ H Q I h
 refine isTrue_or (thn (ha pins s σ H _ I h) fun c s1 ⟨H1, I1, q1⟩ => ?_)
 cases c with
 | true => exact ⟨H1, I1, q1⟩
 | false => exact hb wh pins s1 σ H1 Q I1 q1
theorem pt_not (ha : PT X a tA) : PT X (.UnaryOp .Not a pos) (tNot tA) := by
 intro pins s σ H Q I h
 exact isTrue_not (ha pins s σ H (fun c H1 => Q (!c) H1) I h)
end
end L2
namespace L2
open PySem PySem.Spec PyProof.Rows
def SqL (K : PySem.W.Frag) (H : Hp) (a : Addr) (xs : List V) : Prop :=
 Rd H a (.lst xs) ∨
   ∃ (o : Obj) (its : Array Value) (n : Nat), K.lookup a = some o ∧ o.cls = .type "list" ∧ o.dict = none ∧ o.data = .seq its n ∧ its.size ≤ sizeLine ∧ Vals xs its.toList
def SqT (K : PySem.W.Frag) (H : Hp) (a : Addr) (xs : List V) : Prop :=
 Rd H a (.tup xs) ∨
   ∃ (o : Obj) (its : Array Value) (n : Nat), K.lookup a = some o ∧ o.cls = .type "tuple" ∧ o.data = .seq its n ∧ its.size ≤ sizeLine ∧ Vals xs its.toList
def absV : Value → Option V
 | .none => some .non
 | .bool b => some (.bl b)
 | .int i _ => some (.int i)
 | .str x _ => some (.str x)
 | .bytes b _ => some (.byt b)
 | .float b _ => some (.flt b)
 | .ref a => some (.ref a)
 | .type n => some (.ty n)
 | _ => none
theorem RelV.abs {x : V} {u : Value} (r : RelV x u) : absV u = some x := by
 cases x with
 | non => cases r; rfl
 | bl _ => cases r; rfl
 | int _ => obtain ⟨t, rfl⟩ := r; rfl
 | str _ => obtain ⟨t, rfl⟩ := r; rfl
 | byt _ => obtain ⟨t, rfl⟩ := r; rfl
 | flt _ => obtain ⟨t, rfl⟩ := r; rfl
 | ref _ => cases r; rfl
 | ty _ => cases r; rfl
theorem RelV.inj {x y : V} {u : Value} (r : RelV x u) (q : RelV y u) : x = y := Option.some.inj (r.abs.symm.trans q.abs)
theorem Vals.inj : ∀ {xs ys : List V} {us : List Value}, Vals xs us → Vals ys us → xs = ys
 | _, _, _, .nil, .nil => rfl
 | _, _, _, .cons r t, .cons r' t' => by rw [r.inj r', Vals.inj t t']
section
variable {X : Cx} {pins : List (Addr × Obj)} {σ : St} {H : Hp} {s : Shared} {a : Addr} {xs ys : List V}
theorem SqL.of {K : PySem.W.Frag} (h : H a = some (.lst xs)) : SqL K H a xs := .inl (.inl h)
theorem SqT.of {K : PySem.W.Frag} (h : H a = some (.tup xs)) : SqT K H a xs := .inl (.inl h)
theorem Inv.list (I : Inv X pins σ H s) (h : SqL X.K H a xs) : ∃ its : List Value, Vals xs its ∧ PlainL s.heap a its.toArray ∧ xs.length ≤ sizeLine := by
 rcases h with h | ⟨o, its, n, hk, hc, hd, hs, hz, r⟩
 · obtain ⟨z, its, n, r, e⟩ := h.ok I.hok
   exact ⟨its, r, ⟨_, n, e, rfl, rfl, rfl⟩, z⟩
 · refine ⟨its.toList, r, ⟨o, n, I.kIn a o hk, hc, hd, by simpa using hs⟩, ?_⟩
   have e := r.length
   simp only [Array.length_toList] at e
   omega
theorem Inv.tuple (I : Inv X pins σ H s) (h : SqT X.K H a xs) : ∃ its : List Value, Vals xs its ∧ IsTup s.heap a its.toArray ∧ xs.length ≤ sizeLine := by
 rcases h with h | ⟨o, its, n, hk, hc, hs, hz, r⟩
 · obtain ⟨z, its, r, p⟩ := h.ok I.hok
   exact ⟨its, r, p, z⟩
 · refine ⟨its.toList, r, ⟨o, I.kIn a o hk, hc, n, by simpa using hs⟩, ?_⟩
   have e := r.length
   simp only [Array.length_toList] at e
   omega
theorem Inv.list_inj (I : Inv X pins σ H s) (h : SqL X.K H a xs) (h' : SqL X.K H a ys) : xs = ys := by
 obtain ⟨its, r, ⟨o, n, e, _, _, d⟩, _⟩ := I.list h
 obtain ⟨its', r', ⟨o', n', e', _, _, d'⟩, _⟩ := I.list h'
 rw [e] at e'; cases e'
 rw [d] at d'
 injection d' with d1 _
 have : its = its' := by simpa using congrArg Array.toList d1
 subst this
 exact r.inj r'
theorem Inv.tuple_inj (I : Inv X pins σ H s) (h : SqT X.K H a xs) (h' : SqT X.K H a ys) : xs = ys := by
 obtain ⟨its, r, ⟨o, e, _, n, d⟩, _⟩ := I.tuple h
 obtain ⟨its', r', ⟨o', e', _, n', d'⟩, _⟩ := I.tuple h'
 rw [e] at e'; cases e'
 rw [d] at d'
 injection d' with d1 _
 have : its = its' := by simpa using congrArg Array.toList d1
 subst this
 exact r.inj r'
end
abbrev Cx.wish (X : Cx) (E : Value → Shared → Prop) : Cx := { X with xe := E }
abbrev Cx.nox (X : Cx) : Cx := X.wish fun _ _ => False
theorem Cx.Ok.wish {X : Cx} (ok : X.Ok) (E : Value → Shared → Prop) : (X.wish E).Ok :=
 ⟨ok.mod, ok.kind, ok.glob, ok.blt, ok.above, ok.inj, ok.has, ok.cab, ok.hd, ok.frames, ok.stk, ok.exf, ok.bs, ok.bsz, ok.noex, ok.exfs, ok.funs, ok.frf⟩
theorem Cx.Ok.unwish {X : Cx} {E : Value → Shared → Prop} (ok : (X.wish E).Ok) : X.Ok :=
 ⟨ok.mod, ok.kind, ok.glob, ok.blt, ok.above, ok.inj, ok.has, ok.cab, ok.hd, ok.frames, ok.stk, ok.exf, ok.bs, ok.bsz, ok.noex, ok.exfs, ok.funs, ok.frf⟩
section
variable {X : Cx} {pins : List (Addr × Obj)} {σ : St} {H : Hp} {s : Shared} {E : Value → Shared → Prop}
theorem Inv.wish (I : Inv X pins σ H s) (E : Value → Shared → Prop) : Inv (X.wish E) pins σ H s := ⟨I.ok.wish E, I.os, I.bare, I.base, I.loc, I.cell, I.free, I.freeC, I.pin, I.hok, I.len⟩
theorem Inv.unwish (I : Inv (X.wish E) pins σ H s) : Inv X pins σ H s := ⟨I.ok.unwish, I.os, I.bare, I.base, I.loc, I.cell, I.free, I.freeC, I.pin, I.hok, I.len⟩
theorem SP.unwish {D : Ends} {f : Flow} {s' : Shared} (h : SP (X.wish E) pins D f s') : SP X pins D f s' := by
 cases f with
 | next => obtain ⟨σ', H', I, q⟩ := h; exact ⟨σ', H', I.unwish, q⟩
 | brk => obtain ⟨σ', H', I, q⟩ := h; exact ⟨σ', H', I.unwish, q⟩
 | cont => obtain ⟨σ', H', I, q⟩ := h; exact ⟨σ', H', I.unwish, q⟩
 | ret u => obtain ⟨v, σ', H', I, r, q⟩ := h; exact ⟨v, σ', H', I.unwish, r, q⟩
theorem PSs.nox {st : List Stmt} {t : TS} (h : PSs X.nox st t) : PSs X st t := fun pins s σ H D I hw =>
 wpAny_mono (h pins s σ H D (I.wish _) hw) (fun _ _ q => q.unwish) fun _ _ z => False.elim z
end
section
variable {X : Cx} {st : Stmt} {rest : List Stmt} {t u : TS} {e : Expr} {te : TE} {pos : Pos}
def tNext : TS := fun D σ H => D.nx σ H
def tSeq (t u : TS) : TS := fun D σ H => t { D with nx := u D } σ H
theorem pss_nil : PSs X [] tNext := fun _ _ σ H _ I h => wpAny_execs_nil ⟨σ, H, I, h⟩
theorem pss_cons (h1 : PS X st t) (h2 : PSs X rest u) : PSs X (st :: rest) (tSeq t u) := by
 intro pins s σ H D I h
 refine wpAny_execs_cons (thn (h1 pins s σ H { D with nx := u D } I h) fun f s1 q => ?_)
 cases f with
 | next =>
   obtain ⟨σ', H', I', q⟩ := q
   exact h2 pins s1 σ' H' D I' q
 | ret v => exact q
 | brk => exact q
 | cont => exact q
theorem pss_one (h1 : PS X st t) : PSs X [st] t := by
 intro pins s σ H D I h
 refine wpAny_execs_cons (thn (h1 pins s σ H D I h) fun f s1 q => ?_)
 cases f with
 | next => exact wpAny_execs_nil q
 | ret v => exact q
 | brk => exact q
 | cont => exact q
theorem Inv.quiet {pins : List (Addr × Obj)} {σ : St} {H : Hp} {s : Shared} (I : Inv X pins σ H s) : interactive X.env = false := by simp [interactive, I.ok.kind]
def tDrop (te : TE) : TS := fun D σ H => te σ H fun _ H1 => D.nx σ H1
theorem ps_expr (he : PE X e te) (hs : swapsWith e none pos.line X.env = pure false := by rfl) : PS X (.Expr e pos) (tDrop te) := by
 intro pins s σ H D I h
 exact wpAny_Expr_any (thn (he pins s σ H _ I h) fun v s1 ⟨x, H1, I1, r1, q1⟩ => ⟨σ, H1, I1, q1⟩) I.quiet hs
def tRet (te : TE) : TS := fun D σ H => te σ H D.rt
theorem ps_ret (he : PE X e te) : PS X (.Return (some e) pos) (tRet te) := by
 intro pins s σ H D I h
 exact wpAny_Return_some (thn (he pins s σ H _ I h) fun v s1 ⟨x, H1, I1, r1, q1⟩ => ⟨x, σ, H1, I1, r1, q1⟩)
def tIfS (c : TT) (t u : TS) : TS := fun D σ H => c σ H fun b H1 => if b = true then t D σ H1 else u D σ H1
theorem ps_if {c : Expr} {a b : List Stmt} {tc : TT} (hc : PT X c tc) (ha : PSs X a t) (hb : PSs X b u) : PS X (.If c a b pos) (tIfS tc t u) := by
 intro pins s σ H D I h
 refine wpAny_If (thn (hc pins s σ H _ I h) fun d s1 ⟨H1, I1, q1⟩ => ?_)
 cases d with
 | true => exact ha pins s1 σ H1 D I1 q1
 | false => exact hb pins s1 σ H1 D I1 q1
def tNever : TS := fun _ _ _ => False
theorem ps_never : PS X st tNever := fun _ _ _ _ _ _ h => h.elim
end
abbrev TG := V → St → Hp → (St → Hp → Prop) → Prop
def PG (X : Cx) (target : Expr) (t : TG) : Prop :=
 ∀ (pins : List (Addr × Obj)) (s : Shared) (σ : St) (H : Hp) (v : V) (u : Value) (Q : St → Hp → Prop), Inv X pins σ H s → RelV v u → t v σ H Q →
   wpAny (model X.prog X.w) X.A (assign target X.env u) (fun _ s' => ∃ σ' H', Inv X pins σ' H' s' ∧ Q σ' H') X.xe s
section
variable {X : Cx} {pos : Pos}
def gName (i : Nat) : TG := fun v σ H Q => Q (σ.set i (some v)) H
theorem pg_name {i : Nat} {x : Str} (hN : X.N.Nodup) (hi : X.N[i]? = some x) (hx : Loc X.env.scope x) (hf : X.fn x = true ∨ X.env.scope.names.lookup x = some .local := by first | exact .inl rfl | exact .inr rfl | assumption) : PG X (.Name x pos) (gName i) := by
 intro pins s σ H v u Q I r h
 exact wpAny_assign_Name (store_ok I hN hi hx r (fun s' I' => ⟨_, H, I', h⟩) hf)
def tAsg (te : TE) (g : TG) : TS := fun D σ H => te σ H fun x H1 => g x σ H1 D.nx
theorem ps_set {i : Nat} {x : Str} {e : Expr} {te : TE} {pos' : Pos} (hN : X.N.Nodup) (hi : X.N[i]? = some x) (hx : Loc X.env.scope x) (he : PE X e te) (hs : swapsWith e (some (.Name x pos')) pos.line X.env = pure false := by rfl) (hf : X.fn x = true ∨ X.env.scope.names.lookup x = some .local := by first | exact .inl rfl | exact .inr rfl | assumption) :
   PS X (.Assign [.Name x pos'] e pos) (tAsg te (gName i)) := by
 intro pins s σ H D I h
 refine wpAny_Assign_Name (thn (he pins s σ H _ I h) fun v s1 ⟨y, H1, I1, r1, q1⟩ => ?_) hs
 exact store_ok I1 hN hi hx r1 (fun s2 I2 => ⟨_, H1, I2, q1⟩) hf
end
section
variable {X : Cx} {pos : Pos}
end
structure It where
 go : Nat → Hp → Prop
 yld : Nat → Hp → V → Hp → Prop
 stop : Nat → Hp → Prop
def FpOk (X : Cx) (pins : List (Addr × Obj)) (H : Hp) (b : Addr) : Prop :=
 H b = none ∧ b ≠ X.env.locals ∧ b ∉ X.fs ∧ (b ∈ X.ex ∨ X.s₀.heap.objs.size ≤ b) ∧ (∀ x c, X.env.cells.lookup x = some c → c ≠ b) ∧ ∀ p ∈ X.pn ++ pins, p.1 ≠ b
theorem Inv.fpOk {X : Cx} {pins : List (Addr × Obj)} {σ : St} {H H' : Hp} {s : Shared} {b : Addr} (I : Inv X pins σ H s) (hb : s.heap.objs.size ≤ b) (hn : H' b = none) : FpOk X pins H' b := by
 refine ⟨hn, Nat.ne_of_gt (Nat.lt_of_lt_of_le I.lt hb), I.nofs hb, .inr (Nat.le_trans I.sz hb), fun x c e z => ?_, fun p hp z => ?_⟩
 · obtain ⟨v, q⟩ := I.cell x c e
   exact absurd (Nat.lt_of_lt_of_le q.lt (by rw [z]; exact hb)) (Nat.lt_irrefl _)
 · exact absurd (Nat.lt_of_lt_of_le (Heap.lt_size (I.pin p hp).1) (by rw [z]; exact hb)) (Nat.lt_irrefl _)
structure Turn (P : Program) (w : World) (K : PySem.W.Frag) (tg : Expr) (J : It) (fp : List Addr) (it : Addr) (tn : Nat → Heap → Prop) : Prop where
 mem : it ∈ fp
 obj : ∀ i h, tn i h → ∀ b ∈ fp, ∃ o, h.get? b = some o ∧ ∀ v, o.data ≠ .cell v
 keep : ∀ i h h', tn i h → (∀ b ∈ fp, ∀ o, h.get? b = some o → h'.get? b = some o) → tn i h'
 item : ∀ (X : Cx), X.prog = P → X.w = w → X.K = K → X.calm = true → ∀ (i : Nat) (pins : List (Addr × Obj)) (s : Shared) (σ : St) (H : Hp) (E : Value → Shared → Prop), Inv X pins σ H s → (∀ b ∈ fp, FpOk X pins H b) → tn i s.heap → J.go i H →
   wpAny (model P w) X.A (pyNext (.ref it)) (fun r s1 => ∃ u, r = some u ∧
     wpAny (model P w) X.A (letOwnedTupleGo tg (.ref it) u) (fun _ s2 => ∃ x H', Inv X pins σ H' s2 ∧ RelV x u ∧ J.yld i H x H' ∧ tn (i + 1) s2.heap ∧ ∀ b ∈ fp, H' b = none) E s1) E s
 done : ∀ (X : Cx), X.prog = P → X.w = w → X.K = K → X.calm = true → ∀ (i : Nat) (pins : List (Addr × Obj)) (s : Shared) (σ : St) (H : Hp) (E : Value → Shared → Prop), Inv X pins σ H s → (∀ b ∈ fp, FpOk X pins H b) → tn i s.heap → J.stop i H →
   wpAny (model P w) X.A (pyNext (.ref it)) (fun r s1 => r = none ∧ Inv X pins σ H s1) E s
 self : ∀ (A : Around) (i : Nat) (s : Shared) (Q : Value → Shared → Prop) (E : Value → Shared → Prop), tn i s.heap → Q (.ref it) s → wpAny (model P w) A (pyIter (.ref it)) Q E s
abbrev TI := St → Hp → (It → Hp → Prop) → Prop
def PIE (X : Cx) (pins : List (Addr × Obj)) (σ : St) (tg : Expr) (R : It → Hp → Prop) (itv : Value) (s2 : Shared) : Prop :=
 ∃ (it : Addr) (fp : List Addr) (tn : Nat → Heap → Prop) (J : It) (H' : Hp), itv = .ref it ∧ Inv X pins σ H' s2 ∧ Turn X.prog X.w X.K tg J fp it tn ∧ tn 0 s2.heap ∧ (∀ b ∈ fp, FpOk X pins H' b) ∧ R J H'
def PI (X : Cx) (tg iter : Expr) (wi : TI) : Prop :=
 ∀ (pins : List (Addr × Obj)) (s : Shared) (σ : St) (H : Hp) (R : It → Hp → Prop), Inv X pins σ H s → wi σ H R →
   wpAny (model X.prog X.w) X.A (eval iter X.env) (fun v s1 => wpAny (model X.prog X.w) X.A (pyIter v) (PIE X pins σ tg R) X.xe s1) X.xe s
theorem go_of {M : Model} {A : Around} {E : Value → Shared → Prop} {s : Shared} {tg : Expr} {it : Addr} {u : Value} {o : Obj} {n : String} {vs : Array Value} {Q : Unit → Shared → Prop} (ho : s.heap.get? it = some o) (hc : o.cls = .type n) (hd : o.data = .fields vs)
   (hn : ["enumerate", "zip", "dict_itemiterator", "dict_reverseitemiterator", "odict_iterator", "itertools.zip_longest", "itertools.pairwise"].contains n = false) (hQ : Q () s) : wpAny M A (letOwnedTupleGo tg (.ref it) u) Q E s := by
 unfold letOwnedTupleGo
 cases tg <;> first
   | exact wpAny_pure hQ
   | (cases u <;> first
       | exact wpAny_pure hQ
       | (refine wpAny_bind (wpAny_load ho ?_)
          rw [hc, hd]
          show wpAny M A (if (["enumerate", "zip", "dict_itemiterator", "dict_reverseitemiterator", "odict_iterator", "itertools.zip_longest", "itertools.pairwise"].contains n && vs[0]? == some (rawInt _)) = true then _ else _) Q E s
          rw [if_neg (by intro h; rw [hn, Bool.false_and] at h; cases h)]
          exact wpAny_pure hQ))
def Itl (K : PySem.W.Frag) (a : Addr) : It :=
 ⟨fun i H => ∃ xs x, SqL K H a xs ∧ xs[i]? = some x, fun i H x H' => H' = H ∧ ∀ xs, SqL K H a xs → xs[i]? = some x, fun i H => ∃ xs, SqL K H a xs ∧ xs.length ≤ i⟩
def Itt (K : PySem.W.Frag) (a : Addr) : It :=
 ⟨fun i H => ∃ xs x, SqT K H a xs ∧ xs[i]? = some x, fun i H x H' => H' = H ∧ ∀ xs, SqT K H a xs → xs[i]? = some x, fun i H => ∃ xs, SqT K H a xs ∧ xs.length ≤ i⟩
def Itr (lo : Int) (n : Nat) : It := ⟨fun i _ => i < n, fun i H x H' => H' = H ∧ x = .int (lo + i), fun i _ => n ≤ i⟩
theorem turn_list {P : Program} {w : World} {K : PySem.W.Frag} {tg : Expr} (a it : Addr) : Turn P w K tg (Itl K a) [it] it (fun i h => h.IsListIter it a i) where
 mem := by simp
 obj := fun i h st b hb => by
   have e : b = it := by simpa using hb
   subst e
   obtain ⟨o, e, c, d⟩ := st
   exact ⟨o, e, fun v z => by rw [d] at z; cases z⟩
 keep := fun i h h' st k => st.at fun o e => k it (by simp) o e
 item := by
   intro X hP hw hK hc i pins s σ H E I hf st hg
   subst hP hw hK
   obtain ⟨xs, x, hq, hx⟩ := hg
   obtain ⟨its, rv, p, hz⟩ := I.list hq
   obtain ⟨u, hu, ru⟩ := rv.get hx
   obtain ⟨f0, f1, f2, f3, f4, f5⟩ := hf it (by simp)
   refine wpAny_pyNext_list_item st p.isList (x := u) (by simpa using hu) fun h' st' sb => ?_
   have I1 : Inv X pins σ H { s with heap := h' } := I.turned (t' := s.toks) (fun b o hb e => (sb.2 b hb).trans e) f0 f1 f3 f4 f5
   obtain ⟨o, e, c, d⟩ := id st'
   exact ⟨u, rfl, go_of (s := { s with heap := h' }) e c d (by decide) ⟨x, H, I1, ru, ⟨rfl, fun ys hy => by rw [I.list_inj hy hq]; exact hx⟩, st', fun b hb => (hf b hb).1⟩⟩
 done := by
   intro X hP hw hK hc i pins s σ H E I hf st hg
   subst hP hw hK
   obtain ⟨xs, hq, hx⟩ := hg
   obtain ⟨its, rv, p, hz⟩ := I.list hq
   obtain ⟨f0, f1, f2, f3, f4, f5⟩ := hf it (by simp)
   have hl := rv.length
   exact wpAny_pyNext_list_end (I.ok.hd hc) st p.isList (by simp; omega) fun h' eb => ⟨rfl, I.turned (t' := s.toks) (fun b o hb e => eb b o hb e) f0 f1 f3 f4 f5⟩
 self := fun _ _ _ _ _ st h => wpAny_pyIter_listiter st h
theorem turn_tuple {P : Program} {w : World} {K : PySem.W.Frag} {tg : Expr} (a it : Addr) : Turn P w K tg (Itt K a) [it] it (fun i h => h.IsTupleIter it a i) where
 mem := by simp
 obj := fun i h st b hb => by
   have e : b = it := by simpa using hb
   subst e
   obtain ⟨o, e, c, d⟩ := st
   exact ⟨o, e, fun v z => by rw [d] at z; cases z⟩
 keep := fun i h h' st k => st.at fun o e => k it (by simp) o e
 item := by
   intro X hP hw hK hc i pins s σ H E I hf st hg
   subst hP hw hK
   obtain ⟨xs, x, hq, hx⟩ := hg
   obtain ⟨its, rv, p, hz⟩ := I.tuple hq
   obtain ⟨u, hu, ru⟩ := rv.get hx
   obtain ⟨f0, f1, f2, f3, f4, f5⟩ := hf it (by simp)
   refine wpAny_pyNext_tuple_item st (show s.heap.IsTuple a its.toArray from p) (x := u) (by simpa using hu) fun h' st' sb => ?_
   have I1 : Inv X pins σ H { s with heap := h' } := I.turned (t' := s.toks) (fun b o hb e => (sb.2 b hb).trans e) f0 f1 f3 f4 f5
   obtain ⟨o, e, c, d⟩ := id st'
   exact ⟨u, rfl, go_of (s := { s with heap := h' }) e c d (by decide) ⟨x, H, I1, ru, ⟨rfl, fun ys hy => by rw [I.tuple_inj hy hq]; exact hx⟩, st', fun b hb => (hf b hb).1⟩⟩
 done := by
   intro X hP hw hK hc i pins s σ H E I hf st hg
   subst hP hw hK
   obtain ⟨xs, hq, hx⟩ := hg
   obtain ⟨its, rv, p, hz⟩ := I.tuple hq
   obtain ⟨f0, f1, f2, f3, f4, f5⟩ := hf it (by simp)
   have hl := rv.length
   exact wpAny_pyNext_tuple_end (I.ok.hd hc) st (show s.heap.IsTuple a its.toArray from p) (by simp; omega) fun h' eb => ⟨rfl, I.turned (t' := s.toks) (fun b o hb e => eb b o hb e) f0 f1 f3 f4 f5⟩
 self := fun _ _ _ _ _ st h => wpAny_pyIter_tupleiter st h
theorem turn_range {P : Program} {w : World} {K : PySem.W.Frag} {tg : Expr} (it : Addr) (lo : Int) (n : Nat) : Turn P w K tg (Itr lo n) [it] it (fun i h => IsRangeIter h it (lo + (i : Nat) * 1) ((n : Int) - (i : Nat)) 1) where
 mem := by simp
 obj := fun i h st b hb => by
   have e : b = it := by simpa using hb
   subst e
   exact ⟨_, st, fun v z => by
     have z' : Data.fields _ = Data.cell v := z
     cases z'⟩
 keep := fun i h h' st k => k it (by simp) _ st
 item := by
   intro X hP hw hK hc i pins s σ H E I hf st hg
   subst hP hw hK
   obtain ⟨f0, f1, f2, f3, f4, f5⟩ := hf it (by simp)
   have W := Walks.range (prog := X.prog) (w := X.w) (I.ok.hd hc) it lo 1 n
   refine W.item i s _ _ hg st fun v h' tk hv st' kk => ?_
   obtain ⟨t, rfl⟩ := hv
   have I1 : Inv X pins σ H { s with heap := h', toks := tk } := I.turned (fun b o hb e => kk b o (by simpa using hb) e) f0 f1 f3 f4 f5
   refine ⟨_, rfl, go_of (s := { s with heap := h', toks := tk }) (n := "range_iterator") st' rfl rfl (by decide) ⟨.int (lo + i), H, I1, ⟨t, ?_⟩, ⟨rfl, rfl⟩, st', fun b hb => (hf b hb).1⟩⟩
   rw [Int.mul_one]
 done := by
   intro X hP hw hK hc i pins s σ H E I hf st hg
   subst hP hw hK
   obtain ⟨f0, f1, f2, f3, f4, f5⟩ := hf it (by simp)
   exact wpAny_pyNext_range_end (I.ok.hd hc) st (by have : n ≤ i := hg; omega) fun h' eb => ⟨rfl, I.turned (t' := s.toks) (fun b o hb e => eb b o hb e) f0 f1 f3 f4 f5⟩
 self := fun _ _ _ _ _ st h => wpAny_pyIter_rangeiter st h
end L2
namespace L2
open PySem PySem.Spec PyProof.Rows
section
variable {X : Cx} {tg : Expr}
theorem range_it {pins : List (Addr × Obj)} {σ : St} {H : Hp} {s : Shared} {R : It → Hp → Prop} {E : Value → Shared → Prop} {lo hi : Int} {t u v : Tok} {tk : Nat} (I : Inv X pins σ H s) (h1 : -(2 ^ 62) ≤ lo) (h2 : lo < 2 ^ 62) (h3 : -(2 ^ 62) ≤ hi) (h4 : hi < 2 ^ 62)
   (q : R (Itr lo (hi - lo).toNat) H) : wpAny (model X.prog X.w) X.A (pyIter (.ref s.heap.objs.size)) (PIE X pins σ tg R) E { s with heap := s.heap.push { cls := .type "range", data := .fields #[.int lo t, .int hi u, .int 1 v] }, toks := tk } := by
 refine wpAny_pyIter_range (IsRange.new ..) (small_one h1 h2 h3 h4) ?_
 have I1 : Inv X pins σ H { s with heap := s.heap.push { cls := .type "range", data := .fields #[.int lo t, .int hi u, .int 1 v] }, toks := tk } := I.kept fun b o e => Heap.get?_push_of_some _ e
 refine ⟨(s.heap.push { cls := .type "range", data := .fields #[.int lo t, .int hi u, .int 1 v] }).objs.size, [(s.heap.push { cls := .type "range", data := .fields #[.int lo t, .int hi u, .int 1 v] }).objs.size], _, _, H, rfl,
   I1.kept (t' := tk) fun b o e => Heap.get?_push_of_some _ e, turn_range _ lo (hi - lo).toNat, ?_, fun b hb => ?_, q⟩
 · have e1 : lo + ((0 : Nat) : Int) * 1 = lo := by simp
   have e2 : (((hi - lo).toNat : Nat) : Int) - ((0 : Nat) : Int) = Builtin.Range.rangeSize lo hi 1 := by rw [rangeSize_one]; split <;> omega
   show IsRangeIter _ _ (lo + ((0 : Nat) : Int) * 1) ((((hi - lo).toNat : Nat) : Int) - ((0 : Nat) : Int)) 1
   rw [e1, e2]
   exact Heap.get?_push_size _ rfl
 · have e : b = (s.heap.push { cls := .type "range", data := .fields #[.int lo t, .int hi u, .int 1 v] }).objs.size := by simpa using hb
   subst e
   exact I1.fpOk (Nat.le_refl _) (I1.hok.fresh (Nat.le_refl _))
def iRng1 (ta : TA) : TI := fun σ H R => ta σ H fun vs H1 => ∃ j : Int, vs = [.int j] ∧ -(2 ^ 62) ≤ j ∧ j < 2 ^ 62 ∧ R (Itr 0 j.toNat) H1
theorem pi_range1 {a : Expr} {ta : TA} {p pos : Pos} (hg : Gl X "range") (hm : X.mg "range" = none) (ha : PA X [a] ta) (hs : starEach [a] X.env = [(false, eval a X.env)] := by rfl) : PI X tg (.Call (.Name "range" p) [a] [] pos) (iRng1 ta) := by
 intro pins s σ H R I h
 refine Call_ (ld_blt I hg hm boot_range (PyProof.Rows.callWith_type1 (thn (ha pos pins s σ H _ I h) fun us s1 ⟨vs, H1, I1, r1, q1⟩ => ?_) hs rfl))
 obtain ⟨j, e, q1, q2, q⟩ := q1
 subst e
 cases r1 with
 | cons r rr =>
   cases rr
   obtain ⟨t, rfl⟩ := r
   exact call_range_1 (range_it I1 (by omega) (by omega) q1 q2 (by simpa using q))
def tFor (wi : TI) (g : TG) (tb : TS) : TS := fun D σ H => wi σ H fun J H1 => ∃ W : Nat → Nat → St → Hp → Prop, (∃ m, W 0 m σ H1) ∧ ∀ i m σ H, W i m σ H →
 (J.stop i H ∧ D.nx σ H) ∨ (J.go i H ∧ ∃ N : St → Hp → Prop, (∀ σ' H', N σ' H' → ∃ m', m' < m ∧ W (i + 1) m' σ' H') ∧ ∀ x H', J.yld i H x H' → g x σ H' fun σ2 H2 => tb { D with nx := N, ct := N, bk := D.nx } σ2 H2)
def pinsAt (fp : List Addr) (h : Heap) : List (Addr × Obj) := fp.filterMap fun b => (h.get? b).map fun o => (b, o)
theorem mem_pinsAt {fp : List Addr} {h : Heap} {b : Addr} {o : Obj} (hb : b ∈ fp) (e : h.get? b = some o) : (b, o) ∈ pinsAt fp h := List.mem_filterMap.mpr ⟨b, hb, by rw [e]; rfl⟩
theorem of_pinsAt {fp : List Addr} {h : Heap} {p : Addr × Obj} (hp : p ∈ pinsAt fp h) : p.1 ∈ fp ∧ h.get? p.1 = some p.2 := by
 obtain ⟨b, hb, e⟩ := List.mem_filterMap.mp hp
 cases q : h.get? b with
 | none => rw [q] at e; cases e
 | some o =>
   rw [q] at e
   have e' : (b, o) = p := Option.some.inj e
   subst e'
   exact ⟨hb, q⟩
theorem Inv.pinned {pins : List (Addr × Obj)} {σ : St} {H : Hp} {s : Shared} {fp : List Addr} (I : Inv X pins σ H s) (hf : ∀ b ∈ fp, FpOk X pins H b) (ho : ∀ b ∈ fp, ∃ o, s.heap.get? b = some o ∧ ∀ v, o.data ≠ .cell v) : Inv X (pins ++ pinsAt fp s.heap) σ H s :=
 I.pins_of fun p hp => (List.mem_append.mp hp).elim (fun z => I.pin p (List.mem_append_right _ z)) fun z => by
   obtain ⟨hb, e⟩ := of_pinsAt z
   obtain ⟨f0, f1, f2, _⟩ := hf p.1 hb
   obtain ⟨o, e', d⟩ := ho p.1 hb
   rw [e] at e'; cases e'
   exact ⟨e, f0, f1, f2, d⟩
theorem Inv.unpinned {pins pl : List (Addr × Obj)} {σ : St} {H : Hp} {s : Shared} (I : Inv X (pins ++ pl) σ H s) : Inv X pins σ H s := I.pins_of fun p hp => I.pin p (List.mem_append_right _ (List.mem_append_left _ hp))
theorem ps_for {iter : Expr} {body : List Stmt} {wi : TI} {g : TG} {tb : TS} {pos : Pos} (hp : PassesOwn (model X.prog X.w) X.A X.env X.xe) (hc : X.calm = true) (hi : PI X tg iter wi) (hg : PG X tg g) (hb : PSs X body tb)
   (hs : ∀ x, foldedSetIterable iter X.env x = pure x := by intro _; rfl) : PS X (.For tg iter body [] pos) (tFor wi g tb) := by
 intro pins s σ H D I h
 refine wpAny_For (thn (hi pins s σ H _ I h) fun v s1 h1 => thn h1 fun itv s2 h2 => ?_) hs
 obtain ⟨it, fp, tn, J, H2, e, I2, T, st2, f2, W, ⟨m0, w0⟩, turn⟩ := h2
 subst e
 -- what stays true of the iterator's objects through the loop
 have stat : ∀ {H' : Hp}, (∀ b ∈ fp, H' b = none) → ∀ b ∈ fp, FpOk X pins H' b := fun hn b hb => ⟨hn b hb, (f2 b hb).2⟩
 refine codeAny_forLoop_any (fun n s' => ∃ i σ' H', Inv X pins σ' H' s' ∧ tn i s'.heap ∧ (∀ b ∈ fp, H' b = none) ∧ W i n σ' H') ?_ m0 ⟨0, σ, H2, I2, st2, fun b hb => (f2 b hb).1, w0⟩
 rintro n s3 ⟨i, σ3, H3, I3, st3, fr3, w3⟩
 rcases turn i n σ3 H3 w3 with ⟨stop, qn⟩ | ⟨go, N, hN, step⟩
 · refine wpAny_passesOwn hp (thn (T.done X rfl rfl rfl hc i pins s3 σ3 H3 X.xe I3 (stat fr3) st3 stop) fun r s4 ⟨hr, I4⟩ => ?_)
   subst hr
   exact wpAny_execs_nil ⟨σ3, H3, I4, qn⟩
 · refine wpAny_passesOwn hp (thn (T.item X rfl rfl rfl hc i pins s3 σ3 H3 X.xe I3 (stat fr3) st3 go) fun r s4 ⟨u, hr, h4⟩ => ?_)
   subst hr
   refine wpAny_passesOwn hp (thn h4 fun _ s5 ⟨x, H5, I5, r5, y5, st5, fr5⟩ => ?_)
   have I5' := I5.pinned (stat fr5) (T.obj _ _ st5)
   refine wpAny_passesOwn hp (thn (hg _ s5 σ3 H5 x u _ I5' r5 (step x H5 y5)) fun _ s6 ⟨σ6, H6, I6, q6⟩ => ?_)
   refine wpAny_passesOwn hp (thn (hb _ s6 σ6 H6 _ I6 q6) fun f s7 q7 => ?_)
   have again : ∀ {σ7 : St} {H7 : Hp}, Inv X (pins ++ pinsAt fp s5.heap) σ7 H7 s7 → N σ7 H7 → ∃ m, m < n ∧ ∃ i σ' H', Inv X pins σ' H' s7 ∧ tn i s7.heap ∧ (∀ b ∈ fp, H' b = none) ∧ W i m σ' H' := fun {σ7 H7} I7 n7 => by
     obtain ⟨m', hm, w7⟩ := hN σ7 H7 n7
     refine ⟨m', hm, i + 1, σ7, H7, I7.unpinned, T.keep _ _ _ st5 fun b hb o e => (I7.pin (b, o) (List.mem_append_right _ (List.mem_append_right _ (mem_pinsAt hb e)))).1, fun b hb => ?_, w7⟩
     obtain ⟨o, e, d⟩ := T.obj _ _ st5 b hb
     exact (I7.pin (b, o) (List.mem_append_right _ (List.mem_append_right _ (mem_pinsAt hb e)))).2.1
   cases f with
   | next => obtain ⟨σ7, H7, I7, n7⟩ := q7; exact again I7 n7
   | cont => obtain ⟨σ7, H7, I7, n7⟩ := q7; exact again I7 n7
   | brk => obtain ⟨σ7, H7, I7, q7⟩ := q7; exact ⟨σ7, H7, I7.unpinned, q7⟩
   | ret v => obtain ⟨x7, σ7, H7, I7, r7, q7⟩ := q7; exact ⟨x7, σ7, H7, I7.unpinned, r7, q7⟩
end
theorem for_range {lo : Int} {n : Nat} {g : TG} {tb : TS} {D : Ends} {σ : St} {H : Hp} (Pv : Nat → St → Hp → Prop) (h0 : Pv 0 σ H)
   (hs : ∀ i σ H, i < n → Pv i σ H → g (.int (lo + i)) σ H fun σ2 H2 => tb { D with nx := Pv (i + 1), ct := Pv (i + 1), bk := D.nx } σ2 H2) (hd : ∀ σ H, Pv n σ H → D.nx σ H) :
   ∃ W : Nat → Nat → St → Hp → Prop, (∃ m, W 0 m σ H) ∧ ∀ i m σ H, W i m σ H →
     ((Itr lo n).stop i H ∧ D.nx σ H) ∨ ((Itr lo n).go i H ∧ ∃ N : St → Hp → Prop, (∀ σ' H', N σ' H' → ∃ m', m' < m ∧ W (i + 1) m' σ' H') ∧ ∀ x H', (Itr lo n).yld i H x H' → g x σ H' fun σ2 H2 => tb { D with nx := N, ct := N, bk := D.nx } σ2 H2) := by
 refine ⟨fun i m σ H => m = n - i ∧ i ≤ n ∧ Pv i σ H, ⟨n, by simp, Nat.zero_le _, h0⟩, ?_⟩
 rintro i m σ H ⟨rfl, hi, p⟩
 by_cases hlt : i < n
 · refine .inr ⟨hlt, Pv (i + 1), fun σ' H' p' => ⟨n - (i + 1), by omega, rfl, hlt, p'⟩, fun x H' y => ?_⟩
   obtain ⟨e, y⟩ := y
   subst e y
   exact hs i σ _ hlt p
 · have e : i = n := by omega
   subst e
   exact .inl ⟨Nat.le_refl _, hd σ H p⟩
end L2
namespace L2
open PySem PySem.Spec PyProof.Rows
abbrev R2 := V → V → Hp → VK → Prop
def OpR (X : Cx) (f : Value → Value → Sem Value) (r : R2) : Prop :=
 ∀ (pins : List (Addr × Obj)) (s : Shared) (σ : St) (H : Hp) (x y : V) (v u : Value) (Q : VK), Inv X pins σ H s → RelV x v → RelV y u → r x y H Q →
   wpAny (model X.prog X.w) X.A (f v u) (EP X pins σ Q) X.xe s
def CallR (X : Cx) (f : Value) (r : List V → Hp → VK → Prop) : Prop :=
 ∀ (pins : List (Addr × Obj)) (s : Shared) (σ : St) (H : Hp) (xs : List V) (us : List Value) (Q : VK), Inv X pins σ H s → Vals xs us → r xs H Q →
   wpAny (model X.prog X.w) X.A (call f us) (EP X pins σ Q) X.xe s
def TruR (X : Cx) (r : V → Hp → (Bool → Hp → Prop) → Prop) : Prop :=
 ∀ (pins : List (Addr × Obj)) (s : Shared) (σ : St) (H : Hp) (x : V) (v : Value) (Q : Bool → Hp → Prop), Inv X pins σ H s → RelV x v → r x H Q →
   wpAny (model X.prog X.w) X.A (truthy v) (TP X pins σ Q) X.xe s
def tOp (r : R2) (ta tb : TE) : TE := fun σ H Q => ta σ H fun x H1 => tb σ H1 fun y H2 => r x y H2 Q
def rI (C : Int → Int → Prop) (g : Int → Int → V) : R2 := fun x y H Q => ∃ i j, x = .int i ∧ y = .int j ∧ C i j ∧ Q (g i j) H
def rI0 (g : Int → Int → V) : R2 := fun x y H Q => ∃ i j, x = .int i ∧ y = .int j ∧ Q (g i j) H
section
variable {X : Cx} {a b c : Expr} {ta tb tc : TE} {pos : Pos}
theorem binT (ha : PE X a ta) (hb : PE X b tb) {pins : List (Addr × Obj)} {s : Shared} {σ : St} {H : Hp} {R : V → V → Hp → Prop} (I : Inv X pins σ H s)
   (h : ta σ H fun x H1 => tb σ H1 fun y H2 => R x y H2) {Q : Value → Shared → Prop} {f : Value → Value → Sem Value}
   (hf : ∀ v u s2 x y H2, Inv X pins σ H2 s2 → RelV x v → RelV y u → R x y H2 → wpAny (model X.prog X.w) X.A (f v u) Q X.xe s2) :
   wpAny (model X.prog X.w) X.A (eval a X.env) (fun v s₁ => wpAny (model X.prog X.w) X.A (eval b X.env) (fun u s₂ => wpAny (model X.prog X.w) X.A (f v u) Q X.xe s₂) X.xe s₁) X.xe s := by
 refine thn (ha pins s σ H _ I h) fun v s1 ⟨x, H1, I1, r1, q1⟩ => ?_
 refine thn (hb pins s1 σ H1 _ I1 q1) fun u s2 ⟨y, H2, I2, r2, q2⟩ => ?_
 exact hf v u s2 x y H2 I2 r1 r2 q2
theorem pe_op {op : Operator} {r : R2} (ho : OpR X (binaryOp op) r) (ha : PE X a ta) (hb : PE X b tb) : PE X (.BinOp a op b pos) (tOp r ta tb) := by
 intro pins s σ H Q I h
 exact wpAny_BinOp (binT ha hb I h fun v u s2 x y H2 I2 rx ry q => ho pins s2 σ H2 x y v u Q I2 rx ry q)
theorem opI {f : Value → Value → Sem Value} {C : Int → Int → Prop} {g : Int → Int → Int}
   (rule : ∀ (i j : Int) (t u : Tok) (s : Shared) (Q : Value → Shared → Prop) (E : Value → Shared → Prop), C i j → Q (.int (g i j) s.toks) { s with toks := s.toks + 1 } → wpAny (model X.prog X.w) X.A (f (.int i t) (.int j u)) Q E s) :
   OpR X f (rI C fun i j => .int (g i j)) := by
 intro pins s σ H x y v u Q I rx ry h
 obtain ⟨i, j, rfl, rfl, hc, q⟩ := h
 obtain ⟨t, rfl⟩ := rx
 obtain ⟨t', rfl⟩ := ry
 exact rule i j t t' s _ _ hc ⟨.int (g i j), H, I.tok _, ⟨_, rfl⟩, q⟩
theorem opI0 {f : Value → Value → Sem Value} {g : Int → Int → Int}
   (rule : ∀ (i j : Int) (t u : Tok) (s : Shared) (Q : Value → Shared → Prop) (E : Value → Shared → Prop), Q (.int (g i j) s.toks) { s with toks := s.toks + 1 } → wpAny (model X.prog X.w) X.A (f (.int i t) (.int j u)) Q E s) :
   OpR X f (rI0 fun i j => .int (g i j)) := by
 intro pins s σ H x y v u Q I rx ry h
 obtain ⟨i, j, rfl, rfl, q⟩ := h
 obtain ⟨t, rfl⟩ := rx
 obtain ⟨t', rfl⟩ := ry
 exact rule i j t t' s _ _ ⟨.int (g i j), H, I.tok _, ⟨_, rfl⟩, q⟩
theorem opB0 {f : Value → Value → Sem Value} {g : Int → Int → Bool}
   (rule : ∀ (i j : Int) (t u : Tok) (s : Shared) (Q : Value → Shared → Prop) (E : Value → Shared → Prop), Q (.bool (g i j)) s → wpAny (model X.prog X.w) X.A (f (.int i t) (.int j u)) Q E s) :
   OpR X f (rI0 fun i j => .bl (g i j)) := by
 intro pins s σ H x y v u Q I rx ry h
 obtain ⟨i, j, rfl, rfl, q⟩ := h
 obtain ⟨t, rfl⟩ := rx
 obtain ⟨t', rfl⟩ := ry
 exact rule i j t t' s _ _ ⟨.bl (g i j), H, I, rfl, q⟩
def CDiv (i j : Int) : Prop := 0 < j ∧ j < 1073741824
def CMul (i j : Int) : Prop := (-(2 ^ 64) < i ∧ i < 2 ^ 64) ∨ (-(2 ^ 64) < j ∧ j < 2 ^ 64)
theorem CMul.ok {i j : Int} (h : CMul i j) : IntMulOk i j := by
 rcases h with ⟨h1, h2⟩ | ⟨h1, h2⟩
 · exact .of_left (intBits_le_64 h1 h2)
 · exact .of_right (intBits_le_64 h1 h2)
theorem op_add : OpR X (binaryOp .Add) (rI0 fun i j => .int (i + j)) := opI0 fun _ _ _ _ _ _ _ q => add_int q
theorem op_mul : OpR X (binaryOp .Mult) (rI CMul fun i j => .int (i * j)) := opI fun _ _ _ _ _ _ _ hc q => mul_int q hc.ok
theorem op_fdiv : OpR X (binaryOp .FloorDiv) (rI CDiv fun i j => .int (i / j)) := opI fun i j _ _ _ _ _ hc q => by
 have h1 : (0 : Int) < j := hc.1
 have h2 : j < 1073741824 := hc.2
 exact floordiv_int (by omega) (by rw [Int.fdiv_eq_ediv_of_nonneg i (by omega)]; exact q) (.inl (PyProof.noPylong_small (by omega)))
theorem op_mod : OpR X (binaryOp .Mod) (rI (fun _ j => 0 < j) fun i j => .int (i % j)) := opI fun i j _ _ _ _ _ hc q => by
 have h1 : (0 : Int) < j := hc
 exact mod_int' (by omega) (by rw [Int.fmod_eq_emod_of_nonneg i (by omega)]; exact q)
end
def scal : V → V → Bool
 | .non, .non => true | .non, .int _ => true | .int _, .non => true | .non, .bl _ => true | .bl _, .non => true | .non, .str _ => true | .str _, .non => true
 | .int _, .int _ => true | .bl _, .bl _ => true | .str _, .str _ => true | .byt _, .byt _ => true
 | .int _, .str _ => true | .str _, .int _ => true | .bl _, .str _ => true | .str _, .bl _ => true
 | _, _ => false
def rEq : R2 := fun x y H Q => scal x y = true ∧ Q (.bl (decide (x = y))) H
def rNe : R2 := fun x y H Q => scal x y = true ∧ Q (.bl (!decide (x = y))) H
theorem dec_int {i j : Int} : decide (V.int i = V.int j) = (i == j) := by
 rw [Bool.eq_iff_iff]
 simp
theorem dec_bl {i j : Bool} : decide (V.bl i = V.bl j) = (i == j) := by
 rw [Bool.eq_iff_iff]
 simp
theorem dec_str {i j : Str} : decide (V.str i = V.str j) = (i == j) := by
 rw [Bool.eq_iff_iff]
 simp
theorem dec_byt {i j : Array UInt8} : decide (V.byt i = V.byt j) = (i.toList == j.toList) := by
 rw [Bool.eq_iff_iff]
 cases i
 cases j
 simp
section
variable {X : Cx} {a b c : Expr} {ta tb tc : TE} {pos : Pos}
theorem fin_bl {pins : List (Addr × Obj)} {σ : St} {H : Hp} {s : Shared} {Q : VK} {k k' : Bool} (I : Inv X pins σ H s) (q : Q (.bl k) H) (e : k = k') : EP X pins σ Q (.bool k') s := by
 subst e
 exact ⟨.bl k, H, I, rfl, q⟩
theorem op_eq : OpR X (compareOp .Eq) rEq := by
 intro pins s σ H x y v u Q I rx ry h
 obtain ⟨hs, q⟩ := h
 cases x with
 | non =>
   cases rx
   cases y with
   | non => cases ry; exact PySem.EqNone.eq_none_none (fin_bl I q (by simp))
   | bl j => cases ry; exact PySem.EqNone.eq_none_bool (fin_bl I q (by simp))
   | int j => obtain ⟨t', rfl⟩ := ry; exact PySem.EqNone.eq_none_int (fin_bl I q (by simp))
   | str j => obtain ⟨t', rfl⟩ := ry; exact PySem.EqNone.eq_none_str (fin_bl I q (by simp))
   | _ => exact absurd (show false = true from hs) Bool.false_ne_true
 | bl i =>
   cases rx
   cases y with
   | non => cases ry; exact PySem.EqNone.eq_bool_none (fin_bl I q (by simp))
   | bl j => cases ry; exact eq_bool (fin_bl I q dec_bl)
   | str j => obtain ⟨t', rfl⟩ := ry; exact PySem.EqMixed.eq_bool_str (fin_bl I q (by simp))
   | _ => exact absurd (show false = true from hs) Bool.false_ne_true
 | int i =>
   obtain ⟨t, rfl⟩ := rx
   cases y with
   | non => cases ry; exact PySem.EqNone.eq_int_none (fin_bl I q (by simp))
   | int j => obtain ⟨t', rfl⟩ := ry; exact eq_int (fin_bl I q dec_int)
   | str j => obtain ⟨t', rfl⟩ := ry; exact PySem.EqMixed.eq_int_str (fin_bl I q (by simp))
   | _ => exact absurd (show false = true from hs) Bool.false_ne_true
 | str i =>
   obtain ⟨t, rfl⟩ := rx
   cases y with
   | non => cases ry; exact PySem.EqNone.eq_str_none (fin_bl I q (by simp))
   | bl j => cases ry; exact PySem.EqMixed.eq_str_bool (fin_bl I q (by simp))
   | int j => obtain ⟨t', rfl⟩ := ry; exact PySem.EqMixed.eq_str_int (fin_bl I q (by simp))
   | str j => obtain ⟨t', rfl⟩ := ry; exact eq_str (fin_bl I q dec_str)
   | _ => exact absurd (show false = true from hs) Bool.false_ne_true
 | byt i =>
   obtain ⟨t, rfl⟩ := rx
   cases y with
   | byt j => obtain ⟨t', rfl⟩ := ry; exact PySem.W.eq_bytes (fin_bl I q dec_byt)
   | _ => exact absurd (show false = true from hs) Bool.false_ne_true
 | _ => cases y <;> exact absurd (show false = true from hs) Bool.false_ne_true
theorem op_ne : OpR X (compareOp .NotEq) rNe := by
 intro pins s σ H x y v u Q I rx ry h
 obtain ⟨hs, q⟩ := h
 cases x with
 | non =>
   cases rx
   cases y with
   | non => cases ry; exact PySem.EqNone.ne_none_none (fin_bl I q (by simp))
   | bl j => cases ry; exact PySem.EqNone.ne_none_bool (fin_bl I q (by simp))
   | int j => obtain ⟨t', rfl⟩ := ry; exact PySem.EqNone.ne_none_int (fin_bl I q (by simp))
   | str j => obtain ⟨t', rfl⟩ := ry; exact PySem.EqNone.ne_none_str (fin_bl I q (by simp))
   | _ => exact absurd (show false = true from hs) Bool.false_ne_true
 | bl i =>
   cases rx
   cases y with
   | non => cases ry; exact PySem.EqNone.ne_bool_none (fin_bl I q (by simp))
   | bl j => cases ry; exact ne_bool (fin_bl I q (congrArg not dec_bl))
   | str j => obtain ⟨t', rfl⟩ := ry; exact PySem.EqMixed.ne_bool_str (fin_bl I q (by simp))
   | _ => exact absurd (show false = true from hs) Bool.false_ne_true
 | int i =>
   obtain ⟨t, rfl⟩ := rx
   cases y with
   | non => cases ry; exact PySem.EqNone.ne_int_none (fin_bl I q (by simp))
   | int j => obtain ⟨t', rfl⟩ := ry; exact ne_int (fin_bl I q (congrArg not dec_int))
   | str j => obtain ⟨t', rfl⟩ := ry; exact PySem.EqMixed.ne_int_str (fin_bl I q (by simp))
   | _ => exact absurd (show false = true from hs) Bool.false_ne_true
 | str i =>
   obtain ⟨t, rfl⟩ := rx
   cases y with
   | non => cases ry; exact PySem.EqNone.ne_str_none (fin_bl I q (by simp))
   | bl j => cases ry; exact PySem.EqMixed.ne_str_bool (fin_bl I q (by simp))
   | int j => obtain ⟨t', rfl⟩ := ry; exact PySem.EqMixed.ne_str_int (fin_bl I q (by simp))
   | str j => obtain ⟨t', rfl⟩ := ry; exact ne_str (fin_bl I q (congrArg not dec_str))
   | _ => exact absurd (show false = true from hs) Bool.false_ne_true
 | byt i =>
   obtain ⟨t, rfl⟩ := rx
   cases y with
   | byt j => obtain ⟨t', rfl⟩ := ry; exact PySem.W.ne_bytes (fin_bl I q (congrArg not dec_byt))
   | _ => exact absurd (show false = true from hs) Bool.false_ne_true
 | _ => cases y <;> exact absurd (show false = true from hs) Bool.false_ne_true
theorem op_lt : OpR X (compareOp .Lt) (rI0 fun i j => .bl (decide (i < j))) := opB0 fun _ _ _ _ _ _ _ q => lt_int q
theorem op_gt : OpR X (compareOp .Gt) (rI0 fun i j => .bl (decide (j < i))) := opB0 fun _ _ _ _ _ _ _ q => gt_int q
theorem op_in_str : OpR X (compareOp .In) (fun x y H Q => ∃ i j, x = .str i ∧ y = .str j ∧ Q (.bl (!(Builtin.Str.occurrences j i 0 j.length 1).isEmpty)) H) := by
 intro pins s σ H x y v u Q I rx ry h
 obtain ⟨i, j, rfl, rfl, q⟩ := h
 obtain ⟨t, rfl⟩ := rx
 obtain ⟨t', rfl⟩ := ry
 exact in_str (fin_bl I q rfl)
theorem OpR.or {f : Value → Value → Sem Value} {r r' : R2} (h : OpR X f r) (h' : OpR X f r') : OpR X f (fun x y H Q => r x y H Q ∨ r' x y H Q) := by
 intro pins s σ H x y v u Q I rx ry q
 rcases q with q | q
 · exact h pins s σ H x y v u Q I rx ry q
 · exact h' pins s σ H x y v u Q I rx ry q
theorem nomark (b : Expr) {op : CmpOp} (h : op ≠ .In := by decide) (h2 : op ≠ .NotIn := by decide) : behindInMarks op b = false := by
 have e1 : (op == CmpOp.In) = false := by cases op <;> first | rfl | exact absurd rfl h
 have e2 : (op == CmpOp.NotIn) = false := by cases op <;> first | rfl | exact absurd rfl h2
 cases b <;> simp [behindInMarks, e1, e2]
theorem pe_cmpR {op : CmpOp} {r : R2} (ho : OpR X (compareOp op) r) (ha : PE X a ta) (hb : PE X b tb) (hm : behindInMarks op b = false) : PE X (.Compare a [op] [b] pos) (tOp r ta tb) := by
 intro pins s σ H Q I h
 exact wpAny_Compare1 (binT ha hb I h fun v u s2 x y H2 I2 rx ry q => ho pins s2 σ H2 x y v u Q I2 rx ry q) hm
def tTest (t : TE) : TT := fun σ H Q => t σ H fun x H' => ∃ k, x = .bl k ∧ Q k H'
theorem pt_cmpR {op : CmpOp} {r : R2} (ho : OpR X (compareOp op) r) (ha : PE X a ta) (hb : PE X b tb) (hm : behindInMarks op b = false) : PT X (.Compare a [op] [b] pos) (tTest (tOp r ta tb)) := by
 intro pins s σ H Q I h
 refine wpAny_isTrue_Compare1 (thn (ha pins s σ H _ I h) fun v s1 ⟨x, H1, I1, r1, q1⟩ => thn (hb pins s1 σ H1 _ I1 q1) fun u s2 ⟨y, H2, I2, r2, q2⟩ =>
   thn (ho pins s2 σ H2 x y v u _ I2 r1 r2 q2) fun c s3 ⟨z, H3, I3, r3, k, e, q3⟩ => ?_) hm
 subst e
 cases r3
 exact wpAny_truthy_bool ⟨H3, I3, q3⟩
def TruV (K : PySem.W.Frag) (x : V) (H : Hp) (k : Bool) : Prop :=
 match x with
 | .non => k = false
 | .bl b => k = b
 | .int i => k = (i != 0)
 | .str y => y.length ≤ sizeLine ∧ k = ((y.length : Int) != 0)
 | .byt y => y.size ≤ sizeLine ∧ k = ((y.size : Int) != 0)
 | .ref p => (∃ xs, SqL K H p xs ∧ k = !xs.isEmpty) ∨ (∃ xs, SqT K H p xs ∧ k = !xs.isEmpty) ∨ ∃ kvs, H p = some (.dK kvs) ∧ k = !kvs.isEmpty
 | _ => False
theorem isEmpty_kv {κ : Type} {kvs : List (κ × V)} {vs : List (κ × Value)} (r : KV kvs vs) : (!vs.isEmpty) = !kvs.isEmpty := by
 cases r <;> rfl
theorem isEmpty_of {xs : List V} {its : List Value} (r : Vals xs its) : (!its.toArray.isEmpty) = !xs.isEmpty := by
 cases r <;> simp
theorem line63 : (sizeLine : Nat) < 2 ^ 63 := by rw [sizeLine_eq]; decide
theorem tru_ok : TruR X (fun x H Q => ∃ k, TruV X.K x H k ∧ Q k H) := by
 intro pins s σ H x v Q I rx h
 obtain ⟨k, e, q⟩ := h
 have hl := line63
 have hs : sizeLine = 16777216 := sizeLine_eq
 cases x with
 | non =>
   cases rx
   have e' : k = false := e
   subst e'
   exact truthy_none ⟨H, I, q⟩
 | bl b =>
   cases rx
   have e' : k = b := e
   subst e'
   exact wpAny_truthy_bool ⟨H, I, q⟩
 | int i =>
   obtain ⟨t, rfl⟩ := rx
   have e' : k = (i != 0) := e
   subst e'
   exact PySem.P.truthy_int ⟨H, I, q⟩
 | str y =>
   obtain ⟨t, rfl⟩ := rx
   obtain ⟨hy, e'⟩ : y.length ≤ sizeLine ∧ k = ((y.length : Int) != 0) := e
   subst e'
   exact PySem.P.truthy_str (by omega) ⟨H, I.tok _, q⟩
 | byt y =>
   obtain ⟨t, rfl⟩ := rx
   obtain ⟨hy, e'⟩ : y.size ≤ sizeLine ∧ k = ((y.size : Int) != 0) := e
   subst e'
   exact PySem.W.truthy_bytes (by omega) ⟨H, I.tok _, q⟩
 | ref p =>
   cases rx
   have e' : (∃ xs, SqL X.K H p xs ∧ k = !xs.isEmpty) ∨ (∃ xs, SqT X.K H p xs ∧ k = !xs.isEmpty) ∨ ∃ kvs, H p = some (.dK kvs) ∧ k = !kvs.isEmpty := e
   rcases e' with ⟨xs, hx, e'⟩ | ⟨xs, hx, e'⟩ | ⟨kvs, hx, e'⟩
   · subst e'
     obtain ⟨its, r, pl, hz⟩ := I.list hx
     have hlen := r.length
     exact wpAny_truthy_list pl.isList (by simp only [List.size_toArray]; omega) ⟨H, I.tok _, by rw [isEmpty_of r]; exact q⟩
   · subst e'
     obtain ⟨its, r, pl, hz⟩ := I.tuple hx
     have hlen := r.length
     exact truthy_tuple pl (by simp only [List.size_toArray]; omega) ⟨H, I.tok _, by rw [isEmpty_of r]; exact q⟩
   · subst e'
     obtain ⟨hz, hS, vs, r, m⟩ : kvs.length ≤ sizeLine ∧ (p == sysModules) = false ∧ ∃ vs, KV kvs vs ∧ s.heap.DictOf (mixKind X.prog X.w) p vs := I.hok p _ hx
     have hlen : kvs.length = vs.length := Paired.length r
     exact wpAny_truthy_dict hS m (by omega) ⟨H, I.tok _, by rw [isEmpty_kv r]; exact q⟩
 | _ => exact (show False from e).elim
theorem pt_truth (ha : PE X a ta) (he : ∀ whole, isTrue a X.env whole = (do let v ← whole; standAt a.pos; holding [v] (truthy v))) :
   PT X a (fun σ H Q => ta σ H fun x H' => ∃ k, TruV X.K x H' k ∧ Q k H') := by
 intro pins s σ H Q I h
 exact isTrue_plain (thn (ha pins s σ H _ I h) fun v s1 ⟨x, H1, I1, r1, q1⟩ => tru_ok pins s1 σ H1 x v Q I1 r1 q1) (he _)
theorem op_add_str : OpR X (binaryOp .Add) (fun x y H Q => ∃ i j, x = .str i ∧ y = .str j ∧ i.length + j.length ≤ sizeLine ∧ Q (.str (i ++ j)) H) := by
 intro pins s σ H x y v u Q I rx ry h
 obtain ⟨i, j, rfl, rfl, hz, q⟩ := h
 obtain ⟨t, rfl⟩ := rx
 obtain ⟨t', rfl⟩ := ry
 exact add_str (fun t' tk => ⟨.str (i ++ j), H, I.tok _, ⟨_, rfl⟩, q⟩) hz
theorem vals1 {x : V} {us : List Value} (r : Vals [x] us) : ∃ u, us = [u] ∧ RelV x u := by
 cases r with
 | cons r1 r2 => cases r2; exact ⟨_, rfl, r1⟩
theorem vals2 {x y : V} {us : List Value} (r : Vals [x, y] us) : ∃ u w', us = [u, w'] ∧ RelV x u ∧ RelV y w' := by
 cases r with
 | cons r1 r2 =>
   cases r2 with
   | cons r3 r4 => cases r4; exact ⟨_, _, rfl, r1, r3⟩
theorem call_str_int : CallR X (.type "str") (fun xs H Q => ∃ i, xs = [.int i] ∧ i.natAbs.log2 < 1920 ∧ Q (.str (toString i)) H) := by
 intro pins s σ H xs us Q I r h
 obtain ⟨i, rfl, hz, q⟩ := h
 obtain ⟨u, rfl, t, rfl⟩ := vals1 r
 exact PySem.P.str_of_int hz ⟨.str _, H, I.tok _, ⟨_, rfl⟩, q⟩
def LenV (K : PySem.W.Frag) (x : V) (H : Hp) (n : Nat) : Prop :=
 match x with
 | .str y => y.length ≤ sizeLine ∧ n = y.length
 | .byt y => y.size ≤ sizeLine ∧ n = y.size
 | .ref p => (∃ xs, SqL K H p xs ∧ n = xs.length) ∨ ∃ xs, SqT K H p xs ∧ n = xs.length
 | _ => False
theorem call_len : CallR X (.builtin "len") (fun xs H Q => ∃ x n, xs = [x] ∧ LenV X.K x H n ∧ Q (.int n) H) := by
 intro pins s σ H xs us Q I r h
 obtain ⟨x, n, rfl, e, q⟩ := h
 obtain ⟨u, rfl, rx⟩ := vals1 r
 have hl := line63
 have hs : sizeLine = 16777216 := sizeLine_eq
 cases x with
 | str y =>
   obtain ⟨t, rfl⟩ := rx
   obtain ⟨hy, e'⟩ : y.length ≤ sizeLine ∧ n = y.length := e
   subst e'
   exact len_str (by omega) ⟨.int _, H, I.tok _, ⟨_, rfl⟩, q⟩
 | byt y =>
   obtain ⟨t, rfl⟩ := rx
   obtain ⟨hy, e'⟩ : y.size ≤ sizeLine ∧ n = y.size := e
   subst e'
   exact PySem.W.len_bytes (by omega) ⟨.int _, H, I.tok _, ⟨_, rfl⟩, q⟩
 | ref p =>
   cases rx
   have e' : (∃ xs, SqL X.K H p xs ∧ n = xs.length) ∨ ∃ xs, SqT X.K H p xs ∧ n = xs.length := e
   rcases e' with ⟨xs, hx, e'⟩ | ⟨xs, hx, e'⟩
   · subst e'
     obtain ⟨its, r', pl, hz⟩ := I.list hx
     have hlen := r'.length
     exact Calls.call_len_list pl.isList (by simp only [List.size_toArray]; omega) ⟨.int xs.length, H, I.tok _, ⟨_, by simp only [List.size_toArray]; rw [hlen]⟩, q⟩
   · subst e'
     obtain ⟨its, r', pl, hz⟩ := I.tuple hx
     have hlen := r'.length
     exact len_tuple pl (by simp only [List.size_toArray]; omega) ⟨.int xs.length, H, I.tok _, ⟨_, by simp only [List.size_toArray]; rw [hlen]⟩, q⟩
 | _ => exact (show False from e).elim
end
end L2
namespace L2
open PySem PySem.Spec PyProof.Rows
structure ObjM (h : Heap) (x dx C : Addr) (mA : Str → Option Value) : Prop where
 obj : h.get? x = some (PySem.W.instObj C dx)
 ns : h.Ns1 dx mA
 ne : dx ≠ x
theorem lookIn_ns {h : Heap} {dx : Addr} {mA : Str → Option Value} (n : h.Ns1 dx mA) : ∃ od, h.get? dx = some od ∧ ∀ name, PySem.W.lookIn name od = some (mA name) := by
 obtain ⟨o, es, ep, ho, hd, hk, _, hm⟩ := n
 refine ⟨o, ho, fun name => ?_⟩
 have e := hm name
 unfold nsFind findBy at e
 rw [← Array.find?_toList] at e
 unfold PySem.W.lookIn
 rw [hd]
 dsimp only
 split
 · rename_i y q
   rw [q] at e
   exact congrArg some e
 · rename_i q
   rw [q] at e
   have a : es.toList.any (·.refKey) = false := by
     rw [List.any_eq_false]
     intro y hy
     obtain ⟨z, t, hkey⟩ := hk y (Array.mem_toList_iff.mp hy)
     simp [DictEntry.refKey, hkey]
   have a' : ¬ es.toList.any (·.refKey) = true := by rw [a]; exact Bool.false_ne_true
   rw [if_neg a']
   exact congrArg some e
theorem ObjM.look {h : Heap} {x dx C : Addr} {mA : Str → Option Value} (I : ObjM h x dx C mA) : ∃ od, PySem.W.InstAt h x (PySem.W.instObj C dx) C (some od) ∧ ∀ name, PySem.W.lookIn name od = some (mA name) :=
 let ⟨od, ho, hl⟩ := lookIn_ns I.ns
 ⟨od, ⟨I.obj, rfl, rfl, ho⟩, hl⟩
section
variable {prog : Program} {w : World} {A : Around} {E : Value → Shared → Prop} {s : Shared} {K : PySem.W.Frag} {x dx C f : Addr} {mA : Str → Option Value} {name : Str} {v : Value}
theorem get_map {expr : Bool} {Q : Value → Shared → Prop} (X : K.In s.heap) (I : ObjM s.heap x dx C mA) (hg : PySem.W.plainGet K C name = true) (hh : PySem.W.hasDictIn K C = true)
   (ha : PySem.W.findIn K (.ref C) name = some none) (hv : mA name = some v) (hv' : PySem.W.handedIn v = true) (h : Q v { s with toks := s.toks + 1 }) :
   wpAny (model prog w) A (getAttr (.ref x) name expr) Q E s := by
 obtain ⟨od, J, hl⟩ := I.look
 exact PySem.W.get_value X J (PySem.W.plainGet_of hg).1 (PySem.W.findObj_own hh ha rfl (by rw [hl, hv])) hv' h
theorem get_meth {pl : Sem Bool} {Q : Value × List Value → Shared → Prop} (X : K.In s.heap) (I : ObjM s.heap x dx C mA) (hg : PySem.W.plainGet K C name = true)
   (hf : PySem.W.findIn K (.ref C) name = some (some (.ref f))) (ht : PySem.W.isFn K (.ref f) = true) (hv : mA name = none) (h : Q (.ref f, [.ref x]) s) :
   wpAny (model prog w) A (getMethod (.ref x) name pl) Q E s := by
 obtain ⟨od, J, hl⟩ := I.look
 exact PySem.W.method_fn X J (PySem.W.plainGet_of hg).1 (PySem.W.plainGet_of hg).2 hf (beq_iff_eq.mp ht) (by show (PySem.W.lookIn name od).map (·.isSome) = some false; rw [hl, hv]; rfl) h
theorem set_map {ns : List Str} {Q : Unit → Shared → Prop} (X : K.In s.heap) (I : ObjM s.heap x dx C mA)
   (hs : PySem.W.findIn K (.ref C) "__setattr__" = some (some (.builtin "object.__setattr__"))) (hp : PySem.W.plainOver K C = true) (ht : PySem.W.takerIn K C name = some none) (hh : PySem.W.hasDictIn K C = true)
   (hw : PySem.Within mA ns) (hsz : ns.length ≤ sizeLine)
   (h : ∀ h', ObjM h' x dx C (fun y => if y = name then some v else mA y) → Heap.SameBut dx s.heap h' → Q () { s with heap := h', toks := s.toks + 2 }) :
   wpAny (model prog w) A (setAttr (.ref x) name v) Q E s := by
 obtain ⟨od, J, hl⟩ := I.look
 refine PySem.W.set_plain X J hs (PySem.W.osa_open (s := { s with toks := s.toks + 1 }) (r := none) X J hp ht fun b => ?_)
 obtain ⟨cd, hc, hd'⟩ := PySem.W.any_some hh
 have hx : s.heap.get? x = some ⟨.ref C, some dx, .plain, #[]⟩ := I.obj
 refine wpAny_bind (wpAny_pure (wpAny_bind (wpAny_bind (wpAny_loadPart hx (wpAny_bind (PySem.W.Looks.here (s := { s with toks := s.toks + 1 }) (PySem.W.looks_clsIn X hc) ?_))))))
 rw [hd']
 refine wpAny_pure (a := some dx) (wpAny_bind (wpAny_pure (wpAny_bind ?_)))
 refine wpAny_nsSet1 (s := { s with toks := s.toks + 1 }) I.ns fun h' hn2 hs2 => ?_
 obtain ⟨oD, esD, epD, hoD, hdD, hcD⟩ := hn2.count (PySem.Within.cons name v hw)
 refine wpAny_bind (wpAny_lookBehind hoD (by rw [hdD]; exact pastItsLine_dict (Nat.le_trans hcD (by rw [List.length_cons]; omega))) ?_)
 exact wpAny_pure (h _ ⟨(hs2.2 _ (Ne.symm I.ne)).trans I.obj, hn2, I.ne⟩ hs2)
theorem make_map {R : Result → Shared → Prop} {vs : List Value} {kw : List (Str × Value)} (X : K.In s.heap) (hm : PySem.W.makesIn K C = true)
   (hi : PySem.W.findIn K (.ref C) "__init__" = some (some (.ref f))) (hf : PySem.W.typeIn K (.ref f) = some (.type "function"))
   (h : codeAny (model prog w) (A.under (.builtin "type.__call__" ⟨.ref C :: vs, kw⟩)) (.call (.ref f) ⟨.ref (s.heap.objs.size + 1) :: vs, kw⟩) (PySem.W.InitBack (s.heap.objs.size + 1) R)
     { s with heap := (s.heap.push PySem.W.emptyDict).push (PySem.W.instObj C s.heap.objs.size) }) :
   codeAny (model prog w) A (.call (.ref C) ⟨vs, kw⟩) R s := by
 obtain ⟨hh, g, d, t, os⟩ := s
 exact PySem.W.make_core (PySem.W.makes_of X hm) (PySem.W.looks_findIn X hi) (fun self => PySem.W.bind_fn X self hf) (.inl rfl) h
end
def putF (f : Str) (v : V) : List (Str × V) → List (Str × V)
 | [] => [(f, v)]
 | (g, x) :: r => if g = f then (g, v) :: r else (g, x) :: putF f v r
theorem lookup_putF (f g : Str) (v : V) : ∀ fs : List (Str × V), (putF f v fs).lookup g = if g = f then some v else fs.lookup g
 | [] => by
   show List.lookup g [(f, v)] = _
   by_cases h : g = f
   · have hb : (g == f) = true := beq_iff_eq.mpr h
     simp only [List.lookup, hb, if_pos h]
   · have hb : (g == f) = false := beq_eq_false_iff_ne.mpr h
     simp only [List.lookup, hb, if_neg h]
 | (k, x) :: r => by
   have ih := lookup_putF f g v r
   rw [show putF f v ((k, x) :: r) = (if k = f then (k, v) :: r else (k, x) :: putF f v r) from rfl]
   by_cases hk : k = f
   · rw [if_pos hk]
     by_cases h : g = k
     · have hb : (g == k) = true := beq_iff_eq.mpr h
       simp only [List.lookup, hb, if_pos (h.trans hk)]
     · have hb : (g == k) = false := beq_eq_false_iff_ne.mpr h
       simp only [List.lookup, hb, if_neg (fun e : g = f => h (e.trans hk.symm))]
   · rw [if_neg hk]
     by_cases h : g = k
     · have hb : (g == k) = true := beq_iff_eq.mpr h
       simp only [List.lookup, hb, if_neg (fun e : g = f => hk (h.symm.trans e))]
     · have hb : (g == k) = false := beq_eq_false_iff_ne.mpr h
       simp only [List.lookup, hb]
       exact ih
theorem keys_putF (f : Str) (v : V) : ∀ fs : List (Str × V), f ∈ (putF f v fs).map (·.1) ∧ ∀ g, g ∈ fs.map (·.1) → g ∈ (putF f v fs).map (·.1)
 | [] => ⟨by simp [putF], fun g h => by simp at h⟩
 | (k, x) :: r => by
   obtain ⟨i1, i2⟩ := keys_putF f v r
   rw [show putF f v ((k, x) :: r) = (if k = f then (k, v) :: r else (k, x) :: putF f v r) from rfl]
   by_cases hk : k = f
   · rw [if_pos hk]
     subst hk
     exact ⟨by simp, fun g h => by simpa using h⟩
   · rw [if_neg hk]
     refine ⟨?_, fun g h => ?_⟩
     · rw [List.map_cons]
       exact List.mem_cons_of_mem _ i1
     · rw [List.map_cons] at h ⊢
       rcases List.mem_cons.mp h with e | e
       · exact List.mem_cons.mpr (.inl e)
       · exact List.mem_cons_of_mem _ (i2 g e)
theorem length_putF (f : Str) (v : V) : ∀ fs : List (Str × V), (putF f v fs).length ≤ fs.length + 1
 | [] => by simp [putF]
 | (k, x) :: r => by
   have ih := length_putF f v r
   rw [show putF f v ((k, x) :: r) = (if k = f then (k, v) :: r else (k, x) :: putF f v r) from rfl]
   by_cases hk : k = f
   · rw [if_pos hk, List.length_cons, List.length_cons]; omega
   · rw [if_neg hk, List.length_cons, List.length_cons]; omega
theorem RelO.some_of {v : V} {o : Option Value} (r : RelO (some v) o) : ∃ u, o = some u ∧ RelV v u := by
 cases o with
 | none => exact (show False from r).elim
 | some u => exact ⟨u, rfl, r⟩
theorem RelO.none_of {o : Option Value} (r : RelO none o) : o = none := by
 cases o with
 | none => rfl
 | some u => exact (show False from r).elim
theorem handed_of {v : V} {u : Value} (r : RelV v u) : PySem.W.handedIn u = true := by
 cases v with
 | non => cases (show u = Value.none from r); rfl
 | bl b => cases (show u = Value.bool b from r); rfl
 | int i => obtain ⟨t, e⟩ := (show ∃ t, u = Value.int i t from r); cases e; rfl
 | str x => obtain ⟨t, e⟩ := (show ∃ t, u = Value.str x t from r); cases e; rfl
 | byt b => obtain ⟨t, e⟩ := (show ∃ t, u = Value.bytes b t from r); cases e; rfl
 | flt b => obtain ⟨t, e⟩ := (show ∃ t, u = Value.float b t from r); cases e; rfl
 | ref a => cases (show u = Value.ref a from r); rfl
 | ty n => cases (show u = Value.type n from r); rfl
section
variable {P : Program} {w : World} {H H' : Hp} {h h' : Heap} {a C dx : Addr} {fs fs' : List (Str × V)}
theorem ins_get (hok : HOk P w H h) (e : H a = some (.ins C dx fs)) : ∃ mA, ObjM h a dx C mA ∧ (∀ f, RelO (fs.lookup f) (mA f)) ∧ PySem.Within mA (fs.map (·.1)) ∧ fs.length ≤ 1000 ∧ H dx = some (.own a) := by
 obtain ⟨d, z, ne, ob, mA, n, r, q⟩ := (show ObjOk P w H h a (.ins C dx fs) from hok a _ e)
 exact ⟨mA, ⟨ob, n, ne⟩, r, q, z, d⟩
end
structure Cls (K : PySem.W.Frag) (C : Addr) : Prop where
 pg : PySem.W.plainGet K C Str.empty = true
 hd : PySem.W.hasDictIn K C = true
 po : PySem.W.plainOver K C = true
 sa : PySem.W.findIn K (.ref C) "__setattr__" = some (some (.builtin "object.__setattr__"))
theorem Cls.get {K : PySem.W.Frag} {C : Addr} (c : Cls K C) (f : Str) : PySem.W.plainGet K C f = true := c.pg
def NoAttr (K : PySem.W.Frag) (C : Addr) (f : Str) : Prop := PySem.W.findIn K (.ref C) f = some none
theorem NoAttr.taker {K : PySem.W.Frag} {C : Addr} {f : Str} (n : NoAttr K C f) : PySem.W.takerIn K C f = some none := by
 unfold PySem.W.takerIn
 rw [show PySem.W.findIn K (.ref C) f = some none from n]
 rfl
structure Meth (K : PySem.W.Frag) (C : Addr) (m : Str) (f : Addr) : Prop where
 at_ : PySem.W.findIn K (.ref C) m = some (some (.ref f))
 fn : PySem.W.isFn K (.ref f) = true
 kp : PySem.W.keepIn K (.ref f) = true
section
variable {X : Cx} {pins : List (Addr × Obj)} {σ : St} {H : Hp} {s : Shared} {a C dx : Addr} {fs : List (Str × V)} {f : Str} {v : V} {A : Around} {E : Value → Shared → Prop}
theorem getattr_ok {b : Bool} {Q : Value → Shared → Prop} (I : Inv X pins σ H s) (e : H a = some (.ins C dx fs)) (c : Cls X.K C) (n : NoAttr X.K C f) (l : fs.lookup f = some v)
   (h : ∀ u s', Inv X pins σ H s' → RelV v u → Q u s') : wpAny (model X.prog X.w) A (getAttr (.ref a) f b) Q E s := by
 obtain ⟨mA, O, r, _, _, _⟩ := ins_get I.hok e
 obtain ⟨u, hu, ru⟩ := RelO.some_of (v := v) (o := mA f) (by rw [← l]; exact r f)
 exact get_map I.kIn O (c.get f) c.hd n hu (handed_of ru) (h u _ (I.tok _) ru)
theorem getmeth_ok {m : Str} {g : Addr} {pl : Sem Bool} {Q : Value × List Value → Shared → Prop} (I : Inv X pins σ H s) (e : H a = some (.ins C dx fs)) (c : Cls X.K C) (k : Meth X.K C m g) (l : fs.lookup m = none)
   (h : Q (.ref g, [.ref a]) s) : wpAny (model X.prog X.w) A (getMethod (.ref a) m pl) Q E s := by
 obtain ⟨mA, O, r, _, _, _⟩ := ins_get I.hok e
 have hn : mA m = none := RelO.none_of (by rw [← l]; exact r m)
 exact get_meth I.kIn O (c.get m) k.at_ k.fn hn h
theorem setattr_ok {y : V} {u : Value} {Q : Unit → Shared → Prop} (I : Inv X pins σ H s) (e : H a = some (.ins C dx fs)) (c : Cls X.K C) (n : NoAttr X.K C f) (hl : fs.length < 1000) (ry : RelV y u)
   (h : ∀ s', Inv X pins σ (upd H a (.ins C dx (putF f y fs))) s' → Q () s') : wpAny (model X.prog X.w) A (setAttr (.ref a) f u) Q E s := by
 obtain ⟨mA, O, r, wi, _, ho⟩ := ins_get I.hok e
 have hz : (fs.map (·.1)).length ≤ sizeLine := by rw [List.length_map, sizeLine_eq]; omega
 refine set_map I.kIn O c.sa c.po n.taker c.hd wi hz fun h' O' sb => h _ ?_
 have hd : ∃ o, h'.get? dx = some o := let ⟨o, _, _, e', _⟩ := O'.ns; ⟨o, e'⟩
 refine I.write (x := a) (e := dx) (by rw [e]; exact True.intro) (.inr ho) (fun b q hb z => (sb.2 b hb).trans z) hd ?_
 refine ⟨by rw [upd_ne O.ne]; exact ho, ?_, O.ne, O'.obj, _, O'.ns, fun g => ?_, fun g hg => ?_⟩
 · have := length_putF f y fs; omega
 · show RelO ((putF f y fs).lookup g) (if g = f then some u else mA g)
   rw [lookup_putF]
   by_cases q : g = f
   · rw [if_pos q, if_pos q]; exact ry
   · rw [if_neg q, if_neg q]; exact r g
 · by_cases q : g = f
   · rw [q]; exact (keys_putF f y fs).1
   · refine (keys_putF f y fs).2 g (wi g fun z => hg ?_)
     show (if g = f then some u else mA g) = none
     rw [if_neg q]; exact z
theorem Inv.made (I : Inv X pins σ H s) : Inv X pins σ (upd (upd H s.heap.objs.size (.own (s.heap.objs.size + 1))) (s.heap.objs.size + 1) (.ins C s.heap.objs.size []))
   { s with heap := (s.heap.push PySem.W.emptyDict).push (PySem.W.instObj C s.heap.objs.size) } := by
 have e1 : (s.heap.push PySem.W.emptyDict).get? s.heap.objs.size = some PySem.W.emptyDict := Heap.get?_push_size s.heap rfl
 have e2 : ((s.heap.push PySem.W.emptyDict).push (PySem.W.instObj C s.heap.objs.size)).get? (s.heap.objs.size + 1) = some (PySem.W.instObj C s.heap.objs.size) := by
   have := Heap.get?_push_size (s.heap.push PySem.W.emptyDict) (o := PySem.W.instObj C s.heap.objs.size) rfl
   rwa [Heap.size_push] at this
 have e3 : (s.heap.push PySem.W.emptyDict).Ns s.heap.objs.size (fun _ => none) := ⟨PySem.W.emptyDict, #[], _, e1, rfl, (fun e he => absurd he (by simp)), fun _ => rfl⟩
 have I1 := I.laid (a := s.heap.objs.size) (o := .own (s.heap.objs.size + 1)) (h' := s.heap.push PySem.W.emptyDict) (t' := s.toks) (fun b u q => Heap.get?_push_of_some _ q) (Nat.le_refl _) ⟨_, e1⟩
 refine I1.laid (a := s.heap.objs.size + 1) (o := .ins C s.heap.objs.size []) (t' := s.toks) (fun b u q => Heap.get?_push_of_some _ q) (Nat.le_of_eq (Heap.size_push _ _)) ?_
 have ne : s.heap.objs.size ≠ s.heap.objs.size + 1 := Nat.ne_of_lt (Nat.lt_succ_self _)
 refine ⟨by rw [upd_ne ne, upd_same], Nat.zero_le _, ne, e2, fun _ => none, (Heap.Ns1.of_empty e3).at fun o q => Heap.get?_push_of_some _ q, fun _ => True.intro, fun y hy => absurd rfl hy⟩
theorem attr_of {prog : Program} {w : World} {env : Env} {e : Expr} {f : Str} {pos : Pos} {s : Shared} {Q : Value → Shared → Prop} (hb : attributeBase e f env (eval e env) = eval e env)
   (h : wpAny (model prog w) A (eval e env) (fun o s₁ => wpAny (model prog w) A (getAttr o f true) Q E s₁) E s) : wpAny (model prog w) A (eval (.Attribute e f pos) env) Q E s :=
 Attribute_any_ h (by rw [arm_eval_Attribute, hb])
end
def tFld (K : PySem.W.Frag) (ta : TE) (f : Str) : TE := fun σ H Q => ta σ H fun x H1 => ∃ a C dx fs v, x = .ref a ∧ H1 a = some (.ins C dx fs) ∧ Cls K C ∧ NoAttr K C f ∧ fs.lookup f = some v ∧ Q v H1
def sFld (K : PySem.W.Frag) (ta tv : TE) (f : Str) : TS := fun D σ H => tv σ H fun y H1 => ta σ H1 fun x H2 => ∃ a C dx fs, x = .ref a ∧ H2 a = some (.ins C dx fs) ∧ Cls K C ∧ NoAttr K C f ∧ fs.length < 1000 ∧
 D.nx σ (upd H2 a (.ins C dx (putF f y fs)))
section
variable {X : Cx} {o e value : Expr} {f : Str} {pos pos' tpos : Pos} {ta tv : TE}
theorem pe_fld (he : PE X e ta) (hb : attributeBase e f X.env (eval e X.env) = eval e X.env) : PE X (.Attribute e f pos) (tFld X.K ta f) := by
 intro pins s σ H Q I h
 refine attr_of hb (thn (he pins s σ H _ I h) fun u s1 ⟨x, H1, I1, rx, a, C, dx, fs, v, ex, ea, c, n, l, q⟩ => ?_)
 subst ex
 obtain rfl : u = Value.ref a := rx
 exact getattr_ok I1 ea c n l fun u' s2 I2 ru => ⟨v, H1, I2, ru, q⟩
theorem ps_fld (ha : PE X o ta) (hv : PE X value tv) (hs : swapsWith value (some (.Attribute o f pos')) pos.line X.env = pure false) : PS X (.Assign [.Attribute o f pos'] value pos) (sFld X.K ta tv f) := by
 intro pins s σ H D I h
 refine plainObj_wpAny_Assign_Attribute (thn (hv pins s σ H _ I h) fun u s1 ⟨y, H1, I1, ry, q⟩ => thn (ha pins s1 σ H1 _ I1 q) fun ov s2 ⟨x, H2, I2, rx, a, C, dx, fs, ex, ea, c, n, l, q2⟩ => ?_) hs
 subst ex
 obtain rfl : ov = Value.ref a := rx
 exact setattr_ok I2 ea c n l ry fun s3 I3 => ⟨σ, _, I3, q2⟩
end
section
variable {X : Cx} {pins : List (Addr × Obj)} {σ : St} {H : Hp} {s : Shared} {A : Around} {E : Value → Shared → Prop} {Q : Value → Shared → Prop} {c : Value} {b : Bool}
inductive TyOf (K : PySem.W.Frag) (H : Hp) : V → Value → Prop where
 | non : TyOf K H .non (.type "NoneType")
 | bl (x : Bool) : TyOf K H (.bl x) (.type "bool")
 | int (i : Int) : TyOf K H (.int i) (.type "int")
 | str (x : Str) : TyOf K H (.str x) (.type "str")
 | flt (x : UInt64) : TyOf K H (.flt x) (.type "float")
 | lst {a : Addr} {xs : List V} (e : H a = some (.lst xs)) : TyOf K H (.ref a) (.type "list")
 | frz {a : Addr} {o : Obj} {xs : List V} (e : H a = some (.frz o (.lst xs))) : TyOf K H (.ref a) (.type "list")
 | tup {a : Addr} {xs : List V} (e : H a = some (.tup xs)) : TyOf K H (.ref a) (.type "tuple")
 | dK {a : Addr} {kvs : List (Key × V)} (e : H a = some (.dK kvs)) : TyOf K H (.ref a) (.type "dict")
 | dT {a : Addr} {kvs : List (List Key × V)} (e : H a = some (.dT kvs)) : TyOf K H (.ref a) (.type "dict")
 | ins {a C dx : Addr} {fs : List (Str × V)} (e : H a = some (.ins C dx fs)) (cl : Cls K C) (ha : PySem.W.findIn K (.ref C) "__class__" = some (some (.builtin "object.__class__")))
     (hn : PySem.W.specialIn K (.builtin "object.__class__") "__get__" = some (some (.builtin "getset_descriptor.__get__"))) (htk : PySem.W.takesIn K (.builtin "object.__class__") = some true)
     (hm : PySem.W.mroIn K C (.type "object") = some true) : TyOf K H (.ref a) (.ref C)
theorem isinst_ok {x : V} {u t : Value} (I : Inv X pins σ H s) (rx : RelV x u) (ty : TyOf X.K H x t) (e : PySem.W.kitOne X.K t c = some b) (h : ∀ tk, Q (.bool b) { s with toks := tk }) :
   wpAny (model X.prog X.w) A (call (.builtin "isinstance") [u, c]) Q E s := by
 cases ty with
 | non => cases (show u = Value.none from rx); exact PySem.W.kia_one PySem.W.kitx_none I.kIn True.intro e (fun z => nomatch z) h
 | bl y => cases (show u = Value.bool y from rx); exact PySem.W.kia_one PySem.W.kitx_bool I.kIn True.intro e (fun z => nomatch z) h
 | int i => obtain ⟨t, q⟩ := (show ∃ t, u = Value.int i t from rx); cases q; exact PySem.W.kia_one PySem.W.kitx_int I.kIn True.intro e (fun z => nomatch z) h
 | str y => obtain ⟨t, q⟩ := (show ∃ t, u = Value.str y t from rx); cases q; exact PySem.W.kia_one PySem.W.kitx_str I.kIn True.intro e (fun z => nomatch z) h
 | flt y => obtain ⟨t, q⟩ := (show ∃ t, u = Value.float y t from rx); cases q; exact PySem.W.kia_one PySem.W.kitx_float I.kIn True.intro e (fun z => nomatch z) h
 | @lst a xs ea =>
   cases (show u = Value.ref a from rx)
   obtain ⟨_, _, n, _, h1⟩ := (show ObjOk X.prog X.w H s.heap a (.lst xs) from I.hok a _ ea)
   exact PySem.W.kia_one PySem.W.kitx_list I.kIn ⟨_, h1, rfl⟩ e (fun z => nomatch z) h
 | @frz a ob xs ea =>
   cases (show u = Value.ref a from rx)
   obtain ⟨_, _, _, n, _, h1⟩ := (show ObjOk X.prog X.w H s.heap a (.frz ob (.lst xs)) from I.hok a _ ea)
   exact PySem.W.kia_one PySem.W.kitx_list I.kIn ⟨_, h1, rfl⟩ e (fun z => nomatch z) h
 | @tup a xs ea =>
   cases (show u = Value.ref a from rx)
   obtain ⟨_, _, _, p⟩ := (show ObjOk X.prog X.w H s.heap a (.tup xs) from I.hok a _ ea)
   obtain ⟨o, h1, h2, _⟩ := p
   exact PySem.W.kia_one PySem.W.kitx_tuple I.kIn ⟨o, h1, h2⟩ e (fun z => nomatch z) h
 | @dK a kvs ea =>
   cases (show u = Value.ref a from rx)
   obtain ⟨_, _, vs, _, p⟩ := (show ObjOk X.prog X.w H s.heap a (.dK kvs) from I.hok a _ ea)
   obtain ⟨o, es, ep, h1, h2, _⟩ := p
   exact PySem.W.kia_one PySem.W.kitx_dict I.kIn ⟨o, h1, h2.1⟩ e (fun z => nomatch z) h
 | @dT a kvs ea =>
   cases (show u = Value.ref a from rx)
   obtain ⟨_, _, xs, _, o, es, ep, h1, h2, _⟩ := (show ObjOk X.prog X.w H s.heap a (.dT kvs) from I.hok a _ ea)
   exact PySem.W.kia_one PySem.W.kitx_dict I.kIn ⟨o, h1, h2.1⟩ e (fun z => nomatch z) h
 | @ins a C dx fs ea cl ha hn htk hm =>
   cases (show u = Value.ref a from rx)
   obtain ⟨mA, O, _⟩ := ins_get I.hok ea
   obtain ⟨od, J, _⟩ := O.look
   exact PySem.W.kia_one (PySem.W.kitx_own (cl.get _) cl.hd ha hn htk hm) I.kIn J e (fun z => nomatch z) h
end
end L2
namespace L2
open PySem PySem.Spec PyProof.Rows
structure Room (k : Nat) (A : Around) : Prop where
 hd : A.handled = none
 dp : A.depth + 1 * k + 5 < recursionLimit
 un : A.units + 16 * k + 200 < cLine
 gd : A.guards = some []
theorem Room.mono {j k : Nat} {A : Around} (r : Room k A) (h : j ≤ k) : Room j A := ⟨r.hd, by have := r.dp; omega, by have := r.un; omega, r.gd⟩
theorem Room.deeper {k : Nat} {A : Around} (r : Room (k + 1) A) (env : Env) : Room k (A.deeper env) :=
 ⟨r.hd, by have := r.dp; show A.depth + 1 + 1 * k + 5 < _; omega, by have := r.un; show A.units + 3 + 16 * k + 200 < _; omega, r.gd⟩
theorem make_depth {A : Around} {C : Addr} {us : List Value} {kw : List (Str × Value)} : (A.under (.builtin "type.__call__" ⟨.ref C :: us, kw⟩)).depth = A.depth + 1 := by
 first | rfl | simp [Around.under, Code.weight, Code.isCreation, Code.isGuard, Code.isCaller, Code.frames, Code.isFrame, guardIds]
theorem make_units {A : Around} {C : Addr} {us : List Value} {kw : List (Str × Value)} : (A.under (.builtin "type.__call__" ⟨.ref C :: us, kw⟩)).units = A.units + 1 := by
 first | rfl | simp [Around.under, Code.cUnits, Code.frames, Code.isFrame]
theorem make_guards {A : Around} {C : Addr} {us : List Value} {kw : List (Str × Value)} : (A.under (.builtin "type.__call__" ⟨.ref C :: us, kw⟩)).guards = A.guards := by
 have e : (Code.builtin "type.__call__" ⟨.ref C :: us, kw⟩).guards = [] := by first | rfl | simp [Code.guards, Code.isGuard, guardIds]
 simp only [Around.under, e, pushGuards]
theorem Room.make {k : Nat} {A : Around} (r : Room (k + 1) A) (C : Addr) (us : List Value) (kw : List (Str × Value)) : Room k (A.under (.builtin "type.__call__" ⟨.ref C :: us, kw⟩)) :=
 ⟨r.hd, by have := r.dp; rw [make_depth]; omega, by have := r.un; rw [make_units]; omega, by rw [make_guards]; exact r.gd⟩
theorem Room.depth {k : Nat} {A : Around} (r : Room k A) : A.depth < recursionLimit := by have := r.dp; omega
theorem Room.units {k : Nat} {A : Around} (r : Room k A) : A.units + 64 < cLine := by have := r.un; omega
def tNil : TA := fun _ H Q => Q [] H
def tCons (ta : TE) (tr : TA) : TA := fun σ H Q => ta σ H fun x H1 => tr σ H1 fun xs H2 => Q (x :: xs) H2
section
variable {X : Cx} {e : Expr} {es : List Expr} {te : TE} {t : TA} {pos : Pos}
theorem pa_nil : PA X [] tNil := fun _ _ _ _ H Q I h => Calls.spliced_nil ⟨[], H, I, .nil, h⟩
theorem pa_cons (ha : PE X e te) (hr : PA X es t) (hs : starEach (e :: es) X.env = (false, eval e X.env) :: starEach es X.env := by rfl) : PA X (e :: es) (tCons te t) := by
 intro pos pins s σ H Q I h
 rw [hs]
 show wpAny _ _ (spliced ((false, eval e X.env) :: backTo pos (starEach es X.env))) _ _ s
 refine Calls.spliced_cons (thn (ha pins s σ H _ I h) fun u s1 ⟨x, H1, I1, r1, q1⟩ => ?_)
 exact thn (hr pos pins s1 σ H1 _ I1 q1) fun us s2 ⟨xs, H2, I2, r2, q2⟩ => ⟨x :: xs, H2, I2, .cons r1 r2, q2⟩
def tTup (t : TA) : TE := fun σ H Q => t σ H fun xs H1 => xs.length ≤ sizeLine ∧ ∀ p, H1 p = none → Q (.ref p) (upd H1 p (.tup xs))
def tLst (t : TA) : TE := fun σ H Q => t σ H fun xs H1 => xs.length ≤ sizeLine ∧ ∀ p, H1 p = none → Q (.ref p) (upd H1 p (.lst xs))
theorem pe_tup {x1} (h : PA X es t) : PE X (.Tuple es x1 pos) (tTup t) := by
 intro pins s σ H Q I hq
 refine wpAny_Tuple_spliced (thn (h pos pins s σ H _ I hq) fun us s1 ⟨xs, H1, I1, r, z, q⟩ => ⟨by rw [← r.length]; exact z, ?_⟩)
 have hf : H1 s1.heap.objs.size = none := I1.hok.fresh (Nat.le_refl _)
 refine ⟨.ref s1.heap.objs.size, upd H1 s1.heap.objs.size (.tup xs), I1.laid (t' := s1.toks) (fun b u e => Heap.get?_push_of_some _ e) (Nat.le_refl _) ?_, rfl, q _ hf⟩
 exact ⟨z, us, r, ⟨_, Heap.get?_push_size _ rfl, rfl, _, rfl⟩⟩
theorem pe_lst (h : PA X es t) : PE X (.List es pos) (tLst t) := by
 intro pins s σ H Q I hq
 refine wpAny_List_spliced (thn (h pos pins s σ H _ I hq) fun us s1 ⟨xs, H1, I1, r, z, q⟩ => ⟨by rw [← r.length]; exact z, ?_⟩)
 have hf : H1 s1.heap.objs.size = none := I1.hok.fresh (Nat.le_refl _)
 refine ⟨.ref s1.heap.objs.size, upd H1 s1.heap.objs.size (.lst xs), I1.laid (t' := s1.toks) (fun b u e => Heap.get?_push_of_some _ e) (Nat.le_refl _) ?_, rfl, q _ hf⟩
 exact ⟨z, us, 0, r, Heap.get?_push_size _ rfl⟩
end
abbrev Sp := List V → Hp → VK → XK → Prop
abbrev CXT := List Env → Hp → Shared → XK → Value → Shared → Prop
structure Env0 (P : Program) (w : World) (K : PySem.W.Frag) (mg : Str → Option Value) (base : Heap) (A : Around) (outer : List Env) (s : Shared) (H : Hp) : Prop where
 frames : A.frames = some outer
 mod : Mod K mg base
 bs : ∀ b o, base.get? b = some o → s.heap.get? b = some o ∧ H b = none
 bsz : base.objs.size ≤ s.heap.objs.size
 funs : s.heap.FunFrames base outer
 frf : ∀ b ∈ frs outer, H b = none
 hok : HOk P w H s.heap
 bare : AllBare s.gens
def CE (outer : List Env) (P : Program) (w : World) (H : Hp) (s : Shared) (Q : VK) (u : Value) (s' : Shared) : Prop :=
 ∃ v H', s'.os = s.os ∧ AllBare s'.gens ∧ Un (frs outer) [] H H' s.heap s'.heap ∧ HOk P w H' s'.heap ∧ RelV v u ∧ Q v H'
def CR (CX : CXT) (outer : List Env) (P : Program) (w : World) (H : Hp) (s : Shared) (Q : VK) (E : XK) (r : Result) (s' : Shared) : Prop :=
 match r with
 | .ok (.ret u) => CE outer P w H s Q u s'
 | .ok _ => False
 | .error e => CX outer H s E e s'
structure FnOk (P : Program) (w : World) (K : PySem.W.Frag) (mg : Str → Option Value) (base : Heap) (CX : CXT) (k : Nat) (f : Addr) (fd : FuncData) (ps : List Str) (sp : Sp) : Prop where
 len : ∀ vs H Q E, sp vs H Q E → vs.length = ps.length
 run : ∀ (A : Around) (outer : List Env) (s : Shared) (H : Hp) (args : Args) (us : List Value) (vs : List V) (Q : VK) (E : XK), Room k A → Env0 P w K mg base A outer s H → BindsTo s fd args (ps.zip us) → Vals vs us → sp vs H Q E →
   codeAny (model P w) A (.call (.ref f) args) (CR CX outer P w H s Q E) s
theorem FnOk.mono {P : Program} {w : World} {K : PySem.W.Frag} {mg : Str → Option Value} {base : Heap} {CX : CXT} {j k : Nat} {f : Addr} {fd : FuncData} {ps : List Str} {sp : Sp} (F : FnOk P w K mg base CX j f fd ps sp) (h : j ≤ k) :
   FnOk P w K mg base CX k f fd ps sp := ⟨F.len, fun A outer s H args us vs Q E hr => F.run A outer s H args us vs Q E (hr.mono h)⟩
theorem Env0.make {P : Program} {w : World} {K : PySem.W.Frag} {mg : Str → Option Value} {base : Heap} {A : Around} {outer : List Env} {s : Shared} {H : Hp} (e : Env0 P w K mg base A outer s H) (C : Addr) (us : List Value) (kw : List (Str × Value)) :
   Env0 P w K mg base (A.under (.builtin "type.__call__" ⟨.ref C :: us, kw⟩)) outer s H := ⟨by first | exact e.frames | (simpa [Around.under, Code.envs, Code.isFrame, pushEnvs] using e.frames), e.mod, e.bs, e.bsz, e.funs, e.frf, e.hok, e.bare⟩
section
variable {X : Cx} {pins : List (Addr × Obj)} {σ : St} {H : Hp} {s s' : Shared}
theorem Inv.env0 (I : Inv X pins σ H s) : Env0 X.prog X.w X.K X.mg X.base X.A X.stack s H :=
 ⟨I.ok.frames, I.ok.mod, I.bs, Nat.le_trans I.ok.bsz I.sz, I.stack, I.stkFree, I.hok, I.bare⟩
theorem Inv.after {Q : VK} {u : Value} (I : Inv X pins σ H s) (h : CE X.stack X.prog X.w H s Q u s') : EP X pins σ Q u s' := by
 obtain ⟨v, H', os, bare, un, hok, r, q⟩ := h
 obtain ⟨hh, g, d, t, os'⟩ := s'
 obtain rfl : os' = s.os := os
 exact ⟨v, H', I.call (h' := hh) (g' := g) (d' := d) (t' := t) (ch := []) un hok bare (fun b z => absurd z (by simp)), r, q⟩
end
def tCall (sp : Sp) (dvs : List V) (E : XK) (t : TA) : TE := fun σ H Q => t σ H fun vs H1 => sp (vs ++ dvs) H1 Q E
def tMake (C : Addr) (sp : Sp) (dvs : List V) (E : XK) (t : TA) : TE := fun σ H Q => t σ H fun vs H1 => ∀ x dx, H1 x = none → H1 dx = none → dx ≠ x →
 sp (.ref x :: (vs ++ dvs)) (upd (upd H1 dx (.own x)) x (.ins C dx [])) (fun v H2 => v = .non ∧ Q (.ref x) H2) E
def Binds (K : PySem.W.Frag) (fd : FuncData) (ps : List Str) (ds : List Value) : Prop :=
 ∀ (s : Shared) (us : List Value), K.In s.heap → (us ++ ds).length = ps.length → BindsTo s fd ⟨us, []⟩ (ps.zip (us ++ ds))
theorem Binds.all {K : PySem.W.Frag} {fd : FuncData} {ps : List Str} (h : ∀ us : List Value, us.length = ps.length → bindArgs fd ⟨us, []⟩ = pure (ps.zip us)) : Binds K fd ps [] := fun s us _ hl => by
 rw [List.append_nil] at hl ⊢
 exact .of_eq (h us hl)
def Passes (CX : CXT) (X : Cx) (E : XK) : Prop := ∀ (pins : List (Addr × Obj)) (σ : St) (H : Hp) (s : Shared) (e : Value) (s' : Shared), Inv X pins σ H s → CX X.stack H s E e s' → X.xe e s'
section
variable {X : Cx} {CX : CXT} {k : Nat} {f C : Addr} {fd : FuncData} {ps : List Str} {sp : Sp} {dvs : List V} {ds : List Value} {E : XK} {x m : Str} {p pos apos : Pos} {e o : Expr} {es : List Expr} {ta : TE} {t : TA}
theorem run_fn {pins : List (Addr × Obj)} {σ : St} {H : Hp} {s : Shared} {Q : VK} {us : List Value} {vs : List V} (F : FnOk X.prog X.w X.K X.mg X.base CX k f fd ps sp) (hr : Room k X.A) (hb : Binds X.K fd ps ds) (hd : Vals dvs ds) (hx : Passes CX X E)
   (I : Inv X pins σ H s) (r : Vals vs us) (h : sp (vs ++ dvs) H Q E) : wpAny (model X.prog X.w) X.A (call (.ref f) us) (EP X pins σ Q) X.xe s := by
 have r2 : Vals (vs ++ dvs) (us ++ ds) := r.append hd
 have hl : (us ++ ds).length = ps.length := by rw [← r2.length]; exact F.len _ _ _ _ h
 refine wpAny_call (codeAny_mono (F.run X.A X.stack s H ⟨us, []⟩ (us ++ ds) (vs ++ dvs) Q E hr I.env0 (hb s us I.kIn hl) r2 h) fun r s' hq => ?_)
 cases r with
 | error e => exact hx pins σ H s e s' I hq
 | ok fl =>
   cases fl with
   | ret u => exact I.after hq
   | next => exact False.elim hq
   | brk => exact False.elim hq
   | cont => exact False.elim hq
theorem pe_call (F : FnOk X.prog X.w X.K X.mg X.base CX k f fd ps sp) (hr : Room k X.A) (hg : Gl X x) (hm : X.mg x = some (.ref f)) (hk : PySem.W.keepIn X.K (.ref f) = true) (hb : Binds X.K fd ps ds) (hd : Vals dvs ds) (hx : Passes CX X E)
   (ha : PA X (e :: es) t) (hdb : (x == ("__debug__" : Str)) = false := by decide) (he : starEach (e :: es) X.env = (false, eval e X.env) :: starEach es X.env := by rfl) (hpl : (backTo pos (starEach es X.env)).any (·.1) = false := by rfl) :
   PE X (.Call (.Name x p) (e :: es) [] pos) (tCall sp dvs E t) := by
 intro pins s σ H Q I h
 refine wpAny_Call_Name_kw (ld_glob I hg hm ?_ hdb)
 refine PySem.W.callWith_K (h₀ := X.base) I.ok.mod.kin hk (thn (ha pos pins s σ H _ I h) fun us s1 ⟨vs, H1, I1, r, q⟩ => ⟨I1.kIn, ?_⟩) he hpl
 exact run_fn F hr hb hd hx I1 r q
structure Mk (K : PySem.W.Frag) (C f : Addr) : Prop where
 makes : PySem.W.makesIn K C = true
 init : PySem.W.findIn K (.ref C) "__init__" = some (some (.ref f))
 fn : PySem.W.isFn K (.ref f) = true
 kp : PySem.W.keepIn K (.ref C) = true
theorem run_make {pins : List (Addr × Obj)} {σ : St} {H : Hp} {s : Shared} {Q : VK} {us : List Value} {vs : List V} (M : Mk X.K C f) (F : FnOk X.prog X.w X.K X.mg X.base CX k f fd ps sp) (hr : Room (k + 1) X.A) (hb : Binds X.K fd ps ds) (hd : Vals dvs ds)
   (hx : Passes CX X E) (I : Inv X pins σ H s) (r : Vals vs us)
   (h : ∀ x dx, H x = none → H dx = none → dx ≠ x → sp (.ref x :: (vs ++ dvs)) (upd (upd H dx (.own x)) x (.ins C dx [])) (fun v H2 => v = .non ∧ Q (.ref x) H2) E) :
   wpAny (model X.prog X.w) X.A (call (.ref C) us) (EP X pins σ Q) X.xe s := by
 have hq := h (s.heap.objs.size + 1) s.heap.objs.size (I.hok.fresh (Nat.le_succ _)) (I.hok.fresh (Nat.le_refl _)) (Nat.ne_of_lt (Nat.lt_succ_self _))
 have I2 := Inv.made (C := C) I
 have r2 : Vals (V.ref (s.heap.objs.size + 1) :: (vs ++ dvs)) (Value.ref (s.heap.objs.size + 1) :: (us ++ ds)) := .cons rfl (r.append hd)
 have hl : (Value.ref (s.heap.objs.size + 1) :: us ++ ds).length = ps.length := by
   have e := r2.length
   rw [F.len _ _ _ _ hq] at e
   exact e.symm
 refine wpAny_call (make_map (f := f) I.kIn M.makes M.init (beq_iff_eq.mp M.fn) (codeAny_mono (F.run _ X.stack _ _ ⟨Value.ref (s.heap.objs.size + 1) :: us, []⟩ (Value.ref (s.heap.objs.size + 1) :: (us ++ ds)) _ _ E (hr.make C us [])
   (I2.env0.make C us []) (hb _ (Value.ref (s.heap.objs.size + 1) :: us) I2.kIn hl) r2 hq) fun r s' hq' => ?_))
 cases r with
 | error e => exact hx pins σ _ _ e s' I2 hq'
 | ok fl =>
   cases fl with
   | ret u =>
     obtain ⟨v, H', I3, rv, ev, q3⟩ := I2.after hq'
     subst ev
     exact ⟨rv, ⟨V.ref (s.heap.objs.size + 1), H', I3, rfl, q3⟩⟩
   | next => exact False.elim hq'
   | brk => exact False.elim hq'
   | cont => exact False.elim hq'
theorem pe_make (M : Mk X.K C f) (F : FnOk X.prog X.w X.K X.mg X.base CX k f fd ps sp) (hr : Room (k + 1) X.A) (hg : Gl X x) (hm : X.mg x = some (.ref C)) (hb : Binds X.K fd ps ds) (hd : Vals dvs ds) (hx : Passes CX X E)
   (ha : PA X (e :: es) t) (hdb : (x == ("__debug__" : Str)) = false := by decide) (he : starEach (e :: es) X.env = (false, eval e X.env) :: starEach es X.env := by rfl) (hpl : (backTo pos (starEach es X.env)).any (·.1) = false := by rfl) :
   PE X (.Call (.Name x p) (e :: es) [] pos) (tMake C sp dvs E t) := by
 intro pins s σ H Q I h
 refine wpAny_Call_Name_kw (ld_glob I hg hm ?_ hdb)
 refine PySem.W.callWith_K (h₀ := X.base) I.ok.mod.kin M.kp (thn (ha pos pins s σ H _ I h) fun us s1 ⟨vs, H1, I1, r, q⟩ => ⟨I1.kIn, ?_⟩) he hpl
 exact run_make M F hr hb hd hx I1 r q
end
section
variable {X : Cx} {CX : CXT} {k : Nat} {f C : Addr} {fd : FuncData} {ps ks : List Str} {sp : Sp} {E : XK} {x m : Str} {p pos apos kpos : Pos} {e o : Expr} {es : List Expr} {kws : List Keyword} {te ta : TE} {t tk : TA} {nm : Option Str}
variable {g : List Value → List Value → List Value} {gV : List V → List V → List V}
end
structure FnScope (N P : List Str) (sc : Scope) : Prop where
 kind : sc.kind = .function
 co : sc.isCoroutine = false
 gen : sc.isGenerator = false
 nd : N.Nodup
 pre : N.take P.length = P
 par : ∀ x ∈ P, sc.names.lookup x = some .local ∨ sc.names.lookup x = some .cell
 nofree : ∀ y ∈ sc.names, y.2 ≠ .free
theorem bindL_out {kindOf : Str → Option NameKind} {x : Str} : ∀ {binds : List (Str × Value)} {m : Str → Option Value}, (∀ v, (x, v) ∉ binds) → bindL kindOf binds m x = m x
 | [], _, _ => rfl
 | (n, v) :: r, m, h => by
   unfold bindL
   rw [bindL_out fun w hw => h w (List.mem_cons_of_mem _ hw)]
   split
   · have : x ≠ n := by rintro rfl; exact h v List.mem_cons_self
     simp [this]
   · rfl
theorem bindC_out {kindOf : Str → Option NameKind} {x : Str} : ∀ {binds : List (Str × Value)} {m : Str → Option Value}, (∀ v, (x, v) ∉ binds) → bindC kindOf binds m x = m x
 | [], _, _ => rfl
 | (n, v) :: r, m, h => by
   unfold bindC
   rw [bindC_out fun w hw => h w (List.mem_cons_of_mem _ hw)]
   split
   · rfl
   · have : x ≠ n := by rintro rfl; exact h v List.mem_cons_self
     simp [this]
theorem bindL_get {kindOf : Str → Option NameKind} {x : Str} {v : Value} : ∀ {P : List Str} {vs : List Value} {i : Nat} {m : Str → Option Value}, P.Nodup → P[i]? = some x → vs[i]? = some v → kindOf x = some .local →
   bindL kindOf (P.zip vs) m x = some v
 | [], _, _, _, _, h, _, _ => by simp at h
 | _ :: _, [], _, _, _, _, h, _ => by simp at h
 | p :: P, w :: vs, 0, m, nd, h1, h2, hk => by
   simp at h1 h2; subst h1; subst h2
   show bindL kindOf ((p, w) :: P.zip vs) m p = _
   unfold bindL
   rw [bindL_out fun v hv => (List.nodup_cons.mp nd).1 (List.of_mem_zip hv).1, if_pos hk]
   simp
 | p :: P, w :: vs, i + 1, m, nd, h1, h2, hk => by
   show bindL kindOf ((p, w) :: P.zip vs) m x = _
   unfold bindL
   exact bindL_get (i := i) (List.nodup_cons.mp nd).2 (by simpa using h1) (by simpa using h2) hk
theorem bindC_get {kindOf : Str → Option NameKind} {x : Str} {v : Value} : ∀ {P : List Str} {vs : List Value} {i : Nat} {m : Str → Option Value}, P.Nodup → P[i]? = some x → vs[i]? = some v → kindOf x ≠ some .local →
   bindC kindOf (P.zip vs) m x = some v
 | [], _, _, _, _, h, _, _ => by simp at h
 | _ :: _, [], _, _, _, _, h, _ => by simp at h
 | p :: P, w :: vs, 0, m, nd, h1, h2, hk => by
   simp at h1 h2; subst h1; subst h2
   show bindC kindOf ((p, w) :: P.zip vs) m p = _
   unfold bindC
   rw [bindC_out fun v hv => (List.nodup_cons.mp nd).1 (List.of_mem_zip hv).1, if_neg hk]
   simp
 | p :: P, w :: vs, i + 1, m, nd, h1, h2, hk => by
   show bindC kindOf ((p, w) :: P.zip vs) m x = _
   unfold bindC
   exact bindC_get (i := i) (List.nodup_cons.mp nd).2 (by simpa using h1) (by simpa using h2) hk
def start (N : List Str) (vs : List V) : St := vs.map some ++ List.replicate (N.length - vs.length) none
def cxOf (CX : CXT) (P : Program) (w : World) (K : PySem.W.Frag) (mg : Str → Option Value) (base : Heap) (N : List Str) (qual : Str) (scope : Scope) (f : Addr) (cd : Value) (A : Around) (outer : List Env) (s : Shared) (H : Hp) (E : XK) : Cx where
 prog := P
 w := w
 K := K
 mg := mg
 base := base
 A := A.deeper (envOfC qual scope s.heap.objs.size f cd)
 N := N
 s₀ := s
 H₀ := H
 env := envOfC qual scope s.heap.objs.size f cd
 outer := outer
 stack := envOfC qual scope s.heap.objs.size f cd :: outer
 ex := []
 calm := true
 fn := fun _ => true
 pn := []
 xe := fun e s' => wpAny (model P w) (A.deeper (envOfC qual scope s.heap.objs.size f cd)) (leaving (envOfC qual scope s.heap.objs.size f cd) e) (fun _ s'' => CX outer H s E e s'') (fun e' s'' => CX outer H s E e' s'') s'
theorem cell_has {sc : Scope} {n : Nat} {x : Str} (h : sc.names.lookup x = some .cell) : ∃ c, (cellsFrom n sc.names []).lookup x = some c := by
 have q := PySem.W.cellsFrom_some sc.names n [] (.inl h)
 exact Option.isSome_iff_exists.mp q
theorem inv_start {CX : CXT} {P : Program} {w : World} {K : PySem.W.Frag} {mg : Str → Option Value} {base : Heap} {N ps : List Str} {qual : Str} {scope : Scope} {f : Addr} {cd : Value} {A : Around} {outer : List Env} {s s1 : Shared} {H : Hp} {E : XK} {us : List Value} {vs : List V}
   (S : FnScope N ps scope) (hd : A.handled = none) (e0 : Env0 P w K mg base A outer s H) (hl : vs.length = ps.length) (r : Vals vs us)
   (x : InCallC s s.heap.objs.size (bindL (envOfC qual scope s.heap.objs.size f cd).kindOf (ps.zip us) fun _ => none) (cellsFrom (s.heap.objs.size + 1) scope.names []) (bindC (envOfC qual scope s.heap.objs.size f cd).kindOf (ps.zip us) fun _ => none) s1) :
   Inv (cxOf CX P w K mg base N qual scope f cd A outer s H E) [] (start N vs) H s1 := by
 have hpl : ps.length ≤ N.length := by have := congrArg List.length S.pre; rw [List.length_take] at this; omega
 obtain ⟨h1, tk, rfl, hk⟩ := x.done
 have noA : ∀ b : Addr, b ∉ (cxOf CX P w K mg base N qual scope f cd A outer s H E).ex := fun b z => absurd (show b ∈ ([] : List Addr) from z) (by simp)
 refine ⟨⟨e0.mod, S.kind, rfl, rfl, Nat.le_refl _, fun y z c h1 h2 => ?_, fun y hy => ?_, fun y c _ h => ?_, fun _ => hd, Around.frames_deeper e0.frames, .inr ⟨rfl, rfl⟩, fun b z => absurd z (noA b), e0.bs, e0.bsz, fun b _ _ => noA b, fun b z => absurd z (noA b), e0.funs, e0.frf⟩,
   rfl, e0.bare, Un.kept hk, ⟨_, x.toInCall.ns, fun i y v h1 h2 h3 => ?_⟩, fun y c h => ⟨_, x.cell y c h⟩, e0.hok.fresh (Nat.le_refl _), fun y c h => ?_, fun p hp => absurd (show p ∈ ([] : List (Addr × Obj)) from hp) (by simp), e0.hok.kept hk, ?_⟩
 · exact name_of_addr x.apart (PySem.mem_of_lookup h1) (PySem.mem_of_lookup h2)
 · have hy : scope.names.lookup y = some .cell ∨ scope.names.lookup y = some .free := hy
   rcases hy with hy | hy
   · exact cell_has hy
   · exact absurd rfl (S.nofree _ (PySem.mem_of_lookup hy))
 · exact Nat.le_of_lt (x.above y c (PySem.mem_of_lookup h))
 · have hi : i < vs.length := by
     unfold start at h2
     by_cases hi : i < vs.length
     · exact hi
     · rw [List.getElem?_append_right (by simpa using hi)] at h2
       rw [List.getElem?_replicate] at h2
       split at h2 <;> cases h2
   have ha : vs[i]? = some v := by
     unfold start at h2
     rw [List.getElem?_append_left (by simpa using hi), List.getElem?_map] at h2
     cases e : vs[i]? with
     | none => rw [e] at h2; cases h2
     | some a => rw [e] at h2; cases h2; rfl
   obtain ⟨u, hu, rv⟩ := r.get ha
   have hp : ps[i]? = some y := by
     rw [← S.pre, List.getElem?_take_of_lt (by omega)]; exact h1
   have ndP : ps.Nodup := by rw [← S.pre]; exact S.nd.sublist (List.take_sublist _ _)
   refine ⟨u, rv, ?_⟩
   rcases S.par y (List.mem_of_getElem? hp) with k | k
   · exact .inl ⟨k, bindL_get ndP hp hu k⟩
   · obtain ⟨c, e⟩ := cell_has (n := s.heap.objs.size + 1) k
     refine .inr ⟨.inl k, c, e, ?_⟩
     have q := x.cell y c e
     rw [bindC_get ndP hp hu (by show scope.names.lookup y ≠ _; rw [k]; decide)] at q
     exact q
 · exact e0.hok.fresh (Nat.le_of_lt (x.above y c (PySem.mem_of_lookup h)))
 · unfold start
   show _ = N.length
   rw [List.length_append, List.length_map, List.length_replicate]
   omega
theorem fn_of {CX : CXT} {P : Program} {w : World} {K : PySem.W.Frag} {mg : Str → Option Value} {base : Heap} {k : Nat} {f : Addr} {name qual : Str} {params : Arguments} {body : List Stmt} {scope : Scope} {dV kV doc pm cdv ct oc : Value} {an od : Option Addr}
   {osl : Array (Option Value)} {N ps : List Str} {sp : Sp} (lk : K.lookup f = some ⟨oc, od, .func (PySem.W.fnOf name qual params body scope dV kV doc pm an cdv ct), osl⟩) (hcd : PySem.W.codeIn K cdv qual = true) (S : FnScope N ps scope)
   (len : ∀ vs H Q E, sp vs H Q E → vs.length = ps.length)
   (hbody : ∀ (A : Around) (outer : List Env) (s : Shared) (H : Hp) (vs : List V) (Q : VK) (E : XK), Room k (A.deeper (envOfC qual scope s.heap.objs.size f cdv)) → sp vs H Q E →
     ∃ t, PSs (cxOf CX P w K mg base N qual scope f cdv A outer s H E) body t ∧ t { nx := fun _ H' => Q .non H', rt := Q } (start N vs) H) :
   FnOk P w K mg base CX (k + 1) f (PySem.W.fnOf name qual params body scope dV kV doc pm an cdv ct) ps sp := by
 refine ⟨len, fun A outer s H args us vs Q E hr e0 hb r hsp => ?_⟩
 have hl := len _ _ _ _ hsp
 have KX : K.In s.heap := e0.mod.kin.keeps fun b o e => (e0.bs b o e).1
 have lim : s.heap.NoLimit := e0.mod.nolimit.keeps fun b o e => (e0.bs b o e).1
 have hkind : ∀ y ∈ ps.zip us, scope.names.lookup y.1 = some .local ∨ (scope.names.lookup y.1 = some .cell ∧ ((cellsFrom (s.heap.objs.size + 1) scope.names []).lookup y.1).isSome = true) := fun ⟨n, v⟩ hy => by
   rcases S.par n (List.of_mem_zip hy).1 with q | q
   · exact .inl q
   · exact .inr ⟨q, PySem.W.cellsFrom_some _ _ _ (.inl q)⟩
 refine codeAny_call_function hr.depth (KX _ _ lk) rfl S.co S.gen rfl (PySem.W.codeRec_of KX hcd) (hb _ _ _ _ ?_)
 refine wpAny_newFunctionEnv_cells S.kind hkind fun env he s1 x => ?_
 subst he
 refine ⟨lim.keeps x.toInCall.keep, codeAny_func ?_⟩
 obtain ⟨t, ht, hq⟩ := hbody A outer s H vs Q E (hr.deeper _) hsp
 have I : Inv (cxOf CX P w K mg base N qual scope f cdv A outer s H E) [] (start N vs) H s1 := inv_start S hr.hd e0 hl r x
 refine wpAny_mono (ht [] s1 (start N vs) H _ I hq) (fun fl s' hs => ?_) fun e s' hs => hs
 have fin : ∀ {σ' : St} {H' : Hp} {v : V} {u : Value}, Inv (cxOf CX P w K mg base N qual scope f cdv A outer s H E) [] σ' H' s' → RelV v u → Q v H' → CE outer P w H s Q u s' :=
   fun {σ' H' v u} J rv q => ⟨v, H', J.os, J.bare, J.base, J.hok, rv, q⟩
 cases fl with
 | ret u =>
   obtain ⟨v, σ', H', J, rv, q⟩ := hs
   exact fin J rv q
 | next =>
   obtain ⟨σ', H', J, q⟩ := hs
   exact fin (v := V.non) (u := Value.none) J rfl q
 | brk =>
   obtain ⟨_, _, _, q⟩ := hs
   exact False.elim q
 | cont =>
   obtain ⟨_, _, _, q⟩ := hs
   exact False.elim q
end L2
namespace L2
open PySem PySem.Spec PyProof.Rows
section
variable {X : Cx} {x : Str} {p pos : Pos} {e : Expr} {es : List Expr} {t : TA} {id T : String} {r : List V → Hp → VK → Prop}
def tCB (r : List V → Hp → VK → Prop) (t : TA) : TE := fun σ H Q => t σ H fun vs H1 => r vs H1 Q
theorem pe_callB (hc : CallR X (.builtin id) r) (hg : Gl X x) (hm : X.mg x = none) (hv : bootBuiltins x = some (.builtin id)) (ha : PA X (e :: es) t) (hn : x ≠ "__name__" := by decide) (hdb : (x == ("__debug__" : Str)) = false := by decide)
   (he : starEach (e :: es) X.env = (false, eval e X.env) :: starEach es X.env := by rfl) (hpl : (backTo pos (starEach es X.env)).any (·.1) = false := by rfl) : PE X (.Call (.Name x p) (e :: es) [] pos) (tCB r t) := by
 intro pins s σ H Q I h
 refine wpAny_Call_Name_kw (ld_blt I hg hm hv ?_ hn hdb)
 exact PyProof.Rows.callWith_builtin1 (thn (ha pos pins s σ H _ I h) fun us s1 ⟨vs, H1, I1, r1, q1⟩ => hc pins s1 σ H1 vs us Q I1 r1 q1) he hpl
theorem pe_callTy (hc : CallR X (.type T) r) (hg : Gl X x) (hm : X.mg x = none) (hv : bootBuiltins x = some (.type T)) (ha : PA X (e :: es) t) (hn : x ≠ "__name__" := by decide) (hdb : (x == ("__debug__" : Str)) = false := by decide)
   (he : starEach (e :: es) X.env = (false, eval e X.env) :: starEach es X.env := by rfl) (hpl : (backTo pos (starEach es X.env)).any (·.1) = false := by rfl) : PE X (.Call (.Name x p) (e :: es) [] pos) (tCB r t) := by
 intro pins s σ H Q I h
 refine wpAny_Call_Name_kw (ld_blt I hg hm hv ?_ hn hdb)
 exact PyProof.Rows.callWith_type1 (thn (ha pos pins s σ H _ I h) fun us s1 ⟨vs, H1, I1, r1, q1⟩ => hc pins s1 σ H1 vs us Q I1 r1 q1) he hpl
end
end L2
namespace HT
open PySem PyProof.Rows
section
open PySem.SeqAt
open PySem.AutoSeq1 (wpAny_loadPart')
open PySem.MeetsSeq PySem.MeetsSeq2 PySem.MeetsSeq3
end
section
variable {prog : Program} {w : World} {A : Around} {E : Value → Shared → Prop} {s : Shared}
theorem cat_tup {t b : Addr} {vs ws : List Value} {Q : Value → Shared → Prop} (ht : IsTup s.heap t vs.toArray) (hb : IsTup s.heap b ws.toArray) (hv : vs ≠ [])
   (h1 : ws = [] → Q (.ref t) s) (h2 : ws ≠ [] → Q (.ref s.heap.objs.size) { s with heap := s.heap.push { cls := .type "tuple", data := .seq (vs ++ ws).toArray } })
   (hsz : vs.length + ws.length ≤ sizeLine) : wpAny (model prog w) A (binaryOp .Add (.ref t) (.ref b)) Q E s := by
 obtain ⟨⟨cls, dd, data, sl⟩, ho, hc, n, hd⟩ := id ht
 obtain ⟨⟨cls2, dd2, data2, sl2⟩, ho2, hc2, n2, hd2⟩ := id hb
 simp only at hc hd hc2 hd2
 subst hc hd hc2 hd2
 have e : vs.toArray ++ ws.toArray = (vs ++ ws).toArray := by simp
 by_cases hw : ws = []
 · exact concat_meets ⟨_, ho, rfl⟩ ⟨_, ho2, rfl⟩ noFill_tuple_add seq_tuple_add PySem.F.slot_tuple_add PySem.F.entry_tuple_add (PySem.F.args_tuple_add_2 _ _)
     (tuple_addW1 t b vs.toArray ws.toArray n n2 dd dd2 sl sl2 (by simpa using hv) (by simp [hw])) ⟨ho, ho2, h1 hw⟩
 · refine concat_meets ⟨_, ho, rfl⟩ ⟨_, ho2, rfl⟩ noFill_tuple_add seq_tuple_add PySem.F.slot_tuple_add PySem.F.entry_tuple_add (PySem.F.args_tuple_add_2 _ _)
     (tuple_addW2 t b vs.toArray ws.toArray n n2 dd dd2 sl sl2 (by simpa using hv) (by simpa using hw) (by rw [List.size_toArray, List.size_toArray]; exact hsz)) ⟨ho, ho2, ?_⟩
   rw [e]
   exact h2 hw
def sIx (n d : Nat) : Option Int → Nat
 | none => d
 | some v => if v < 0 then (v + (n : Int)).toNat else min v.toNat n
theorem sIx_nat (n d k : Nat) : sIx n d (some (k : Int)) = min k n := by
 show (if (k : Int) < 0 then ((k : Int) + (n : Int)).toNat else min (k : Int).toNat n) = min k n
 rw [if_neg (by omega), Int.toNat_natCast]
theorem sIx_le (n d : Nat) (hd : d ≤ n) (o : Option Int) : sIx n d o ≤ n := by
 cases o with
 | none => exact hd
 | some v =>
   show (if v < 0 then (v + (n : Int)).toNat else min v.toNat n) ≤ n
   by_cases hv : v < 0
   · rw [if_pos hv]; omega
   · rw [if_neg hv]; exact Nat.min_le_right _ _
theorem clip_eq (v : Int) (n d : Nat) : (if v < 0 then max (v + (n : Int)) 0 else min v (n : Int)) = ((sIx n d (some v) : Nat) : Int) := by
 show (if v < 0 then max (v + (n : Int)) 0 else min v (n : Int)) = (((if v < 0 then (v + (n : Int)).toNat else min v.toNat n) : Nat) : Int)
 by_cases hv : v < 0
 · simp only [if_pos hv]; omega
 · simp only [if_neg hv]; omega
theorem adjust_gen (lo hi : Option Int) (n : Nat) : Builtin.Slice.sliceAdjust lo hi 1 (n : Int) = (((sIx n 0 lo : Nat) : Int), ((sIx n n hi : Nat) : Int)) := by
 have h1 : ¬ ((1 : Int) < 0) := by omega
 unfold Builtin.Slice.sliceAdjust
 simp only [h1, if_false]
 refine Prod.ext ?_ ?_
 · cases lo with
   | none => rfl
   | some v => exact clip_eq v n 0
 · cases hi with
   | none => rfl
   | some v => exact clip_eq v n n
theorem places_gen (i j : Nat) : Builtin.Slice.slicePlaces (i : Int) (j : Int) 1 = j - i := by
 unfold Builtin.Slice.slicePlaces
 have h1 : (1 : Int) > 0 := by omega
 simp only [h1, if_true, Int.ediv_one]
 split <;> omega
theorem slicePart_ {v : Value} {o : Option Int} {Q : Option Int → Shared → Prop} (p : IsPart v o) (h : Q o s) : wpAny (model prog w) A (Builtin.Slice.slicePartIndex v) Q E s := by
 cases p with
 | none => exact slicePart_none h
 | int i t => exact slicePart_int h
theorem sliceApplied_gen {sl : Addr} {vl vu : Value} {lo hi : Option Int} {n : Nat} {Q : Int × Int × Nat → Shared → Prop} (hs : s.heap.IsSliceOf sl vl vu .none) (pl : IsPart vl lo) (pu : IsPart vu hi)
   (h : Q (((sIx n 0 lo : Nat) : Int), 1, sIx n n hi - sIx n 0 lo) s) : wpAny (model prog w) A (Builtin.Slice.sliceApplied (.ref sl) (pure (n : Int))) Q E s := by
 obtain ⟨os, hos, hcs, hds⟩ := id hs
 unfold Builtin.Slice.sliceApplied Builtin.Slice.sliceFields
 refine wpAny_bind (wpAny_bind (wpAny_field hos hds (x := vl) rfl (wpAny_bind (wpAny_field hos hds (x := vu) rfl (wpAny_bind (wpAny_field hos hds (x := .none) rfl (wpAny_pure ?_)))))))
 refine wpAny_bind (slicePart_none ?_)
 show wpAny _ _ (if ((1 : Int) == 0) = true then _ else _) _ _ s
 rw [if_neg (by decide)]
 refine wpAny_bind (slicePart_ pl (wpAny_bind (slicePart_ pu (wpAny_bind (wpAny_pure ?_)))))
 show wpAny _ _ (match Builtin.Slice.sliceAdjust lo hi 1 (n : Int) with | (lo, hi) => pure (lo, (1 : Int), Builtin.Slice.slicePlaces lo hi 1)) _ _ s
 rw [adjust_gen lo hi n]
 show wpAny _ _ (pure (((sIx n 0 lo : Nat) : Int), (1 : Int), Builtin.Slice.slicePlaces ((sIx n 0 lo : Nat) : Int) ((sIx n n hi : Nat) : Int) 1)) _ _ s
 rw [places_gen]
 exact wpAny_pure h
theorem pick_gen (xs : Array Value) (i k : Nat) : ((List.range k).filterMap fun (m : Nat) => xs[((i : Int) + (m : Int) * 1).toNat]?).toArray = ((xs.toList.drop i).take k).toArray := by
 have e : (fun (m : Nat) => xs[((i : Int) + (m : Int) * 1).toNat]?) = fun m => xs[i + m]? := by
   funext m
   have : ((i : Int) + (m : Int) * 1).toNat = i + m := by omega
   rw [this]
 rw [e]
 have := pick_run xs i k
 rw [List.filterMap_map] at this
 have e2 : ((fun x => xs[x]?) ∘ fun x => i + x) = fun m => xs[i + m]? := rfl
 rw [e2] at this
 rw [this]
theorem getItem_tuple_cut {t sl : Addr} {items : Array Value} {vl vu : Value} {lo hi : Option Int} {Q : Value → Shared → Prop} (ht : IsTup s.heap t items) (hs : s.heap.IsSliceOf sl vl vu .none) (pl : IsPart vl lo) (pu : IsPart vu hi)
   (hw : ¬ (sIx items.size 0 lo = 0 ∧ sIx items.size items.size hi = items.size))
   (h : Q (.ref s.heap.objs.size) { s with heap := s.heap.push { cls := .type "tuple", data := .seq ((items.toList.drop (sIx items.size 0 lo)).take (sIx items.size items.size hi - sIx items.size 0 lo)).toArray } })
   (hsz : items.size ≤ sizeLine) : wpAny (model prog w) A (getItem (.ref t) (.ref sl)) Q E s := by
 have htake : sizeOk (.seq ((items.toList.drop (sIx items.size 0 lo)).take (sIx items.size items.size hi - sIx items.size 0 lo)).toArray) := by
   show ((items.toList.drop (sIx items.size 0 lo)).take (sIx items.size items.size hi - sIx items.size 0 lo)).toArray.size ≤ sizeLine
   rw [List.size_toArray, List.length_take, List.length_drop, Array.length_toList]
   omega
 have hj : sIx items.size items.size hi ≤ items.size := sIx_le _ _ (Nat.le_refl _) hi
 obtain ⟨os, hos, hcs, hds⟩ := id hs
 have hTs : s.TypeIs (.ref sl) "slice" := ⟨os, hos, hcs⟩
 unfold getItem
 try with_reducible refine wpAny_holding ?_
 first | refine wpAny_bind (wpAny_pure ?_) | skip
 refine wpAny_bind (wpAny_sequenceKey ht.typeIs (by decide) ?_)
 refine wpAny_bind (wpAny_callSpecial?_slot (name := Str.ofString "__getitem__") ht.typeIs PyProof.Rows.slot_tuple_getitem
   (wpAny_call_entry PyProof.Rows.slot_tuple_getitem ht.typeIs entry_tuple_getitem ?_ (args_tuple_getitem _ _)))
 show wpAny _ _ (Builtin.Tuple.tupleItemsOf (.ref t) >>= _) _ _ s
 refine wpAny_bind (tupleItemsOf_ ht ?_)
 refine wpAny_bind (wpAny_typeOf hTs ?_)
 rw [if_pos (by decide)]
 refine wpAny_bind (sliceApplied_gen hs pl pu ?_)
 have hno : ¬ ((((sIx items.size 0 lo : Nat) : Int) == 0 && (1 : Int) == 1 && (sIx items.size items.size hi - sIx items.size 0 lo) == items.size) = true) := by
   intro q
   rw [Bool.and_eq_true, Bool.and_eq_true] at q
   have q1 : ((sIx items.size 0 lo : Nat) : Int) = 0 := eq_of_beq q.1.1
   have q2 : sIx items.size items.size hi - sIx items.size 0 lo = items.size := eq_of_beq q.2
   exact hw ⟨by omega, by omega⟩
 show wpAny _ _ (if (((sIx items.size 0 lo : Nat) : Int) == 0 && (1 : Int) == 1 && (sIx items.size items.size hi - sIx items.size 0 lo) == items.size) = true then _ else _) _ _ s
 rw [if_neg hno, pick_gen]
 first
   | exact wpAny_bind (m := Builtin.Tuple.tupleExact _) (wpAny_newObj_type (wpAny_pure ⟨_, rfl, wpAny_pure h⟩) htake)
   | exact wpAny_bind (m := Builtin.Tuple.tupleExact _) (wpAny_newObj_type (wpAny_bind (wpAny_pure (wpAny_pure ⟨_, rfl, wpAny_pure h⟩))) htake)
   | exact wpAny_bind (wpAny_bind (m := Builtin.Tuple.tupleExact _) (wpAny_newObj_type (wpAny_pure (wpAny_pure ⟨_, rfl, wpAny_pure h⟩)) htake))
   | exact wpAny_bind (wpAny_bind (m := Builtin.Tuple.tupleExact _) (wpAny_newObj_type (wpAny_pure ⟨_, rfl, wpAny_pure h⟩) htake))
end
end HT
namespace L2
open PySem PySem.Spec PyProof.Rows
abbrev TO := St → Hp → (Option Int → Hp → Prop) → Prop
def PO (X : Cx) (e : Option Expr) (t : TO) : Prop :=
 ∀ (pins : List (Addr × Obj)) (s : Shared) (σ : St) (H : Hp) (Q : Option Int → Hp → Prop), Inv X pins σ H s → t σ H Q →
   wpAny (model X.prog X.w) X.A (evalPart e X.env) (fun u s' => ∃ o H', Inv X pins σ H' s' ∧ IsPart u o ∧ Q o H') X.xe s
def tNoPart : TO := fun _ H Q => Q none H
def tPart (t : TE) : TO := fun σ H Q => t σ H fun x H1 => ∃ i, x = .int i ∧ Q (some i) H1
section
variable {X : Cx} {e : Expr} {te : TE} {lo hi : Option Expr} {tl th : TO} {pos p2 : Pos}
theorem po_none : PO X none tNoPart := by
 intro pins s σ H Q I h
 rw [evalPart_none]
 exact wpAny_pure ⟨none, H, I, .none, h⟩
theorem po_some (h : PE X e te) : PO X (some e) (tPart te) := by
 intro pins s σ H Q I hw
 rw [evalPart_some]
 refine thn (h pins s σ H _ I hw) fun u s1 ⟨x, H1, I1, r1, q1⟩ => ?_
 obtain ⟨i, rfl, q⟩ := q1
 obtain ⟨t, rfl⟩ := r1
 exact ⟨some i, H1, I1, .int i t, q⟩
def SlR (X : Cx) (r : V → Option Int → Option Int → Hp → VK → Prop) : Prop :=
 ∀ (pins : List (Addr × Obj)) (s : Shared) (σ : St) (H : Hp) (x : V) (v vl vu : Value) (lo hi : Option Int) (sl : Addr) (Q : VK), Inv X pins σ H s → RelV x v → s.heap.IsSliceOf sl vl vu .none → IsPart vl lo → IsPart vu hi → r x lo hi H Q →
   ∃ T id, typeLookup (.type T) "__getitem__" = pure (some (.builtin id)) ∧ s.TypeIs v T ∧ wpAny (model X.prog X.w) X.A (getItem v (.ref sl)) (EP X pins σ Q) X.xe s
theorem SlR.or {r r' : V → Option Int → Option Int → Hp → VK → Prop} (h : SlR X r) (h' : SlR X r') : SlR X (fun x lo hi H Q => r x lo hi H Q ∨ r' x lo hi H Q) := by
 intro pins s σ H x v vl vu lo hi sl Q I rx hs pl pu q
 rcases q with q | q
 · exact h pins s σ H x v vl vu lo hi sl Q I rx hs pl pu q
 · exact h' pins s σ H x v vl vu lo hi sl Q I rx hs pl pu q
def tSl (r : V → Option Int → Option Int → Hp → VK → Prop) (te : TE) (tl th : TO) : TE := fun σ H Q => te σ H fun x H1 => tl σ H1 fun l H2 => th σ H2 fun u H3 => r x l u H3 Q
theorem pe_slice {r : V → Option Int → Option Int → Hp → VK → Prop} (hr : SlR X r) (he : PE X e te) (hl : PO X lo tl) (hu : PO X hi th) : PE X (.Subscript e (.Slice lo hi none p2) pos) (tSl r te tl th) := by
 intro pins s σ H Q I h
 refine Subscript_ (thn (he pins s σ H _ I h) fun v s1 ⟨x, H1, I1, r1, q1⟩ => ?_)
 refine wpAny_Slice (thn (hl pins s1 σ H1 _ I1 q1) fun vl s2 ⟨l, H2, I2, pl, q2⟩ => thn (hu pins s2 σ H2 _ I2 q2) fun vu s3 ⟨u, H3, I3, pu, q3⟩ => ?_)
 rw [evalPart_none]
 refine wpAny_pure ?_
 have I4 : Inv X pins σ H3 { s3 with heap := s3.heap.push { cls := .type "slice", data := .fields #[vl, vu, .none] } } := I3.kept (t' := s3.toks) fun b ob q => Heap.get?_push_of_some _ q
 obtain ⟨T, id, hT, ht, hg⟩ := hr pins { s3 with heap := s3.heap.push { cls := .type "slice", data := .fields #[vl, vu, .none] } } σ H3 x v vl vu l u s3.heap.objs.size Q I4 r1 (Heap.IsSliceOf.new ..) pl pu q3
 show wpAny (model X.prog X.w) X.A (subscriptTail e (.Slice lo hi none p2) v (.ref s3.heap.objs.size)) (EP X pins σ Q) X.xe { s3 with heap := s3.heap.push { cls := .type "slice", data := .fields #[vl, vu, .none] } }
 exact tail_any (ops := [.ref s3.heap.objs.size, v]) ht hT hg (by with_unfolding_all rfl)
def cutV (xs : List V) (lo hi : Option Int) : List V := (xs.drop (HT.sIx xs.length 0 lo)).take (HT.sIx xs.length xs.length hi - HT.sIx xs.length 0 lo)
theorem cutV_length (xs : List V) (lo hi : Option Int) : (cutV xs lo hi).length ≤ xs.length := by
 unfold cutV
 rw [List.length_take, List.length_drop]
 omega
def rSlT (K : PySem.W.Frag) : V → Option Int → Option Int → Hp → VK → Prop := fun x lo hi H Q => ∃ a xs, x = .ref a ∧ SqT K H a xs ∧
 ¬ (HT.sIx xs.length 0 lo = 0 ∧ HT.sIx xs.length xs.length hi = xs.length) ∧ ∀ p, H p = none → Q (.ref p) (upd H p (.tup (cutV xs lo hi)))
theorem sl_tup : SlR X (rSlT X.K) := by
 intro pins s σ H x v vl vu lo hi sl Q I rx hs pl pu h
 obtain ⟨a, xs, rfl, hx, hw, q⟩ := h
 cases rx
 obtain ⟨its, r, ht, hz⟩ := I.tuple hx
 have hlen : its.toArray.size = xs.length := by rw [List.size_toArray]; exact r.length.symm
 refine ⟨"tuple", _, PyProof.Rows.slot_tuple_getitem.lookup, ht.typeIs, ?_⟩
 refine HT.getItem_tuple_cut ht hs pl pu (by rw [hlen]; exact hw) ?_ (by rw [hlen]; exact hz)
 rw [hlen]
 refine ⟨.ref s.heap.objs.size, _, I.laid (t' := s.toks) (o := .tup (cutV xs lo hi)) (fun b ob q => Heap.get?_push_of_some _ q) (Nat.le_refl _) ?_, rfl, q _ (I.hok.fresh (Nat.le_refl _))⟩
 exact ⟨Nat.le_trans (cutV_length xs lo hi) hz, _, (r.drop (HT.sIx xs.length 0 lo)).take (HT.sIx xs.length xs.length hi - HT.sIx xs.length 0 lo), IsTup.new _ _⟩
def rCatT (K : PySem.W.Frag) : R2 := fun x y H Q => ∃ a b xs ys, x = .ref a ∧ y = .ref b ∧ SqT K H a xs ∧ SqT K H b ys ∧ xs ≠ [] ∧ xs.length + ys.length ≤ sizeLine ∧
 (ys = [] → Q (.ref a) H) ∧ (ys ≠ [] → ∀ p, H p = none → Q (.ref p) (upd H p (.tup (xs ++ ys))))
theorem Vals.nil_iff {xs : List V} {us : List Value} (r : Vals xs us) : us = [] ↔ xs = [] := by
 cases r with
 | nil => simp
 | cons _ _ => simp
theorem op_catT : OpR X (binaryOp .Add) (rCatT X.K) := by
 intro pins s σ H x y v u Q I rx ry h
 obtain ⟨a, b, xs, ys, rfl, rfl, ha, hb, hx, hz, q1, q2⟩ := h
 cases rx
 cases ry
 obtain ⟨its, r1, p1, _⟩ := I.tuple ha
 obtain ⟨its2, r2, p2, _⟩ := I.tuple hb
 refine HT.cat_tup p1 p2 (fun z => hx (r1.nil_iff.mp z)) (fun z => ⟨.ref a, H, I, rfl, q1 (r2.nil_iff.mp z)⟩) (fun z => ?_) (by rw [← r1.length, ← r2.length]; exact hz)
 refine ⟨.ref s.heap.objs.size, _, I.laid (t' := s.toks) (o := .tup (xs ++ ys)) (fun b ob q => Heap.get?_push_of_some _ q) (Nat.le_refl _) ?_, rfl, q2 (fun w => z (r2.nil_iff.mpr w)) _ (I.hok.fresh (Nat.le_refl _))⟩
 exact ⟨by rw [List.length_append]; exact hz, _, r1.append r2, IsTup.new _ _⟩
end
end L2
namespace L2
open PySem PySem.Spec PyProof.Rows
def ixN (n : Nat) (i : Int) : Option Nat := if 0 ≤ i then (if i < n then some i.toNat else none) else if -(n : Int) ≤ i then some (i + n).toNat else none
def atI {α : Type} (xs : List α) (i : Int) : Option α := (ixN xs.length i).bind fun j => xs[j]?
theorem ixN_seq {n : Nat} {i : Int} {j : Nat} (h : ixN n i = some j) : seqIndex? i n = some j ∧ j < n ∧ -(n : Int) ≤ i ∧ i < n := by
 unfold ixN at h
 by_cases h0 : 0 ≤ i
 · rw [if_pos h0] at h
   by_cases h1 : i < n
   · rw [if_pos h1] at h
     have e : i.toNat = j := Option.some.inj h
     exact ⟨by rw [seqIndex_of h0 h1, e], by omega, by omega, h1⟩
   · rw [if_neg h1] at h; cases h
 · rw [if_neg h0] at h
   by_cases h1 : -(n : Int) ≤ i
   · rw [if_pos h1] at h
     have e : (i + n).toNat = j := Option.some.inj h
     exact ⟨by rw [seqIndex_neg (by omega) h1, e], by omega, h1, by omega⟩
   · rw [if_neg h1] at h; cases h
theorem atI_get {α : Type} {xs : List α} {i : Int} {v : α} (h : atI xs i = some v) : ∃ j, seqIndex? i xs.length = some j ∧ xs[j]? = some v ∧ j < xs.length ∧ -(xs.length : Int) ≤ i ∧ i < xs.length := by
 unfold atI at h
 cases e : ixN xs.length i with
 | none => rw [e] at h; cases h
 | some j =>
   rw [e] at h
   obtain ⟨h1, h2, h3, h4⟩ := ixN_seq e
   exact ⟨j, h1, h, h2, h3, h4⟩
theorem atI_nat {α : Type} {xs : List α} {j : Nat} {v : α} (h : xs[j]? = some v) : atI xs (j : Int) = some v := by
 have hj : j < xs.length := (List.getElem?_eq_some_iff.mp h).1
 have e : ixN xs.length (j : Int) = some j := by
   unfold ixN
   rw [if_pos (by omega), if_pos (by omega)]; simp
 unfold atI; rw [e]; exact h
def PlainIx (b : Expr) : Prop := ∀ o i, subscripted b false o i = operate [o, i] (getItem o i)
def IxR (X : Cx) (r : R2) : Prop :=
 ∀ (value slice : Expr) (pins : List (Addr × Obj)) (s : Shared) (σ : St) (H : Hp) (x y : V) (v u : Value) (Q : VK), Inv X pins σ H s → RelV x v → RelV y u → r x y H Q →
   subscripted slice false v u = operate [v, u] (getItem v u) → wpAny (model X.prog X.w) X.A (subscriptTail value slice v u) (EP X pins σ Q) X.xe s
def MtR (X : Cx) (id : String) (r : V → List V → Hp → VK → Prop) : Prop :=
 ∀ (pins : List (Addr × Obj)) (s : Shared) (σ : St) (H : Hp) (x : V) (xs : List V) (v : Value) (us : List Value) (Q : VK), Inv X pins σ H s → RelV x v → Vals xs us → r x xs H Q →
   wpAny (model X.prog X.w) X.A (call (.builtin id) (v :: us)) (EP X pins σ Q) X.xe s
section
variable {X : Cx} {a b : Expr} {ta tb : TE} {pos : Pos}
theorem IxR.or {r r' : R2} (h : IxR X r) (h' : IxR X r') : IxR X (fun x y H Q => r x y H Q ∨ r' x y H Q) := by
 intro value slice pins s σ H x y v u Q I rx ry q hs
 rcases q with q | q
 · exact h value slice pins s σ H x y v u Q I rx ry q hs
 · exact h' value slice pins s σ H x y v u Q I rx ry q hs
theorem pe_ix {r : R2} (hr : IxR X r) (ha : PE X a ta) (hb : PE X b tb) (hs : PlainIx b) : PE X (.Subscript a b pos) (tOp r ta tb) := by
 intro pins s σ H Q I h
 exact Subscript_ (binT ha hb I h fun v u s2 x y H2 I2 rx ry q => hr a b pins s2 σ H2 x y v u Q I2 rx ry q (hs _ _))
def rIxL (K : PySem.W.Frag) : R2 := fun x y H Q => ∃ p xs i v, x = .ref p ∧ y = .int i ∧ SqL K H p xs ∧ atI xs i = some v ∧ Q v H
def rIxT (K : PySem.W.Frag) : R2 := fun x y H Q => ∃ p xs i v, x = .ref p ∧ y = .int i ∧ SqT K H p xs ∧ atI xs i = some v ∧ Q v H
def rIxS : R2 := fun x y H Q => ∃ z i c, x = .str z ∧ y = .int i ∧ z.length ≤ sizeLine ∧ atI z.cps.toList i = some c ∧ Q (.str ⟨#[c]⟩) H
theorem ix_list : IxR X (rIxL X.K) := by
 intro value slice pins s σ H x y v u Q I rx ry h hs
 obtain ⟨p, xs, i, z, rfl, rfl, hq, he, q⟩ := h
 cases rx
 obtain ⟨t, rfl⟩ := ry
 obtain ⟨its, r, pl, hz⟩ := I.list hq
 obtain ⟨j, h1, h2, h3, h4, h5⟩ := atI_get he
 obtain ⟨w, ew, rw'⟩ := r.get h2
 have hl := r.length
 have hn := line63
 have fin : EP X pins σ Q w s := ⟨z, H, I, rw', q⟩
 by_cases h0 : 0 ≤ i
 · have hj : i.toNat = j := by
     rw [seqIndex_of h0 h5] at h1
     exact Option.some.inj h1
   exact item_listR pl.isList h0 (by omega) (by rw [hj]; simpa using ew) fin hs
 · have hj : (i + (its.toArray.size : Int)).toNat = j := by
     rw [seqIndex_neg (by omega) h4] at h1
     rw [List.size_toArray, ← hl]
     exact Option.some.inj h1
   exact subscriptTail_builtinR (x := w) pl.isList.typeIs slot_list_getitem.lookup
     (wpAny_getItem_list_neg (Q := fun r s' => r = w ∧ EP X pins σ Q r s') pl.isList (by omega) (by rw [List.size_toArray] <;> omega) (by omega) (by rw [hj]; simpa using ew) ⟨rfl, fin⟩) hs
theorem ix_tup : IxR X (rIxT X.K) := by
 intro value slice pins s σ H x y v u Q I rx ry h hs
 obtain ⟨p, xs, i, z, rfl, rfl, hq, he, q⟩ := h
 cases rx
 obtain ⟨t, rfl⟩ := ry
 obtain ⟨its, r, pl, hz⟩ := I.tuple hq
 obtain ⟨j, h1, h2, h3, h4, h5⟩ := atI_get he
 obtain ⟨w, ew, rw'⟩ := r.get h2
 have hl := r.length
 have hn := line63
 have fin : EP X pins σ Q w s := ⟨z, H, I, rw', q⟩
 exact subscriptTail_builtinR (x := w) pl.typeIs slot_tuple_getitem.lookup
   (getItem_tuple (j := j) (Q := fun r s' => r = w ∧ EP X pins σ Q r s') pl (by omega) (by omega) (by rw [List.size_toArray, ← hl]; exact h1) (by simpa using ew) ⟨rfl, fin⟩) hs
theorem ix_str : IxR X rIxS := by
 intro value slice pins s σ H x y v u Q I rx ry h hs
 obtain ⟨z, i, c, rfl, rfl, hz, he, q⟩ := h
 obtain ⟨t, rfl⟩ := rx
 obtain ⟨t', rfl⟩ := ry
 obtain ⟨j, h1, h2, h3, h4, h5⟩ := atI_get he
 have hl : z.cps.toList.length = z.length := by simp [Str.length]
 rw [hl] at h1 h4 h5
 have hn := line63
 exact tail_any (typeIs_str s z t) slot_str_getitem.lookup (getItem_str (c := c) (by
   have e1 : decide (i < -(2 ^ 63 : Int)) = false := decide_eq_false (by omega)
   have e2 : decide (i ≥ 2 ^ 63) = false := decide_eq_false (by omega)
   rw [e1, e2, Bool.or_false]) (by rw [h1]; simpa using h2) ⟨.str ⟨#[c]⟩, H, I.tok _, ⟨_, rfl⟩, q⟩) hs
def rIx (K : PySem.W.Frag) : R2 := fun x y H Q => rIxL K x y H Q ∨ rIxT K x y H Q ∨ rIxS x y H Q
theorem ix_seq : IxR X (rIx X.K) := ix_list.or (ix_tup.or ix_str)
theorem slice_bounds (lo hi : Option Int) (n : Nat) : (sliceBounds lo hi none n).1 = ((HT.sIx n 0 lo : Nat) : Int) ∧ (sliceBounds lo hi none n).2.1 = ((HT.sIx n n hi : Nat) : Int) ∧ (sliceBounds lo hi none n).2.2 = 1 := by
 refine ⟨?_, ?_, rfl⟩
 · cases lo with
   | none => simp [sliceBounds, HT.sIx]
   | some i =>
     simp only [sliceBounds, HT.sIx, Option.getD_none, show (1 : Int) > 0 by decide, if_true]
     by_cases h : i < 0
     · simp only [h, if_true] <;> omega
     · simp only [h, if_false] <;> omega
 · cases hi with
   | none => simp [sliceBounds, HT.sIx]
   | some i =>
     simp only [sliceBounds, HT.sIx, Option.getD_none, show (1 : Int) > 0 by decide, if_true]
     by_cases h : i < 0
     · simp only [h, if_true] <;> omega
     · simp only [h, if_false] <;> omega
theorem slicePick_cut (its : List Value) (lo hi : Option Int) : slicePick its.toArray lo hi none = ((its.drop (HT.sIx its.length 0 lo)).take (HT.sIx its.length its.length hi - HT.sIx its.length 0 lo)).toArray := by
 obtain ⟨h1, h2, h3⟩ := slice_bounds lo hi its.toArray.size
 unfold slicePick
 rw [h1, h2, h3]
 simp only [sliceRange_one, pick_run, List.size_toArray] <;> rfl
def rSlL (K : PySem.W.Frag) : V → Option Int → Option Int → Hp → VK → Prop := fun x lo hi H Q => ∃ a xs, x = .ref a ∧ SqL K H a xs ∧ ∀ p, H p = none → Q (.ref p) (upd H p (.lst (cutV xs lo hi)))
theorem sl_list : SlR X (rSlL X.K) := by
 intro pins s σ H x v vl vu lo hi sl Q I rx hs pl pu h
 obtain ⟨a, xs, rfl, hx, q⟩ := h
 cases rx
 obtain ⟨its, r, ht, hz⟩ := I.list hx
 have hlen := r.length
 refine ⟨"list", _, slot_list_getitem.lookup, ht.isList.typeIs, ?_⟩
 refine wpAny_getItem_list_slice ht.isList hs pl pu .none (by simp) ?_ (by rw [List.size_toArray] <;> omega)
 rw [slicePick_cut, ← hlen]
 refine ⟨.ref s.heap.objs.size, _, I.laid (t' := s.toks) (o := .lst (cutV xs lo hi)) (fun b ob q => Heap.get?_push_of_some _ q) (Nat.le_refl _) ?_, rfl, q _ (I.hok.fresh (Nat.le_refl _))⟩
 exact ⟨Nat.le_trans (cutV_length xs lo hi) hz, _, 0, (r.drop (HT.sIx xs.length 0 lo)).take (HT.sIx xs.length xs.length hi - HT.sIx xs.length 0 lo), Heap.get?_push_size _ rfl⟩
theorem call_list_of : CallR X (.type "list") (fun xs H Q => ∃ p ys, xs = [.ref p] ∧ (SqL X.K H p ys ∨ SqT X.K H p ys) ∧ ∀ l, H l = none → Q (.ref l) (upd H l (.lst ys))) := by
 intro pins s σ H xs us Q I r h
 obtain ⟨p, ys, rfl, hq, q⟩ := h
 obtain ⟨u, rfl, rx⟩ := vals1 r
 cases rx
 have fin : ∀ (its : List Value), Vals ys its → ys.length ≤ sizeLine → ∀ (h' : Heap) (c' : Nat), (∀ b o', s.heap.get? b = some o' → h'.get? b = some o') →
     h'.get? s.heap.objs.size = some { cls := .type "list", dict := none, data := .seq its.toArray c', slots := #[] } → EP X pins σ Q (.ref s.heap.objs.size) { s with heap := h' } := fun its r' hz h' c' kp e =>
   ⟨.ref s.heap.objs.size, _, I.laid (t' := s.toks) kp (Nat.le_refl _) (show ObjOk X.prog X.w _ h' _ (.lst ys) from ⟨hz, its, c', r', e⟩), rfl, q _ (I.hok.fresh (Nat.le_refl _))⟩
 rcases hq with hq | hq
 · obtain ⟨its, r', pl, hz⟩ := I.list hq
   have hlen := r'.length
   obtain ⟨o, ho, hc, n, hd⟩ := pl.isList
   exact call_list_seq p (.inl rfl) ho hc hd (fun h' c' kp e => fin its r' hz h' c' kp e) (by simp only [List.size_toArray] <;> omega)
 · obtain ⟨its, r', pl, hz⟩ := I.tuple hq
   have hlen := r'.length
   obtain ⟨o, ho, hc, n, hd⟩ := pl
   exact call_list_seq p (.inr rfl) ho hc hd (fun h' c' kp e => fin its r' hz h' c' kp e) (by simp only [List.size_toArray] <;> omega)
def tyV (K : PySem.W.Frag) (T : String) (x : V) (H : Hp) : Prop := match x with
 | .str _ => T = "str"
 | .int _ => T = "int"
 | .ref p => (T = "list" ∧ ∃ xs, SqL K H p xs) ∨ (T = "tuple" ∧ ∃ o, K.lookup p = some o ∧ o.cls = .type "tuple" ∧ o.dict = none) ∨
     (T = "dict" ∧ ((∃ kvs, H p = some (.dK kvs)) ∨ ∃ kvs, H p = some (.dT kvs))) ∨ (T = "set" ∧ ∃ S n, H p = some (.set S n))
 | _ => False
theorem tyV_is {pins : List (Addr × Obj)} {σ : St} {H : Hp} {s : Shared} {T : String} {x : V} {v : Value} (I : Inv X pins σ H s) (r : RelV x v) (ty : tyV X.K T x H) :
   s.TypeIs v T ∧ ∀ a, v = .ref a → ∃ ob, s.heap.get? a = some ob ∧ ob.dict = none := by
 cases x with
 | str z =>
   obtain ⟨t, rfl⟩ := r
   cases (show T = "str" from ty)
   exact ⟨typeIs_str s z t, fun _ e => nomatch e⟩
 | int i =>
   obtain ⟨t, rfl⟩ := r
   cases (show T = "int" from ty)
   exact ⟨typeIs_int s i t, fun _ e => nomatch e⟩
 | ref p =>
   cases r
   rcases ty with ⟨rfl, xs, hq⟩ | ⟨rfl, o, hk, hc, hd⟩ | ⟨rfl, hk⟩ | ⟨rfl, S, n, hk⟩
   · obtain ⟨its, _, pl, _⟩ := I.list hq
     refine ⟨pl.isList.typeIs, fun a e => ?_⟩
     cases e
     obtain ⟨o, n, e, c, hd, _⟩ := pl
     exact ⟨o, e, hd⟩
   · refine ⟨⟨o, I.kIn p o hk, hc⟩, fun a e => ?_⟩
     cases e
     exact ⟨o, I.kIn _ o hk, hd⟩
   · have z : ∃ o, s.heap.get? p = some o ∧ o.ExactDict := by
       rcases hk with ⟨kvs, hk⟩ | ⟨kvs, hk⟩
       · obtain ⟨_, _, _, _, o, _, _, e, ex, _⟩ := I.hok p _ hk
         exact ⟨o, e, ex⟩
       · obtain ⟨_, _, _, _, o, _, _, e, ex, _⟩ := I.hok p _ hk
         exact ⟨o, e, ex⟩
     obtain ⟨o, e, ex⟩ := z
     refine ⟨⟨o, e, ex.1⟩, fun a e2 => ?_⟩
     cases e2
     exact ⟨o, e, ex.2.1⟩
   · obtain ⟨o, _, _, _, e, ex, _⟩ := I.hok p _ hk
     refine ⟨⟨o, e, ex.1⟩, fun a e2 => ?_⟩
     cases e2
     exact ⟨o, e, ex.2.1⟩
 | _ => exact False.elim ty
def tBM (K : PySem.W.Frag) (T : String) (r : V → List V → Hp → VK → Prop) (to : TE) (t : TA) : TE := fun σ H Q => to σ H fun x H1 => tyV K T x H1 ∧ t σ H1 fun xs H2 => r x xs H2 Q
variable {o e : Expr} {es : List Expr} {to : TE} {t : TA} {name : Str} {apos cpos : Pos} {T id : String} {r : V → List V → Hp → VK → Prop}
theorem pe_bm (pa : PlainAttrs T) (slot : Slot T name id) (hty : typeOf (.builtin id) = pure (.type "method_descriptor")) (hm : MtR X id r) (ho : PE X o to) (ha : PA X (e :: es) t)
   (hbase : attributeBase o name X.env (eval o X.env) = eval o X.env := by rfl)
   (hfew : ((backTo cpos (starEach (e :: es) X.env)).all (fun x => !x.1) && (backToKw cpos (keywordEach [] X.env)).all (fun x => x.1.isSome)
     && decide ((e :: es).length + ([] : List Keyword).length + (if ([] : List Keyword).isEmpty then 0 else 1) < 30)) = true := by rfl)
   (hline : (apos.endLine == cpos.line) = true := by rfl) (hs : starEach (e :: es) X.env = (false, eval e X.env) :: starEach es X.env := by rfl) (hplain : (backTo cpos (starEach es X.env)).any (·.1) = false := by rfl) :
   PE X (.Call (.Attribute o name apos) (e :: es) [] cpos) (tBM X.K T r to t) := by
 intro pins s σ H Q I h
 refine wpAny_Call_method_late hbase hfew hline rfl (thn (ho pins s σ H _ I h) fun v s1 ⟨x, H1, I1, r1, ty, q1⟩ => ?_)
 obtain ⟨h1, h2⟩ := tyV_is I1 r1 ty
 refine ⟨T, id, pa, slot, hty, h1, h2, ?_⟩
 have hA := ha cpos pins s1 σ H1 _ I1 q1
 rw [hs] at hA ⊢
 refine Calls.callWith_builtin (by show (false || (backTo cpos (starEach es X.env)).any (·.1)) = false; rw [hplain] <;> rfl) (Calls.evalArgs_plain ?_)
 exact thn hA fun us s2 ⟨vs, H2, I2, r2, q2⟩ => hm pins s2 σ H2 x vs v us Q I2 r1 r2 q2
end
end L2
namespace L2
open PySem PySem.Spec PyProof.Rows
def MtM (X : Cx) (id : String) (r : V → List V → Hp → VK → Prop) : Prop :=
 ∀ (pins : List (Addr × Obj)) (s : Shared) (σ : St) (H : Hp) (x : V) (xs : List V) (v : Value) (us : List Value) (Q : VK), Inv X pins σ H s → RelV x v → Vals xs us → r x xs H Q →
   wpAny (model X.prog X.w) X.A (call (.builtin id) (v :: us)) (EP X pins σ Q) X.xe s
theorem Vals.one : ∀ {x : V} {us : List Value}, Vals [x] us → ∃ u, us = [u] ∧ RelV x u
 | _, _, .cons r .nil => ⟨_, rfl, r⟩
theorem Vals.rep {xs : List V} {us : List Value} (h : Vals xs us) : ∀ k : Nat, Vals (List.replicate k xs).flatten (List.replicate k us).flatten
 | 0 => .nil
 | k + 1 => by
   rw [List.replicate_succ, List.replicate_succ, List.flatten_cons, List.flatten_cons]
   exact Vals.append h (Vals.rep h k)
theorem foldl_rep (its : List Value) : ∀ (k : Nat) (acc : List Value),
   List.foldl (fun x1 x2 => x1 ++ x2) acc.toArray (List.replicate k its.toArray) = (acc ++ (List.replicate k its).flatten).toArray
 | 0, acc => by simp
 | k + 1, acc => by
   have e : acc.toArray ++ its.toArray = (acc ++ its).toArray := by simp
   have e2 : (acc ++ its) ++ (List.replicate k its).flatten = acc ++ (List.replicate (k + 1) its).flatten := by
     rw [List.replicate_succ, List.flatten_cons, List.append_assoc]
   rw [← e2, ← foldl_rep its k (acc ++ its), ← e, List.replicate_succ, List.foldl_cons]
section
variable {X : Cx} {pins : List (Addr × Obj)} {σ : St} {H : Hp} {s : Shared} {l b : Addr} {xs ys zs : List V}
theorem Inv.lset {its its' : List Value} {n : Nat} {f : Array Value → Array Value} {t' : Nat} (I : Inv X pins σ H s) (hH : H l = some (.lst xs))
   (e : s.heap.get? l = some { cls := .type "list", data := .seq its.toArray n }) (hf : f its.toArray = its'.toArray) (hv : Vals ys its') (hz : ys.length ≤ sizeLine) :
   Inv X pins σ (upd H l (.lst ys)) { s with heap := s.heap.update l (Obj.mapSeq f), toks := t' } := by
 have q := PySem.IsL.update e f
 rw [hf] at q
 refine I.write (x := l) (e := l) (by rw [hH]; exact trivial) (.inl rfl) (fun b' u hb hu => (Heap.get?_update_other s.heap (Obj.mapSeq f) (Ne.symm hb)).trans hu) ⟨_, q⟩ ?_
 exact ⟨hz, its', _, hv, q⟩
theorem Inv.lnew {its : List Value} {t' : Nat} (I : Inv X pins σ H s) (hv : Vals ys its) (hz : ys.length ≤ sizeLine) :
   Inv X pins σ (upd H s.heap.objs.size (.lst ys)) { s with heap := s.heap.push { cls := .type "list", data := .seq its.toArray }, toks := t' } :=
 I.laid (fun _ _ q => Heap.get?_push_of_some _ q) (Nat.le_refl _) ⟨hz, its, 0, hv, Heap.get?_push_size _ rfl⟩
theorem Inv.fresh (I : Inv X pins σ H s) : H s.heap.objs.size = none := I.hok.fresh (Nat.le_refl _)
theorem Inv.lstM (I : Inv X pins σ H s) (hH : H l = some (.lst xs)) : xs.length ≤ sizeLine ∧ ∃ (its : List Value) (n : Nat), Vals xs its ∧ xs.length = its.length ∧ s.heap.get? l = some { cls := .type "list", data := .seq its.toArray n } := by
 obtain ⟨z, its, n, r, e⟩ := I.hok l _ hH
 exact ⟨z, its, n, r, r.length, e⟩
theorem notLongL {n : Nat} (h : n ≤ sizeLine) : Builtin.List.listTooLong n = false := by
 unfold Builtin.List.listTooLong
 exact decide_eq_false (by omega)
end
section
variable {X : Cx}
def rAppend : V → List V → Hp → VK → Prop := fun x vs H Q => ∃ l xs y, x = .ref l ∧ vs = [y] ∧ H l = some (.lst xs) ∧ xs.length < sizeLine ∧ Q .non (upd H l (.lst (xs ++ [y])))
theorem mt_append : MtM X "list.append" rAppend := by
 intro pins s σ H x vs v us Q I rx rv h
 obtain ⟨l, xs, y, rfl, rfl, hH, hz, q⟩ := h
 cases rx
 obtain ⟨u, rfl, ru⟩ := rv.one
 obtain ⟨z, its, n, r, hl, e⟩ := I.lstM hH
 refine call_meets F.slot_list_append ⟨_, e, rfl⟩ F.entry_list_append (F.args_list_append_2 _ _) (PySem.list_append l its.toArray n u (by rw [List.size_toArray]; omega)) ⟨e, ?_⟩
 refine ⟨.non, _, I.lset (its' := its ++ [u]) hH e (by simp) (r.append (.cons ru .nil)) ?_, rfl, q⟩
 rw [List.length_append, List.length_singleton]
 omega
def rCat : R2 := fun x y H Q => ∃ l b xs zs, x = .ref l ∧ y = .ref b ∧ H l = some (.lst xs) ∧ H b = some (.lst zs) ∧ xs.length + zs.length ≤ sizeLine ∧ ∀ p, H p = none → Q (.ref p) (upd H p (.lst (xs ++ zs)))
theorem op_cat : OpR X (binaryOp .Add) rCat := by
 intro pins s σ H x y v u Q I rx ry h
 obtain ⟨l, b, xs, zs, rfl, rfl, hH, hB, hz, q⟩ := h
 cases rx
 cases ry
 obtain ⟨z, its, n, r, hl, e⟩ := I.lstM hH
 obtain ⟨z2, its2, n2, r2, hl2, e2⟩ := I.lstM hB
 refine PySem.P.add_list e e2 ?_ (by rw [List.size_toArray, List.size_toArray]; omega)
 have ea : its.toArray ++ its2.toArray = (its ++ its2).toArray := by simp
 rw [ea]
 exact ⟨.ref _, _, I.lnew (t' := s.toks) (r.append r2) (by rw [List.length_append]; omega), rfl, q _ I.fresh⟩
def rRep : R2 := fun x y H Q => ∃ l k xs, x = .ref l ∧ y = .int k ∧ H l = some (.lst xs) ∧ -(2 ^ 63) ≤ k ∧ k < 2 ^ 63 ∧ xs.length * k.toNat ≤ sizeLine ∧
 ∀ p, H p = none → Q (.ref p) (upd H p (.lst (List.replicate k.toNat xs).flatten))
theorem len_rep {α : Type} (xs : List α) (k : Nat) : (List.replicate k xs).flatten.length = k * xs.length := by
 induction k with
 | zero => simp
 | succ k ih => rw [List.replicate_succ, List.flatten_cons, List.length_append, ih, Nat.succ_mul, Nat.add_comm]
theorem op_rep : OpR X (binaryOp .Mult) rRep := by
 intro pins s σ H x y v u Q I rx ry h
 obtain ⟨l, k, xs, rfl, rfl, hH, h1, h2, hz, q⟩ := h
 cases rx
 obtain ⟨t, rfl⟩ := ry
 obtain ⟨z, its, n, r, hl, e⟩ := I.lstM hH
 have hlen : its.toArray.size * k.toNat ≤ sizeLine := by rw [List.size_toArray, ← hl]; exact hz
 have hcap : ¬ its.toArray.size * k.toNat > (2 ^ 63 - 1) / 8 := by
   have : (sizeLine : Nat) ≤ (2 ^ 63 - 1) / 8 := by decide
   omega
 have hfit : ¬ (!Builtin.List.listFitsIndex k) = true := by
   rw [fitsIndex_both h1 h2]
   exact Bool.false_ne_true
 have hlong : ¬ Builtin.List.listTooLong (its.toArray.size * k.toNat) = true := by
   rw [notLongL hlen]
   exact Bool.false_ne_true
 have hnew : List.foldl (fun x1 x2 => x1 ++ x2) #[] (List.replicate (if its.toArray.isEmpty = true then 0 else k.toNat) its.toArray) = (List.replicate k.toNat its).flatten.toArray := by
   have f0 : ∀ m : Nat, List.foldl (fun x1 x2 => x1 ++ x2) #[] (List.replicate m its.toArray) = (List.replicate m its).flatten.toArray := fun m => by
     have := foldl_rep its m []
     rw [List.nil_append] at this
     exact this
   rw [f0]
   cases its with
   | nil => simp
   | cons a r' => rw [if_neg (by simp)]
 refine wpAny_binaryOp_repeat_ref (T := "list") (U := "int") (by decide) ⟨_, e, rfl⟩ (fun s' => typeIs_int s' k t) noFill_list_mul F.fills_int_mul F.slot_int_rmul repeat_list F.slot_int_index.lookup
   (call_meets F.slot_int_rmul (typeIs_int s k t) F.entry_int_rmul (F.args_int_rmul_2 _ _) (int___rmul___int_list k t l its.toArray n)
     ⟨e, rfl, ⟨_, e, rfl⟩, call_meets F.slot_list_mul ⟨_, e, rfl⟩ F.entry_list_mul (F.args_list_mul_2 _ _) (AutoListH.list___mul___list_int_3 l its.toArray n k t hfit hcap hlong) ⟨e, ?_⟩⟩)
 rw [hnew]
 exact ⟨.ref _, _, I.lnew (t' := s.toks) (r.rep k.toNat) (by rw [len_rep, Nat.mul_comm]; exact hz), rfl, q _ I.fresh⟩
end
section
variable {prog : Program} {w : World} {A : Around} {E : Value → Shared → Prop} {s : Shared}
end
section
variable {X : Cx}
end
end L2
namespace L2
open PySem PySem.Spec PyProof.Rows
section
variable {κ : Type} [DecidableEq κ]
def valV (kvs : List (κ × V)) (k : κ) : Option V := (kvs.find? fun kv => decide (kv.1 = k)).map (·.2)
theorem valV_pos {p : κ × V} {r : List (κ × V)} {k : κ} (e : p.1 = k) : valV (p :: r) k = some p.2 := by simp [valV, List.find?_cons, e]
theorem valV_neg {p : κ × V} {r : List (κ × V)} {k : κ} (e : ¬ p.1 = k) : valV (p :: r) k = valV r k := by simp [valV, List.find?_cons, e]
theorem RelO.isSome_eq {o : Option V} {u : Option Value} (r : RelO o u) : o.isSome = u.isSome := by
 cases o with
 | none => cases u with
   | none => rfl
   | some _ => exact (show False from r).elim
 | some _ => cases u with
   | none => exact (show False from r).elim
   | some _ => rfl
theorem KV.val {kvs : List (κ × V)} {vs : List (κ × Value)} (r : KV kvs vs) (k : κ) : RelO (valV kvs k) (valueAt vs k) := by
 unfold KV at r
 induction r with
 | nil => exact True.intro
 | @cons p q ps qs h t ih =>
   obtain ⟨h1, h2⟩ := h
   by_cases e : p.1 = k
   · have e' : q.1 = k := h1.symm.trans e
     have b : valueAt (q :: qs) k = some q.2 := by simp [valueAt, List.find?_cons, e']
     rw [valV_pos e, b]; exact h2
   · have e' : ¬ q.1 = k := fun z => e (h1.trans z)
     have b : valueAt (q :: qs) k = valueAt qs k := by simp [valueAt, List.find?_cons, e']
     rw [valV_neg e, b]; exact ih
theorem KV.keys {kvs : List (κ × V)} {vs : List (κ × Value)} (r : KV kvs vs) : kvs.map (·.1) = vs.map (·.1) := by
 unfold KV at r
 induction r with
 | nil => rfl
 | cons h t ih => rw [List.map_cons, List.map_cons, ih, h.1]
end
theorem kV_is {P : Program} {w : World} {k : Key} {u : Value} (r : RelV (kV k) u) : (mixKind P w).is k u = true := by
 cases k with
 | inl i => obtain ⟨t, e⟩ := (show ∃ t, u = Value.int i t from r); subst e; exact mixKind_int P w i t
 | inr x => obtain ⟨t, e⟩ := (show ∃ t, u = Value.str x t from r); subst e; exact mixKind_str P w x t
section
variable {P : Program} {w : World} {H : Hp} {h : Heap} {a : Addr}
end
section
variable {X : Cx} {pins : List (Addr × Obj)} {σ : St} {H : Hp} {s : Shared} {a : Addr} {y v : V} {u r : Value} {o : Option V} {A : Around} {E : Value → Shared → Prop}
end
section
variable {X : Cx} {pins : List (Addr × Obj)} {σ : St} {H : Hp} {s : Shared} {a : Addr} {kvs : List (Key × V)} {k : Key} {u : Value} {A : Around} {E : Value → Shared → Prop}
end
def NoSl (i : Expr) : Prop := ∀ ov iv, subscripted i false ov iv = operate [ov, iv] (getItem ov iv)
theorem subD_of {prog : Program} {w : World} {A : Around} {E : Value → Shared → Prop} {s : Shared} {env : Env} {value slice : Expr} {pos : Pos} {T id : String} {Q : Value → Shared → Prop}
   (hl : typeLookup (.type T) "__getitem__" = pure (some (.builtin id))) (hs : NoSl slice)
   (h : wpAny (model prog w) A (eval value env) (fun o s₁ => wpAny (model prog w) A (eval slice env) (fun i s₂ => s₂.TypeIs o T ∧ wpAny (model prog w) A (getItem o i) Q E s₂) E s₁) E s) :
   wpAny (model prog w) A (eval (.Subscript value slice pos) env) Q E s := by
 refine Subscript_ (wpAny_mono h (fun o s₁ h₁ => wpAny_mono h₁ (fun i s₂ h₂ => ?_) fun _ _ x => x) fun _ _ x => x)
 obtain ⟨hT, h₂⟩ := h₂
 unfold subscriptTail
 refine wpAny_bind ?_
 rw [getitemInPython_of_ne hT.not_modules]
 refine wpAny_bind (wpAny_specialOf hT hl ?_)
 have fin : wpAny (model prog w) A (subscripted slice false o i) (fun r s₃ => wpAny (model prog w) A (letTemporaryGo value o r >>= fun _ => pure r) Q E s₃) E s₂ := by
   rw [hs o i]
   exact wpAny_operating (wpAny_mono h₂ (fun r s₃ h₃ => wpAny_bind (wpAny_letTemporaryGo (wpAny_pure h₃))) fun _ _ x => x)
 first
   | exact wpAny_pure (wpAny_bind fin)
   | exact wpAny_bind (wpAny_pure (wpAny_bind fin))
   | exact wpAny_bind fin
section
variable {X : Cx} {o i e value : Expr} {pos pos' tpos : Pos} {td ty tv : TE}
end
section
variable {X : Cx} {pos : Pos}
end
section
variable {X : Cx} {pins : List (Addr × Obj)} {σ : St} {H : Hp} {s : Shared} {a : Addr} {y d : V} {u r : Value} {o : Option V} {A : Around} {E : Value → Shared → Prop}
end
section
variable {X : Cx} {o e f : Expr} {apos cpos : Pos} {td ty tx : TE}
end
section
variable {X : Cx} {pins : List (Addr × Obj)} {σ : St} {H : Hp} {s : Shared} {a : Addr} {kvs : List (Key × V)} {A : Around} {E : Value → Shared → Prop}
end
section
variable {X : Cx} {pins : List (Addr × Obj)} {σ : St} {H : Hp} {s : Shared} {a : Addr} {y : V} {u : Value} {A : Around} {E : Value → Shared → Prop}
end
end L2
namespace Att
open PySem PySem.W PySem.Calls PyProof.Rows
theorem ints_of_wellAll {P : Params} {h : Heap} : ∀ (ns : List Int) (vs : List Value), WellAll P h vs (ns.map WData.int) → IntsAre vs ns := by
 intro ns
 induction ns with
 | nil =>
   intro vs w
   rw [List.map_nil] at w
   cases w
   exact .nil
 | cons n ns ih =>
   intro vs w
   rw [List.map_cons] at w
   cases w with
   | cons a b =>
     cases a
     exact .cons _ _ (ih _ b)
theorem script_of {l : OpenLaw} {n : Nat} (hn : l.most = some n) {P : Params} {h : Heap} {args : List WData} {vals : List Value}
   (hpre : l.row.toRowW.claim.pre args = true) (hwl : WellAll P h vals args) :
   ∃ a vs ns, vals = [Value.ref a] ∧ args = [WData.list (ns.map WData.int)] ∧ h.get? a = some { cls := .type "list", data := .seq vs.toArray } ∧ IntsAre vs ns ∧ ns.length ≤ n := by
 have hsh : WShape.hasAll [] args [.list .int] = true := (pre_splitW hpre).1
 have hc : l.pre.holds [] { args := args } = true := (pre_splitW hpre).2
 obtain ⟨d, r, rfl, h1, h2⟩ := hasAllW_cons hsh
 obtain rfl := hasAllW_nil h2
 obtain ⟨xs, rfl, h3⟩ := hasW_list h1
 obtain ⟨ns, rfl⟩ := items_int h3
 have hlen : ns.length ≤ n := by
   unfold OpenLaw.pre at hc
   have h4 : (WTm.not (.lt (.lit (.int (n : Int))) (.len (.arg 0)))).holds [] { args := [.list (ns.map .int)] } = true := by
     have h4 := (holds_andW hc).1
     rw [hn] at h4
     exact h4
   have h5 := condW_of h4 (w_not (w_lt w_lit (w_len_list (w_arg rfl))))
   rw [List.length_map] at h5
   refine Nat.le_of_not_lt fun q => ?_
   have q' : (n : Int) < ((ns.length : Nat) : Int) := by omega
   first
     | (rw [decide_eq_true q'] at h5; exact absurd h5 (by decide))
     | (simp at h5; omega)
 cases hwl with
 | cons w1 w2 =>
   cases w2
   cases w1 with
   | list ho hall => exact ⟨_, _, ns, rfl, rfl, ho, ints_of_wellAll ns _ hall, hlen⟩
theorem post_true (l : OpenLaw) (args : List WData) : l.row.toRowW.claim.post args (.bool true) args = true :=
 postW_of (r := l.row.toRowW) (X := (true == true))
   (show WShape.has [] (.bool true) .bool = true by first | rfl | decide | simp [WShape.has, WShape.arms, WShape.armsAll])
   (show (WTm.eq .res (.lit (.bool true))).value [] { args := args, res := some (.bool true), after := args } = some (.bool (true == true)) from w_eq_bool (w_res rfl) w_lit) rfl
theorem attach_call {l : OpenLaw} {n : Nat} {q : Program} {loose : List Str} {XP : (Str → Option Value) → Heap → Prop} {YP : World → Heap → Prop} {d : DefRec}
   (hn : l.most = some n) (hdf : d.params.defaults = [])
   (call : ∀ (w : World) (s₀ s₁ : Shared) (mg mb : Str → Option Value) (fa : Addr) (o : Obj) (pm cd doc : Value) (a : Addr) (vs : List Value) (ns : List Int),
     Ground q loose [] XP w s₀ mg mb s₁.heap → YP w s₁.heap →
     s₁.heap.get? fa = some o → o.data = .func (docDef d.name d.params d.body d.scope pm cd doc) → s₁.heap.CodeRec cd d.name → mg d.name = some (.ref fa) →
     s₁.heap.get? a = some { cls := .type "list", data := .seq vs.toArray } → IntsAre vs ns → ns.length ≤ n → s₁.gens = #[] →
     codeAny (model l.prog w) callerA (.call (.ref fa) ⟨[.ref a], []⟩) (fun r s' => r = .ok (.ret (.bool true)) ∧ OldK s₁.heap s'.heap ∧ s'.os = s₁.os ∧ AllBare s'.gens) s₁) :
   WalkO q loose XP YP l.row.toRowW d [] (fun f vs => PySem.call f vs) := by
 intro w s₀ s₁ mg mb G Y fa o pm cd doc dV kV ho hd hcd hD hmg hg args vals as hpre hlay hrd hwl hlo
 obtain rfl : dV = .none := Dflts.none hD hdf
 obtain rfl : kV = .none := Dflts.noKw hD
 obtain ⟨a, vs, ns, rfl, rfl, hobj, hints, hlen⟩ := script_of hn hpre hwl
 refine enter_call (codeAny_mono (call w s₀ s₁ mg mb fa o pm cd doc a vs ns G Y ho (fd_plain hd) hcd hmg hobj hints hlen hg) fun r s' hq => ?_)
 obtain ⟨rfl, h2, h3, h4⟩ := hq
 exact ⟨.inl ⟨.bool true, .bool true, [], rfl, fun _ => rfl, .bool true, post_true l _, fun _ => ⟨List.Pairwise.nil, fun _ hm => (nomatch hm)⟩⟩, h2, h3, h4⟩
section
variable {prog : Program} {w : World} {A : Around} {E : Value → Shared → Prop} {s : Shared} {K : Frag}
end
end Att
namespace L2
open PySem PySem.Spec PyProof.Rows
theorem vals_ints : ∀ {vs : List Value} {ns : List Int}, IntsAre vs ns → Vals (ns.map V.int) vs
 | _, _, .nil => .nil
 | _, _, .cons n t h => .cons ⟨t, rfl⟩ (vals_ints h)
def Only (H : Hp) : Prop := ∀ b, H b = none ∨ ∃ o xs, H b = some (.frz o (.lst xs))
theorem law_call {P : Program} {w : World} {K : PySem.W.Frag} {mg mb : Str → Option Value} {CX : CXT} {k : Nat} {fa a : Addr} {fd : FuncData} {x : Str} {sp : Sp} {s₁ : Shared} {vs : List Value} {ns : List Int}
   (KX : K.In s₁.heap) (hns : s₁.heap.Ns mainGlobals mg) (hb : s₁.heap.Ns builtinsNs mb) (hbb : ∀ x : Str, x ≠ "__name__" → mb x = bootBuiltins x) (hlim : s₁.heap.NoLimit) (hg : s₁.gens = #[])
   (ha : s₁.heap.get? a = some { cls := .type "list", data := .seq vs.toArray }) (hi : IntsAre vs ns) (hl : ns.length ≤ sizeLine) (hr : Room k callerA)
   (F : ∀ base : Heap, K.In base → base.Ns mainGlobals mg → FnOk P w K mg base CX k fa fd [x] sp) (hbind : ∀ (s : Shared) (u : Value), BindsTo s fd ⟨[u], []⟩ [(x, u)])
   (hsp : ∀ H : Hp, Only H → SqL K H a (ns.map V.int) → sp [.ref a] H (fun v _ => v = .bl true) fun _ _ _ => False)
   (hCX : ∀ H e s', CX [] H s₁ (fun _ _ _ => False) e s' → False) :
   codeAny (model P w) callerA (.call (.ref fa) ⟨[.ref a], []⟩) (fun r s' => r = .ok (.ret (.bool true)) ∧ OldK s₁.heap s'.heap ∧ s'.os = s₁.os ∧ AllBare s'.gens) s₁ := by
 have rv := vals_ints hi
 have lenV := hi.length
 -- from an abstract heap in which nothing but the script may be tracked
 have core : ∀ H : Hp, Only H → SqL K H a (ns.map V.int) → HOk P w H s₁.heap → (∀ b, H b ≠ none → b = a) → (H a ≠ none → K.lookup a = none) →
     codeAny (model P w) callerA (.call (.ref fa) ⟨[.ref a], []⟩) (fun r s' => r = .ok (.ret (.bool true)) ∧ OldK s₁.heap s'.heap ∧ s'.os = s₁.os ∧ AllBare s'.gens) s₁ := by
   intro H hO hS hok hA hK
   have base_of : ∀ {b : Addr} {o : Obj}, s₁.heap.get? b = some o → H b = none → (hidT s₁.heap H).get? b = some o := fun e n => hidT_get e n
   have noA : ∀ {b : Addr} {o : Obj} {es : Array DictEntry} {ep : Nat}, s₁.heap.get? b = some o → o.data = .dict es ep → H b = none := fun {b o es ep} e d => by
     cases q : H b with
     | none => rfl
     | some u =>
       have e' : b = a := hA b (by rw [q]; simp)
       subst e'
       rw [ha] at e; cases e
       have d' : Data.seq vs.toArray _ = Data.dict es ep := d
       cases d'
   have nsK : ∀ {b : Addr} {m : Str → Option Value}, s₁.heap.Ns b m → (hidT s₁.heap H).Ns b m := fun {b m} ⟨o, es, ep, e, d, r⟩ => ⟨o, es, ep, base_of e (noA e d), d, r⟩
   have hKb : K.In (hidT s₁.heap H) := fun b o e => base_of (KX b o e) (by
     cases q : H b with
     | none => rfl
     | some u =>
       have e' : b = a := hA b (by rw [q]; simp)
       subst e'
       rw [hK (by rw [q]; simp)] at e; cases e)
   have hM : Mod K mg (hidT s₁.heap H) := ⟨hKb, nsK hns, ⟨mb, nsK hb, hbb⟩, let ⟨mc, h1, h2⟩ := hlim; ⟨mc, nsK h1, h2⟩⟩
   have e0 : Env0 P w K mg (hidT s₁.heap H) callerA [] s₁ H := ⟨rfl, hM, fun b o e => of_hidT e, Nat.le_of_eq (hidT_size _ _), trivial, fun b hb => absurd (show b ∈ ([] : List Addr) from hb) (by simp), hok, .of_eq hg⟩
   refine codeAny_mono ((F _ hKb (nsK hns)).run callerA [] s₁ H ⟨[.ref a], []⟩ [.ref a] [.ref a] _ _ hr e0 (hbind s₁ (.ref a)) (.cons rfl .nil) (hsp H hO hS)) fun r s' h => ?_
   cases r with
   | error e => exact (hCX H e s' h).elim
   | ok fl =>
     cases fl with
     | next => exact False.elim h
     | brk => exact False.elim h
     | cont => exact False.elim h
     | ret u =>
       obtain ⟨v, H', os, bare, un, hok', r', q⟩ := h
       have q' : v = .bl true := q
       subst q'
       obtain rfl : u = Value.bool true := r'
       refine ⟨rfl, OldK.of_keep fun b o e => ?_, os, bare⟩
       cases q : H b with
       | none => exact un.keep b o e q (by intro z; exact absurd (show b ∈ ([] : List Addr) from z) (by simp)) (by simp)
       | some u =>
         rcases hO b with z | ⟨ob, xs, z⟩
         · rw [q] at z; cases z
         · have z2 := un.frzs b ob _ z
           obtain ⟨e1, _⟩ := hok b _ z
           obtain ⟨e2, _⟩ := hok' b _ z2
           rw [e] at e1; cases e1
           exact e2
 cases hk : K.lookup a with
 | some o =>
   -- the script is one of the module's own objects
   have e := KX a o hk
   rw [ha] at e
   cases e
   refine core (fun _ => none) (fun _ => .inl rfl) (.inr ⟨_, vs.toArray, _, hk, rfl, rfl, rfl, by rw [List.size_toArray, lenV]; exact hl, by simpa using rv⟩) (fun b u z => by have z' : (none : Option HO) = some u := z; cases z') (fun b z => absurd rfl z) fun z => absurd rfl z
 | none =>
   refine core (fun b => if b = a then some (.frz { cls := .type "list", data := .seq vs.toArray } (.lst (ns.map V.int))) else none) (fun b => ?_) (.inl (.inr ⟨{ cls := .type "list", data := .seq vs.toArray }, if_pos rfl⟩)) (fun b u z => ?_) (fun b z => ?_) fun _ => hk
   · by_cases hb : b = a
     · exact .inr ⟨_, _, if_pos hb⟩
     · exact .inl (if_neg hb)
   · by_cases hb : b = a
     · have z' := (if_pos hb).symm.trans z
       cases z'
       subst hb
       exact ⟨ha, by rw [List.length_map]; exact hl, vs, _, rv, ha⟩
     · have z' := (if_neg hb).symm.trans z
       cases z'
   · by_cases hb : b = a
     · exact hb
     · exact absurd (if_neg hb) z
end L2
namespace L2
open PySem PySem.Spec PyProof.Rows
abbrev KOf {K : PySem.W.Frag} {h : Heap} (_ : K.In h) : PySem.W.Frag := K
theorem walk_of {l : PySem.W.OpenLaw} {n k : Nat} {q : Program} {loose : List Str} {XP : (Str → Option Value) → Heap → Prop} {YP : World → Heap → Prop} {d : DefRec} {K : Params → PySem.W.Frag} {CX : World → CXT} {sp : World → Sp} {x : Str}
   (hn : l.most = some n) (hn2 : n ≤ sizeLine) (hdf : d.params.defaults = []) (hr : Room k callerA)
   (hY : ∀ (w : World) (h : Heap), YP w h → (K w.params).In h)
   (F : ∀ (w : World) (mg : Str → Option Value) (fa : Addr) (h : Heap), (K w.params).In h → h.Ns mainGlobals mg → mg d.name = some (.ref fa) →
     ∃ fd : FuncData, (∀ (s : Shared) (u : Value), BindsTo s fd ⟨[u], []⟩ [(x, u)]) ∧
       ∀ base : Heap, (K w.params).In base → base.Ns mainGlobals mg → FnOk l.prog w (K w.params) mg base (CX w) k fa fd [x] (sp w))
   (hsp : ∀ (w : World) (H : Hp) (a : Addr) (ns : List Int), ns.length ≤ n → Only H → SqL (K w.params) H a (ns.map V.int) → sp w [.ref a] H (fun v _ => v = .bl true) fun _ _ _ => False)
   (hCX : ∀ (w : World) (H : Hp) (s : Shared) (e : Value) (s' : Shared), CX w [] H s (fun _ _ _ => False) e s' → False) :
   PySem.W.WalkO q loose XP YP l.row.toRowW d [] (fun f vs => PySem.call f vs) := by
 refine Att.attach_call hn hdf fun w s₀ s₁ mg mb fa o pm cd doc a vs ns G Y ho hd hcd hmg hobj hints hlen hg => ?_
 have KX := hY w _ Y
 obtain ⟨fd, hb, hF⟩ := F w mg fa _ KX G.T.g hmg
 exact law_call KX G.T.g G.T.b G.T.builtins G.T.nolimit hg hobj hints (Nat.le_trans hlen hn2) hr hF hb (fun H hO hS => hsp w H a ns hlen hO hS) fun H e s' => hCX w H s₁ e s'
end L2
namespace L2
open PySem PySem.Spec PyProof.Rows
def inClass (s : Stmt) (j : Nat) : Stmt := match s with
 | .ClassDef _ _ _ body _ _ _ _ _ _ _ => body.getD j (.Pass ⟨0, 0, 0, 0⟩)
 | _ => .Pass ⟨0, 0, 0, 0⟩
def defArgs (s : Stmt) : Arguments := match s with
 | .FunctionDef _ a _ _ _ _ _ _ _ _ => a
 | _ => { posonlyargs := [], args := [], vararg := none, kwonlyargs := [], kw_defaults := [], kwarg := none, defaults := [] }
def defBody (s : Stmt) : List Stmt := match s with
 | .FunctionDef _ _ b _ _ _ _ _ _ _ => b
 | _ => []
def defScope (s : Stmt) : Scope := match s with
 | .FunctionDef _ _ _ _ _ _ sc _ _ _ => sc
 | _ => { kind := .function, names := [], isGenerator := false, isCoroutine := false }
abbrev CX0 : CXT := fun _ _ _ _ _ _ => False
abbrev E0 : XK := fun _ _ _ => False
theorem pass0 {X : Cx} : Passes CX0 X E0 := fun _ _ _ _ _ _ _ h => h.elim
structure Fun (K : PySem.W.Frag) (x qual : Str) (st : Stmt) (f : Addr) (fd : FuncData) : Prop where
 ex : ∃ (oc : Value) (od : Option Addr) (kV doc pm : Value) (an : Option Addr) (cdv ct : Value) (osl : Array (Option Value)),
   fd = PySem.W.fnOf x qual (defArgs st) (defBody st) (defScope st) .none kV doc pm an cdv ct ∧ K.lookup f = some ⟨oc, od, .func fd, osl⟩ ∧ PySem.W.codeIn K cdv qual = true
 kp : PySem.W.keepIn K (.ref f) = true
section
variable {P : Program} {w : World} {K : PySem.W.Frag} {mg : Str → Option Value} {base : Heap}
theorem Fun.ok {x qual : Str} {st : Stmt} {f : Addr} {fd : FuncData} {N ps : List Str} {k : Nat} {sp : Sp} (F : Fun K x qual st f fd) (S : FnScope N ps (defScope st)) (len : ∀ vs H Q E, sp vs H Q E → vs.length = ps.length)
   (hbody : ∀ (cdv : Value) (A : Around) (outer : List Env) (s : Shared) (H : Hp) (vs : List V) (Q : VK) (E : XK), Room k (A.deeper (envOfC qual (defScope st) s.heap.objs.size f cdv)) → sp vs H Q E →
     ∃ t, PSs (cxOf CX0 P w K mg base N qual (defScope st) f cdv A outer s H E).nox (defBody st) t ∧ t { nx := fun _ H' => Q .non H', rt := Q } (start N vs) H) : FnOk P w K mg base CX0 (k + 1) f fd ps sp := by
 obtain ⟨oc, od, kV, doc, pm, an, cdv, ct, osl, rfl, lk, hcd⟩ := F.ex
 refine fn_of lk hcd S len fun A outer s H vs Q E hr hsp => ?_
 obtain ⟨t, h, q⟩ := hbody cdv A outer s H vs Q E hr hsp
 exact ⟨t, h.nox, q⟩
theorem Fun.binds {x qual : Str} {st : Stmt} {f : Addr} {fd : FuncData} {ps : List Str} (F : Fun K x qual st f fd)
   (h : ∀ (kV doc pm : Value) (an : Option Addr) (cdv ct : Value) (us : List Value), us.length = ps.length → bindArgs (PySem.W.fnOf x qual (defArgs st) (defBody st) (defScope st) .none kV doc pm an cdv ct) ⟨us, []⟩ = pure (ps.zip us)) : Binds K fd ps [] := by
 obtain ⟨oc, od, kV, doc, pm, an, cdv, ct, osl, rfl, lk, hcd⟩ := F.ex
 exact .all (h kV doc pm an cdv ct)
theorem fun_mk {x qual : Str} {st : Stmt} {f : Addr} {oc : Value} {od an : Option Addr} {osl : Array (Option Value)} {kV doc pm cdv ct : Value} (l : K.lookup f = some ⟨oc, od, .func (PySem.W.fnOf x qual (defArgs st) (defBody st) (defScope st) .none kV doc pm an cdv ct), osl⟩)
   (c : PySem.W.codeIn K cdv qual = true) (k : PySem.W.keepIn K (.ref f) = true) : Fun K x qual st f (PySem.W.fnOf x qual (defArgs st) (defBody st) (defScope st) .none kV doc pm an cdv ct) := ⟨⟨oc, od, kV, doc, pm, an, cdv, ct, osl, rfl, l, c⟩, k⟩
end
section
variable {X : Cx}
theorem pv (i : Nat) {x : Str} {pos : Pos} (hN : X.N[i]? = some x := by rfl) (hv : Vis X.env.scope x := by first | exact Or.inl rfl | exact Or.inr (Or.inl rfl) | exact Or.inr (Or.inr rfl)) (hd : (x == ("__debug__" : Str)) = false := by decide)
   (hcd : (x == ("__classdict__" : Str)) = false := by decide) : PE X (.Name x pos) (tVar i) := pe_var hN hv hd hcd
end
theorem iteF {A B : Prop} (h : B) : if false = true then A else B := by
 rw [if_neg Bool.false_ne_true]
 exact h
theorem iteT {A B : Prop} (h : A) : if true = true then A else B := by
 rw [if_pos rfl]
 exact h
def Same (H H' : Hp) : Prop := ∀ b o, H b = some o → H' b = some o
theorem Same.refl (H : Hp) : Same H H := fun _ _ h => h
theorem Same.trans {H H1 H2 : Hp} (a : Same H H1) (b : Same H1 H2) : Same H H2 := fun c o h => b c o (a c o h)
theorem Same.seq {K : PySem.W.Frag} {H H' : Hp} {a : Addr} {xs : List V} (e : Same H H') (h : SqL K H a xs) : SqL K H' a xs := by
 rcases h with (h | ⟨o, h⟩) | h
 · exact .inl (.inl (e _ _ h))
 · exact .inl (.inr ⟨o, e _ _ h⟩)
 · exact .inr h
section
variable {κ : Type} [DecidableEq κ]
end
end L2
namespace Bt
end Bt
namespace L3
open PySem PySem.Spec PyProof.Rows L2
abbrev St := L2.St
def lstO (its : List Value) : Obj := { cls := .type "list", data := .seq its.toArray its.length }
theorem lstO_snoc (its : List Value) (y : Value) : ({ cls := .type "list", data := .seq (its.toArray.push y) (its.length + 1) } : Obj) = lstO (its ++ [y]) := by
 show ({ cls := .type "list", data := .seq (its.toArray.push y) (its.length + 1) } : Obj) = { cls := .type "list", data := .seq (its ++ [y]).toArray (its ++ [y]).length }
 rw [List.length_append, List.length_singleton, List.push_toArray]
section
variable {prog : Program} {w : World} {A : Around} {R : Result → Shared → Prop} {s : Shared}
theorem compLoop_go {elt target iter : Expr} {ifs : List Expr} {scope : Scope} {pos : Pos} {it acc : Value} {env : Env} (I : Nat → Shared → Prop)
   (turn : ∀ n s, I n s → wpAny (model prog w) A (pyNext it) (fun r s1 => match r with
     | none => R (.ok .next) s1
     | some v => wpAny (model prog w) A (letOwnedTupleGo target it v) (fun _ s2 => wpAny (model prog w) A (assign target env v) (fun _ s3 =>
         wpAny (model prog w) A (forIn ifs true fun c r => if r = true then do let ok ← isTrue c env (eval c env); pure (ForInStep.yield ok) else pure (ForInStep.yield r)) (fun ok s4 =>
           if ok = true then wpAny (model prog w) A (eval elt env) (fun x s5 =>
             wpAny (model prog w) A (call (.builtin "list.append") [acc, x]) (fun _ s6 => ∃ m, m < n ∧ I m s6) (notedBy (model prog w) A env fun e s' => R (.error e) s') s5) (notedBy (model prog w) A env fun e s' => R (.error e) s') s4
           else ∃ m, m < n ∧ I m s4) (notedBy (model prog w) A env fun e s' => R (.error e) s') s3) (notedBy (model prog w) A env fun e s' => R (.error e) s') s2)
         (notedBy (model prog w) A env fun e s' => R (.error e) s') s1) (notedBy (model prog w) A env fun e s' => R (.error e) s') s)
   (n : Nat) (h : I n s) :
   codeAny (model prog w) A (.compLoop (.ListComp elt [⟨target, iter, ifs, 0⟩] scope pos) 0 it acc env) R s := by
 refine codeAny_loop rfl I (fun n s hI => ?_) n h
 show wpAny _ A ((compTurn (.ListComp elt [⟨target, iter, ifs, 0⟩] scope pos) 0 it acc env).onRaise (fun x => do noteFrame x env; theTreesLotGoes x)) _ _ s
 refine wpAny_noted ?_
 rw [compTurn_list]
 refine wpAny_bind (wpAny_standAt (wpAny_bind (wpAny_mono (turn n s hI) (fun r s1 h1 => ?_) fun _ _ h' => h')))
 cases r with
 | none => exact wpAny_pure h1
 | some v =>
   refine wpAny_bind (wpAny_mono h1 (fun _ s2 h2 => ?_) fun _ _ h' => h')
   refine wpAny_bind (wpAny_mono h2 (fun _ s3 h3 => wpAny_bind (wpAny_mono h3 (fun ok s4 h4 => ?_) fun _ _ h' => h')) fun _ _ h' => h')
   cases ok with
   | false => exact wpAny_pure ⟨rfl, h4⟩
   | true =>
     exact wpAny_bind (wpAny_bind (wpAny_mono h4 (fun x s5 h5 => wpAny_bind (wpAny_mono h5 (fun _ s6 h6 => wpAny_pure (wpAny_pure ⟨rfl, h6⟩)) fun _ _ h' => h')) fun _ _ h' => h'))
end
def cxComp (X : Cx) (scope : Scope) (cl : List (Str × Addr)) (own : List Str) (fr : List (Str × Nat)) (C : Addr) (s2 : Shared) (H2 : Hp) (fp : List Addr) : Cx :=
 { prog := X.prog, w := X.w, K := X.K, mg := X.mg, base := X.base, A := X.A, N := own ++ fr.map (·.1), s₀ := s2, H₀ := H2, env := compEnvC scope cl C X.env, outer := X.stack, stack := X.stack,
   ex := fp, fn := fun _ => false, calm := X.calm, pn := [], xe := fun _ _ => False }
def innerS (own : List Str) (fr : List (Str × Nat)) (σ : St) : St := own.map (fun _ => none) ++ fr.map fun p => (σ[p.2]?).join
def ClOk (env : Env) : List (Str × Addr) → Prop
 | [] => True
 | (n, c) :: r => env.cells.lookup n = some c ∧ ClOk env r
theorem ClOk.get {env : Env} : ∀ {cl : List (Str × Addr)} {x : Str} {c : Addr}, ClOk env cl → cl.lookup x = some c → env.cells.lookup x = some c
 | [], _, _, _, h => by simp at h
 | (n, d) :: r, x, c, ok, h => by
   rw [List.lookup_cons] at h
   cases e : x == n with
   | true =>
     rw [e] at h
     have e' : x = n := by simpa using e
     cases h
     rw [e']
     exact ok.1
   | false =>
     rw [e] at h
     exact ClOk.get ok.2 h
def CellK (sc : Scope) (x : Str) : Prop := sc.names.lookup x = some .cell ∨ sc.names.lookup x = some .free
def FrOk (X : Cx) (scope : Scope) (cl : List (Str × Addr)) : List (Str × Nat) → Prop
 | [] => True
 | (x, j) :: r => (X.N[j]? = some x ∧ CellK X.env.scope x ∧ CellK (relabel scope X.env) x ∧ (cl.lookup x).isSome = true) ∧ FrOk X scope cl r
theorem FrOk.get {X : Cx} {scope : Scope} {cl : List (Str × Addr)} : ∀ {fr : List (Str × Nat)} {i : Nat} {p : Str × Nat}, FrOk X scope cl fr → fr[i]? = some p →
   X.N[p.2]? = some p.1 ∧ CellK X.env.scope p.1 ∧ CellK (relabel scope X.env) p.1 ∧ (cl.lookup p.1).isSome = true
 | [], _, _, _, h => by simp at h
 | (x, j) :: r, 0, p, ok, h => by
   simp at h
   subst h
   exact ok.1
 | (x, j) :: r, i + 1, p, ok, h => FrOk.get (i := i) ok.2 (by simpa using h)
structure CompSc (X : Cx) (scope : Scope) (cl : List (Str × Addr)) (own : List Str) (fr : List (Str × Nat)) : Prop where
 clos : closureFor scope X.env = pure cl
 cells : ClOk X.env cl
 frs : FrOk X scope cl fr
 kind : scope.kind = .function
 nocell : ∀ y ∈ scope.names, y.2 ≠ .cell
 names : ∀ y ∈ scope.names, y.2 = .local → scope.names.lookup y.1 = some .local
 has : (scope.names.all fun y => y.2 != .free || (cl.lookup y.1).isSome) = true
theorem lookup_relabel_has {env : Env} {cl : List (Str × Addr)} : ∀ {names : List (Str × NameKind)} {x : Str}, (∀ y ∈ names, y.2 ≠ .cell) → (names.all fun y => y.2 != .free || (cl.lookup y.1).isSome) = true →
   ((names.map fun (n, k) => if (k == NameKind.free && env.scope.kind == .function && env.kindOf n == some .cell) then (n, NameKind.cell) else (n, k)).lookup x = some .cell ∨
    (names.map fun (n, k) => if (k == NameKind.free && env.scope.kind == .function && env.kindOf n == some .cell) then (n, NameKind.cell) else (n, k)).lookup x = some .free) → ∃ c, cl.lookup x = some c
 | [], _, _, _, h => by rcases h with h | h <;> simp at h
 | (n, k) :: r, x, nc, ha, h => by
   rw [List.all_cons, Bool.and_eq_true] at ha
   have ih := @lookup_relabel_has env cl r x (fun y hy => nc y (List.mem_cons_of_mem _ hy)) ha.2
   have nk : k ≠ .cell := nc (n, k) List.mem_cons_self
   have hk := ha.1
   cases hx : x == n with
   | true =>
     have ex : x = n := by simpa using hx
     subst ex
     by_cases hf : k = .free
     · subst hf
       have z : (cl.lookup x).isSome = true := by simpa using hk
       exact Option.isSome_iff_exists.mp z
     · exfalso
       have hb : (k == NameKind.free) = false := by simpa using hf
       rcases h with h | h
       · rw [List.map_cons] at h
         simp only [hb, Bool.false_and, Bool.false_eq_true, if_false, List.lookup_cons, beq_self_eq_true] at h
         exact nk (Option.some.inj h)
       · rw [List.map_cons] at h
         simp only [hb, Bool.false_and, Bool.false_eq_true, if_false, List.lookup_cons, beq_self_eq_true] at h
         exact hf (Option.some.inj h)
   | false =>
     refine ih ?_
     rcases h with h | h
     · left
       rw [List.map_cons] at h
       by_cases hc : (k == NameKind.free && env.scope.kind == .function && env.kindOf n == some .cell) = true
       · simp only [hc, if_true, List.lookup_cons, hx] at h; exact h
       · simp only [hc, Bool.false_eq_true, if_false, List.lookup_cons, hx] at h; exact h
     · right
       rw [List.map_cons] at h
       by_cases hc : (k == NameKind.free && env.scope.kind == .function && env.kindOf n == some .cell) = true
       · simp only [hc, if_true, List.lookup_cons, hx] at h; exact h
       · simp only [hc, Bool.false_eq_true, if_false, List.lookup_cons, hx] at h; exact h
def PTs (Y : Cx) (ifs : List Expr) (t : TT) : Prop :=
 ∀ (pins : List (Addr × Obj)) (s : Shared) (σ : St) (H : Hp) (Q : Bool → Hp → Prop), Inv Y pins σ H s → t σ H Q →
   wpAny (model Y.prog Y.w) Y.A (forIn ifs true fun c r => if r = true then do let ok ← isTrue c Y.env (eval c Y.env); pure (ForInStep.yield ok) else pure (ForInStep.yield r)) (TP Y pins σ Q) Y.xe s
def tTrue : TT := fun _ H Q => Q true H
theorem pts_nil {Y : Cx} : PTs Y [] tTrue := fun _ _ _ H _ I h => wpAny_tests_nil ⟨H, I, h⟩
def tComp (own : List Str) (fr : List (Str × Nat)) (wi : TI) (g : TG) (tc : TT) (te : TE) (fin : List V → Hp → Prop) : St → Hp → Prop := fun σ H => wi σ H fun J H1 =>
 ∃ W : Nat → Nat → List V → St → Hp → Prop, (∃ m, W 0 m [] (innerS own fr σ) H1) ∧ ∀ i m ys σ' H', W i m ys σ' H' →
   (J.stop i H' ∧ ys.length ≤ sizeLine ∧ fin ys H') ∨
   (J.go i H' ∧ ∃ N : List V → St → Hp → Prop, (∀ ys2 σ2 H2, N ys2 σ2 H2 → ys2.length ≤ sizeLine ∧ ∃ m', m' < m ∧ W (i + 1) m' ys2 σ2 H2) ∧
     ∀ x H2, J.yld i H' x H2 → g x σ' H2 fun σ3 H3 => tc σ3 H3 fun b H4 => if b = true then te σ3 H4 fun y H5 => N (ys ++ [y]) σ3 H5 else N ys σ3 H4)
structure Off (X : Cx) (pins : List (Addr × Obj)) (H : Hp) (C : Addr) : Prop where
 none : H C = none
 loc : C ≠ X.env.locals
 above : X.s₀.heap.objs.size ≤ C
 cell : ∀ x c, X.env.cells.lookup x = some c → c ≠ C
 pin : ∀ p ∈ X.pn ++ pins, p.1 ≠ C
section
variable {X : Cx} {tg elt iter : Expr} {ifs : List Expr} {scope : Scope} {cl : List (Str × Addr)} {own : List Str} {fr : List (Str × Nat)} {wi : TI} {g : TG} {tc : TT} {te : TE} {pos : Pos}
theorem comp_core (hc : X.calm = true) (S : CompSc X scope cl own fr) (hi : PI X tg iter wi) (hg : ∀ C s2 H2 fp, PG (cxComp X scope cl own fr C s2 H2 fp) tg g)
   (ht : ∀ C s2 H2 fp, PTs (cxComp X scope cl own fr C s2 H2 fp) ifs tc) (he : ∀ C s2 H2 fp, PE (cxComp X scope cl own fr C s2 H2 fp) elt te)
   {pins : List (Addr × Obj)} {s : Shared} {σ : St} {H : Hp} {fin : List V → Hp → Prop} (I : Inv X pins σ H s) (h : tComp own fr wi g tc te fin σ H)
   {RR : Value → Addr → Result → Shared → Prop}
   (hR : ∀ (D C : Addr) (s4 : Shared) (H3 : Hp) (ys : List V) (m : Str → Option Value), H3 D = none → Inv X pins σ (upd H3 D (.lst ys)) s4 → s4.heap.Ns C m → Off X pins (upd H3 D (.lst ys)) C → fin ys H3 → RR (.ref D) C (.ok .next) s4) :
   wpAny (model X.prog X.w) X.A (eval iter X.env) (fun x s1 => wpAny (model X.prog X.w) X.A (pyIter x) (fun itv s2 => wpAny (model X.prog X.w) X.A (newList []) (fun acc s3 =>
     wpAny (model X.prog X.w) X.A (newFunctionEnv scope X.env.globals cl [] X.env.qual none .none (some X.env)) (fun cenv s4 =>
       codeAny (model X.prog X.w) X.A (.compStart (.ListComp elt [⟨tg, iter, ifs, 0⟩] scope pos) 0 itv acc { cenv with scope := relabel scope X.env }) (RR acc cenv.locals) s4) X.xe s3) X.xe s2) X.xe s1) X.xe s := by
 refine thn (hi pins s σ H _ I h) fun v s1 h1 => thn h1 fun itv s2 h2 => ?_
 obtain ⟨it, fp, tn, J, H2, rfl, I2, T, st2, f2, W, ⟨m0, w0⟩, turn⟩ := h2
 refine wpAny_newObj_type (wpAny_newFunctionEnv S.nocell (by intro y hy; simp at hy) (fun h1 hns1 hsb1 => ?_) S.kind)
 dsimp only at hns1 hsb1 ⊢
 generalize hHP : s2.heap.push { cls := .type "list", dict := none, data := .seq ([] : List Value).toArray } = HP at hns1 hsb1 ⊢
 have hC : HP.objs.size = s2.heap.objs.size + 1 := by rw [← hHP, Heap.size_push]
 have hDC : s2.heap.objs.size ≠ HP.objs.size := by rw [hC]; exact Nat.ne_of_lt (Nat.lt_succ_self _)
 have below : ∀ b, b < s2.heap.objs.size → b ≠ HP.objs.size ∧ b ≠ s2.heap.objs.size := fun b hb => ⟨by rw [hC]; exact Nat.ne_of_lt (Nat.lt_succ_of_lt hb), Nat.ne_of_lt hb⟩
 have old : ∀ b o, s2.heap.get? b = some o → h1.get? b = some o := fun b o e => hsb1.extBut b o (below b (Heap.lt_size e)).1 (Heap.get?_push_of_some _ (hHP ▸ Heap.get?_push_of_some _ e))
 have hacc : h1.get? s2.heap.objs.size = some (lstO []) := hsb1.extBut _ _ hDC (Heap.get?_push_of_some _ (hHP ▸ Heap.get?_push_size _ rfl))
 have hfpo : ∀ b ∈ fp, b < s2.heap.objs.size := fun b hb => by obtain ⟨o, e, _⟩ := T.obj 0 _ st2 b hb; exact Heap.lt_size e
 have hcells : ∀ x c, cl.lookup x = some c → X.env.cells.lookup x = some c := fun x c e => S.cells.get e
 have hcD : ∀ x c, X.env.cells.lookup x = some c → c < s2.heap.objs.size := fun x c e => by obtain ⟨v, q⟩ := I2.cell x c e; exact q.lt
 have st1 : tn 0 h1 := T.keep _ _ _ st2 fun b _ o e => old b o e
 have hDfree : H2 s2.heap.objs.size = none := I2.hok.fresh (Nat.le_refl _)
 have hCfree : H2 HP.objs.size = none := I2.hok.fresh (by rw [hC]; exact Nat.le_succ _)
 have nostk : ∀ b, s2.heap.objs.size ≤ b → b ∉ L2.frs X.stack := fun b hb hm => by
   rcases List.mem_cons.mp (I2.stkSub b hm) with e | e
   · exact absurd I2.lt (by rw [← e]; exact Nat.not_lt.mpr hb)
   · exact I2.nofs hb e
 have hDlt : s2.heap.objs.size < h1.objs.size := Heap.lt_size hacc
 -- the block's context
 have YOk : (cxComp X scope cl own fr HP.objs.size s2 H2 fp).Ok := by
   refine ⟨I2.ok.mod, S.kind, I2.ok.glob, I2.ok.blt, ?_, fun x y c e1 e2 => I2.ok.inj x y c (hcells _ _ e1) (hcells _ _ e2), fun x hx => ?_, fun x c hf => ?_, I2.ok.hd, I2.ok.frames, .inl rfl, fun b hb => ⟨?_, fun x c e => ?_⟩,
     I2.bs, Nat.le_trans I2.ok.bsz I2.sz, fun b o e hb => ?_, fun b hb hm => ?_, I2.stack, I2.stkFree⟩
   · show s2.heap.objs.size ≤ HP.objs.size
     rw [hC]; exact Nat.le_succ _
   · exact lookup_relabel_has (env := X.env) S.nocell S.has hx
   · cases hf
   · exact (below b (hfpo b hb)).1
   · exact (f2 b hb).2.2.2.2.1 x c (hcells _ _ e)
   · rcases (f2 b hb).2.2.2.1 with z | z
     · exact I2.ok.noex b o e z
     · exact absurd (Heap.lt_size (I2.ok.bs b o e).1) (Nat.not_lt.mpr z)
   · rcases List.mem_cons.mp (I2.stkSub b hm) with e | e
     · exact (f2 b hb).2.1 e
     · exact (f2 b hb).2.2.1 e
 have hpinD : ∀ {h' : Heap} {its : List Value} {H' : Hp}, h'.get? s2.heap.objs.size = some (lstO its) → H' s2.heap.objs.size = none → ∀ p ∈ ([(s2.heap.objs.size, lstO its)] : List (Addr × Obj)),
     h'.get? p.1 = some p.2 ∧ H' p.1 = none ∧ p.1 ≠ HP.objs.size ∧ p.1 ∉ L2.frs X.stack ∧ ∀ v, p.2.data ≠ .cell v := fun {h' its H'} e n p hp => by
   have e1 : p = (s2.heap.objs.size, lstO its) := by simpa using hp
   subst e1
   exact ⟨e, n, hDC, nostk _ (Nat.le_refl _), fun v z => by cases z⟩
 have IY : Inv (cxComp X scope cl own fr HP.objs.size s2 H2 fp) [(s2.heap.objs.size, lstO [])] (innerS own fr σ) H2 { s2 with heap := h1, toks := s2.toks + ([] : List (Str × Value)).length } := by
   refine ⟨YOk, rfl, I2.bare, Un.kept old, ⟨_, hns1, fun i x v e1 e2 e3 => ?_⟩, fun x c e => ?_, hCfree, fun x c e => I2.freeC x c (hcells _ _ e), hpinD hacc hDfree, I2.hok.kept old, ?_⟩
   · have e1' : (own ++ fr.map (·.1))[i]? = some x := e1
     have e2' : (own.map (fun _ => (none : Option V)) ++ fr.map fun p => (σ[p.2]?).join)[i]? = some (some v) := e2
     by_cases hi' : i < own.length
     · rw [List.getElem?_append_left (by simpa using hi'), List.getElem?_map] at e2'
       rw [List.getElem?_eq_getElem hi'] at e2'
       cases e2'
     · rw [List.getElem?_append_right (by simpa using hi'), List.getElem?_map] at e2'
       rw [List.getElem?_append_right (Nat.not_lt.mp hi'), List.getElem?_map] at e1'
       rw [List.length_map] at e2'
       cases ef : fr[i - own.length]? with
       | none => rw [ef] at e1'; cases e1'
       | some p =>
         rw [ef] at e1' e2'
         have ex : p.1 = x := Option.some.inj e1'
         have ev : (σ[p.2]?).join = some v := Option.some.inj e2'
         obtain ⟨hN, hk, hk2, hs⟩ := S.frs.get ef
         have eσ : σ[p.2]? = some (some v) := by
           cases q : σ[p.2]? with
           | none => rw [q] at ev; cases ev
           | some o => rw [q] at ev; exact congrArg some ev
         obtain ⟨m, hn, hl⟩ := I2.loc
         obtain ⟨u, r, l⟩ := hl p.2 p.1 v hN eσ (by rcases hk with k | k; exact .inr (.inl k); exact .inr (.inr k))
         subst ex
         obtain ⟨c, ec⟩ := Option.isSome_iff_exists.mp hs
         refine ⟨u, r, .inr ⟨hk2, c, ec, ?_⟩⟩
         rcases l with ⟨hl1, _⟩ | ⟨_, c', ec', z⟩
         · have hl1' : X.env.scope.names.lookup p.1 = some .local := hl1
           rcases hk with z | z
           · rw [z] at hl1'; cases hl1'
           · rw [z] at hl1'; cases hl1'
         · have := hcells _ _ ec
           rw [ec'] at this
           cases this
           exact z.keeps old
   · obtain ⟨v, z⟩ := I2.cell x c (hcells _ _ e)
     exact ⟨v, z.keeps old⟩
   · show (own.map (fun _ => (none : Option V)) ++ fr.map fun p => (σ[p.2]?).join).length = (own ++ fr.map (·.1)).length
     simp
 have stat : ∀ {its : List Value} {H' : Hp}, (∀ b ∈ fp, H' b = none) → ∀ b ∈ fp, FpOk (cxComp X scope cl own fr HP.objs.size s2 H2 fp) [(s2.heap.objs.size, lstO its)] H' b := fun {its H'} hn b hb =>
   ⟨hn b hb, (below b (hfpo b hb)).1, fun hm => by
       rcases List.mem_cons.mp (I2.stkSub b hm) with e | e
       · exact (f2 b hb).2.1 e
       · exact (f2 b hb).2.2.1 e, .inl hb, fun x c e => (f2 b hb).2.2.2.2.1 x c (hcells _ _ e), fun p hp => by
       have e1 : p = (s2.heap.objs.size, lstO its) := by
         have hp' : p ∈ ([] : List (Addr × Obj)) ++ [(s2.heap.objs.size, lstO its)] := hp
         simpa using hp'
       subst e1
       exact (below b (hfpo b hb)).2.symm⟩
 have loop : ∀ s3 : Shared, s3 = { s2 with heap := h1, toks := s2.toks + ([] : List (Str × Value)).length } →
     codeAny (model X.prog X.w) X.A (.compLoop (.ListComp elt [⟨tg, iter, ifs, 0⟩] scope pos) 0 (.ref it) (.ref s2.heap.objs.size) (compEnvC scope cl HP.objs.size X.env)) (RR (.ref s2.heap.objs.size) HP.objs.size) s3 := by
   rintro s3 rfl
   refine compLoop_go (fun n s' => ∃ i ys its σ' H', Inv (cxComp X scope cl own fr HP.objs.size s2 H2 fp) [(s2.heap.objs.size, lstO its)] σ' H' s' ∧ Vals ys its ∧ tn i s'.heap ∧ (∀ b ∈ fp, H' b = none) ∧ W i n ys σ' H') ?_ m0
     ⟨0, [], [], innerS own fr σ, H2, IY, .nil, st1, fun b hb => (f2 b hb).1, w0⟩
   rintro n s3 ⟨i, ys, its, σ3, H3, I3, rv, st3, fr3, w3⟩
   rcases turn i n ys σ3 H3 w3 with ⟨stop, hz, qn⟩ | ⟨go, N, hN, step⟩
   · refine wpAny_mono (T.done (cxComp X scope cl own fr HP.objs.size s2 H2 fp) rfl rfl rfl hc i _ s3 σ3 H3 (fun _ _ => False) I3 (stat fr3) st3 stop) (fun r s4 h4 => ?_) fun _ _ f => f.elim
     obtain ⟨hr, I4⟩ := h4
     subst hr
     obtain ⟨eD, nD, _⟩ := I4.pin (s2.heap.objs.size, lstO its) (by simp [cxComp])
     obtain ⟨m, hn, _⟩ := id I4.loc
     have nC : H3 HP.objs.size = none := I4.free
     have bu := I4.base
     have J4 : Inv X pins σ (upd H3 s2.heap.objs.size (.lst ys)) s4 := by
       refine I2.call' (ch := fp) I4.os ⟨fun b o e n hb hx => bu.keep b o e n hb hx, fun b o e n hb hx => bu.slot b o e n hb hx, fun b o e n hx => ?_, fun b o e hx => bu.there b o e hx, fun b xs e => ?_, fun b o u e => ?_, fun b ps e => ?_⟩ ?_ I4.bare ?_
       · rw [upd_ne (below b (Heap.lt_size e)).2]; exact bu.free b o e n hx
       · have z := bu.tups b xs e
         rw [upd_ne (ne_of_none z nD)]; exact z
       · have z := bu.frzs b o u e
         rw [upd_ne (ne_of_none z nD)]; exact z
       · obtain ⟨more, z⟩ := bu.tbls b ps e
         exact ⟨more, by rw [upd_ne (ne_of_none z nD)]; exact z⟩
       · intro b o e
         by_cases hb : b = s2.heap.objs.size
         · subst hb
           rw [upd_same] at e
           cases e
           exact ⟨hz, its, its.length, rv, eD⟩
         · rw [upd_ne hb] at e
           exact (I4.hok b o e).stay (fun c u _ q => q) (fun c q => by rw [upd_ne (ne_of_none q nD)]; exact q) fun c xs q => by rw [upd_ne (ne_of_none q nD)]; exact q
       · intro b hb
         exact ⟨(f2 b hb).2.2.2.1, (f2 b hb).2.1, (f2 b hb).2.2.2.2.1, (f2 b hb).2.2.2.2.2⟩
     refine hR _ _ s4 H3 ys m nD J4 hn ⟨?_, ?_, ?_, ?_, ?_⟩ qn
     · rw [upd_ne hDC.symm]; exact nC
     · exact Nat.ne_of_gt (Nat.lt_of_lt_of_le I2.lt (by rw [hC]; exact Nat.le_succ _))
     · exact Nat.le_trans I2.sz (by rw [hC]; exact Nat.le_succ _)
     · exact fun x c e => (below c (hcD x c e)).1
     · exact fun p hp => (below p.1 (Heap.lt_size (I2.pin p hp).1)).1
   · refine wpAny_mono (T.item (cxComp X scope cl own fr HP.objs.size s2 H2 fp) rfl rfl rfl hc i _ s3 σ3 H3 (fun _ _ => False) I3 (stat fr3) st3 go) (fun r s4 h4 => ?_) fun _ _ f => f.elim
     obtain ⟨u, hr, h4⟩ := h4
     subst hr
     refine wpAny_mono h4 (fun _ s5 h5 => ?_) fun _ _ f => f.elim
     obtain ⟨x, H5, I5, r5, y5, st5, fr5⟩ := h5
     have I5' := I5.pinned (stat fr5) (T.obj _ _ st5)
     refine wpAny_mono (hg _ _ _ _ _ s5 σ3 H5 x u _ I5' r5 (step x H5 y5)) (fun _ s6 h6 => ?_) fun _ _ f => f.elim
     obtain ⟨σ6, H6, I6, q6⟩ := h6
     refine wpAny_mono (ht _ _ _ _ _ s6 σ6 H6 _ I6 q6) (fun ok s7 h7 => ?_) fun _ _ f => f.elim
     obtain ⟨H7, I7, q7⟩ := h7
     have keepT : ∀ {σ8 : St} {H8 : Hp} {s8 : Shared} {l : List (Addr × Obj)}, Inv (cxComp X scope cl own fr HP.objs.size s2 H2 fp) (l ++ pinsAt fp s5.heap) σ8 H8 s8 → tn (i + 1) s8.heap ∧ ∀ b ∈ fp, H8 b = none := fun {σ8 H8 s8 l} I8 => by
       refine ⟨T.keep _ _ _ st5 fun b hb o e => (I8.pin (b, o) (List.mem_append_right _ (List.mem_append_right _ (mem_pinsAt hb e)))).1, fun b hb => ?_⟩
       obtain ⟨o, e, _⟩ := T.obj _ _ st5 b hb
       exact (I8.pin (b, o) (List.mem_append_right _ (List.mem_append_right _ (mem_pinsAt hb e)))).2.1
     cases ok with
     | false =>
       rw [if_neg Bool.false_ne_true] at q7 ⊢
       obtain ⟨_, m', hm, w7⟩ := hN _ _ _ q7
       exact ⟨m', hm, i + 1, ys, its, σ6, H7, I7.unpinned, rv, (keepT I7).1, (keepT I7).2, w7⟩
     | true =>
       rw [if_pos rfl] at q7 ⊢
       refine wpAny_mono (he _ _ _ _ _ s7 σ6 H7 _ I7 q7) (fun y s8 h8 => ?_) fun _ _ f => f.elim
       obtain ⟨yv, H8, I8, r8, n8⟩ := h8
       obtain ⟨hlt', m', hm, w8⟩ := hN _ _ _ n8
       have hlt : ys.length < sizeLine := by rw [List.length_append] at hlt'; exact hlt'
       obtain ⟨eD, nD, nL, _, _⟩ := I8.pin (s2.heap.objs.size, lstO its) (by simp [cxComp])
       refine append_at (its := its.toArray) (n := its.length) (hsz := by rw [List.size_toArray, ← rv.length]; exact Nat.le_of_lt hlt) eD fun h9 sb9 eD9 => ?_
       have I8p : Inv (cxComp X scope cl own fr HP.objs.size s2 H2 fp) (pinsAt fp s5.heap) σ6 H8 s8 := I8.pins_of fun p hp => I8.pin p (List.mem_append_right _ (List.mem_append_right _ hp))
       have I9p : Inv (cxComp X scope cl own fr HP.objs.size s2 H2 fp) (pinsAt fp s5.heap) σ6 H8 { s8 with heap := h9 } :=
         I8p.turned (t' := s8.toks) (fun b o hb e => (sb9.2 b hb).trans e) nD nL (.inr (Nat.le_refl _)) (fun x c e => (below c (hcD x c (hcells _ _ e))).2) fun p hp => by
           have hp' : p ∈ pinsAt fp s5.heap := by simpa [cxComp] using hp
           exact (below p.1 (hfpo _ (of_pinsAt hp').1)).2
       have eD9' : h9.get? s2.heap.objs.size = some (lstO (its ++ [y])) := eD9.trans (congrArg some (lstO_snoc its y))
       have I9 : Inv (cxComp X scope cl own fr HP.objs.size s2 H2 fp) [(s2.heap.objs.size, lstO (its ++ [y]))] σ6 H8 { s8 with heap := h9 } := I9p.pins_of (hpinD eD9' nD)
       have K9 := keepT (l := []) (by simpa using I9p)
       exact ⟨m', hm, i + 1, ys ++ [yv], its ++ [y], σ6, H8, I9, rv.append (.cons r8 .nil), K9.1, K9.2, w8⟩
 exact codeAny_compStart_list (loop _ rfl) (T.self _ 0 _ _ _ st1 (loop _ rfl))
def tCompE (own : List Str) (fr : List (Str × Nat)) (wi : TI) (g : TG) (tc : TT) (te : TE) : TE := fun σ H Q => tComp own fr wi g tc te (fun ys H3 => ∀ p, H3 p = none → Q (.ref p) (upd H3 p (.lst ys))) σ H
theorem pe_comp (hc : X.calm = true) (S : CompSc X scope cl own fr) (hi : PI X tg iter wi) (hg : ∀ C s2 H2 fp, PG (cxComp X scope cl own fr C s2 H2 fp) tg g)
   (ht : ∀ C s2 H2 fp, PTs (cxComp X scope cl own fr C s2 H2 fp) ifs tc) (he : ∀ C s2 H2 fp, PE (cxComp X scope cl own fr C s2 H2 fp) elt te)
   (hs : ∀ x, foldedSetIterable iter X.env x = pure x := by intro _; rfl) : PE X (.ListComp elt [⟨tg, iter, ifs, 0⟩] scope pos) (tCompE own fr wi g tc te) := by
 intro pins s σ H Q I h
 rw [eval_ListComp]
 refine wpAny_comprehension_free (use := none) rfl hs S.clos S.kind S.names ?_
 refine comp_core hc S hi hg ht he I h fun D C s4 H3 ys m nD J hn off q => ?_
 refine ⟨m, hn, fun h' sb => ⟨.ref D, _, J.turned (t' := s4.toks) (fun b o hb e => (sb.2 b hb).trans e) off.none off.loc (.inr off.above) off.cell off.pin, rfl, q D nD⟩⟩
def tCompS (i : Nat) (own : List Str) (fr : List (Str × Nat)) (wi : TI) (g : TG) (tc : TT) (te : TE) : TS := fun D σ H => tComp own fr wi g tc te (fun ys H3 => ∀ p, H3 p = none → D.nx (σ.set i (some (.ref p))) (upd H3 p (.lst ys))) σ H
theorem ps_setC {i : Nat} {y : Str} {py spos : Pos} (hN : X.N.Nodup) (hi' : X.N[i]? = some y) (hx : X.env.scope.names.lookup y = some .local) (hc : X.calm = true) (S : CompSc X scope cl own fr) (hi : PI X tg iter wi) (hg : ∀ C s2 H2 fp, PG (cxComp X scope cl own fr C s2 H2 fp) tg g)
   (ht : ∀ C s2 H2 fp, PTs (cxComp X scope cl own fr C s2 H2 fp) ifs tc) (he : ∀ C s2 H2 fp, PE (cxComp X scope cl own fr C s2 H2 fp) elt te)
   (hsw : swapsWith (.ListComp elt [⟨tg, iter, ifs, 0⟩] scope pos) (some (.Name y py)) spos.line X.env = pure true := by rfl)
   (hs : ∀ x, foldedSetIterable iter X.env x = pure x := by intro _; rfl) : PS X (.Assign [.Name y py] (.ListComp elt [⟨tg, iter, ifs, 0⟩] scope pos) spos) (tCompS i own fr wi g tc te) := by
 intro pins s σ H D I h
 rw [exec_Assign_Name_used _ _ _ _ hsw]
 refine wpAny_bind (wpAny_standAt (wpAny_bind ?_))
 show wpAny _ X.A (do let _ ← comprehension (.ListComp elt [⟨tg, iter, ifs, 0⟩] scope pos) scope X.env _ (newList []) false (eval iter X.env) (some (assign (.Name y py) X.env))) _ _ s
 refine wpAny_bind (wpAny_mono (wpAny_comprehension_free (use := some (assign (.Name y py) X.env)) (Q := fun _ s' => SP X pins D .next s') rfl hs S.clos S.kind S.names ?_) (fun _ s' hq => wpAny_pure (wpAny_pure hq)) fun _ _ e => e)
 refine comp_core hc S hi hg ht he I h fun Da C s4 H3 ys m nD J hn off q => ?_
 show wpAny _ X.A (assign (.Name y py) X.env (.ref Da)) _ _ _
 refine wpAny_assign_Name (store_ok2 J hN hi' (.inl hx) (v := .ref Da) rfl (fun s5 I5 hsb => ?_) (.inr hx))
 obtain ⟨a, sb, ha⟩ := hsb
 have nCa : C ≠ a := by
   rcases ha with z | z
   · rw [z]; exact off.loc
   · exact (off.cell _ _ z).symm
 refine ⟨m, hn.sameBut sb nCa, fun h' sb' => ⟨_, _, I5.turned (t' := s5.toks) (fun b o hb e => (sb'.2 b hb).trans e) off.none off.loc (.inr off.above) off.cell off.pin, q Da nD⟩⟩
end
section
variable {K : PySem.W.Frag} {a : Addr} {xs : List V} {own : List Str} {fr : List (Str × Nat)} {g : TG} {tc : TT} {te : TE} {fin : List V → Hp → Prop} {σ : St} {H : Hp}
def CompW (J : It) (g : TG) (tc : TT) (te : TE) (fin : List V → Hp → Prop) (σ0 : St) (H1 : Hp) : Prop :=
 ∃ W : Nat → Nat → List V → St → Hp → Prop, (∃ m, W 0 m [] σ0 H1) ∧ ∀ i m ys σ' H', W i m ys σ' H' →
   (J.stop i H' ∧ ys.length ≤ sizeLine ∧ fin ys H') ∨
   (J.go i H' ∧ ∃ N : List V → St → Hp → Prop, (∀ ys2 σ2 H2, N ys2 σ2 H2 → ys2.length ≤ sizeLine ∧ ∃ m', m' < m ∧ W (i + 1) m' ys2 σ2 H2) ∧
     ∀ x H2, J.yld i H' x H2 → g x σ' H2 fun σ3 H3 => tc σ3 H3 fun b H4 => if b = true then te σ3 H4 fun y H5 => N (ys ++ [y]) σ3 H5 else N ys σ3 H4)
theorem comp_list {σ0 : St} (Pv : Nat → List V → St → Hp → Prop) (h0 : Pv 0 [] σ0 H) (hl : ∀ i ys σ H, i ≤ xs.length → Pv i ys σ H → SqL K H a xs ∧ ys.length ≤ sizeLine)
   (hs : ∀ i x ys σ H, xs[i]? = some x → Pv i ys σ H → g x σ H fun σ3 H3 => tc σ3 H3 fun b H4 => if b = true then te σ3 H4 fun y H5 => Pv (i + 1) (ys ++ [y]) σ3 H5 else Pv (i + 1) ys σ3 H4)
   (hd : ∀ ys σ H, Pv xs.length ys σ H → fin ys H) : CompW (Itl K a) g tc te fin σ0 H := by
 refine ⟨fun i m ys σ H => m = xs.length - i ∧ i ≤ xs.length ∧ Pv i ys σ H, ⟨xs.length, by simp, Nat.zero_le _, h0⟩, ?_⟩
 rintro i m ys σ H ⟨rfl, hi, p⟩
 obtain ⟨q, hz⟩ := hl i ys σ H hi p
 by_cases hlt : i < xs.length
 · refine .inr ⟨⟨xs, xs[i], q, by simp [hlt]⟩, Pv (i + 1), fun ys2 σ2 H2 p' => ⟨(hl (i + 1) ys2 σ2 H2 hlt p').2, xs.length - (i + 1), by omega, rfl, hlt, p'⟩, fun x H2 y => ?_⟩
   obtain ⟨e, y⟩ := y
   subst e
   exact hs i x ys σ _ (y xs q) p
 · have e : i = xs.length := by omega
   subst e
   exact .inl ⟨⟨xs, q, Nat.le_refl _⟩, hz, hd ys σ H p⟩
theorem comp_range {σ0 : St} {lo : Int} {n : Nat} (Pv : Nat → List V → St → Hp → Prop) (h0 : Pv 0 [] σ0 H) (hl : ∀ i ys σ H, i ≤ n → Pv i ys σ H → ys.length ≤ sizeLine)
   (hs : ∀ i ys σ H, i < n → Pv i ys σ H → g (.int (lo + i)) σ H fun σ3 H3 => tc σ3 H3 fun b H4 => if b = true then te σ3 H4 fun y H5 => Pv (i + 1) (ys ++ [y]) σ3 H5 else Pv (i + 1) ys σ3 H4)
   (hd : ∀ ys σ H, Pv n ys σ H → fin ys H) : CompW (Itr lo n) g tc te fin σ0 H := by
 refine ⟨fun i m ys σ H => m = n - i ∧ i ≤ n ∧ Pv i ys σ H, ⟨n, by simp, Nat.zero_le _, h0⟩, ?_⟩
 rintro i m ys σ H ⟨rfl, hi, p⟩
 by_cases hlt : i < n
 · refine .inr ⟨hlt, Pv (i + 1), fun ys2 σ2 H2 p' => ⟨hl (i + 1) ys2 σ2 H2 hlt p', n - (i + 1), by omega, rfl, hlt, p'⟩, fun x H2 y => ?_⟩
   obtain ⟨e, y⟩ := y
   subst e y
   exact hs i ys σ _ hlt p
 · have e : i = n := by omega
   subst e
   exact .inl ⟨Nat.le_refl _, hl _ ys σ H hi p, hd ys σ H p⟩
end
end L3
namespace L3
open PySem PySem.Spec PyProof.Rows L2 PySem.SeqAt
theorem look_new {H : Hp} {p q : Addr} {o u : HO} (hq : H q = some u) (hp : H p = none) : upd H p o q = some u := by
 rw [upd_ne (ne_of_none hq hp)]; exact hq
theorem same_new {H : Hp} {p : Addr} {o : HO} (h : H p = none) : Same H (upd H p o) := fun b u q => look_new q h
theorem SqT_same {K : PySem.W.Frag} {H H' : Hp} {a : Addr} {xs : List V} (e : Same H H') (h : SqT K H a xs) : SqT K H' a xs := by
 rcases h with (h | ⟨o, h⟩) | h
 · exact .inl (.inl (e _ _ h))
 · exact .inl (.inr ⟨o, e _ _ h⟩)
 · exact .inr h
mutual
def Dp (K : PySem.W.Frag) (H : Hp) : PyData → V → Prop
 | .none, v => v = .non
 | .bool b, v => v = .bl b
 | .int i, v => v = .int i
 | .str x, v => v = .str x
 | .list ds, v => ∃ a xs, v = .ref a ∧ SqL K H a xs ∧ DpAll K H ds xs
 | .tuple ds, v => ∃ a xs, v = .ref a ∧ SqT K H a xs ∧ DpAll K H ds xs
 | .dict _, _ => False
def DpAll (K : PySem.W.Frag) (H : Hp) : List PyData → List V → Prop
 | [], vs => vs = []
 | d :: ds, vs => ∃ v r, vs = v :: r ∧ Dp K H d v ∧ DpAll K H ds r
end
theorem dpAll_ints {K : PySem.W.Frag} {H : Hp} : ∀ ns : List Int, DpAll K H (ns.map PyData.int) (ns.map V.int)
 | [] => by rw [List.map_nil, List.map_nil, DpAll]
 | n :: ns => by
   rw [List.map_cons, List.map_cons, DpAll]
   exact ⟨_, _, rfl, by rw [Dp], dpAll_ints ns⟩
theorem dp_str {K : PySem.W.Frag} {H : Hp} (x : Str) : Dp K H (.str x) (.str x) := by rw [Dp]
theorem dp_lst {K : PySem.W.Frag} {H : Hp} {a : Addr} {xs : List V} {ds : List PyData} (h : SqL K H a xs) (q : DpAll K H ds xs) : Dp K H (.list ds) (.ref a) := by
 rw [Dp]; exact ⟨a, _, rfl, h, q⟩
theorem dp_tup {K : PySem.W.Frag} {H : Hp} {a : Addr} {xs : List V} {ds : List PyData} (h : SqT K H a xs) (q : DpAll K H ds xs) : Dp K H (.tuple ds) (.ref a) := by
 rw [Dp]; exact ⟨a, _, rfl, h, q⟩
theorem dpAll_nil {K : PySem.W.Frag} {H : Hp} : DpAll K H [] [] := by rw [DpAll]
theorem dpAll_cons {K : PySem.W.Frag} {H : Hp} {d : PyData} {ds : List PyData} {v : V} {r : List V} (h : Dp K H d v) (q : DpAll K H ds r) : DpAll K H (d :: ds) (v :: r) := by
 rw [DpAll]; exact ⟨_, _, rfl, h, q⟩
theorem canLay_ints : ∀ ns : List Int, PyData.canLayAll0 (ns.map PyData.int) = true
 | [] => rfl
 | n :: ns => by
   rw [List.map_cons, PyData.canLayAll0, canLay_ints ns]; rfl
theorem depth_ints : ∀ ns : List Int, PyData.depthAll (ns.map PyData.int) = 0
 | [] => rfl
 | n :: ns => by
   rw [List.map_cons, PyData.depthAll, depth_ints ns]; rfl
section
variable {X : Cx} {pins : List (Addr × Obj)} {σ : St} {H : Hp} {s : Shared}
mutual
theorem dp_reads (I : Inv X pins σ H s) : ∀ (d : PyData) (v : V) (u : Value), Dp X.K H d v → RelV v u → ∃ as, Reads s.heap u d as
 | .none, v, u, h, r => by
   rw [Dp] at h; subst h; cases (show u = Value.none from r); exact ⟨_, .none⟩
 | .bool b, v, u, h, r => by
   rw [Dp] at h; subst h; cases (show u = Value.bool b from r); exact ⟨_, .bool b⟩
 | .int i, v, u, h, r => by
   rw [Dp] at h; subst h; obtain ⟨t, e⟩ := (show ∃ t, u = Value.int i t from r); subst e; exact ⟨_, .int i t⟩
 | .str x, v, u, h, r => by
   rw [Dp] at h; subst h; obtain ⟨t, e⟩ := (show ∃ t, u = Value.str x t from r); subst e; exact ⟨_, .str x t⟩
 | .list ds, v, u, h, r => by
   rw [Dp] at h
   obtain ⟨a, xs, e, hq, ha⟩ := h
   subst e
   cases (show u = Value.ref a from r)
   obtain ⟨its, rv, pl, hz⟩ := I.list hq
   obtain ⟨o, ho, hc, n, hd⟩ := pl.isList
   obtain ⟨as, z⟩ := dpAll_reads I ds xs its ha rv
   exact ⟨_, .list ho hc hd (by simpa using z)⟩
 | .tuple ds, v, u, h, r => by
   rw [Dp] at h
   obtain ⟨a, xs, e, hq, ha⟩ := h
   subst e
   cases (show u = Value.ref a from r)
   obtain ⟨its, rv, pl, hz⟩ := I.tuple hq
   obtain ⟨o, ho, hc, n, hd⟩ := pl
   obtain ⟨as, z⟩ := dpAll_reads I ds xs its ha rv
   exact ⟨_, .tuple ho hc hd (by simpa using z)⟩
 | .dict _, v, u, h, r => by rw [Dp] at h; exact h.elim
theorem dpAll_reads (I : Inv X pins σ H s) : ∀ (ds : List PyData) (vs : List V) (us : List Value), DpAll X.K H ds vs → Vals vs us → ∃ as, ReadsAll s.heap us ds as
 | [], vs, us, h, r => by
   rw [DpAll] at h; subst h; cases r; exact ⟨_, .nil⟩
 | d :: ds, vs, us, h, r => by
   rw [DpAll] at h
   obtain ⟨v, rr, e, h1, h2⟩ := h
   subst e
   cases r with
   | cons r1 r2 =>
     obtain ⟨as, z1⟩ := dp_reads I d _ _ h1 r1
     obtain ⟨bs, z2⟩ := dpAll_reads I ds _ _ h2 r2
     exact ⟨_, .cons z1 z2⟩
end
end
def rEqD (K : PySem.W.Frag) : R2 := fun x y H Q => ∃ dx dy, Dp K H dx x ∧ Dp K H dy y ∧ shaped dx = true ∧ shaped dy = true ∧ Q (.bl (PyData.eqv dx dy)) H
def rNeD (K : PySem.W.Frag) : R2 := fun x y H Q => ∃ dx dy, Dp K H dx x ∧ Dp K H dy y ∧ shaped dx = true ∧ shaped dy = true ∧ Q (.bl (!PyData.eqv dx dy)) H
def rEqA (K : PySem.W.Frag) : R2 := fun x y H Q => rEq x y H Q ∨ rEqD K x y H Q
def rNeA (K : PySem.W.Frag) : R2 := fun x y H Q => rNe x y H Q ∨ rNeD K x y H Q
section
variable {X : Cx}
theorem op_eqD (hu : X.A.units + 64 < cLine) : OpR X (compareOp .Eq) (rEqD X.K) := by
 intro pins s σ H x y v u Q I rx ry h
 obtain ⟨dx, dy, hx, hy, sx, sy, q⟩ := h
 obtain ⟨as, ra⟩ := dp_reads I dx x v hx rx
 obtain ⟨bs, rb⟩ := dp_reads I dy y u hy ry
 exact eq_dataH ra rb sx sy hu ⟨.bl _, H, I, rfl, q⟩
theorem op_neD (hu : X.A.units + 64 < cLine) : OpR X (compareOp .NotEq) (rNeD X.K) := by
 intro pins s σ H x y v u Q I rx ry h
 obtain ⟨dx, dy, hx, hy, sx, sy, q⟩ := h
 obtain ⟨as, ra⟩ := dp_reads I dx x v hx rx
 obtain ⟨bs, rb⟩ := dp_reads I dy y u hy ry
 exact ne_dataH ra rb sx sy hu ⟨.bl _, H, I, rfl, q⟩
theorem op_eqA (hu : X.A.units + 64 < cLine) : OpR X (compareOp .Eq) (rEqA X.K) := op_eq.or (op_eqD hu)
theorem op_neA (hu : X.A.units + 64 < cLine) : OpR X (compareOp .NotEq) (rNeA X.K) := op_ne.or (op_neD hu)
end
theorem canLay_of (d : PyData) (h : shaped d = true) : d.canLay0 = true := (Bool.and_eq_true_iff.mp h).1
theorem r_eqS {K : PySem.W.Frag} {x y : V} {H : Hp} {Q : VK} (h : scal x y = true) (q : Q (.bl (decide (x = y))) H) : rEqA K x y H Q := .inl ⟨h, q⟩
theorem r_neS {K : PySem.W.Frag} {x y : V} {H : Hp} {Q : VK} (h : scal x y = true) (q : Q (.bl (!decide (x = y))) H) : rNeA K x y H Q := .inl ⟨h, q⟩
theorem r_eqT {K : PySem.W.Frag} {x y : V} {H : Hp} {Q : VK} (d : PyData) (hx : Dp K H d x) (hy : Dp K H d y) (hs : shaped d = true) (q : Q (.bl true) H) : rEqA K x y H Q :=
 .inr ⟨d, d, hx, hy, hs, hs, by rw [eqv_refl d (canLay_of d hs)]; exact q⟩
theorem r_neT {K : PySem.W.Frag} {x y : V} {H : Hp} {Q : VK} (d : PyData) (hx : Dp K H d x) (hy : Dp K H d y) (hs : shaped d = true) (q : Q (.bl false) H) : rNeA K x y H Q :=
 .inr ⟨d, d, hx, hy, hs, hs, by rw [eqv_refl d (canLay_of d hs)]; exact q⟩
def clsOf : V → Value
 | .ty n => .type n
 | .ref a => .ref a
 | _ => .none
theorem clsOf_eq {c : V} {u : Value} (r : RelV c u) (h : clsOf c ≠ .none) : u = clsOf c := by
 cases c <;> first | exact r | exact (h rfl).elim
def rIsi (K : PySem.W.Frag) : List V → Hp → VK → Prop := fun xs H Q => ∃ x c t b, xs = [x, c] ∧ clsOf c ≠ .none ∧ TyOf K H x t ∧ PySem.W.kitOne K t (clsOf c) = some b ∧ Q (.bl b) H
theorem call_isi {X : Cx} : CallR X (.builtin "isinstance") (rIsi X.K) := by
 intro pins s σ H xs us Q I r h
 obtain ⟨x, c, t, b, rfl, hc, ty, e, q⟩ := h
 obtain ⟨u, w', rfl, rx, rc⟩ := vals2 r
 cases clsOf_eq rc hc
 exact isinst_ok I rx ty e fun tk => ⟨.bl b, H, I.tok _, rfl, q⟩
theorem r_isi {K : PySem.W.Frag} {x c : V} {H : Hp} {Q : VK} {t : Value} {b : Bool} (hc : clsOf c ≠ .none) (ty : TyOf K H x t) (e : PySem.W.kitOne K t (clsOf c) = some b) (q : Q (.bl b) H) : rIsi K [x, c] H Q := ⟨x, c, t, b, rfl, hc, ty, e, q⟩
def rAll (K : PySem.W.Frag) : List V → Hp → VK → Prop := fun xs H Q => ∃ (p : Addr) (bs : List Bool), xs = [.ref p] ∧ SqL K H p (bs.map V.bl) ∧ Q (.bl (bs.all id)) H
theorem all_range (bs : List Bool) : (List.range bs.length).all (fun i => bs.getD i false) = bs.all id := by
 induction bs with
 | nil => rfl
 | cons b r ih =>
   rw [List.length_cons, List.range_succ_eq_map, List.all_cons, List.all_cons, List.all_map]
   rw [← ih]
   rfl
theorem call_all {X : Cx} (hc : X.calm = true) : CallR X (.builtin "all") (rAll X.K) := by
 intro pins s σ H xs us Q I r h
 obtain ⟨p, bs, rfl, hq, q⟩ := h
 obtain ⟨u, rfl, rx⟩ := vals1 r
 cases rx
 obtain ⟨its, rv, pl, hz⟩ := I.list hq
 have hlen := rv.length
 rw [List.length_map] at hlen
 have hlt : p < s.heap.objs.size := by obtain ⟨o, e, _⟩ := pl.isList; exact Heap.lt_size e
 refine call_all_walk (wpAny_pyIter_list pl.isList ?_)
 refine ⟨s.heap.objs.size, _, _, _, _, _, fun i => bs.getD i false, rfl, Walks.list (by exact I.ok.hd hc) s.heap.objs.size p (Nat.ne_of_lt hlt) its.toArray, ⟨⟨_, Heap.get?_push_size _ rfl, rfl, rfl⟩, pl.isList.push _⟩, ?_, ?_⟩
 · intro i v s' Q' E' hP hQ'
   have hP' : its[i]? = some v := by simpa using hP
   have hi : i < its.length := (List.getElem?_eq_some_iff.mp hP').1
   have hb : (bs.map V.bl)[i]? = some (V.bl (bs.getD i false)) := by
     rw [List.getElem?_map, List.getElem?_eq_getElem (by omega)]
     simp [List.getD, List.getElem?_eq_getElem (show i < bs.length by omega)]
   obtain ⟨u', hu', ru'⟩ := rv.get hb
   rw [hP'] at hu'
   cases hu'
   cases (show v = Value.bool _ from ru')
   exact wpAny_truthy_bool hQ'
 · intro h' tk kk
   have e : (List.range its.toArray.size).all (fun i => bs.getD i false) = bs.all id := by
     rw [List.size_toArray, ← hlen]; exact all_range bs
   rw [e]
   refine ⟨.bl _, H, ?_, rfl, q⟩
   have I1 : Inv X pins σ H { s with heap := s.heap.push { cls := .type "list_iterator", data := .fields #[.ref p, .int 0 0] } } := I.kept (t' := s.toks) fun b o e => Heap.get?_push_of_some _ e
   have f := I.fpOk (H' := H) (Nat.le_refl _) I.fresh
   exact I1.turned (it := s.heap.objs.size) (h' := h') (t' := tk) (fun b o hb e => kk b o (by simpa using hb) e) f.1 f.2.1 f.2.2.2.1 f.2.2.2.2.1 f.2.2.2.2.2
theorem bool_index : typeLookup (.type "bool") "__index__" = pure (some (.builtin "int.__index__")) := by rw [typeLookup_type, builtinLookup_eq_fast]; kernel_rfl
theorem listSubscript_bool {M : Model} {A : Around} {E : Value → Shared → Prop} {s : Shared} {b : Bool} {Q : Option Int → Shared → Prop} (h : Q (some (if b then 1 else 0)) s) :
   wpAny M A (Builtin.List.listSubscript? (.bool b)) Q E s := by
 unfold Builtin.List.listSubscript?
 refine wpAny_bind (wpAny_specialOf (T := "bool") (show s.TypeIs (.bool b) "bool" from rfl) bool_index ?_)
 show wpAny M A (asIndex (.bool b) >>= _) Q E s
 refine wpAny_bind (wpAny_of_eq (a := if b then 1 else 0) rfl ?_)
 show wpAny M A (if (!Builtin.List.listFitsIndex (if b then 1 else 0)) = true then _ else _) Q E s
 rw [if_neg (by cases b <;> decide)]
 exact wpAny_pure h
theorem getItem_list_bool {prog : Program} {w : World} {A : Around} {E : Value → Shared → Prop} {s : Shared} {l : Addr} {items : Array Value} {b : Bool} {x : Value} {Q : Value → Shared → Prop} (hl : s.heap.IsList l items)
   (hx : items[if b then 1 else 0]? = some x) (h : Q x s) : wpAny (model prog w) A (getItem (.ref l) (.bool b)) Q E s := by
 obtain ⟨o, ho, hc, ne, hd⟩ := id hl
 unfold getItem
 try with_reducible refine wpAny_holding ?_
 first | refine wpAny_bind (wpAny_pure ?_) | skip
 refine wpAny_bind (wpAny_sequenceKey hl.typeIs (by decide) ?_)
 refine wpAny_bind (wpAny_callSpecial?_slot (name := Str.ofString "__getitem__") hl.typeIs slot_list_getitem
   (wpAny_call_entry slot_list_getitem hl.typeIs entry_list_getitem ?_ (args_list_getitem _ _)))
 show wpAny _ _ (Builtin.List.listSubscript? (.bool b) >>= _) _ _ s
 refine wpAny_bind (listSubscript_bool ?_)
 cases b with
 | true =>
   have hx' : items[1]? = some x := hx
   show wpAny _ _ ((seqItemAt l 1 >>= fun r => pure (r.map (1, ·))) >>= _) _ _ s
   refine wpAny_bind (wpAny_bind (wpAny_seqItemAt ho hd (wpAny_pure ?_)))
   rw [hx']
   first
     | exact wpAny_bind (wpAny_pure (wpAny_pure ⟨x, rfl, wpAny_pure h⟩))
     | exact wpAny_pure ⟨x, rfl, wpAny_pure h⟩
 | false =>
   have hx' : items[0]? = some x := hx
   show wpAny _ _ ((seqItemAt l 0 >>= fun r => pure (r.map (0, ·))) >>= _) _ _ s
   refine wpAny_bind (wpAny_bind (wpAny_seqItemAt ho hd (wpAny_pure ?_)))
   rw [hx']
   first
     | exact wpAny_bind (wpAny_pure (wpAny_pure ⟨x, rfl, wpAny_pure h⟩))
     | exact wpAny_pure ⟨x, rfl, wpAny_pure h⟩
def rIxB (K : PySem.W.Frag) : R2 := fun x y H Q => ∃ p xs b v, x = .ref p ∧ y = .bl b ∧ SqL K H p xs ∧ xs[if b then 1 else 0]? = some v ∧ Q v H
theorem ix_bool {X : Cx} : IxR X (rIxB X.K) := by
 intro value slice pins s σ H x y v u Q I rx ry h hs
 obtain ⟨p, xs, b, z, rfl, rfl, hq, he, q⟩ := h
 cases rx
 cases ry
 obtain ⟨its, r, pl, hz⟩ := I.list hq
 obtain ⟨w, ew, rw'⟩ := r.get he
 exact subscriptTail_builtinR (x := w) pl.isList.typeIs slot_list_getitem.lookup
   (getItem_list_bool (Q := fun r s' => r = w ∧ EP X pins σ Q r s') pl.isList (by simpa using ew) ⟨rfl, z, H, I, rw', q⟩) hs
def rIxA (K : PySem.W.Frag) : R2 := fun x y H Q => rIx K x y H Q ∨ rIxB K x y H Q
theorem ix_any {X : Cx} : IxR X (rIxA X.K) := ix_seq.or ix_bool
theorem r_ixL {K : PySem.W.Frag} {p : Addr} {xs : List V} {i : Int} {v : V} {H : Hp} {Q : VK} (h : SqL K H p xs) (e : atI xs i = some v) (q : Q v H) : rIxA K (.ref p) (.int i) H Q := .inl (.inl ⟨p, xs, i, v, rfl, rfl, h, e, q⟩)
theorem r_ixT {K : PySem.W.Frag} {p : Addr} {xs : List V} {i : Int} {v : V} {H : Hp} {Q : VK} (h : SqT K H p xs) (e : atI xs i = some v) (q : Q v H) : rIxA K (.ref p) (.int i) H Q := .inl (.inr (.inl ⟨p, xs, i, v, rfl, rfl, h, e, q⟩))
def rStr : R2 := fun x y H Q => ∃ i j, x = .str i ∧ y = .str j ∧ i.length + j.length ≤ sizeLine ∧ Q (.str (i ++ j)) H
def rPlus (K : PySem.W.Frag) : R2 := fun x y H Q => rI0 (fun i j => .int (i + j)) x y H Q ∨ rCat x y H Q ∨ rCatT K x y H Q ∨ rStr x y H Q
theorem op_plus {X : Cx} : OpR X (binaryOp .Add) (rPlus X.K) := op_add.or (op_cat.or (op_catT.or op_add_str))
theorem r_plusI {K : PySem.W.Frag} {i j : Int} {H : Hp} {Q : VK} (q : Q (.int (i + j)) H) : rPlus K (.int i) (.int j) H Q := .inl ⟨i, j, rfl, rfl, q⟩
theorem r_plusL {K : PySem.W.Frag} {a b : Addr} {xs ys : List V} {H : Hp} {Q : VK} (ha : H a = some (.lst xs)) (hb : H b = some (.lst ys)) (hz : xs.length + ys.length ≤ sizeLine) (q : ∀ p, H p = none → Q (.ref p) (upd H p (.lst (xs ++ ys)))) :
   rPlus K (.ref a) (.ref b) H Q := .inr (.inl ⟨a, b, xs, ys, rfl, rfl, ha, hb, hz, q⟩)
def rTimes : R2 := fun x y H Q => rI CMul (fun i j => .int (i * j)) x y H Q ∨ rRep x y H Q
theorem op_times {X : Cx} : OpR X (binaryOp .Mult) rTimes := op_mul.or op_rep
theorem r_timesI {i j : Int} {H : Hp} {Q : VK} (h : CMul i j) (q : Q (.int (i * j)) H) : rTimes (.int i) (.int j) H Q := .inl ⟨i, j, rfl, rfl, h, q⟩
def rSlA (K : PySem.W.Frag) : V → Option Int → Option Int → Hp → VK → Prop := fun x lo hi H Q => rSlL K x lo hi H Q ∨ rSlT K x lo hi H Q
theorem sl_any {X : Cx} : SlR X (rSlA X.K) := sl_list.or sl_tup
structure FnE (P : Program) (w : World) (K : PySem.W.Frag) (mg : Str → Option Value) (base : Heap) (CX : CXT) (k : Nat) (x : Str) (sp : Sp) : Prop where
 ex : ∃ (f : Addr) (fd : FuncData) (ps : List Str), FnOk P w K mg base CX k f fd ps sp ∧ mg x = some (.ref f) ∧ PySem.W.keepIn K (.ref f) = true ∧ Binds K fd ps []
structure MethE (P : Program) (w : World) (K : PySem.W.Frag) (mg : Str → Option Value) (base : Heap) (CX : CXT) (k : Nat) (C : Addr) (m : Str) (sp : Sp) : Prop where
 cl : Cls K C
 ex : ∃ (f : Addr) (fd : FuncData) (ps : List Str), Meth K C m f ∧ FnOk P w K mg base CX k f fd ps sp ∧ Binds K fd ps []
structure MkE (P : Program) (w : World) (K : PySem.W.Frag) (mg : Str → Option Value) (base : Heap) (CX : CXT) (k : Nat) (x : Str) (C : Addr) (sp : Sp) : Prop where
 ex : ∃ (f : Addr) (fd : FuncData) (ps : List Str), Mk K C f ∧ FnOk P w K mg base CX k f fd ps sp ∧ mg x = some (.ref C) ∧ Binds K fd ps []
theorem MethE.mono {P : Program} {w : World} {K : PySem.W.Frag} {mg : Str → Option Value} {base : Heap} {CX : CXT} {j k : Nat} {C : Addr} {m : Str} {sp : Sp} (M : MethE P w K mg base CX j C m sp) (h : j ≤ k) : MethE P w K mg base CX k C m sp := by
 obtain ⟨f, fd, ps, a, b, c⟩ := M.ex
 exact ⟨M.cl, f, fd, ps, a, b.mono h, c⟩
def tCallE (sp : Sp) (E : XK) (t : TA) : TE := fun σ H Q => t σ H fun vs H1 => sp vs H1 Q E
def tMakeE (C : Addr) (sp : Sp) (E : XK) (t : TA) : TE := fun σ H Q => t σ H fun vs H1 => ∀ x dx, H1 x = none → H1 dx = none → dx ≠ x →
 sp (.ref x :: vs) (upd (upd H1 dx (.own x)) x (.ins C dx [])) (fun v H2 => v = .non ∧ Q (.ref x) H2) E
def tMethE (P : Program) (w : World) (K : PySem.W.Frag) (mg : Str → Option Value) (base : Heap) (CX : CXT) (k : Nat) (m : Str) (E : XK) (ta : TE) (t : TA) : TE := fun σ H Q => ta σ H fun x H1 =>
 ∃ a C dx fs sp, x = .ref a ∧ H1 a = some (.ins C dx fs) ∧ fs.lookup m = none ∧ MethE P w K mg base CX k C m sp ∧ t σ H1 fun vs H2 => sp (.ref a :: vs) H2 Q E
section
variable {X : Cx} {CX : CXT} {k : Nat} {C : Addr} {sp : Sp} {E : XK} {x m : Str} {p pos apos : Pos} {e o : Expr} {es : List Expr} {ta : TE} {t : TA}
theorem pe_callE (G : FnE X.prog X.w X.K X.mg X.base CX k x sp) (hr : Room k X.A) (hx : Passes CX X E) (hg : Gl X x) (ha : PA X (e :: es) t) (hdb : (x == ("__debug__" : Str)) = false := by decide)
   (he : starEach (e :: es) X.env = (false, eval e X.env) :: starEach es X.env := by rfl) (hpl : (backTo pos (starEach es X.env)).any (·.1) = false := by rfl) : PE X (.Call (.Name x p) (e :: es) [] pos) (tCallE sp E t) := by
 obtain ⟨f, fd, ps, F, hm, hk, hb⟩ := G.ex
 have z := pe_call (p := p) (pos := pos) F hr hg hm hk hb .nil hx ha hdb he hpl
 intro pins s σ H Q I h
 refine z pins s σ H Q I ?_
 have e1 : tCall sp [] E t = tCallE sp E t := by
   funext σ H Q
   show t σ H (fun vs H1 => sp (vs ++ []) H1 Q E) = t σ H (fun vs H1 => sp vs H1 Q E)
   simp only [List.append_nil]
 rw [e1]; exact h
theorem pe_makeE (G : MkE X.prog X.w X.K X.mg X.base CX k x C sp) (hr : Room (k + 1) X.A) (hx : Passes CX X E) (hg : Gl X x) (ha : PA X (e :: es) t) (hdb : (x == ("__debug__" : Str)) = false := by decide)
   (he : starEach (e :: es) X.env = (false, eval e X.env) :: starEach es X.env := by rfl) (hpl : (backTo pos (starEach es X.env)).any (·.1) = false := by rfl) : PE X (.Call (.Name x p) (e :: es) [] pos) (tMakeE C sp E t) := by
 obtain ⟨f, fd, ps, M, F, hm, hb⟩ := G.ex
 have z := pe_make (p := p) (pos := pos) M F hr hg hm hb .nil hx ha hdb he hpl
 intro pins s σ H Q I h
 refine z pins s σ H Q I ?_
 have e1 : tMake C sp [] E t = tMakeE C sp E t := by
   funext σ H Q
   show t σ H (fun vs H1 => ∀ x dx, H1 x = none → H1 dx = none → dx ≠ x → sp (.ref x :: (vs ++ [])) _ _ E) = t σ H (fun vs H1 => ∀ x dx, H1 x = none → H1 dx = none → dx ≠ x → sp (.ref x :: vs) _ _ E)
   simp only [List.append_nil]
 rw [e1]; exact h
theorem pe_methE0 {pl : Sem Bool} (he : PE X o ta) (hr : Room k X.A) (hx : Passes CX X E)
   (ht : eval (.Call (.Attribute o m apos) [] [] pos) X.env = (do
     let ov ← eval o X.env
     standAt apos.atName
     let (f, first) ← holding [ov] (getMethod ov m pl)
     callWith pos f first (backTo pos (starEach [] X.env)) (backToKw pos (keywordEach [] X.env))) := by rfl) :
   PE X (.Call (.Attribute o m apos) [] [] pos) (tMethE X.prog X.w X.K X.mg X.base CX k m E ta tNil) := by
 intro pins s σ H Q I h
 refine PySem.W.methodCall_KW (pl := pl) (thn (he pins s σ H _ I h) fun u s1 ⟨x, H1, I1, rx, a, C, dx, fs, sp, ex, ea, l, M, q⟩ => ?_) ht
 subst ex
 obtain rfl : u = Value.ref a := rx
 obtain ⟨f, fd, ps, hm, F, hb⟩ := M.ex
 refine getmeth_ok I1 ea M.cl hm l ?_
 exact PySem.W.callWith_K0 (first := [.ref a]) I1.kIn hm.kp (run_fn (us := [.ref a]) (vs := [.ref a]) F hr hb .nil hx I1 (.cons rfl .nil) q)
end
theorem b_len : bootBuiltins "len" = some (.builtin "len") := by decide +kernel
theorem b_all : bootBuiltins "all" = some (.builtin "all") := by decide +kernel
theorem b_isinstance : bootBuiltins "isinstance" = some (.builtin "isinstance") := by decide +kernel
theorem b_int : bootBuiltins "int" = some (.type "int") := by decide +kernel
theorem b_list : bootBuiltins "list" = some (.type "list") := by decide +kernel
theorem b_str : bootBuiltins "str" = some (.type "str") := by decide +kernel
def rFld (K : PySem.W.Frag) (f : Str) : V → Hp → VK → Prop := fun x H1 Q => ∃ a C dx fs v, x = .ref a ∧ H1 a = some (.ins C dx fs) ∧ Cls K C ∧ NoAttr K C f ∧ fs.lookup f = some v ∧ Q v H1
def rMeth (P : Program) (w : World) (K : PySem.W.Frag) (mg : Str → Option Value) (base : Heap) (CX : CXT) (k : Nat) (m : Str) (E : XK) (σ : St) (t : TA) : V → Hp → VK → Prop := fun x H1 Q =>
 ∃ a C dx fs sp, x = .ref a ∧ H1 a = some (.ins C dx fs) ∧ fs.lookup m = none ∧ MethE P w K mg base CX k C m sp ∧ t σ H1 fun vs H2 => sp (.ref a :: vs) H2 Q E
def sFldV (K : PySem.W.Frag) (f : Str) (y : V) (D : Ends) (σ : St) : V → Hp → Prop := fun x H2 => ∃ a C dx fs, x = .ref a ∧ H2 a = some (.ins C dx fs) ∧ Cls K C ∧ NoAttr K C f ∧ fs.length < 1000 ∧ D.nx σ (upd H2 a (.ins C dx (putF f y fs)))
def rLen (K : PySem.W.Frag) : List V → Hp → VK → Prop := fun xs H Q => ∃ x n, xs = [x] ∧ LenV K x H n ∧ Q (.int n) H
theorem call_lenA {X : Cx} : CallR X (.builtin "len") (rLen X.K) := call_len
theorem r_lenL {K : PySem.W.Frag} {p : Addr} {xs : List V} {H : Hp} {Q : VK} (h : SqL K H p xs) (q : Q (.int xs.length) H) : rLen K [.ref p] H Q := ⟨.ref p, xs.length, rfl, .inl ⟨xs, h, rfl⟩, q⟩
def rLst (K : PySem.W.Frag) : List V → Hp → VK → Prop := fun xs H Q => ∃ p ys, xs = [.ref p] ∧ (SqL K H p ys ∨ SqT K H p ys) ∧ ∀ l, H l = none → Q (.ref l) (upd H l (.lst ys))
theorem call_listA {X : Cx} : CallR X (.type "list") (rLst X.K) := call_list_of
theorem r_listL {K : PySem.W.Frag} {p : Addr} {xs : List V} {H : Hp} {Q : VK} (h : SqL K H p xs) (q : ∀ l, H l = none → Q (.ref l) (upd H l (.lst xs))) : rLst K [.ref p] H Q := ⟨p, xs, rfl, .inl h, q⟩
theorem r_all {K : PySem.W.Frag} {p : Addr} {bs : List Bool} {H : Hp} {Q : VK} (h : SqL K H p (bs.map V.bl)) (q : Q (.bl (bs.all id)) H) : rAll K [.ref p] H Q := ⟨p, bs, rfl, h, q⟩
theorem r_slL {K : PySem.W.Frag} {p : Addr} {xs : List V} {lo hi : Option Int} {H : Hp} {Q : VK} (h : SqL K H p xs) (q : ∀ l, H l = none → Q (.ref l) (upd H l (.lst (cutV xs lo hi)))) : rSlA K (.ref p) lo hi H Q := .inl ⟨p, xs, rfl, h, q⟩
theorem r_slT {K : PySem.W.Frag} {p : Addr} {xs : List V} {lo hi : Option Int} {H : Hp} {Q : VK} (h : SqT K H p xs) (hn : ¬ (HT.sIx xs.length 0 lo = 0 ∧ HT.sIx xs.length xs.length hi = xs.length)) (q : ∀ l, H l = none → Q (.ref l) (upd H l (.tup (cutV xs lo hi)))) :
   rSlA K (.ref p) lo hi H Q := .inr ⟨p, xs, rfl, h, hn, q⟩
def rTru (K : PySem.W.Frag) (x : V) (H : Hp) (Q : Bool → Hp → Prop) : Prop := ∃ k, TruV K x H k ∧ Q k H
theorem r_truB {K : PySem.W.Frag} {b : Bool} {H : Hp} {Q : Bool → Hp → Prop} (q : Q b H) : rTru K (.bl b) H Q := ⟨b, rfl, q⟩
theorem iteNT {A B : Prop} (h : B) : if (!true) = true then A else B := h
theorem sql_new {K : PySem.W.Frag} {H : Hp} {a p : Addr} {xs : List V} {o : HO} (h : SqL K H a xs) (hp : H p = none) : SqL K (upd H p o) a xs := Same.seq (same_new hp) h
theorem same_at {H H' : Hp} {q : Addr} {u : HO} (s : Same H H') (h : H q = some u) : H' q = some u := s _ _ h
theorem r_append {l : Addr} {xs : List V} {y : V} {H : Hp} {Q : VK} (h : H l = some (.lst xs)) (z : xs.length < sizeLine) (q : Q .non (upd H l (.lst (xs ++ [y])))) : rAppend (.ref l) [y] H Q := ⟨l, xs, y, rfl, rfl, h, z, q⟩
theorem ty_list {K : PySem.W.Frag} {H : Hp} {p : Addr} {xs : List V} (h : H p = some (.lst xs)) : tyV K "list" (.ref p) H := .inl ⟨rfl, xs, SqL.of h⟩
def ForW (J : It) (g : TG) (tb : TS) (D : Ends) (σ : St) (H1 : Hp) : Prop := ∃ W : Nat → Nat → St → Hp → Prop, (∃ m, W 0 m σ H1) ∧ ∀ i m σ H, W i m σ H →
 (J.stop i H ∧ D.nx σ H) ∨ (J.go i H ∧ ∃ N : St → Hp → Prop, (∀ σ' H', N σ' H' → ∃ m', m' < m ∧ W (i + 1) m' σ' H') ∧ ∀ x H', J.yld i H x H' → g x σ H' fun σ2 H2 => tb { D with nx := N, ct := N, bk := D.nx } σ2 H2)
theorem r_for {wi : TI} {g : TG} {tb : TS} {D : Ends} {σ : St} {H : Hp} (q : wi σ H fun J H1 => ForW J g tb D σ H1) : tFor wi g tb D σ H := q
def iSeq (K : PySem.W.Frag) (tl : TE) : TI := fun σ H R => tl σ H fun x H1 => ∃ a, x = .ref a ∧ (((∃ xs, SqL K H1 a xs) ∧ R (Itl K a) H1) ∨ ((∃ xs, SqT K H1 a xs) ∧ R (Itt K a) H1))
theorem r_iSeq {K : PySem.W.Frag} {tl : TE} {σ : St} {H : Hp} {R : It → Hp → Prop} (q : tl σ H fun x H1 => ∃ a, x = .ref a ∧ (((∃ xs, SqL K H1 a xs) ∧ R (Itl K a) H1) ∨ ((∃ xs, SqT K H1 a xs) ∧ R (Itt K a) H1))) : iSeq K tl σ H R := q
theorem r_rng1 {ta : TA} {σ : St} {H : Hp} {R : It → Hp → Prop} (q : ta σ H fun vs H1 => ∃ j : Int, vs = [.int j] ∧ -(2 ^ 62) ≤ j ∧ j < 2 ^ 62 ∧ R (Itr 0 j.toNat) H1) : iRng1 ta σ H R := q
theorem pi_seq {X : Cx} {tg l : Expr} {tl : TE} (hl : PE X l tl) : PI X tg l (iSeq X.K tl) := by
 intro pins s σ H R I h
 refine thn (hl pins s σ H _ I h) fun v s1 ⟨x, H1, I1, r1, q1⟩ => ?_
 obtain ⟨a, e, hq⟩ := q1
 subst e
 cases r1
 rcases hq with ⟨⟨xs, hq⟩, q⟩ | ⟨⟨xs, hq⟩, q⟩
 · obtain ⟨its, rv, p, hz⟩ := I1.list hq
   refine wpAny_pyIter_list p.isList ?_
   refine ⟨s1.heap.objs.size, [s1.heap.objs.size], _, _, H1, rfl, I1.kept (t' := s1.toks) fun b o e => Heap.get?_push_of_some _ e, turn_list a _, ⟨_, Heap.get?_push_size _ rfl, rfl, rfl⟩, fun b hb => ?_, q⟩
   have e : b = s1.heap.objs.size := by simpa using hb
   subst e
   exact I1.fpOk (Nat.le_refl _) (I1.hok.fresh (Nat.le_refl _))
 · obtain ⟨its, rv, p, hz⟩ := I1.tuple hq
   refine wpAny_pyIter_tuple (show s1.heap.IsTuple a its.toArray from p) ?_
   refine ⟨s1.heap.objs.size, [s1.heap.objs.size], _, _, H1, rfl, I1.kept (t' := s1.toks) fun b o e => Heap.get?_push_of_some _ e, turn_tuple a _, ⟨_, Heap.get?_push_size _ rfl, rfl, rfl⟩, fun b hb => ?_, q⟩
   have e : b = s1.heap.objs.size := by simpa using hb
   subst e
   exact I1.fpOk (Nat.le_refl _) (I1.hok.fresh (Nat.le_refl _))
section
variable {σ : St} {H : Hp} {Q : VK}
theorem r_var {i : Nat} {v : V} (h : σ[i]? = some (some v)) (q : Q v H) : tVar i σ H Q := ⟨v, h, q⟩
theorem r_c {v : V} (q : Q v H) : tC v σ H Q := q
theorem r_op {r : R2} {ta tb : TE} (q : ta σ H fun x H1 => tb σ H1 fun y H2 => r x y H2 Q) : tOp r ta tb σ H Q := q
theorem r_I0 {g : Int → Int → V} {i j : Int} (q : Q (g i j) H) : rI0 g (.int i) (.int j) H Q := ⟨i, j, rfl, rfl, q⟩
theorem r_I {C : Int → Int → Prop} {g : Int → Int → V} {i j : Int} (h : C i j) (q : Q (g i j) H) : rI C g (.int i) (.int j) H Q := ⟨i, j, rfl, rfl, h, q⟩
theorem r_cb {r : List V → Hp → VK → Prop} {t : TA} (q : t σ H fun vs H1 => r vs H1 Q) : tCB r t σ H Q := q
theorem r_callE {sp : Sp} {E : XK} {t : TA} (q : t σ H fun vs H1 => sp vs H1 Q E) : tCallE sp E t σ H Q := q
theorem r_makeE {C : Addr} {sp : Sp} {E : XK} {t : TA} (q : t σ H fun vs H1 => ∀ x dx, H1 x = none → H1 dx = none → dx ≠ x → sp (.ref x :: vs) (upd (upd H1 dx (.own x)) x (.ins C dx [])) (fun v H2 => v = .non ∧ Q (.ref x) H2) E) : tMakeE C sp E t σ H Q := q
theorem r_methE {P : Program} {w : World} {K : PySem.W.Frag} {mg : Str → Option Value} {base : Heap} {CX : CXT} {k : Nat} {m : Str} {E : XK} {ta : TE} {t : TA} (q : ta σ H fun x H1 => rMeth P w K mg base CX k m E σ t x H1 Q) : tMethE P w K mg base CX k m E ta t σ H Q := q
theorem r_methV {P : Program} {w : World} {K : PySem.W.Frag} {mg : Str → Option Value} {base : Heap} {CX : CXT} {k : Nat} {m : Str} {E : XK} {t : TA} {p C dx : Addr} {fs : List (Str × V)} {sp : Sp} (h : H p = some (.ins C dx fs)) (l : fs.lookup m = none) (M : MethE P w K mg base CX k C m sp)
   (q : t σ H fun vs H2 => sp (.ref p :: vs) H2 Q E) : rMeth P w K mg base CX k m E σ t (.ref p) H Q := ⟨p, C, dx, fs, sp, rfl, h, l, M, q⟩
theorem r_fld {K : PySem.W.Frag} {ta : TE} {f : Str} (q : ta σ H fun x H1 => rFld K f x H1 Q) : tFld K ta f σ H Q := q
theorem r_fldV {K : PySem.W.Frag} {f : Str} {p C dx : Addr} {fs : List (Str × V)} {v : V} (h : H p = some (.ins C dx fs)) (c : Cls K C) (n : NoAttr K C f) (l : fs.lookup f = some v) (q : Q v H) : rFld K f (.ref p) H Q := ⟨p, C, dx, fs, v, rfl, h, c, n, l, q⟩
theorem r_tup {t : TA} (q : t σ H fun xs H1 => xs.length ≤ sizeLine ∧ ∀ p, H1 p = none → Q (.ref p) (upd H1 p (.tup xs))) : tTup t σ H Q := q
theorem r_lst {t : TA} (q : t σ H fun xs H1 => xs.length ≤ sizeLine ∧ ∀ p, H1 p = none → Q (.ref p) (upd H1 p (.lst xs))) : tLst t σ H Q := q
theorem r_sl {r : V → Option Int → Option Int → Hp → VK → Prop} {te : TE} {tl th : TO} (q : te σ H fun x H1 => tl σ H1 fun l H2 => th σ H2 fun u H3 => r x l u H3 Q) : tSl r te tl th σ H Q := q
theorem r_bm {K : PySem.W.Frag} {T : String} {r : V → List V → Hp → VK → Prop} {to : TE} {t : TA} (q : to σ H fun x H1 => tyV K T x H1 ∧ t σ H1 fun xs H2 => r x xs H2 Q) : tBM K T r to t σ H Q := q
end
section
variable {σ : St} {H : Hp} {Q : List V → Hp → Prop}
theorem r_nil (q : Q [] H) : tNil σ H Q := q
theorem r_cons {ta : TE} {tr : TA} (q : ta σ H fun x H1 => tr σ H1 fun xs H2 => Q (x :: xs) H2) : tCons ta tr σ H Q := q
end
section
variable {σ : St} {H : Hp} {Q : Option Int → Hp → Prop}
theorem r_noPart (q : Q none H) : tNoPart σ H Q := q
theorem r_part {t : TE} (q : t σ H fun x H1 => ∃ i, x = .int i ∧ Q (some i) H1) : tPart t σ H Q := q
end
section
variable {σ : St} {H : Hp} {Q : Bool → Hp → Prop}
theorem r_test {t : TE} (q : t σ H fun x H' => ∃ k, x = .bl k ∧ Q k H') : tTest t σ H Q := q
theorem r_and {t u : TT} (q : t σ H fun c H1 => if c = true then u σ H1 Q else Q false H1) : tAnd t u σ H Q := q
theorem r_or {t u : TT} (q : t σ H fun c H1 => if c = true then Q true H1 else u σ H1 Q) : tOr t u σ H Q := q
theorem r_not {t : TT} (q : t σ H fun c H1 => Q (!c) H1) : tNot t σ H Q := q
theorem r_true (q : Q true H) : tTrue σ H Q := q
def tTru (K : PySem.W.Frag) (ta : TE) : TT := fun σ H Q => ta σ H fun x H' => rTru K x H' Q
theorem pt_tru {X : Cx} {a : Expr} {ta : TE} (ha : PE X a ta) (he : ∀ whole, isTrue a X.env whole = (do let v ← whole; standAt a.pos; holding [v] (truthy v)) := by intro _; rfl) : PT X a (tTru X.K ta) := pt_truth ha he
theorem r_tru {K : PySem.W.Frag} {ta : TE} (q : ta σ H fun x H' => rTru K x H' Q) : tTru K ta σ H Q := q
end
section
variable {D : Ends} {σ : St} {H : Hp}
theorem r_next (q : D.nx σ H) : tNext D σ H := q
theorem r_seq {t u : TS} (q : t { D with nx := u D } σ H) : tSeq t u D σ H := q
theorem r_ret {te : TE} (q : te σ H D.rt) : tRet te D σ H := q
theorem r_ifS {c : TT} {t u : TS} (q : c σ H fun b H1 => if b = true then t D σ H1 else u D σ H1) : tIfS c t u D σ H := q
theorem r_asg {te : TE} {g : TG} (q : te σ H fun x H1 => g x σ H1 D.nx) : tAsg te g D σ H := q
theorem r_drop {te : TE} (q : te σ H fun _ H1 => D.nx σ H1) : tDrop te D σ H := q
theorem r_sFld {K : PySem.W.Frag} {ta tv : TE} {f : Str} (q : tv σ H fun y H1 => ta σ H1 fun x H2 => sFldV K f y D σ x H2) : sFld K ta tv f D σ H := q
theorem r_sFldV {K : PySem.W.Frag} {f : Str} {y : V} {p C dx : Addr} {fs : List (Str × V)} (h : H p = some (.ins C dx fs)) (c : Cls K C) (n : NoAttr K C f) (l : fs.length < 1000) (q : D.nx σ (upd H p (.ins C dx (putF f y fs)))) : sFldV K f y D σ (.ref p) H := ⟨p, C, dx, fs, rfl, h, c, n, l, q⟩
end
theorem ifDec {c A B : Prop} [Decidable c] (h1 : c → A) (h2 : ¬ c → B) : if decide c = true then A else B := by
 by_cases h : c
 · rw [if_pos (decide_eq_true h)]; exact h1 h
 · rw [if_neg (by rw [decide_eq_false h]; exact Bool.false_ne_true)]; exact h2 h
theorem ifDecN {c A B : Prop} [Decidable c] (h1 : ¬ c → A) (h2 : c → B) : if (!decide c) = true then A else B := by
 by_cases h : c
 · rw [if_neg (by rw [decide_eq_true h]; decide)]; exact h2 h
 · rw [if_pos (by rw [decide_eq_false h]; rfl)]; exact h1 h
theorem ifInt {a b : Int} {A B : Prop} (h1 : a = b → A) (h2 : a ≠ b → B) : if decide (V.int a = V.int b) = true then A else B :=
 ifDec (fun e => h1 (by cases e; rfl)) fun e => h2 fun z => e (by rw [z])
end L3
namespace L3
open PySem PySem.Spec PyProof.Rows L2
section
variable {P : Program} {w : World} {K : PySem.W.Frag} {mg : Str → Option Value} {base : Heap} {x qual : Str} {st : Stmt} {N ps : List Str} {sp : Sp} {C : Addr}
def BodyOk (P : Program) (w : World) (K : PySem.W.Frag) (mg : Str → Option Value) (base : Heap) (k : Nat) (qual : Str) (st : Stmt) (N : List Str) (sp : Sp) : Prop :=
 ∀ (f : Addr) (cdv : Value) (A : Around) (outer : List Env) (s : Shared) (H : Hp) (vs : List V) (Q : VK) (E : XK), Room k (A.deeper (envOfC qual (defScope st) s.heap.objs.size f cdv)) → sp vs H Q E →
   ∃ t, PSs (cxOf CX0 P w K mg base N qual (defScope st) f cdv A outer s H E).nox (defBody st) t ∧ t { nx := fun _ H' => Q .non H', rt := Q } (start N vs) H
theorem fnE_of (k : Nat) (h : ∃ f fd, Fun K x qual st f fd ∧ mg x = some (.ref f) ∧ Binds K fd ps []) (S : FnScope N ps (defScope st)) (len : ∀ vs H Q E, sp vs H Q E → vs.length = ps.length)
   (hbody : BodyOk P w K mg base k qual st N sp) : FnE P w K mg base CX0 (k + 1) x sp := by
 obtain ⟨f, fd, F, hm, hb⟩ := h
 exact ⟨f, fd, ps, F.ok S len (hbody f), hm, F.kp, hb⟩
theorem methE_of (k : Nat) (c : Cls K C) (h : ∃ f fd, Fun K x qual st f fd ∧ Meth K C x f ∧ Binds K fd ps []) (S : FnScope N ps (defScope st)) (len : ∀ vs H Q E, sp vs H Q E → vs.length = ps.length)
   (hbody : BodyOk P w K mg base k qual st N sp) : MethE P w K mg base CX0 (k + 1) C x sp := by
 obtain ⟨f, fd, F, hm, hb⟩ := h
 exact ⟨c, f, fd, ps, hm, F.ok S len (hbody f), hb⟩
theorem mkE_of {y : Str} (k : Nat) (hy : mg y = some (.ref C)) (h : ∃ f fd, Fun K "__init__" qual st f fd ∧ Mk K C f ∧ Binds K fd ps []) (S : FnScope N ps (defScope st)) (len : ∀ vs H Q E, sp vs H Q E → vs.length = ps.length)
   (hbody : BodyOk P w K mg base k qual st N sp) : MkE P w K mg base CX0 (k + 1) y C sp := by
 obtain ⟨f, fd, F, hm, hb⟩ := h
 exact ⟨f, fd, ps, hm, F.ok S len (hbody f), hy, hb⟩
end
end L3
namespace L3
open PySem PySem.Spec PyProof.Rows L2 PySem.SeqAt
section
variable {X : Cx} {K : PySem.W.Frag}
theorem op_plusK (h : X.K = K) : OpR X (binaryOp .Add) (rPlus K) := by subst h; exact op_plus
theorem op_eqK (h : X.K = K) (hu : X.A.units + 64 < cLine) : OpR X (compareOp .Eq) (rEqA K) := by subst h; exact op_eqA hu
theorem op_neK (h : X.K = K) (hu : X.A.units + 64 < cLine) : OpR X (compareOp .NotEq) (rNeA K) := by subst h; exact op_neA hu
theorem ix_K (h : X.K = K) : IxR X (rIxA K) := by subst h; exact ix_any
theorem sl_K (h : X.K = K) : SlR X (rSlA K) := by subst h; exact sl_any
theorem pi_seqK {tg l : Expr} {tl : TE} (h : X.K = K) (hl : PE X l tl) : PI X tg l (iSeq K tl) := by subst h; exact pi_seq hl
theorem call_lenK (h : X.K = K) : CallR X (.builtin "len") (rLen K) := by subst h; exact call_lenA
theorem call_listK (h : X.K = K) : CallR X (.type "list") (rLst K) := by subst h; exact call_listA
theorem call_isiK (h : X.K = K) : CallR X (.builtin "isinstance") (rIsi K) := by subst h; exact call_isi
theorem call_allK (h : X.K = K) (hc : X.calm = true) : CallR X (.builtin "all") (rAll K) := by subst h; exact call_all hc
theorem pe_fldK {e : Expr} {f : Str} {pos : Pos} {ta : TE} (h : X.K = K) (he : PE X e ta) (hb : attributeBase e f X.env (eval e X.env) = eval e X.env := by rfl) : PE X (.Attribute e f pos) (tFld K ta f) := by subst h; exact pe_fld he hb
theorem ps_fldK {o value : Expr} {f : Str} {pos pos' : Pos} {ta tv : TE} (h : X.K = K) (ha : PE X o ta) (hv : PE X value tv) (hs : swapsWith value (some (.Attribute o f pos')) pos.line X.env = pure false := by rfl) :
   PS X (.Assign [.Attribute o f pos'] value pos) (sFld K ta tv f) := by subst h; exact ps_fld ha hv hs
theorem pt_truK {a : Expr} {ta : TE} (h : X.K = K) (ha : PE X a ta) (he : ∀ whole, isTrue a X.env whole = (do let v ← whole; standAt a.pos; holding [v] (truthy v)) := by intro _; rfl) : PT X a (tTru K ta) := by subst h; exact pt_tru ha he
theorem pe_bmK {o e : Expr} {es : List Expr} {to : TE} {t : TA} {name : Str} {apos cpos : Pos} {T id : String} {r : V → List V → Hp → VK → Prop} (h : X.K = K) (pa : PlainAttrs T) (slot : Slot T name id) (hty : typeOf (.builtin id) = pure (.type "method_descriptor")) (hm : MtR X id r) (ho : PE X o to) (ha : PA X (e :: es) t)
   (hbase : attributeBase o name X.env (eval o X.env) = eval o X.env := by rfl)
   (hfew : ((backTo cpos (starEach (e :: es) X.env)).all (fun x => !x.1) && (backToKw cpos (keywordEach [] X.env)).all (fun x => x.1.isSome)
     && decide ((e :: es).length + ([] : List Keyword).length + (if ([] : List Keyword).isEmpty then 0 else 1) < 30)) = true := by rfl)
   (hline : (apos.endLine == cpos.line) = true := by rfl) (hs : starEach (e :: es) X.env = (false, eval e X.env) :: starEach es X.env := by rfl) (hplain : (backTo cpos (starEach es X.env)).any (·.1) = false := by rfl) :
   PE X (.Call (.Attribute o name apos) (e :: es) [] cpos) (tBM K T r to t) := by subst h; exact pe_bm pa slot hty hm ho ha hbase hfew hline hs hplain
end
section
variable {X : Cx} {P : Program} {w : World} {K : PySem.W.Frag} {mg : Str → Option Value} {base : Heap} {CX : CXT} {k : Nat} {E : XK} {m : Str} {pos apos : Pos} {e o : Expr} {es : List Expr} {ta : TE} {t : TA}
theorem pe_methK0 {pl : Sem Bool} (hP : X.prog = P ∧ X.w = w ∧ X.K = K ∧ X.mg = mg ∧ X.base = base) (he : PE X o ta) (hr : Room k X.A) (hx : Passes CX X E)
   (ht : eval (.Call (.Attribute o m apos) [] [] pos) X.env = (do
     let ov ← eval o X.env
     standAt apos.atName
     let (f, first) ← holding [ov] (getMethod ov m pl)
     callWith pos f first (backTo pos (starEach [] X.env)) (backToKw pos (keywordEach [] X.env))) := by rfl) :
   PE X (.Call (.Attribute o m apos) [] [] pos) (tMethE P w K mg base CX k m E ta tNil) := by
 obtain ⟨rfl, rfl, rfl, rfl, rfl⟩ := hP
 exact pe_methE0 (pl := pl) he hr hx ht
end
end L3
namespace L3
open PySem PySem.Spec PyProof.Rows L2 PySem.SeqAt
theorem r_alloc {H : Hp} {R : Addr → Prop} (q : ∀ p, H p = none → R p) : ∀ p, H p = none → R p := q
theorem r_small {n : Nat} {R : Prop} (h : n ≤ sizeLine) (q : R) : n ≤ sizeLine ∧ R := ⟨h, q⟩
theorem none_same {H H' : Hp} {q : Addr} (s : Same H H') (h : H' q = none) : H q = none := by
 cases e : H q with
 | none => rfl
 | some u => rw [s _ _ e] at h; cases h
theorem same_none {H H1 : Hp} {p : Addr} {o : HO} (s : Same H H1) (h : H1 p = none) : Same H (upd H1 p o) := s.trans (same_new h)
def CInv {α : Type} (xs : List α) (f : α → V) (Sg : St → Prop) (H : Hp) (i : Nat) (ys : List V) (σ : St) (H1 : Hp) : Prop := Same H H1 ∧ Sg σ ∧ ys = (xs.take i).map f
theorem CInv.next {α : Type} {xs : List α} {f : α → V} {Sg : St → Prop} {H H1 H5 : Hp} {i : Nat} {ys : List V} {σ σ3 : St} {x : α} {y : V} (c : CInv xs f Sg H i ys σ H1) (hx : xs[i]? = some x) (e : y = f x) (s : Same H H5) (sg : Sg σ3) : CInv xs f Sg H (i + 1) (ys ++ [y]) σ3 H5 := by
 obtain ⟨_, _, rfl⟩ := c
 refine ⟨s, sg, ?_⟩
 subst e
 rw [List.take_add_one, hx, Option.toList_some, List.map_append]; rfl
theorem comp_mapL {K : PySem.W.Frag} {a : Addr} {α : Type} {xs : List α} {emb : α → V} {g : TG} {tc : TT} {te : TE} {fin : List V → Hp → Prop} {σ0 : St} {H : Hp} (f : α → V) (Sg : St → Prop) (hl : SqL K H a (xs.map emb)) (hz : xs.length ≤ sizeLine) (h0 : Sg σ0)
   (hs : ∀ (i : Nat) (x : α) (ys : List V) (σ : St) (H1 : Hp), xs[i]? = some x → CInv xs f Sg H i ys σ H1 → Same H H1 → Sg σ →
     g (emb x) σ H1 fun σ3 H3 => tc σ3 H3 fun b H4 => if b = true then te σ3 H4 fun y H5 => CInv xs f Sg H (i + 1) (ys ++ [y]) σ3 H5 else CInv xs f Sg H (i + 1) ys σ3 H4)
   (hd : ∀ H1, Same H H1 → fin (xs.map f) H1) : CompW (Itl K a) g tc te fin σ0 H := by
 refine comp_list (xs := xs.map emb) (CInv xs f Sg H) ⟨Same.refl _, h0, rfl⟩ ?_ ?_ ?_
 · rintro i ys σ H1 hi ⟨s, _, rfl⟩
   refine ⟨s.seq hl, ?_⟩
   rw [List.length_map, List.length_take]; omega
 · intro i x ys σ H1 hx c
   rw [List.getElem?_map] at hx
   obtain ⟨z, hz, rfl⟩ := Option.map_eq_some_iff.mp hx
   exact hs i z ys σ H1 hz c c.1 c.2.1
 · rintro ys σ H1 ⟨s, _, rfl⟩
   rw [List.length_map, List.take_length]
   exact hd H1 s
theorem comp_mapR {g : TG} {tc : TT} {te : TE} {fin : List V → Hp → Prop} {σ0 : St} {H : Hp} {lo : Int} {n : Nat} (f : Nat → V) (Sg : St → Prop) (hz : n ≤ sizeLine) (h0 : Sg σ0)
   (hs : ∀ (i : Nat) (ys : List V) (σ : St) (H1 : Hp), i < n → CInv (List.range n) f Sg H i ys σ H1 → Same H H1 → Sg σ →
     g (.int (lo + i)) σ H1 fun σ3 H3 => tc σ3 H3 fun b H4 => if b = true then te σ3 H4 fun y H5 => CInv (List.range n) f Sg H (i + 1) (ys ++ [y]) σ3 H5 else CInv (List.range n) f Sg H (i + 1) ys σ3 H4)
   (hd : ∀ H1, Same H H1 → fin ((List.range n).map f) H1) : CompW (Itr lo n) g tc te fin σ0 H := by
 refine comp_range (CInv (List.range n) f Sg H) ⟨Same.refl _, h0, rfl⟩ ?_ ?_ ?_
 · rintro i ys σ H1 hi ⟨s, _, rfl⟩
   rw [List.length_map, List.length_take, List.length_range]; omega
 · intro i ys σ H1 hi c
   exact hs i ys σ H1 hi c c.1 c.2.1
 · rintro ys σ H1 ⟨s, _, rfl⟩
   rw [List.take_of_length_le (by rw [List.length_range]; exact Nat.le_refl _)]
   exact hd H1 s
theorem range_get {n i : Nat} (h : i < n) : (List.range n)[i]? = some i := by rw [List.getElem?_range h]
theorem r_ifB {b : Bool} {A B : Prop} (h1 : b = true → A) (h2 : b = false → B) : if b = true then A else B := by
 cases b with
 | true => exact h1 rfl
 | false => exact h2 rfl
theorem r_62 {j : Int} {R : Prop} (h1 : -(2 ^ 62) ≤ j) (h2 : j < 2 ^ 62) (q : R) : -(2 ^ 62) ≤ j ∧ j < 2 ^ 62 ∧ R := ⟨h1, h2, q⟩
theorem r_itL {K : PySem.W.Frag} {H : Hp} {a : Addr} {xs : List V} {A B : Prop} (h : SqL K H a xs) (q : A) : ((∃ xs, SqL K H a xs) ∧ A) ∨ ((∃ xs, SqT K H a xs) ∧ B) := .inl ⟨⟨xs, h⟩, q⟩
theorem r_itT {K : PySem.W.Frag} {H : Hp} {a : Addr} {xs : List V} {A B : Prop} (h : SqT K H a xs) (q : B) : ((∃ xs, SqL K H a xs) ∧ A) ∨ ((∃ xs, SqT K H a xs) ∧ B) := .inr ⟨⟨xs, h⟩, q⟩
theorem r_tyL {K : PySem.W.Frag} {H : Hp} {p : Addr} {xs : List V} {R : Prop} (h : H p = some (.lst xs)) (q : R) : tyV K "list" (.ref p) H ∧ R := ⟨ty_list h, q⟩
theorem map_int {α : Type} (l : List α) (f : α → Int) : l.map (fun k => V.int (f k)) = (l.map f).map V.int := by rw [List.map_map]; rfl
theorem r_gN {i : Nat} {v : V} {σ σ' : St} {H : Hp} {Q : St → Hp → Prop} (h : σ.set i (some v) = σ') (q : Q σ' H) : gName i v σ H Q := by subst h; exact q
theorem r_st {N : List Str} {vs : List V} {σ' : St} {t : TS} {D : Ends} {H : Hp} (h : start N vs = σ') (q : t D σ' H) : t D (start N vs) H := by subst h; exact q
theorem r_compS' {i : Nat} {own : List Str} {fr : List (Str × Nat)} {wi : TI} {g : TG} {tc : TT} {te : TE} {D : Ends} {σ σi : St} {H : Hp} (h : innerS own fr σ = σi) (q : wi σ H fun J H1 => CompW J g tc te (fun ys H3 => ∀ p, H3 p = none → gName i (.ref p) σ (upd H3 p (.lst ys)) D.nx) σi H1) : tCompS i own fr wi g tc te D σ H := by subst h; exact q
theorem r_compE' {own : List Str} {fr : List (Str × Nat)} {wi : TI} {g : TG} {tc : TT} {te : TE} {σ σi : St} {H : Hp} {Q : VK} (h : innerS own fr σ = σi) (q : wi σ H fun J H1 => CompW J g tc te (fun ys H3 => ∀ p, H3 p = none → Q (.ref p) (upd H3 p (.lst ys))) σi H1) : tCompE own fr wi g tc te σ H Q := by subst h; exact q
end L3
namespace L3
open PySem PySem.Spec PyProof.Rows L2 PySem.SeqAt
section
variable {P : Program} {w : World} {K : PySem.W.Frag} {mg : Str → Option Value} {base : Heap}
end
section
variable {X : Cx} {CX : CXT} {k : Nat} {C : Addr} {sp : Sp} {E : XK} {x m : Str} {p pos apos : Pos} {e o : Expr} {es : List Expr} {ta : TE} {t : TA}
end
section
variable {P : Program} {w : World} {K : PySem.W.Frag} {mg : Str → Option Value} {base : Heap} {x qual : Str} {st : Stmt} {N ps : List Str} {sp : Sp} {C : Addr}
end
section
variable {K : PySem.W.Frag} {a : Addr} {xs : List V} {g : TG} {tc : TT} {te : TE} {fin : List V → Hp → Prop} {H : Hp}
theorem comp_tup {σ0 : St} (Pv : Nat → List V → St → Hp → Prop) (h0 : Pv 0 [] σ0 H) (hl : ∀ i ys σ H, i ≤ xs.length → Pv i ys σ H → SqT K H a xs ∧ ys.length ≤ sizeLine)
   (hs : ∀ i x ys σ H, xs[i]? = some x → Pv i ys σ H → g x σ H fun σ3 H3 => tc σ3 H3 fun b H4 => if b = true then te σ3 H4 fun y H5 => Pv (i + 1) (ys ++ [y]) σ3 H5 else Pv (i + 1) ys σ3 H4)
   (hd : ∀ ys σ H, Pv xs.length ys σ H → fin ys H) : CompW (Itt K a) g tc te fin σ0 H := by
 refine ⟨fun i m ys σ H => m = xs.length - i ∧ i ≤ xs.length ∧ Pv i ys σ H, ⟨xs.length, by simp, Nat.zero_le _, h0⟩, ?_⟩
 rintro i m ys σ H ⟨rfl, hi, p⟩
 obtain ⟨q, hz⟩ := hl i ys σ H hi p
 by_cases hlt : i < xs.length
 · refine .inr ⟨⟨xs, xs[i], q, by simp [hlt]⟩, Pv (i + 1), fun ys2 σ2 H2 p' => ⟨(hl (i + 1) ys2 σ2 H2 hlt p').2, xs.length - (i + 1), by omega, rfl, hlt, p'⟩, fun x H2 y => ?_⟩
   obtain ⟨e, y⟩ := y
   subst e
   exact hs i x ys σ _ (y xs q) p
 · have e : i = xs.length := by omega
   subst e
   exact .inl ⟨⟨xs, q, Nat.le_refl _⟩, hz, hd ys σ H p⟩
theorem comp_mapT {α : Type} {xs : List α} {emb : α → V} {σ0 : St} (f : α → V) (Sg : St → Prop) (hl : SqT K H a (xs.map emb)) (hz : xs.length ≤ sizeLine) (h0 : Sg σ0)
   (hs : ∀ (i : Nat) (x : α) (ys : List V) (σ : St) (H1 : Hp), xs[i]? = some x → CInv xs f Sg H i ys σ H1 → Same H H1 → Sg σ →
     g (emb x) σ H1 fun σ3 H3 => tc σ3 H3 fun b H4 => if b = true then te σ3 H4 fun y H5 => CInv xs f Sg H (i + 1) (ys ++ [y]) σ3 H5 else CInv xs f Sg H (i + 1) ys σ3 H4)
   (hd : ∀ H1, Same H H1 → fin (xs.map f) H1) : CompW (Itt K a) g tc te fin σ0 H := by
 refine comp_tup (xs := xs.map emb) (CInv xs f Sg H) ⟨Same.refl _, h0, rfl⟩ ?_ ?_ ?_
 · rintro i ys σ H1 hi ⟨s, _, rfl⟩
   refine ⟨SqT_same s hl, ?_⟩
   rw [List.length_map, List.length_take]; omega
 · intro i x ys σ H1 hx c
   rw [List.getElem?_map] at hx
   obtain ⟨z, hz, rfl⟩ := Option.map_eq_some_iff.mp hx
   exact hs i z ys σ H1 hz c c.1 c.2.1
 · rintro ys σ H1 ⟨s, _, rfl⟩
   rw [List.length_map, List.take_length]
   exact hd H1 s
end
end L3
namespace L3
open PySem PySem.Spec PyProof.Rows
section
variable {prog : Program} {w : World} {A : Around} {E : Value → Shared → Prop} {s : Shared}
end
section
variable {prog : Program} {w : World} {A : Around} {E : Value → Shared → Prop} {s : Shared}
end
end L3
namespace L3
open PySem PySem.Spec PyProof.Rows L2
end L3
namespace L3
open PySem PySem.Spec PyProof.Rows L2
def conE (w : World) (l : List (Str × Int × Tok × Tok)) : List DictEntry := l.map fun p => { hash := PyData.keyHash w.params p.1, key := .str p.1 p.2.2.1, val := .int p.2.1 p.2.2.2 }
def conV (kvs : List (Str × Int)) : List (Key × V) := kvs.map fun p => ((Sum.inr p.1 : Key), V.int p.2)
structure ConD (w : World) (K : PySem.W.Frag) (a : Addr) (kvs : List (Str × Int)) : Prop where
 sys : (a == sysModules) = false
 nd : ((conV kvs).map (·.1)).Nodup
 ex : ∃ (l : List (Str × Int × Tok × Tok)) (ep : Nat), l.map (fun p => (p.1, p.2.1)) = kvs ∧ K.lookup a = some { cls := .type "dict", dict := none, data := .dict (conE w l).toArray ep, slots := #[] }
theorem con_kv : ∀ l : List (Str × Int × Tok × Tok), KV (conV (l.map fun p => (p.1, p.2.1))) (l.map fun p => ((Sum.inr p.1 : Key), Value.int p.2.1 p.2.2.2))
 | [] => .nil
 | p :: l => .cons ⟨rfl, ⟨_, rfl⟩⟩ (con_kv l)
theorem con_pairs {P : Program} {w : World} : ∀ l : List (Str × Int × Tok × Tok), Pairs (mixKind P w) (conE w l) (l.map fun p => ((Sum.inr p.1 : Key), Value.int p.2.1 p.2.2.2))
 | [] => .nil
 | p :: l => .cons (kV_is (k := .inr p.1) ⟨_, rfl⟩) rfl (con_pairs l)
theorem ConD.dict {P : Program} {w : World} {K : PySem.W.Frag} {a : Addr} {kvs : List (Str × Int)} {h : Heap} (c : ConD w K a kvs) (x : K.In h) : ∃ vs, KV (conV kvs) vs ∧ h.DictOf (mixKind P w) a vs := by
 obtain ⟨l, ep, rfl, lk⟩ := c.ex
 refine ⟨_, con_kv l, _, (conE w l).toArray, ep, x _ _ lk, ⟨rfl, rfl, rfl⟩, rfl, fun e he => ?_, by rw [List.toList_toArray]; exact con_pairs l, ?_⟩
 · have he : e ∈ conE w l := by simpa using he
   obtain ⟨p, _, rfl⟩ := List.mem_map.mp he
   exact ⟨.inr p.1, kV_is (k := .inr p.1) ⟨_, rfl⟩, rfl⟩
 · rw [← (con_kv l).keys]; exact c.nd
def rInC (w : World) (K : PySem.W.Frag) (neg : Bool) : R2 := fun y x H Q => ∃ a kvs t, y = .str t ∧ x = .ref a ∧ ConD w K a kvs ∧ Q (.bl (if neg then !(valV (conV kvs) (.inr t)).isSome else (valV (conV kvs) (.inr t)).isSome)) H
theorem op_notInC {X : Cx} {w : World} {K : PySem.W.Frag} (hw : X.w = w) (hK : X.K = K) : OpR X (compareOp .NotIn) (rInC w K true) := by
 subst hw hK
 intro pins s σ H y x v u Q I ry rx h
 obtain ⟨a, kvs, t, rfl, rfl, c, q⟩ := h
 cases rx
 obtain ⟨vs, rel, dd⟩ := c.dict (P := X.prog) I.kIn
 refine wpAny_notIn_of (kV_is (k := .inr t) ry) c.sys dd.mapOf ?_
 rw [← (rel.val (.inr t)).isSome_eq]
 exact ⟨.bl _, H, I.tok _, rfl, q⟩
def tCGet (w : World) (K : PySem.W.Frag) (td ty : TE) : TE := fun σ H Q => td σ H fun x H1 => ty σ H1 fun y H2 => ∃ a kvs t v, x = .ref a ∧ y = .str t ∧ ConD w K a kvs ∧ valV (conV kvs) (.inr t) = some v ∧ Q v H2
theorem pe_cget {X : Cx} {w : World} {K : PySem.W.Frag} {o i : Expr} {td ty : TE} {pos : Pos} (hw : X.w = w) (hK : X.K = K) (ho : PE X o td) (hi : PE X i ty) (hs : NoSl i) : PE X (.Subscript o i pos) (tCGet w K td ty) := by
 subst hw hK
 intro pins s σ H Q I h
 refine subD_of PySem.F.slot_dict_getitem.lookup hs (thn (ho pins s σ H _ I h) fun u s1 ⟨x, H1, I1, rx, q1⟩ => thn (hi pins s1 σ H1 _ I1 q1) fun iv s2 ⟨y, H2, I2, ry, a, kvs, t, v, ex, ey, c, e, q2⟩ => ?_)
 subst ex ey
 obtain rfl : u = Value.ref a := rx
 obtain ⟨vs, rel, dd⟩ := c.dict (P := X.prog) I2.kIn
 obtain ⟨w', hw, rw'⟩ := RelO.some_of (v := v) (o := valueAt vs (.inr t)) (by rw [← e]; exact rel.val (.inr t))
 exact ⟨dd.typeIs, wpAny_getItem_of (kV_is (k := .inr t) ry) dd.mapOf hw ⟨v, H2, I2.tok _, rw', q2⟩⟩
theorem r_inC {w : World} {K : PySem.W.Frag} {neg : Bool} {a : Addr} {kvs : List (Str × Int)} {t : Str} {H : Hp} {Q : VK} (c : ConD w K a kvs) (q : Q (.bl (if neg then !(valV (conV kvs) (.inr t)).isSome else (valV (conV kvs) (.inr t)).isSome)) H) : rInC w K neg (.str t) (.ref a) H Q := ⟨a, kvs, t, rfl, rfl, c, q⟩
theorem r_cGet {w : World} {K : PySem.W.Frag} {td ty : TE} {σ : L2.St} {H : Hp} {Q : VK} (q : td σ H fun x H1 => ty σ H1 fun y H2 => ∃ a kvs t v, x = .ref a ∧ y = .str t ∧ ConD w K a kvs ∧ valV (conV kvs) (.inr t) = some v ∧ Q v H2) : tCGet w K td ty σ H Q := q
theorem r_cgetV {w : World} {K : PySem.W.Frag} {a : Addr} {kvs : List (Str × Int)} {t : Str} {v : V} {R : V → Prop} (c : ConD w K a kvs) (e : valV (conV kvs) (.inr t) = some v) (q : R v) : ∃ a' kvs t' v, V.ref a = .ref a' ∧ V.str t = .str t' ∧ ConD w K a' kvs ∧ valV (conV kvs) (.inr t') = some v ∧ R v := ⟨a, kvs, t, v, rfl, rfl, c, e, q⟩
end L3
namespace L3
open PySem PySem.Spec PyProof.Rows L2 PySem.SeqAt
end L3
namespace L3
open PySem PySem.Spec PyProof.Rows L2 PySem.SeqAt
end L3
namespace L3
open PySem PySem.Spec PyProof.Rows L2 PySem.SeqAt
section
variable {P : Program} {w : World} {K : PySem.W.Frag} {mg : Str → Option Value} {base : Heap} {x qual : Str} {st : Stmt} {N ps : List Str} {sp : Sp} {C : Addr} {k : Nat}
end
section
variable {X : Cx} {pins : List (Addr × Obj)} {σ : St} {H : Hp} {s : Shared}
end
end L3
namespace L3
open PySem PySem.Spec PyProof.Rows L2 PySem.SeqAt
section
variable {X : Cx} {pins : List (Addr × Obj)} {σ : St} {H : Hp} {s : Shared} {k : Nat} {g x n : Str} {sp : Sp} {e : Expr} {es : List Expr} {t : TA} {gp cpos pos py : Pos}
end
end L3
namespace L3
open PySem PySem.Spec PyProof.Rows L2 PySem.SeqAt
section
variable {X : Cx} {pins : List (Addr × Obj)} {σ : St} {H H1 H' : Hp} {s s1 s' : Shared} {ea C : Addr}
end
end L3
namespace L3
open PySem PySem.Spec PyProof.Rows L2 PySem.SeqAt PySem.W Builtin Builtin.ObjectAttr Builtin.Getset_descriptor
section
variable {prog : Program} {w : World} {A : Around} {E : Value → Shared → Prop} {s : Shared} {K : PySem.W.Frag} {x C : Addr} {ox : Obj}
end
end L3
namespace L3
open PySem PySem.Spec PyProof.Rows L2 PySem.SeqAt PySem.W Builtin Builtin.ObjectAttr Builtin.Getset_descriptor
section
variable {prog : Program} {w : World} {A : Around} {E : Value → Shared → Prop} {s : Shared} {K : PySem.W.Frag} {x C : Addr} {ox : Obj}
end
end L3
namespace L3
open PySem PySem.Spec PyProof.Rows L2 PySem.SeqAt
section
variable {X : Cx} {k : Nat} {g : Str} {sp : Sp} {e c : Expr} {es : List Expr} {t : TA} {gp cpos pos : Pos} {b1 b2 : List Stmt} {tc : TT} {t1 t2 : TB}
end
section
variable {X : Cx} {v : Expr} {tv : TE} {x y : Str} {j1 j2 : Nat} {p0 p1 p2 p3 : Pos}
end
end L3
namespace L3
open PySem PySem.Spec PyProof.Rows
section
variable {prog : Program} {w : World} {A : Around} {E : Value → Shared → Prop} {s : Shared}
end
section
variable {prog : Program} {w : World} {A : Around} {E : Value → Shared → Prop} {s : Shared}
end
end L3
namespace L3
open PySem PySem.Spec PyProof.Rows L2
end L3
namespace L3
open PySem PySem.Spec PyProof.Rows L2 PySem.SeqAt
end L3
namespace L3
open PySem PySem.Spec PyProof.Rows L2 PySem.SeqAt
section
variable {P : Program} {w : World} {K : PySem.W.Frag} {mg : Str → Option Value} {base : Heap} {dv : Value}
end
section
variable {X : Cx} {CX : CXT} {k : Nat} {C : Addr} {dV : V} {sp : Sp} {E : XK} {x m : Str} {p pos apos : Pos} {e o : Expr} {es : List Expr} {ta : TE} {t : TA}
end
section
variable {P : Program} {w : World} {K : PySem.W.Frag} {mg : Str → Option Value} {base : Heap} {x qual : Str} {st : Stmt} {N ps : List Str} {sp : Sp} {C : Addr}
end
end L3
namespace FB
open PySem PySem.Spec PyProof.Rows L2 L3 PySem.SeqAt
inductive Rw where
 | set (b n : Int) | copy (b o : Int) | add (b o t : Int) | sub (b o t : Int) | mul (b o t : Int) | less (b o t : Int)
 | grow (m : Int) | shrink (m : Int) | put (b c : Int) | get (b c : Int)
 | jump (t : Int) | branch (b t : Int) | call (t : Int) | back (b : Int) | drop (b : Int)
def isBox (b : Int) : Prop := 0 ≤ b ∧ b ≤ 7
def isVal (n : Int) : Prop := 0 ≤ n ∧ n ≤ 4294967295
def isMany (n : Int) : Prop := 0 ≤ n ∧ n ≤ 4000
def isTgt (n : Int) : Prop := 0 ≤ n ∧ n ≤ 2000
def Rw.ok : Rw → Prop
 | .set b n => isBox b ∧ isVal n
 | .copy b o => isBox b ∧ isBox o
 | .add b o t | .sub b o t | .mul b o t | .less b o t => isBox b ∧ isBox o ∧ isBox t
 | .grow m | .shrink m => isMany m
 | .put b c | .get b c => isBox b ∧ isMany c
 | .jump t | .call t => isTgt t
 | .branch b t => isBox b ∧ isTgt t
 | .back b | .drop b => isBox b
def gI (xs : List Int) (i : Int) : Int := xs.getD i.toNat 0
def sI (xs : List Int) (i v : Int) : List Int := xs.set i.toNat v
theorem sI_len (xs : List Int) (i v : Int) : (sI xs i v).length = xs.length := by unfold sI; exact List.length_set ..
theorem gI_at {xs : List Int} {i : Int} (h0 : 0 ≤ i) (h1 : i < xs.length) : atI (xs.map V.int) i = some (.int (gI xs i)) := by
 have e : i = ((i.toNat : Nat) : Int) := by omega
 have hl : i.toNat < xs.length := by omega
 have z : atI (xs.map V.int) ((i.toNat : Nat) : Int) = some (.int (gI xs i)) := atI_nat (by
   rw [List.getElem?_map, List.getElem?_eq_getElem hl]
   simp [gI, List.getD, List.getElem?_eq_getElem hl])
 rw [← e] at z; exact z
theorem r_lenI {K : PySem.W.Frag} {p : Addr} {xs : List Int} {H : Hp} {Q : VK} (h : SqL K H p (xs.map V.int)) (q : Q (.int xs.length) H) : rLen K [.ref p] H Q := r_lenL h (by rw [List.length_map]; exact q)
theorem r_plusII {K : PySem.W.Frag} {a b : Addr} {xs ys : List Int} {H : Hp} {Q : VK} (ha : H a = some (.lst (xs.map V.int))) (hb : H b = some (.lst (ys.map V.int))) (hz : xs.length + ys.length ≤ sizeLine) (q : ∀ p, H p = none → Q (.ref p) (upd H p (.lst ((xs ++ ys).map V.int)))) :
   rPlus K (.ref a) (.ref b) H Q := r_plusL ha hb (by rw [List.length_map, List.length_map]; exact hz) (by rw [← List.map_append]; exact q)
def cutI (xs : List Int) (lo hi : Option Int) : List Int := (xs.drop (HT.sIx xs.length 0 lo)).take (HT.sIx xs.length xs.length hi - HT.sIx xs.length 0 lo)
theorem cutV_map (xs : List Int) (lo hi : Option Int) : cutV (xs.map V.int) lo hi = (cutI xs lo hi).map V.int := by
 unfold cutV cutI; rw [List.length_map, List.map_take, List.map_drop]
theorem cutI_len (xs : List Int) (lo hi : Option Int) : (cutI xs lo hi).length ≤ xs.length := by
 unfold cutI; rw [List.length_take, List.length_drop]; omega
theorem r_slI {K : PySem.W.Frag} {p : Addr} {xs : List Int} {lo hi : Option Int} {H : Hp} {Q : VK} (h : SqL K H p (xs.map V.int)) (q : ∀ l, H l = none → Q (.ref l) (upd H l (.lst ((cutI xs lo hi).map V.int)))) : rSlA K (.ref p) lo hi H Q :=
 r_slL h (by rw [cutV_map]; exact q)
def Rw.told : Rw → Str × List Int
 | .set b n => ("set", [b, n])
 | .copy b o => ("copy", [b, o])
 | .add b o t => ("add", [b, o, t])
 | .sub b o t => ("sub", [b, o, t])
 | .mul b o t => ("mul", [b, o, t])
 | .less b o t => ("less", [b, o, t])
 | .grow m => ("grow", [m])
 | .shrink m => ("shrink", [m])
 | .put b c => ("put", [b, c])
 | .get b c => ("get", [b, c])
 | .jump t => ("jump", [t])
 | .branch b t => ("branch", [b, t])
 | .call t => ("call", [t])
 | .back b => ("back", [b])
 | .drop b => ("drop", [b])
def Rw.flds : Rw → List (Str × V)
 | .set b n => putF "number" (.int n) (putF "box" (.int b) [])
 | .copy b o => putF "one" (.int o) (putF "box" (.int b) [])
 | .add b o t | .sub b o t | .mul b o t | .less b o t => putF "other" (.int t) (putF "one" (.int o) (putF "box" (.int b) []))
 | .grow m | .shrink m => putF "many" (.int m) []
 | .put b c | .get b c => putF "cell" (.int c) (putF "box" (.int b) [])
 | .jump t | .call t => putF "target" (.int t) []
 | .branch b t => putF "target" (.int t) (putF "box" (.int b) [])
 | .back b | .drop b => putF "box" (.int b) []
structure Adr where
 C_Row : Addr
 C_Set : Addr
 C_Copy : Addr
 C_Add : Addr
 C_Sub : Addr
 C_Mul : Addr
 C_Less : Addr
 C_Grow : Addr
 C_Shrink : Addr
 C_Put : Addr
 C_Get : Addr
 C_Jump : Addr
 C_Branch : Addr
 C_Call : Addr
 C_Back : Addr
 C_Drop : Addr
 C_Reckoning : Addr
 C_Reaching : Addr
 C_FrameError : Addr
 C_NoRow : Addr
 C_NoTable : Addr
 C_NoText : Addr
 C_Table : Addr
 C_Reading : Addr
 C_Machine : Addr
 C_Astray : Addr
 C_NoProgram : Addr
 C_NoLine : Addr
 C_NoName : Addr
 G_START : Addr
 G_WHICH : Addr
 G_COUNTS : Addr
 G_KEPT_BOXES : Addr
 G_SET_NAMES : Addr
 G_PARTS : Addr
 G_UNCOUNTED : Addr
def Rw.cls (a : Adr) : Rw → Addr
 | .set .. => a.C_Set
 | .copy .. => a.C_Copy
 | .add .. => a.C_Add
 | .sub .. => a.C_Sub
 | .mul .. => a.C_Mul
 | .less .. => a.C_Less
 | .grow .. => a.C_Grow
 | .shrink .. => a.C_Shrink
 | .put .. => a.C_Put
 | .get .. => a.C_Get
 | .jump .. => a.C_Jump
 | .branch .. => a.C_Branch
 | .call .. => a.C_Call
 | .back .. => a.C_Back
 | .drop .. => a.C_Drop
def RowAt (a : Adr) (H : Hp) (p : Addr) (r : Rw) : Prop := ∃ dx, H p = some (.ins (r.cls a) dx r.flds)
theorem RowAt.same {a : Adr} {H H' : Hp} {p : Addr} {r : Rw} (h : RowAt a H p r) (s : Same H H') : RowAt a H' p r := let ⟨dx, e⟩ := h; ⟨dx, s _ _ e⟩
def spBounded : Sp := fun vs H Q _ => ∃ n top : Int, vs = [.int n, .int top] ∧ 0 ≤ n ∧ n ≤ top ∧ Q (.int n) H
def kpInit (H : Hp) (x dx C : Addr) (fs : List (Str × V)) (Q : VK) : Prop := H x = some (.ins C dx []) ∧ ∀ H', (∀ b o, H b = some o → b ≠ x → H' b = some o) → H' x = some (.ins C dx fs) → Q .non H'
def spIni1 (C : Addr) (mk : Int → Rw) : Sp := fun vs H Q _ => ∃ (x dx : Addr) (i : Int), vs = [.ref x, .int i] ∧ (mk i).ok ∧ kpInit H x dx C (mk i).flds Q
def spIni2 (C : Addr) (mk : Int → Int → Rw) : Sp := fun vs H Q _ => ∃ (x dx : Addr) (i j : Int), vs = [.ref x, .int i, .int j] ∧ (mk i j).ok ∧ kpInit H x dx C (mk i j).flds Q
def spIni3 (C : Addr) (mk : Int → Int → Int → Rw) : Sp := fun vs H Q _ => ∃ (x dx : Addr) (i j k : Int), vs = [.ref x, .int i, .int j, .int k] ∧ (mk i j k).ok ∧ kpInit H x dx C (mk i j k).flds Q
theorem kp_make {C : Addr} {a : Adr} {r : Rw} {H : Hp} {Q : VK} (hc : r.cls a = C) (q : ∀ p H', Same H H' → H p = none → RowAt a H' p r → Q (.ref p) H') {x dx : Addr} (hx : H x = none) (hdx : H dx = none) :
   kpInit (upd (upd H dx (.own x)) x (.ins C dx [])) x dx C r.flds (fun v H2 => v = .non ∧ Q (.ref x) H2) := by
 refine ⟨upd_same, fun H' kp hH' => ⟨rfl, q x H' (fun b o e => ?_) hx ⟨dx, by rw [hc]; exact hH'⟩⟩⟩
 exact kp b o (by rw [upd_ne (ne_of_none e hx), upd_ne (ne_of_none e hdx)]; exact e) (ne_of_none e hx)
theorem r_row1 {C : Addr} {mk : Int → Rw} {a : Adr} {i : Int} {H : Hp} {Q : VK} {E : XK} (hk : (mk i).ok) (hc : (mk i).cls a = C) (q : ∀ p H', Same H H' → H p = none → RowAt a H' p (mk i) → Q (.ref p) H') :
   ∀ x dx, H x = none → H dx = none → dx ≠ x → spIni1 C mk (.ref x :: [.int i]) (upd (upd H dx (.own x)) x (.ins C dx [])) (fun v H2 => v = .non ∧ Q (.ref x) H2) E := fun x dx hx hdx _ => ⟨x, dx, i, rfl, hk, kp_make hc q hx hdx⟩
theorem r_row2 {C : Addr} {mk : Int → Int → Rw} {a : Adr} {i j : Int} {H : Hp} {Q : VK} {E : XK} (hk : (mk i j).ok) (hc : (mk i j).cls a = C) (q : ∀ p H', Same H H' → H p = none → RowAt a H' p (mk i j) → Q (.ref p) H') :
   ∀ x dx, H x = none → H dx = none → dx ≠ x → spIni2 C mk (.ref x :: [.int i, .int j]) (upd (upd H dx (.own x)) x (.ins C dx [])) (fun v H2 => v = .non ∧ Q (.ref x) H2) E := fun x dx hx hdx _ => ⟨x, dx, i, j, rfl, hk, kp_make hc q hx hdx⟩
theorem r_row3 {C : Addr} {mk : Int → Int → Int → Rw} {a : Adr} {i j k : Int} {H : Hp} {Q : VK} {E : XK} (hk : (mk i j k).ok) (hc : (mk i j k).cls a = C) (q : ∀ p H', Same H H' → H p = none → RowAt a H' p (mk i j k) → Q (.ref p) H') :
   ∀ x dx, H x = none → H dx = none → dx ≠ x → spIni3 C mk (.ref x :: [.int i, .int j, .int k]) (upd (upd H dx (.own x)) x (.ins C dx [])) (fun v H2 => v = .non ∧ Q (.ref x) H2) E := fun x dx hx hdx _ => ⟨x, dx, i, j, k, rfl, hk, kp_make hc q hx hdx⟩
theorem kp_two {H : Hp} {x : Addr} {o1 o2 : HO} : ∀ b o, H b = some o → b ≠ x → upd (upd H x o1) x o2 b = some o := fun b o e ne => by rw [upd_ne ne, upd_ne ne]; exact e
theorem kp_one {H : Hp} {x : Addr} {o1 : HO} : ∀ b o, H b = some o → b ≠ x → upd H x o1 b = some o := fun b o e ne => by rw [upd_ne ne]; exact e
theorem kp_three {H : Hp} {x : Addr} {o1 o2 o3 : HO} : ∀ b o, H b = some o → b ≠ x → upd (upd (upd H x o1) x o2) x o3 b = some o := fun b o e ne => by rw [upd_ne ne, upd_ne ne, upd_ne ne]; exact e
def spTold (a : Adr) (r : Rw) : Sp := fun vs H Q _ => ∃ (x : Addr), vs = [.ref x] ∧ RowAt a H x r ∧ ∀ p, H p = none → Q (.ref p) (upd H p (.tup (.str r.told.1 :: r.told.2.map V.int)))
theorem r_bounded {n top : Int} {H : Hp} {Q : VK} {E : XK} (h0 : 0 ≤ n) (h1 : n ≤ top) (q : Q (.int n) H) : spBounded [.int n, .int top] H Q E := ⟨n, top, rfl, h0, h1, q⟩
def cellAt (ns : List Int) (k : Int) : Int := ns.getD k.toNat 0
def spCellAt (K : PySem.W.Frag) : Sp := fun vs H Q _ => ∃ (p : Addr) (ns : List Int) (k : Int), vs = [.ref p, .int k] ∧ SqL K H p (ns.map V.int) ∧ 0 ≤ k ∧ Q (.int (cellAt ns k)) H
theorem r_cellAt {K : PySem.W.Frag} {p : Addr} {ns : List Int} {k : Int} {H : Hp} {Q : VK} {E : XK} (h : SqL K H p (ns.map V.int)) (h0 : 0 ≤ k) (q : Q (.int (cellAt ns k)) H) : spCellAt K [.ref p, .int k] H Q E := ⟨p, ns, k, rfl, h, h0, q⟩
theorem cellAt_out {ns : List Int} {k : Int} (h0 : 0 ≤ k) (h : ¬ k < ns.length) : cellAt ns k = 0 := by
 unfold cellAt
 rw [List.getD_eq_getElem?_getD, List.getElem?_eq_none (by omega)]
 rfl
def spLaw (K : PySem.W.Frag) : Sp := fun vs H Q _ => ∃ (a : Addr) (ns : List Int), vs = [.ref a] ∧ SqL K H a (ns.map V.int) ∧ ns.length ≤ 63 ∧ ∀ H', Q (.bl true) H'
theorem look_of {fs : List (Str × V)} {f g : Str} {v w : V} (h : f ≠ g) (e : fs.lookup f = some w) : (putF g v fs).lookup f = some w := by rw [lookup_putF, if_neg h]; exact e
theorem look_hit {fs : List (Str × V)} {f : Str} {v : V} : (putF f v fs).lookup f = some v := by rw [lookup_putF, if_pos rfl]
theorem look_no {fs : List (Str × V)} {f g : Str} {v : V} (h : f ≠ g) (e : fs.lookup f = none) : (putF g v fs).lookup f = none := by rw [lookup_putF, if_neg h]; exact e
theorem len_of {fs : List (Str × V)} {f : Str} {v : V} {n : Nat} (e : fs.length ≤ n) : (putF f v fs).length ≤ n + 1 := Nat.le_trans (length_putF _ _ _) (Nat.succ_le_succ e)
end FB
namespace L3
open PySem PySem.Spec PyProof.Rows L2 PySem.SeqAt
section
variable {prog : Program} {w : World} {A : Around} {E : Value → Shared → Prop} {h : Heap} {g : Array GenState} {d : Drawn} {t : Nat} {os : OsState}
variable {nm q : Str} {C N : Addr} {bs bm bmB : List Value} {hdct : Bool} {sn : List Str} {sub : List Value} {ab : Bool} {col : Option Bool} {dd : Option Addr} {k0 k1 k2 k3 k5 : Option Value} {B Bn newId nid initId inN : String} {bmN : List Value}
end
end L3
namespace L3
open PySem PySem.Spec PyProof.Rows L2 PySem.SeqAt
end L3
namespace L3
open PySem PySem.Spec PyProof.Rows L2 PySem.SeqAt PySem.W Builtin Builtin.ObjectAttr
section
variable {prog : Program} {w : World} {A : Around} {E : Value → Shared → Prop} {s : Shared} {K : PySem.W.Frag} {x C t : Addr} {name : Str} {v : Value}
end
end L3
namespace L3
open PySem PySem.Spec PyProof.Rows L2 PySem.SeqAt
section
variable {X : Cx} {pins : List (Addr × Obj)} {σ : L2.St} {H : Hp} {s : Shared} {a C : Addr} {f : Str} {A : Around} {E : Value → Shared → Prop}
end
end L3
namespace L3
open PySem PySem.Spec PyProof.Rows L2 PySem.SeqAt
section
variable {M : Model} {A : Around} {E : Value → Shared → Prop} {s : Shared}
end
end L3
namespace L3
open PySem PySem.Spec PyProof.Rows L2 PySem.SeqAt
section
variable {M : Model} {A : Around} {E : Value → Shared → Prop} {env : Env}
variable {nm q : Str} {C N : Addr} {bs bm : List Value} {hdct : Bool} {sn : List Str} {sub : List Value} {ab : Bool} {col : Option Bool} {dd : Option Addr} {k0 k1 k2 k3 k5 : Option Value} {newId : String}
end
section
variable {prog : Program} {w : World} {A : Around} {E : Value → Shared → Prop} {s : Shared} {env : Env}
variable {nm q : Str} {C N : Addr} {bs bm bmB : List Value} {hdct : Bool} {sn : List Str} {sub : List Value} {ab : Bool} {col : Option Bool} {dd : Option Addr} {k0 k1 k2 k3 k5 : Option Value} {B Bn newId nid initId inN : String} {bmN : List Value}
end
end L3
namespace L3
open PySem PySem.Spec PyProof.Rows L2 PySem.SeqAt
section
variable {P : Program} {w : World} {K : PySem.W.Frag} {mg : Str → Option Value} {base : Heap} {x qual : Str} {st : Stmt} {N ps : List Str} {sp : Sp} {C : Addr} {k : Nat}
end
section
variable {X : Cx} {pins : List (Addr × Obj)} {σ : L2.St} {H : Hp} {s : Shared} {k : Nat} {g x n : Str} {sp : Sp} {e : Expr} {es : List Expr} {t : TA} {tx : TEX} {ta : TAX} {te : TE} {gp cpos pos py : Pos}
end
end L3
namespace L3
open PySem PySem.Spec PyProof.Rows L2 PySem.SeqAt PySem.W Builtin Builtin.ObjectAttr
section
variable {prog : Program} {w : World} {A : Around} {E : Value → Shared → Prop} {s : Shared} {K : PySem.W.Frag} {x C dx : Addr} {ox od : Obj} {name : Str} {v : Value}
end
section
variable {X : Cx} {pins : List (Addr × Obj)} {σ : L2.St} {C fI : Addr}
end
end L3
namespace L3
open PySem PySem.Spec PyProof.Rows L2 PySem.SeqAt
end L3
namespace L3
open PySem PySem.Spec PyProof.Rows L2 PySem.SeqAt
end L3
namespace L3
open PySem PySem.Spec PyProof.Rows L2 PySem.SeqAt
section
variable {prog : Program} {w : World} {A : Around} {E : Value → Shared → Prop} {s : Shared}
end
end L3
namespace L3
open PySem PySem.Spec PyProof.Rows L2 PySem.SeqAt
section
variable {M : Model} {A : Around} {E : Value → Shared → Prop}
variable {nm q : Str} {D N : Addr} {bs bm : List Value} {hdct : Bool} {sn : List Str} {sub : List Value} {ab : Bool} {col : Option Bool} {dd : Option Addr} {k0 k1 k2 k3 k5 : Option Value} {newId : String}
end
section
variable {X : Cx} {pins : List (Addr × Obj)} {σ : St} {H H1 H' : Hp} {s s1 s' : Shared} {ea C : Addr}
end
end L3
namespace L3
open PySem PySem.Spec PyProof.Rows L2
section
variable {prog : Program} {w : World} {A : Around} {E : Value → Shared → Prop} {s : Shared}
end
end L3
namespace L3
open PySem PySem.Spec PyProof.Rows L2
end L3
namespace L3
open PySem PySem.Spec PyProof.Rows L2 PySem.SeqAt
section
variable {X : Cx} {k : Nat} {x m : Str} {e o : Expr} {es : List Expr} {ta : TE} {t : TA} {apos cpos pos py : Pos}
end
end L3
namespace L3
open PySem PySem.Spec PyProof.Rows L2 PySem.SeqAt
section
variable {X : Cx} {pins : List (Addr × Obj)} {σ : L2.St} {C fI : Addr}
end
end L3
namespace L3
open PySem PySem.Spec PyProof.Rows L2 PySem.SeqAt
section
variable {prog : Program} {w : World} {A : Around} {E : Value → Shared → Prop} {s : Shared}
end
section
variable {M : Model} {A : Around} {E : Value → Shared → Prop} {s : Shared}
end
end L3
namespace L3
open PySem PySem.Spec PyProof.Rows L2 PySem.SeqAt
section
variable {X : Cx} {pins : List (Addr × Obj)} {σ : L2.St} {H : Hp} {s : Shared}
end
end L3
namespace L3
open PySem PySem.Spec PyProof.Rows L2 PySem.SeqAt
end L3
namespace L3
open PySem PySem.Spec PyProof.Rows L2 PySem.SeqAt
end L3
namespace L3
open PySem PySem.Spec PyProof.Rows L2 PySem.SeqAt
end L3
namespace L3
open PySem PySem.Spec PyProof.Rows L2 PySem.SeqAt
end L3
namespace L3
open PySem PySem.Spec PyProof.Rows L2 PySem.SeqAt
end L3
namespace L3
open PySem PySem.Spec PyProof.Rows L2 PySem.SeqAt
section
variable {X : Cx} {C : Addr}
end
end L3
namespace L3
open PySem PySem.Spec PyProof.Rows L2 PySem.SeqAt
end L3
namespace L3
open PySem PySem.Spec PyProof.Rows L2 PySem.SeqAt
end L3
namespace L3
open PySem PySem.Spec PyProof.Rows L2 PySem.SeqAt
end L3
namespace L3
open PySem PySem.Spec PyProof.Rows L2 PySem.SeqAt PySem.Builtin PySem.Builtin.Str
theorem strs_of : ∀ {ts : List Str} {its : List Value}, Vals (ts.map V.str) its → ∃ l : List (Str × Tok), its = strValues l ∧ l.map (·.1) = ts
 | [], its, h => by cases h; exact ⟨[], rfl, rfl⟩
 | t :: r, its, h => by
   cases h with
   | cons h1 h2 =>
     obtain ⟨tk, rfl⟩ := h1
     obtain ⟨l, rfl, e⟩ := strs_of h2
     exact ⟨(t, tk) :: l, rfl, by rw [List.map_cons, e]⟩
theorem vals_strs : ∀ (l : List (Str × Tok)), Vals ((l.map (·.1)).map V.str) (strValues l)
 | [] => .nil
 | p :: r => .cons ⟨p.2, rfl⟩ (vals_strs r)
def rJoin (K : PySem.W.Frag) : V → List V → Hp → VK → Prop := fun x vs H Q => ∃ sep l ts, x = .str sep ∧ vs = [.ref l] ∧ SqL K H l (ts.map V.str) ∧ JoinOk sep ts = true ∧ Q (.str (PySem.Str.join sep ts)) H
theorem mt_join {X : Cx} {K : PySem.W.Frag} (hK : X.K = K) : MtR X "str.join" (rJoin K) := by
 subst hK
 intro pins s σ H x vs v us Q I rx rv h
 obtain ⟨sep, l, ts, rfl, rfl, hq, hok, q⟩ := h
 obtain ⟨tk, rfl⟩ := rx
 obtain ⟨u, rfl, ru⟩ := vals1 rv
 cases ru
 obtain ⟨its, rv', hp, _⟩ := I.list hq
 obtain ⟨pl, rfl, ht⟩ := strs_of rv'
 refine SC.join hp.isList ht hok fun t' k => ⟨.str (Txt.join sep ts), H, I.tok _, ⟨_, rfl⟩, ?_⟩
 rw [show Txt.join sep ts = PySem.Str.join sep ts from StrLaws.glued_eq_join sep ts]
 exact q
theorem r_join {K : PySem.W.Frag} {sep : Str} {l : Addr} {ts : List Str} {H : Hp} {Q : VK} (h : SqL K H l (ts.map V.str)) (hok : JoinOk sep ts = true) (q : Q (.str (PySem.Str.join sep ts)) H) : rJoin K (.str sep) [.ref l] H Q := ⟨sep, l, ts, rfl, rfl, h, hok, q⟩
def rSplit : V → List V → Hp → VK → Prop := fun x vs H Q => ∃ t sep, x = .str t ∧ vs = [.str sep] ∧ (sep.length == 0) = false ∧ t.length ≤ sizeLine ∧ (Txt.split t sep).length ≤ sizeLine ∧ ∀ p, H p = none → Q (.ref p) (upd H p (.lst ((Txt.split t sep).map V.str)))
theorem mt_split {X : Cx} : MtR X "str.split" rSplit := by
 intro pins s σ H x vs v us Q I rx rv h
 obtain ⟨t, sep, rfl, rfl, hy, z1, z3, q⟩ := h
 obtain ⟨tk, rfl⟩ := rx
 obtain ⟨u, rfl, tu, rfl⟩ := vals1 rv
 have fin : ∀ (l : List (Str × Tok)) (k : Nat), l.map (·.1) = Txt.split t sep → EP X pins σ Q (.ref s.heap.objs.size) { s with heap := s.heap.push { cls := .type "list", data := .seq (strValues l).toArray }, toks := k } := fun l k e =>
   ⟨.ref s.heap.objs.size, _, I.laid (t' := k) (fun b o w => Heap.get?_push_of_some _ w) (Nat.le_refl _) (show ObjOk X.prog X.w _ _ _ (.lst ((Txt.split t sep).map V.str)) from ⟨by rw [List.length_map]; exact z3, strValues l, 0, by rw [← e]; exact vals_strs l, Heap.get?_push_size _ rfl⟩), rfl, q _ (I.hok.fresh (Nat.le_refl _))⟩
 cases h1 : (decide (t.length < sep.length) || decide (strKind t < strKind sep)) with
 | true =>
   refine call_meets F.slot_str_split (typeIs_str _ _ _) F.entry_str_split (F.args_str_split_2 _ _) (meets_str_split_cannot_occur t sep tk tu h1) ?_
   exact fin [(t, tk)] s.toks (by unfold Txt.split; rw [if_pos h1]; rfl)
 | false =>
   have n1 : ¬ ((decide (t.length < sep.length) || decide (strKind t < strKind sep)) = true) := by rw [h1]; decide
   cases hf : (occurrences t sep 0 t.length (t.length + 1)).isEmpty with
   | true =>
     refine call_meets F.slot_str_split (typeIs_str _ _ _) F.entry_str_split (F.args_str_split_2 _ _) (meets_str_split_not_found t sep tk tu h1 hy hf) ?_
     exact fin [(t, tk)] s.toks (by unfold Txt.split; rw [if_neg n1, if_pos hf]; rfl)
   | false =>
     have n2 : ¬ ((occurrences t sep 0 t.length (t.length + 1)).isEmpty = true) := by rw [hf]; decide
     have z2 : (partsBetween t (occurrences t sep 0 t.length (t.length + 1)) sep.length).length ≤ sizeLine := by
       have z4 := z3
       unfold Txt.split at z4
       rw [if_neg n1, if_neg n2] at z4
       exact z4
     refine call_meets F.slot_str_split (typeIs_str _ _ _) F.entry_str_split (F.args_str_split_2 _ _) (meets_str_split_sep t sep tk tu h1 hy hf z1 z2) ?_
     have := fin (numbered s.toks (partsBetween t (occurrences t sep 0 t.length (t.length + 1)) sep.length)) (s.toks + (partsBetween t (occurrences t sep 0 t.length (t.length + 1)) sep.length).length) (by rw [numbered_texts]; unfold Txt.split; rw [if_neg n1, if_neg n2])
     rw [← strsFrom_eq] at this
     exact this
theorem r_split {t sep : PySem.Str} {ws : List PySem.Str} {H : Hp} {Q : VK} (hy : (sep.length == 0) = false) (z1 : t.length ≤ sizeLine) (e : Txt.split t sep = ws) (z3 : ws.length ≤ sizeLine) (q : ∀ p, H p = none → Q (.ref p) (upd H p (.lst (ws.map V.str)))) : rSplit (.str t) [.str sep] H Q := by
 subst e
 exact ⟨t, sep, rfl, rfl, hy, z1, z3, q⟩
def rIntT : List V → Hp → VK → Prop := fun xs H Q => ∃ x n, xs = [.str x] ∧ PySem.intText? x = some n ∧ x.length ≤ 640 ∧ Q (.int n) H
theorem call_intT {X : Cx} : CallR X (.type "int") rIntT := by
 intro pins s σ H xs us Q I r h
 obtain ⟨x, n, rfl, hn, hl, q⟩ := h
 obtain ⟨u, rfl, tu, rfl⟩ := vals1 r
 exact PySem.W.KIN.call_text hn hl ⟨.int n, H, I.tok _, ⟨_, rfl⟩, q⟩
end L3
namespace L3
open PySem PySem.Spec PyProof.Rows L2 PySem.SeqAt PySem.Builtin PySem.Builtin.Str PySem.StrLaws
def jn (sep : List Nat) : List (List Nat) → List Nat
 | [] => []
 | [x] => x
 | x :: y :: r => x ++ (sep ++ jn sep (y :: r))
theorem str_app (a b : PySem.Str) : (a ++ b).cps.toList = a.cps.toList ++ b.cps.toList := by
 show (a.cps ++ b.cps).toList = _
 rw [Array.toList_append]
theorem join_toList (sep : PySem.Str) : ∀ ts : List PySem.Str, (PySem.Str.join sep ts).cps.toList = jn sep.cps.toList (ts.map fun t => t.cps.toList)
 | [] => rfl
 | [x] => rfl
 | x :: y :: r => by
   show (x ++ sep ++ PySem.Str.join sep (y :: r)).cps.toList = _
   rw [str_app, str_app, join_toList sep (y :: r), List.append_assoc]; rfl
def Beg (c : Nat) (A : List Nat) : Prop := A = [] ∨ ∃ r, A = c :: r
theorem beg_uniq {c : Nat} : ∀ {w v A B : List Nat}, c ∉ w → c ∉ v → Beg c A → Beg c B → w ++ A = v ++ B → w = v ∧ A = B
 | [], [], A, B, _, _, _, _, e => ⟨rfl, e⟩
 | [], y :: v, A, B, _, hv, hA, _, e => by
   rcases hA with rfl | ⟨r, rfl⟩
   · cases e
   · have : c = y := (List.cons.inj e).1
     exact absurd (this ▸ List.mem_cons_self ..) hv
 | x :: w, [], A, B, hw, _, _, hB, e => by
   rcases hB with rfl | ⟨r, rfl⟩
   · cases e
   · have : x = c := (List.cons.inj e).1
     exact absurd (this ▸ List.mem_cons_self ..) hw
 | x :: w, y :: v, A, B, hw, hv, hA, hB, e => by
   obtain ⟨e1, e2⟩ := List.cons.inj e
   obtain ⟨k1, k2⟩ := beg_uniq (fun z => hw (List.mem_cons_of_mem _ z)) (fun z => hv (List.mem_cons_of_mem _ z)) hA hB e2
   exact ⟨by rw [e1, k1], k2⟩
def tl (sep : List Nat) : List (List Nat) → List Nat
 | [] => []
 | y :: r => sep ++ jn sep (y :: r)
theorem jn_cons (sep w : List Nat) (r : List (List Nat)) : jn sep (w :: r) = w ++ tl sep r := by
 cases r with
 | nil => exact (List.append_nil w).symm
 | cons y r => rfl
theorem tl_beg (c : Nat) (s : List Nat) (r : List (List Nat)) : Beg c (tl (c :: s) r) := by
 cases r with
 | nil => exact .inl rfl
 | cons y r => exact .inr ⟨_, rfl⟩
theorem jn_uniq {c : Nat} {s : List Nat} : ∀ {ws vs : List (List Nat)}, ws ≠ [] → vs ≠ [] → (∀ w ∈ ws, c ∉ w) → (∀ v ∈ vs, c ∉ v) → jn (c :: s) ws = jn (c :: s) vs → ws = vs
 | [], vs, h, _, _, _, _ => absurd rfl h
 | w :: r, [], _, h, _, _, _ => absurd rfl h
 | w :: r, v :: q, _, _, hw, hv, e => by
   rw [jn_cons, jn_cons] at e
   obtain ⟨e1, e2⟩ := beg_uniq (hw w (List.mem_cons_self ..)) (hv v (List.mem_cons_self ..)) (tl_beg c s r) (tl_beg c s q) e
   cases r with
   | nil =>
     cases q with
     | nil => rw [e1]
     | cons y q => cases e2
   | cons x r =>
     cases q with
     | nil => cases e2
     | cons y q =>
       have e3 : jn (c :: s) (x :: r) = jn (c :: s) (y :: q) := List.append_cancel_left e2
       rw [e1, jn_uniq (by simp) (by simp) (fun z hz => hw z (List.mem_cons_of_mem _ hz)) (fun z hz => hv z (List.mem_cons_of_mem _ hz)) e3]
def AtL (xs sep : List Nat) (k : Nat) : Prop := k + sep.length ≤ xs.length ∧ (xs.drop k).take sep.length = sep
theorem AtL.shift {xs sep p : List Nat} {k : Nat} (h : AtL xs sep k) : AtL (p ++ xs) sep (p.length + k) := by
 refine ⟨by rw [List.length_append]; have := h.1; omega, ?_⟩
 rw [List.drop_append, List.drop_eq_nil_of_le (by omega), List.nil_append, show p.length + k - p.length = k by omega]
 exact h.2
theorem jn_at {c : Nat} {s : List Nat} (hs : c ∉ s) : ∀ {ws : List (List Nat)}, (∀ w ∈ ws, c ∉ w) → ∀ k, (jn (c :: s) ws)[k]? = some c → AtL (jn (c :: s) ws) (c :: s) k
 | [], _, k, h => by simp [jn] at h
 | w :: r, hw, k, h => by
   rw [jn_cons] at h ⊢
   by_cases h1 : k < w.length
   · rw [List.getElem?_append_left h1] at h
     exact absurd (List.mem_of_getElem? h) (hw w (List.mem_cons_self ..))
   · rw [List.getElem?_append_right (by omega)] at h
     obtain ⟨j, rfl⟩ : ∃ j, k = w.length + j := ⟨k - w.length, by omega⟩
     rw [show w.length + j - w.length = j by omega] at h
     refine AtL.shift ?_
     cases r with
     | nil => simp [tl] at h
     | cons y r =>
       have ht : tl (c :: s) (y :: r) = (c :: s) ++ jn (c :: s) (y :: r) := rfl
       rw [ht] at h ⊢
       by_cases h2 : j < (c :: s).length
       · rw [List.getElem?_append_left h2] at h
         cases j with
         | zero =>
           refine ⟨by rw [List.length_append]; omega, ?_⟩
           rw [List.drop_zero, List.take_append_of_le_length (Nat.le_refl _), List.take_length]
         | succ j => exact absurd (List.mem_of_getElem? (show s[j]? = some c from h)) hs
       · rw [List.getElem?_append_right (by omega)] at h
         obtain ⟨i, rfl⟩ : ∃ i, j = (c :: s).length + i := ⟨j - (c :: s).length, by omega⟩
         rw [show (c :: s).length + i - (c :: s).length = i by omega] at h
         exact AtL.shift (jn_at hs (fun z hz => hw z (List.mem_cons_of_mem _ hz)) i h)
theorem at_of {x y : PySem.Str} {k : Nat} (h : AtL x.cps.toList y.cps.toList k) : At x y x.length k := by
 refine ⟨?_, ?_⟩
 · have := h.1
   rw [Array.length_toList, Array.length_toList] at this
   exact this
 · rw [subAt_eq, show y.length = y.cps.toList.length by rw [Array.length_toList]; rfl, h.2]
   exact beq_self_eq_true _
theorem piece_free {x y : PySem.Str} {c : Nat} (hA : ∀ k, x.cps.toList[k]? = some c → At x y x.length k) {a b : Nat} (hn : ∀ k, a ≤ k → k < b → ¬ At x y x.length k) : c ∉ (strSub x a b).cps.toList := fun hm => by
 rw [strSub_toList] at hm
 obtain ⟨j, hj⟩ := List.getElem?_of_mem hm
 have hl : j < b - a := by
   have := (List.getElem?_eq_some_iff.mp hj).1
   rw [List.length_take] at this; omega
 rw [List.getElem?_take_of_lt hl, List.getElem?_drop] at hj
 exact hn (a + j) (by omega) (by omega) (hA _ hj)
theorem pieces_free {x y : PySem.Str} {c : Nat} (hA : ∀ k, x.cps.toList[k]? = some c → At x y x.length k) : ∀ (cuts : List Nat) (a f : Nat), ChainG x y x.length a cuts f → (∀ k, f ≤ k → ¬ At x y x.length k) → ∀ p ∈ partsFrom x y.length a cuts, c ∉ p.cps.toList
 | [], a, f, h, hn, p, hp => by
   have e : f = a := h
   subst e
   have e2 : p = strSub x f x.length := List.mem_singleton.mp hp
   rw [e2]
   exact piece_free hA fun k h1 _ => hn k h1
 | d :: r, a, f, h, hn, p, hp => by
   rcases List.mem_cons.mp hp with e2 | hp2
   · rw [e2]; exact piece_free hA h.2.2.1
   · exact pieces_free hA r _ f h.2.2.2 hn p hp2
theorem str_eq {a b : PySem.Str} (h : a.cps.toList = b.cps.toList) : a = b := by
 obtain ⟨a⟩ := a
 obtain ⟨b⟩ := b
 have e : a = b := Array.toList_inj.mp h
 rw [e]
theorem strKind_pos (x : PySem.Str) : 1 ≤ Builtin.Str.strKind x := by unfold Builtin.Str.strKind; split <;> (try split) <;> decide
theorem split_joined {sep : PySem.Str} {c : Nat} {s : List Nat} (hsep : sep.cps.toList = c :: s) (hs : c ∉ s) (hk : Builtin.Str.strKind sep = 1) {ws : List PySem.Str} (hne : ws ≠ []) (hw : ∀ w ∈ ws, c ∉ w.cps.toList) : Txt.split (PySem.Str.join sep ws) sep = ws := by
 have hlen : sep.length = s.length + 1 := by
   have : sep.cps.toList.length = s.length + 1 := by rw [hsep]; rfl
   rw [Array.length_toList] at this; exact this
 have hf : ∀ w ∈ ws.map (fun t => t.cps.toList), c ∉ w := fun w hm => by
   obtain ⟨t, ht, rfl⟩ := List.mem_map.mp hm
   exact hw t ht
 generalize hx : PySem.Str.join sep ws = x
 have hxl : x.cps.toList = jn (c :: s) (ws.map fun t => t.cps.toList) := by rw [← hx, join_toList, hsep]
 have hA : ∀ k, x.cps.toList[k]? = some c → At x sep x.length k := fun k h => by
   refine at_of ?_
   rw [hsep]
   rw [hxl] at h ⊢
   exact jn_at hs hf k h
 have free : ∀ p ∈ Txt.split x sep, c ∉ p.cps.toList := by
   obtain ⟨f, hG, hn⟩ := occ_tight x sep (by rw [hlen]; omega)
   have whole : (∀ k, ¬ At x sep x.length k) → c ∉ x.cps.toList := fun h hm => by
     obtain ⟨j, hj⟩ := List.getElem?_of_mem hm
     exact h j (hA j hj)
   unfold Txt.split
   split
   · rename_i hc
     intro p hp
     rw [List.mem_singleton.mp hp]
     refine whole fun k hk2 => ?_
     rw [Bool.or_eq_true, decide_eq_true_eq, decide_eq_true_eq] at hc
     rcases hc with h | h
     · have := hk2.1; omega
     · have := strKind_pos x; omega
   · split
     · rename_i hemp
       intro p hp
       rw [List.mem_singleton.mp hp]
       rw [List.isEmpty_iff.mp hemp] at hG
       have e : f = 0 := hG
       subst e
       exact whole fun k => hn k (Nat.zero_le _)
     · intro p hp
       rw [partsBetween_eq] at hp
       exact pieces_free hA _ 0 f hG hn p hp
 have hj := join_split x sep
 have hne2 : Txt.split x sep ≠ [] := fun z => by
   unfold Txt.split at z
   split at z
   · cases z
   · split at z
     · cases z
     · rw [partsBetween_eq] at z
       obtain ⟨p, r, e⟩ := partsFrom_ne x sep.length 0 (occurrences x sep 0 x.length (x.length + 1))
       rw [e] at z; cases z
 have e1 : jn (c :: s) ((Txt.split x sep).map fun t => t.cps.toList) = jn (c :: s) (ws.map fun t => t.cps.toList) := by
   rw [← hxl, ← hsep, ← join_toList, hj]
 have e2 := jn_uniq (by simpa using hne2) (by simpa using hne) (fun w hm => by obtain ⟨t, ht, rfl⟩ := List.mem_map.mp hm; exact free t ht) hf e1
 have inj : ∀ {a b : List PySem.Str}, a.map (fun t => t.cps.toList) = b.map (fun t => t.cps.toList) → a = b := by
   intro a
   induction a with
   | nil => intro b h; cases b with
     | nil => rfl
     | cons y r => cases h
   | cons x r ih => intro b h; cases b with
     | nil => cases h
     | cons y q =>
       obtain ⟨h1, h2⟩ := List.cons.inj h
       rw [str_eq h1, ih h2]
 exact inj e2
end L3
namespace L3
open PySem PySem.Spec PyProof.Rows L2 PySem.SeqAt
def Its (x : Str) : It := ⟨fun i _ => ∃ c, x.cps[i]? = some c, fun i H v H' => H' = H ∧ ∃ c, x.cps[i]? = some c ∧ v = .str ⟨#[c]⟩, fun i _ => x.cps[i]? = none⟩
theorem turn_strA {P : Program} {w : World} {K : PySem.W.Frag} {tg : Expr} (x : Str) (t : Tok) (it : Addr) : Turn P w K tg (Its x) [it] it (fun i h => h.IsStrIter it "str_ascii_iterator" x t i) where
 mem := by simp
 obj := fun i h st b hb => by
   have e : b = it := by simpa using hb
   subst e
   obtain ⟨o, e, c, d⟩ := st
   exact ⟨o, e, fun v z => by rw [d] at z; cases z⟩
 keep := fun i h h' st k => by
   obtain ⟨o, e, c, d⟩ := st
   exact ⟨o, k it (by simp) o e, c, d⟩
 item := by
   intro X hP hw hK hc i pins s σ H E I hf st hg
   subst hP hw hK
   obtain ⟨c, hx⟩ := hg
   obtain ⟨f0, f1, f2, f3, f4, f5⟩ := hf it (by simp)
   refine wpAny_pyNext_ascii_item st hx fun h' st' sb => ?_
   have I1 : Inv X pins σ H { s with heap := h', toks := s.toks + 1 } := I.turned (t' := s.toks + 1) (fun b o hb e => (sb.2 b hb).trans e) f0 f1 f3 f4 f5
   obtain ⟨o, e, cc, d⟩ := id st'
   exact ⟨_, rfl, go_of (s := { s with heap := h', toks := s.toks + 1 }) e cc d (by decide) ⟨.str ⟨#[c]⟩, H, I1, ⟨_, rfl⟩, ⟨rfl, c, hx, rfl⟩, st', fun b hb => (hf b hb).1⟩⟩
 done := by
   intro X hP hw hK hc i pins s σ H E I hf st hg
   subst hP hw hK
   obtain ⟨f0, f1, f2, f3, f4, f5⟩ := hf it (by simp)
   exact wpAny_pyNext_ascii_end (I.ok.hd hc) st hg fun h' eb => ⟨rfl, I.turned (t' := s.toks) (fun b o hb e => eb b o hb e) f0 f1 f3 f4 f5⟩
 self := fun _ _ _ _ _ st h => wpAny_pyIter_striter_ascii st h
theorem turn_strW {P : Program} {w : World} {K : PySem.W.Frag} {tg : Expr} (x : Str) (t : Tok) (it : Addr) : Turn P w K tg (Its x) [it] it (fun i h => h.IsStrIter it "str_iterator" x t i) where
 mem := by simp
 obj := fun i h st b hb => by
   have e : b = it := by simpa using hb
   subst e
   obtain ⟨o, e, c, d⟩ := st
   exact ⟨o, e, fun v z => by rw [d] at z; cases z⟩
 keep := fun i h h' st k => by
   obtain ⟨o, e, c, d⟩ := st
   exact ⟨o, k it (by simp) o e, c, d⟩
 item := by
   intro X hP hw hK hc i pins s σ H E I hf st hg
   subst hP hw hK
   obtain ⟨c, hx⟩ := hg
   obtain ⟨f0, f1, f2, f3, f4, f5⟩ := hf it (by simp)
   refine wpAny_pyNext_wide_item st hx fun h' st' sb => ?_
   have I1 : Inv X pins σ H { s with heap := h', toks := s.toks + 1 } := I.turned (t' := s.toks + 1) (fun b o hb e => (sb.2 b hb).trans e) f0 f1 f3 f4 f5
   obtain ⟨o, e, cc, d⟩ := id st'
   exact ⟨_, rfl, go_of (s := { s with heap := h', toks := s.toks + 1 }) e cc d (by decide) ⟨.str ⟨#[c]⟩, H, I1, ⟨_, rfl⟩, ⟨rfl, c, hx, rfl⟩, st', fun b hb => (hf b hb).1⟩⟩
 done := by
   intro X hP hw hK hc i pins s σ H E I hf st hg
   subst hP hw hK
   obtain ⟨f0, f1, f2, f3, f4, f5⟩ := hf it (by simp)
   exact wpAny_pyNext_wide_end (I.ok.hd hc) st hg fun h' eb => ⟨rfl, I.turned (t' := s.toks) (fun b o hb e => eb b o hb e) f0 f1 f3 f4 f5⟩
 self := fun _ _ _ _ _ st h => wpAny_pyIter_striter_wide st h
def iStr (tl : TE) : TI := fun σ H R => tl σ H fun v H1 => ∃ x, v = .str x ∧ R (Its x) H1
theorem r_iStr {tl : TE} {σ : L2.St} {H : Hp} {R : It → Hp → Prop} (q : tl σ H fun v H1 => ∃ x, v = .str x ∧ R (Its x) H1) : iStr tl σ H R := q
theorem pi_str {X : Cx} {tg l : Expr} {tl : TE} (hl : PE X l tl) : PI X tg l (iStr tl) := by
 intro pins s σ H R I h
 refine thn (hl pins s σ H _ I h) fun v s1 ⟨x0, H1, I1, r1, q1⟩ => ?_
 obtain ⟨x, e, q⟩ := q1
 subst e
 obtain ⟨tk, rfl⟩ := r1
 cases ha : x.cps.all (· < 128)
 · refine wpAny_pyIter_wide ha ?_
   refine ⟨s1.heap.objs.size, [s1.heap.objs.size], _, _, H1, rfl, I1.kept (t' := s1.toks) fun b o e => Heap.get?_push_of_some _ e, turn_strW x tk _, ⟨_, Heap.get?_push_size _ rfl, rfl, rfl⟩, fun b hb => ?_, q⟩
   have e : b = s1.heap.objs.size := by simpa using hb
   subst e
   exact I1.fpOk (Nat.le_refl _) (I1.hok.fresh (Nat.le_refl _))
 · refine wpAny_pyIter_ascii ha ?_
   refine ⟨s1.heap.objs.size, [s1.heap.objs.size], _, _, H1, rfl, I1.kept (t' := s1.toks) fun b o e => Heap.get?_push_of_some _ e, turn_strA x tk _, ⟨_, Heap.get?_push_size _ rfl, rfl, rfl⟩, fun b hb => ?_, q⟩
   have e : b = s1.heap.objs.size := by simpa using hb
   subst e
   exact I1.fpOk (Nat.le_refl _) (I1.hok.fresh (Nat.le_refl _))
end L3
namespace L3
open PySem PySem.Spec PyProof.Rows L2 PySem.SeqAt PySem.NumText
section
variable {g : TG} {tc : TT} {te : TE} {fin : List V → Hp → Prop} {H : Hp}
theorem comp_str {σ0 : L2.St} {x : PySem.Str} (Pv : Nat → List V → L2.St → Hp → Prop) (h0 : Pv 0 [] σ0 H) (hl : ∀ i ys σ H, i ≤ x.cps.toList.length → Pv i ys σ H → ys.length ≤ sizeLine)
   (hs : ∀ i c ys σ H, x.cps.toList[i]? = some c → Pv i ys σ H → g (.str ⟨#[c]⟩) σ H fun σ3 H3 => tc σ3 H3 fun b H4 => if b = true then te σ3 H4 fun y H5 => Pv (i + 1) (ys ++ [y]) σ3 H5 else Pv (i + 1) ys σ3 H4)
   (hd : ∀ ys σ H, Pv x.cps.toList.length ys σ H → fin ys H) : CompW (Its x) g tc te fin σ0 H := by
 refine ⟨fun i m ys σ H => m = x.cps.toList.length - i ∧ i ≤ x.cps.toList.length ∧ Pv i ys σ H, ⟨x.cps.toList.length, by simp, Nat.zero_le _, h0⟩, ?_⟩
 rintro i m ys σ H ⟨rfl, hi, p⟩
 by_cases hlt : i < x.cps.toList.length
 · refine .inr ⟨⟨x.cps.toList[i], by rw [← Array.getElem?_toList]; exact List.getElem?_eq_getElem hlt⟩, Pv (i + 1), fun ys2 σ2 H2 p' => ⟨hl (i + 1) ys2 σ2 H2 hlt p', x.cps.toList.length - (i + 1), by omega, rfl, hlt, p'⟩, fun v H2 y => ?_⟩
   obtain ⟨e, c, hc, rfl⟩ := y
   subst e
   exact hs i c ys σ _ (by rw [Array.getElem?_toList]; exact hc) p
 · have e : i = x.cps.toList.length := by omega
   subst e
   exact .inl ⟨by show x.cps[_]? = none; rw [← Array.getElem?_toList]; exact List.getElem?_eq_none (Nat.le_refl _), hl _ ys σ H hi p, hd ys σ H p⟩
end
def rStrOf : List V → Hp → VK → Prop := fun xs H Q => (∃ i, xs = [.int i] ∧ i.natAbs.log2 < 1920 ∧ Q (.str (toString i)) H) ∨ ∃ x, xs = [.str x] ∧ Q (.str x) H
theorem call_strA {X : Cx} : CallR X (.type "str") rStrOf := by
 intro pins s σ H xs us Q I r h
 rcases h with h | ⟨x, rfl, q⟩
 · exact call_str_int pins s σ H xs us Q I r h
 · obtain ⟨u, rfl, t, rfl⟩ := vals1 r
   exact PySem.P.str_of_str ⟨.str x, H, I, ⟨_, rfl⟩, q⟩
def rInS : R2 := fun x y H Q => ∃ c j, x = .str ⟨#[c]⟩ ∧ y = .str j ∧ Q (.bl (decide (c ∈ j.cps.toList))) H
theorem op_inS {X : Cx} : OpR X (compareOp .In) rInS := by
 intro pins s σ H x y v u Q I rx ry h
 obtain ⟨c, j, rfl, rfl, q⟩ := h
 exact op_in_str pins s σ H _ _ v u Q I rx ry ⟨_, j, rfl, rfl, by rw [PySem.StrLaws.found_one]; exact q⟩
def numS (n : Int) : PySem.Str := PySem.Str.ofString (toString n)
theorem numS_signs (m : Nat) : (numS (m : Int)).cps.toList = (Nat.toDigits 10 m).map Char.toNat := PySem.W.KIN.signs_num m
theorem numS_digits {n : Int} (h0 : 0 ≤ n) : AllDigits (numS n).cps.toList := by
 obtain ⟨m, rfl⟩ := Int.eq_ofNat_of_zero_le h0
 intro c hc
 rw [numS_signs] at hc
 obtain ⟨ch, hch, e⟩ := List.mem_map.mp hc
 rw [← e]
 exact digit_range (Nat.isDigit_of_mem_toDigits (by decide) (by decide) hch)
theorem numS_ne {n : Int} (h0 : 0 ≤ n) : (numS n).cps.toList ≠ [] := by
 obtain ⟨m, rfl⟩ := Int.eq_ofNat_of_zero_le h0
 rw [numS_signs]
 intro e
 have h := PySem.toDigits_len_ge 10 m
 rw [List.map_eq_nil_iff.mp e] at h
 exact absurd h (by decide)
theorem numS_len {n : Int} (h0 : 0 ≤ n) (h1 : n < 10 ^ 10) : (numS n).length ≤ 10 := PySem.W.KT.len_num h0 h1
theorem numS_reads {n : Int} (h0 : 0 ≤ n) (h1 : n < 10 ^ 10) : PySem.intText? (numS n) = some n := PySem.W.KIN.num_reads h0 h1
theorem toDigits_head : ∀ (m : Nat), 0 < m → ∀ r, (Nat.toDigits 10 m).map Char.toNat ≠ 48 :: r := by
 intro m
 induction m using Nat.strongRecOn with
 | _ m ih =>
   intro hm r
   by_cases h : m < 10
   · rw [Nat.toDigits_of_lt_base h]
     intro e
     have e1 : (Nat.digitChar m).toNat = 48 := (List.cons.inj e).1
     have := PySem.W.KIN.digit_back m h
     omega
   · have hm : m % 10 < 10 := Nat.mod_lt m (by decide)
     have t : Nat.toDigits 10 (m / 10) ++ Nat.toDigits 10 (m % 10) = Nat.toDigits 10 (10 * (m / 10) + m % 10) := Nat.toDigits_append_toDigits (by decide) (by omega) hm
     rw [Nat.div_add_mod] at t
     rw [← t, List.map_append]
     have k := ih (m / 10) (by omega) (by omega)
     cases hh : (Nat.toDigits 10 (m / 10)).map Char.toNat with
     | nil =>
       have h := PySem.toDigits_len_ge 10 (m / 10)
       rw [List.map_eq_nil_iff.mp hh] at h
       exact absurd h (by decide)
     | cons c r' =>
       intro e
       have e1 : c = 48 := (List.cons.inj e).1
       rw [e1] at hh
       exact k r' hh
theorem numS_head {n : Int} (h0 : 0 ≤ n) {r : List Nat} (e : (numS n).cps.toList = 48 :: r) : n = 0 := by
 obtain ⟨m, rfl⟩ := Int.eq_ofNat_of_zero_le h0
 rw [numS_signs] at e
 by_cases hm : m = 0
 · rw [hm]; rfl
 · exact absurd e (toDigits_head m (by omega) r)
theorem numS_free {n : Int} {c : Nat} (h0 : 0 ≤ n) (hc : c < 48 ∨ 57 < c) : c ∉ (numS n).cps.toList := fun h => by
 have := numS_digits h0 c h
 omega
end L3
namespace FB
open PySem PySem.Spec PyProof.Rows L2 L3 PySem.SeqAt
local macro_rules | `(tactic| walk_at "clok") => `(tactic| repeat (first | exact True.intro | refine ⟨rfl, ?_⟩))
local macro_rules | `(tactic| walk_at "frok") => `(tactic| repeat (first | exact True.intro | refine ⟨⟨rfl, (by first | exact Or.inl rfl | exact Or.inr rfl), (by first | exact Or.inl rfl | exact Or.inr rfl), rfl⟩, ?_⟩))
local macro_rules | `(tactic| walk_at "hlk") => `(tactic| first | (with_reducible assumption) | (exact upd_same) | ((with_reducible refine' look_new ?x ?y); (case y => with_reducible assumption); (case x => walk_at "hlk")) | ((fail_if_success (((with_reducible refine' look_new ?x ?y); (case y => with_reducible assumption)))); (with_reducible refine' look_ne ?x ?y); (case x => walk_at "ne"); (case y => walk_at "hlk")) | ((with_reducible refine' same_at ?x ?y); (case x => with_reducible assumption); (case y => walk_at "hlk")))
local macro_rules | `(tactic| walk_at "ne") => `(tactic| first | (with_reducible assumption) | (apply Ne.symm; (with_reducible assumption)) | ((with_reducible refine' ne_of_none ?x ?y); (case y => with_reducible assumption); (case x => walk_at "hlk")) | (apply Ne.symm; (with_reducible refine' ne_of_none ?x ?y); (case y => with_reducible assumption); (case x => walk_at "hlk")))
local macro_rules | `(tactic| walk_at "sql") => `(tactic| first | (with_reducible assumption) | (refine' SqL.of ?x; (case x => first | (with_reducible assumption) | (exact upd_same))) | ((with_reducible refine' sql_new ?x ?y); (case y => with_reducible assumption); (case x => walk_at "sql")) | ((fail_if_success (((with_reducible refine' sql_new ?x ?y); (case y => with_reducible assumption)))); first | ((with_reducible refine' sql_upd ?s ?h ?q); (case h => with_reducible assumption); (case s => walk_at "same"); (case q => walk_at "sql")) | (refine' SqL.of ?x; (case x => (with_reducible refine' look_ne ?x2 ?y2); (case x2 => walk_at "ne"); (case y2 => walk_at "hlk")))) | ((with_reducible refine' Same.seq ?x ?y); (case x => with_reducible assumption); (case y => walk_at "sql")))
local macro_rules | `(tactic| walk_at "sqt") => `(tactic| first | (with_reducible assumption) | (refine' SqT.of ?x; (case x => first | (with_reducible assumption) | (exact upd_same))) | ((with_reducible refine' sqt_new ?x ?y); (case y => with_reducible assumption); (case x => walk_at "sqt")) | ((fail_if_success (((with_reducible refine' sqt_new ?x ?y); (case y => with_reducible assumption)))); first | ((with_reducible refine' sqt_upd ?s ?h ?q); (case h => with_reducible assumption); (case s => walk_at "same"); (case q => walk_at "sqt")) | (refine' SqT.of ?x; (case x => (with_reducible refine' look_ne ?x2 ?y2); (case x2 => walk_at "ne"); (case y2 => walk_at "hlk")))) | ((with_reducible refine' SqT_same ?x ?y); (case x => with_reducible assumption); (case y => walk_at "sqt")))
local macro_rules | `(tactic| walk_at "lk") => `(tactic| first | (with_reducible exact look_hit) | (refine' look_of ?x ?y; (case x => decide +kernel); (case y => walk_at "lk")) | exact look_hit)
local macro_rules | `(tactic| walk_at "nolk") => `(tactic| first | (with_reducible rfl) | (refine' look_no ?x ?y; (case x => decide +kernel); (case y => walk_at "nolk")) | rfl)
local macro_rules | `(tactic| walk_at "fewf") => `(tactic| first | exact Nat.lt_of_le_of_lt (Nat.le_refl 0) (by decide) | exact Nat.lt_of_le_of_lt (len_of (Nat.le_refl 0)) (by decide) | exact Nat.lt_of_le_of_lt (len_of (len_of (Nat.le_refl 0))) (by decide) | exact Nat.lt_of_le_of_lt (len_of (len_of (len_of (Nat.le_refl 0)))) (by decide))
local macro_rules | `(tactic| walk_at "small") => `(tactic| first | exact Nat.le_of_ble_eq_true rfl | (show _ ≤ sizeLine; rw [sizeLine_eq]; first | omega | (simp only [List.length_map, List.length_cons, List.length_nil, List.length_append, List.length_replicate, List.length_set, List.length_range]; omega)))
local macro_rules | `(tactic| walk_at "r1") => `(tactic| with_reducible first
 | refine r_var (by with_unfolding_all rfl) ?_
 | refine r_c ?_ | refine r_op ?_ | refine r_I0 ?_ | refine r_plusI ?_ | refine r_seq ?_ | refine r_asg ?_ | (refine' r_gN ?x ?_; (case x => simp only [List.set_cons_succ, List.set_cons_zero]; rfl)) | refine r_ret ?_ | refine r_ifS ?_ | refine r_test ?_
 | refine r_cons ?_ | refine r_nil ?_ | refine r_cb ?_ | refine r_callE ?_ | refine r_makeE ?_ | refine r_methE ?_ | refine r_fld ?_ | refine r_tru ?_ | refine r_truB ?_ | refine r_truI ?_
 | refine r_not ?_ | refine r_and ?_ | refine r_or ?_ | refine r_next ?_ | refine r_drop ?_ | refine r_sFld ?_ | refine r_retN ?_ | refine r_un ?_ | refine r_U ?_ | refine r_if ?_
 | refine r_andV ?_ | refine r_orV ?_ | refine r_notV ?_ | refine r_sl ?_ | refine r_part ?_ | refine r_noPart ?_ | refine r_bm ?_ | refine r_bm0 ?_ | refine r_tup ?_ | refine r_lst ?_ | refine r_two ?_
 | (refine' r_compE' ?x ?_; (case x => with_unfolding_all rfl)) | (refine' r_compS' ?x ?_; (case x => with_unfolding_all rfl)) | refine r_for ?_ | refine r_iSeq ?_ | refine r_rng1 ?_ | refine r_rng2 ?_ | refine r_true ?_
 | refine r_isNr ?_ | refine r_isNn ?_ | refine r_isNi ?_ | refine r_notNr ?_ | refine r_notNn ?_ | refine r_notNi ?_
 | refine iteT ?_ | refine iteF ?_ | refine iteNT ?_ | refine iteNF ?_
 | refine ⟨_, rfl, ?_⟩)
local macro_rules | `(tactic| walk_at "r2") => `(tactic| first
 | ((with_reducible refine' r_fldV ?h ?c ?n ?l ?_); (case h => walk_at "hlk"); (case c => walk_at "cls"); (case n => walk_at "noat"); (case l => walk_at "lk"))
 | ((with_reducible refine' r_sFldV ?h ?c ?n ?l ?_); (case h => walk_at "hlk"); (case c => walk_at "cls"); (case n => walk_at "noat"); (case l => walk_at "fewf"))
 | ((with_reducible refine' r_lenI ?h ?_); (case h => walk_at "sql"))
 | ((with_reducible refine' r_lenL ?h ?_); (case h => walk_at "sql"))
 | ((with_reducible refine' r_lenT ?h ?_); (case h => walk_at "sqt"))
 | ((with_reducible refine' r_listL ?h ?_); (case h => walk_at "sql"))
 | ((with_reducible refine' r_listT ?h ?_); (case h => walk_at "sqt"))
 | ((with_reducible refine' r_eqS ?h ?_); (case h => rfl))
 | ((with_reducible refine' r_neS ?h ?_); (case h => rfl)))
local macro_rules | `(tactic| walk_at "none") => `(tactic| first | (with_reducible assumption) | ((with_reducible refine' none_same ?x ?y); (case y => with_reducible assumption); (case x => walk_at "same")))
local macro_rules | `(tactic| walk_at "same") => `(tactic| first | (with_reducible assumption) | (with_reducible exact Same.refl _) | ((with_reducible refine' same_none ?x ?y); (case y => with_reducible assumption); (case x => walk_at "same")) | ((fail_if_success (((with_reducible refine' same_none ?x ?y); (case y => with_reducible assumption)))); (with_reducible refine' same_upd ?x ?y); (case y => walk_at "none"); (case x => walk_at "same")) | ((with_reducible refine' Same.trans ?x ?y); (case y => with_reducible assumption); (case x => walk_at "same")))
local macro_rules | `(tactic| walk_at "tt") => `(tactic| first | assumption | omega | with_unfolding_all rfl | decide | (simp only [List.length_map, List.length_cons, List.length_nil, List.length_append, List.length_replicate, List.length_set, sI_len]; omega))
local macro_rules | `(tactic| walk_at "nn") => `(tactic| first | assumption | omega | decide | (simp only [List.length_map, List.length_cons, List.length_nil, List.length_append, List.length_replicate, List.length_set, sI_len]; omega))
local macro_rules | `(tactic| walk_at "cond") => `(tactic| first
 | ((with_reducible refine' r_I ?h ?_); (case h => first | exact ⟨by decide, by decide⟩ | (show (0 : Int) < _; first | decide | omega) | (show (0 : Int) ≤ _; first | decide | omega)))
 | ((with_reducible refine' r_ifB ?x ?_); (case x => intro hh; exact absurd hh (by decide)); intro _)
 | ((with_reducible refine' r_ifB ?_ ?x); (case x => intro hh; exact absurd hh (by decide)); intro _)
 | ((with_reducible refine' ifInt ?x ?_); (case x => intro hh; exact absurd hh (by walk_at "nn")); intro _)
 | ((with_reducible refine' ifInt ?_ ?x); (case x => intro hh; exact absurd (by walk_at "tt") hh); intro _)
 | ((with_reducible refine' ifIntN ?x ?_); (case x => intro hh; exact absurd (by walk_at "tt") hh); intro _)
 | ((with_reducible refine' ifIntN ?_ ?x); (case x => intro hh; exact absurd hh (by walk_at "nn")); intro _)
 | ((with_reducible refine' ifDec ?x ?_); (case x => intro hh; exact absurd hh (by walk_at "nn")); intro _)
 | ((with_reducible refine' ifDec ?_ ?x); (case x => intro hh; exact absurd (by walk_at "tt") hh); intro _)
 | ((with_reducible refine' ifDecN ?x ?_); (case x => intro hh; exact absurd (by walk_at "tt") hh); intro _)
 | ((with_reducible refine' ifDecN ?_ ?x); (case x => intro hh; exact absurd hh (by walk_at "nn")); intro _))
local macro_rules | `(tactic| walk_at "at") => `(tactic| first | assumption | ((with_reducible refine' gI_at ?x ?y); (case x => walk_at "tt"); (case y => walk_at "tt")) | ((with_reducible refine' gI_neg ?x ?y); (case x => walk_at "tt"); (case y => walk_at "tt")) | rfl)
local macro_rules | `(tactic| walk_at "calls") => `(tactic| first
 | ((with_reducible refine' r_bounded ?a ?b ?_); (case a => omega); (case b => omega))
 | ((with_reducible refine' r_withBox ?h ?a ?b ?_); (case h => walk_at "sql"); (case a => omega); (case b => omega))
 | ((with_reducible refine' r_cellAt ?h ?a ?_); (case h => walk_at "sql"); (case a => omega))
 | (with_reducible refine r_whole ?_) | (with_reducible refine r_without ?_) | (with_reducible refine r_filled ?_)
 | ((with_reducible refine' r_boxPl ?a ?b ?_); (case a => omega); (case b => omega))
 | ((with_reducible refine' r_cellPl ?a ?b ?c ?_); (case a => omega); (case b => omega); (case c => omega))
 | ((with_reducible refine' r_setI ?x ?y ?z ?_); (case x => walk_at "hlk"); (case y => walk_at "tt"); (case z => walk_at "tt"))
 | ((with_reducible refine' r_setIN ?x ?y ?z ?_); (case x => walk_at "hlk"); (case y => walk_at "tt"); (case z => walk_at "tt"))
 | ((with_reducible refine' r_ixT ?h ?e ?_); (case h => walk_at "sqt"); (case e => walk_at "at"))
 | ((with_reducible refine' r_ixL ?h ?e ?_); (case h => walk_at "sql"); (case e => walk_at "at"))
 | (with_reducible refine r_gSub ?_))
local macro_rules | `(tactic| walk_at "ty") => `(tactic| first | (with_reducible exact TyOf.int _) | (with_reducible exact TyOf.bl _) | (with_reducible exact TyOf.str _) | (with_reducible exact TyOf.non) | (refine' TyOf.lst ?x; (case x => walk_at "hlk")) | (refine' TyOf.tup ?x; (case x => walk_at "hlk")))
local macro_rules | `(tactic| walk_at "dp") => `(tactic| first | (with_reducible exact dp_int _) | (with_reducible exact dp_str _) | (with_reducible exact dp_bool _) | (with_reducible exact dp_none) | ((with_reducible refine' dp_ints ?x); (case x => walk_at "sql")) | ((with_reducible refine' dp_lst ?x ?y); (case x => walk_at "sql"); (case y => walk_at "dps")) | ((with_reducible refine' dp_tup ?x ?y); (case x => walk_at "sqt"); (case y => walk_at "dps")))
local macro_rules | `(tactic| walk_at "dps") => `(tactic| first | (with_reducible exact dpAll_nil) | ((with_reducible refine' dpAll_cons ?x ?y); (case x => walk_at "dp"); (case y => walk_at "dps")))
local macro_rules | `(tactic| walk_at "shaped") => `(tactic| first | exact shaped_ints _ | (unfold shaped; simp [PyData.canLay0, PyData.canLayAll0, canLay_ints, PyData.depth, PyData.depthAll, depth_ints]))
local macro_rules | `(tactic| walk_at "eqd") => `(tactic| first
 | ((with_reducible refine' r_eqT ?d ?x ?y ?s ?_); (case x => walk_at "dp"); (case y => walk_at "dp"); (case s => walk_at "shaped"))
 | ((with_reducible refine' r_neT ?d ?x ?y ?s ?_); (case x => walk_at "dp"); (case y => walk_at "dp"); (case s => walk_at "shaped")))
local macro_rules | `(tactic| walk_at "r3") => `(tactic| first
 | (with_reducible refine r_alloc (fun _ _ => ?_))
 | ((with_reducible refine' r_small ?x ?_); (case x => walk_at "small"))
 | ((with_reducible refine' r_62 ?x ?y ?_); (case x => walk_at "tt"); (case y => walk_at "tt"))
 | ((with_reducible refine' r_62b ?x ?y ?z ?u ?_); (case x => walk_at "tt"); (case y => walk_at "tt"); (case z => walk_at "tt"); (case u => walk_at "tt"))
 | ((with_reducible refine' r_itL ?x ?_); (case x => walk_at "sql"))
 | ((with_reducible refine' r_itT ?x ?_); (case x => walk_at "sqt"))
 | ((with_reducible refine' r_slI ?x ?_); (case x => walk_at "sql"))
 | ((with_reducible refine' r_slL ?x ?_); (case x => walk_at "sql"))
 | ((with_reducible refine' r_timesZ ?x ?y ?z ?_); (case x => walk_at "hlk"); (case y => walk_at "tt"); (case z => walk_at "tt"))
 | ((with_reducible refine' r_plusII ?x ?y ?z ?_); (case x => walk_at "hlk"); (case y => walk_at "hlk"); (case z => walk_at "small"))
 | ((with_reducible refine' r_tyL ?x ?_); (case x => walk_at "hlk"))
 | ((with_reducible refine' r_timesI ?h ?_); (case h => walk_at "cmul"))
 | ((with_reducible refine' r_sum ?h ?_); (case h => walk_at "sql"))
 | ((with_reducible refine' r_inT ?h ?x ?y ?_); (case h => walk_at "sqt"); (case x => rfl); (case y => rfl))
 | ((with_reducible refine' r_clear ?x ?_); (case x => walk_at "hlk"))
 | ((with_reducible refine' r_append ?x ?y ?_); (case x => walk_at "hlk"); (case y => walk_at "small"))
 | ((with_reducible refine' r_isi ?c ?t ?e ?_); (case c => exact fun z => nomatch z); (case t => walk_at "ty"); (case e => walk_at "kit")))
local macro_rules | `(tactic| walk_at "rd") => `(tactic| repeat (first | walk_at "r1" | walk_at "r3" | walk_at "r2" | walk_at "cond" | walk_at "calls" | walk_at "mine"))
local macro_rules | `(tactic| walk_at "rds") => `(tactic| repeat' (first | walk_at "r1" | walk_at "r3" | walk_at "r2" | walk_at "cond" | walk_at "calls" | walk_at "mine" | walk_at "cs"))
local macro_rules | `(tactic| walk_at "sp") => `(tactic| (repeat' split) <;> first | assumption | rfl | (exfalso; omega))
local macro_rules | `(tactic| walk_at "rok") => `(tactic| first | assumption | exact ⟨by omega, by omega⟩)
local macro_rules | `(tactic| walk_at "cmul") => `(tactic| first | exact Or.inl ⟨by decide, by decide⟩ | exact Or.inr ⟨by decide, by decide⟩ | exact Or.inl ⟨by omega, by omega⟩ | exact Or.inr ⟨by omega, by omega⟩)
set_option hygiene false
local macro_rules | `(tactic| walk_at "cs") => `(tactic| with_reducible first | refine ifInt (fun hh => ?_) (fun hh => ?_) | refine ifIntN (fun hh => ?_) (fun hh => ?_) | refine ifDec (fun hh => ?_) (fun hh => ?_) | refine ifDecN (fun hh => ?_) (fun hh => ?_) | (refine' r_ixDi ?h (fun hh => ?_) (fun hh => ?_); (case h => walk_at "sql")) | (refine' r_ixD ?h (fun hh => ?_) (fun hh => ?_); (case h => walk_at "sql")))
local macro_rules | `(tactic| walk_at "tf") => `(tactic| (show Q _ _; refine' q _ _ _ _ ?zs ?znt ?znb ?znp ?ze1 ?ze2 ?ze3 ?zt ?zb ?zp; (case zt => walk_at "hlk"); (case zb => walk_at "hlk"); (case zp => walk_at "hlk"); (case zs => walk_at "same"); (case znt => walk_at "none"); (case znb => walk_at "none"); (case znp => walk_at "none"); (case ze1 => walk_at "ne"); (case ze2 => walk_at "ne"); (case ze3 => walk_at "ne")))
local macro_rules | `(tactic| walk_at "cls") => `(tactic| first | assumption | exact T.cl_Drop | exact T.cl_Grow | exact T.cl_Shrink | exact T.cl_Jump | exact T.cl_Call | exact T.cl_Back | exact T.cl_Branch | exact T.cl_Set | exact T.cl_Copy | exact T.cl_Put | exact T.cl_Get | exact T.cl_Less | exact T.cl_Add | exact T.cl_Sub | exact T.cl_Mul)
local macro_rules | `(tactic| walk_at "noat") => `(tactic| first | assumption | exact T.n_Drop_box | exact T.n_Grow_many | exact T.n_Shrink_many | exact T.n_Jump_target | exact T.n_Call_target | exact T.n_Back_box | exact T.n_Branch_box | exact T.n_Branch_target | exact T.n_Set_box | exact T.n_Set_number | exact T.n_Copy_box | exact T.n_Copy_one | exact T.n_Put_box | exact T.n_Put_cell | exact T.n_Get_box | exact T.n_Get_cell | exact T.n_Less_box | exact T.n_Less_one | exact T.n_Less_other | exact T.n_Add_box | exact T.n_Add_one | exact T.n_Add_other | exact T.n_Sub_box | exact T.n_Sub_one | exact T.n_Sub_other | exact T.n_Mul_box | exact T.n_Mul_one | exact T.n_Mul_other)
local macro_rules | `(tactic| walk_at "kit") => `(tactic| first | assumption | exact T.k_str_str | exact T.k_list_list | exact T.is_Set_Row | exact T.is_Copy_Row | exact T.is_Add_Row | exact T.is_Sub_Row | exact T.is_Mul_Row | exact T.is_Less_Row | exact T.is_Grow_Row | exact T.is_Shrink_Row | exact T.is_Put_Row | exact T.is_Get_Row | exact T.is_Jump_Row | exact T.is_Branch_Row | exact T.is_Call_Row | exact T.is_Back_Row | exact T.is_Drop_Row)
set_option hygiene true
def top (i : Nat) : Stmt := PySem.Challenge.pw_frameback_k09_code_as_text.main.body.getD i (.Pass ⟨0, 0, 0, 0⟩)
abbrev s_bounded : Stmt := top 11
theorem sc_bounded : FnScope ["number", "top"] ["number", "top"] (defScope s_bounded) := ⟨rfl, rfl, rfl, by decide +kernel, rfl, by decide +kernel, by decide +kernel⟩
abbrev s_is_number : Stmt := top 15
theorem sc_is_number : FnScope ["word"] ["word"] (defScope s_is_number) := ⟨rfl, rfl, rfl, by decide +kernel, rfl, by decide +kernel, by decide +kernel⟩
abbrev s_read_number : Stmt := top 16
theorem sc_read_number : FnScope ["word"] ["word"] (defScope s_read_number) := ⟨rfl, rfl, rfl, by decide +kernel, rfl, by decide +kernel, by decide +kernel⟩
abbrev s_Set_init : Stmt := inClass (top 19) 0
theorem sc_Set_init : FnScope ["self", "box", "number"] ["self", "box", "number"] (defScope s_Set_init) := ⟨rfl, rfl, rfl, by decide +kernel, rfl, by decide +kernel, by decide +kernel⟩
abbrev s_Set_told : Stmt := inClass (top 19) 3
theorem sc_Set_told : FnScope ["self"] ["self"] (defScope s_Set_told) := ⟨rfl, rfl, rfl, by decide +kernel, rfl, by decide +kernel, by decide +kernel⟩
abbrev s_Copy_init : Stmt := inClass (top 20) 0
theorem sc_Copy_init : FnScope ["self", "box", "one"] ["self", "box", "one"] (defScope s_Copy_init) := ⟨rfl, rfl, rfl, by decide +kernel, rfl, by decide +kernel, by decide +kernel⟩
abbrev s_Copy_told : Stmt := inClass (top 20) 3
theorem sc_Copy_told : FnScope ["self"] ["self"] (defScope s_Copy_told) := ⟨rfl, rfl, rfl, by decide +kernel, rfl, by decide +kernel, by decide +kernel⟩
abbrev s_Reckoning_init : Stmt := inClass (top 21) 0
theorem sc_Reckoning_init : FnScope ["self", "box", "one", "other"] ["self", "box", "one", "other"] (defScope s_Reckoning_init) := ⟨rfl, rfl, rfl, by decide +kernel, rfl, by decide +kernel, by decide +kernel⟩
abbrev s_Add_told : Stmt := inClass (top 22) 1
theorem sc_Add_told : FnScope ["self"] ["self"] (defScope s_Add_told) := ⟨rfl, rfl, rfl, by decide +kernel, rfl, by decide +kernel, by decide +kernel⟩
abbrev s_Sub_told : Stmt := inClass (top 23) 1
theorem sc_Sub_told : FnScope ["self"] ["self"] (defScope s_Sub_told) := ⟨rfl, rfl, rfl, by decide +kernel, rfl, by decide +kernel, by decide +kernel⟩
abbrev s_Mul_told : Stmt := inClass (top 24) 1
theorem sc_Mul_told : FnScope ["self"] ["self"] (defScope s_Mul_told) := ⟨rfl, rfl, rfl, by decide +kernel, rfl, by decide +kernel, by decide +kernel⟩
abbrev s_Less_told : Stmt := inClass (top 25) 1
theorem sc_Less_told : FnScope ["self"] ["self"] (defScope s_Less_told) := ⟨rfl, rfl, rfl, by decide +kernel, rfl, by decide +kernel, by decide +kernel⟩
abbrev s_Grow_init : Stmt := inClass (top 26) 0
theorem sc_Grow_init : FnScope ["self", "many"] ["self", "many"] (defScope s_Grow_init) := ⟨rfl, rfl, rfl, by decide +kernel, rfl, by decide +kernel, by decide +kernel⟩
abbrev s_Grow_told : Stmt := inClass (top 26) 3
theorem sc_Grow_told : FnScope ["self"] ["self"] (defScope s_Grow_told) := ⟨rfl, rfl, rfl, by decide +kernel, rfl, by decide +kernel, by decide +kernel⟩
abbrev s_Shrink_init : Stmt := inClass (top 27) 0
theorem sc_Shrink_init : FnScope ["self", "many"] ["self", "many"] (defScope s_Shrink_init) := ⟨rfl, rfl, rfl, by decide +kernel, rfl, by decide +kernel, by decide +kernel⟩
abbrev s_Shrink_told : Stmt := inClass (top 27) 4
theorem sc_Shrink_told : FnScope ["self"] ["self"] (defScope s_Shrink_told) := ⟨rfl, rfl, rfl, by decide +kernel, rfl, by decide +kernel, by decide +kernel⟩
abbrev s_Reaching_init : Stmt := inClass (top 28) 0
theorem sc_Reaching_init : FnScope ["self", "box", "cell"] ["self", "box", "cell"] (defScope s_Reaching_init) := ⟨rfl, rfl, rfl, by decide +kernel, rfl, by decide +kernel, by decide +kernel⟩
abbrev s_Put_told : Stmt := inClass (top 29) 2
theorem sc_Put_told : FnScope ["self"] ["self"] (defScope s_Put_told) := ⟨rfl, rfl, rfl, by decide +kernel, rfl, by decide +kernel, by decide +kernel⟩
abbrev s_Get_told : Stmt := inClass (top 30) 2
theorem sc_Get_told : FnScope ["self"] ["self"] (defScope s_Get_told) := ⟨rfl, rfl, rfl, by decide +kernel, rfl, by decide +kernel, by decide +kernel⟩
abbrev s_Jump_init : Stmt := inClass (top 32) 0
theorem sc_Jump_init : FnScope ["self", "target"] ["self", "target"] (defScope s_Jump_init) := ⟨rfl, rfl, rfl, by decide +kernel, rfl, by decide +kernel, by decide +kernel⟩
abbrev s_Jump_told : Stmt := inClass (top 32) 3
theorem sc_Jump_told : FnScope ["self"] ["self"] (defScope s_Jump_told) := ⟨rfl, rfl, rfl, by decide +kernel, rfl, by decide +kernel, by decide +kernel⟩
abbrev s_Branch_init : Stmt := inClass (top 33) 0
theorem sc_Branch_init : FnScope ["self", "box", "target"] ["self", "box", "target"] (defScope s_Branch_init) := ⟨rfl, rfl, rfl, by decide +kernel, rfl, by decide +kernel, by decide +kernel⟩
abbrev s_Branch_told : Stmt := inClass (top 33) 3
theorem sc_Branch_told : FnScope ["self"] ["self"] (defScope s_Branch_told) := ⟨rfl, rfl, rfl, by decide +kernel, rfl, by decide +kernel, by decide +kernel⟩
abbrev s_Call_init : Stmt := inClass (top 34) 0
theorem sc_Call_init : FnScope ["self", "target"] ["self", "target"] (defScope s_Call_init) := ⟨rfl, rfl, rfl, by decide +kernel, rfl, by decide +kernel, by decide +kernel⟩
abbrev s_Call_told : Stmt := inClass (top 34) 3
theorem sc_Call_told : FnScope ["self"] ["self"] (defScope s_Call_told) := ⟨rfl, rfl, rfl, by decide +kernel, rfl, by decide +kernel, by decide +kernel⟩
abbrev s_Back_init : Stmt := inClass (top 35) 0
theorem sc_Back_init : FnScope ["self", "box"] ["self", "box"] (defScope s_Back_init) := ⟨rfl, rfl, rfl, by decide +kernel, rfl, by decide +kernel, by decide +kernel⟩
abbrev s_Back_told : Stmt := inClass (top 35) 3
theorem sc_Back_told : FnScope ["self"] ["self"] (defScope s_Back_told) := ⟨rfl, rfl, rfl, by decide +kernel, rfl, by decide +kernel, by decide +kernel⟩
abbrev s_Drop_init : Stmt := inClass (top 36) 0
theorem sc_Drop_init : FnScope ["self", "box"] ["self", "box"] (defScope s_Drop_init) := ⟨rfl, rfl, rfl, by decide +kernel, rfl, by decide +kernel, by decide +kernel⟩
abbrev s_Drop_told : Stmt := inClass (top 36) 3
theorem sc_Drop_told : FnScope ["self"] ["self"] (defScope s_Drop_told) := ⟨rfl, rfl, rfl, by decide +kernel, rfl, by decide +kernel, by decide +kernel⟩
abbrev s_made_of_one : Stmt := top 39
theorem sc_made_of_one : FnScope ["word", "number"] ["word", "number"] (defScope s_made_of_one) := ⟨rfl, rfl, rfl, by decide +kernel, rfl, by decide +kernel, by decide +kernel⟩
abbrev s_made_of_two : Stmt := top 40
theorem sc_made_of_two : FnScope ["word", "first", "second"] ["word", "first", "second"] (defScope s_made_of_two) := ⟨rfl, rfl, rfl, by decide +kernel, rfl, by decide +kernel, by decide +kernel⟩
abbrev s_made_of_three : Stmt := top 41
theorem sc_made_of_three : FnScope ["word", "first", "second", "third"] ["word", "first", "second", "third"] (defScope s_made_of_three) := ⟨rfl, rfl, rfl, by decide +kernel, rfl, by decide +kernel, by decide +kernel⟩
abbrev s_show_row : Stmt := top 42
theorem sc_show_row : FnScope ["row"] ["row"] (defScope s_show_row) := ⟨rfl, rfl, rfl, by decide +kernel, rfl, by decide +kernel, by decide +kernel⟩
abbrev s_show_code : Stmt := top 43
theorem sc_show_code : FnScope ["code"] ["code"] (defScope s_show_code) := ⟨rfl, rfl, rfl, by decide +kernel, rfl, by decide +kernel, by decide +kernel⟩
abbrev s_asked_for_text : Stmt := top 44
theorem sc_asked_for_text : FnScope ["text"] ["text"] (defScope s_asked_for_text) := ⟨rfl, rfl, rfl, by decide +kernel, rfl, by decide +kernel, by decide +kernel⟩
abbrev s_read_row : Stmt := top 45
theorem sc_read_row : FnScope ["text", "words", "word", "numbers"] ["text"] (defScope s_read_row) := ⟨rfl, rfl, rfl, by decide +kernel, rfl, by decide +kernel, by decide +kernel⟩
abbrev s_read_code : Stmt := top 46
theorem sc_read_code : FnScope ["text", "lines"] ["text"] (defScope s_read_code) := ⟨rfl, rfl, rfl, by decide +kernel, rfl, by decide +kernel, by decide +kernel⟩
abbrev s_law_cell_at : Stmt := top 48
theorem sc_law_cell_at : FnScope ["_law_script", "_law_k"] ["_law_script", "_law_k"] (defScope s_law_cell_at) := ⟨rfl, rfl, rfl, by decide +kernel, rfl, by decide +kernel, by decide +kernel⟩
abbrev s_law_number : Stmt := top 49
theorem sc_law_number : FnScope ["_law_cell", "_law_most"] ["_law_cell", "_law_most"] (defScope s_law_number) := ⟨rfl, rfl, rfl, by decide +kernel, rfl, by decide +kernel, by decide +kernel⟩
abbrev s_law_filling : Stmt := top 50
theorem sc_law_filling : FnScope ["_law_kind", "_law_cell", "_law_box", "_law_one", "_law_other", "_law_number_here"] ["_law_kind", "_law_cell"] (defScope s_law_filling) := ⟨rfl, rfl, rfl, by decide +kernel, rfl, by decide +kernel, by decide +kernel⟩
abbrev s_law_moving : Stmt := top 51
theorem sc_law_moving : FnScope ["_law_kind", "_law_cell", "_law_box", "_law_many"] ["_law_kind", "_law_cell"] (defScope s_law_moving) := ⟨rfl, rfl, rfl, by decide +kernel, rfl, by decide +kernel, by decide +kernel⟩
abbrev s_law_row : Stmt := top 52
theorem sc_law_row : FnScope ["_law_cell", "_law_kind", "_law_box", "_law_target"] ["_law_cell"] (defScope s_law_row) := ⟨rfl, rfl, rfl, by decide +kernel, rfl, by decide +kernel, by decide +kernel⟩
abbrev s_law_text : Stmt := top 53
theorem sc_law_text : FnScope ["_law_told"] ["_law_told"] (defScope s_law_text) := ⟨rfl, rfl, rfl, by decide +kernel, rfl, by decide +kernel, by decide +kernel⟩
abbrev s_law : Stmt := top 54
theorem sc_law : FnScope ["_law_script", "_law_cells", "_law_cell", "_law_pairs", "_law_code", "_law_told", "_law_texts", "_law_handed", "_law_shown", "_law_k", "_law_one", "_law_again", "_law_found"] ["_law_script"] (defScope s_law) := ⟨rfl, rfl, rfl, by decide +kernel, rfl, by decide +kernel, by decide +kernel⟩
structure Txt (w : World) (K : PySem.W.Frag) (mg : Str → Option Value) (a : Adr) : Prop where
 z_all : mg "all" = none
 z_int : mg "int" = none
 z_isinstance : mg "isinstance" = none
 z_len : mg "len" = none
 z_list : mg "list" = none
 z_range : mg "range" = none
 z_str : mg "str" = none
 s_COUNTS : mg "COUNTS" = some (.ref a.G_COUNTS)
 d_COUNTS : ConD w K a.G_COUNTS [("set", 2), ("copy", 2), ("add", 3), ("sub", 3), ("mul", 3), ("less", 3), ("grow", 1), ("shrink", 1), ("put", 2), ("get", 2), ("jump", 1), ("branch", 2), ("call", 1), ("back", 1), ("drop", 1)]
 g_FIGURES : ∃ t, mg "FIGURES" = some (Value.str "0123456789" t)
 g_MOST_FIGURES : ∃ t, mg "MOST_FIGURES" = some (Value.int 10 t)
 g_TOP_BOX : ∃ t, mg "TOP_BOX" = some (Value.int 7 t)
 g_TOP_CELLS : ∃ t, mg "TOP_CELLS" = some (Value.int 4000 t)
 g_TOP_ROWS : ∃ t, mg "TOP_ROWS" = some (Value.int 2000 t)
 g_TOP_TARGET : ∃ t, mg "TOP_TARGET" = some (Value.int 2000 t)
 g_TOP_VALUE : ∃ t, mg "TOP_VALUE" = some (Value.int 4294967295 t)
 c_Add : mg "Add" = some (.ref a.C_Add)
 c_Back : mg "Back" = some (.ref a.C_Back)
 c_Branch : mg "Branch" = some (.ref a.C_Branch)
 c_Call : mg "Call" = some (.ref a.C_Call)
 c_Copy : mg "Copy" = some (.ref a.C_Copy)
 c_Drop : mg "Drop" = some (.ref a.C_Drop)
 c_Get : mg "Get" = some (.ref a.C_Get)
 c_Grow : mg "Grow" = some (.ref a.C_Grow)
 c_Jump : mg "Jump" = some (.ref a.C_Jump)
 c_Less : mg "Less" = some (.ref a.C_Less)
 c_Mul : mg "Mul" = some (.ref a.C_Mul)
 c_NoRow : mg "NoRow" = some (.ref a.C_NoRow)
 c_NoText : mg "NoText" = some (.ref a.C_NoText)
 c_Put : mg "Put" = some (.ref a.C_Put)
 c_Row : mg "Row" = some (.ref a.C_Row)
 c_Set : mg "Set" = some (.ref a.C_Set)
 c_Shrink : mg "Shrink" = some (.ref a.C_Shrink)
 c_Sub : mg "Sub" = some (.ref a.C_Sub)
 cl_Drop : Cls K a.C_Drop
 n_Drop_box : NoAttr K a.C_Drop "box"
 i_Drop : ∃ f fd, Fun K "__init__" "Drop.__init__" s_Drop_init f fd ∧ Mk K a.C_Drop f ∧ Binds K fd ["self", "box"] []
 m_Drop_told : ∃ f fd, Fun K "told" "Drop.told" s_Drop_told f fd ∧ Meth K a.C_Drop "told" f ∧ Binds K fd ["self"] []
 cl_Grow : Cls K a.C_Grow
 n_Grow_many : NoAttr K a.C_Grow "many"
 i_Grow : ∃ f fd, Fun K "__init__" "Grow.__init__" s_Grow_init f fd ∧ Mk K a.C_Grow f ∧ Binds K fd ["self", "many"] []
 m_Grow_told : ∃ f fd, Fun K "told" "Grow.told" s_Grow_told f fd ∧ Meth K a.C_Grow "told" f ∧ Binds K fd ["self"] []
 cl_Shrink : Cls K a.C_Shrink
 n_Shrink_many : NoAttr K a.C_Shrink "many"
 i_Shrink : ∃ f fd, Fun K "__init__" "Shrink.__init__" s_Shrink_init f fd ∧ Mk K a.C_Shrink f ∧ Binds K fd ["self", "many"] []
 m_Shrink_told : ∃ f fd, Fun K "told" "Shrink.told" s_Shrink_told f fd ∧ Meth K a.C_Shrink "told" f ∧ Binds K fd ["self"] []
 cl_Jump : Cls K a.C_Jump
 n_Jump_target : NoAttr K a.C_Jump "target"
 i_Jump : ∃ f fd, Fun K "__init__" "Jump.__init__" s_Jump_init f fd ∧ Mk K a.C_Jump f ∧ Binds K fd ["self", "target"] []
 m_Jump_told : ∃ f fd, Fun K "told" "Jump.told" s_Jump_told f fd ∧ Meth K a.C_Jump "told" f ∧ Binds K fd ["self"] []
 cl_Call : Cls K a.C_Call
 n_Call_target : NoAttr K a.C_Call "target"
 i_Call : ∃ f fd, Fun K "__init__" "Call.__init__" s_Call_init f fd ∧ Mk K a.C_Call f ∧ Binds K fd ["self", "target"] []
 m_Call_told : ∃ f fd, Fun K "told" "Call.told" s_Call_told f fd ∧ Meth K a.C_Call "told" f ∧ Binds K fd ["self"] []
 cl_Back : Cls K a.C_Back
 n_Back_box : NoAttr K a.C_Back "box"
 i_Back : ∃ f fd, Fun K "__init__" "Back.__init__" s_Back_init f fd ∧ Mk K a.C_Back f ∧ Binds K fd ["self", "box"] []
 m_Back_told : ∃ f fd, Fun K "told" "Back.told" s_Back_told f fd ∧ Meth K a.C_Back "told" f ∧ Binds K fd ["self"] []
 cl_Branch : Cls K a.C_Branch
 n_Branch_box : NoAttr K a.C_Branch "box"
 n_Branch_target : NoAttr K a.C_Branch "target"
 i_Branch : ∃ f fd, Fun K "__init__" "Branch.__init__" s_Branch_init f fd ∧ Mk K a.C_Branch f ∧ Binds K fd ["self", "box", "target"] []
 m_Branch_told : ∃ f fd, Fun K "told" "Branch.told" s_Branch_told f fd ∧ Meth K a.C_Branch "told" f ∧ Binds K fd ["self"] []
 cl_Set : Cls K a.C_Set
 n_Set_box : NoAttr K a.C_Set "box"
 n_Set_number : NoAttr K a.C_Set "number"
 i_Set : ∃ f fd, Fun K "__init__" "Set.__init__" s_Set_init f fd ∧ Mk K a.C_Set f ∧ Binds K fd ["self", "box", "number"] []
 m_Set_told : ∃ f fd, Fun K "told" "Set.told" s_Set_told f fd ∧ Meth K a.C_Set "told" f ∧ Binds K fd ["self"] []
 cl_Copy : Cls K a.C_Copy
 n_Copy_box : NoAttr K a.C_Copy "box"
 n_Copy_one : NoAttr K a.C_Copy "one"
 i_Copy : ∃ f fd, Fun K "__init__" "Copy.__init__" s_Copy_init f fd ∧ Mk K a.C_Copy f ∧ Binds K fd ["self", "box", "one"] []
 m_Copy_told : ∃ f fd, Fun K "told" "Copy.told" s_Copy_told f fd ∧ Meth K a.C_Copy "told" f ∧ Binds K fd ["self"] []
 cl_Put : Cls K a.C_Put
 n_Put_box : NoAttr K a.C_Put "box"
 n_Put_cell : NoAttr K a.C_Put "cell"
 i_Put : ∃ f fd, Fun K "__init__" "Reaching.__init__" s_Reaching_init f fd ∧ Mk K a.C_Put f ∧ Binds K fd ["self", "box", "cell"] []
 m_Put_told : ∃ f fd, Fun K "told" "Put.told" s_Put_told f fd ∧ Meth K a.C_Put "told" f ∧ Binds K fd ["self"] []
 cl_Get : Cls K a.C_Get
 n_Get_box : NoAttr K a.C_Get "box"
 n_Get_cell : NoAttr K a.C_Get "cell"
 i_Get : ∃ f fd, Fun K "__init__" "Reaching.__init__" s_Reaching_init f fd ∧ Mk K a.C_Get f ∧ Binds K fd ["self", "box", "cell"] []
 m_Get_told : ∃ f fd, Fun K "told" "Get.told" s_Get_told f fd ∧ Meth K a.C_Get "told" f ∧ Binds K fd ["self"] []
 cl_Less : Cls K a.C_Less
 n_Less_box : NoAttr K a.C_Less "box"
 n_Less_one : NoAttr K a.C_Less "one"
 n_Less_other : NoAttr K a.C_Less "other"
 i_Less : ∃ f fd, Fun K "__init__" "Reckoning.__init__" s_Reckoning_init f fd ∧ Mk K a.C_Less f ∧ Binds K fd ["self", "box", "one", "other"] []
 m_Less_told : ∃ f fd, Fun K "told" "Less.told" s_Less_told f fd ∧ Meth K a.C_Less "told" f ∧ Binds K fd ["self"] []
 cl_Add : Cls K a.C_Add
 n_Add_box : NoAttr K a.C_Add "box"
 n_Add_one : NoAttr K a.C_Add "one"
 n_Add_other : NoAttr K a.C_Add "other"
 i_Add : ∃ f fd, Fun K "__init__" "Reckoning.__init__" s_Reckoning_init f fd ∧ Mk K a.C_Add f ∧ Binds K fd ["self", "box", "one", "other"] []
 m_Add_told : ∃ f fd, Fun K "told" "Add.told" s_Add_told f fd ∧ Meth K a.C_Add "told" f ∧ Binds K fd ["self"] []
 cl_Sub : Cls K a.C_Sub
 n_Sub_box : NoAttr K a.C_Sub "box"
 n_Sub_one : NoAttr K a.C_Sub "one"
 n_Sub_other : NoAttr K a.C_Sub "other"
 i_Sub : ∃ f fd, Fun K "__init__" "Reckoning.__init__" s_Reckoning_init f fd ∧ Mk K a.C_Sub f ∧ Binds K fd ["self", "box", "one", "other"] []
 m_Sub_told : ∃ f fd, Fun K "told" "Sub.told" s_Sub_told f fd ∧ Meth K a.C_Sub "told" f ∧ Binds K fd ["self"] []
 cl_Mul : Cls K a.C_Mul
 n_Mul_box : NoAttr K a.C_Mul "box"
 n_Mul_one : NoAttr K a.C_Mul "one"
 n_Mul_other : NoAttr K a.C_Mul "other"
 i_Mul : ∃ f fd, Fun K "__init__" "Reckoning.__init__" s_Reckoning_init f fd ∧ Mk K a.C_Mul f ∧ Binds K fd ["self", "box", "one", "other"] []
 m_Mul_told : ∃ f fd, Fun K "told" "Mul.told" s_Mul_told f fd ∧ Meth K a.C_Mul "told" f ∧ Binds K fd ["self"] []
 ty_Set : PySem.W.findIn K (.ref a.C_Set) "__class__" = some (some (.builtin "object.__class__")) ∧ PySem.W.mroIn K a.C_Set (.type "object") = some true
 is_Set_Row : PySem.W.kitOne K (.ref a.C_Set) (.ref a.C_Row) = some true
 ty_Copy : PySem.W.findIn K (.ref a.C_Copy) "__class__" = some (some (.builtin "object.__class__")) ∧ PySem.W.mroIn K a.C_Copy (.type "object") = some true
 is_Copy_Row : PySem.W.kitOne K (.ref a.C_Copy) (.ref a.C_Row) = some true
 ty_Add : PySem.W.findIn K (.ref a.C_Add) "__class__" = some (some (.builtin "object.__class__")) ∧ PySem.W.mroIn K a.C_Add (.type "object") = some true
 is_Add_Row : PySem.W.kitOne K (.ref a.C_Add) (.ref a.C_Row) = some true
 ty_Sub : PySem.W.findIn K (.ref a.C_Sub) "__class__" = some (some (.builtin "object.__class__")) ∧ PySem.W.mroIn K a.C_Sub (.type "object") = some true
 is_Sub_Row : PySem.W.kitOne K (.ref a.C_Sub) (.ref a.C_Row) = some true
 ty_Mul : PySem.W.findIn K (.ref a.C_Mul) "__class__" = some (some (.builtin "object.__class__")) ∧ PySem.W.mroIn K a.C_Mul (.type "object") = some true
 is_Mul_Row : PySem.W.kitOne K (.ref a.C_Mul) (.ref a.C_Row) = some true
 ty_Less : PySem.W.findIn K (.ref a.C_Less) "__class__" = some (some (.builtin "object.__class__")) ∧ PySem.W.mroIn K a.C_Less (.type "object") = some true
 is_Less_Row : PySem.W.kitOne K (.ref a.C_Less) (.ref a.C_Row) = some true
 ty_Grow : PySem.W.findIn K (.ref a.C_Grow) "__class__" = some (some (.builtin "object.__class__")) ∧ PySem.W.mroIn K a.C_Grow (.type "object") = some true
 is_Grow_Row : PySem.W.kitOne K (.ref a.C_Grow) (.ref a.C_Row) = some true
 ty_Shrink : PySem.W.findIn K (.ref a.C_Shrink) "__class__" = some (some (.builtin "object.__class__")) ∧ PySem.W.mroIn K a.C_Shrink (.type "object") = some true
 is_Shrink_Row : PySem.W.kitOne K (.ref a.C_Shrink) (.ref a.C_Row) = some true
 ty_Put : PySem.W.findIn K (.ref a.C_Put) "__class__" = some (some (.builtin "object.__class__")) ∧ PySem.W.mroIn K a.C_Put (.type "object") = some true
 is_Put_Row : PySem.W.kitOne K (.ref a.C_Put) (.ref a.C_Row) = some true
 ty_Get : PySem.W.findIn K (.ref a.C_Get) "__class__" = some (some (.builtin "object.__class__")) ∧ PySem.W.mroIn K a.C_Get (.type "object") = some true
 is_Get_Row : PySem.W.kitOne K (.ref a.C_Get) (.ref a.C_Row) = some true
 ty_Jump : PySem.W.findIn K (.ref a.C_Jump) "__class__" = some (some (.builtin "object.__class__")) ∧ PySem.W.mroIn K a.C_Jump (.type "object") = some true
 is_Jump_Row : PySem.W.kitOne K (.ref a.C_Jump) (.ref a.C_Row) = some true
 ty_Branch : PySem.W.findIn K (.ref a.C_Branch) "__class__" = some (some (.builtin "object.__class__")) ∧ PySem.W.mroIn K a.C_Branch (.type "object") = some true
 is_Branch_Row : PySem.W.kitOne K (.ref a.C_Branch) (.ref a.C_Row) = some true
 ty_Call : PySem.W.findIn K (.ref a.C_Call) "__class__" = some (some (.builtin "object.__class__")) ∧ PySem.W.mroIn K a.C_Call (.type "object") = some true
 is_Call_Row : PySem.W.kitOne K (.ref a.C_Call) (.ref a.C_Row) = some true
 ty_Back : PySem.W.findIn K (.ref a.C_Back) "__class__" = some (some (.builtin "object.__class__")) ∧ PySem.W.mroIn K a.C_Back (.type "object") = some true
 is_Back_Row : PySem.W.kitOne K (.ref a.C_Back) (.ref a.C_Row) = some true
 ty_Drop : PySem.W.findIn K (.ref a.C_Drop) "__class__" = some (some (.builtin "object.__class__")) ∧ PySem.W.mroIn K a.C_Drop (.type "object") = some true
 is_Drop_Row : PySem.W.kitOne K (.ref a.C_Drop) (.ref a.C_Row) = some true
 ob1 : PySem.W.specialIn K (.builtin "object.__class__") "__get__" = some (some (.builtin "getset_descriptor.__get__"))
 ob2 : PySem.W.takesIn K (.builtin "object.__class__") = some true
 k_str_str : PySem.W.kitOne K (.type "str") (.type "str") = some true
 k_list_list : PySem.W.kitOne K (.type "list") (.type "list") = some true
 fn_bounded : ∃ f fd, Fun K "bounded" "bounded" s_bounded f fd ∧ mg "bounded" = some (.ref f) ∧ Binds K fd ["number", "top"] []
 fn_is_number : ∃ f fd, Fun K "is_number" "is_number" s_is_number f fd ∧ mg "is_number" = some (.ref f) ∧ Binds K fd ["word"] []
 fn_read_number : ∃ f fd, Fun K "read_number" "read_number" s_read_number f fd ∧ mg "read_number" = some (.ref f) ∧ Binds K fd ["word"] []
 fn_made_of_one : ∃ f fd, Fun K "made_of_one" "made_of_one" s_made_of_one f fd ∧ mg "made_of_one" = some (.ref f) ∧ Binds K fd ["word", "number"] []
 fn_made_of_two : ∃ f fd, Fun K "made_of_two" "made_of_two" s_made_of_two f fd ∧ mg "made_of_two" = some (.ref f) ∧ Binds K fd ["word", "first", "second"] []
 fn_made_of_three : ∃ f fd, Fun K "made_of_three" "made_of_three" s_made_of_three f fd ∧ mg "made_of_three" = some (.ref f) ∧ Binds K fd ["word", "first", "second", "third"] []
 fn_show_row : ∃ f fd, Fun K "show_row" "show_row" s_show_row f fd ∧ mg "show_row" = some (.ref f) ∧ Binds K fd ["row"] []
 fn_show_code : ∃ f fd, Fun K "show_code" "show_code" s_show_code f fd ∧ mg "show_code" = some (.ref f) ∧ Binds K fd ["code"] []
 fn_asked_for_text : ∃ f fd, Fun K "asked_for_text" "asked_for_text" s_asked_for_text f fd ∧ mg "asked_for_text" = some (.ref f) ∧ Binds K fd ["text"] []
 fn_read_row : ∃ f fd, Fun K "read_row" "read_row" s_read_row f fd ∧ mg "read_row" = some (.ref f) ∧ Binds K fd ["text"] []
 fn_read_code : ∃ f fd, Fun K "read_code" "read_code" s_read_code f fd ∧ mg "read_code" = some (.ref f) ∧ Binds K fd ["text"] []
 fn_law_cell_at : ∃ f fd, Fun K "_law_cell_at" "_law_cell_at" s_law_cell_at f fd ∧ mg "_law_cell_at" = some (.ref f) ∧ Binds K fd ["_law_script", "_law_k"] []
 fn_law_number : ∃ f fd, Fun K "_law_number" "_law_number" s_law_number f fd ∧ mg "_law_number" = some (.ref f) ∧ Binds K fd ["_law_cell", "_law_most"] []
 fn_law_filling : ∃ f fd, Fun K "_law_filling" "_law_filling" s_law_filling f fd ∧ mg "_law_filling" = some (.ref f) ∧ Binds K fd ["_law_kind", "_law_cell"] []
 fn_law_moving : ∃ f fd, Fun K "_law_moving" "_law_moving" s_law_moving f fd ∧ mg "_law_moving" = some (.ref f) ∧ Binds K fd ["_law_kind", "_law_cell"] []
 fn_law_row : ∃ f fd, Fun K "_law_row" "_law_row" s_law_row f fd ∧ mg "_law_row" = some (.ref f) ∧ Binds K fd ["_law_cell"] []
 fn_law_text : ∃ f fd, Fun K "_law_text" "_law_text" s_law_text f fd ∧ mg "_law_text" = some (.ref f) ∧ Binds K fd ["_law_told"] []
 fn_law : ∃ f fd, Fun K "law" "law" s_law f fd ∧ mg "law" = some (.ref f) ∧ Binds K fd ["_law_script"] []
theorem r_tyS {K : PySem.W.Frag} {x : Str} {H : Hp} {R : Prop} (q : R) : tyV K "str" (.str x) H ∧ R := ⟨rfl, q⟩
def FIGS : List Nat := [48, 49, 50, 51, 52, 53, 54, 55, 56, 57]
theorem figs_in {c : Nat} (h : 48 ≤ c ∧ c ≤ 57) : c ∈ (PySem.Str.ofString "0123456789").cps.toList := by
 rw [show (PySem.Str.ofString "0123456789").cps.toList = FIGS from rfl]
 have : ∀ k : Fin 58, 48 ≤ k.val → k.val ∈ FIGS := by decide
 exact this ⟨c, by omega⟩ h.1
def spIsNum : Sp := fun vs H Q _ => ∃ n : Int, vs = [.str (numS n)] ∧ 0 ≤ n ∧ n < 10 ^ 10 ∧ ∀ H', Same H H' → Q (.bl true) H'
def spReadNum : Sp := fun vs H Q _ => ∃ n : Int, vs = [.str (numS n)] ∧ 0 ≤ n ∧ n < 10 ^ 10 ∧ ∀ H', Same H H' → Q (.int n) H'
section
open PySem.Builtin PySem.Builtin.Str
theorem fold_len (sep : Str) : ∀ (ts : List Str) (k : Nat), ts.foldl (fun n t => n + t.length + sep.length) k = k + (ts.map fun t => t.length + sep.length).sum
 | [], k => rfl
 | t :: r, k => by
   rw [List.foldl_cons, fold_len sep r, List.map_cons, List.sum_cons]; omega
theorem sum_le {α : Type} {f : α → Nat} {L : Nat} : ∀ (ts : List α), (∀ t ∈ ts, f t ≤ L) → (ts.map f).sum ≤ ts.length * L
 | [], _ => Nat.zero_le _
 | t :: r, h => by
   have h1 := sum_le r fun x hx => h x (List.mem_cons_of_mem _ hx)
   have h2 := h t (List.mem_cons_self ..)
   rw [List.map_cons, List.sum_cons, List.length_cons, Nat.succ_mul]; omega
theorem joinOk_of {sep : Str} {ts : List Str} {L N : Nat} (hL : ∀ t ∈ ts, t.length + sep.length ≤ L) (hN : ts.length ≤ N) (hz : N * L ≤ 1000000) : JoinOk sep ts = true := by
 unfold JoinOk
 rw [List.foldl_toArray, fold_len, Nat.zero_add]
 have h1 := sum_le (f := fun t : Str => t.length + sep.length) ts hL
 have h2 : ts.length * L ≤ N * L := Nat.mul_le_mul_right L hN
 unfold tooLong
 rw [decide_eq_false (by rw [sizeLine_eq]; omega)]; rfl
theorem join_le {sep : Str} {ts : List Str} {L N : Nat} (hL : ∀ t ∈ ts, t.length ≤ L) (hN : ts.length ≤ N) : (PySem.Str.join sep ts).length ≤ N * L + N * sep.length := by
 have h := PySem.StrLaws.join_length_le sep ts
 have h1 := sum_le (f := fun t : Str => t.length) ts hL
 have h2 : ts.length * L ≤ N * L := Nat.mul_le_mul_right L hN
 have h3 : ts.length * sep.length ≤ N * sep.length := Nat.mul_le_mul_right _ hN
 omega
def rowW (r : Rw) : List Str := r.told.1 :: r.told.2.map numS
def rowT (r : Rw) : Str := PySem.Str.join " " (rowW r)
theorem told_num {r : Rw} (h : r.ok) : ∀ n ∈ r.told.2, 0 ≤ n ∧ n < 10 ^ 10 := by
 intro n hn
 cases r <;> simp only [Rw.told, List.mem_cons, List.not_mem_nil, or_false] at hn <;> simp only [Rw.ok, isBox, isVal, isMany, isTgt] at h <;> omega
def counts : List (Str × Int) := [("set", 2), ("copy", 2), ("add", 3), ("sub", 3), ("mul", 3), ("less", 3), ("grow", 1), ("shrink", 1), ("put", 2), ("get", 2), ("jump", 1), ("branch", 2), ("call", 1), ("back", 1), ("drop", 1)]
theorem told_word (r : Rw) : 32 ∉ r.told.1.cps.toList ∧ 10 ∉ r.told.1.cps.toList ∧ r.told.1.length ≤ 6 := by
 have h : ∀ w : Str, w ∈ counts.map (·.1) → 32 ∉ w.cps.toList ∧ 10 ∉ w.cps.toList ∧ w.length ≤ 6 := by decide +kernel
 refine h _ ?_
 cases r <;> simp [counts, Rw.told]
theorem told_len (r : Rw) : 1 ≤ r.told.2.length ∧ r.told.2.length ≤ 3 := by cases r <;> exact ⟨Nat.le_of_ble_eq_true rfl, Nat.le_of_ble_eq_true rfl⟩
theorem told_count (r : Rw) : valV (conV counts) (.inr r.told.1) = some (.int (r.told.2.length : Int)) := by cases r <;> rfl
theorem rowW_free {r : Rw} (h : r.ok) {c : Nat} (hc : c = 32 ∨ c = 10) : ∀ w ∈ rowW r, c ∉ w.cps.toList := by
 intro w hw
 rcases List.mem_cons.mp hw with rfl | hw
 · obtain ⟨h1, h2, _⟩ := told_word r
   rcases hc with rfl | rfl
   · exact h1
   · exact h2
 · obtain ⟨n, hn, rfl⟩ := List.mem_map.mp hw
   exact numS_free (told_num h n hn).1 (by omega)
theorem rowW_len {r : Rw} (h : r.ok) : ∀ w ∈ rowW r, w.length ≤ 10 := by
 intro w hw
 rcases List.mem_cons.mp hw with rfl | hw
 · have := (told_word r).2.2; omega
 · obtain ⟨n, hn, rfl⟩ := List.mem_map.mp hw
   exact numS_len (told_num h n hn).1 (told_num h n hn).2
theorem rowW_few (r : Rw) : (rowW r).length ≤ 4 := by
 have := (told_len r).2
 show (r.told.2.map numS).length + 1 ≤ 4
 rw [List.length_map]; omega
theorem rowW_ok {r : Rw} (h : r.ok) : JoinOk " " (rowW r) = true := joinOk_of (L := 11) (N := 4) (fun t ht => by have := rowW_len h t ht; have e : (" " : Str).length = 1 := rfl; omega) (rowW_few r) (by decide)
theorem rowT_len {r : Rw} (h : r.ok) : (rowT r).length ≤ 44 := join_le (L := 10) (N := 4) (rowW_len h) (rowW_few r)
theorem rowT_split {r : Rw} (h : r.ok) : Txt.split (rowT r) " " = rowW r := split_joined (c := 32) (s := []) rfl (by decide) (by decide +kernel) (fun z => by cases z) (rowW_free h (.inl rfl))
theorem rowT_free {r : Rw} (h : r.ok) : 10 ∉ (rowT r).cps.toList := by
 unfold rowT
 rw [join_toList]
 have : ∀ (ws : List (List Nat)), (∀ w ∈ ws, 10 ∉ w) → 10 ∉ jn [32] ws := by
   intro ws
   induction ws with
   | nil => exact fun _ => by decide
   | cons w r ih =>
     intro hw
     cases r with
     | nil => exact hw w (List.mem_cons_self ..)
     | cons y r =>
       show 10 ∉ w ++ ([32] ++ jn [32] (y :: r))
       rw [List.mem_append, List.mem_append]
       rintro (z | z | z)
       · exact hw w (List.mem_cons_self ..) z
       · revert z; decide
       · exact ih (fun v hv => hw v (List.mem_cons_of_mem _ hv)) z
 refine this _ fun w hw => ?_
 obtain ⟨t, ht, rfl⟩ := List.mem_map.mp hw
 exact rowW_free h (.inr rfl) t ht
def codeT (rs : List Rw) : Str := PySem.Str.join "\n" (rs.map rowT)
theorem codeT_ok {rs : List Rw} (h : ∀ r ∈ rs, r.ok) (hn : rs.length ≤ 2000) : JoinOk "\n" (rs.map rowT) = true := joinOk_of (L := 45) (N := 2000) (fun t ht => by obtain ⟨r, hr, rfl⟩ := List.mem_map.mp ht; have := rowT_len (h r hr); have e : ("\n" : Str).length = 1 := rfl; omega) (by rw [List.length_map]; exact hn) (by decide)
theorem codeT_len {rs : List Rw} (h : ∀ r ∈ rs, r.ok) (hn : rs.length ≤ 2000) : (codeT rs).length ≤ 90000 := join_le (L := 44) (N := 2000) (fun t ht => by obtain ⟨r, hr, rfl⟩ := List.mem_map.mp ht; exact rowT_len (h r hr)) (by rw [List.length_map]; exact hn)
theorem codeT_split {rs : List Rw} (h : ∀ r ∈ rs, r.ok) (hne : rs ≠ []) : Txt.split (codeT rs) "\n" = rs.map rowT := split_joined (c := 10) (s := []) rfl (by decide) (by decide +kernel) (fun z => hne (List.map_eq_nil_iff.mp z)) (fun w hw => by obtain ⟨r, hr, rfl⟩ := List.mem_map.mp hw; exact rowT_free (h r hr))
theorem rowT_ne (r : Rw) : (rowT r).cps.toList ≠ [] := by
 unfold rowT
 rw [join_toList]
 obtain ⟨x, xs, e⟩ : ∃ x xs, r.told.2 = x :: xs := List.exists_cons_of_length_pos (by have := (told_len r).1; omega)
 unfold rowW
 rw [e]
 show r.told.1.cps.toList ++ ([32] ++ _) ≠ []
 intro z
 have := (List.append_eq_nil_iff.mp z).2
 cases this
theorem codeT_ne {rs : List Rw} (hne : rs ≠ []) : codeT rs ≠ "" := by
 intro z
 have z1 := congrArg (fun x : Str => x.cps.toList) z
 unfold codeT at z1
 change (PySem.Str.join "\n" (rs.map rowT)).cps.toList = [] at z1
 rw [join_toList] at z1
 match rs, hne with
 | [r], _ => exact rowT_ne r z1
 | r :: y :: t, _ =>
   have := (List.append_eq_nil_iff.mp z1).1
   exact rowT_ne r this
end
theorem ifStr {s t : Str} {A B : Prop} (h1 : s = t → A) (h2 : s ≠ t → B) : if decide (V.str s = V.str t) = true then A else B := by
 by_cases h : s = t
 · rw [if_pos (decide_eq_true (by rw [h]))]; exact h1 h
 · rw [if_neg (by rw [decide_eq_false (fun z => h (V.str.inj z))]; exact Bool.false_ne_true)]; exact h2 h
def RowsAt (a : Adr) (H : Hp) (prs : List Addr) (rs : List Rw) : Prop := prs.length = rs.length ∧ ∀ (i : Nat) (p : Addr) (r : Rw), prs[i]? = some p → rs[i]? = some r → RowAt a H p r
theorem RowsAt.to {a : Adr} {H H' : Hp} {prs : List Addr} {rs : List Rw} (h : RowsAt a H prs rs) (k : ∀ p ∈ prs, ∀ o, H p = some o → H' p = some o) : RowsAt a H' prs rs :=
 ⟨h.1, fun i p r e1 e2 => let ⟨dx, e⟩ := h.2 i p r e1 e2; ⟨dx, k p (List.mem_of_getElem? e1) _ e⟩⟩
theorem RowsAt.same {a : Adr} {H H' : Hp} {prs : List Addr} {rs : List Rw} (h : RowsAt a H prs rs) (s : Same H H') : RowsAt a H' prs rs := h.to fun _ _ _ e => s _ _ e
theorem RowsAt.nil {a : Adr} {H : Hp} : RowsAt a H [] [] := ⟨rfl, fun i p r e => by simp at e⟩
theorem RowsAt.snoc {a : Adr} {H : Hp} {prs : List Addr} {rs : List Rw} {p : Addr} {r : Rw} (h : RowsAt a H prs rs) (q : RowAt a H p r) : RowsAt a H (prs ++ [p]) (rs ++ [r]) := by
 refine ⟨by rw [List.length_append, List.length_append, h.1]; rfl, fun i p' r' e1 e2 => ?_⟩
 by_cases hi : i < rs.length
 · rw [List.getElem?_append_left (by rw [h.1]; exact hi)] at e1
   rw [List.getElem?_append_left hi] at e2
   exact h.2 i p' r' e1 e2
 · have hi' : i = rs.length := by
     have := (List.getElem?_eq_some_iff.mp e2).1
     rw [List.length_append] at this
     simp at this; omega
   subst hi'
   rw [List.getElem?_append_right (by omega)] at e2
   rw [List.getElem?_append_right (by rw [h.1]; omega), h.1] at e1
   simp at e1 e2
   subst e1 e2
   exact q
theorem RowsAt.mem {a : Adr} {H : Hp} {prs : List Addr} {rs : List Rw} (h : RowsAt a H prs rs) {p : Addr} (hp : p ∈ prs) : ∃ r, r ∈ rs ∧ RowAt a H p r := by
 obtain ⟨i, hi, e⟩ := List.mem_iff_getElem.mp hp
 have e1 : prs[i]? = some p := by rw [List.getElem?_eq_getElem hi, e]
 have hi2 : i < rs.length := by rw [← h.1]; exact hi
 exact ⟨rs[i], List.getElem_mem hi2, h.2 i p _ e1 (List.getElem?_eq_getElem hi2)⟩
def toldV (r : Rw) : List V := .str r.told.1 :: r.told.2.map V.int
def PairQ (a : Adr) (H : Hp) (Q : VK) : Prop := ∀ (t x tt : Addr) (r : Rw) (H' : Hp), Same H H' → H' t = some (.tup [.ref x, .ref tt]) → RowAt a H' x r → H' tt = some (.tup (toldV r)) → r.ok → Q (.ref t) H'
def spPair2 (a : Adr) : Sp := fun vs H Q _ => ∃ k c : Int, vs = [.int k, .int c] ∧ PairQ a H Q
def spPair1 (a : Adr) : Sp := fun vs H Q _ => ∃ c : Int, vs = [.int c] ∧ PairQ a H Q
def spNum9 : Sp := fun vs H Q _ => ∃ c m : Int, vs = [.int c, .int m] ∧ 0 ≤ m ∧ ∀ v H', Same H H' → 0 ≤ v → v ≤ m → Q (.int v) H'
def MadeQ (a : Adr) (r : Rw) (H : Hp) (Q : VK) : Prop := r.ok ∧ ∀ p H', Same H H' → RowAt a H' p r → Q (.ref p) H'
def spMade1 (a : Adr) : Sp := fun vs H Q _ => ∃ (r : Rw) (w : Str) (n : Int), vs = [.str w, .int n] ∧ r.told = (w, [n]) ∧ MadeQ a r H Q
def spMade2 (a : Adr) : Sp := fun vs H Q _ => ∃ (r : Rw) (w : Str) (n m : Int), vs = [.str w, .int n, .int m] ∧ r.told = (w, [n, m]) ∧ MadeQ a r H Q
def spMade3 (a : Adr) : Sp := fun vs H Q _ => ∃ (r : Rw) (w : Str) (n m k : Int), vs = [.str w, .int n, .int m, .int k] ∧ r.told = (w, [n, m, k]) ∧ MadeQ a r H Q
def spShowRow (a : Adr) : Sp := fun vs H Q _ => ∃ (x : Addr) (r : Rw), vs = [.ref x] ∧ RowAt a H x r ∧ r.ok ∧ ∀ H', Same H H' → Q (.str (rowT r)) H'
def spShowCode (a : Adr) : Sp := fun vs H Q _ => ∃ (l : Addr) (ps : List Addr) (rs : List Rw), vs = [.ref l] ∧ H l = some (.lst (ps.map V.ref)) ∧ RowsAt a H ps rs ∧ (∀ r ∈ rs, r.ok) ∧ rs.length ≤ 2000 ∧ ∀ H', Same H H' → Q (.str (codeT rs)) H'
def spTextOf : Sp := fun vs H Q _ => ∃ (t : Addr) (r : Rw), vs = [.ref t] ∧ H t = some (.tup (toldV r)) ∧ r.ok ∧ ∀ H', Same H H' → Q (.str (rowT r)) H'
def spAskText : Sp := fun vs H Q _ => ∃ x : Str, vs = [.str x] ∧ Q .non H
def spReadRow (a : Adr) : Sp := fun vs H Q _ => ∃ r : Rw, vs = [.str (rowT r)] ∧ MadeQ a r H Q
def spReadCode (a : Adr) : Sp := fun vs H Q _ => ∃ rs : List Rw, vs = [.str (codeT rs)] ∧ (∀ r ∈ rs, r.ok) ∧ rs.length ≤ 2000 ∧ ∀ (l : Addr) (ps : List Addr) (H' : Hp), Same H H' → H l = none → H' l = some (.lst (ps.map V.ref)) → RowsAt a H' ps rs → Q (.ref l) H'
def partV : Str ⊕ Int → V
 | .inl w => .str w
 | .inr n => .int n
def partS : Str ⊕ Int → V
 | .inl w => .str w
 | .inr n => .str (numS n)
def partsOf (r : Rw) : List (Str ⊕ Int) := .inl r.told.1 :: r.told.2.map .inr
theorem partsV (r : Rw) : (partsOf r).map partV = toldV r := by
 show _ :: List.map partV (List.map Sum.inr r.told.2) = _ :: _
 rw [List.map_map]; rfl
theorem partsS (r : Rw) : (partsOf r).map partS = (rowW r).map V.str := by
 show _ :: List.map partS (List.map Sum.inr r.told.2) = _ :: List.map V.str (List.map numS r.told.2)
 rw [List.map_map, List.map_map]; rfl
theorem log_num {n : Int} (h0 : 0 ≤ n) (h1 : n < 10 ^ 10) : n.natAbs.log2 < 1920 := by
 by_cases h : n.natAbs = 0
 · rw [h]; decide
 · refine (Nat.log2_lt h).mpr (Nat.lt_of_lt_of_le (show n.natAbs < 2 ^ 34 by omega) (Nat.pow_le_pow_right (by decide) (by decide)))
theorem cut_tailV (x : V) (r : List V) : cutV (x :: r) (some 1) none = r := by
 unfold cutV
 have e1 : HT.sIx (x :: r).length 0 (some 1) = 1 := by
   rw [show HT.sIx (x :: r).length 0 (some 1) = min 1 (x :: r).length from HT.sIx_nat _ _ 1, List.length_cons]; omega
 have e2 : HT.sIx (x :: r).length (x :: r).length none = (x :: r).length := rfl
 rw [e1, e2, List.length_cons, List.drop_succ_cons, List.drop_zero, Nat.add_sub_cancel, List.take_length]
theorem cut_tail_neV (x : V) (r : List V) : ¬ (HT.sIx (x :: r).length 0 (some 1) = 0 ∧ HT.sIx (x :: r).length (x :: r).length none = (x :: r).length) := by
 intro z
 have e1 : HT.sIx (x :: r).length 0 (some 1) = 1 := by
   rw [show HT.sIx (x :: r).length 0 (some 1) = min 1 (x :: r).length from HT.sIx_nat _ _ 1, List.length_cons]; omega
 rw [e1] at z; exact absurd z.1 (by decide)
theorem r_notInC {w : World} {K : PySem.W.Frag} {a : Addr} {kvs : List (Str × Int)} {t : Str} {v : V} {H : Hp} {Q : VK} (c : ConD w K a kvs) (e : valV (conV kvs) (.inr t) = some v) (q : Q (.bl false) H) : rInC w K true (.str t) (.ref a) H Q := r_inC c (by rw [if_pos rfl, e]; exact q)
theorem told_cases (r : Rw) : ∃ w, (∃ n, r.told = (w, [n])) ∨ (∃ n m, r.told = (w, [n, m])) ∨ ∃ n m k, r.told = (w, [n, m, k]) := by
 cases r
 case grow => exact ⟨_, .inl ⟨_, rfl⟩⟩
 case shrink => exact ⟨_, .inl ⟨_, rfl⟩⟩
 case jump => exact ⟨_, .inl ⟨_, rfl⟩⟩
 case call => exact ⟨_, .inl ⟨_, rfl⟩⟩
 case back => exact ⟨_, .inl ⟨_, rfl⟩⟩
 case drop => exact ⟨_, .inl ⟨_, rfl⟩⟩
 case set => exact ⟨_, .inr (.inl ⟨_, _, rfl⟩)⟩
 case copy => exact ⟨_, .inr (.inl ⟨_, _, rfl⟩)⟩
 case put => exact ⟨_, .inr (.inl ⟨_, _, rfl⟩)⟩
 case get => exact ⟨_, .inr (.inl ⟨_, _, rfl⟩)⟩
 case branch => exact ⟨_, .inr (.inl ⟨_, _, rfl⟩)⟩
 case add => exact ⟨_, .inr (.inr ⟨_, _, _, rfl⟩)⟩
 case sub => exact ⟨_, .inr (.inr ⟨_, _, _, rfl⟩)⟩
 case mul => exact ⟨_, .inr (.inr ⟨_, _, _, rfl⟩)⟩
 case less => exact ⟨_, .inr (.inr ⟨_, _, _, rfl⟩)⟩
local macro_rules | `(tactic| walk_at "mine") => `(tactic| first | (with_reducible refine r_tyS ?_) | (with_reducible refine r_iStr ?_) | (with_reducible refine r_chain ?_) | ((with_reducible refine' ifStr ?x ?_); (case x => intro hh; exact absurd hh (by decide +kernel)); intro _) | ((with_reducible refine' ifStr ?_ ?x); (case x => intro hh; exact absurd rfl hh); intro _))
section
variable {P : Program} {w : World} {K : PySem.W.Frag} {mg : Str → Option Value} {base : Heap} {a : Adr}
theorem ty_row (T : Txt w K mg a) {H : Hp} {p : Addr} {r : Rw} (h : RowAt a H p r) : ∃ t', TyOf K H (.ref p) t' ∧ PySem.W.kitOne K t' (.ref a.C_Row) = some true := by
 obtain ⟨dx, e⟩ := h
 cases r
 · exact ⟨_, .ins e T.cl_Set T.ty_Set.1 T.ob1 T.ob2 T.ty_Set.2, T.is_Set_Row⟩
 · exact ⟨_, .ins e T.cl_Copy T.ty_Copy.1 T.ob1 T.ob2 T.ty_Copy.2, T.is_Copy_Row⟩
 · exact ⟨_, .ins e T.cl_Add T.ty_Add.1 T.ob1 T.ob2 T.ty_Add.2, T.is_Add_Row⟩
 · exact ⟨_, .ins e T.cl_Sub T.ty_Sub.1 T.ob1 T.ob2 T.ty_Sub.2, T.is_Sub_Row⟩
 · exact ⟨_, .ins e T.cl_Mul T.ty_Mul.1 T.ob1 T.ob2 T.ty_Mul.2, T.is_Mul_Row⟩
 · exact ⟨_, .ins e T.cl_Less T.ty_Less.1 T.ob1 T.ob2 T.ty_Less.2, T.is_Less_Row⟩
 · exact ⟨_, .ins e T.cl_Grow T.ty_Grow.1 T.ob1 T.ob2 T.ty_Grow.2, T.is_Grow_Row⟩
 · exact ⟨_, .ins e T.cl_Shrink T.ty_Shrink.1 T.ob1 T.ob2 T.ty_Shrink.2, T.is_Shrink_Row⟩
 · exact ⟨_, .ins e T.cl_Put T.ty_Put.1 T.ob1 T.ob2 T.ty_Put.2, T.is_Put_Row⟩
 · exact ⟨_, .ins e T.cl_Get T.ty_Get.1 T.ob1 T.ob2 T.ty_Get.2, T.is_Get_Row⟩
 · exact ⟨_, .ins e T.cl_Jump T.ty_Jump.1 T.ob1 T.ob2 T.ty_Jump.2, T.is_Jump_Row⟩
 · exact ⟨_, .ins e T.cl_Branch T.ty_Branch.1 T.ob1 T.ob2 T.ty_Branch.2, T.is_Branch_Row⟩
 · exact ⟨_, .ins e T.cl_Call T.ty_Call.1 T.ob1 T.ob2 T.ty_Call.2, T.is_Call_Row⟩
 · exact ⟨_, .ins e T.cl_Back T.ty_Back.1 T.ob1 T.ob2 T.ty_Back.2, T.is_Back_Row⟩
 · exact ⟨_, .ins e T.cl_Drop T.ty_Drop.1 T.ob1 T.ob2 T.ty_Drop.2, T.is_Drop_Row⟩
end
section
variable {P : Program} {w : World} {K : PySem.W.Frag} {mg : Str → Option Value} {base : Heap} {a : Adr}
def toldT (r : Rw) : List V := .str r.told.1 :: r.told.2.map V.int
def toldD (r : Rw) : PyData := .tuple (.str r.told.1 :: r.told.2.map PyData.int)
def TellsAt (H : Hp) (us : List V) (rs : List Rw) : Prop := us.length = rs.length ∧ ∀ (i : Nat) (u : V) (r : Rw), us[i]? = some u → rs[i]? = some r → ∃ q, u = .ref q ∧ H q = some (.tup (toldT r))
theorem TellsAt.nil {H : Hp} : TellsAt H [] [] := ⟨rfl, fun i u r e => by simp at e⟩
theorem TellsAt.same {H H' : Hp} {us : List V} {rs : List Rw} (h : TellsAt H us rs) (s : Same H H') : TellsAt H' us rs := ⟨h.1, fun i u r e1 e2 => let ⟨q, e, k⟩ := h.2 i u r e1 e2; ⟨q, e, s _ _ k⟩⟩
theorem TellsAt.app {H : Hp} {us ws : List V} {rs qs : List Rw} (h : TellsAt H us rs) (k : TellsAt H ws qs) : TellsAt H (us ++ ws) (rs ++ qs) := by
 refine ⟨by rw [List.length_append, List.length_append, h.1, k.1], fun i p r e1 e2 => ?_⟩
 by_cases hi : i < rs.length
 · rw [List.getElem?_append_left (by rw [h.1]; exact hi)] at e1
   rw [List.getElem?_append_left hi] at e2
   exact h.2 i p r e1 e2
 · rw [List.getElem?_append_right (by rw [h.1]; omega), h.1] at e1
   rw [List.getElem?_append_right (by omega)] at e2
   exact k.2 _ p r e1 e2
theorem TellsAt.one {H : Hp} {q : Addr} {r : Rw} (h : H q = some (.tup (toldT r))) : TellsAt H [.ref q] [r] := ⟨rfl, fun i u r' e1 e2 => by
 cases i with
 | zero => simp at e1 e2; subst e1 e2; exact ⟨q, rfl, h⟩
 | succ i => simp at e1⟩
theorem TellsAt.dp {K : PySem.W.Frag} {H : Hp} : ∀ {us : List V} {rs : List Rw}, TellsAt H us rs → DpAll K H (rs.map toldD) us
 | [], [], _ => dpAll_nil
 | [], _ :: _, h => by have := h.1; simp at this
 | _ :: _, [], h => by have := h.1; simp at this
 | u :: us, r :: rs, h => by
   obtain ⟨q, e, k⟩ := h.2 0 u r rfl rfl
   subst e
   exact dpAll_cons (dp_tup (SqT.of k) (dpAll_cons (dp_str _) (dpAll_ints _))) (TellsAt.dp (us := us) (rs := rs) ⟨by simpa using h.1, fun i u r e1 e2 => h.2 (i + 1) u r (by simpa using e1) (by simpa using e2)⟩)
theorem told_lay1 (r : Rw) : (toldD r).canLay0 = true := by
 have hw : (PyData.str r.told.1).canLay0 = true := by cases r <;> simp [PyData.canLay0, Rw.told] <;> decide +kernel
 unfold toldD
 rw [PyData.canLay0, PyData.canLayAll0, canLay_ints, hw]; rfl
theorem tolds_lay : ∀ rs : List Rw, PyData.canLayAll0 (rs.map toldD) = true
 | [] => rfl
 | e :: es => by rw [List.map_cons, PyData.canLayAll0, tolds_lay es, told_lay1]; rfl
theorem told_depth1 (r : Rw) : (toldD r).depth ≤ 2 := by
 unfold toldD
 simp [PyData.depth, PyData.depthAll, depth_ints]
theorem tolds_depth : ∀ rs : List Rw, PyData.depthAll (rs.map toldD) ≤ 2
 | [] => by decide
 | e :: es => by
   have h1 := told_depth1 e
   have h2 := tolds_depth es
   rw [List.map_cons, PyData.depthAll]
   omega
theorem shaped_tolds (rs : List Rw) : shaped (.list (rs.map toldD)) = true := by
 have := tolds_depth rs
 unfold shaped
 rw [PyData.canLay0, tolds_lay, PyData.depth]
 simp; omega
theorem comp_tell {K : PySem.W.Frag} {a : Adr} {H : Hp} {l : Addr} {prs : List Addr} {rs : List Rw} {g : TG} {tc : TT} {te : TE} {fin : List V → Hp → Prop} {σ0 : L2.St} (f : Rw → Rw) (Sg : L2.St → Prop) (hl : H l = some (.lst (prs.map V.ref))) (hrs : RowsAt a H prs rs) (hn : rs.length ≤ 2000) (h0 : Sg σ0)
   (hs : ∀ (p : Addr) (r : Rw) (σ : L2.St) (H1 : Hp) (C : V → L2.St → Hp → Prop) (C' : L2.St → Hp → Prop), r ∈ rs → Sg σ → Same H H1 → RowAt a H1 p r → (∀ q σ' H2, Same H1 H2 → H2 q = some (.tup (toldT (f r))) → Sg σ' → C (.ref q) σ' H2) →
     g (.ref p) σ H1 fun σ3 H3 => tc σ3 H3 fun b H4 => if b = true then te σ3 H4 fun y H5 => C y σ3 H5 else C' σ3 H4)
   (hd : ∀ us H1, Same H H1 → TellsAt H1 us (rs.map f) → fin us H1) : CompW (Itl K l) g tc te fin σ0 H := by
 have hpl := hrs.1
 refine comp_list (K := K) (a := l) (xs := prs.map V.ref) (fun i ys σ H1 => Sg σ ∧ Same H H1 ∧ ys.length = i ∧ TellsAt H1 ys ((rs.take i).map f)) ⟨h0, Same.refl _, rfl, TellsAt.nil⟩ (fun i ys σ H1 hi ⟨_, s1, e, _⟩ => ⟨SqL.of (s1 _ _ hl), by rw [e, sizeLine_eq]; rw [List.length_map] at hi; omega⟩) ?_ ?_
 · rintro i x ys σ H1 hx ⟨sg, s1, hy, ht⟩
   obtain ⟨p, hp, rfl⟩ : ∃ p, prs[i]? = some p ∧ x = .ref p := by
     rw [List.getElem?_map] at hx
     obtain ⟨p, hp, e⟩ := Option.map_eq_some_iff.mp hx
     exact ⟨p, hp, e.symm⟩
   have hi : i < rs.length := by rw [← hpl]; exact (List.getElem?_eq_some_iff.mp hp).1
   have hri : rs[i]? = some rs[i] := List.getElem?_eq_getElem hi
   refine hs p rs[i] σ H1 (fun y σ3 H5 => Sg σ3 ∧ Same H H5 ∧ (ys ++ [y]).length = i + 1 ∧ TellsAt H5 (ys ++ [y]) ((rs.take (i + 1)).map f)) (fun σ3 H4 => Sg σ3 ∧ Same H H4 ∧ ys.length = i + 1 ∧ TellsAt H4 ys ((rs.take (i + 1)).map f)) (List.getElem_mem hi) sg s1 ((hrs.2 i p _ hp hri).same s1) (fun q σ' H2 s2 hq sg' => ⟨sg', s1.trans s2, by rw [List.length_append, hy]; rfl, ?_⟩)
   rw [List.take_add_one, hri, Option.toList_some, List.map_append]
   exact (ht.same s2).app (TellsAt.one hq)
 · rintro ys σ H1 ⟨_, s1, hy, ht⟩
   rw [List.length_map, hpl, List.take_length] at ht
   exact hd ys H1 s1 ht
theorem shaped_told1 (r : Rw) : shaped (toldD r) = true := by
 have := told_depth1 r
 unfold shaped
 rw [told_lay1]
 simp; omega
theorem toldD_dp {K : PySem.W.Frag} {H : Hp} {t : Addr} {r : Rw} (h : H t = some (.tup (.str r.told.1 :: r.told.2.map V.int))) : Dp K H (toldD r) (.ref t) := dp_tup (SqT.of h) (dpAll_cons (dp_str _) (dpAll_ints _))
abbrev Pq := Addr × Addr × Addr × Rw
def PA (a : Adr) (H : Hp) (p : Pq) : Prop := H p.1 = some (.tup [.ref p.2.1, .ref p.2.2.1]) ∧ RowAt a H p.2.1 p.2.2.2 ∧ H p.2.2.1 = some (.tup (toldV p.2.2.2)) ∧ p.2.2.2.ok
def PsAt (a : Adr) (H : Hp) (ps : List Pq) : Prop := ∀ p ∈ ps, PA a H p
theorem PsAt.same {a : Adr} {H H' : Hp} {ps : List Pq} (h : PsAt a H ps) (s : Same H H') : PsAt a H' ps := fun p hp => ⟨s _ _ (h p hp).1, (h p hp).2.1.same s, s _ _ (h p hp).2.2.1, (h p hp).2.2.2⟩
theorem PsAt.put {a : Adr} {H : Hp} {ps : List Pq} {l : Addr} {xs : List V} {o : HO} (h : PsAt a H ps) (hl : H l = some (.lst xs)) : PsAt a (upd H l o) ps := fun p hp => by
 obtain ⟨h1, ⟨dx, h2⟩, h3, h4⟩ := h p hp
 refine ⟨?_, ⟨dx, ?_⟩, ?_, h4⟩
 · rw [upd_ne (fun z => by rw [z, hl] at h1; cases h1)]; exact h1
 · rw [upd_ne (fun z => by rw [z, hl] at h2; cases h2)]; exact h2
 · rw [upd_ne (fun z => by rw [z, hl] at h3; cases h3)]; exact h3
theorem PsAt.rows {a : Adr} {H : Hp} {ps : List Pq} (h : PsAt a H ps) : RowsAt a H (ps.map fun p => p.2.1) (ps.map fun p => p.2.2.2) := ⟨by rw [List.length_map, List.length_map], fun i p r e1 e2 => by
 rw [List.getElem?_map] at e1 e2
 obtain ⟨x, hx, rfl⟩ := Option.map_eq_some_iff.mp e1
 obtain ⟨y, hy, rfl⟩ := Option.map_eq_some_iff.mp e2
 rw [hx] at hy
 cases hy
 exact (h x (List.mem_of_getElem? hx)).2.1⟩
theorem PsAt.tells {a : Adr} {H : Hp} {ps : List Pq} (h : PsAt a H ps) : TellsAt H (ps.map fun p => V.ref p.2.2.1) (ps.map fun p => p.2.2.2) := ⟨by rw [List.length_map, List.length_map], fun i p r e1 e2 => by
 rw [List.getElem?_map] at e1 e2
 obtain ⟨x, hx, rfl⟩ := Option.map_eq_some_iff.mp e1
 obtain ⟨y, hy, rfl⟩ := Option.map_eq_some_iff.mp e2
 rw [hx] at hy
 cases hy
 exact ⟨_, rfl, (h x (List.mem_of_getElem? hx)).2.2.1⟩⟩
end
section
variable {P : Program} {w : World} {K : PySem.W.Frag} {mg : Str → Option Value} {base : Heap} {a : Adr}
set_option maxHeartbeats 4000000 in
theorem ok_bounded (T : Txt w K mg a) : FnE P w K mg base CX0 1 "bounded" spBounded := by
 refine fnE_of (sp := spBounded) 0 T.fn_bounded sc_bounded (fun vs H Q E h => ?_) (fun f cdv A outer s H vs Q E hr h => ?_)
 · obtain ⟨n, top, rfl, _⟩ := h
   rfl
 · obtain ⟨n, top, rfl, h0, h1, q⟩ := h
   refine ⟨_, (pss_cons (ps_if (PW.pt (pw_or (pt_cmpR op_lt (pv 0) pe_int (nomark _)) (pw_or1 (pt_cmpR op_gt (pv 0) (pv 1) (nomark _))))) (pss_one ps_never) pss_nil)
     (pss_one (ps_ret (pv 0)))), ?_⟩
   refine r_st (σ' := [some _, some _]) rfl ?_
   walk_at "rd"
   exact q
end
section
variable {P : Program} {w : World} {K : PySem.W.Frag} {mg : Str → Option Value} {base : Heap} {a : Adr}
set_option maxHeartbeats 4000000 in
theorem ok_is_number (T : Txt w K mg a) : FnE P w K mg base CX0 1 "is_number" spIsNum := by
 refine fnE_of (sp := spIsNum) 0 T.fn_is_number sc_is_number (fun vs H Q E h => ?_) (fun f cdv A outer s H vs Q E hr h => ?_)
 · obtain ⟨n, rfl, _⟩ := h
   rfl
 · obtain ⟨n, rfl, h0, h1, q⟩ := h
   have hne := numS_ne h0
   have hlen := numS_len h0 h1
   have hdg := numS_digits h0
   have hhd := @numS_head n h0
   obtain ⟨c, r, hcr⟩ : ∃ c r, (numS n).cps.toList = c :: r := List.exists_cons_of_ne_nil hne
   have hll : (numS n).cps.toList.length ≤ 10 := hlen
   refine ⟨_, (pss_cons (ps_if (PW.pt (pw_or (pt_cmpR (op_eqK (K := K) rfl hr.units) (pv 0) pe_str (nomark _)) (pw_or1 (pt_cmpR op_gt (pe_callB (call_lenK (K := K) rfl) rfl T.z_len b_len (pa_cons (pv 0) pa_nil)) (pe_glob (v := .int 10) rfl T.g_MOST_FIGURES.choose_spec ⟨_, rfl⟩) (nomark _))))) (pss_one (ps_ret pe_bl)) pss_nil)
     (pss_cons (ps_if (PW.pt (pw_and (pt_cmpR (op_eqK (K := K) rfl hr.units) (pe_ix (ix_K (K := K) rfl) (pv 0) pe_int (fun _ _ => rfl)) pe_str (nomark _)) (pw_and1 (pt_cmpR (op_neK (K := K) rfl hr.units) (pv 0) pe_str (nomark _))))) (pss_one (ps_ret pe_bl)) pss_nil)
     (pss_one (ps_ret (pe_callB (call_allK (K := K) rfl rfl) rfl T.z_all b_all (pa_cons (pe_comp (own := ["sign"]) (fr := []) rfl ⟨rfl, (by walk_at "clok"), (by walk_at "frok"), rfl, (by decide +kernel), (by decide +kernel), rfl⟩ (pi_str (pv 0)) (fun _ _ _ _ => (pg_name (i := 0) (show List.Nodup [("sign" : Str)] from by decide +kernel) rfl (Or.inl rfl))) (fun _ _ _ _ => pts_nil) (fun _ _ _ _ => (pe_cmpR op_inS (pv 0) (pe_glob (v := .str "0123456789") rfl T.g_FIGURES.choose_spec ⟨_, rfl⟩) rfl))) pa_nil)))))), ?_⟩
   refine r_st (σ' := [some _]) rfl ?_
   walk_at "rd"
   refine ifStr (fun hh => absurd (by rw [hh]; rfl) hne) (fun _ => ?_)
   walk_at "rd"
   refine ⟨_, _, rfl, ⟨by rw [sizeLine_eq]; omega, rfl⟩, ?_⟩
   walk_at "rd"
   refine .inl (.inr (.inr ⟨_, 0, c, rfl, rfl, by rw [sizeLine_eq]; omega, by rw [hcr]; exact atI_nat (j := 0) rfl, ?_⟩))
   walk_at "rd"
   have key : ∀ (fin : List V → Hp → Prop), fin (List.replicate (numS n).cps.toList.length (.bl true)) H → CompW (Its (numS n)) (gName 0) tTrue (tOp rInS (tVar 0) (tC (V.str (Str.ofString "0123456789")))) fin [none] H := by
     intro fin hf
     refine comp_str (fun i ys σ H2 => (∃ v, σ = [v]) ∧ H2 = H ∧ ys = List.replicate i (.bl true)) ⟨⟨_, rfl⟩, rfl, rfl⟩ (fun i ys σ H2 hi ⟨_, _, e⟩ => by rw [e, List.length_replicate, sizeLine_eq]; omega) ?_ ?_
     · rintro i d ys σ H2 hd ⟨⟨v, rfl⟩, rfl, rfl⟩
       have hin := figs_in (hdg d (List.mem_of_getElem? hd))
       walk_at "rd"
       refine ⟨d, _, rfl, rfl, ?_⟩
       rw [decide_eq_true hin]
       exact ⟨⟨_, rfl⟩, rfl, by rw [List.replicate_succ']⟩
     · rintro ys σ H2 ⟨_, rfl, rfl⟩
       exact hf
   have fin : ∀ p, H p = none → rAll K [.ref p] (upd H p (.lst (List.replicate (numS n).cps.toList.length (.bl true)))) Q := fun p hp => by
     refine r_all (bs := List.replicate (numS n).cps.toList.length true) (by rw [List.map_replicate]; exact SqL.of upd_same) ?_
     rw [show (List.replicate (numS n).cps.toList.length true).all id = true from by simp]
     exact q _ (by walk_at "same")
   refine ifStr (fun hh => ?_) (fun _ => ?_)
   · have e48 : c = 48 := by
       have := congrArg (fun x : Str => x.cps.toList) hh
       exact (List.cons.inj this).1
     have en := hhd (by rw [hcr, e48])
     subst en
     walk_at "rd"
     refine key _ ?_
     intro p hp
     walk_at "rd"
     exact fin p hp
   · walk_at "rd"
     refine key _ ?_
     intro p hp
     walk_at "rd"
     exact fin p hp
end
section
variable {P : Program} {w : World} {K : PySem.W.Frag} {mg : Str → Option Value} {base : Heap} {a : Adr}
set_option maxHeartbeats 4000000 in
theorem me_Set_told (T : Txt w K mg a) (b n : Int) : MethE P w K mg base CX0 1 a.C_Set "told" (spTold a (.set b n)) := by
 refine methE_of (sp := (spTold a (.set b n))) 0 T.cl_Set T.m_Set_told sc_Set_told (fun vs H Q E h => ?_) (fun f cdv A outer s H vs Q E hr h => ?_)
 · obtain ⟨x, rfl, _⟩ := h
   rfl
 · obtain ⟨x, rfl, ⟨dx, hx⟩, q⟩ := h
   change H x = some (.ins a.C_Set dx (putF "number" (.int n) (putF "box" (.int b) []))) at hx
   refine ⟨_, (pss_one (ps_ret (pe_tup (pa_cons pe_str (pa_cons (pe_fldK (K := K) rfl (pv 0)) (pa_cons (pe_fldK (K := K) rfl (pv 0)) pa_nil)))))), ?_⟩
   refine r_st (σ' := [some _]) rfl ?_
   walk_at "rd"
   exact q _ (by assumption)
end
section
variable {P : Program} {w : World} {K : PySem.W.Frag} {mg : Str → Option Value} {base : Heap} {a : Adr}
set_option maxHeartbeats 4000000 in
theorem me_Copy_told (T : Txt w K mg a) (b o : Int) : MethE P w K mg base CX0 1 a.C_Copy "told" (spTold a (.copy b o)) := by
 refine methE_of (sp := (spTold a (.copy b o))) 0 T.cl_Copy T.m_Copy_told sc_Copy_told (fun vs H Q E h => ?_) (fun f cdv A outer s H vs Q E hr h => ?_)
 · obtain ⟨x, rfl, _⟩ := h
   rfl
 · obtain ⟨x, rfl, ⟨dx, hx⟩, q⟩ := h
   change H x = some (.ins a.C_Copy dx (putF "one" (.int o) (putF "box" (.int b) []))) at hx
   refine ⟨_, (pss_one (ps_ret (pe_tup (pa_cons pe_str (pa_cons (pe_fldK (K := K) rfl (pv 0)) (pa_cons (pe_fldK (K := K) rfl (pv 0)) pa_nil)))))), ?_⟩
   refine r_st (σ' := [some _]) rfl ?_
   walk_at "rd"
   exact q _ (by assumption)
end
section
variable {P : Program} {w : World} {K : PySem.W.Frag} {mg : Str → Option Value} {base : Heap} {a : Adr}
set_option maxHeartbeats 4000000 in
theorem me_Add_told (T : Txt w K mg a) (b o t : Int) : MethE P w K mg base CX0 1 a.C_Add "told" (spTold a (.add b o t)) := by
 refine methE_of (sp := (spTold a (.add b o t))) 0 T.cl_Add T.m_Add_told sc_Add_told (fun vs H Q E h => ?_) (fun f cdv A outer s H vs Q E hr h => ?_)
 · obtain ⟨x, rfl, _⟩ := h
   rfl
 · obtain ⟨x, rfl, ⟨dx, hx⟩, q⟩ := h
   change H x = some (.ins a.C_Add dx (putF "other" (.int t) (putF "one" (.int o) (putF "box" (.int b) [])))) at hx
   refine ⟨_, (pss_one (ps_ret (pe_tup (pa_cons pe_str (pa_cons (pe_fldK (K := K) rfl (pv 0)) (pa_cons (pe_fldK (K := K) rfl (pv 0)) (pa_cons (pe_fldK (K := K) rfl (pv 0)) pa_nil))))))), ?_⟩
   refine r_st (σ' := [some _]) rfl ?_
   walk_at "rd"
   exact q _ (by assumption)
end
section
variable {P : Program} {w : World} {K : PySem.W.Frag} {mg : Str → Option Value} {base : Heap} {a : Adr}
set_option maxHeartbeats 4000000 in
theorem me_Sub_told (T : Txt w K mg a) (b o t : Int) : MethE P w K mg base CX0 1 a.C_Sub "told" (spTold a (.sub b o t)) := by
 refine methE_of (sp := (spTold a (.sub b o t))) 0 T.cl_Sub T.m_Sub_told sc_Sub_told (fun vs H Q E h => ?_) (fun f cdv A outer s H vs Q E hr h => ?_)
 · obtain ⟨x, rfl, _⟩ := h
   rfl
 · obtain ⟨x, rfl, ⟨dx, hx⟩, q⟩ := h
   change H x = some (.ins a.C_Sub dx (putF "other" (.int t) (putF "one" (.int o) (putF "box" (.int b) [])))) at hx
   refine ⟨_, (pss_one (ps_ret (pe_tup (pa_cons pe_str (pa_cons (pe_fldK (K := K) rfl (pv 0)) (pa_cons (pe_fldK (K := K) rfl (pv 0)) (pa_cons (pe_fldK (K := K) rfl (pv 0)) pa_nil))))))), ?_⟩
   refine r_st (σ' := [some _]) rfl ?_
   walk_at "rd"
   exact q _ (by assumption)
end
section
variable {P : Program} {w : World} {K : PySem.W.Frag} {mg : Str → Option Value} {base : Heap} {a : Adr}
set_option maxHeartbeats 4000000 in
theorem me_Mul_told (T : Txt w K mg a) (b o t : Int) : MethE P w K mg base CX0 1 a.C_Mul "told" (spTold a (.mul b o t)) := by
 refine methE_of (sp := (spTold a (.mul b o t))) 0 T.cl_Mul T.m_Mul_told sc_Mul_told (fun vs H Q E h => ?_) (fun f cdv A outer s H vs Q E hr h => ?_)
 · obtain ⟨x, rfl, _⟩ := h
   rfl
 · obtain ⟨x, rfl, ⟨dx, hx⟩, q⟩ := h
   change H x = some (.ins a.C_Mul dx (putF "other" (.int t) (putF "one" (.int o) (putF "box" (.int b) [])))) at hx
   refine ⟨_, (pss_one (ps_ret (pe_tup (pa_cons pe_str (pa_cons (pe_fldK (K := K) rfl (pv 0)) (pa_cons (pe_fldK (K := K) rfl (pv 0)) (pa_cons (pe_fldK (K := K) rfl (pv 0)) pa_nil))))))), ?_⟩
   refine r_st (σ' := [some _]) rfl ?_
   walk_at "rd"
   exact q _ (by assumption)
end
section
variable {P : Program} {w : World} {K : PySem.W.Frag} {mg : Str → Option Value} {base : Heap} {a : Adr}
set_option maxHeartbeats 4000000 in
theorem me_Less_told (T : Txt w K mg a) (b o t : Int) : MethE P w K mg base CX0 1 a.C_Less "told" (spTold a (.less b o t)) := by
 refine methE_of (sp := (spTold a (.less b o t))) 0 T.cl_Less T.m_Less_told sc_Less_told (fun vs H Q E h => ?_) (fun f cdv A outer s H vs Q E hr h => ?_)
 · obtain ⟨x, rfl, _⟩ := h
   rfl
 · obtain ⟨x, rfl, ⟨dx, hx⟩, q⟩ := h
   change H x = some (.ins a.C_Less dx (putF "other" (.int t) (putF "one" (.int o) (putF "box" (.int b) [])))) at hx
   refine ⟨_, (pss_one (ps_ret (pe_tup (pa_cons pe_str (pa_cons (pe_fldK (K := K) rfl (pv 0)) (pa_cons (pe_fldK (K := K) rfl (pv 0)) (pa_cons (pe_fldK (K := K) rfl (pv 0)) pa_nil))))))), ?_⟩
   refine r_st (σ' := [some _]) rfl ?_
   walk_at "rd"
   exact q _ (by assumption)
end
section
variable {P : Program} {w : World} {K : PySem.W.Frag} {mg : Str → Option Value} {base : Heap} {a : Adr}
set_option maxHeartbeats 4000000 in
theorem me_Grow_told (T : Txt w K mg a) (m : Int) : MethE P w K mg base CX0 1 a.C_Grow "told" (spTold a (.grow m)) := by
 refine methE_of (sp := (spTold a (.grow m))) 0 T.cl_Grow T.m_Grow_told sc_Grow_told (fun vs H Q E h => ?_) (fun f cdv A outer s H vs Q E hr h => ?_)
 · obtain ⟨x, rfl, _⟩ := h
   rfl
 · obtain ⟨x, rfl, ⟨dx, hx⟩, q⟩ := h
   change H x = some (.ins a.C_Grow dx (putF "many" (.int m) [])) at hx
   refine ⟨_, (pss_one (ps_ret (pe_tup (pa_cons pe_str (pa_cons (pe_fldK (K := K) rfl (pv 0)) pa_nil))))), ?_⟩
   refine r_st (σ' := [some _]) rfl ?_
   walk_at "rd"
   exact q _ (by assumption)
end
section
variable {P : Program} {w : World} {K : PySem.W.Frag} {mg : Str → Option Value} {base : Heap} {a : Adr}
set_option maxHeartbeats 4000000 in
theorem me_Shrink_told (T : Txt w K mg a) (m : Int) : MethE P w K mg base CX0 1 a.C_Shrink "told" (spTold a (.shrink m)) := by
 refine methE_of (sp := (spTold a (.shrink m))) 0 T.cl_Shrink T.m_Shrink_told sc_Shrink_told (fun vs H Q E h => ?_) (fun f cdv A outer s H vs Q E hr h => ?_)
 · obtain ⟨x, rfl, _⟩ := h
   rfl
 · obtain ⟨x, rfl, ⟨dx, hx⟩, q⟩ := h
   change H x = some (.ins a.C_Shrink dx (putF "many" (.int m) [])) at hx
   refine ⟨_, (pss_one (ps_ret (pe_tup (pa_cons pe_str (pa_cons (pe_fldK (K := K) rfl (pv 0)) pa_nil))))), ?_⟩
   refine r_st (σ' := [some _]) rfl ?_
   walk_at "rd"
   exact q _ (by assumption)
end
section
variable {P : Program} {w : World} {K : PySem.W.Frag} {mg : Str → Option Value} {base : Heap} {a : Adr}
set_option maxHeartbeats 4000000 in
theorem me_Put_told (T : Txt w K mg a) (b c : Int) : MethE P w K mg base CX0 1 a.C_Put "told" (spTold a (.put b c)) := by
 refine methE_of (sp := (spTold a (.put b c))) 0 T.cl_Put T.m_Put_told sc_Put_told (fun vs H Q E h => ?_) (fun f cdv A outer s H vs Q E hr h => ?_)
 · obtain ⟨x, rfl, _⟩ := h
   rfl
 · obtain ⟨x, rfl, ⟨dx, hx⟩, q⟩ := h
   change H x = some (.ins a.C_Put dx (putF "cell" (.int c) (putF "box" (.int b) []))) at hx
   refine ⟨_, (pss_one (ps_ret (pe_tup (pa_cons pe_str (pa_cons (pe_fldK (K := K) rfl (pv 0)) (pa_cons (pe_fldK (K := K) rfl (pv 0)) pa_nil)))))), ?_⟩
   refine r_st (σ' := [some _]) rfl ?_
   walk_at "rd"
   exact q _ (by assumption)
end
section
variable {P : Program} {w : World} {K : PySem.W.Frag} {mg : Str → Option Value} {base : Heap} {a : Adr}
set_option maxHeartbeats 4000000 in
theorem me_Get_told (T : Txt w K mg a) (b c : Int) : MethE P w K mg base CX0 1 a.C_Get "told" (spTold a (.get b c)) := by
 refine methE_of (sp := (spTold a (.get b c))) 0 T.cl_Get T.m_Get_told sc_Get_told (fun vs H Q E h => ?_) (fun f cdv A outer s H vs Q E hr h => ?_)
 · obtain ⟨x, rfl, _⟩ := h
   rfl
 · obtain ⟨x, rfl, ⟨dx, hx⟩, q⟩ := h
   change H x = some (.ins a.C_Get dx (putF "cell" (.int c) (putF "box" (.int b) []))) at hx
   refine ⟨_, (pss_one (ps_ret (pe_tup (pa_cons pe_str (pa_cons (pe_fldK (K := K) rfl (pv 0)) (pa_cons (pe_fldK (K := K) rfl (pv 0)) pa_nil)))))), ?_⟩
   refine r_st (σ' := [some _]) rfl ?_
   walk_at "rd"
   exact q _ (by assumption)
end
section
variable {P : Program} {w : World} {K : PySem.W.Frag} {mg : Str → Option Value} {base : Heap} {a : Adr}
set_option maxHeartbeats 4000000 in
theorem me_Jump_told (T : Txt w K mg a) (t : Int) : MethE P w K mg base CX0 1 a.C_Jump "told" (spTold a (.jump t)) := by
 refine methE_of (sp := (spTold a (.jump t))) 0 T.cl_Jump T.m_Jump_told sc_Jump_told (fun vs H Q E h => ?_) (fun f cdv A outer s H vs Q E hr h => ?_)
 · obtain ⟨x, rfl, _⟩ := h
   rfl
 · obtain ⟨x, rfl, ⟨dx, hx⟩, q⟩ := h
   change H x = some (.ins a.C_Jump dx (putF "target" (.int t) [])) at hx
   refine ⟨_, (pss_one (ps_ret (pe_tup (pa_cons pe_str (pa_cons (pe_fldK (K := K) rfl (pv 0)) pa_nil))))), ?_⟩
   refine r_st (σ' := [some _]) rfl ?_
   walk_at "rd"
   exact q _ (by assumption)
end
section
variable {P : Program} {w : World} {K : PySem.W.Frag} {mg : Str → Option Value} {base : Heap} {a : Adr}
set_option maxHeartbeats 4000000 in
theorem me_Branch_told (T : Txt w K mg a) (b t : Int) : MethE P w K mg base CX0 1 a.C_Branch "told" (spTold a (.branch b t)) := by
 refine methE_of (sp := (spTold a (.branch b t))) 0 T.cl_Branch T.m_Branch_told sc_Branch_told (fun vs H Q E h => ?_) (fun f cdv A outer s H vs Q E hr h => ?_)
 · obtain ⟨x, rfl, _⟩ := h
   rfl
 · obtain ⟨x, rfl, ⟨dx, hx⟩, q⟩ := h
   change H x = some (.ins a.C_Branch dx (putF "target" (.int t) (putF "box" (.int b) []))) at hx
   refine ⟨_, (pss_one (ps_ret (pe_tup (pa_cons pe_str (pa_cons (pe_fldK (K := K) rfl (pv 0)) (pa_cons (pe_fldK (K := K) rfl (pv 0)) pa_nil)))))), ?_⟩
   refine r_st (σ' := [some _]) rfl ?_
   walk_at "rd"
   exact q _ (by assumption)
end
section
variable {P : Program} {w : World} {K : PySem.W.Frag} {mg : Str → Option Value} {base : Heap} {a : Adr}
set_option maxHeartbeats 4000000 in
theorem me_Call_told (T : Txt w K mg a) (t : Int) : MethE P w K mg base CX0 1 a.C_Call "told" (spTold a (.call t)) := by
 refine methE_of (sp := (spTold a (.call t))) 0 T.cl_Call T.m_Call_told sc_Call_told (fun vs H Q E h => ?_) (fun f cdv A outer s H vs Q E hr h => ?_)
 · obtain ⟨x, rfl, _⟩ := h
   rfl
 · obtain ⟨x, rfl, ⟨dx, hx⟩, q⟩ := h
   change H x = some (.ins a.C_Call dx (putF "target" (.int t) [])) at hx
   refine ⟨_, (pss_one (ps_ret (pe_tup (pa_cons pe_str (pa_cons (pe_fldK (K := K) rfl (pv 0)) pa_nil))))), ?_⟩
   refine r_st (σ' := [some _]) rfl ?_
   walk_at "rd"
   exact q _ (by assumption)
end
section
variable {P : Program} {w : World} {K : PySem.W.Frag} {mg : Str → Option Value} {base : Heap} {a : Adr}
set_option maxHeartbeats 4000000 in
theorem me_Back_told (T : Txt w K mg a) (b : Int) : MethE P w K mg base CX0 1 a.C_Back "told" (spTold a (.back b)) := by
 refine methE_of (sp := (spTold a (.back b))) 0 T.cl_Back T.m_Back_told sc_Back_told (fun vs H Q E h => ?_) (fun f cdv A outer s H vs Q E hr h => ?_)
 · obtain ⟨x, rfl, _⟩ := h
   rfl
 · obtain ⟨x, rfl, ⟨dx, hx⟩, q⟩ := h
   change H x = some (.ins a.C_Back dx (putF "box" (.int b) [])) at hx
   refine ⟨_, (pss_one (ps_ret (pe_tup (pa_cons pe_str (pa_cons (pe_fldK (K := K) rfl (pv 0)) pa_nil))))), ?_⟩
   refine r_st (σ' := [some _]) rfl ?_
   walk_at "rd"
   exact q _ (by assumption)
end
section
variable {P : Program} {w : World} {K : PySem.W.Frag} {mg : Str → Option Value} {base : Heap} {a : Adr}
set_option maxHeartbeats 4000000 in
theorem me_Drop_told (T : Txt w K mg a) (b : Int) : MethE P w K mg base CX0 1 a.C_Drop "told" (spTold a (.drop b)) := by
 refine methE_of (sp := (spTold a (.drop b))) 0 T.cl_Drop T.m_Drop_told sc_Drop_told (fun vs H Q E h => ?_) (fun f cdv A outer s H vs Q E hr h => ?_)
 · obtain ⟨x, rfl, _⟩ := h
   rfl
 · obtain ⟨x, rfl, ⟨dx, hx⟩, q⟩ := h
   change H x = some (.ins a.C_Drop dx (putF "box" (.int b) [])) at hx
   refine ⟨_, (pss_one (ps_ret (pe_tup (pa_cons pe_str (pa_cons (pe_fldK (K := K) rfl (pv 0)) pa_nil))))), ?_⟩
   refine r_st (σ' := [some _]) rfl ?_
   walk_at "rd"
   exact q _ (by assumption)
end
section
variable {P : Program} {w : World} {K : PySem.W.Frag} {mg : Str → Option Value} {base : Heap} {a : Adr}
set_option maxHeartbeats 4000000 in
theorem ok_asked_for_text (T : Txt w K mg a) : FnE P w K mg base CX0 1 "asked_for_text" spAskText := by
 refine fnE_of (sp := spAskText) 0 T.fn_asked_for_text sc_asked_for_text (fun vs H Q E h => ?_) (fun f cdv A outer s H vs Q E hr h => ?_)
 · obtain ⟨x, rfl, _⟩ := h
   rfl
 · obtain ⟨x, rfl, q⟩ := h
   refine ⟨_, (pss_one (ps_if (pt_not (pt_truK (K := K) rfl (pe_callB (call_isiK (K := K) rfl) rfl T.z_isinstance b_isinstance (pa_cons (pv 0) (pa_cons (pe_bltn (v := .ty "str") rfl T.z_str b_str rfl) pa_nil))))) (pss_one ps_never) pss_nil)), ?_⟩
   refine r_st (σ' := [some _]) rfl ?_
   walk_at "rd"
   exact q
end
section
variable {P : Program} {w : World} {K : PySem.W.Frag} {mg : Str → Option Value} {base : Heap} {a : Adr}
set_option maxHeartbeats 4000000 in
theorem ok_law_cell_at (T : Txt w K mg a) : FnE P w K mg base CX0 1 "_law_cell_at" (spCellAt K) := by
 refine fnE_of (sp := (spCellAt K)) 0 T.fn_law_cell_at sc_law_cell_at (fun vs H Q E h => ?_) (fun f cdv A outer s H vs Q E hr h => ?_)
 · obtain ⟨p, ns, k, rfl, _⟩ := h
   rfl
 · obtain ⟨p, ns, k, rfl, hS, h0, q⟩ := h
   refine ⟨_, (pss_cons (ps_if (pt_cmpR op_lt (pv 1) (pe_callB (call_lenK (K := K) rfl) rfl T.z_len b_len (pa_cons (pv 0) pa_nil)) (nomark _)) (pss_one (ps_ret (pe_ix (ix_K (K := K) rfl) (pv 0) (pv 1) (fun _ _ => rfl)))) pss_nil)
     (pss_one (ps_ret pe_int))), ?_⟩
   refine r_st (σ' := [some _, some _]) rfl ?_
   walk_at "rd"
   refine ifDec (fun hh => ?_) (fun hh => ?_)
   · walk_at "rd"
     exact q
   · walk_at "rd"
     have e := cellAt_out h0 hh
     rw [e] at q
     exact q
end
section
variable {P : Program} {w : World} {K : PySem.W.Frag} {mg : Str → Option Value} {base : Heap} {a : Adr}
set_option maxHeartbeats 4000000 in
theorem ok_law_number (T : Txt w K mg a) : FnE P w K mg base CX0 1 "_law_number" spNum9 := by
 refine fnE_of (sp := spNum9) 0 T.fn_law_number sc_law_number (fun vs H Q E h => ?_) (fun f cdv A outer s H vs Q E hr h => ?_)
 · obtain ⟨c, m, rfl, _⟩ := h
   rfl
 · obtain ⟨c, m, rfl, hm, q⟩ := h
   have t1 := Int.emod_nonneg (c / 4) (show m + 1 ≠ 0 by omega)
   have t2 := Int.emod_lt_of_pos (c / 4) (show 0 < m + 1 by omega)
   have t3 := Int.emod_nonneg (c / 4 % 100) (show m + 1 ≠ 0 by omega)
   have t4 := Int.emod_lt_of_pos (c / 4 % 100) (show 0 < m + 1 by omega)
   refine ⟨_, (pss_one (ps_ret (pe_ix (ix_K (K := K) rfl) (pe_lst (pa_cons (pe_op op_mod (pe_op op_fdiv (pv 0) pe_int) (pe_op (op_plusK (K := K) rfl) (pv 1) pe_int)) (pa_cons pe_int (pa_cons (pv 1) (pa_cons (pe_op op_mod (pe_op op_mod (pe_op op_fdiv (pv 0) pe_int) pe_int) (pe_op (op_plusK (K := K) rfl) (pv 1) pe_int)) pa_nil))))) (pe_op op_mod (pv 0) pe_int) (fun _ _ => rfl)))), ?_⟩
   refine r_st (σ' := [some _, some _]) rfl ?_
   walk_at "rd"
   have hx : c % 4 = 0 ∨ c % 4 = 1 ∨ c % 4 = 2 ∨ c % 4 = 3 := by omega
   rcases hx with hx | hx | hx | hx <;> rw [hx]
   · exact r_ixL (SqL.of upd_same) (v := .int _) rfl (q _ _ (by walk_at "same") t1 (by omega))
   · exact r_ixL (SqL.of upd_same) (v := .int _) rfl (q _ _ (by walk_at "same") (by omega) (by omega))
   · exact r_ixL (SqL.of upd_same) (v := .int _) rfl (q _ _ (by walk_at "same") (by omega) (by omega))
   · exact r_ixL (SqL.of upd_same) (v := .int _) rfl (q _ _ (by walk_at "same") t3 (by omega))
end
section
variable {P : Program} {w : World} {K : PySem.W.Frag} {mg : Str → Option Value} {base : Heap} {a : Adr}
set_option maxHeartbeats 4000000 in
theorem ok_law_text (T : Txt w K mg a) : FnE P w K mg base CX0 1 "_law_text" spTextOf := by
 refine fnE_of (sp := spTextOf) 0 T.fn_law_text sc_law_text (fun vs H Q E h => ?_) (fun f cdv A outer s H vs Q E hr h => ?_)
 · obtain ⟨t, r, rfl, _⟩ := h
   rfl
 · obtain ⟨t, r, rfl, ht, hok, q⟩ := h
   have hnum := told_num hok
   have hfew := (told_len r).2
   unfold toldV at ht
   refine ⟨_, (pss_one (ps_ret (pe_bmK (K := K) rfl PySem.F.plainAttrs_str PySem.F.slot_str_join PySem.F.type_str_join (mt_join (K := K) rfl) pe_str (pa_cons (pe_op (op_plusK (K := K) rfl) (pe_lst (pa_cons (pe_ix (ix_K (K := K) rfl) (pv 0) pe_int (fun _ _ => rfl)) pa_nil)) (pe_comp (own := ["_law_number_here"]) (fr := []) rfl ⟨rfl, (by walk_at "clok"), (by walk_at "frok"), rfl, (by decide +kernel), (by decide +kernel), rfl⟩ (pi_seqK (K := K) rfl (pe_slice (sl_K (K := K) rfl) (pv 0) (po_some pe_int) po_none)) (fun _ _ _ _ => (pg_name (i := 0) (show List.Nodup [("_law_number_here" : Str)] from by decide +kernel) rfl (Or.inl rfl))) (fun _ _ _ _ => pts_nil) (fun _ _ _ _ => (pe_callTy call_str_int rfl T.z_str b_str (pa_cons (pv 0) pa_nil))))) pa_nil)))), ?_⟩
   refine r_st (σ' := [some _]) rfl ?_
   walk_at "rd"
   refine r_ixT (SqT.of ht) (v := .str r.told.1) (atI_nat (j := 0) rfl) ?_
   walk_at "rd"
   rename_i l1 hl1
   refine r_slT (SqT.of (by walk_at "hlk")) (cut_tail_neV _ _) (fun l2 hl2 => ?_)
   rw [cut_tailV]
   walk_at "rd"
   refine comp_mapT (xs := r.told.2) (emb := V.int) (fun n => .str (numS n)) (fun σ => ∃ v, σ = [v]) (SqT.of upd_same) (by rw [sizeLine_eq]; omega) ⟨_, rfl⟩ ?_ ?_
   · rintro i n ys σ H1 hp c s ⟨v, rfl⟩
     have hn := hnum n (List.mem_of_getElem? hp)
     walk_at "rd"
     exact ⟨log_num hn.1 hn.2, c.next hp rfl (by walk_at "same") ⟨_, rfl⟩⟩
   intro H1 s1
   walk_at "rd"
   rename_i l3 hl3
   refine r_plusL (by walk_at "hlk") upd_same (by rw [sizeLine_eq, List.length_map]; show 1 + _ ≤ _; omega) fun l4 hl4 => ?_
   walk_at "rd"
   have e : [V.str r.told.1] ++ r.told.2.map (fun n => V.str (numS n)) = (rowW r).map V.str := by
     show _ :: _ = _ :: List.map V.str (List.map numS r.told.2)
     rw [List.map_map]; rfl
   rw [e]
   refine r_join (SqL.of upd_same) (rowW_ok hok) ?_
   exact q _ (by walk_at "same")
end
section
variable {P : Program} {w : World} {K : PySem.W.Frag} {mg : Str → Option Value} {base : Heap} {a : Adr}
theorem flds_told (r : Rw) : r.flds.lookup ("told" : Str) = none := by
 cases r <;> (show List.lookup _ (putF _ _ _) = none; walk_at "nolk")
theorem me_all_told (T : Txt w K mg a) (r : Rw) : MethE P w K mg base CX0 1 (r.cls a) "told" (spTold a r) := by
 cases r
 · exact (me_Set_told T _ _).mono (by decide)
 · exact (me_Copy_told T _ _).mono (by decide)
 · exact (me_Add_told T _ _ _).mono (by decide)
 · exact (me_Sub_told T _ _ _).mono (by decide)
 · exact (me_Mul_told T _ _ _).mono (by decide)
 · exact (me_Less_told T _ _ _).mono (by decide)
 · exact (me_Grow_told T _).mono (by decide)
 · exact (me_Shrink_told T _).mono (by decide)
 · exact (me_Put_told T _ _).mono (by decide)
 · exact (me_Get_told T _ _).mono (by decide)
 · exact (me_Jump_told T _).mono (by decide)
 · exact (me_Branch_told T _ _).mono (by decide)
 · exact (me_Call_told T _).mono (by decide)
 · exact (me_Back_told T _).mono (by decide)
 · exact (me_Drop_told T _).mono (by decide)
end
section
variable {P : Program} {w : World} {K : PySem.W.Frag} {mg : Str → Option Value} {base : Heap} {a : Adr}
set_option maxHeartbeats 4000000 in
theorem ok_read_number (T : Txt w K mg a) : FnE P w K mg base CX0 2 "read_number" spReadNum := by
 refine fnE_of (sp := spReadNum) 1 T.fn_read_number sc_read_number (fun vs H Q E h => ?_) (fun f cdv A outer s H vs Q E hr h => ?_)
 · obtain ⟨n, rfl, _⟩ := h
   rfl
 · obtain ⟨n, rfl, h0, h1, q⟩ := h
   refine ⟨_, (pss_cons (ps_if (pt_not (pt_truK (K := K) rfl (pe_callE (ok_is_number (K := K) T) (hr.mono (by decide)) pass0 rfl (pa_cons (pv 0) pa_nil)))) (pss_one ps_never) pss_nil)
     (pss_one (ps_ret (pe_callTy call_intT rfl T.z_int b_int (pa_cons (pv 0) pa_nil))))), ?_⟩
   refine r_st (σ' := [some _]) rfl ?_
   walk_at "rd"
   refine ⟨n, rfl, h0, h1, fun H1 s1 => ?_⟩
   walk_at "rd"
   exact ⟨_, n, rfl, numS_reads h0 h1, Nat.le_trans (numS_len h0 h1) (by decide), q _ s1⟩
end
section
variable {P : Program} {w : World} {K : PySem.W.Frag} {mg : Str → Option Value} {base : Heap} {a : Adr}
set_option maxHeartbeats 4000000 in
theorem mk_Set (T : Txt w K mg a) : MkE P w K mg base CX0 2 "Set" a.C_Set (spIni2 a.C_Set Rw.set) := by
 refine mkE_of (sp := (spIni2 a.C_Set Rw.set)) 1 T.c_Set T.i_Set sc_Set_init (fun vs H Q E h => ?_) (fun f cdv A outer s H vs Q E hr h => ?_)
 · obtain ⟨x, dx, i, j, rfl, _⟩ := h
   rfl
 · obtain ⟨x, dx, i, j, rfl, ⟨⟨h1, h2⟩, ⟨h3, h4⟩⟩, hx, q⟩ := h
   refine ⟨_, (pss_cons (ps_fldK (K := K) rfl (pv 0) (pe_callE (ok_bounded (K := K) T) (hr.mono (by decide)) pass0 rfl (pa_cons (pv 1) (pa_cons (pe_glob (v := .int 7) rfl T.g_TOP_BOX.choose_spec ⟨_, rfl⟩) pa_nil))))
     (pss_one (ps_fldK (K := K) rfl (pv 0) (pe_callE (ok_bounded (K := K) T) (hr.mono (by decide)) pass0 rfl (pa_cons (pv 2) (pa_cons (pe_glob (v := .int 4294967295) rfl T.g_TOP_VALUE.choose_spec ⟨_, rfl⟩) pa_nil)))))), ?_⟩
   refine r_st (σ' := [some _, some _, some _]) rfl ?_
   walk_at "rd"
   exact q _ kp_two upd_same
end
section
variable {P : Program} {w : World} {K : PySem.W.Frag} {mg : Str → Option Value} {base : Heap} {a : Adr}
set_option maxHeartbeats 4000000 in
theorem mk_Copy (T : Txt w K mg a) : MkE P w K mg base CX0 2 "Copy" a.C_Copy (spIni2 a.C_Copy Rw.copy) := by
 refine mkE_of (sp := (spIni2 a.C_Copy Rw.copy)) 1 T.c_Copy T.i_Copy sc_Copy_init (fun vs H Q E h => ?_) (fun f cdv A outer s H vs Q E hr h => ?_)
 · obtain ⟨x, dx, i, j, rfl, _⟩ := h
   rfl
 · obtain ⟨x, dx, i, j, rfl, ⟨⟨h1, h2⟩, ⟨h3, h4⟩⟩, hx, q⟩ := h
   refine ⟨_, (pss_cons (ps_fldK (K := K) rfl (pv 0) (pe_callE (ok_bounded (K := K) T) (hr.mono (by decide)) pass0 rfl (pa_cons (pv 1) (pa_cons (pe_glob (v := .int 7) rfl T.g_TOP_BOX.choose_spec ⟨_, rfl⟩) pa_nil))))
     (pss_one (ps_fldK (K := K) rfl (pv 0) (pe_callE (ok_bounded (K := K) T) (hr.mono (by decide)) pass0 rfl (pa_cons (pv 2) (pa_cons (pe_glob (v := .int 7) rfl T.g_TOP_BOX.choose_spec ⟨_, rfl⟩) pa_nil)))))), ?_⟩
   refine r_st (σ' := [some _, some _, some _]) rfl ?_
   walk_at "rd"
   exact q _ kp_two upd_same
end
section
variable {P : Program} {w : World} {K : PySem.W.Frag} {mg : Str → Option Value} {base : Heap} {a : Adr}
set_option maxHeartbeats 4000000 in
theorem mk_Less (T : Txt w K mg a) : MkE P w K mg base CX0 2 "Less" a.C_Less (spIni3 a.C_Less Rw.less) := by
 refine mkE_of (sp := (spIni3 a.C_Less Rw.less)) 1 T.c_Less T.i_Less sc_Reckoning_init (fun vs H Q E h => ?_) (fun f cdv A outer s H vs Q E hr h => ?_)
 · obtain ⟨x, dx, i, j, k, rfl, _⟩ := h
   rfl
 · obtain ⟨x, dx, i, j, k, rfl, ⟨⟨h1, h2⟩, ⟨h3, h4⟩, ⟨h5, h6⟩⟩, hx, q⟩ := h
   refine ⟨_, (pss_cons (ps_fldK (K := K) rfl (pv 0) (pe_callE (ok_bounded (K := K) T) (hr.mono (by decide)) pass0 rfl (pa_cons (pv 1) (pa_cons (pe_glob (v := .int 7) rfl T.g_TOP_BOX.choose_spec ⟨_, rfl⟩) pa_nil))))
     (pss_cons (ps_fldK (K := K) rfl (pv 0) (pe_callE (ok_bounded (K := K) T) (hr.mono (by decide)) pass0 rfl (pa_cons (pv 2) (pa_cons (pe_glob (v := .int 7) rfl T.g_TOP_BOX.choose_spec ⟨_, rfl⟩) pa_nil))))
     (pss_one (ps_fldK (K := K) rfl (pv 0) (pe_callE (ok_bounded (K := K) T) (hr.mono (by decide)) pass0 rfl (pa_cons (pv 3) (pa_cons (pe_glob (v := .int 7) rfl T.g_TOP_BOX.choose_spec ⟨_, rfl⟩) pa_nil))))))), ?_⟩
   refine r_st (σ' := [some _, some _, some _, some _]) rfl ?_
   walk_at "rd"
   exact q _ kp_three upd_same
end
section
variable {P : Program} {w : World} {K : PySem.W.Frag} {mg : Str → Option Value} {base : Heap} {a : Adr}
set_option maxHeartbeats 4000000 in
theorem mk_Add (T : Txt w K mg a) : MkE P w K mg base CX0 2 "Add" a.C_Add (spIni3 a.C_Add Rw.add) := by
 refine mkE_of (sp := (spIni3 a.C_Add Rw.add)) 1 T.c_Add T.i_Add sc_Reckoning_init (fun vs H Q E h => ?_) (fun f cdv A outer s H vs Q E hr h => ?_)
 · obtain ⟨x, dx, i, j, k, rfl, _⟩ := h
   rfl
 · obtain ⟨x, dx, i, j, k, rfl, ⟨⟨h1, h2⟩, ⟨h3, h4⟩, ⟨h5, h6⟩⟩, hx, q⟩ := h
   refine ⟨_, (pss_cons (ps_fldK (K := K) rfl (pv 0) (pe_callE (ok_bounded (K := K) T) (hr.mono (by decide)) pass0 rfl (pa_cons (pv 1) (pa_cons (pe_glob (v := .int 7) rfl T.g_TOP_BOX.choose_spec ⟨_, rfl⟩) pa_nil))))
     (pss_cons (ps_fldK (K := K) rfl (pv 0) (pe_callE (ok_bounded (K := K) T) (hr.mono (by decide)) pass0 rfl (pa_cons (pv 2) (pa_cons (pe_glob (v := .int 7) rfl T.g_TOP_BOX.choose_spec ⟨_, rfl⟩) pa_nil))))
     (pss_one (ps_fldK (K := K) rfl (pv 0) (pe_callE (ok_bounded (K := K) T) (hr.mono (by decide)) pass0 rfl (pa_cons (pv 3) (pa_cons (pe_glob (v := .int 7) rfl T.g_TOP_BOX.choose_spec ⟨_, rfl⟩) pa_nil))))))), ?_⟩
   refine r_st (σ' := [some _, some _, some _, some _]) rfl ?_
   walk_at "rd"
   exact q _ kp_three upd_same
end
section
variable {P : Program} {w : World} {K : PySem.W.Frag} {mg : Str → Option Value} {base : Heap} {a : Adr}
set_option maxHeartbeats 4000000 in
theorem mk_Sub (T : Txt w K mg a) : MkE P w K mg base CX0 2 "Sub" a.C_Sub (spIni3 a.C_Sub Rw.sub) := by
 refine mkE_of (sp := (spIni3 a.C_Sub Rw.sub)) 1 T.c_Sub T.i_Sub sc_Reckoning_init (fun vs H Q E h => ?_) (fun f cdv A outer s H vs Q E hr h => ?_)
 · obtain ⟨x, dx, i, j, k, rfl, _⟩ := h
   rfl
 · obtain ⟨x, dx, i, j, k, rfl, ⟨⟨h1, h2⟩, ⟨h3, h4⟩, ⟨h5, h6⟩⟩, hx, q⟩ := h
   refine ⟨_, (pss_cons (ps_fldK (K := K) rfl (pv 0) (pe_callE (ok_bounded (K := K) T) (hr.mono (by decide)) pass0 rfl (pa_cons (pv 1) (pa_cons (pe_glob (v := .int 7) rfl T.g_TOP_BOX.choose_spec ⟨_, rfl⟩) pa_nil))))
     (pss_cons (ps_fldK (K := K) rfl (pv 0) (pe_callE (ok_bounded (K := K) T) (hr.mono (by decide)) pass0 rfl (pa_cons (pv 2) (pa_cons (pe_glob (v := .int 7) rfl T.g_TOP_BOX.choose_spec ⟨_, rfl⟩) pa_nil))))
     (pss_one (ps_fldK (K := K) rfl (pv 0) (pe_callE (ok_bounded (K := K) T) (hr.mono (by decide)) pass0 rfl (pa_cons (pv 3) (pa_cons (pe_glob (v := .int 7) rfl T.g_TOP_BOX.choose_spec ⟨_, rfl⟩) pa_nil))))))), ?_⟩
   refine r_st (σ' := [some _, some _, some _, some _]) rfl ?_
   walk_at "rd"
   exact q _ kp_three upd_same
end
section
variable {P : Program} {w : World} {K : PySem.W.Frag} {mg : Str → Option Value} {base : Heap} {a : Adr}
set_option maxHeartbeats 4000000 in
theorem mk_Mul (T : Txt w K mg a) : MkE P w K mg base CX0 2 "Mul" a.C_Mul (spIni3 a.C_Mul Rw.mul) := by
 refine mkE_of (sp := (spIni3 a.C_Mul Rw.mul)) 1 T.c_Mul T.i_Mul sc_Reckoning_init (fun vs H Q E h => ?_) (fun f cdv A outer s H vs Q E hr h => ?_)
 · obtain ⟨x, dx, i, j, k, rfl, _⟩ := h
   rfl
 · obtain ⟨x, dx, i, j, k, rfl, ⟨⟨h1, h2⟩, ⟨h3, h4⟩, ⟨h5, h6⟩⟩, hx, q⟩ := h
   refine ⟨_, (pss_cons (ps_fldK (K := K) rfl (pv 0) (pe_callE (ok_bounded (K := K) T) (hr.mono (by decide)) pass0 rfl (pa_cons (pv 1) (pa_cons (pe_glob (v := .int 7) rfl T.g_TOP_BOX.choose_spec ⟨_, rfl⟩) pa_nil))))
     (pss_cons (ps_fldK (K := K) rfl (pv 0) (pe_callE (ok_bounded (K := K) T) (hr.mono (by decide)) pass0 rfl (pa_cons (pv 2) (pa_cons (pe_glob (v := .int 7) rfl T.g_TOP_BOX.choose_spec ⟨_, rfl⟩) pa_nil))))
     (pss_one (ps_fldK (K := K) rfl (pv 0) (pe_callE (ok_bounded (K := K) T) (hr.mono (by decide)) pass0 rfl (pa_cons (pv 3) (pa_cons (pe_glob (v := .int 7) rfl T.g_TOP_BOX.choose_spec ⟨_, rfl⟩) pa_nil))))))), ?_⟩
   refine r_st (σ' := [some _, some _, some _, some _]) rfl ?_
   walk_at "rd"
   exact q _ kp_three upd_same
end
section
variable {P : Program} {w : World} {K : PySem.W.Frag} {mg : Str → Option Value} {base : Heap} {a : Adr}
set_option maxHeartbeats 4000000 in
theorem mk_Grow (T : Txt w K mg a) : MkE P w K mg base CX0 2 "Grow" a.C_Grow (spIni1 a.C_Grow Rw.grow) := by
 refine mkE_of (sp := (spIni1 a.C_Grow Rw.grow)) 1 T.c_Grow T.i_Grow sc_Grow_init (fun vs H Q E h => ?_) (fun f cdv A outer s H vs Q E hr h => ?_)
 · obtain ⟨x, dx, i, rfl, _⟩ := h
   rfl
 · obtain ⟨x, dx, i, rfl, ⟨h1, h2⟩, hx, q⟩ := h
   refine ⟨_, (pss_one (ps_fldK (K := K) rfl (pv 0) (pe_callE (ok_bounded (K := K) T) (hr.mono (by decide)) pass0 rfl (pa_cons (pv 1) (pa_cons (pe_glob (v := .int 4000) rfl T.g_TOP_CELLS.choose_spec ⟨_, rfl⟩) pa_nil))))), ?_⟩
   refine r_st (σ' := [some _, some _]) rfl ?_
   walk_at "rd"
   exact q _ kp_one upd_same
end
section
variable {P : Program} {w : World} {K : PySem.W.Frag} {mg : Str → Option Value} {base : Heap} {a : Adr}
set_option maxHeartbeats 4000000 in
theorem mk_Shrink (T : Txt w K mg a) : MkE P w K mg base CX0 2 "Shrink" a.C_Shrink (spIni1 a.C_Shrink Rw.shrink) := by
 refine mkE_of (sp := (spIni1 a.C_Shrink Rw.shrink)) 1 T.c_Shrink T.i_Shrink sc_Shrink_init (fun vs H Q E h => ?_) (fun f cdv A outer s H vs Q E hr h => ?_)
 · obtain ⟨x, dx, i, rfl, _⟩ := h
   rfl
 · obtain ⟨x, dx, i, rfl, ⟨h1, h2⟩, hx, q⟩ := h
   refine ⟨_, (pss_one (ps_fldK (K := K) rfl (pv 0) (pe_callE (ok_bounded (K := K) T) (hr.mono (by decide)) pass0 rfl (pa_cons (pv 1) (pa_cons (pe_glob (v := .int 4000) rfl T.g_TOP_CELLS.choose_spec ⟨_, rfl⟩) pa_nil))))), ?_⟩
   refine r_st (σ' := [some _, some _]) rfl ?_
   walk_at "rd"
   exact q _ kp_one upd_same
end
section
variable {P : Program} {w : World} {K : PySem.W.Frag} {mg : Str → Option Value} {base : Heap} {a : Adr}
set_option maxHeartbeats 4000000 in
theorem mk_Put (T : Txt w K mg a) : MkE P w K mg base CX0 2 "Put" a.C_Put (spIni2 a.C_Put Rw.put) := by
 refine mkE_of (sp := (spIni2 a.C_Put Rw.put)) 1 T.c_Put T.i_Put sc_Reaching_init (fun vs H Q E h => ?_) (fun f cdv A outer s H vs Q E hr h => ?_)
 · obtain ⟨x, dx, i, j, rfl, _⟩ := h
   rfl
 · obtain ⟨x, dx, i, j, rfl, ⟨⟨h1, h2⟩, ⟨h3, h4⟩⟩, hx, q⟩ := h
   refine ⟨_, (pss_cons (ps_fldK (K := K) rfl (pv 0) (pe_callE (ok_bounded (K := K) T) (hr.mono (by decide)) pass0 rfl (pa_cons (pv 1) (pa_cons (pe_glob (v := .int 7) rfl T.g_TOP_BOX.choose_spec ⟨_, rfl⟩) pa_nil))))
     (pss_one (ps_fldK (K := K) rfl (pv 0) (pe_callE (ok_bounded (K := K) T) (hr.mono (by decide)) pass0 rfl (pa_cons (pv 2) (pa_cons (pe_glob (v := .int 4000) rfl T.g_TOP_CELLS.choose_spec ⟨_, rfl⟩) pa_nil)))))), ?_⟩
   refine r_st (σ' := [some _, some _, some _]) rfl ?_
   walk_at "rd"
   exact q _ kp_two upd_same
end
section
variable {P : Program} {w : World} {K : PySem.W.Frag} {mg : Str → Option Value} {base : Heap} {a : Adr}
set_option maxHeartbeats 4000000 in
theorem mk_Get (T : Txt w K mg a) : MkE P w K mg base CX0 2 "Get" a.C_Get (spIni2 a.C_Get Rw.get) := by
 refine mkE_of (sp := (spIni2 a.C_Get Rw.get)) 1 T.c_Get T.i_Get sc_Reaching_init (fun vs H Q E h => ?_) (fun f cdv A outer s H vs Q E hr h => ?_)
 · obtain ⟨x, dx, i, j, rfl, _⟩ := h
   rfl
 · obtain ⟨x, dx, i, j, rfl, ⟨⟨h1, h2⟩, ⟨h3, h4⟩⟩, hx, q⟩ := h
   refine ⟨_, (pss_cons (ps_fldK (K := K) rfl (pv 0) (pe_callE (ok_bounded (K := K) T) (hr.mono (by decide)) pass0 rfl (pa_cons (pv 1) (pa_cons (pe_glob (v := .int 7) rfl T.g_TOP_BOX.choose_spec ⟨_, rfl⟩) pa_nil))))
     (pss_one (ps_fldK (K := K) rfl (pv 0) (pe_callE (ok_bounded (K := K) T) (hr.mono (by decide)) pass0 rfl (pa_cons (pv 2) (pa_cons (pe_glob (v := .int 4000) rfl T.g_TOP_CELLS.choose_spec ⟨_, rfl⟩) pa_nil)))))), ?_⟩
   refine r_st (σ' := [some _, some _, some _]) rfl ?_
   walk_at "rd"
   exact q _ kp_two upd_same
end
section
variable {P : Program} {w : World} {K : PySem.W.Frag} {mg : Str → Option Value} {base : Heap} {a : Adr}
set_option maxHeartbeats 4000000 in
theorem mk_Jump (T : Txt w K mg a) : MkE P w K mg base CX0 2 "Jump" a.C_Jump (spIni1 a.C_Jump Rw.jump) := by
 refine mkE_of (sp := (spIni1 a.C_Jump Rw.jump)) 1 T.c_Jump T.i_Jump sc_Jump_init (fun vs H Q E h => ?_) (fun f cdv A outer s H vs Q E hr h => ?_)
 · obtain ⟨x, dx, i, rfl, _⟩ := h
   rfl
 · obtain ⟨x, dx, i, rfl, ⟨h1, h2⟩, hx, q⟩ := h
   refine ⟨_, (pss_one (ps_fldK (K := K) rfl (pv 0) (pe_callE (ok_bounded (K := K) T) (hr.mono (by decide)) pass0 rfl (pa_cons (pv 1) (pa_cons (pe_glob (v := .int 2000) rfl T.g_TOP_TARGET.choose_spec ⟨_, rfl⟩) pa_nil))))), ?_⟩
   refine r_st (σ' := [some _, some _]) rfl ?_
   walk_at "rd"
   exact q _ kp_one upd_same
end
section
variable {P : Program} {w : World} {K : PySem.W.Frag} {mg : Str → Option Value} {base : Heap} {a : Adr}
set_option maxHeartbeats 4000000 in
theorem mk_Branch (T : Txt w K mg a) : MkE P w K mg base CX0 2 "Branch" a.C_Branch (spIni2 a.C_Branch Rw.branch) := by
 refine mkE_of (sp := (spIni2 a.C_Branch Rw.branch)) 1 T.c_Branch T.i_Branch sc_Branch_init (fun vs H Q E h => ?_) (fun f cdv A outer s H vs Q E hr h => ?_)
 · obtain ⟨x, dx, i, j, rfl, _⟩ := h
   rfl
 · obtain ⟨x, dx, i, j, rfl, ⟨⟨h1, h2⟩, ⟨h3, h4⟩⟩, hx, q⟩ := h
   refine ⟨_, (pss_cons (ps_fldK (K := K) rfl (pv 0) (pe_callE (ok_bounded (K := K) T) (hr.mono (by decide)) pass0 rfl (pa_cons (pv 1) (pa_cons (pe_glob (v := .int 7) rfl T.g_TOP_BOX.choose_spec ⟨_, rfl⟩) pa_nil))))
     (pss_one (ps_fldK (K := K) rfl (pv 0) (pe_callE (ok_bounded (K := K) T) (hr.mono (by decide)) pass0 rfl (pa_cons (pv 2) (pa_cons (pe_glob (v := .int 2000) rfl T.g_TOP_TARGET.choose_spec ⟨_, rfl⟩) pa_nil)))))), ?_⟩
   refine r_st (σ' := [some _, some _, some _]) rfl ?_
   walk_at "rd"
   exact q _ kp_two upd_same
end
section
variable {P : Program} {w : World} {K : PySem.W.Frag} {mg : Str → Option Value} {base : Heap} {a : Adr}
set_option maxHeartbeats 4000000 in
theorem mk_Call (T : Txt w K mg a) : MkE P w K mg base CX0 2 "Call" a.C_Call (spIni1 a.C_Call Rw.call) := by
 refine mkE_of (sp := (spIni1 a.C_Call Rw.call)) 1 T.c_Call T.i_Call sc_Call_init (fun vs H Q E h => ?_) (fun f cdv A outer s H vs Q E hr h => ?_)
 · obtain ⟨x, dx, i, rfl, _⟩ := h
   rfl
 · obtain ⟨x, dx, i, rfl, ⟨h1, h2⟩, hx, q⟩ := h
   refine ⟨_, (pss_one (ps_fldK (K := K) rfl (pv 0) (pe_callE (ok_bounded (K := K) T) (hr.mono (by decide)) pass0 rfl (pa_cons (pv 1) (pa_cons (pe_glob (v := .int 2000) rfl T.g_TOP_TARGET.choose_spec ⟨_, rfl⟩) pa_nil))))), ?_⟩
   refine r_st (σ' := [some _, some _]) rfl ?_
   walk_at "rd"
   exact q _ kp_one upd_same
end
section
variable {P : Program} {w : World} {K : PySem.W.Frag} {mg : Str → Option Value} {base : Heap} {a : Adr}
set_option maxHeartbeats 4000000 in
theorem mk_Back (T : Txt w K mg a) : MkE P w K mg base CX0 2 "Back" a.C_Back (spIni1 a.C_Back Rw.back) := by
 refine mkE_of (sp := (spIni1 a.C_Back Rw.back)) 1 T.c_Back T.i_Back sc_Back_init (fun vs H Q E h => ?_) (fun f cdv A outer s H vs Q E hr h => ?_)
 · obtain ⟨x, dx, i, rfl, _⟩ := h
   rfl
 · obtain ⟨x, dx, i, rfl, ⟨h1, h2⟩, hx, q⟩ := h
   refine ⟨_, (pss_one (ps_fldK (K := K) rfl (pv 0) (pe_callE (ok_bounded (K := K) T) (hr.mono (by decide)) pass0 rfl (pa_cons (pv 1) (pa_cons (pe_glob (v := .int 7) rfl T.g_TOP_BOX.choose_spec ⟨_, rfl⟩) pa_nil))))), ?_⟩
   refine r_st (σ' := [some _, some _]) rfl ?_
   walk_at "rd"
   exact q _ kp_one upd_same
end
section
variable {P : Program} {w : World} {K : PySem.W.Frag} {mg : Str → Option Value} {base : Heap} {a : Adr}
set_option maxHeartbeats 4000000 in
theorem mk_Drop (T : Txt w K mg a) : MkE P w K mg base CX0 2 "Drop" a.C_Drop (spIni1 a.C_Drop Rw.drop) := by
 refine mkE_of (sp := (spIni1 a.C_Drop Rw.drop)) 1 T.c_Drop T.i_Drop sc_Drop_init (fun vs H Q E h => ?_) (fun f cdv A outer s H vs Q E hr h => ?_)
 · obtain ⟨x, dx, i, rfl, _⟩ := h
   rfl
 · obtain ⟨x, dx, i, rfl, ⟨h1, h2⟩, hx, q⟩ := h
   refine ⟨_, (pss_one (ps_fldK (K := K) rfl (pv 0) (pe_callE (ok_bounded (K := K) T) (hr.mono (by decide)) pass0 rfl (pa_cons (pv 1) (pa_cons (pe_glob (v := .int 7) rfl T.g_TOP_BOX.choose_spec ⟨_, rfl⟩) pa_nil))))), ?_⟩
   refine r_st (σ' := [some _, some _]) rfl ?_
   walk_at "rd"
   exact q _ kp_one upd_same
end
section
variable {P : Program} {w : World} {K : PySem.W.Frag} {mg : Str → Option Value} {base : Heap} {a : Adr}
set_option maxHeartbeats 4000000 in
theorem ok_show_row (T : Txt w K mg a) : FnE P w K mg base CX0 2 "show_row" (spShowRow a) := by
 refine fnE_of (sp := (spShowRow a)) 1 T.fn_show_row sc_show_row (fun vs H Q E h => ?_) (fun f cdv A outer s H vs Q E hr h => ?_)
 · obtain ⟨x, r, rfl, _⟩ := h
   rfl
 · obtain ⟨x, r, rfl, ⟨dx, hx⟩, hok, q⟩ := h
   have hnum := told_num hok
   refine ⟨_, (pss_one (ps_ret (pe_bmK (K := K) rfl PySem.F.plainAttrs_str PySem.F.slot_str_join PySem.F.type_str_join (mt_join (K := K) rfl) pe_str (pa_cons (pe_comp (own := ["part"]) (fr := []) rfl ⟨rfl, (by walk_at "clok"), (by walk_at "frok"), rfl, (by decide +kernel), (by decide +kernel), rfl⟩ (pi_seqK (K := K) rfl (pe_methK0 (P := P) (w := w) (K := K) (mg := mg) (base := base) (k := 1) ⟨rfl, rfl, rfl, rfl, rfl⟩ (pv 0) (hr.mono (by decide)) pass0)) (fun _ _ _ _ => (pg_name (i := 0) (show List.Nodup [("part" : Str)] from by decide +kernel) rfl (Or.inl rfl))) (fun _ _ _ _ => pts_nil) (fun _ _ _ _ => (pe_callTy call_strA rfl T.z_str b_str (pa_cons (pv 0) pa_nil)))) pa_nil)))), ?_⟩
   refine r_st (σ' := [some _]) rfl ?_
   walk_at "rd"
   refine r_methV hx (flds_told _) ((me_all_told T _).mono (by decide)) ?_
   walk_at "rd"
   refine ⟨x, rfl, ⟨dx, hx⟩, fun t1 ht1 => ?_⟩
   walk_at "rd"
   refine comp_mapT (xs := partsOf r) (emb := partV) partS (fun σ => ∃ v, σ = [v]) (by rw [partsV]; exact SqT.of upd_same) (by have := (told_len r).2; show (List.map Sum.inr r.told.2).length + 1 ≤ _; rw [List.length_map, sizeLine_eq]; omega) ⟨_, rfl⟩ ?_ ?_
   · rintro i p ys σ H1 hp c s ⟨v, rfl⟩
     cases p with
     | inl w =>
       walk_at "rd"
       exact .inr ⟨w, rfl, c.next hp rfl (by walk_at "same") ⟨_, rfl⟩⟩
     | inr n =>
       have hn : n ∈ r.told.2 := by
         rcases List.mem_cons.mp (List.mem_of_getElem? hp) with z | z
         · cases z
         · obtain ⟨m, hm, e⟩ := List.mem_map.mp z
           cases e; exact hm
       walk_at "rd"
       exact .inl ⟨n, rfl, log_num (hnum n hn).1 (hnum n hn).2, c.next hp rfl (by walk_at "same") ⟨_, rfl⟩⟩
   intro H1 s1
   rw [partsS]
   walk_at "rd"
   refine r_join (SqL.of upd_same) (rowW_ok hok) ?_
   exact q _ (by walk_at "same")
end
section
variable {P : Program} {w : World} {K : PySem.W.Frag} {mg : Str → Option Value} {base : Heap} {a : Adr}
set_option maxHeartbeats 4000000 in
theorem ok_show_code (T : Txt w K mg a) : FnE P w K mg base CX0 3 "show_code" (spShowCode a) := by
 refine fnE_of (sp := (spShowCode a)) 2 T.fn_show_code sc_show_code (fun vs H Q E h => ?_) (fun f cdv A outer s H vs Q E hr h => ?_)
 · obtain ⟨l, ps, rs, rfl, _⟩ := h
   rfl
 · obtain ⟨l, ps, rs, rfl, hl, hrs, hok, hn, q⟩ := h
   have hpl := hrs.1
   refine ⟨_, (pss_one (ps_ret (pe_bmK (K := K) rfl PySem.F.plainAttrs_str PySem.F.slot_str_join PySem.F.type_str_join (mt_join (K := K) rfl) pe_str (pa_cons (pe_comp (own := ["row"]) (fr := []) rfl ⟨rfl, (by walk_at "clok"), (by walk_at "frok"), rfl, (by decide +kernel), (by decide +kernel), rfl⟩ (pi_seqK (K := K) rfl (pv 0)) (fun _ _ _ _ => (pg_name (i := 0) (show List.Nodup [("row" : Str)] from by decide +kernel) rfl (Or.inl rfl))) (fun _ _ _ _ => pts_nil) (fun _ _ _ _ => (pe_callE (ok_show_row (K := K) T) (hr.mono (by decide)) pass0 rfl (pa_cons (pv 0) pa_nil)))) pa_nil)))), ?_⟩
   refine r_st (σ' := [some _]) rfl ?_
   walk_at "rd"
   refine comp_list (K := K) (a := l) (xs := ps.map V.ref) (fun i ys σ H1 => (∃ v, σ = [v]) ∧ Same H H1 ∧ ys = ((rs.take i).map rowT).map V.str) ⟨⟨_, rfl⟩, Same.refl _, rfl⟩ (fun i ys σ H1 hi ⟨_, s1, e⟩ => ⟨SqL.of (s1 _ _ hl), by rw [e, List.length_map, List.length_map, List.length_take, sizeLine_eq]; omega⟩) ?_ ?_
   · rintro i x ys σ H1 hx ⟨⟨v, rfl⟩, s1, rfl⟩
     obtain ⟨p, hp, rfl⟩ : ∃ p, ps[i]? = some p ∧ x = .ref p := by
       rw [List.getElem?_map] at hx
       obtain ⟨p, hp, e⟩ := Option.map_eq_some_iff.mp hx
       exact ⟨p, hp, e.symm⟩
     have hi : i < rs.length := by rw [← hpl]; exact (List.getElem?_eq_some_iff.mp hp).1
     have hri : rs[i]? = some rs[i] := List.getElem?_eq_getElem hi
     have hrow := (hrs.2 i p _ hp hri).same s1
     walk_at "rd"
     refine ⟨p, _, rfl, hrow, hok _ (List.getElem_mem hi), fun H2 s2 => ?_⟩
     refine ⟨⟨_, rfl⟩, s1.trans s2, ?_⟩
     rw [List.take_add_one, hri, Option.toList_some, List.map_append, List.map_append]; rfl
   · rintro ys σ H1 ⟨_, s1, rfl⟩
     rw [List.length_map, hpl, List.take_length]
     walk_at "rd"
     refine r_join (SqL.of upd_same) (codeT_ok hok hn) ?_
     exact q _ (by walk_at "same")
end
section
variable {P : Program} {w : World} {K : PySem.W.Frag} {mg : Str → Option Value} {base : Heap} {a : Adr}
set_option maxHeartbeats 4000000 in
theorem ok_made_of_one (T : Txt w K mg a) : FnE P w K mg base CX0 4 "made_of_one" (spMade1 a) := by
 refine fnE_of (sp := (spMade1 a)) 3 T.fn_made_of_one sc_made_of_one (fun vs H Q E h => ?_) (fun f cdv A outer s H vs Q E hr h => ?_)
 · obtain ⟨r, w, n, rfl, _⟩ := h
   rfl
 · obtain ⟨r, w, n, rfl, ht, hok, q⟩ := h
   refine ⟨_, (pss_cons (ps_if (pt_cmpR (op_eqK (K := K) rfl hr.units) (pv 0) pe_str (nomark _)) (pss_one (ps_ret (pe_makeE (mk_Grow (K := K) T) (hr.mono (by decide)) pass0 rfl (pa_cons (pv 1) pa_nil)))) pss_nil)
     (pss_cons (ps_if (pt_cmpR (op_eqK (K := K) rfl hr.units) (pv 0) pe_str (nomark _)) (pss_one (ps_ret (pe_makeE (mk_Shrink (K := K) T) (hr.mono (by decide)) pass0 rfl (pa_cons (pv 1) pa_nil)))) pss_nil)
     (pss_cons (ps_if (pt_cmpR (op_eqK (K := K) rfl hr.units) (pv 0) pe_str (nomark _)) (pss_one (ps_ret (pe_makeE (mk_Jump (K := K) T) (hr.mono (by decide)) pass0 rfl (pa_cons (pv 1) pa_nil)))) pss_nil)
     (pss_cons (ps_if (pt_cmpR (op_eqK (K := K) rfl hr.units) (pv 0) pe_str (nomark _)) (pss_one (ps_ret (pe_makeE (mk_Call (K := K) T) (hr.mono (by decide)) pass0 rfl (pa_cons (pv 1) pa_nil)))) pss_nil)
     (pss_cons (ps_if (pt_cmpR (op_eqK (K := K) rfl hr.units) (pv 0) pe_str (nomark _)) (pss_one (ps_ret (pe_makeE (mk_Back (K := K) T) (hr.mono (by decide)) pass0 rfl (pa_cons (pv 1) pa_nil)))) pss_nil)
     (pss_one (ps_ret (pe_makeE (mk_Drop (K := K) T) (hr.mono (by decide)) pass0 rfl (pa_cons (pv 1) pa_nil))))))))), ?_⟩
   refine r_st (σ' := [some _, some _]) rfl ?_
   cases r
   case grow =>
     cases ht
     walk_at "rd"
     exact r_row1 (a := a) hok rfl fun p H' s n z => q p H' s z
   case shrink =>
     cases ht
     walk_at "rd"
     exact r_row1 (a := a) hok rfl fun p H' s n z => q p H' s z
   case jump =>
     cases ht
     walk_at "rd"
     exact r_row1 (a := a) hok rfl fun p H' s n z => q p H' s z
   case call =>
     cases ht
     walk_at "rd"
     exact r_row1 (a := a) hok rfl fun p H' s n z => q p H' s z
   case back =>
     cases ht
     walk_at "rd"
     exact r_row1 (a := a) hok rfl fun p H' s n z => q p H' s z
   case drop =>
     cases ht
     walk_at "rd"
     exact r_row1 (a := a) hok rfl fun p H' s n z => q p H' s z
   all_goals (exact absurd (congrArg (fun z : Str × List Int => z.2.length) ht) (by intro z; cases z))
end
section
variable {P : Program} {w : World} {K : PySem.W.Frag} {mg : Str → Option Value} {base : Heap} {a : Adr}
set_option maxHeartbeats 4000000 in
theorem ok_made_of_two (T : Txt w K mg a) : FnE P w K mg base CX0 4 "made_of_two" (spMade2 a) := by
 refine fnE_of (sp := (spMade2 a)) 3 T.fn_made_of_two sc_made_of_two (fun vs H Q E h => ?_) (fun f cdv A outer s H vs Q E hr h => ?_)
 · obtain ⟨r, w, n, m, rfl, _⟩ := h
   rfl
 · obtain ⟨r, w, n, m, rfl, ht, hok, q⟩ := h
   refine ⟨_, (pss_cons (ps_if (pt_cmpR (op_eqK (K := K) rfl hr.units) (pv 0) pe_str (nomark _)) (pss_one (ps_ret (pe_makeE (mk_Set (K := K) T) (hr.mono (by decide)) pass0 rfl (pa_cons (pv 1) (pa_cons (pv 2) pa_nil))))) pss_nil)
     (pss_cons (ps_if (pt_cmpR (op_eqK (K := K) rfl hr.units) (pv 0) pe_str (nomark _)) (pss_one (ps_ret (pe_makeE (mk_Copy (K := K) T) (hr.mono (by decide)) pass0 rfl (pa_cons (pv 1) (pa_cons (pv 2) pa_nil))))) pss_nil)
     (pss_cons (ps_if (pt_cmpR (op_eqK (K := K) rfl hr.units) (pv 0) pe_str (nomark _)) (pss_one (ps_ret (pe_makeE (mk_Put (K := K) T) (hr.mono (by decide)) pass0 rfl (pa_cons (pv 1) (pa_cons (pv 2) pa_nil))))) pss_nil)
     (pss_cons (ps_if (pt_cmpR (op_eqK (K := K) rfl hr.units) (pv 0) pe_str (nomark _)) (pss_one (ps_ret (pe_makeE (mk_Get (K := K) T) (hr.mono (by decide)) pass0 rfl (pa_cons (pv 1) (pa_cons (pv 2) pa_nil))))) pss_nil)
     (pss_one (ps_ret (pe_makeE (mk_Branch (K := K) T) (hr.mono (by decide)) pass0 rfl (pa_cons (pv 1) (pa_cons (pv 2) pa_nil))))))))), ?_⟩
   refine r_st (σ' := [some _, some _, some _]) rfl ?_
   cases r
   case set =>
     cases ht
     walk_at "rd"
     exact r_row2 (a := a) hok rfl fun p H' s n z => q p H' s z
   case copy =>
     cases ht
     walk_at "rd"
     exact r_row2 (a := a) hok rfl fun p H' s n z => q p H' s z
   case put =>
     cases ht
     walk_at "rd"
     exact r_row2 (a := a) hok rfl fun p H' s n z => q p H' s z
   case get =>
     cases ht
     walk_at "rd"
     exact r_row2 (a := a) hok rfl fun p H' s n z => q p H' s z
   case branch =>
     cases ht
     walk_at "rd"
     exact r_row2 (a := a) hok rfl fun p H' s n z => q p H' s z
   all_goals (exact absurd (congrArg (fun z : Str × List Int => z.2.length) ht) (by intro z; cases z))
end
section
variable {P : Program} {w : World} {K : PySem.W.Frag} {mg : Str → Option Value} {base : Heap} {a : Adr}
set_option maxHeartbeats 4000000 in
theorem ok_made_of_three (T : Txt w K mg a) : FnE P w K mg base CX0 4 "made_of_three" (spMade3 a) := by
 refine fnE_of (sp := (spMade3 a)) 3 T.fn_made_of_three sc_made_of_three (fun vs H Q E h => ?_) (fun f cdv A outer s H vs Q E hr h => ?_)
 · obtain ⟨r, w, n, m, k, rfl, _⟩ := h
   rfl
 · obtain ⟨r, w, n, m, k, rfl, ht, hok, q⟩ := h
   refine ⟨_, (pss_cons (ps_if (pt_cmpR (op_eqK (K := K) rfl hr.units) (pv 0) pe_str (nomark _)) (pss_one (ps_ret (pe_makeE (mk_Add (K := K) T) (hr.mono (by decide)) pass0 rfl (pa_cons (pv 1) (pa_cons (pv 2) (pa_cons (pv 3) pa_nil)))))) pss_nil)
     (pss_cons (ps_if (pt_cmpR (op_eqK (K := K) rfl hr.units) (pv 0) pe_str (nomark _)) (pss_one (ps_ret (pe_makeE (mk_Sub (K := K) T) (hr.mono (by decide)) pass0 rfl (pa_cons (pv 1) (pa_cons (pv 2) (pa_cons (pv 3) pa_nil)))))) pss_nil)
     (pss_cons (ps_if (pt_cmpR (op_eqK (K := K) rfl hr.units) (pv 0) pe_str (nomark _)) (pss_one (ps_ret (pe_makeE (mk_Mul (K := K) T) (hr.mono (by decide)) pass0 rfl (pa_cons (pv 1) (pa_cons (pv 2) (pa_cons (pv 3) pa_nil)))))) pss_nil)
     (pss_one (ps_ret (pe_makeE (mk_Less (K := K) T) (hr.mono (by decide)) pass0 rfl (pa_cons (pv 1) (pa_cons (pv 2) (pa_cons (pv 3) pa_nil))))))))), ?_⟩
   refine r_st (σ' := [some _, some _, some _, some _]) rfl ?_
   cases r
   case add =>
     cases ht
     walk_at "rd"
     exact r_row3 (a := a) hok rfl fun p H' s n z => q p H' s z
   case sub =>
     cases ht
     walk_at "rd"
     exact r_row3 (a := a) hok rfl fun p H' s n z => q p H' s z
   case mul =>
     cases ht
     walk_at "rd"
     exact r_row3 (a := a) hok rfl fun p H' s n z => q p H' s z
   case less =>
     cases ht
     walk_at "rd"
     exact r_row3 (a := a) hok rfl fun p H' s n z => q p H' s z
   all_goals (exact absurd (congrArg (fun z : Str × List Int => z.2.length) ht) (by intro z; cases z))
end
section
variable {P : Program} {w : World} {K : PySem.W.Frag} {mg : Str → Option Value} {base : Heap} {a : Adr}
set_option maxHeartbeats 4000000 in
theorem ok_law_filling (T : Txt w K mg a) : FnE P w K mg base CX0 4 "_law_filling" (spPair2 a) := by
 refine fnE_of (sp := (spPair2 a)) 3 T.fn_law_filling sc_law_filling (fun vs H Q E h => ?_) (fun f cdv A outer s H vs Q E hr h => ?_)
 · obtain ⟨k, c, rfl, _⟩ := h
   rfl
 · obtain ⟨k, c, rfl, q⟩ := h
   refine ⟨_, (pss_cons (ps_set (i := 2) sc_law_filling.nd rfl (Or.inl rfl) (pe_op op_mod (pv 1) pe_int))
     (pss_cons (ps_set (i := 3) sc_law_filling.nd rfl (Or.inl rfl) (pe_op op_mod (pe_op op_fdiv (pv 1) pe_int) pe_int))
     (pss_cons (ps_set (i := 4) sc_law_filling.nd rfl (Or.inl rfl) (pe_op op_mod (pe_op op_fdiv (pv 1) pe_int) pe_int))
     (pss_cons (ps_if (pt_cmpR (op_eqK (K := K) rfl hr.units) (pv 0) pe_int (nomark _)) (pss_cons (ps_set (i := 5) sc_law_filling.nd rfl (Or.inl rfl) (pe_callE (ok_law_number (K := K) T) (hr.mono (by decide)) pass0 rfl (pa_cons (pe_op op_fdiv (pv 1) pe_int) (pa_cons pe_int pa_nil))))
     (pss_one (ps_ret (pe_tup (pa_cons (pe_makeE (mk_Set (K := K) T) (hr.mono (by decide)) pass0 rfl (pa_cons (pv 2) (pa_cons (pv 5) pa_nil))) (pa_cons (pe_tup (pa_cons pe_str (pa_cons (pv 2) (pa_cons (pv 5) pa_nil)))) pa_nil)))))) pss_nil)
     (pss_cons (ps_if (pt_cmpR (op_eqK (K := K) rfl hr.units) (pv 0) pe_int (nomark _)) (pss_one (ps_ret (pe_tup (pa_cons (pe_makeE (mk_Copy (K := K) T) (hr.mono (by decide)) pass0 rfl (pa_cons (pv 2) (pa_cons (pv 3) pa_nil))) (pa_cons (pe_tup (pa_cons pe_str (pa_cons (pv 2) (pa_cons (pv 3) pa_nil)))) pa_nil))))) pss_nil)
     (pss_cons (ps_if (pt_cmpR (op_eqK (K := K) rfl hr.units) (pv 0) pe_int (nomark _)) (pss_one (ps_ret (pe_tup (pa_cons (pe_makeE (mk_Add (K := K) T) (hr.mono (by decide)) pass0 rfl (pa_cons (pv 2) (pa_cons (pv 3) (pa_cons (pv 4) pa_nil)))) (pa_cons (pe_tup (pa_cons pe_str (pa_cons (pv 2) (pa_cons (pv 3) (pa_cons (pv 4) pa_nil))))) pa_nil))))) pss_nil)
     (pss_cons (ps_if (pt_cmpR (op_eqK (K := K) rfl hr.units) (pv 0) pe_int (nomark _)) (pss_one (ps_ret (pe_tup (pa_cons (pe_makeE (mk_Sub (K := K) T) (hr.mono (by decide)) pass0 rfl (pa_cons (pv 2) (pa_cons (pv 3) (pa_cons (pv 4) pa_nil)))) (pa_cons (pe_tup (pa_cons pe_str (pa_cons (pv 2) (pa_cons (pv 3) (pa_cons (pv 4) pa_nil))))) pa_nil))))) pss_nil)
     (pss_cons (ps_if (pt_cmpR (op_eqK (K := K) rfl hr.units) (pv 0) pe_int (nomark _)) (pss_one (ps_ret (pe_tup (pa_cons (pe_makeE (mk_Mul (K := K) T) (hr.mono (by decide)) pass0 rfl (pa_cons (pv 2) (pa_cons (pv 3) (pa_cons (pv 4) pa_nil)))) (pa_cons (pe_tup (pa_cons pe_str (pa_cons (pv 2) (pa_cons (pv 3) (pa_cons (pv 4) pa_nil))))) pa_nil))))) pss_nil)
     (pss_one (ps_ret (pe_tup (pa_cons (pe_makeE (mk_Less (K := K) T) (hr.mono (by decide)) pass0 rfl (pa_cons (pv 2) (pa_cons (pv 3) (pa_cons (pv 4) pa_nil)))) (pa_cons (pe_tup (pa_cons pe_str (pa_cons (pv 2) (pa_cons (pv 3) (pa_cons (pv 4) pa_nil))))) pa_nil))))))))))))), ?_⟩
   refine r_st (σ' := [some _, some _, none, none, none, none]) rfl ?_
   walk_at "rds"
   · refine ⟨_, _, rfl, by decide, fun v H1 s1 v0 v1 => ?_⟩
     walk_at "rds"
     · intro x dx hx hdx _
       refine ⟨x, dx, _, _, rfl, ⟨by walk_at "rok", by walk_at "rok"⟩, upd_same, fun H5 kp hH1 => ⟨rfl, ?_⟩⟩
       have s5 : Same H1 H5 := fun b o e => kp b o (by rw [upd_ne (ne_of_none e hx), upd_ne (ne_of_none e hdx)]; exact e) (ne_of_none e hx)
       have w1 : RowAt a H5 x (.set _ _) := ⟨dx, hH1⟩
       clear kp hH1
       walk_at "rd"
       exact q _ x _ _ _ (by walk_at "same") (by walk_at "hlk") (w1.same (by walk_at "same")) (by show _ = some (HO.tup [V.str _, V.int _, V.int _]); walk_at "hlk") ⟨by walk_at "rok", by walk_at "rok"⟩
   · intro x dx hx hdx _
     refine ⟨x, dx, _, _, rfl, ⟨by walk_at "rok", by walk_at "rok"⟩, upd_same, fun H5 kp hH1 => ⟨rfl, ?_⟩⟩
     have s5 : Same H H5 := fun b o e => kp b o (by rw [upd_ne (ne_of_none e hx), upd_ne (ne_of_none e hdx)]; exact e) (ne_of_none e hx)
     have w1 : RowAt a H5 x (.copy _ _) := ⟨dx, hH1⟩
     clear kp hH1
     walk_at "rd"
     exact q _ x _ _ _ (by walk_at "same") (by walk_at "hlk") (w1.same (by walk_at "same")) (by show _ = some (HO.tup [V.str _, V.int _, V.int _]); walk_at "hlk") ⟨by walk_at "rok", by walk_at "rok"⟩
   · intro x dx hx hdx _
     refine ⟨x, dx, _, _, _, rfl, ⟨by walk_at "rok", by walk_at "rok", by walk_at "rok"⟩, upd_same, fun H5 kp hH1 => ⟨rfl, ?_⟩⟩
     have s5 : Same H H5 := fun b o e => kp b o (by rw [upd_ne (ne_of_none e hx), upd_ne (ne_of_none e hdx)]; exact e) (ne_of_none e hx)
     have w1 : RowAt a H5 x (.add _ _ _) := ⟨dx, hH1⟩
     clear kp hH1
     walk_at "rd"
     exact q _ x _ _ _ (by walk_at "same") (by walk_at "hlk") (w1.same (by walk_at "same")) (by show _ = some (HO.tup [V.str _, V.int _, V.int _, V.int _]); walk_at "hlk") ⟨by walk_at "rok", by walk_at "rok", by walk_at "rok"⟩
   · intro x dx hx hdx _
     refine ⟨x, dx, _, _, _, rfl, ⟨by walk_at "rok", by walk_at "rok", by walk_at "rok"⟩, upd_same, fun H5 kp hH1 => ⟨rfl, ?_⟩⟩
     have s5 : Same H H5 := fun b o e => kp b o (by rw [upd_ne (ne_of_none e hx), upd_ne (ne_of_none e hdx)]; exact e) (ne_of_none e hx)
     have w1 : RowAt a H5 x (.sub _ _ _) := ⟨dx, hH1⟩
     clear kp hH1
     walk_at "rd"
     exact q _ x _ _ _ (by walk_at "same") (by walk_at "hlk") (w1.same (by walk_at "same")) (by show _ = some (HO.tup [V.str _, V.int _, V.int _, V.int _]); walk_at "hlk") ⟨by walk_at "rok", by walk_at "rok", by walk_at "rok"⟩
   · intro x dx hx hdx _
     refine ⟨x, dx, _, _, _, rfl, ⟨by walk_at "rok", by walk_at "rok", by walk_at "rok"⟩, upd_same, fun H5 kp hH1 => ⟨rfl, ?_⟩⟩
     have s5 : Same H H5 := fun b o e => kp b o (by rw [upd_ne (ne_of_none e hx), upd_ne (ne_of_none e hdx)]; exact e) (ne_of_none e hx)
     have w1 : RowAt a H5 x (.mul _ _ _) := ⟨dx, hH1⟩
     clear kp hH1
     walk_at "rd"
     exact q _ x _ _ _ (by walk_at "same") (by walk_at "hlk") (w1.same (by walk_at "same")) (by show _ = some (HO.tup [V.str _, V.int _, V.int _, V.int _]); walk_at "hlk") ⟨by walk_at "rok", by walk_at "rok", by walk_at "rok"⟩
   · intro x dx hx hdx _
     refine ⟨x, dx, _, _, _, rfl, ⟨by walk_at "rok", by walk_at "rok", by walk_at "rok"⟩, upd_same, fun H5 kp hH1 => ⟨rfl, ?_⟩⟩
     have s5 : Same H H5 := fun b o e => kp b o (by rw [upd_ne (ne_of_none e hx), upd_ne (ne_of_none e hdx)]; exact e) (ne_of_none e hx)
     have w1 : RowAt a H5 x (.less _ _ _) := ⟨dx, hH1⟩
     clear kp hH1
     walk_at "rd"
     exact q _ x _ _ _ (by walk_at "same") (by walk_at "hlk") (w1.same (by walk_at "same")) (by show _ = some (HO.tup [V.str _, V.int _, V.int _, V.int _]); walk_at "hlk") ⟨by walk_at "rok", by walk_at "rok", by walk_at "rok"⟩
end
section
variable {P : Program} {w : World} {K : PySem.W.Frag} {mg : Str → Option Value} {base : Heap} {a : Adr}
set_option maxHeartbeats 4000000 in
theorem ok_law_moving (T : Txt w K mg a) : FnE P w K mg base CX0 4 "_law_moving" (spPair2 a) := by
 refine fnE_of (sp := (spPair2 a)) 3 T.fn_law_moving sc_law_moving (fun vs H Q E h => ?_) (fun f cdv A outer s H vs Q E hr h => ?_)
 · obtain ⟨k, c, rfl, _⟩ := h
   rfl
 · obtain ⟨k, c, rfl, q⟩ := h
   refine ⟨_, (pss_cons (ps_set (i := 2) sc_law_moving.nd rfl (Or.inl rfl) (pe_op op_mod (pv 1) pe_int))
     (pss_cons (ps_set (i := 3) sc_law_moving.nd rfl (Or.inl rfl) (pe_callE (ok_law_number (K := K) T) (hr.mono (by decide)) pass0 rfl (pa_cons (pe_op op_fdiv (pv 1) pe_int) (pa_cons pe_int pa_nil))))
     (pss_cons (ps_if (pt_cmpR (op_eqK (K := K) rfl hr.units) (pv 0) pe_int (nomark _)) (pss_one (ps_ret (pe_tup (pa_cons (pe_makeE (mk_Grow (K := K) T) (hr.mono (by decide)) pass0 rfl (pa_cons (pv 3) pa_nil)) (pa_cons (pe_tup (pa_cons pe_str (pa_cons (pv 3) pa_nil))) pa_nil))))) pss_nil)
     (pss_cons (ps_if (pt_cmpR (op_eqK (K := K) rfl hr.units) (pv 0) pe_int (nomark _)) (pss_one (ps_ret (pe_tup (pa_cons (pe_makeE (mk_Shrink (K := K) T) (hr.mono (by decide)) pass0 rfl (pa_cons (pv 3) pa_nil)) (pa_cons (pe_tup (pa_cons pe_str (pa_cons (pv 3) pa_nil))) pa_nil))))) pss_nil)
     (pss_cons (ps_if (pt_cmpR (op_eqK (K := K) rfl hr.units) (pv 0) pe_int (nomark _)) (pss_one (ps_ret (pe_tup (pa_cons (pe_makeE (mk_Put (K := K) T) (hr.mono (by decide)) pass0 rfl (pa_cons (pv 2) (pa_cons (pv 3) pa_nil))) (pa_cons (pe_tup (pa_cons pe_str (pa_cons (pv 2) (pa_cons (pv 3) pa_nil)))) pa_nil))))) pss_nil)
     (pss_one (ps_ret (pe_tup (pa_cons (pe_makeE (mk_Get (K := K) T) (hr.mono (by decide)) pass0 rfl (pa_cons (pv 2) (pa_cons (pv 3) pa_nil))) (pa_cons (pe_tup (pa_cons pe_str (pa_cons (pv 2) (pa_cons (pv 3) pa_nil)))) pa_nil)))))))))), ?_⟩
   refine r_st (σ' := [some _, some _, none, none]) rfl ?_
   walk_at "rd"
   refine ⟨_, _, rfl, by decide, fun v H1 s1 v0 v1 => ?_⟩
   walk_at "rds"
   · intro x dx hx hdx _
     refine ⟨x, dx, _, rfl, (by walk_at "rok"), upd_same, fun H5 kp hH1 => ⟨rfl, ?_⟩⟩
     have s5 : Same H1 H5 := fun b o e => kp b o (by rw [upd_ne (ne_of_none e hx), upd_ne (ne_of_none e hdx)]; exact e) (ne_of_none e hx)
     have w1 : RowAt a H5 x (.grow _) := ⟨dx, hH1⟩
     clear kp hH1
     walk_at "rd"
     exact q _ x _ _ _ (by walk_at "same") (by walk_at "hlk") (w1.same (by walk_at "same")) (by show _ = some (HO.tup [V.str _, V.int _]); walk_at "hlk") (by walk_at "rok")
   · intro x dx hx hdx _
     refine ⟨x, dx, _, rfl, (by walk_at "rok"), upd_same, fun H5 kp hH1 => ⟨rfl, ?_⟩⟩
     have s5 : Same H1 H5 := fun b o e => kp b o (by rw [upd_ne (ne_of_none e hx), upd_ne (ne_of_none e hdx)]; exact e) (ne_of_none e hx)
     have w1 : RowAt a H5 x (.shrink _) := ⟨dx, hH1⟩
     clear kp hH1
     walk_at "rd"
     exact q _ x _ _ _ (by walk_at "same") (by walk_at "hlk") (w1.same (by walk_at "same")) (by show _ = some (HO.tup [V.str _, V.int _]); walk_at "hlk") (by walk_at "rok")
   · intro x dx hx hdx _
     refine ⟨x, dx, _, _, rfl, ⟨by walk_at "rok", by walk_at "rok"⟩, upd_same, fun H5 kp hH1 => ⟨rfl, ?_⟩⟩
     have s5 : Same H1 H5 := fun b o e => kp b o (by rw [upd_ne (ne_of_none e hx), upd_ne (ne_of_none e hdx)]; exact e) (ne_of_none e hx)
     have w1 : RowAt a H5 x (.put _ _) := ⟨dx, hH1⟩
     clear kp hH1
     walk_at "rd"
     exact q _ x _ _ _ (by walk_at "same") (by walk_at "hlk") (w1.same (by walk_at "same")) (by show _ = some (HO.tup [V.str _, V.int _, V.int _]); walk_at "hlk") ⟨by walk_at "rok", by walk_at "rok"⟩
   · intro x dx hx hdx _
     refine ⟨x, dx, _, _, rfl, ⟨by walk_at "rok", by walk_at "rok"⟩, upd_same, fun H5 kp hH1 => ⟨rfl, ?_⟩⟩
     have s5 : Same H1 H5 := fun b o e => kp b o (by rw [upd_ne (ne_of_none e hx), upd_ne (ne_of_none e hdx)]; exact e) (ne_of_none e hx)
     have w1 : RowAt a H5 x (.get _ _) := ⟨dx, hH1⟩
     clear kp hH1
     walk_at "rd"
     exact q _ x _ _ _ (by walk_at "same") (by walk_at "hlk") (w1.same (by walk_at "same")) (by show _ = some (HO.tup [V.str _, V.int _, V.int _]); walk_at "hlk") ⟨by walk_at "rok", by walk_at "rok"⟩
end
section
variable {P : Program} {w : World} {K : PySem.W.Frag} {mg : Str → Option Value} {base : Heap} {a : Adr}
set_option maxHeartbeats 4000000 in
theorem ok_read_row (T : Txt w K mg a) : FnE P w K mg base CX0 5 "read_row" (spReadRow a) := by
 refine fnE_of (sp := (spReadRow a)) 4 T.fn_read_row sc_read_row (fun vs H Q E h => ?_) (fun f cdv A outer s H vs Q E hr h => ?_)
 · obtain ⟨r, rfl, _⟩ := h
   rfl
 · obtain ⟨r, rfl, hok, q⟩ := h
   have hnum := told_num hok
   refine ⟨_, (pss_cons (ps_expr (pe_callE (ok_asked_for_text (K := K) T) (hr.mono (by decide)) pass0 rfl (pa_cons (pv 0) pa_nil)))
     (pss_cons (ps_set (i := 1) sc_read_row.nd rfl (Or.inl rfl) (pe_bmK (K := K) rfl PySem.F.plainAttrs_str PySem.F.slot_str_split PySem.F.type_str_split mt_split (pv 0) (pa_cons pe_str pa_nil)))
     (pss_cons (ps_set (i := 2) sc_read_row.nd rfl (Or.inl rfl) (pe_ix (ix_K (K := K) rfl) (pv 1) pe_int (fun _ _ => rfl)))
     (pss_cons (ps_if (pt_cmpR (op_notInC rfl rfl) (pv 2) (pe_glob (v := .ref a.G_COUNTS) rfl T.s_COUNTS rfl) rfl) (pss_one ps_never) pss_nil)
     (pss_cons (ps_setC (i := 3) sc_read_row.nd rfl rfl (own := ["part"]) (fr := []) rfl ⟨rfl, (by walk_at "clok"), (by walk_at "frok"), rfl, (by decide +kernel), (by decide +kernel), rfl⟩ (pi_seqK (K := K) rfl (pe_slice (sl_K (K := K) rfl) (pv 1) (po_some pe_int) po_none)) (fun _ _ _ _ => (pg_name (i := 0) (show List.Nodup [("part" : Str)] from by decide +kernel) rfl (Or.inl rfl))) (fun _ _ _ _ => pts_nil) (fun _ _ _ _ => (pe_callE (ok_read_number (K := K) T) (hr.mono (by decide)) pass0 rfl (pa_cons (pv 0) pa_nil))))
     (pss_cons (ps_if (pt_cmpR (op_neK (K := K) rfl hr.units) (pe_callB (call_lenK (K := K) rfl) rfl T.z_len b_len (pa_cons (pv 3) pa_nil)) (pe_cget rfl rfl (pe_glob (v := .ref a.G_COUNTS) rfl T.s_COUNTS rfl) (pv 2) (fun _ _ => rfl)) (nomark _)) (pss_one ps_never) pss_nil)
     (pss_cons (ps_if (pt_cmpR (op_eqK (K := K) rfl hr.units) (pe_callB (call_lenK (K := K) rfl) rfl T.z_len b_len (pa_cons (pv 3) pa_nil)) pe_int (nomark _)) (pss_one (ps_ret (pe_callE (ok_made_of_one (K := K) T) (hr.mono (by decide)) pass0 rfl (pa_cons (pv 2) (pa_cons (pe_ix (ix_K (K := K) rfl) (pv 3) pe_int (fun _ _ => rfl)) pa_nil))))) pss_nil)
     (pss_cons (ps_if (pt_cmpR (op_eqK (K := K) rfl hr.units) (pe_callB (call_lenK (K := K) rfl) rfl T.z_len b_len (pa_cons (pv 3) pa_nil)) pe_int (nomark _)) (pss_one (ps_ret (pe_callE (ok_made_of_two (K := K) T) (hr.mono (by decide)) pass0 rfl (pa_cons (pv 2) (pa_cons (pe_ix (ix_K (K := K) rfl) (pv 3) pe_int (fun _ _ => rfl)) (pa_cons (pe_ix (ix_K (K := K) rfl) (pv 3) pe_int (fun _ _ => rfl)) pa_nil)))))) pss_nil)
     (pss_one (ps_ret (pe_callE (ok_made_of_three (K := K) T) (hr.mono (by decide)) pass0 rfl (pa_cons (pv 2) (pa_cons (pe_ix (ix_K (K := K) rfl) (pv 3) pe_int (fun _ _ => rfl)) (pa_cons (pe_ix (ix_K (K := K) rfl) (pv 3) pe_int (fun _ _ => rfl)) (pa_cons (pe_ix (ix_K (K := K) rfl) (pv 3) pe_int (fun _ _ => rfl)) pa_nil))))))))))))))), ?_⟩
   refine r_st (σ' := [some _, none, none, none]) rfl ?_
   obtain ⟨w, ⟨n, ht⟩ | ⟨n, m, ht⟩ | ⟨n, m, k, ht⟩⟩ := told_cases r
   · have hc : valV (conV counts) (.inr w) = some (.int 1) := by have := told_count r; rw [ht] at this; exact this
     have hw : rowW r = [w, numS n] := by unfold rowW; rw [ht]; rfl
     rw [ht] at hnum
     walk_at "rd"
     refine ⟨_, rfl, ?_⟩
     walk_at "rd"
     refine r_split rfl (by have := rowT_len hok; rw [sizeLine_eq]; omega) (rowT_split hok) (by have := rowW_few r; rw [sizeLine_eq]; omega) (fun l hl => ?_)
     rw [hw]
     walk_at "rd"
     refine r_notInC T.d_COUNTS hc ?_
     walk_at "rd"
     rename_i l2 hl2
     rw [show cutV (List.map V.str [w, numS n]) (some 1) none = List.map (fun n => V.str (numS n)) [n] from rfl]
     walk_at "rd"
     refine comp_mapL (xs := [n]) (emb := fun n => V.str (numS n)) V.int (fun σ => ∃ v, σ = [v]) (SqL.of upd_same) (by rw [sizeLine_eq]; exact Nat.le_of_ble_eq_true rfl) ⟨_, rfl⟩ ?_ ?_
     · rintro i n' ys σ H1 hp c s ⟨v, rfl⟩
       have hn := hnum n' (List.mem_of_getElem? hp)
       walk_at "rd"
       refine ⟨n', rfl, hn.1, hn.2, fun H2 s2 => ?_⟩
       exact c.next hp rfl (by walk_at "same") ⟨_, rfl⟩
     intro H1 s1
     walk_at "rd"
     refine r_cGet ?_
     walk_at "rd"
     refine r_cgetV T.d_COUNTS hc ?_
     rw [show ((([n] : List Int).length : Nat) : Int) = 1 from rfl]
     walk_at "rd"
     exact ⟨r, w, n, rfl, ht, hok, fun p H5 s5 z => q p H5 (Same.trans (by walk_at "same") s5) z⟩
   · have hc : valV (conV counts) (.inr w) = some (.int 2) := by have := told_count r; rw [ht] at this; exact this
     have hw : rowW r = [w, numS n, numS m] := by unfold rowW; rw [ht]; rfl
     rw [ht] at hnum
     walk_at "rd"
     refine ⟨_, rfl, ?_⟩
     walk_at "rd"
     refine r_split rfl (by have := rowT_len hok; rw [sizeLine_eq]; omega) (rowT_split hok) (by have := rowW_few r; rw [sizeLine_eq]; omega) (fun l hl => ?_)
     rw [hw]
     walk_at "rd"
     refine r_notInC T.d_COUNTS hc ?_
     walk_at "rd"
     rename_i l2 hl2
     rw [show cutV (List.map V.str [w, numS n, numS m]) (some 1) none = List.map (fun n => V.str (numS n)) [n, m] from rfl]
     walk_at "rd"
     refine comp_mapL (xs := [n, m]) (emb := fun n => V.str (numS n)) V.int (fun σ => ∃ v, σ = [v]) (SqL.of upd_same) (by rw [sizeLine_eq]; exact Nat.le_of_ble_eq_true rfl) ⟨_, rfl⟩ ?_ ?_
     · rintro i n' ys σ H1 hp c s ⟨v, rfl⟩
       have hn := hnum n' (List.mem_of_getElem? hp)
       walk_at "rd"
       refine ⟨n', rfl, hn.1, hn.2, fun H2 s2 => ?_⟩
       exact c.next hp rfl (by walk_at "same") ⟨_, rfl⟩
     intro H1 s1
     walk_at "rd"
     refine r_cGet ?_
     walk_at "rd"
     refine r_cgetV T.d_COUNTS hc ?_
     rw [show ((([n, m] : List Int).length : Nat) : Int) = 2 from rfl]
     walk_at "rd"
     exact ⟨r, w, n, m, rfl, ht, hok, fun p H5 s5 z => q p H5 (Same.trans (by walk_at "same") s5) z⟩
   · have hc : valV (conV counts) (.inr w) = some (.int 3) := by have := told_count r; rw [ht] at this; exact this
     have hw : rowW r = [w, numS n, numS m, numS k] := by unfold rowW; rw [ht]; rfl
     rw [ht] at hnum
     walk_at "rd"
     refine ⟨_, rfl, ?_⟩
     walk_at "rd"
     refine r_split rfl (by have := rowT_len hok; rw [sizeLine_eq]; omega) (rowT_split hok) (by have := rowW_few r; rw [sizeLine_eq]; omega) (fun l hl => ?_)
     rw [hw]
     walk_at "rd"
     refine r_notInC T.d_COUNTS hc ?_
     walk_at "rd"
     rename_i l2 hl2
     rw [show cutV (List.map V.str [w, numS n, numS m, numS k]) (some 1) none = List.map (fun n => V.str (numS n)) [n, m, k] from rfl]
     walk_at "rd"
     refine comp_mapL (xs := [n, m, k]) (emb := fun n => V.str (numS n)) V.int (fun σ => ∃ v, σ = [v]) (SqL.of upd_same) (by rw [sizeLine_eq]; exact Nat.le_of_ble_eq_true rfl) ⟨_, rfl⟩ ?_ ?_
     · rintro i n' ys σ H1 hp c s ⟨v, rfl⟩
       have hn := hnum n' (List.mem_of_getElem? hp)
       walk_at "rd"
       refine ⟨n', rfl, hn.1, hn.2, fun H2 s2 => ?_⟩
       exact c.next hp rfl (by walk_at "same") ⟨_, rfl⟩
     intro H1 s1
     walk_at "rd"
     refine r_cGet ?_
     walk_at "rd"
     refine r_cgetV T.d_COUNTS hc ?_
     rw [show ((([n, m, k] : List Int).length : Nat) : Int) = 3 from rfl]
     walk_at "rd"
     exact ⟨r, w, n, m, k, rfl, ht, hok, fun p H5 s5 z => q p H5 (Same.trans (by walk_at "same") s5) z⟩
end
section
variable {P : Program} {w : World} {K : PySem.W.Frag} {mg : Str → Option Value} {base : Heap} {a : Adr}
set_option maxHeartbeats 4000000 in
theorem ok_law_row (T : Txt w K mg a) : FnE P w K mg base CX0 5 "_law_row" (spPair1 a) := by
 refine fnE_of (sp := (spPair1 a)) 4 T.fn_law_row sc_law_row (fun vs H Q E h => ?_) (fun f cdv A outer s H vs Q E hr h => ?_)
 · obtain ⟨c, rfl, _⟩ := h
   rfl
 · obtain ⟨c, rfl, q⟩ := h
   refine ⟨_, (pss_cons (ps_set (i := 1) sc_law_row.nd rfl (Or.inl rfl) (pe_op op_mod (pv 0) pe_int))
     (pss_cons (ps_set (i := 0) sc_law_row.nd rfl (Or.inl rfl) (pe_op op_fdiv (pv 0) pe_int))
     (pss_cons (ps_set (i := 2) sc_law_row.nd rfl (Or.inl rfl) (pe_op op_mod (pv 0) pe_int))
     (pss_cons (ps_set (i := 3) sc_law_row.nd rfl (Or.inl rfl) (pe_callE (ok_law_number (K := K) T) (hr.mono (by decide)) pass0 rfl (pa_cons (pe_op op_fdiv (pv 0) pe_int) (pa_cons pe_int pa_nil))))
     (pss_cons (ps_if (pt_cmpR op_lt (pv 1) pe_int (nomark _)) (pss_one (ps_ret (pe_callE (ok_law_filling (K := K) T) (hr.mono (by decide)) pass0 rfl (pa_cons (pv 1) (pa_cons (pv 0) pa_nil))))) pss_nil)
     (pss_cons (ps_if (pt_cmpR op_lt (pv 1) pe_int (nomark _)) (pss_one (ps_ret (pe_callE (ok_law_moving (K := K) T) (hr.mono (by decide)) pass0 rfl (pa_cons (pv 1) (pa_cons (pv 0) pa_nil))))) pss_nil)
     (pss_cons (ps_if (pt_cmpR (op_eqK (K := K) rfl hr.units) (pv 1) pe_int (nomark _)) (pss_one (ps_ret (pe_tup (pa_cons (pe_makeE (mk_Jump (K := K) T) (hr.mono (by decide)) pass0 rfl (pa_cons (pv 3) pa_nil)) (pa_cons (pe_tup (pa_cons pe_str (pa_cons (pv 3) pa_nil))) pa_nil))))) pss_nil)
     (pss_cons (ps_if (pt_cmpR (op_eqK (K := K) rfl hr.units) (pv 1) pe_int (nomark _)) (pss_one (ps_ret (pe_tup (pa_cons (pe_makeE (mk_Branch (K := K) T) (hr.mono (by decide)) pass0 rfl (pa_cons (pv 2) (pa_cons (pv 3) pa_nil))) (pa_cons (pe_tup (pa_cons pe_str (pa_cons (pv 2) (pa_cons (pv 3) pa_nil)))) pa_nil))))) pss_nil)
     (pss_cons (ps_if (pt_cmpR (op_eqK (K := K) rfl hr.units) (pv 1) pe_int (nomark _)) (pss_one (ps_ret (pe_tup (pa_cons (pe_makeE (mk_Call (K := K) T) (hr.mono (by decide)) pass0 rfl (pa_cons (pv 3) pa_nil)) (pa_cons (pe_tup (pa_cons pe_str (pa_cons (pv 3) pa_nil))) pa_nil))))) pss_nil)
     (pss_cons (ps_if (pt_cmpR (op_eqK (K := K) rfl hr.units) (pv 1) pe_int (nomark _)) (pss_one (ps_ret (pe_tup (pa_cons (pe_makeE (mk_Back (K := K) T) (hr.mono (by decide)) pass0 rfl (pa_cons (pv 2) pa_nil)) (pa_cons (pe_tup (pa_cons pe_str (pa_cons (pv 2) pa_nil))) pa_nil))))) pss_nil)
     (pss_one (ps_ret (pe_tup (pa_cons (pe_makeE (mk_Drop (K := K) T) (hr.mono (by decide)) pass0 rfl (pa_cons (pv 2) pa_nil)) (pa_cons (pe_tup (pa_cons pe_str (pa_cons (pv 2) pa_nil))) pa_nil))))))))))))))), ?_⟩
   refine r_st (σ' := [some _, none, none, none]) rfl ?_
   walk_at "rd"
   refine ⟨_, _, rfl, by decide, fun v H1 s1 v0 v1 => ?_⟩
   have q1 : PairQ a H1 Q := fun t x tt r H' s h1 h2 h3 ok => q t x tt r H' (s1.trans s) h1 h2 h3 ok
   walk_at "rds"
   · exact ⟨_, _, rfl, q1⟩
   · exact ⟨_, _, rfl, q1⟩
   · intro x dx hx hdx _
     refine ⟨x, dx, _, rfl, (by walk_at "rok"), upd_same, fun H5 kp hH1 => ⟨rfl, ?_⟩⟩
     have s5 : Same H1 H5 := fun b o e => kp b o (by rw [upd_ne (ne_of_none e hx), upd_ne (ne_of_none e hdx)]; exact e) (ne_of_none e hx)
     have w1 : RowAt a H5 x (.jump _) := ⟨dx, hH1⟩
     clear kp hH1
     walk_at "rd"
     exact q _ x _ _ _ (by walk_at "same") (by walk_at "hlk") (w1.same (by walk_at "same")) (by show _ = some (HO.tup [V.str _, V.int _]); walk_at "hlk") (by walk_at "rok")
   · intro x dx hx hdx _
     refine ⟨x, dx, _, _, rfl, ⟨by walk_at "rok", by walk_at "rok"⟩, upd_same, fun H5 kp hH1 => ⟨rfl, ?_⟩⟩
     have s5 : Same H1 H5 := fun b o e => kp b o (by rw [upd_ne (ne_of_none e hx), upd_ne (ne_of_none e hdx)]; exact e) (ne_of_none e hx)
     have w1 : RowAt a H5 x (.branch _ _) := ⟨dx, hH1⟩
     clear kp hH1
     walk_at "rd"
     exact q _ x _ _ _ (by walk_at "same") (by walk_at "hlk") (w1.same (by walk_at "same")) (by show _ = some (HO.tup [V.str _, V.int _, V.int _]); walk_at "hlk") ⟨by walk_at "rok", by walk_at "rok"⟩
   · intro x dx hx hdx _
     refine ⟨x, dx, _, rfl, (by walk_at "rok"), upd_same, fun H5 kp hH1 => ⟨rfl, ?_⟩⟩
     have s5 : Same H1 H5 := fun b o e => kp b o (by rw [upd_ne (ne_of_none e hx), upd_ne (ne_of_none e hdx)]; exact e) (ne_of_none e hx)
     have w1 : RowAt a H5 x (.call _) := ⟨dx, hH1⟩
     clear kp hH1
     walk_at "rd"
     exact q _ x _ _ _ (by walk_at "same") (by walk_at "hlk") (w1.same (by walk_at "same")) (by show _ = some (HO.tup [V.str _, V.int _]); walk_at "hlk") (by walk_at "rok")
   · intro x dx hx hdx _
     refine ⟨x, dx, _, rfl, (by walk_at "rok"), upd_same, fun H5 kp hH1 => ⟨rfl, ?_⟩⟩
     have s5 : Same H1 H5 := fun b o e => kp b o (by rw [upd_ne (ne_of_none e hx), upd_ne (ne_of_none e hdx)]; exact e) (ne_of_none e hx)
     have w1 : RowAt a H5 x (.back _) := ⟨dx, hH1⟩
     clear kp hH1
     walk_at "rd"
     exact q _ x _ _ _ (by walk_at "same") (by walk_at "hlk") (w1.same (by walk_at "same")) (by show _ = some (HO.tup [V.str _, V.int _]); walk_at "hlk") (by walk_at "rok")
   · intro x dx hx hdx _
     refine ⟨x, dx, _, rfl, (by walk_at "rok"), upd_same, fun H5 kp hH1 => ⟨rfl, ?_⟩⟩
     have s5 : Same H1 H5 := fun b o e => kp b o (by rw [upd_ne (ne_of_none e hx), upd_ne (ne_of_none e hdx)]; exact e) (ne_of_none e hx)
     have w1 : RowAt a H5 x (.drop _) := ⟨dx, hH1⟩
     clear kp hH1
     walk_at "rd"
     exact q _ x _ _ _ (by walk_at "same") (by walk_at "hlk") (w1.same (by walk_at "same")) (by show _ = some (HO.tup [V.str _, V.int _]); walk_at "hlk") (by walk_at "rok")
end
section
variable {P : Program} {w : World} {K : PySem.W.Frag} {mg : Str → Option Value} {base : Heap} {a : Adr}
set_option maxHeartbeats 4000000 in
theorem ok_read_code (T : Txt w K mg a) : FnE P w K mg base CX0 6 "read_code" (spReadCode a) := by
 refine fnE_of (sp := (spReadCode a)) 5 T.fn_read_code sc_read_code (fun vs H Q E h => ?_) (fun f cdv A outer s H vs Q E hr h => ?_)
 · obtain ⟨rs, rfl, _⟩ := h
   rfl
 · obtain ⟨rs, rfl, hok, hn, q⟩ := h
   refine ⟨_, (pss_cons (ps_expr (pe_callE (ok_asked_for_text (K := K) T) (hr.mono (by decide)) pass0 rfl (pa_cons (pv 0) pa_nil)))
     (pss_cons (ps_if (pt_cmpR (op_eqK (K := K) rfl hr.units) (pv 0) pe_str (nomark _)) (pss_one (ps_ret (pe_lst pa_nil))) pss_nil)
     (pss_cons (ps_set (i := 1) sc_read_code.nd rfl (Or.inl rfl) (pe_bmK (K := K) rfl PySem.F.plainAttrs_str PySem.F.slot_str_split PySem.F.type_str_split mt_split (pv 0) (pa_cons pe_str pa_nil)))
     (pss_cons (ps_if (pt_cmpR op_gt (pe_callB (call_lenK (K := K) rfl) rfl T.z_len b_len (pa_cons (pv 1) pa_nil)) (pe_glob (v := .int 2000) rfl T.g_TOP_ROWS.choose_spec ⟨_, rfl⟩) (nomark _)) (pss_one ps_never) pss_nil)
     (pss_one (ps_ret (pe_comp (own := ["line"]) (fr := []) rfl ⟨rfl, (by walk_at "clok"), (by walk_at "frok"), rfl, (by decide +kernel), (by decide +kernel), rfl⟩ (pi_seqK (K := K) rfl (pv 1)) (fun _ _ _ _ => (pg_name (i := 0) (show List.Nodup [("line" : Str)] from by decide +kernel) rfl (Or.inl rfl))) (fun _ _ _ _ => pts_nil) (fun _ _ _ _ => (pe_callE (ok_read_row (K := K) T) (hr.mono (by decide)) pass0 rfl (pa_cons (pv 0) pa_nil)))))))))), ?_⟩
   refine r_st (σ' := [some _, none]) rfl ?_
   walk_at "rd"
   refine ⟨_, rfl, ?_⟩
   walk_at "rd"
   by_cases hne : rs = []
   · subst hne
     refine ifStr (fun _ => ?_) (fun z => absurd rfl z)
     walk_at "rd"
     rename_i l hl
     exact q l [] _ (by walk_at "same") hl upd_same RowsAt.nil
   refine ifStr (fun z => absurd z (codeT_ne hne)) (fun _ => ?_)
   walk_at "rd"
   refine r_split rfl (by have := codeT_len hok hn; rw [sizeLine_eq]; omega) (codeT_split hok hne) (by rw [List.length_map, sizeLine_eq]; omega) (fun l hl => ?_)
   walk_at "rd"
   refine comp_list (K := K) (a := l) (xs := (rs.map rowT).map V.str) (fun i ys σ H1 => (∃ v, σ = [v]) ∧ Same (upd H l (.lst ((rs.map rowT).map V.str))) H1 ∧ ∃ ps : List Addr, ys = ps.map V.ref ∧ ps.length = i ∧ RowsAt a H1 ps (rs.take i)) ⟨⟨_, rfl⟩, Same.refl _, [], rfl, rfl, RowsAt.nil⟩ (fun i ys σ H1 hi ⟨_, s1, ps, e, e2, _⟩ => ⟨SqL.of (s1 _ _ upd_same), by rw [e, List.length_map, e2, sizeLine_eq]; rw [List.length_map, List.length_map] at hi; omega⟩) ?_ ?_
   · rintro i x ys σ H1 hx ⟨⟨v, rfl⟩, s1, ps, rfl, hps, hr⟩
     obtain ⟨r, hri, rfl⟩ : ∃ r, rs[i]? = some r ∧ x = .str (rowT r) := by
       rw [List.getElem?_map, List.getElem?_map] at hx
       obtain ⟨p, hp, e⟩ := Option.map_eq_some_iff.mp hx
       obtain ⟨r, hr, e2⟩ := Option.map_eq_some_iff.mp hp
       exact ⟨r, hr, by rw [← e, ← e2]⟩
     walk_at "rd"
     refine ⟨r, rfl, hok r (List.mem_of_getElem? hri), fun p2 H2 s2 hr2 => ?_⟩
     refine ⟨⟨_, rfl⟩, s1.trans s2, ps ++ [p2], by rw [List.map_append]; rfl, by rw [List.length_append, hps]; rfl, ?_⟩
     rw [List.take_add_one, hri, Option.toList_some]
     exact (hr.same s2).snoc hr2
   · rintro ys σ H1 ⟨_, s1, ps, rfl, hps, hr⟩
     rw [List.length_map, List.length_map, List.take_length] at hr
     walk_at "rd"
     rename_i p np
     exact q p ps _ ((same_new hl).trans (s1.trans (same_new np))) (none_same (same_new hl) (none_same s1 np)) upd_same (hr.same (same_new np))
end
section
variable {P : Program} {w : World} {K : PySem.W.Frag} {mg : Str → Option Value} {base : Heap} {a : Adr}
theorem law_tail {P : Program} {w : World} {K : PySem.W.Frag} {mg : Str → Option Value} {base : Heap} {a : Adr} (T : Txt w K mg a) {Q : VK} {a0 l0 : Addr} {cs : List Int} {c0 : Int} {H : Hp} (q : ∀ (H' : Hp), Q (V.bl true) H') (hl : H l0 = some (.lst (cs.map V.int))) (hcs : cs.length ≤ 400) :
 CompW (Itl K l0) (gName 0) tTrue (tCallE (spPair1 a) E0 (tCons (tVar 0) tNil))
   (fun ys H3 =>
     ∀ (p : Addr),
       H3 p = none →
         gName 3 (V.ref p)
           [some (V.ref a0), some (V.ref l0), some (V.int c0), none, none, none, none, none, none, none,
             none, none, none]
           (upd H3 p (HO.lst ys))
           ({
               nx :=
                 tSeq
                   (tCompS 4 [Str.ofString "_law_pair"] [] (iSeq K (tVar 3)) (gName 0) tTrue
                     (tOp (rIxA K) (tVar 0) (tC (V.int 0))))
                   (tSeq
                     (tCompS 5 [Str.ofString "_law_pair"] [] (iSeq K (tVar 3)) (gName 0) tTrue
                       (tOp (rIxA K) (tVar 0) (tC (V.int 1))))
                     (tSeq
                       (tCompS 6 [Str.ofString "_law_one"] [] (iSeq K (tVar 5)) (gName 0) tTrue
                         (tCallE spTextOf E0 (tCons (tVar 0) tNil)))
                       (tSeq (tAsg (tCB (rLst K) (tCons (tVar 4) tNil)) (gName 7))
                         (tSeq (tAsg (tCallE (spShowCode a) E0 (tCons (tVar 7) tNil)) (gName 8))
                           (tSeq
                             (tIfS
                               (tOr (tNot (tTru K (tCB (rIsi K) (tCons (tVar 8) (tCons (tC (V.ty "str")) tNil)))))
                                 (tOr
                                   (tTest
                                     (tOp (rNeA K) (tVar 8)
                                       (tBM K "str" (rJoin K) (tC (V.str (Str.ofString "\n"))) (tCons (tVar 6) tNil))))
                                   (tTest
                                     (tOp (rNeA K)
                                       (tCompE [Str.ofString "_law_row_here"] [] (iSeq K (tVar 7)) (gName 0) tTrue
                                         (tMethE P w K mg base CX0 1 (Str.ofString "told") E0 (tVar 0) tNil))
                                       (tVar 5)))))
                               (tRet (tC (V.bl false))) tNext)
                             (tSeq
                               (tFor (iRng1 (tCons (tCB (rLen K) (tCons (tVar 4) tNil)) tNil)) (gName 9)
                                 (tSeq
                                   (tAsg (tCallE (spShowRow a) E0 (tCons (tOp (rIxA K) (tVar 4) (tVar 9)) tNil))
                                     (gName 10))
                                   (tSeq
                                     (tAsg (tCallE (spReadRow a) E0 (tCons (tOp (rIxA K) (tVar 6) (tVar 9)) tNil))
                                       (gName 11))
                                     (tIfS
                                       (tOr
                                         (tNot
                                           (tTru K (tCB (rIsi K) (tCons (tVar 10) (tCons (tC (V.ty "str")) tNil)))))
                                         (tOr (tTest (tOp (rNeA K) (tVar 10) (tOp (rIxA K) (tVar 6) (tVar 9))))
                                           (tOr
                                             (tNot
                                               (tTru K
                                                 (tCB (rIsi K) (tCons (tVar 11) (tCons (tC (V.ref a.C_Row)) tNil)))))
                                             (tTest
                                               (tOp (rNeA K)
                                                 (tMethE P w K mg base CX0 1 (Str.ofString "told") E0 (tVar 11) tNil)
                                                 (tOp (rIxA K) (tVar 5) (tVar 9)))))))
                                       (tRet (tC (V.bl false))) tNext))))
                               (tSeq (tAsg (tCallE (spReadCode a) E0 (tCons (tVar 8) tNil)) (gName 12))
                                 (tSeq
                                   (tIfS
                                     (tOr
                                       (tNot (tTru K (tCB (rIsi K) (tCons (tVar 12) (tCons (tC (V.ty "list")) tNil)))))
                                       (tNot
                                         (tTru K
                                           (tCB (rAll K)
                                             (tCons
                                               (tCompE [Str.ofString "_law_row_here"] [] (iSeq K (tVar 12)) (gName 0)
                                                 tTrue
                                                 (tCB (rIsi K) (tCons (tVar 0) (tCons (tC (V.ref a.C_Row)) tNil))))
                                               tNil)))))
                                     (tRet (tC (V.bl false))) tNext)
                                   (tSeq
                                     (tIfS
                                       (tTest
                                         (tOp (rNeA K)
                                           (tCompE [Str.ofString "_law_row_here"] [] (iSeq K (tVar 12)) (gName 0) tTrue
                                             (tMethE P w K mg base CX0 1 (Str.ofString "told") E0 (tVar 0) tNil))
                                           (tVar 5)))
                                       (tRet (tC (V.bl false))) tNext)
                                     (tSeq (tDrop (tBM K "list" rAppend (tVar 12) (tCons (tC V.non) tNil)))
                                       (tRet
                                         (tOp (rEqA K)
                                           (tCompE [Str.ofString "_law_row_here"] []
                                             (iSeq K (tCallE (spReadCode a) E0 (tCons (tVar 8) tNil))) (gName 0) tTrue
                                             (tMethE P w K mg base CX0 1 (Str.ofString "told") E0 (tVar 0) tNil))
                                           (tVar 5)))))))))))))
                   { nx := fun x H' => Q V.non H', rt := Q },
               rt := ({ nx := fun x H' => Q V.non H', rt := Q } : Ends).rt } : Ends).nx)
   (innerS [Str.ofString "_law_part"] []
     [some (V.ref a0), some (V.ref l0), some (V.int c0), none, none, none, none, none, none, none, none,
       none, none])
   H := by
 refine comp_list (K := K) (a := l0) (xs := cs.map V.int) (fun i ys σ H1 => (∃ v, σ = [v]) ∧ Same H H1 ∧ ∃ ps : List Pq, ys = ps.map (fun p => V.ref p.1) ∧ ps.length = i ∧ PsAt a H1 ps) ⟨⟨_, rfl⟩, Same.refl _, [], rfl, rfl, fun p hp => by cases hp⟩ (fun i ys σ H1 hi ⟨_, s1, ps, e, e2, _⟩ => ⟨SqL.of (s1 _ _ hl), by rw [e, List.length_map, e2, sizeLine_eq]; rw [List.length_map] at hi; omega⟩) ?_ ?_
 · rintro i x ys σ H1 hx ⟨⟨v, rfl⟩, s1, ps, rfl, hps, hr⟩
   obtain ⟨c, rfl⟩ : ∃ c : Int, x = .int c := by
     rw [List.getElem?_map] at hx
     obtain ⟨c, _, e⟩ := Option.map_eq_some_iff.mp hx
     exact ⟨c, e.symm⟩
   walk_at "rd"
   refine ⟨c, rfl, fun t x tt r H2 s2 ht hx htt hok => ?_⟩
   refine ⟨⟨_, rfl⟩, s1.trans s2, ps ++ [(t, x, tt, r)], by rw [List.map_append]; rfl, by rw [List.length_append, hps]; rfl, fun p hp => ?_⟩
   rcases List.mem_append.mp hp with z | z
   · exact hr.same s2 p z
   · rw [List.mem_singleton.mp z]
     exact ⟨ht, hx, htt, hok⟩
 · rintro ys σ H1 ⟨_, s1, ps, rfl, hps, hr⟩
   have hpn : ps.length ≤ 400 := by rw [hps, List.length_map]; exact hcs
   clear hps s1 hl hcs cs
   intro lp nlp
   walk_at "rd"
   refine comp_mapL (xs := ps) (emb := fun p : Pq => V.ref p.1) (fun p => V.ref p.2.1) (fun σ => ∃ v, σ = [v]) (SqL.of upd_same) (by rw [sizeLine_eq]; omega) ⟨_, rfl⟩ ?_ ?_
   · rintro i p ys σ H2 hp c s ⟨v, rfl⟩
     have h1 := s _ _ (look_new (hr p (List.mem_of_getElem? hp)).1 nlp)
     walk_at "rd"
     exact c.next hp rfl (by walk_at "same") ⟨_, rfl⟩
   intro H2 s2
   have hr2 := (hr.same (same_new (o := HO.lst (List.map (fun p : Pq => V.ref p.1) ps)) nlp)).same s2
   have hlp2 := s2 _ _ upd_same
   clear s2 hr nlp
   walk_at "rd"
   rename_i lc nlc
   refine comp_mapL (xs := ps) (emb := fun p : Pq => V.ref p.1) (fun p => V.ref p.2.2.1) (fun σ => ∃ v, σ = [v]) (SqL.of (look_new hlp2 nlc)) (by rw [sizeLine_eq]; omega) ⟨_, rfl⟩ ?_ ?_
   · rintro i p ys σ H3 hp c s ⟨v, rfl⟩
     have h1 := s _ _ (look_new (hr2 p (List.mem_of_getElem? hp)).1 nlc)
     walk_at "rd"
     exact c.next hp rfl (by walk_at "same") ⟨_, rfl⟩
   intro H3 s3
   have hr3 := (hr2.same (same_new (o := HO.lst (List.map (fun p : Pq => V.ref p.2.1) ps)) nlc)).same s3
   have hlc3 := s3 _ _ upd_same
   clear s3 hr2 nlc hlp2
   walk_at "rd"
   rename_i lt nlt
   refine comp_mapL (xs := ps) (emb := fun p : Pq => V.ref p.2.2.1) (fun p => V.str (rowT p.2.2.2)) (fun σ => ∃ v, σ = [v]) (SqL.of upd_same) (by rw [sizeLine_eq]; omega) ⟨_, rfl⟩ ?_ ?_
   · rintro i p ys σ H4 hp c s ⟨v, rfl⟩
     have h1 := hr3 p (List.mem_of_getElem? hp)
     have h2 := s _ _ (look_new h1.2.2.1 nlt)
     walk_at "rd"
     exact ⟨_, _, rfl, h2, h1.2.2.2, fun H5 s5 => c.next hp rfl (s.trans s5) ⟨_, rfl⟩⟩
   intro H4 s4
   have hr4 := (hr3.same (same_new (o := HO.lst (List.map (fun p : Pq => V.ref p.2.2.1) ps)) nlt)).same s4
   have hlc4 := s4 _ _ (look_new hlc3 nlt)
   have hlt4 := s4 _ _ upd_same
   clear s4 hr3 nlt hlc3
   walk_at "rd"
   rename_i lx nlx lh nlh
   have sn : Same H4 (upd (upd H4 lx (HO.lst (List.map (fun p : Pq => V.str (rowT p.2.2.2)) ps))) lh (HO.lst (List.map (fun p : Pq => V.ref p.2.1) ps))) := (same_new nlx).trans (same_new nlh)
   have hok : ∀ r ∈ ps.map (fun p => p.2.2.2), r.ok := fun r hm => by
     obtain ⟨p, hp, rfl⟩ := List.mem_map.mp hm
     exact (hr4 p hp).2.2.2
   have hn : (ps.map (fun p => p.2.2.2)).length ≤ 2000 := by rw [List.length_map]; omega
   refine ⟨lh, ps.map (fun p => p.2.1), ps.map (fun p => p.2.2.2), rfl, by rw [List.map_map]; exact upd_same, (hr4.same sn).rows, hok, hn, fun H7 s7 => ?_⟩
   have hr7 := (hr4.same sn).same s7
   have hlc7 := s7 _ _ (sn _ _ hlc4)
   have hlt7 := s7 _ _ (sn _ _ hlt4)
   have hlx7 := s7 _ _ (look_new upd_same nlh)
   have hlh7 := s7 _ _ upd_same
   clear s7 sn nlx nlh hr4 hlc4 hlt4 H4
   walk_at "rd"
   refine r_join (ts := (ps.map (fun p : Pq => p.2.2.2)).map rowT) (SqL.of (by rw [List.map_map, List.map_map]; exact hlx7)) (codeT_ok hok hn) ?_
   refine r_neS rfl ?_
   walk_at "rd"
   refine comp_tell (a := a) id (fun σ => ∃ v, σ = [v]) (prs := ps.map (fun p => p.2.1)) (by rw [List.map_map]; exact hlh7) hr7.rows hn ⟨_, rfl⟩ ?_ (fun us1 H8 s8 tl1 => ?_)
   · clear hlx7 hlh7 hlc7 hlt7 hr7 q
     rintro p1 r1 σ1 H1 C C' hm ⟨v1, rfl⟩ s1 ⟨dx1, hrow1⟩ k1
     walk_at "rd"
     refine r_methV hrow1 (flds_told _) ((me_all_told T _).mono (by decide)) ?_
     walk_at "rd"
     refine ⟨p1, rfl, ⟨dx1, hrow1⟩, fun q1 nq1 => ?_⟩
     exact k1 q1 _ _ (same_new nq1) upd_same ⟨_, rfl⟩
   rw [List.map_id] at tl1
   have hr8 := hr7.same s8
   have hlc8 := s8 _ _ hlc7
   have hlt8 := s8 _ _ hlt7
   have hlx8 := s8 _ _ hlx7
   clear s8 hr7 hlc7 hlt7 hlx7 hlh7
   walk_at "rd"
   rename_i lu nlu
   have sn := same_new (o := HO.lst us1) nlu
   refine r_neT (.list ((ps.map (fun p : Pq => p.2.2.2)).map toldD)) (dp_lst (SqL.of upd_same) (tl1.same sn).dp) (dp_lst (SqL.of (sn _ _ hlt8)) (hr8.same sn).tells.dp) (shaped_tolds _) ?_
   have hr9 := hr8.same sn
   have hlc9 := sn _ _ hlc8
   have hlt9 := sn _ _ hlt8
   have hlx9 := sn _ _ hlx8
   clear sn nlu tl1 hr8 hlc8 hlt8 hlx8
   generalize upd H8 lu (HO.lst us1) = H9 at hr9 hlc9 hlt9 hlx9 ⊢
   walk_at "rd"
   rw [show (((List.map (fun p : Pq => V.ref p.2.1) ps).length : Nat) : Int).toNat = ps.length from by rw [List.length_map]; rfl]
   refine for_range (fun i σ HX => (∃ u9 u10 u11, σ = [some (.ref a0), some (.ref l0), some (.int c0), some (.ref lp), some (.ref lc), some (.ref lt), some (.ref lx), some (.ref lh), some (.str (codeT (ps.map fun p => p.2.2.2))), u9, u10, u11, none]) ∧ Same H9 HX) ⟨⟨_, _, _, rfl⟩, Same.refl _⟩ ?_ ?_
   · rintro i σ HX hi ⟨⟨u9, u10, u11, rfl⟩, sx⟩
     obtain ⟨p, hp⟩ : ∃ p, ps[i]? = some p := ⟨_, List.getElem?_eq_getElem hi⟩
     have hm := List.mem_of_getElem? hp
     obtain ⟨_, ⟨dx, hrow⟩, htt, hpk⟩ := hr9.same sx p hm
     have hlcX := sx _ _ hlc9
     have hltX := sx _ _ hlt9
     have hlxX := sx _ _ hlx9
     have e1 : atI (List.map (fun p : Pq => V.ref p.2.1) ps) (0 + (i : Int)) = some (.ref p.2.1) := by rw [Int.zero_add]; exact atI_nat (by rw [List.getElem?_map, hp]; rfl)
     have e2 : atI (List.map (fun p : Pq => V.str (rowT p.2.2.2)) ps) (0 + (i : Int)) = some (.str (rowT p.2.2.2)) := by rw [Int.zero_add]; exact atI_nat (by rw [List.getElem?_map, hp]; rfl)
     have e3 : atI (List.map (fun p : Pq => V.ref p.2.2.1) ps) (0 + (i : Int)) = some (.ref p.2.2.1) := by rw [Int.zero_add]; exact atI_nat (by rw [List.getElem?_map, hp]; rfl)
     clear hr9 hlc9 hlt9 hlx9 hok hn
     walk_at "rd"
     refine ⟨p.2.1, _, rfl, ⟨dx, hrow⟩, hpk, fun HY sy => ?_⟩
     have hltY := sy _ _ hltX
     have hlxY := sy _ _ hlxX
     have httY := sy _ _ htt
     have sxy := sx.trans sy
     clear sy sx hlcX hltX hlxX htt hrow
     walk_at "rd"
     refine ⟨_, rfl, hpk, fun pn HZ sz hrn => ?_⟩
     have hlt0 := sz _ _ hltY
     have hlx0 := sz _ _ hlxY
     have htt0 := sz _ _ httY
     have sxz := sxy.trans sz
     clear sz sxy hltY hlxY httY
     obtain ⟨tyn, hty1, hty2⟩ := ty_row T hrn
     obtain ⟨dn, hrn⟩ := hrn
     walk_at "rd"
     refine r_isi (c := .ref a.C_Row) (fun z => by cases z) hty1 hty2 ?_
     walk_at "rd"
     refine r_methV hrn (flds_told _) ((me_all_told T _).mono (by decide)) ?_
     walk_at "rd"
     refine ⟨pn, rfl, ⟨dn, hrn⟩, fun t1 ht1 => ?_⟩
     walk_at "rd"
     refine r_neT (toldD p.2.2.2) (toldD_dp upd_same) (toldD_dp (look_new htt0 ht1)) (shaped_told1 _) ?_
     walk_at "rd"
     exact ⟨⟨_, _, _, rfl⟩, sxz.trans (same_new ht1)⟩
   · rintro σ HX ⟨⟨u9, u10, u11, rfl⟩, sx⟩
     have hr10 := hr9.same sx
     have hlt10 := sx _ _ hlt9
     clear sx hr9 hlc9 hlt9 hlx9
     walk_at "rd"
     refine ⟨_, rfl, hok, hn, fun lf pf HY sy nlf0 hlf hrf => ?_⟩
     have nlf : lf ≠ lt := fun z => by rw [z, hlt10] at nlf0; cases nlf0
     have hltY := sy _ _ hlt10
     have hrY := hr10.same sy
     clear sy hr10 hlt10
     walk_at "rd"
     have hpf := hrf.1
     rw [List.length_map] at hpf
     refine comp_mapL (xs := pf) (emb := V.ref) (fun _ => .bl true) (fun σ => ∃ v, σ = [v]) (SqL.of hlf) (by rw [sizeLine_eq]; omega) ⟨_, rfl⟩ ?_ ?_
     · rintro i p' ys σ H1 hp c s ⟨v, rfl⟩
       obtain ⟨r', _, hr'⟩ := hrf.mem (List.mem_of_getElem? hp)
       obtain ⟨ty', h1, h2⟩ := ty_row T (hr'.same s)
       walk_at "rd"
       refine r_isi (c := .ref a.C_Row) (fun z => by cases z) h1 h2 ?_
       exact c.next hp rfl s ⟨_, rfl⟩
     intro H5 s5
     have hlf5 := s5 _ _ hlf
     have hrf5 := hrf.same s5
     have hlt5 := s5 _ _ hltY
     have hr5 := hrY.same s5
     clear s5 hlf hrf hltY hrY
     walk_at "rd"
     rename_i lb nlb
     refine r_all (bs := List.replicate pf.length true) (by rw [List.map_replicate, List.map_const']; exact SqL.of upd_same) ?_
     rw [show (List.replicate pf.length true).all id = true from by simp]
     have sb := same_new (o := HO.lst (List.map (fun _ => V.bl true) pf)) nlb
     have hlf6 := sb _ _ hlf5
     have hrf6 := hrf5.same sb
     have hlt6 := sb _ _ hlt5
     have hr6 := hr5.same sb
     clear sb nlb hlf5 hrf5 hlt5 hr5
     generalize upd H5 lb (HO.lst (List.map (fun _ => V.bl true) pf)) = H6 at hlf6 hrf6 hlt6 hr6 ⊢
     walk_at "rd"
     refine comp_tell (a := a) id (fun σ => ∃ v, σ = [v]) hlf6 hrf6 hn ⟨_, rfl⟩ ?_ (fun us1 H8 s8 tl1 => ?_)
     · clear hlf6 hrf6 hlt6 hr6 q
       rintro p1 r1 σ1 H1 C C' hm ⟨v1, rfl⟩ s1 ⟨dx1, hrow1⟩ k1
       walk_at "rd"
       refine r_methV hrow1 (flds_told _) ((me_all_told T _).mono (by decide)) ?_
       walk_at "rd"
       refine ⟨p1, rfl, ⟨dx1, hrow1⟩, fun q1 nq1 => ?_⟩
       exact k1 q1 _ _ (same_new nq1) upd_same ⟨_, rfl⟩
     rw [List.map_id] at tl1
     have hlf8 := s8 _ _ hlf6
     have hlt8 := s8 _ _ hlt6
     have hr8 := hr6.same s8
     clear s8 hlf6 hrf6 hlt6 hr6
     walk_at "rd"
     rename_i lu nlu
     have sn := same_new (o := HO.lst us1) nlu
     refine r_neT (.list ((ps.map (fun p : Pq => p.2.2.2)).map toldD)) (dp_lst (SqL.of upd_same) (tl1.same sn).dp) (dp_lst (SqL.of (sn _ _ hlt8)) (hr8.same sn).tells.dp) (shaped_tolds _) ?_
     have hlf9 := sn _ _ hlf8
     have hlt9 := sn _ _ hlt8
     have hr9 := hr8.same sn
     clear sn nlu tl1 hlf8 hlt8 hr8
     generalize upd H8 lu (HO.lst us1) = H9 at hlf9 hlt9 hr9 ⊢
     walk_at "rd"
     refine ⟨_, rfl, hok, hn, fun lg pg HG sg _ hlg hrg => ?_⟩
     have hltG := sg _ _ (show upd H9 lf (HO.lst (List.map V.ref pf ++ [V.non])) lt = some (HO.lst (List.map (fun p : Pq => V.ref p.2.2.1) ps)) from by rw [upd_ne (fun z => nlf z.symm)]; exact hlt9)
     have hrG := (hr9.put (o := HO.lst (List.map V.ref pf ++ [V.non])) hlf9).same sg
     clear sg hlf9 hlt9 hr9
     refine ⟨lg, rfl, .inl ⟨⟨_, SqL.of hlg⟩, ?_⟩⟩
     refine comp_tell (a := a) id (fun σ => ∃ v, σ = [v]) hlg hrg hn ⟨_, rfl⟩ ?_ (fun us2 H10 s10 tl2 => ?_)
     · clear hlg hrg hltG hrG q
       rintro p1 r1 σ1 H1 C C' hm ⟨v1, rfl⟩ s1 ⟨dx1, hrow1⟩ k1
       walk_at "rd"
       refine r_methV hrow1 (flds_told _) ((me_all_told T _).mono (by decide)) ?_
       walk_at "rd"
       refine ⟨p1, rfl, ⟨dx1, hrow1⟩, fun q1 nq1 => ?_⟩
       exact k1 q1 _ _ (same_new nq1) upd_same ⟨_, rfl⟩
     rw [List.map_id] at tl2
     have hlt11 := s10 _ _ hltG
     have hr11 := hrG.same s10
     clear s10 hlg hrg hltG hrG
     walk_at "rd"
     rename_i lv nlv
     have sn := same_new (o := HO.lst us2) nlv
     refine r_eqT (.list ((ps.map (fun p : Pq => p.2.2.2)).map toldD)) (dp_lst (SqL.of upd_same) (tl2.same sn).dp) (dp_lst (SqL.of (sn _ _ hlt11)) (hr11.same sn).tells.dp) (shaped_tolds _) ?_
     exact q _
end
section
variable {P : Program} {w : World} {K : PySem.W.Frag} {mg : Str → Option Value} {base : Heap} {a : Adr}
set_option maxHeartbeats 4000000 in
theorem law_fn {fa : Addr} {fd : FuncData} (T : Txt w K mg a) (F : Fun K "law" "law" s_law fa fd) : FnOk P w K mg base CX0 7 fa fd ["_law_script"] (spLaw K) := by
 refine F.ok (k := 6) sc_law (fun vs H Q E h => ?_) (fun cdv A outer s H vs Q E hr h => ?_)
 · obtain ⟨a0, ns, rfl, _⟩ := h
   rfl
 · obtain ⟨a0, ns, rfl, hS0, h63, q⟩ := h
   refine ⟨_, (pss_cons (ps_set (i := 1) sc_law.nd rfl (Or.inl rfl) (pe_slice (sl_K (K := K) rfl) (pv 0) (po_some pe_int) (po_some pe_int)))
     (pss_cons (ps_set (i := 2) sc_law.nd rfl (Or.inr rfl) (pe_callE (ok_law_cell_at (K := K) T) (hr.mono (by decide)) pass0 rfl (pa_cons (pv 0) (pa_cons pe_int pa_nil))))
     (pss_cons (ps_if (pt_cmpR (op_eqK (K := K) rfl hr.units) (pe_op op_mod (pv 2) pe_int) pe_int (nomark _)) (pss_one (ps_set (i := 1) sc_law.nd rfl (Or.inl rfl) (pe_op (op_plusK (K := K) rfl) (pv 1) (pe_comp (own := ["_law_k"]) (fr := [("_law_cell", 2)]) rfl ⟨rfl, (by walk_at "clok"), (by walk_at "frok"), rfl, (by decide +kernel), (by decide +kernel), rfl⟩ (pi_range1 rfl T.z_range (pa_cons (pe_op op_mod (pe_op op_fdiv (pv 2) pe_int) pe_int) pa_nil)) (fun _ _ _ _ => (pg_name (i := 0) (show List.Nodup [("_law_k" : Str), ("_law_cell" : Str)] from by decide +kernel) rfl (Or.inl rfl))) (fun _ _ _ _ => pts_nil) (fun _ _ _ _ => (pe_op (op_plusK (K := K) rfl) (pe_op op_fdiv (pv 1) pe_int) (pe_op op_times pe_int (pv 0)))))))) pss_nil)
     (pss_cons (ps_setC (i := 3) sc_law.nd rfl rfl (own := ["_law_part"]) (fr := []) rfl ⟨rfl, (by walk_at "clok"), (by walk_at "frok"), rfl, (by decide +kernel), (by decide +kernel), rfl⟩ (pi_seqK (K := K) rfl (pv 1)) (fun _ _ _ _ => (pg_name (i := 0) (show List.Nodup [("_law_part" : Str)] from by decide +kernel) rfl (Or.inl rfl))) (fun _ _ _ _ => pts_nil) (fun _ _ _ _ => (pe_callE (ok_law_row (K := K) T) (hr.mono (by decide)) pass0 rfl (pa_cons (pv 0) pa_nil))))
     (pss_cons (ps_setC (i := 4) sc_law.nd rfl rfl (own := ["_law_pair"]) (fr := []) rfl ⟨rfl, (by walk_at "clok"), (by walk_at "frok"), rfl, (by decide +kernel), (by decide +kernel), rfl⟩ (pi_seqK (K := K) rfl (pv 3)) (fun _ _ _ _ => (pg_name (i := 0) (show List.Nodup [("_law_pair" : Str)] from by decide +kernel) rfl (Or.inl rfl))) (fun _ _ _ _ => pts_nil) (fun _ _ _ _ => (pe_ix (ix_K (K := K) rfl) (pv 0) pe_int (fun _ _ => rfl))))
     (pss_cons (ps_setC (i := 5) sc_law.nd rfl rfl (own := ["_law_pair"]) (fr := []) rfl ⟨rfl, (by walk_at "clok"), (by walk_at "frok"), rfl, (by decide +kernel), (by decide +kernel), rfl⟩ (pi_seqK (K := K) rfl (pv 3)) (fun _ _ _ _ => (pg_name (i := 0) (show List.Nodup [("_law_pair" : Str)] from by decide +kernel) rfl (Or.inl rfl))) (fun _ _ _ _ => pts_nil) (fun _ _ _ _ => (pe_ix (ix_K (K := K) rfl) (pv 0) pe_int (fun _ _ => rfl))))
     (pss_cons (ps_setC (i := 6) sc_law.nd rfl rfl (own := ["_law_one"]) (fr := []) rfl ⟨rfl, (by walk_at "clok"), (by walk_at "frok"), rfl, (by decide +kernel), (by decide +kernel), rfl⟩ (pi_seqK (K := K) rfl (pv 5)) (fun _ _ _ _ => (pg_name (i := 0) (show List.Nodup [("_law_one" : Str)] from by decide +kernel) rfl (Or.inl rfl))) (fun _ _ _ _ => pts_nil) (fun _ _ _ _ => (pe_callE (ok_law_text (K := K) T) (hr.mono (by decide)) pass0 rfl (pa_cons (pv 0) pa_nil))))
     (pss_cons (ps_set (i := 7) sc_law.nd rfl (Or.inl rfl) (pe_callTy (call_listK (K := K) rfl) rfl T.z_list b_list (pa_cons (pv 4) pa_nil)))
     (pss_cons (ps_set (i := 8) sc_law.nd rfl (Or.inl rfl) (pe_callE (ok_show_code (K := K) T) (hr.mono (by decide)) pass0 rfl (pa_cons (pv 7) pa_nil)))
     (pss_cons (ps_if (PW.pt (pw_or (pt_not (pt_truK (K := K) rfl (pe_callB (call_isiK (K := K) rfl) rfl T.z_isinstance b_isinstance (pa_cons (pv 8) (pa_cons (pe_bltn (v := .ty "str") rfl T.z_str b_str rfl) pa_nil))))) (pw_or (pt_cmpR (op_neK (K := K) rfl hr.units) (pv 8) (pe_bmK (K := K) rfl PySem.F.plainAttrs_str PySem.F.slot_str_join PySem.F.type_str_join (mt_join (K := K) rfl) pe_str (pa_cons (pv 6) pa_nil)) (nomark _)) (pw_or1 (pt_cmpR (op_neK (K := K) rfl hr.units) (pe_comp (own := ["_law_row_here"]) (fr := []) rfl ⟨rfl, (by walk_at "clok"), (by walk_at "frok"), rfl, (by decide +kernel), (by decide +kernel), rfl⟩ (pi_seqK (K := K) rfl (pv 7)) (fun _ _ _ _ => (pg_name (i := 0) (show List.Nodup [("_law_row_here" : Str)] from by decide +kernel) rfl (Or.inl rfl))) (fun _ _ _ _ => pts_nil) (fun _ _ _ _ => (pe_methK0 (P := P) (w := w) (K := K) (mg := mg) (base := base) (k := 1) ⟨rfl, rfl, rfl, rfl, rfl⟩ (pv 0) (hr.mono (by decide)) pass0))) (pv 5) (nomark _)))))) (pss_one (ps_ret pe_bl)) pss_nil)
     (pss_cons (ps_for PassesOwn.never rfl (pi_range1 rfl T.z_range (pa_cons (pe_callB (call_lenK (K := K) rfl) rfl T.z_len b_len (pa_cons (pv 4) pa_nil)) pa_nil)) (pg_name (i := 9) sc_law.nd rfl (Or.inl rfl)) (pss_cons (ps_set (i := 10) sc_law.nd rfl (Or.inl rfl) (pe_callE (ok_show_row (K := K) T) (hr.mono (by decide)) pass0 rfl (pa_cons (pe_ix (ix_K (K := K) rfl) (pv 4) (pv 9) (fun _ _ => rfl)) pa_nil)))
     (pss_cons (ps_set (i := 11) sc_law.nd rfl (Or.inl rfl) (pe_callE (ok_read_row (K := K) T) (hr.mono (by decide)) pass0 rfl (pa_cons (pe_ix (ix_K (K := K) rfl) (pv 6) (pv 9) (fun _ _ => rfl)) pa_nil)))
     (pss_one (ps_if (PW.pt (pw_or (pt_not (pt_truK (K := K) rfl (pe_callB (call_isiK (K := K) rfl) rfl T.z_isinstance b_isinstance (pa_cons (pv 10) (pa_cons (pe_bltn (v := .ty "str") rfl T.z_str b_str rfl) pa_nil))))) (pw_or (pt_cmpR (op_neK (K := K) rfl hr.units) (pv 10) (pe_ix (ix_K (K := K) rfl) (pv 6) (pv 9) (fun _ _ => rfl)) (nomark _)) (pw_or (pt_not (pt_truK (K := K) rfl (pe_callB (call_isiK (K := K) rfl) rfl T.z_isinstance b_isinstance (pa_cons (pv 11) (pa_cons (pe_glob (v := .ref a.C_Row) rfl T.c_Row rfl) pa_nil))))) (pw_or1 (pt_cmpR (op_neK (K := K) rfl hr.units) (pe_methK0 (P := P) (w := w) (K := K) (mg := mg) (base := base) (k := 1) ⟨rfl, rfl, rfl, rfl, rfl⟩ (pv 11) (hr.mono (by decide)) pass0) (pe_ix (ix_K (K := K) rfl) (pv 5) (pv 9) (fun _ _ => rfl)) (nomark _))))))) (pss_one (ps_ret pe_bl)) pss_nil)))))
     (pss_cons (ps_set (i := 12) sc_law.nd rfl (Or.inl rfl) (pe_callE (ok_read_code (K := K) T) (hr.mono (by decide)) pass0 rfl (pa_cons (pv 8) pa_nil)))
     (pss_cons (ps_if (PW.pt (pw_or (pt_not (pt_truK (K := K) rfl (pe_callB (call_isiK (K := K) rfl) rfl T.z_isinstance b_isinstance (pa_cons (pv 12) (pa_cons (pe_bltn (v := .ty "list") rfl T.z_list b_list rfl) pa_nil))))) (pw_or1 (pt_not (pt_truK (K := K) rfl (pe_callB (call_allK (K := K) rfl rfl) rfl T.z_all b_all (pa_cons (pe_comp (own := ["_law_row_here"]) (fr := []) rfl ⟨rfl, (by walk_at "clok"), (by walk_at "frok"), rfl, (by decide +kernel), (by decide +kernel), rfl⟩ (pi_seqK (K := K) rfl (pv 12)) (fun _ _ _ _ => (pg_name (i := 0) (show List.Nodup [("_law_row_here" : Str)] from by decide +kernel) rfl (Or.inl rfl))) (fun _ _ _ _ => pts_nil) (fun _ _ _ _ => (pe_callB (call_isiK (K := K) rfl) rfl T.z_isinstance b_isinstance (pa_cons (pv 0) (pa_cons (pe_glob (v := .ref a.C_Row) rfl T.c_Row rfl) pa_nil))))) pa_nil))))))) (pss_one (ps_ret pe_bl)) pss_nil)
     (pss_cons (ps_if (pt_cmpR (op_neK (K := K) rfl hr.units) (pe_comp (own := ["_law_row_here"]) (fr := []) rfl ⟨rfl, (by walk_at "clok"), (by walk_at "frok"), rfl, (by decide +kernel), (by decide +kernel), rfl⟩ (pi_seqK (K := K) rfl (pv 12)) (fun _ _ _ _ => (pg_name (i := 0) (show List.Nodup [("_law_row_here" : Str)] from by decide +kernel) rfl (Or.inl rfl))) (fun _ _ _ _ => pts_nil) (fun _ _ _ _ => (pe_methK0 (P := P) (w := w) (K := K) (mg := mg) (base := base) (k := 1) ⟨rfl, rfl, rfl, rfl, rfl⟩ (pv 0) (hr.mono (by decide)) pass0))) (pv 5) (nomark _)) (pss_one (ps_ret pe_bl)) pss_nil)
     (pss_cons (ps_expr (pe_bmK (K := K) rfl PySem.F.plainAttrs_list PySem.F.slot_list_append PySem.F.type_list_append mt_append (pv 12) (pa_cons pe_non pa_nil)))
     (pss_one (ps_ret (pe_cmpR (op_eqK (K := K) rfl hr.units) (pe_comp (own := ["_law_row_here"]) (fr := []) rfl ⟨rfl, (by walk_at "clok"), (by walk_at "frok"), rfl, (by decide +kernel), (by decide +kernel), rfl⟩ (pi_seqK (K := K) rfl (pe_callE (ok_read_code (K := K) T) (hr.mono (by decide)) pass0 rfl (pa_cons (pv 8) pa_nil))) (fun _ _ _ _ => (pg_name (i := 0) (show List.Nodup [("_law_row_here" : Str)] from by decide +kernel) rfl (Or.inl rfl))) (fun _ _ _ _ => pts_nil) (fun _ _ _ _ => (pe_methK0 (P := P) (w := w) (K := K) (mg := mg) (base := base) (k := 1) ⟨rfl, rfl, rfl, rfl, rfl⟩ (pv 0) (hr.mono (by decide)) pass0))) (pv 5) (nomark _))))))))))))))))))), ?_⟩
   refine r_st (σ' := [some _, none, none, none, none, none, none, none, none, none, none, none, none]) rfl ?_
   walk_at "rd"
   rename_i l0 hl0
   have hcl := cutI_len ns (some 1) (some 13)
   refine ifInt (fun hh => ?_) (fun hh => ?_)
   · have hz0 : 0 ≤ cellAt ns 0 / 8 % 289 := Int.emod_nonneg _ (by decide)
     have hz1 : cellAt ns 0 / 8 % 289 < 289 := Int.emod_lt_of_pos _ (by decide)
     walk_at "rd"
     refine comp_mapR (fun k => .int (cellAt ns 0 / 8 + 104729 * (0 + (k : Int)))) (fun σ => ∃ v, σ = [v, some (.int (cellAt ns 0))]) (by rw [sizeLine_eq]; omega) ⟨_, rfl⟩ ?_ ?_
     · rintro i ys σ H1 hi c s ⟨v, rfl⟩
       walk_at "rd"
       first
         | exact c.next (range_get hi) rfl (by walk_at "same") ⟨_, rfl⟩
         | (refine r_timesI (Or.inl ⟨by omega, by omega⟩) ?_
            walk_at "rd"
            exact c.next (range_get hi) rfl (by walk_at "same") ⟨_, rfl⟩)
     intro H1 s1
     rw [map_int]
     have hl1 := s1 _ _ upd_same
     clear s1 hl0
     walk_at "rd"
     exact law_tail T q (cs := cutI ns (some 1) (some 13) ++ (List.range (cellAt ns 0 / 8 % 289).toNat).map fun k : Nat => cellAt ns 0 / 8 + 104729 * (0 + (k : Int))) (by rw [List.map_append]; exact upd_same) (by rw [List.length_append, List.length_map, List.length_range]; omega)
   · walk_at "rd"
     exact law_tail T q upd_same (by omega)
end
set_option maxHeartbeats 8000000 in
theorem txt_mk {w : World} {K : PySem.W.Frag} {h : Heap} {mg : Str → Option Value} {fa : Addr} (X : K.In h) (G : h.Ns mainGlobals mg) (hfa : mg "law" = some (.ref fa))
   {G_COUNTS : Addr} {ep_COUNTS : Nat}
   {tk1 tk2 : Tok}
   {tk3 tk4 : Tok}
   {tk5 tk6 : Tok}
   {tk7 tk8 : Tok}
   {tk9 tk10 : Tok}
   {tk11 tk12 : Tok}
   {tk13 tk14 : Tok}
   {tk15 tk16 : Tok}
   {tk17 tk18 : Tok}
   {tk19 tk20 : Tok}
   {tk21 tk22 : Tok}
   {tk23 tk24 : Tok}
   {tk25 tk26 : Tok}
   {tk27 tk28 : Tok}
   {tk29 tk30 : Tok}
   {t_FIGURES : Tok}
   {t_MOST_FIGURES : Tok}
   {t_TOP_BOX : Tok}
   {t_TOP_CELLS : Tok}
   {t_TOP_ROWS : Tok}
   {t_TOP_TARGET : Tok}
   {t_TOP_VALUE : Tok}
   {C_Add : Addr}
   {C_Back : Addr}
   {C_Branch : Addr}
   {C_Call : Addr}
   {C_Copy : Addr}
   {C_Drop : Addr}
   {C_Get : Addr}
   {C_Grow : Addr}
   {C_Jump : Addr}
   {C_Less : Addr}
   {C_Mul : Addr}
   {C_NoRow : Addr}
   {C_NoText : Addr}
   {C_Put : Addr}
   {C_Row : Addr}
   {C_Set : Addr}
   {C_Shrink : Addr}
   {C_Sub : Addr}
   {f31 : Addr} {od31 an31 : Option Addr} {sl31 : Array (Option Value)} {oc31 kV31 dc31 pm31 cd31 ct31 : Value}
   {f32 : Addr} {od32 an32 : Option Addr} {sl32 : Array (Option Value)} {oc32 kV32 dc32 pm32 cd32 ct32 : Value}
   {f33 : Addr} {od33 an33 : Option Addr} {sl33 : Array (Option Value)} {oc33 kV33 dc33 pm33 cd33 ct33 : Value}
   {f34 : Addr} {od34 an34 : Option Addr} {sl34 : Array (Option Value)} {oc34 kV34 dc34 pm34 cd34 ct34 : Value}
   {f35 : Addr} {od35 an35 : Option Addr} {sl35 : Array (Option Value)} {oc35 kV35 dc35 pm35 cd35 ct35 : Value}
   {f36 : Addr} {od36 an36 : Option Addr} {sl36 : Array (Option Value)} {oc36 kV36 dc36 pm36 cd36 ct36 : Value}
   {f37 : Addr} {od37 an37 : Option Addr} {sl37 : Array (Option Value)} {oc37 kV37 dc37 pm37 cd37 ct37 : Value}
   {f38 : Addr} {od38 an38 : Option Addr} {sl38 : Array (Option Value)} {oc38 kV38 dc38 pm38 cd38 ct38 : Value}
   {f39 : Addr} {od39 an39 : Option Addr} {sl39 : Array (Option Value)} {oc39 kV39 dc39 pm39 cd39 ct39 : Value}
   {f40 : Addr} {od40 an40 : Option Addr} {sl40 : Array (Option Value)} {oc40 kV40 dc40 pm40 cd40 ct40 : Value}
   {f41 : Addr} {od41 an41 : Option Addr} {sl41 : Array (Option Value)} {oc41 kV41 dc41 pm41 cd41 ct41 : Value}
   {f42 : Addr} {od42 an42 : Option Addr} {sl42 : Array (Option Value)} {oc42 kV42 dc42 pm42 cd42 ct42 : Value}
   {f43 : Addr} {od43 an43 : Option Addr} {sl43 : Array (Option Value)} {oc43 kV43 dc43 pm43 cd43 ct43 : Value}
   {f44 : Addr} {od44 an44 : Option Addr} {sl44 : Array (Option Value)} {oc44 kV44 dc44 pm44 cd44 ct44 : Value}
   {f45 : Addr} {od45 an45 : Option Addr} {sl45 : Array (Option Value)} {oc45 kV45 dc45 pm45 cd45 ct45 : Value}
   {f46 : Addr} {od46 an46 : Option Addr} {sl46 : Array (Option Value)} {oc46 kV46 dc46 pm46 cd46 ct46 : Value}
   {f47 : Addr} {od47 an47 : Option Addr} {sl47 : Array (Option Value)} {oc47 kV47 dc47 pm47 cd47 ct47 : Value}
   {f48 : Addr} {od48 an48 : Option Addr} {sl48 : Array (Option Value)} {oc48 kV48 dc48 pm48 cd48 ct48 : Value}
   {f49 : Addr} {od49 an49 : Option Addr} {sl49 : Array (Option Value)} {oc49 kV49 dc49 pm49 cd49 ct49 : Value}
   {f50 : Addr} {od50 an50 : Option Addr} {sl50 : Array (Option Value)} {oc50 kV50 dc50 pm50 cd50 ct50 : Value}
   {f51 : Addr} {od51 an51 : Option Addr} {sl51 : Array (Option Value)} {oc51 kV51 dc51 pm51 cd51 ct51 : Value}
   {f52 : Addr} {od52 an52 : Option Addr} {sl52 : Array (Option Value)} {oc52 kV52 dc52 pm52 cd52 ct52 : Value}
   {f53 : Addr} {od53 an53 : Option Addr} {sl53 : Array (Option Value)} {oc53 kV53 dc53 pm53 cd53 ct53 : Value}
   {f54 : Addr} {od54 an54 : Option Addr} {sl54 : Array (Option Value)} {oc54 kV54 dc54 pm54 cd54 ct54 : Value}
   {f55 : Addr} {od55 an55 : Option Addr} {sl55 : Array (Option Value)} {oc55 kV55 dc55 pm55 cd55 ct55 : Value}
   {f56 : Addr} {od56 an56 : Option Addr} {sl56 : Array (Option Value)} {oc56 kV56 dc56 pm56 cd56 ct56 : Value}
   {f57 : Addr} {od57 an57 : Option Addr} {sl57 : Array (Option Value)} {oc57 kV57 dc57 pm57 cd57 ct57 : Value}
   {f58 : Addr} {od58 an58 : Option Addr} {sl58 : Array (Option Value)} {oc58 kV58 dc58 pm58 cd58 ct58 : Value}
   {f59 : Addr} {od59 an59 : Option Addr} {sl59 : Array (Option Value)} {oc59 kV59 dc59 pm59 cd59 ct59 : Value}
   {f60 : Addr} {od60 an60 : Option Addr} {sl60 : Array (Option Value)} {oc60 kV60 dc60 pm60 cd60 ct60 : Value}
   {f61 : Addr} {od61 an61 : Option Addr} {sl61 : Array (Option Value)} {oc61 kV61 dc61 pm61 cd61 ct61 : Value}
   {f62 : Addr} {od62 an62 : Option Addr} {sl62 : Array (Option Value)} {oc62 kV62 dc62 pm62 cd62 ct62 : Value}
   {f63 : Addr} {od63 an63 : Option Addr} {sl63 : Array (Option Value)} {oc63 kV63 dc63 pm63 cd63 ct63 : Value}
   {f64 : Addr} {od64 an64 : Option Addr} {sl64 : Array (Option Value)} {oc64 kV64 dc64 pm64 cd64 ct64 : Value}
   {f65 : Addr} {od65 an65 : Option Addr} {sl65 : Array (Option Value)} {oc65 kV65 dc65 pm65 cd65 ct65 : Value}
   {f66 : Addr} {od66 an66 : Option Addr} {sl66 : Array (Option Value)} {oc66 kV66 dc66 pm66 cd66 ct66 : Value}
   {f67 : Addr} {od67 an67 : Option Addr} {sl67 : Array (Option Value)} {oc67 kV67 dc67 pm67 cd67 ct67 : Value}
   {f68 : Addr} {od68 an68 : Option Addr} {sl68 : Array (Option Value)} {oc68 kV68 dc68 pm68 cd68 ct68 : Value}
   {f69 : Addr} {od69 an69 : Option Addr} {sl69 : Array (Option Value)} {oc69 kV69 dc69 pm69 cd69 ct69 : Value}
   {f70 : Addr} {od70 an70 : Option Addr} {sl70 : Array (Option Value)} {oc70 kV70 dc70 pm70 cd70 ct70 : Value}
   {f71 : Addr} {od71 an71 : Option Addr} {sl71 : Array (Option Value)} {oc71 kV71 dc71 pm71 cd71 ct71 : Value}
   {f72 : Addr} {od72 an72 : Option Addr} {sl72 : Array (Option Value)} {oc72 kV72 dc72 pm72 cd72 ct72 : Value}
   {f73 : Addr} {od73 an73 : Option Addr} {sl73 : Array (Option Value)} {oc73 kV73 dc73 pm73 cd73 ct73 : Value}
   {f74 : Addr} {od74 an74 : Option Addr} {sl74 : Array (Option Value)} {oc74 kV74 dc74 pm74 cd74 ct74 : Value}
   {f75 : Addr} {od75 an75 : Option Addr} {sl75 : Array (Option Value)} {oc75 kV75 dc75 pm75 cd75 ct75 : Value}
   {f76 : Addr} {od76 an76 : Option Addr} {sl76 : Array (Option Value)} {oc76 kV76 dc76 pm76 cd76 ct76 : Value}
   {f77 : Addr} {od77 an77 : Option Addr} {sl77 : Array (Option Value)} {oc77 kV77 dc77 pm77 cd77 ct77 : Value}
   {f78 : Addr} {od78 an78 : Option Addr} {sl78 : Array (Option Value)} {oc78 kV78 dc78 pm78 cd78 ct78 : Value}
   (z_all : PySem.W.nsIn K mainGlobals "all" = some none)
   (z_int : PySem.W.nsIn K mainGlobals "int" = some none)
   (z_isinstance : PySem.W.nsIn K mainGlobals "isinstance" = some none)
   (z_len : PySem.W.nsIn K mainGlobals "len" = some none)
   (z_list : PySem.W.nsIn K mainGlobals "list" = some none)
   (z_range : PySem.W.nsIn K mainGlobals "range" = some none)
   (z_str : PySem.W.nsIn K mainGlobals "str" = some none)
   (g_COUNTS : PySem.W.nsIn K mainGlobals "COUNTS" = some (some (.ref G_COUNTS)))
   (l_COUNTS : K.lookup G_COUNTS = some ⟨.type "dict", none, .dict #[{ hash := PyData.keyHash w.params "set", key := .str "set" tk1, val := .int 2 tk2 }, { hash := PyData.keyHash w.params "copy", key := .str "copy" tk3, val := .int 2 tk4 }, { hash := PyData.keyHash w.params "add", key := .str "add" tk5, val := .int 3 tk6 }, { hash := PyData.keyHash w.params "sub", key := .str "sub" tk7, val := .int 3 tk8 }, { hash := PyData.keyHash w.params "mul", key := .str "mul" tk9, val := .int 3 tk10 }, { hash := PyData.keyHash w.params "less", key := .str "less" tk11, val := .int 3 tk12 }, { hash := PyData.keyHash w.params "grow", key := .str "grow" tk13, val := .int 1 tk14 }, { hash := PyData.keyHash w.params "shrink", key := .str "shrink" tk15, val := .int 1 tk16 }, { hash := PyData.keyHash w.params "put", key := .str "put" tk17, val := .int 2 tk18 }, { hash := PyData.keyHash w.params "get", key := .str "get" tk19, val := .int 2 tk20 }, { hash := PyData.keyHash w.params "jump", key := .str "jump" tk21, val := .int 1 tk22 }, { hash := PyData.keyHash w.params "branch", key := .str "branch" tk23, val := .int 2 tk24 }, { hash := PyData.keyHash w.params "call", key := .str "call" tk25, val := .int 1 tk26 }, { hash := PyData.keyHash w.params "back", key := .str "back" tk27, val := .int 1 tk28 }, { hash := PyData.keyHash w.params "drop", key := .str "drop" tk29, val := .int 1 tk30 }] ep_COUNTS, #[]⟩)
   (y_COUNTS : (G_COUNTS == sysModules) = false)
   (g_FIGURES : PySem.W.nsIn K mainGlobals "FIGURES" = some (some (Value.str "0123456789" t_FIGURES)))
   (g_MOST_FIGURES : PySem.W.nsIn K mainGlobals "MOST_FIGURES" = some (some (Value.int 10 t_MOST_FIGURES)))
   (g_TOP_BOX : PySem.W.nsIn K mainGlobals "TOP_BOX" = some (some (Value.int 7 t_TOP_BOX)))
   (g_TOP_CELLS : PySem.W.nsIn K mainGlobals "TOP_CELLS" = some (some (Value.int 4000 t_TOP_CELLS)))
   (g_TOP_ROWS : PySem.W.nsIn K mainGlobals "TOP_ROWS" = some (some (Value.int 2000 t_TOP_ROWS)))
   (g_TOP_TARGET : PySem.W.nsIn K mainGlobals "TOP_TARGET" = some (some (Value.int 2000 t_TOP_TARGET)))
   (g_TOP_VALUE : PySem.W.nsIn K mainGlobals "TOP_VALUE" = some (some (Value.int 4294967295 t_TOP_VALUE)))
   (c_Add : PySem.W.nsIn K mainGlobals "Add" = some (some (.ref C_Add)))
   (c_Back : PySem.W.nsIn K mainGlobals "Back" = some (some (.ref C_Back)))
   (c_Branch : PySem.W.nsIn K mainGlobals "Branch" = some (some (.ref C_Branch)))
   (c_Call : PySem.W.nsIn K mainGlobals "Call" = some (some (.ref C_Call)))
   (c_Copy : PySem.W.nsIn K mainGlobals "Copy" = some (some (.ref C_Copy)))
   (c_Drop : PySem.W.nsIn K mainGlobals "Drop" = some (some (.ref C_Drop)))
   (c_Get : PySem.W.nsIn K mainGlobals "Get" = some (some (.ref C_Get)))
   (c_Grow : PySem.W.nsIn K mainGlobals "Grow" = some (some (.ref C_Grow)))
   (c_Jump : PySem.W.nsIn K mainGlobals "Jump" = some (some (.ref C_Jump)))
   (c_Less : PySem.W.nsIn K mainGlobals "Less" = some (some (.ref C_Less)))
   (c_Mul : PySem.W.nsIn K mainGlobals "Mul" = some (some (.ref C_Mul)))
   (c_NoRow : PySem.W.nsIn K mainGlobals "NoRow" = some (some (.ref C_NoRow)))
   (c_NoText : PySem.W.nsIn K mainGlobals "NoText" = some (some (.ref C_NoText)))
   (c_Put : PySem.W.nsIn K mainGlobals "Put" = some (some (.ref C_Put)))
   (c_Row : PySem.W.nsIn K mainGlobals "Row" = some (some (.ref C_Row)))
   (c_Set : PySem.W.nsIn K mainGlobals "Set" = some (some (.ref C_Set)))
   (c_Shrink : PySem.W.nsIn K mainGlobals "Shrink" = some (some (.ref C_Shrink)))
   (c_Sub : PySem.W.nsIn K mainGlobals "Sub" = some (some (.ref C_Sub)))
   (pg_Drop : PySem.W.plainGet K C_Drop Str.empty = true)
   (hd_Drop : PySem.W.hasDictIn K C_Drop = true)
   (po_Drop : PySem.W.plainOver K C_Drop = true)
   (sa_Drop : PySem.W.findIn K (.ref C_Drop) "__setattr__" = some (some (.builtin "object.__setattr__")))
   (mk_Drop : PySem.W.makesIn K C_Drop = true)
   (kc_Drop : PySem.W.keepIn K (.ref C_Drop) = true)
   (n_Drop_box : PySem.W.findIn K (.ref C_Drop) "box" = some none)
   (a31 : PySem.W.findIn K (.ref C_Drop) "__init__" = some (some (.ref f31)))
   (i31 : PySem.W.isFn K (.ref f31) = true)
   (l31 : K.lookup f31 = some ⟨oc31, od31, .func (PySem.W.fnOf "__init__" "Drop.__init__" (defArgs s_Drop_init) (defBody s_Drop_init) (defScope s_Drop_init) .none kV31 dc31 pm31 an31 cd31 ct31), sl31⟩)
   (c31 : PySem.W.codeIn K cd31 "Drop.__init__" = true) (k31 : PySem.W.keepIn K (.ref f31) = true)
   (a32 : PySem.W.findIn K (.ref C_Drop) "told" = some (some (.ref f32)))
   (i32 : PySem.W.isFn K (.ref f32) = true)
   (l32 : K.lookup f32 = some ⟨oc32, od32, .func (PySem.W.fnOf "told" "Drop.told" (defArgs s_Drop_told) (defBody s_Drop_told) (defScope s_Drop_told) .none kV32 dc32 pm32 an32 cd32 ct32), sl32⟩)
   (c32 : PySem.W.codeIn K cd32 "Drop.told" = true) (k32 : PySem.W.keepIn K (.ref f32) = true)
   (pg_Grow : PySem.W.plainGet K C_Grow Str.empty = true)
   (hd_Grow : PySem.W.hasDictIn K C_Grow = true)
   (po_Grow : PySem.W.plainOver K C_Grow = true)
   (sa_Grow : PySem.W.findIn K (.ref C_Grow) "__setattr__" = some (some (.builtin "object.__setattr__")))
   (mk_Grow : PySem.W.makesIn K C_Grow = true)
   (kc_Grow : PySem.W.keepIn K (.ref C_Grow) = true)
   (n_Grow_many : PySem.W.findIn K (.ref C_Grow) "many" = some none)
   (a33 : PySem.W.findIn K (.ref C_Grow) "__init__" = some (some (.ref f33)))
   (i33 : PySem.W.isFn K (.ref f33) = true)
   (l33 : K.lookup f33 = some ⟨oc33, od33, .func (PySem.W.fnOf "__init__" "Grow.__init__" (defArgs s_Grow_init) (defBody s_Grow_init) (defScope s_Grow_init) .none kV33 dc33 pm33 an33 cd33 ct33), sl33⟩)
   (c33 : PySem.W.codeIn K cd33 "Grow.__init__" = true) (k33 : PySem.W.keepIn K (.ref f33) = true)
   (a34 : PySem.W.findIn K (.ref C_Grow) "told" = some (some (.ref f34)))
   (i34 : PySem.W.isFn K (.ref f34) = true)
   (l34 : K.lookup f34 = some ⟨oc34, od34, .func (PySem.W.fnOf "told" "Grow.told" (defArgs s_Grow_told) (defBody s_Grow_told) (defScope s_Grow_told) .none kV34 dc34 pm34 an34 cd34 ct34), sl34⟩)
   (c34 : PySem.W.codeIn K cd34 "Grow.told" = true) (k34 : PySem.W.keepIn K (.ref f34) = true)
   (pg_Shrink : PySem.W.plainGet K C_Shrink Str.empty = true)
   (hd_Shrink : PySem.W.hasDictIn K C_Shrink = true)
   (po_Shrink : PySem.W.plainOver K C_Shrink = true)
   (sa_Shrink : PySem.W.findIn K (.ref C_Shrink) "__setattr__" = some (some (.builtin "object.__setattr__")))
   (mk_Shrink : PySem.W.makesIn K C_Shrink = true)
   (kc_Shrink : PySem.W.keepIn K (.ref C_Shrink) = true)
   (n_Shrink_many : PySem.W.findIn K (.ref C_Shrink) "many" = some none)
   (a35 : PySem.W.findIn K (.ref C_Shrink) "__init__" = some (some (.ref f35)))
   (i35 : PySem.W.isFn K (.ref f35) = true)
   (l35 : K.lookup f35 = some ⟨oc35, od35, .func (PySem.W.fnOf "__init__" "Shrink.__init__" (defArgs s_Shrink_init) (defBody s_Shrink_init) (defScope s_Shrink_init) .none kV35 dc35 pm35 an35 cd35 ct35), sl35⟩)
   (c35 : PySem.W.codeIn K cd35 "Shrink.__init__" = true) (k35 : PySem.W.keepIn K (.ref f35) = true)
   (a36 : PySem.W.findIn K (.ref C_Shrink) "told" = some (some (.ref f36)))
   (i36 : PySem.W.isFn K (.ref f36) = true)
   (l36 : K.lookup f36 = some ⟨oc36, od36, .func (PySem.W.fnOf "told" "Shrink.told" (defArgs s_Shrink_told) (defBody s_Shrink_told) (defScope s_Shrink_told) .none kV36 dc36 pm36 an36 cd36 ct36), sl36⟩)
   (c36 : PySem.W.codeIn K cd36 "Shrink.told" = true) (k36 : PySem.W.keepIn K (.ref f36) = true)
   (pg_Jump : PySem.W.plainGet K C_Jump Str.empty = true)
   (hd_Jump : PySem.W.hasDictIn K C_Jump = true)
   (po_Jump : PySem.W.plainOver K C_Jump = true)
   (sa_Jump : PySem.W.findIn K (.ref C_Jump) "__setattr__" = some (some (.builtin "object.__setattr__")))
   (mk_Jump : PySem.W.makesIn K C_Jump = true)
   (kc_Jump : PySem.W.keepIn K (.ref C_Jump) = true)
   (n_Jump_target : PySem.W.findIn K (.ref C_Jump) "target" = some none)
   (a37 : PySem.W.findIn K (.ref C_Jump) "__init__" = some (some (.ref f37)))
   (i37 : PySem.W.isFn K (.ref f37) = true)
   (l37 : K.lookup f37 = some ⟨oc37, od37, .func (PySem.W.fnOf "__init__" "Jump.__init__" (defArgs s_Jump_init) (defBody s_Jump_init) (defScope s_Jump_init) .none kV37 dc37 pm37 an37 cd37 ct37), sl37⟩)
   (c37 : PySem.W.codeIn K cd37 "Jump.__init__" = true) (k37 : PySem.W.keepIn K (.ref f37) = true)
   (a38 : PySem.W.findIn K (.ref C_Jump) "told" = some (some (.ref f38)))
   (i38 : PySem.W.isFn K (.ref f38) = true)
   (l38 : K.lookup f38 = some ⟨oc38, od38, .func (PySem.W.fnOf "told" "Jump.told" (defArgs s_Jump_told) (defBody s_Jump_told) (defScope s_Jump_told) .none kV38 dc38 pm38 an38 cd38 ct38), sl38⟩)
   (c38 : PySem.W.codeIn K cd38 "Jump.told" = true) (k38 : PySem.W.keepIn K (.ref f38) = true)
   (pg_Call : PySem.W.plainGet K C_Call Str.empty = true)
   (hd_Call : PySem.W.hasDictIn K C_Call = true)
   (po_Call : PySem.W.plainOver K C_Call = true)
   (sa_Call : PySem.W.findIn K (.ref C_Call) "__setattr__" = some (some (.builtin "object.__setattr__")))
   (mk_Call : PySem.W.makesIn K C_Call = true)
   (kc_Call : PySem.W.keepIn K (.ref C_Call) = true)
   (n_Call_target : PySem.W.findIn K (.ref C_Call) "target" = some none)
   (a39 : PySem.W.findIn K (.ref C_Call) "__init__" = some (some (.ref f39)))
   (i39 : PySem.W.isFn K (.ref f39) = true)
   (l39 : K.lookup f39 = some ⟨oc39, od39, .func (PySem.W.fnOf "__init__" "Call.__init__" (defArgs s_Call_init) (defBody s_Call_init) (defScope s_Call_init) .none kV39 dc39 pm39 an39 cd39 ct39), sl39⟩)
   (c39 : PySem.W.codeIn K cd39 "Call.__init__" = true) (k39 : PySem.W.keepIn K (.ref f39) = true)
   (a40 : PySem.W.findIn K (.ref C_Call) "told" = some (some (.ref f40)))
   (i40 : PySem.W.isFn K (.ref f40) = true)
   (l40 : K.lookup f40 = some ⟨oc40, od40, .func (PySem.W.fnOf "told" "Call.told" (defArgs s_Call_told) (defBody s_Call_told) (defScope s_Call_told) .none kV40 dc40 pm40 an40 cd40 ct40), sl40⟩)
   (c40 : PySem.W.codeIn K cd40 "Call.told" = true) (k40 : PySem.W.keepIn K (.ref f40) = true)
   (pg_Back : PySem.W.plainGet K C_Back Str.empty = true)
   (hd_Back : PySem.W.hasDictIn K C_Back = true)
   (po_Back : PySem.W.plainOver K C_Back = true)
   (sa_Back : PySem.W.findIn K (.ref C_Back) "__setattr__" = some (some (.builtin "object.__setattr__")))
   (mk_Back : PySem.W.makesIn K C_Back = true)
   (kc_Back : PySem.W.keepIn K (.ref C_Back) = true)
   (n_Back_box : PySem.W.findIn K (.ref C_Back) "box" = some none)
   (a41 : PySem.W.findIn K (.ref C_Back) "__init__" = some (some (.ref f41)))
   (i41 : PySem.W.isFn K (.ref f41) = true)
   (l41 : K.lookup f41 = some ⟨oc41, od41, .func (PySem.W.fnOf "__init__" "Back.__init__" (defArgs s_Back_init) (defBody s_Back_init) (defScope s_Back_init) .none kV41 dc41 pm41 an41 cd41 ct41), sl41⟩)
   (c41 : PySem.W.codeIn K cd41 "Back.__init__" = true) (k41 : PySem.W.keepIn K (.ref f41) = true)
   (a42 : PySem.W.findIn K (.ref C_Back) "told" = some (some (.ref f42)))
   (i42 : PySem.W.isFn K (.ref f42) = true)
   (l42 : K.lookup f42 = some ⟨oc42, od42, .func (PySem.W.fnOf "told" "Back.told" (defArgs s_Back_told) (defBody s_Back_told) (defScope s_Back_told) .none kV42 dc42 pm42 an42 cd42 ct42), sl42⟩)
   (c42 : PySem.W.codeIn K cd42 "Back.told" = true) (k42 : PySem.W.keepIn K (.ref f42) = true)
   (pg_Branch : PySem.W.plainGet K C_Branch Str.empty = true)
   (hd_Branch : PySem.W.hasDictIn K C_Branch = true)
   (po_Branch : PySem.W.plainOver K C_Branch = true)
   (sa_Branch : PySem.W.findIn K (.ref C_Branch) "__setattr__" = some (some (.builtin "object.__setattr__")))
   (mk_Branch : PySem.W.makesIn K C_Branch = true)
   (kc_Branch : PySem.W.keepIn K (.ref C_Branch) = true)
   (n_Branch_box : PySem.W.findIn K (.ref C_Branch) "box" = some none)
   (n_Branch_target : PySem.W.findIn K (.ref C_Branch) "target" = some none)
   (a43 : PySem.W.findIn K (.ref C_Branch) "__init__" = some (some (.ref f43)))
   (i43 : PySem.W.isFn K (.ref f43) = true)
   (l43 : K.lookup f43 = some ⟨oc43, od43, .func (PySem.W.fnOf "__init__" "Branch.__init__" (defArgs s_Branch_init) (defBody s_Branch_init) (defScope s_Branch_init) .none kV43 dc43 pm43 an43 cd43 ct43), sl43⟩)
   (c43 : PySem.W.codeIn K cd43 "Branch.__init__" = true) (k43 : PySem.W.keepIn K (.ref f43) = true)
   (a44 : PySem.W.findIn K (.ref C_Branch) "told" = some (some (.ref f44)))
   (i44 : PySem.W.isFn K (.ref f44) = true)
   (l44 : K.lookup f44 = some ⟨oc44, od44, .func (PySem.W.fnOf "told" "Branch.told" (defArgs s_Branch_told) (defBody s_Branch_told) (defScope s_Branch_told) .none kV44 dc44 pm44 an44 cd44 ct44), sl44⟩)
   (c44 : PySem.W.codeIn K cd44 "Branch.told" = true) (k44 : PySem.W.keepIn K (.ref f44) = true)
   (pg_Set : PySem.W.plainGet K C_Set Str.empty = true)
   (hd_Set : PySem.W.hasDictIn K C_Set = true)
   (po_Set : PySem.W.plainOver K C_Set = true)
   (sa_Set : PySem.W.findIn K (.ref C_Set) "__setattr__" = some (some (.builtin "object.__setattr__")))
   (mk_Set : PySem.W.makesIn K C_Set = true)
   (kc_Set : PySem.W.keepIn K (.ref C_Set) = true)
   (n_Set_box : PySem.W.findIn K (.ref C_Set) "box" = some none)
   (n_Set_number : PySem.W.findIn K (.ref C_Set) "number" = some none)
   (a45 : PySem.W.findIn K (.ref C_Set) "__init__" = some (some (.ref f45)))
   (i45 : PySem.W.isFn K (.ref f45) = true)
   (l45 : K.lookup f45 = some ⟨oc45, od45, .func (PySem.W.fnOf "__init__" "Set.__init__" (defArgs s_Set_init) (defBody s_Set_init) (defScope s_Set_init) .none kV45 dc45 pm45 an45 cd45 ct45), sl45⟩)
   (c45 : PySem.W.codeIn K cd45 "Set.__init__" = true) (k45 : PySem.W.keepIn K (.ref f45) = true)
   (a46 : PySem.W.findIn K (.ref C_Set) "told" = some (some (.ref f46)))
   (i46 : PySem.W.isFn K (.ref f46) = true)
   (l46 : K.lookup f46 = some ⟨oc46, od46, .func (PySem.W.fnOf "told" "Set.told" (defArgs s_Set_told) (defBody s_Set_told) (defScope s_Set_told) .none kV46 dc46 pm46 an46 cd46 ct46), sl46⟩)
   (c46 : PySem.W.codeIn K cd46 "Set.told" = true) (k46 : PySem.W.keepIn K (.ref f46) = true)
   (pg_Copy : PySem.W.plainGet K C_Copy Str.empty = true)
   (hd_Copy : PySem.W.hasDictIn K C_Copy = true)
   (po_Copy : PySem.W.plainOver K C_Copy = true)
   (sa_Copy : PySem.W.findIn K (.ref C_Copy) "__setattr__" = some (some (.builtin "object.__setattr__")))
   (mk_Copy : PySem.W.makesIn K C_Copy = true)
   (kc_Copy : PySem.W.keepIn K (.ref C_Copy) = true)
   (n_Copy_box : PySem.W.findIn K (.ref C_Copy) "box" = some none)
   (n_Copy_one : PySem.W.findIn K (.ref C_Copy) "one" = some none)
   (a47 : PySem.W.findIn K (.ref C_Copy) "__init__" = some (some (.ref f47)))
   (i47 : PySem.W.isFn K (.ref f47) = true)
   (l47 : K.lookup f47 = some ⟨oc47, od47, .func (PySem.W.fnOf "__init__" "Copy.__init__" (defArgs s_Copy_init) (defBody s_Copy_init) (defScope s_Copy_init) .none kV47 dc47 pm47 an47 cd47 ct47), sl47⟩)
   (c47 : PySem.W.codeIn K cd47 "Copy.__init__" = true) (k47 : PySem.W.keepIn K (.ref f47) = true)
   (a48 : PySem.W.findIn K (.ref C_Copy) "told" = some (some (.ref f48)))
   (i48 : PySem.W.isFn K (.ref f48) = true)
   (l48 : K.lookup f48 = some ⟨oc48, od48, .func (PySem.W.fnOf "told" "Copy.told" (defArgs s_Copy_told) (defBody s_Copy_told) (defScope s_Copy_told) .none kV48 dc48 pm48 an48 cd48 ct48), sl48⟩)
   (c48 : PySem.W.codeIn K cd48 "Copy.told" = true) (k48 : PySem.W.keepIn K (.ref f48) = true)
   (pg_Put : PySem.W.plainGet K C_Put Str.empty = true)
   (hd_Put : PySem.W.hasDictIn K C_Put = true)
   (po_Put : PySem.W.plainOver K C_Put = true)
   (sa_Put : PySem.W.findIn K (.ref C_Put) "__setattr__" = some (some (.builtin "object.__setattr__")))
   (mk_Put : PySem.W.makesIn K C_Put = true)
   (kc_Put : PySem.W.keepIn K (.ref C_Put) = true)
   (n_Put_box : PySem.W.findIn K (.ref C_Put) "box" = some none)
   (n_Put_cell : PySem.W.findIn K (.ref C_Put) "cell" = some none)
   (a49 : PySem.W.findIn K (.ref C_Put) "__init__" = some (some (.ref f49)))
   (i49 : PySem.W.isFn K (.ref f49) = true)
   (l49 : K.lookup f49 = some ⟨oc49, od49, .func (PySem.W.fnOf "__init__" "Reaching.__init__" (defArgs s_Reaching_init) (defBody s_Reaching_init) (defScope s_Reaching_init) .none kV49 dc49 pm49 an49 cd49 ct49), sl49⟩)
   (c49 : PySem.W.codeIn K cd49 "Reaching.__init__" = true) (k49 : PySem.W.keepIn K (.ref f49) = true)
   (a50 : PySem.W.findIn K (.ref C_Put) "told" = some (some (.ref f50)))
   (i50 : PySem.W.isFn K (.ref f50) = true)
   (l50 : K.lookup f50 = some ⟨oc50, od50, .func (PySem.W.fnOf "told" "Put.told" (defArgs s_Put_told) (defBody s_Put_told) (defScope s_Put_told) .none kV50 dc50 pm50 an50 cd50 ct50), sl50⟩)
   (c50 : PySem.W.codeIn K cd50 "Put.told" = true) (k50 : PySem.W.keepIn K (.ref f50) = true)
   (pg_Get : PySem.W.plainGet K C_Get Str.empty = true)
   (hd_Get : PySem.W.hasDictIn K C_Get = true)
   (po_Get : PySem.W.plainOver K C_Get = true)
   (sa_Get : PySem.W.findIn K (.ref C_Get) "__setattr__" = some (some (.builtin "object.__setattr__")))
   (mk_Get : PySem.W.makesIn K C_Get = true)
   (kc_Get : PySem.W.keepIn K (.ref C_Get) = true)
   (n_Get_box : PySem.W.findIn K (.ref C_Get) "box" = some none)
   (n_Get_cell : PySem.W.findIn K (.ref C_Get) "cell" = some none)
   (a51 : PySem.W.findIn K (.ref C_Get) "__init__" = some (some (.ref f51)))
   (i51 : PySem.W.isFn K (.ref f51) = true)
   (l51 : K.lookup f51 = some ⟨oc51, od51, .func (PySem.W.fnOf "__init__" "Reaching.__init__" (defArgs s_Reaching_init) (defBody s_Reaching_init) (defScope s_Reaching_init) .none kV51 dc51 pm51 an51 cd51 ct51), sl51⟩)
   (c51 : PySem.W.codeIn K cd51 "Reaching.__init__" = true) (k51 : PySem.W.keepIn K (.ref f51) = true)
   (a52 : PySem.W.findIn K (.ref C_Get) "told" = some (some (.ref f52)))
   (i52 : PySem.W.isFn K (.ref f52) = true)
   (l52 : K.lookup f52 = some ⟨oc52, od52, .func (PySem.W.fnOf "told" "Get.told" (defArgs s_Get_told) (defBody s_Get_told) (defScope s_Get_told) .none kV52 dc52 pm52 an52 cd52 ct52), sl52⟩)
   (c52 : PySem.W.codeIn K cd52 "Get.told" = true) (k52 : PySem.W.keepIn K (.ref f52) = true)
   (pg_Less : PySem.W.plainGet K C_Less Str.empty = true)
   (hd_Less : PySem.W.hasDictIn K C_Less = true)
   (po_Less : PySem.W.plainOver K C_Less = true)
   (sa_Less : PySem.W.findIn K (.ref C_Less) "__setattr__" = some (some (.builtin "object.__setattr__")))
   (mk_Less : PySem.W.makesIn K C_Less = true)
   (kc_Less : PySem.W.keepIn K (.ref C_Less) = true)
   (n_Less_box : PySem.W.findIn K (.ref C_Less) "box" = some none)
   (n_Less_one : PySem.W.findIn K (.ref C_Less) "one" = some none)
   (n_Less_other : PySem.W.findIn K (.ref C_Less) "other" = some none)
   (a53 : PySem.W.findIn K (.ref C_Less) "__init__" = some (some (.ref f53)))
   (i53 : PySem.W.isFn K (.ref f53) = true)
   (l53 : K.lookup f53 = some ⟨oc53, od53, .func (PySem.W.fnOf "__init__" "Reckoning.__init__" (defArgs s_Reckoning_init) (defBody s_Reckoning_init) (defScope s_Reckoning_init) .none kV53 dc53 pm53 an53 cd53 ct53), sl53⟩)
   (c53 : PySem.W.codeIn K cd53 "Reckoning.__init__" = true) (k53 : PySem.W.keepIn K (.ref f53) = true)
   (a54 : PySem.W.findIn K (.ref C_Less) "told" = some (some (.ref f54)))
   (i54 : PySem.W.isFn K (.ref f54) = true)
   (l54 : K.lookup f54 = some ⟨oc54, od54, .func (PySem.W.fnOf "told" "Less.told" (defArgs s_Less_told) (defBody s_Less_told) (defScope s_Less_told) .none kV54 dc54 pm54 an54 cd54 ct54), sl54⟩)
   (c54 : PySem.W.codeIn K cd54 "Less.told" = true) (k54 : PySem.W.keepIn K (.ref f54) = true)
   (pg_Add : PySem.W.plainGet K C_Add Str.empty = true)
   (hd_Add : PySem.W.hasDictIn K C_Add = true)
   (po_Add : PySem.W.plainOver K C_Add = true)
   (sa_Add : PySem.W.findIn K (.ref C_Add) "__setattr__" = some (some (.builtin "object.__setattr__")))
   (mk_Add : PySem.W.makesIn K C_Add = true)
   (kc_Add : PySem.W.keepIn K (.ref C_Add) = true)
   (n_Add_box : PySem.W.findIn K (.ref C_Add) "box" = some none)
   (n_Add_one : PySem.W.findIn K (.ref C_Add) "one" = some none)
   (n_Add_other : PySem.W.findIn K (.ref C_Add) "other" = some none)
   (a55 : PySem.W.findIn K (.ref C_Add) "__init__" = some (some (.ref f55)))
   (i55 : PySem.W.isFn K (.ref f55) = true)
   (l55 : K.lookup f55 = some ⟨oc55, od55, .func (PySem.W.fnOf "__init__" "Reckoning.__init__" (defArgs s_Reckoning_init) (defBody s_Reckoning_init) (defScope s_Reckoning_init) .none kV55 dc55 pm55 an55 cd55 ct55), sl55⟩)
   (c55 : PySem.W.codeIn K cd55 "Reckoning.__init__" = true) (k55 : PySem.W.keepIn K (.ref f55) = true)
   (a56 : PySem.W.findIn K (.ref C_Add) "told" = some (some (.ref f56)))
   (i56 : PySem.W.isFn K (.ref f56) = true)
   (l56 : K.lookup f56 = some ⟨oc56, od56, .func (PySem.W.fnOf "told" "Add.told" (defArgs s_Add_told) (defBody s_Add_told) (defScope s_Add_told) .none kV56 dc56 pm56 an56 cd56 ct56), sl56⟩)
   (c56 : PySem.W.codeIn K cd56 "Add.told" = true) (k56 : PySem.W.keepIn K (.ref f56) = true)
   (pg_Sub : PySem.W.plainGet K C_Sub Str.empty = true)
   (hd_Sub : PySem.W.hasDictIn K C_Sub = true)
   (po_Sub : PySem.W.plainOver K C_Sub = true)
   (sa_Sub : PySem.W.findIn K (.ref C_Sub) "__setattr__" = some (some (.builtin "object.__setattr__")))
   (mk_Sub : PySem.W.makesIn K C_Sub = true)
   (kc_Sub : PySem.W.keepIn K (.ref C_Sub) = true)
   (n_Sub_box : PySem.W.findIn K (.ref C_Sub) "box" = some none)
   (n_Sub_one : PySem.W.findIn K (.ref C_Sub) "one" = some none)
   (n_Sub_other : PySem.W.findIn K (.ref C_Sub) "other" = some none)
   (a57 : PySem.W.findIn K (.ref C_Sub) "__init__" = some (some (.ref f57)))
   (i57 : PySem.W.isFn K (.ref f57) = true)
   (l57 : K.lookup f57 = some ⟨oc57, od57, .func (PySem.W.fnOf "__init__" "Reckoning.__init__" (defArgs s_Reckoning_init) (defBody s_Reckoning_init) (defScope s_Reckoning_init) .none kV57 dc57 pm57 an57 cd57 ct57), sl57⟩)
   (c57 : PySem.W.codeIn K cd57 "Reckoning.__init__" = true) (k57 : PySem.W.keepIn K (.ref f57) = true)
   (a58 : PySem.W.findIn K (.ref C_Sub) "told" = some (some (.ref f58)))
   (i58 : PySem.W.isFn K (.ref f58) = true)
   (l58 : K.lookup f58 = some ⟨oc58, od58, .func (PySem.W.fnOf "told" "Sub.told" (defArgs s_Sub_told) (defBody s_Sub_told) (defScope s_Sub_told) .none kV58 dc58 pm58 an58 cd58 ct58), sl58⟩)
   (c58 : PySem.W.codeIn K cd58 "Sub.told" = true) (k58 : PySem.W.keepIn K (.ref f58) = true)
   (pg_Mul : PySem.W.plainGet K C_Mul Str.empty = true)
   (hd_Mul : PySem.W.hasDictIn K C_Mul = true)
   (po_Mul : PySem.W.plainOver K C_Mul = true)
   (sa_Mul : PySem.W.findIn K (.ref C_Mul) "__setattr__" = some (some (.builtin "object.__setattr__")))
   (mk_Mul : PySem.W.makesIn K C_Mul = true)
   (kc_Mul : PySem.W.keepIn K (.ref C_Mul) = true)
   (n_Mul_box : PySem.W.findIn K (.ref C_Mul) "box" = some none)
   (n_Mul_one : PySem.W.findIn K (.ref C_Mul) "one" = some none)
   (n_Mul_other : PySem.W.findIn K (.ref C_Mul) "other" = some none)
   (a59 : PySem.W.findIn K (.ref C_Mul) "__init__" = some (some (.ref f59)))
   (i59 : PySem.W.isFn K (.ref f59) = true)
   (l59 : K.lookup f59 = some ⟨oc59, od59, .func (PySem.W.fnOf "__init__" "Reckoning.__init__" (defArgs s_Reckoning_init) (defBody s_Reckoning_init) (defScope s_Reckoning_init) .none kV59 dc59 pm59 an59 cd59 ct59), sl59⟩)
   (c59 : PySem.W.codeIn K cd59 "Reckoning.__init__" = true) (k59 : PySem.W.keepIn K (.ref f59) = true)
   (a60 : PySem.W.findIn K (.ref C_Mul) "told" = some (some (.ref f60)))
   (i60 : PySem.W.isFn K (.ref f60) = true)
   (l60 : K.lookup f60 = some ⟨oc60, od60, .func (PySem.W.fnOf "told" "Mul.told" (defArgs s_Mul_told) (defBody s_Mul_told) (defScope s_Mul_told) .none kV60 dc60 pm60 an60 cd60 ct60), sl60⟩)
   (c60 : PySem.W.codeIn K cd60 "Mul.told" = true) (k60 : PySem.W.keepIn K (.ref f60) = true)
   (ha_Set : PySem.W.findIn K (.ref C_Set) "__class__" = some (some (.builtin "object.__class__"))) (hm_Set : PySem.W.mroIn K C_Set (.type "object") = some true)
   (is_Set_Row : PySem.W.kitOne K (.ref C_Set) (.ref C_Row) = some true)
   (ha_Copy : PySem.W.findIn K (.ref C_Copy) "__class__" = some (some (.builtin "object.__class__"))) (hm_Copy : PySem.W.mroIn K C_Copy (.type "object") = some true)
   (is_Copy_Row : PySem.W.kitOne K (.ref C_Copy) (.ref C_Row) = some true)
   (ha_Add : PySem.W.findIn K (.ref C_Add) "__class__" = some (some (.builtin "object.__class__"))) (hm_Add : PySem.W.mroIn K C_Add (.type "object") = some true)
   (is_Add_Row : PySem.W.kitOne K (.ref C_Add) (.ref C_Row) = some true)
   (ha_Sub : PySem.W.findIn K (.ref C_Sub) "__class__" = some (some (.builtin "object.__class__"))) (hm_Sub : PySem.W.mroIn K C_Sub (.type "object") = some true)
   (is_Sub_Row : PySem.W.kitOne K (.ref C_Sub) (.ref C_Row) = some true)
   (ha_Mul : PySem.W.findIn K (.ref C_Mul) "__class__" = some (some (.builtin "object.__class__"))) (hm_Mul : PySem.W.mroIn K C_Mul (.type "object") = some true)
   (is_Mul_Row : PySem.W.kitOne K (.ref C_Mul) (.ref C_Row) = some true)
   (ha_Less : PySem.W.findIn K (.ref C_Less) "__class__" = some (some (.builtin "object.__class__"))) (hm_Less : PySem.W.mroIn K C_Less (.type "object") = some true)
   (is_Less_Row : PySem.W.kitOne K (.ref C_Less) (.ref C_Row) = some true)
   (ha_Grow : PySem.W.findIn K (.ref C_Grow) "__class__" = some (some (.builtin "object.__class__"))) (hm_Grow : PySem.W.mroIn K C_Grow (.type "object") = some true)
   (is_Grow_Row : PySem.W.kitOne K (.ref C_Grow) (.ref C_Row) = some true)
   (ha_Shrink : PySem.W.findIn K (.ref C_Shrink) "__class__" = some (some (.builtin "object.__class__"))) (hm_Shrink : PySem.W.mroIn K C_Shrink (.type "object") = some true)
   (is_Shrink_Row : PySem.W.kitOne K (.ref C_Shrink) (.ref C_Row) = some true)
   (ha_Put : PySem.W.findIn K (.ref C_Put) "__class__" = some (some (.builtin "object.__class__"))) (hm_Put : PySem.W.mroIn K C_Put (.type "object") = some true)
   (is_Put_Row : PySem.W.kitOne K (.ref C_Put) (.ref C_Row) = some true)
   (ha_Get : PySem.W.findIn K (.ref C_Get) "__class__" = some (some (.builtin "object.__class__"))) (hm_Get : PySem.W.mroIn K C_Get (.type "object") = some true)
   (is_Get_Row : PySem.W.kitOne K (.ref C_Get) (.ref C_Row) = some true)
   (ha_Jump : PySem.W.findIn K (.ref C_Jump) "__class__" = some (some (.builtin "object.__class__"))) (hm_Jump : PySem.W.mroIn K C_Jump (.type "object") = some true)
   (is_Jump_Row : PySem.W.kitOne K (.ref C_Jump) (.ref C_Row) = some true)
   (ha_Branch : PySem.W.findIn K (.ref C_Branch) "__class__" = some (some (.builtin "object.__class__"))) (hm_Branch : PySem.W.mroIn K C_Branch (.type "object") = some true)
   (is_Branch_Row : PySem.W.kitOne K (.ref C_Branch) (.ref C_Row) = some true)
   (ha_Call : PySem.W.findIn K (.ref C_Call) "__class__" = some (some (.builtin "object.__class__"))) (hm_Call : PySem.W.mroIn K C_Call (.type "object") = some true)
   (is_Call_Row : PySem.W.kitOne K (.ref C_Call) (.ref C_Row) = some true)
   (ha_Back : PySem.W.findIn K (.ref C_Back) "__class__" = some (some (.builtin "object.__class__"))) (hm_Back : PySem.W.mroIn K C_Back (.type "object") = some true)
   (is_Back_Row : PySem.W.kitOne K (.ref C_Back) (.ref C_Row) = some true)
   (ha_Drop : PySem.W.findIn K (.ref C_Drop) "__class__" = some (some (.builtin "object.__class__"))) (hm_Drop : PySem.W.mroIn K C_Drop (.type "object") = some true)
   (is_Drop_Row : PySem.W.kitOne K (.ref C_Drop) (.ref C_Row) = some true)
   (ob1 : PySem.W.specialIn K (.builtin "object.__class__") "__get__" = some (some (.builtin "getset_descriptor.__get__"))) (ob2 : PySem.W.takesIn K (.builtin "object.__class__") = some true)
   (k_str_str : PySem.W.kitOne K (.type "str") (.type "str") = some true)
   (k_list_list : PySem.W.kitOne K (.type "list") (.type "list") = some true)
   (a61 : PySem.W.nsIn K mainGlobals "bounded" = some (some (.ref f61)))
   (l61 : K.lookup f61 = some ⟨oc61, od61, .func (PySem.W.fnOf "bounded" "bounded" (defArgs s_bounded) (defBody s_bounded) (defScope s_bounded) .none kV61 dc61 pm61 an61 cd61 ct61), sl61⟩)
   (c61 : PySem.W.codeIn K cd61 "bounded" = true) (k61 : PySem.W.keepIn K (.ref f61) = true)
   (a62 : PySem.W.nsIn K mainGlobals "is_number" = some (some (.ref f62)))
   (l62 : K.lookup f62 = some ⟨oc62, od62, .func (PySem.W.fnOf "is_number" "is_number" (defArgs s_is_number) (defBody s_is_number) (defScope s_is_number) .none kV62 dc62 pm62 an62 cd62 ct62), sl62⟩)
   (c62 : PySem.W.codeIn K cd62 "is_number" = true) (k62 : PySem.W.keepIn K (.ref f62) = true)
   (a63 : PySem.W.nsIn K mainGlobals "read_number" = some (some (.ref f63)))
   (l63 : K.lookup f63 = some ⟨oc63, od63, .func (PySem.W.fnOf "read_number" "read_number" (defArgs s_read_number) (defBody s_read_number) (defScope s_read_number) .none kV63 dc63 pm63 an63 cd63 ct63), sl63⟩)
   (c63 : PySem.W.codeIn K cd63 "read_number" = true) (k63 : PySem.W.keepIn K (.ref f63) = true)
   (a64 : PySem.W.nsIn K mainGlobals "made_of_one" = some (some (.ref f64)))
   (l64 : K.lookup f64 = some ⟨oc64, od64, .func (PySem.W.fnOf "made_of_one" "made_of_one" (defArgs s_made_of_one) (defBody s_made_of_one) (defScope s_made_of_one) .none kV64 dc64 pm64 an64 cd64 ct64), sl64⟩)
   (c64 : PySem.W.codeIn K cd64 "made_of_one" = true) (k64 : PySem.W.keepIn K (.ref f64) = true)
   (a65 : PySem.W.nsIn K mainGlobals "made_of_two" = some (some (.ref f65)))
   (l65 : K.lookup f65 = some ⟨oc65, od65, .func (PySem.W.fnOf "made_of_two" "made_of_two" (defArgs s_made_of_two) (defBody s_made_of_two) (defScope s_made_of_two) .none kV65 dc65 pm65 an65 cd65 ct65), sl65⟩)
   (c65 : PySem.W.codeIn K cd65 "made_of_two" = true) (k65 : PySem.W.keepIn K (.ref f65) = true)
   (a66 : PySem.W.nsIn K mainGlobals "made_of_three" = some (some (.ref f66)))
   (l66 : K.lookup f66 = some ⟨oc66, od66, .func (PySem.W.fnOf "made_of_three" "made_of_three" (defArgs s_made_of_three) (defBody s_made_of_three) (defScope s_made_of_three) .none kV66 dc66 pm66 an66 cd66 ct66), sl66⟩)
   (c66 : PySem.W.codeIn K cd66 "made_of_three" = true) (k66 : PySem.W.keepIn K (.ref f66) = true)
   (a67 : PySem.W.nsIn K mainGlobals "show_row" = some (some (.ref f67)))
   (l67 : K.lookup f67 = some ⟨oc67, od67, .func (PySem.W.fnOf "show_row" "show_row" (defArgs s_show_row) (defBody s_show_row) (defScope s_show_row) .none kV67 dc67 pm67 an67 cd67 ct67), sl67⟩)
   (c67 : PySem.W.codeIn K cd67 "show_row" = true) (k67 : PySem.W.keepIn K (.ref f67) = true)
   (a68 : PySem.W.nsIn K mainGlobals "show_code" = some (some (.ref f68)))
   (l68 : K.lookup f68 = some ⟨oc68, od68, .func (PySem.W.fnOf "show_code" "show_code" (defArgs s_show_code) (defBody s_show_code) (defScope s_show_code) .none kV68 dc68 pm68 an68 cd68 ct68), sl68⟩)
   (c68 : PySem.W.codeIn K cd68 "show_code" = true) (k68 : PySem.W.keepIn K (.ref f68) = true)
   (a69 : PySem.W.nsIn K mainGlobals "asked_for_text" = some (some (.ref f69)))
   (l69 : K.lookup f69 = some ⟨oc69, od69, .func (PySem.W.fnOf "asked_for_text" "asked_for_text" (defArgs s_asked_for_text) (defBody s_asked_for_text) (defScope s_asked_for_text) .none kV69 dc69 pm69 an69 cd69 ct69), sl69⟩)
   (c69 : PySem.W.codeIn K cd69 "asked_for_text" = true) (k69 : PySem.W.keepIn K (.ref f69) = true)
   (a70 : PySem.W.nsIn K mainGlobals "read_row" = some (some (.ref f70)))
   (l70 : K.lookup f70 = some ⟨oc70, od70, .func (PySem.W.fnOf "read_row" "read_row" (defArgs s_read_row) (defBody s_read_row) (defScope s_read_row) .none kV70 dc70 pm70 an70 cd70 ct70), sl70⟩)
   (c70 : PySem.W.codeIn K cd70 "read_row" = true) (k70 : PySem.W.keepIn K (.ref f70) = true)
   (a71 : PySem.W.nsIn K mainGlobals "read_code" = some (some (.ref f71)))
   (l71 : K.lookup f71 = some ⟨oc71, od71, .func (PySem.W.fnOf "read_code" "read_code" (defArgs s_read_code) (defBody s_read_code) (defScope s_read_code) .none kV71 dc71 pm71 an71 cd71 ct71), sl71⟩)
   (c71 : PySem.W.codeIn K cd71 "read_code" = true) (k71 : PySem.W.keepIn K (.ref f71) = true)
   (a72 : PySem.W.nsIn K mainGlobals "_law_cell_at" = some (some (.ref f72)))
   (l72 : K.lookup f72 = some ⟨oc72, od72, .func (PySem.W.fnOf "_law_cell_at" "_law_cell_at" (defArgs s_law_cell_at) (defBody s_law_cell_at) (defScope s_law_cell_at) .none kV72 dc72 pm72 an72 cd72 ct72), sl72⟩)
   (c72 : PySem.W.codeIn K cd72 "_law_cell_at" = true) (k72 : PySem.W.keepIn K (.ref f72) = true)
   (a73 : PySem.W.nsIn K mainGlobals "_law_number" = some (some (.ref f73)))
   (l73 : K.lookup f73 = some ⟨oc73, od73, .func (PySem.W.fnOf "_law_number" "_law_number" (defArgs s_law_number) (defBody s_law_number) (defScope s_law_number) .none kV73 dc73 pm73 an73 cd73 ct73), sl73⟩)
   (c73 : PySem.W.codeIn K cd73 "_law_number" = true) (k73 : PySem.W.keepIn K (.ref f73) = true)
   (a74 : PySem.W.nsIn K mainGlobals "_law_filling" = some (some (.ref f74)))
   (l74 : K.lookup f74 = some ⟨oc74, od74, .func (PySem.W.fnOf "_law_filling" "_law_filling" (defArgs s_law_filling) (defBody s_law_filling) (defScope s_law_filling) .none kV74 dc74 pm74 an74 cd74 ct74), sl74⟩)
   (c74 : PySem.W.codeIn K cd74 "_law_filling" = true) (k74 : PySem.W.keepIn K (.ref f74) = true)
   (a75 : PySem.W.nsIn K mainGlobals "_law_moving" = some (some (.ref f75)))
   (l75 : K.lookup f75 = some ⟨oc75, od75, .func (PySem.W.fnOf "_law_moving" "_law_moving" (defArgs s_law_moving) (defBody s_law_moving) (defScope s_law_moving) .none kV75 dc75 pm75 an75 cd75 ct75), sl75⟩)
   (c75 : PySem.W.codeIn K cd75 "_law_moving" = true) (k75 : PySem.W.keepIn K (.ref f75) = true)
   (a76 : PySem.W.nsIn K mainGlobals "_law_row" = some (some (.ref f76)))
   (l76 : K.lookup f76 = some ⟨oc76, od76, .func (PySem.W.fnOf "_law_row" "_law_row" (defArgs s_law_row) (defBody s_law_row) (defScope s_law_row) .none kV76 dc76 pm76 an76 cd76 ct76), sl76⟩)
   (c76 : PySem.W.codeIn K cd76 "_law_row" = true) (k76 : PySem.W.keepIn K (.ref f76) = true)
   (a77 : PySem.W.nsIn K mainGlobals "_law_text" = some (some (.ref f77)))
   (l77 : K.lookup f77 = some ⟨oc77, od77, .func (PySem.W.fnOf "_law_text" "_law_text" (defArgs s_law_text) (defBody s_law_text) (defScope s_law_text) .none kV77 dc77 pm77 an77 cd77 ct77), sl77⟩)
   (c77 : PySem.W.codeIn K cd77 "_law_text" = true) (k77 : PySem.W.keepIn K (.ref f77) = true)
   (a78 : PySem.W.nsIn K mainGlobals "law" = some (some (.ref f78)))
   (l78 : K.lookup f78 = some ⟨oc78, od78, .func (PySem.W.fnOf "law" "law" (defArgs s_law) (defBody s_law) (defScope s_law) .none kV78 dc78 pm78 an78 cd78 ct78), sl78⟩)
   (c78 : PySem.W.codeIn K cd78 "law" = true) (k78 : PySem.W.keepIn K (.ref f78) = true) :
   ∃ (a : Adr) (fd : FuncData), Txt w K mg a ∧ Fun K "law" "law" s_law fa fd ∧ ∀ (s : Shared) (v : Value), BindsTo s fd ⟨[v], []⟩ [("_law_script", v)] := by
 have e := hfa.symm.trans (PySem.W.mg_of X G a78)
 cases e
 refine ⟨⟨C_Row, C_Set, C_Copy, C_Add, C_Sub, C_Mul, C_Less, C_Grow, C_Shrink, C_Put, C_Get, C_Jump, C_Branch, C_Call, C_Back, C_Drop, 0, 0, 0, C_NoRow, 0, C_NoText, 0, 0, 0, 0, 0, 0, 0, 0, 0, G_COUNTS, 0, 0, 0, 0⟩, _, ?_, fun_mk (st := s_law) l78 c78 k78, fun s v => .of_eq rfl⟩
 exact {
   z_all := PySem.W.mg_none_of X G z_all
   z_int := PySem.W.mg_none_of X G z_int
   z_isinstance := PySem.W.mg_none_of X G z_isinstance
   z_len := PySem.W.mg_none_of X G z_len
   z_list := PySem.W.mg_none_of X G z_list
   z_range := PySem.W.mg_none_of X G z_range
   z_str := PySem.W.mg_none_of X G z_str
   s_COUNTS := PySem.W.mg_of X G g_COUNTS
   d_COUNTS := ⟨y_COUNTS, by decide +kernel, [("set", 2, tk1, tk2), ("copy", 2, tk3, tk4), ("add", 3, tk5, tk6), ("sub", 3, tk7, tk8), ("mul", 3, tk9, tk10), ("less", 3, tk11, tk12), ("grow", 1, tk13, tk14), ("shrink", 1, tk15, tk16), ("put", 2, tk17, tk18), ("get", 2, tk19, tk20), ("jump", 1, tk21, tk22), ("branch", 2, tk23, tk24), ("call", 1, tk25, tk26), ("back", 1, tk27, tk28), ("drop", 1, tk29, tk30)], ep_COUNTS, rfl, l_COUNTS⟩
   g_FIGURES := ⟨_, PySem.W.mg_of X G g_FIGURES⟩
   g_MOST_FIGURES := ⟨_, PySem.W.mg_of X G g_MOST_FIGURES⟩
   g_TOP_BOX := ⟨_, PySem.W.mg_of X G g_TOP_BOX⟩
   g_TOP_CELLS := ⟨_, PySem.W.mg_of X G g_TOP_CELLS⟩
   g_TOP_ROWS := ⟨_, PySem.W.mg_of X G g_TOP_ROWS⟩
   g_TOP_TARGET := ⟨_, PySem.W.mg_of X G g_TOP_TARGET⟩
   g_TOP_VALUE := ⟨_, PySem.W.mg_of X G g_TOP_VALUE⟩
   c_Add := PySem.W.mg_of X G c_Add
   c_Back := PySem.W.mg_of X G c_Back
   c_Branch := PySem.W.mg_of X G c_Branch
   c_Call := PySem.W.mg_of X G c_Call
   c_Copy := PySem.W.mg_of X G c_Copy
   c_Drop := PySem.W.mg_of X G c_Drop
   c_Get := PySem.W.mg_of X G c_Get
   c_Grow := PySem.W.mg_of X G c_Grow
   c_Jump := PySem.W.mg_of X G c_Jump
   c_Less := PySem.W.mg_of X G c_Less
   c_Mul := PySem.W.mg_of X G c_Mul
   c_NoRow := PySem.W.mg_of X G c_NoRow
   c_NoText := PySem.W.mg_of X G c_NoText
   c_Put := PySem.W.mg_of X G c_Put
   c_Row := PySem.W.mg_of X G c_Row
   c_Set := PySem.W.mg_of X G c_Set
   c_Shrink := PySem.W.mg_of X G c_Shrink
   c_Sub := PySem.W.mg_of X G c_Sub
   cl_Drop := ⟨pg_Drop, hd_Drop, po_Drop, sa_Drop⟩
   n_Drop_box := n_Drop_box
   i_Drop := ⟨_, _, fun_mk (st := s_Drop_init) l31 c31 k31, ⟨mk_Drop, a31, i31, kc_Drop⟩, (fun_mk (st := s_Drop_init) l31 c31 k31).binds (ps := ["self", "box"]) fun _ _ _ _ _ _ us hl => match us, hl with | [_, _], _ => rfl⟩
   m_Drop_told := ⟨_, _, fun_mk (st := s_Drop_told) l32 c32 k32, ⟨a32, i32, k32⟩, (fun_mk (st := s_Drop_told) l32 c32 k32).binds (ps := ["self"]) fun _ _ _ _ _ _ us hl => match us, hl with | [_], _ => rfl⟩
   cl_Grow := ⟨pg_Grow, hd_Grow, po_Grow, sa_Grow⟩
   n_Grow_many := n_Grow_many
   i_Grow := ⟨_, _, fun_mk (st := s_Grow_init) l33 c33 k33, ⟨mk_Grow, a33, i33, kc_Grow⟩, (fun_mk (st := s_Grow_init) l33 c33 k33).binds (ps := ["self", "many"]) fun _ _ _ _ _ _ us hl => match us, hl with | [_, _], _ => rfl⟩
   m_Grow_told := ⟨_, _, fun_mk (st := s_Grow_told) l34 c34 k34, ⟨a34, i34, k34⟩, (fun_mk (st := s_Grow_told) l34 c34 k34).binds (ps := ["self"]) fun _ _ _ _ _ _ us hl => match us, hl with | [_], _ => rfl⟩
   cl_Shrink := ⟨pg_Shrink, hd_Shrink, po_Shrink, sa_Shrink⟩
   n_Shrink_many := n_Shrink_many
   i_Shrink := ⟨_, _, fun_mk (st := s_Shrink_init) l35 c35 k35, ⟨mk_Shrink, a35, i35, kc_Shrink⟩, (fun_mk (st := s_Shrink_init) l35 c35 k35).binds (ps := ["self", "many"]) fun _ _ _ _ _ _ us hl => match us, hl with | [_, _], _ => rfl⟩
   m_Shrink_told := ⟨_, _, fun_mk (st := s_Shrink_told) l36 c36 k36, ⟨a36, i36, k36⟩, (fun_mk (st := s_Shrink_told) l36 c36 k36).binds (ps := ["self"]) fun _ _ _ _ _ _ us hl => match us, hl with | [_], _ => rfl⟩
   cl_Jump := ⟨pg_Jump, hd_Jump, po_Jump, sa_Jump⟩
   n_Jump_target := n_Jump_target
   i_Jump := ⟨_, _, fun_mk (st := s_Jump_init) l37 c37 k37, ⟨mk_Jump, a37, i37, kc_Jump⟩, (fun_mk (st := s_Jump_init) l37 c37 k37).binds (ps := ["self", "target"]) fun _ _ _ _ _ _ us hl => match us, hl with | [_, _], _ => rfl⟩
   m_Jump_told := ⟨_, _, fun_mk (st := s_Jump_told) l38 c38 k38, ⟨a38, i38, k38⟩, (fun_mk (st := s_Jump_told) l38 c38 k38).binds (ps := ["self"]) fun _ _ _ _ _ _ us hl => match us, hl with | [_], _ => rfl⟩
   cl_Call := ⟨pg_Call, hd_Call, po_Call, sa_Call⟩
   n_Call_target := n_Call_target
   i_Call := ⟨_, _, fun_mk (st := s_Call_init) l39 c39 k39, ⟨mk_Call, a39, i39, kc_Call⟩, (fun_mk (st := s_Call_init) l39 c39 k39).binds (ps := ["self", "target"]) fun _ _ _ _ _ _ us hl => match us, hl with | [_, _], _ => rfl⟩
   m_Call_told := ⟨_, _, fun_mk (st := s_Call_told) l40 c40 k40, ⟨a40, i40, k40⟩, (fun_mk (st := s_Call_told) l40 c40 k40).binds (ps := ["self"]) fun _ _ _ _ _ _ us hl => match us, hl with | [_], _ => rfl⟩
   cl_Back := ⟨pg_Back, hd_Back, po_Back, sa_Back⟩
   n_Back_box := n_Back_box
   i_Back := ⟨_, _, fun_mk (st := s_Back_init) l41 c41 k41, ⟨mk_Back, a41, i41, kc_Back⟩, (fun_mk (st := s_Back_init) l41 c41 k41).binds (ps := ["self", "box"]) fun _ _ _ _ _ _ us hl => match us, hl with | [_, _], _ => rfl⟩
   m_Back_told := ⟨_, _, fun_mk (st := s_Back_told) l42 c42 k42, ⟨a42, i42, k42⟩, (fun_mk (st := s_Back_told) l42 c42 k42).binds (ps := ["self"]) fun _ _ _ _ _ _ us hl => match us, hl with | [_], _ => rfl⟩
   cl_Branch := ⟨pg_Branch, hd_Branch, po_Branch, sa_Branch⟩
   n_Branch_box := n_Branch_box
   n_Branch_target := n_Branch_target
   i_Branch := ⟨_, _, fun_mk (st := s_Branch_init) l43 c43 k43, ⟨mk_Branch, a43, i43, kc_Branch⟩, (fun_mk (st := s_Branch_init) l43 c43 k43).binds (ps := ["self", "box", "target"]) fun _ _ _ _ _ _ us hl => match us, hl with | [_, _, _], _ => rfl⟩
   m_Branch_told := ⟨_, _, fun_mk (st := s_Branch_told) l44 c44 k44, ⟨a44, i44, k44⟩, (fun_mk (st := s_Branch_told) l44 c44 k44).binds (ps := ["self"]) fun _ _ _ _ _ _ us hl => match us, hl with | [_], _ => rfl⟩
   cl_Set := ⟨pg_Set, hd_Set, po_Set, sa_Set⟩
   n_Set_box := n_Set_box
   n_Set_number := n_Set_number
   i_Set := ⟨_, _, fun_mk (st := s_Set_init) l45 c45 k45, ⟨mk_Set, a45, i45, kc_Set⟩, (fun_mk (st := s_Set_init) l45 c45 k45).binds (ps := ["self", "box", "number"]) fun _ _ _ _ _ _ us hl => match us, hl with | [_, _, _], _ => rfl⟩
   m_Set_told := ⟨_, _, fun_mk (st := s_Set_told) l46 c46 k46, ⟨a46, i46, k46⟩, (fun_mk (st := s_Set_told) l46 c46 k46).binds (ps := ["self"]) fun _ _ _ _ _ _ us hl => match us, hl with | [_], _ => rfl⟩
   cl_Copy := ⟨pg_Copy, hd_Copy, po_Copy, sa_Copy⟩
   n_Copy_box := n_Copy_box
   n_Copy_one := n_Copy_one
   i_Copy := ⟨_, _, fun_mk (st := s_Copy_init) l47 c47 k47, ⟨mk_Copy, a47, i47, kc_Copy⟩, (fun_mk (st := s_Copy_init) l47 c47 k47).binds (ps := ["self", "box", "one"]) fun _ _ _ _ _ _ us hl => match us, hl with | [_, _, _], _ => rfl⟩
   m_Copy_told := ⟨_, _, fun_mk (st := s_Copy_told) l48 c48 k48, ⟨a48, i48, k48⟩, (fun_mk (st := s_Copy_told) l48 c48 k48).binds (ps := ["self"]) fun _ _ _ _ _ _ us hl => match us, hl with | [_], _ => rfl⟩
   cl_Put := ⟨pg_Put, hd_Put, po_Put, sa_Put⟩
   n_Put_box := n_Put_box
   n_Put_cell := n_Put_cell
   i_Put := ⟨_, _, fun_mk (st := s_Reaching_init) l49 c49 k49, ⟨mk_Put, a49, i49, kc_Put⟩, (fun_mk (st := s_Reaching_init) l49 c49 k49).binds (ps := ["self", "box", "cell"]) fun _ _ _ _ _ _ us hl => match us, hl with | [_, _, _], _ => rfl⟩
   m_Put_told := ⟨_, _, fun_mk (st := s_Put_told) l50 c50 k50, ⟨a50, i50, k50⟩, (fun_mk (st := s_Put_told) l50 c50 k50).binds (ps := ["self"]) fun _ _ _ _ _ _ us hl => match us, hl with | [_], _ => rfl⟩
   cl_Get := ⟨pg_Get, hd_Get, po_Get, sa_Get⟩
   n_Get_box := n_Get_box
   n_Get_cell := n_Get_cell
   i_Get := ⟨_, _, fun_mk (st := s_Reaching_init) l51 c51 k51, ⟨mk_Get, a51, i51, kc_Get⟩, (fun_mk (st := s_Reaching_init) l51 c51 k51).binds (ps := ["self", "box", "cell"]) fun _ _ _ _ _ _ us hl => match us, hl with | [_, _, _], _ => rfl⟩
   m_Get_told := ⟨_, _, fun_mk (st := s_Get_told) l52 c52 k52, ⟨a52, i52, k52⟩, (fun_mk (st := s_Get_told) l52 c52 k52).binds (ps := ["self"]) fun _ _ _ _ _ _ us hl => match us, hl with | [_], _ => rfl⟩
   cl_Less := ⟨pg_Less, hd_Less, po_Less, sa_Less⟩
   n_Less_box := n_Less_box
   n_Less_one := n_Less_one
   n_Less_other := n_Less_other
   i_Less := ⟨_, _, fun_mk (st := s_Reckoning_init) l53 c53 k53, ⟨mk_Less, a53, i53, kc_Less⟩, (fun_mk (st := s_Reckoning_init) l53 c53 k53).binds (ps := ["self", "box", "one", "other"]) fun _ _ _ _ _ _ us hl => match us, hl with | [_, _, _, _], _ => rfl⟩
   m_Less_told := ⟨_, _, fun_mk (st := s_Less_told) l54 c54 k54, ⟨a54, i54, k54⟩, (fun_mk (st := s_Less_told) l54 c54 k54).binds (ps := ["self"]) fun _ _ _ _ _ _ us hl => match us, hl with | [_], _ => rfl⟩
   cl_Add := ⟨pg_Add, hd_Add, po_Add, sa_Add⟩
   n_Add_box := n_Add_box
   n_Add_one := n_Add_one
   n_Add_other := n_Add_other
   i_Add := ⟨_, _, fun_mk (st := s_Reckoning_init) l55 c55 k55, ⟨mk_Add, a55, i55, kc_Add⟩, (fun_mk (st := s_Reckoning_init) l55 c55 k55).binds (ps := ["self", "box", "one", "other"]) fun _ _ _ _ _ _ us hl => match us, hl with | [_, _, _, _], _ => rfl⟩
   m_Add_told := ⟨_, _, fun_mk (st := s_Add_told) l56 c56 k56, ⟨a56, i56, k56⟩, (fun_mk (st := s_Add_told) l56 c56 k56).binds (ps := ["self"]) fun _ _ _ _ _ _ us hl => match us, hl with | [_], _ => rfl⟩
   cl_Sub := ⟨pg_Sub, hd_Sub, po_Sub, sa_Sub⟩
   n_Sub_box := n_Sub_box
   n_Sub_one := n_Sub_one
   n_Sub_other := n_Sub_other
   i_Sub := ⟨_, _, fun_mk (st := s_Reckoning_init) l57 c57 k57, ⟨mk_Sub, a57, i57, kc_Sub⟩, (fun_mk (st := s_Reckoning_init) l57 c57 k57).binds (ps := ["self", "box", "one", "other"]) fun _ _ _ _ _ _ us hl => match us, hl with | [_, _, _, _], _ => rfl⟩
   m_Sub_told := ⟨_, _, fun_mk (st := s_Sub_told) l58 c58 k58, ⟨a58, i58, k58⟩, (fun_mk (st := s_Sub_told) l58 c58 k58).binds (ps := ["self"]) fun _ _ _ _ _ _ us hl => match us, hl with | [_], _ => rfl⟩
   cl_Mul := ⟨pg_Mul, hd_Mul, po_Mul, sa_Mul⟩
   n_Mul_box := n_Mul_box
   n_Mul_one := n_Mul_one
   n_Mul_other := n_Mul_other
   i_Mul := ⟨_, _, fun_mk (st := s_Reckoning_init) l59 c59 k59, ⟨mk_Mul, a59, i59, kc_Mul⟩, (fun_mk (st := s_Reckoning_init) l59 c59 k59).binds (ps := ["self", "box", "one", "other"]) fun _ _ _ _ _ _ us hl => match us, hl with | [_, _, _, _], _ => rfl⟩
   m_Mul_told := ⟨_, _, fun_mk (st := s_Mul_told) l60 c60 k60, ⟨a60, i60, k60⟩, (fun_mk (st := s_Mul_told) l60 c60 k60).binds (ps := ["self"]) fun _ _ _ _ _ _ us hl => match us, hl with | [_], _ => rfl⟩
   ty_Set := ⟨ha_Set, hm_Set⟩
   is_Set_Row := is_Set_Row
   ty_Copy := ⟨ha_Copy, hm_Copy⟩
   is_Copy_Row := is_Copy_Row
   ty_Add := ⟨ha_Add, hm_Add⟩
   is_Add_Row := is_Add_Row
   ty_Sub := ⟨ha_Sub, hm_Sub⟩
   is_Sub_Row := is_Sub_Row
   ty_Mul := ⟨ha_Mul, hm_Mul⟩
   is_Mul_Row := is_Mul_Row
   ty_Less := ⟨ha_Less, hm_Less⟩
   is_Less_Row := is_Less_Row
   ty_Grow := ⟨ha_Grow, hm_Grow⟩
   is_Grow_Row := is_Grow_Row
   ty_Shrink := ⟨ha_Shrink, hm_Shrink⟩
   is_Shrink_Row := is_Shrink_Row
   ty_Put := ⟨ha_Put, hm_Put⟩
   is_Put_Row := is_Put_Row
   ty_Get := ⟨ha_Get, hm_Get⟩
   is_Get_Row := is_Get_Row
   ty_Jump := ⟨ha_Jump, hm_Jump⟩
   is_Jump_Row := is_Jump_Row
   ty_Branch := ⟨ha_Branch, hm_Branch⟩
   is_Branch_Row := is_Branch_Row
   ty_Call := ⟨ha_Call, hm_Call⟩
   is_Call_Row := is_Call_Row
   ty_Back := ⟨ha_Back, hm_Back⟩
   is_Back_Row := is_Back_Row
   ty_Drop := ⟨ha_Drop, hm_Drop⟩
   is_Drop_Row := is_Drop_Row
   ob1 := ob1
   ob2 := ob2
   k_str_str := k_str_str
   k_list_list := k_list_list
   fn_bounded := ⟨_, _, fun_mk (st := s_bounded) l61 c61 k61, PySem.W.mg_of X G a61, (fun_mk (st := s_bounded) l61 c61 k61).binds (ps := ["number", "top"]) fun _ _ _ _ _ _ us hl => match us, hl with | [_, _], _ => rfl⟩
   fn_is_number := ⟨_, _, fun_mk (st := s_is_number) l62 c62 k62, PySem.W.mg_of X G a62, (fun_mk (st := s_is_number) l62 c62 k62).binds (ps := ["word"]) fun _ _ _ _ _ _ us hl => match us, hl with | [_], _ => rfl⟩
   fn_read_number := ⟨_, _, fun_mk (st := s_read_number) l63 c63 k63, PySem.W.mg_of X G a63, (fun_mk (st := s_read_number) l63 c63 k63).binds (ps := ["word"]) fun _ _ _ _ _ _ us hl => match us, hl with | [_], _ => rfl⟩
   fn_made_of_one := ⟨_, _, fun_mk (st := s_made_of_one) l64 c64 k64, PySem.W.mg_of X G a64, (fun_mk (st := s_made_of_one) l64 c64 k64).binds (ps := ["word", "number"]) fun _ _ _ _ _ _ us hl => match us, hl with | [_, _], _ => rfl⟩
   fn_made_of_two := ⟨_, _, fun_mk (st := s_made_of_two) l65 c65 k65, PySem.W.mg_of X G a65, (fun_mk (st := s_made_of_two) l65 c65 k65).binds (ps := ["word", "first", "second"]) fun _ _ _ _ _ _ us hl => match us, hl with | [_, _, _], _ => rfl⟩
   fn_made_of_three := ⟨_, _, fun_mk (st := s_made_of_three) l66 c66 k66, PySem.W.mg_of X G a66, (fun_mk (st := s_made_of_three) l66 c66 k66).binds (ps := ["word", "first", "second", "third"]) fun _ _ _ _ _ _ us hl => match us, hl with | [_, _, _, _], _ => rfl⟩
   fn_show_row := ⟨_, _, fun_mk (st := s_show_row) l67 c67 k67, PySem.W.mg_of X G a67, (fun_mk (st := s_show_row) l67 c67 k67).binds (ps := ["row"]) fun _ _ _ _ _ _ us hl => match us, hl with | [_], _ => rfl⟩
   fn_show_code := ⟨_, _, fun_mk (st := s_show_code) l68 c68 k68, PySem.W.mg_of X G a68, (fun_mk (st := s_show_code) l68 c68 k68).binds (ps := ["code"]) fun _ _ _ _ _ _ us hl => match us, hl with | [_], _ => rfl⟩
   fn_asked_for_text := ⟨_, _, fun_mk (st := s_asked_for_text) l69 c69 k69, PySem.W.mg_of X G a69, (fun_mk (st := s_asked_for_text) l69 c69 k69).binds (ps := ["text"]) fun _ _ _ _ _ _ us hl => match us, hl with | [_], _ => rfl⟩
   fn_read_row := ⟨_, _, fun_mk (st := s_read_row) l70 c70 k70, PySem.W.mg_of X G a70, (fun_mk (st := s_read_row) l70 c70 k70).binds (ps := ["text"]) fun _ _ _ _ _ _ us hl => match us, hl with | [_], _ => rfl⟩
   fn_read_code := ⟨_, _, fun_mk (st := s_read_code) l71 c71 k71, PySem.W.mg_of X G a71, (fun_mk (st := s_read_code) l71 c71 k71).binds (ps := ["text"]) fun _ _ _ _ _ _ us hl => match us, hl with | [_], _ => rfl⟩
   fn_law_cell_at := ⟨_, _, fun_mk (st := s_law_cell_at) l72 c72 k72, PySem.W.mg_of X G a72, (fun_mk (st := s_law_cell_at) l72 c72 k72).binds (ps := ["_law_script", "_law_k"]) fun _ _ _ _ _ _ us hl => match us, hl with | [_, _], _ => rfl⟩
   fn_law_number := ⟨_, _, fun_mk (st := s_law_number) l73 c73 k73, PySem.W.mg_of X G a73, (fun_mk (st := s_law_number) l73 c73 k73).binds (ps := ["_law_cell", "_law_most"]) fun _ _ _ _ _ _ us hl => match us, hl with | [_, _], _ => rfl⟩
   fn_law_filling := ⟨_, _, fun_mk (st := s_law_filling) l74 c74 k74, PySem.W.mg_of X G a74, (fun_mk (st := s_law_filling) l74 c74 k74).binds (ps := ["_law_kind", "_law_cell"]) fun _ _ _ _ _ _ us hl => match us, hl with | [_, _], _ => rfl⟩
   fn_law_moving := ⟨_, _, fun_mk (st := s_law_moving) l75 c75 k75, PySem.W.mg_of X G a75, (fun_mk (st := s_law_moving) l75 c75 k75).binds (ps := ["_law_kind", "_law_cell"]) fun _ _ _ _ _ _ us hl => match us, hl with | [_, _], _ => rfl⟩
   fn_law_row := ⟨_, _, fun_mk (st := s_law_row) l76 c76 k76, PySem.W.mg_of X G a76, (fun_mk (st := s_law_row) l76 c76 k76).binds (ps := ["_law_cell"]) fun _ _ _ _ _ _ us hl => match us, hl with | [_], _ => rfl⟩
   fn_law_text := ⟨_, _, fun_mk (st := s_law_text) l77 c77 k77, PySem.W.mg_of X G a77, (fun_mk (st := s_law_text) l77 c77 k77).binds (ps := ["_law_told"]) fun _ _ _ _ _ _ us hl => match us, hl with | [_], _ => rfl⟩
   fn_law := ⟨_, _, fun_mk (st := s_law) l78 c78 k78, PySem.W.mg_of X G a78, (fun_mk (st := s_law) l78 c78 k78).binds (ps := ["_law_script"]) fun _ _ _ _ _ _ us hl => match us, hl with | [_], _ => rfl⟩ }
theorem walk {l : PySem.W.OpenLaw} {q : Program} {loose : List Str} {XP : (Str → Option Value) → Heap → Prop} {YP : World → Heap → Prop} {d : DefRec} {K : Params → PySem.W.Frag} (hn : l.most = some 63) (hdf : d.params.defaults = [])
   (hY : ∀ (w : World) (h : Heap), YP w h → (K w.params).In h)
   (F : ∀ (w : World) (mg : Str → Option Value) (fa : Addr) (h : Heap), (K w.params).In h → h.Ns mainGlobals mg → mg d.name = some (.ref fa) →
     ∃ fd : FuncData, (∀ (s : Shared) (u : Value), BindsTo s fd ⟨[u], []⟩ [("_law_script", u)]) ∧ ∀ base : Heap, (K w.params).In base → base.Ns mainGlobals mg → FnOk l.prog w (K w.params) mg base CX0 7 fa fd ["_law_script"] (spLaw (K w.params))) :
   PySem.W.WalkO q loose XP YP l.row.toRowW d [] (fun f vs => PySem.call f vs) :=
 L2.walk_of (n := 63) (k := 7) (x := "_law_script") (CX := fun _ => CX0) (sp := fun w => spLaw (K w.params)) hn (by decide) hdf ⟨rfl, by decide, by decide, rfl⟩ hY F (fun _ _ a ns hl _ hS => ⟨a, ns, rfl, hS, hl, fun _ => rfl⟩) fun _ _ _ _ _ z => z
end FB
namespace PySem.W.Fast
def tw5587629633379902777:=0
def tw16150041125455899601:=0
def tw10712834640793081543:=0
def tw11494332642108109488:=0
def tw10501058982954548727:=0
def tw480805825945143469:=0
def tw16487210935993095634:=0
def tw16511574200596466011:=0
def tw11741283936486124714:=0
def tw16181675217662883689:=0
def tw9782843095505594717:=0
def tw264670104412996292:=0
def tw13315124179948899622:=0
def tw12350178519957320317:=0
def tw526268326235783471:=0
def tw13170628729679059938:=0
def tw15489028291148623077:=0
def tw14401074410122040885:=0
def tw6211053120827725065:=0
def tw4293278729314502534:=0
def tw8286908578063330839:=0
def tw7307754493907338785:=0
def tw8046548816495178732:=0
def tw8180823673102583629:=0
def tw16552605335630534724:=0
def tw17630323383854848604:=0
def tw4682098404088157018:=0
def tw3395498978423734780:=0
def tw11048651375765088945:=0
def tw4973964061420439658:=0
def tw4597057041801213580:=0
def tw1735475052662980075:=0
def tw8019291086468901327:=0
def tw4771468961272758788:=0
def tw11287124128230799958:=0
def tw15621417704443146985:=0
def tw4909543805243421111:=0
def tw17108243976449095628:=0
def tw5647947289464750985:=0
def tw13893404234460314244:=0
def tw8316414510639508303:=0
def tw2301678299870605275:=0
def tw14375987284211588331:=0
def tw8596373056493677740:=0
def tw6872936270755655806:=0
def tw5543608919125536993:=0
def tw17121552232610222046:=0
def tw2685950537771985926:=0
def tw15277472361020581129:=0
def tw11917552365913917569:=0
def tw7932190333783912369:=0
def tw12607158119890140221:=0
def tw16919094702739729745:=0
def tw4059991489150753156:=0
def tw5691308699099857908:=0
def tw4127472526080586577:=0
def tw2586695094268463884:=0
def tw17894393453139313995:=0
def tw15088386976972077455:=0
def tw14780284404937283996:=0
def tw16966209406372601592:=0
def tw15612362765358760511:=0
def tw15752025856782604892:=0
def tw11923170914925696257:=0
def tw18440093950207259725:=0
def tw11156633867677457946:=0
def tw7131453948591112063:=0
def tw9654694877570850744:=0
def tw5211978671581581235:=0
def tw10857714011964787892:=0
def tw2885250292688591202:=0
def tw4804352251298905256:=0
def tw749327626518774438:=0
def tw7579018487932726363:=0
def tw8328421047852300026:=0
def tw6699406643115366327:=0
def tw3568674774283001810:=0
def tw9698305296123608638:=0
def tw8253068999973939338:=0
def tw153809197818763328:=0
def tw7602216176963193609:=0
def tw6058676847210440434:=0
def tw1116163781494083824:=0
def tw4487627550660283419:=0
def tw1244197730447376631:=0
def tw9963992707145443067:=0
def tw1795371999487933600:=0
def tw11248887020681884112:=0
def tw6368168239036057309:=0
def tw6892834497623448867:=0
def tw15870774884096397712:=0
def tw1680637923361262637:=0
def tw11169895902094629274:=0
def tw10445914576208582350:=0
def tw7141314749057859663:=0
def tw11490283578476511183:=0
def tw6311468594520330338:=0
def tw14686737819259563737:=0
def tw8721233956989806494:=0
def tw13703669499591129370:=0
def tw3812828793158707217:=0
def tw17444805397016252370:=0
def tw1234612149015358657:=0
def tw9142037460087723184:=0
def tw17818247212857541372:=0
def tw1398398049144782256:=0
def tw4234909252021669806:=0
def tw9598678415594087286:=0
def tw10170262410614260975:=0
def tw2900465519581911415:=0
def tw6491778070372590639:=0
def tw18359657256978486914:=0
def tw8278166061337029141:=0
def tw17839703228807054380:=0
def tw5277849544958448601:=0
def tw14586201940692866856:=0
def tw3476262695646306582:=0
def tw13532985672216389210:=0
def tw2452061351533628731:=0
def tw8033399278849267235:=0
def tw12071383726494295842:=0
def tw17420614525087419828:=0
def tw9630015266693982714:=0
def tw5917289694057261158:=0
def tw5154420309091665715:=0
def tw8967134327156451756:=0
def tw10082221479187965203:=0
def tw6865351793064604485:=0
def tw13519120156516088195:=0
def tw6737346475532508560:=0
def tw15497311388915887166:=0
def tw10296779918770133094:=0
def tw6721704316672245545:=0
def tw3891321089531711753:=0
def tw12464220687695748847:=0
def tw15775130558427555605:=0
def tw5186972623102299710:=0
def tw6456753211150844311:=0
def tw8061022325587343070:=0
def tw1954976663696978959:=0
def tw9959946864709288448:=0
def tw15887148603188050468:=0
def tw12759123112439012228:=0
def tw14567239723047721819:=0
def tw15366908071282779997:=0
def tw6964882344654171622:=0
def tw8943110340798012150:=0
def tw3241192094827967493:=0
def tw6711778548989509245:=0
def tw11763063335196333805:=0
def tw16529131055272867355:=0
def tw5543643291447903396:=0
def tw2104105272835985779:=0
def tw3928472229409244423:=0
def tw16418813329082221405:=0
def tw4044744583515852135:=0
def tw9148006707816204239:=0
def tw12234943255088004737:=0
def tw92453801201645636:=0
def tw12071785859495255946:=0
def tw14017139543968052976:=0
def tw14822752423738965412:=0
def tw1107997788767836267:=0
def tw9318863625552417103:=0
def tw2084440648108994756:=0
def tw7833294751903117383:=0
def tw14072819874893128323:=0
def tw16180271991607245395:=0
def tw3458458364033273380:=0
def tw1892505586471301367:=0
def tw10150721184889190918:=0
def tw16787988720490337171:=0
def tw9132965008973461245:=0
def tw9424380409694232069:=0
def tw11595170808315517529:=0
def tw6872743023730834083:=0
def tw17320111664696331757:=0
def tw9811933407109571814:=0
def tw18332934220742289837:=0
def tw15462385942863115350:=0
def tw9593669201527309636:=0
def tw5266894708741102510:=0
def tw17104339941121534474:=0
def tw4417913790799839501:=0
def tw12720744890741826153:=0
def tw14321185891924396048:=0
def tw1037455459640819242:=0
def tw15995819711224443861:=0
def tw13639809488002703626:=0
def tw7142858026668123254:=0
def tw2064510632345253456:=0
def tw7557647104610777829:=0
def tw7356236923524832153:=0
def tw18190412751781517535:=0
def tw5457639773517018216:=0
def tw9651744404466161234:=0
def tw16136317267087464845:=0
def tw9175778195038552452:=0
def tw1447804753467176526:=0
def tw1995881368544300530:=0
def tw11699596284527079451:=0
def tw5481245384620784547:=0
def tw1858900473758772405:=0
def tw9306320567669752435:=0
def tw4972624177951994206:=0
def tw16504841068294029129:=0
def tw2322411671313816208:=0
def tw4868016581096931287:=0
def tw17476484265444349311:=0
def tw7183162783306437393:=0
def tw5487490920264737117:=0
def tw15923766001371919500:=0
def tw13889734100456072868:=0
def tw4834235369717500324:=0
def tw9957625202708704702:=0
def tw15510129530802043666:=0
def tw15419283437022333010:=0
def tw8665526278801020292:=0
def tw12453191626135088296:=0
def tw10800781739488019970:=0
def tw17290063278828147961:=0
def tw8960292932911346607:=0
def tw6173452169101053405:=0
def tw7892875836002404101:=0
def tw8267841055188431205:=0
def tw16589053543153804906:=0
def tw3060867961956340405:=0
def tw13276246918828630954:=0
def tw2116666747598597870:=0
def tw16112635514984616053:=0
def tw16382089388380292443:=0
def tw18069876168651048860:=0
def tw3547663104806116583:=0
def tw5561505112534607401:=0
def tw11481243586730603920:=0
def tw14093428828273969270:=0
def tw3521457074313514053:=0
def tw9178158671549120015:=0
def tw7378366571038523280:=0
def tw3774439515983622102:=0
def tw2868353081983885384:=0
def tw12080750604204892537:=0
def tw3338501704184847289:=0
def tw12375314390734740820:=0
def tw15159730978462699485:=0
def tw16924299679501460870:=0
def tw5961157213520180479:=0
def tw16524388891412560938:=0
def tw17897877445012875917:=0
def tw6970231777096117973:=0
def tw14282048623235281936:=0
def tw18048045799929055590:=0
def tw3517301975927053653:=0
def tw5971774981272598037:=0
def tw17583234397889180906:=0
def tw2796338308730579927:=0
def tw3724174153189632670:=0
def tw14708588740586394742:=0
def tw2461551553840633164:=0
def tw18194763741677944308:=0
def tw3163555586132818381:=0
def tw5681494784006207172:=0
def tw12479565386567596455:=0
def tw4465485701303820437:=0
def tw2843987460196727424:=0
def tw6939033985616840978:=0
def tw14936023593800070725:=0
def tw9268146836894024001:=0
def tw7494714187150217927:=0
def tw17344330679017038970:=0
def tw6308168226180189204:=0
def tw12097477929194504559:=0
def tw14082826426925671516:=0
def tw3357099290307871986:=0
def tw8366004823338703773:=0
def tw7753946026515104349:=0
def tw14221614886096582956:=0
def tw1411407109321663845:=0
def tw8549783742463292179:=0
def tw5468151914207566576:=0
def tw10394037729297752454:=0
def tw2733430896894048051:=0
def tw8379246144037589693:=0
def tw14231933905242168008:=0
def tw9217918450553370638:=0
def tw14699760906208292114:=0
def tw15976318658051818145:=0
def tw4589761241013544049:=0
def tw17727526692147065588:=0
def tw15003177855202826848:=0
def tw8067796139146900680:=0
def tw2842836144137250170:=0
def tw15457345565926921615:=0
def tw9109441534708615914:=0
def tw18422974216429429425:=0
def tw7428834565906967832:=0
def tw16820138996745873779:=0
def tw12123276835279479109:=0
def tw1838272953123062800:=0
def tw3422075218875900226:=0
def tw1691819459033991210:=0
def tw16927679308621441272:=0
def tw8434362963322620405:=0
def tw18328536039862994041:=0
def tw8670017272741548155:=0
def tw11236071621442078763:=0
def tw4002653229996140742:=0
def tw7992192305470417276:=0
def tw13151344473981556410:=0
def tw5030148537613175088:=0
def tw7494303533020674329:=0
def tw8023569365192050236:=0
def tw192910536702286948:=0
def tw10679149559095423635:=0
def tw15429809143263346831:=0
def tw2693193210025024030:=0
def tw14587302568875647723:=0
def tw7731486278645238268:=0
def tw7084259896808157618:=0
def tw17792163444201934948:=0
def tw1996368069482782844:=0
def tw11102874812308165913:=0
def tw15029414308645744557:=0
def tw3639400097367698337:=0
def tw895392770644105252:=0
def tw1375278448066482428:=0
def tw9065231547608403692:=0
def tw13688695542656429588:=0
def tw1651360753508712923:=0
def tw8100385460896999879:=0
def tw15392109515023183972:=0
def tw7232100476141801985:=0
def tw18250123609157493430:=0
def tw7919267941186790258:=0
def tw15414066530427477689:=0
def tw6866989576293839953:=0
def tw2527726384858188907:=0
def tw14428885808002595659:=0
def tw510627201757181003:=0
def tw16787471521352751914:=0
def tw9250369713168896420:=0
def tw8971266379359341568:=0
def tw18086988183257777720:=0
def tw17768576510716022308:=0
def tw11919611695513904525:=0
def tw7354573805247321304:=0
def tw11214501214565056454:=0
def tw10289168434646471321:=0
def tw2593632699410023943:=0
def tw5785210859304776583:=0
def tw17975692681266562555:=0
def tw15996258647542829557:=0
def tw2491361218112022421:=0
def tw14602594779186143723:=0
def tw13083027711683950138:=0
def tw4451712986072515398:=0
def tw5747088953506214164:=0
def tw13026557746279461099:=0
def tw2881988262134636063:=0
def tw11085852865729228339:=0
def tw12808569588859674735:=0
def tw7537531921086128016:=0
def tw10852263431411956185:=0
def tw5658998638466117227:=0
def tw7181512014915157780:=0
def tw13251298451097461037:=0
def tw3225566698938200889:=0
def tw10470969116559781656:=0
def tw4004045720934822546:=0
def tw5883143797347903761:=0
def tw18204554108436987412:=0
def tw13024347666324904047:=0
def tw14993590003944919770:=0
def tw16700618715381539927:=0
def tw12213263573789807682:=0
def tw15994732657035014286:=0
def tw7121467951965879145:=0
def tw17809419285025020393:=0
def tw239978120005621257:=0
def tw12022967065866537553:=0
def tw16613055914762320241:=0
def tw17108312887776609012:=0
def tw12151696145576511453:=0
def tw8234496692370024398:=0
def tw16343871745862122788:=0
def tw13405937324288364652:=0
def tw3750972103114073823:=0
def tw7357687759053937496:=0
def tw2426967558655555394:=0
def tw772753079639365907:=0
def tw7940591056855863433:=0
def tw13750148664566603251:=0
def tw16563975709348846916:=0
def tw952007263977782658:=0
def tw17069468169269255167:=0
def tw3364475582100486141:=0
def tw6619378075282365132:=0
def tw7409950891640029461:=0
def tw10225880616209923574:=0
def tw4270606850892310681:=0
def tw15780680831717019637:=0
def tw8038535244771791641:=0
def tw16735679333257545577:=0
def tw16463414471086287067:=0
def tw12760797970791309831:=0
def tw6877589271237900493:=0
def tw17228522968201010267:=0
def tw6769307682147435305:=0
def tw6548371701062927999:=0
def tw6929930999165482668:=0
def tw1741736250830349081:=0
def tw17988097865335360621:=0
def tw3017332160703420078:=0
def tw18248152100093221087:=0
def tw15529752602223018996:=0
def tw17680114266314442553:=0
def tw11700677978372041084:=0
def tw8378655041989363061:=0
def tw9033212990700716357:=0
def tw281772548673314433:=0
def tw4563014807272407975:=0
def tw9055938541738855167:=0
def tw16154714459548170024:=0
def tw2963602185821493177:=0
def tw7757445354687155013:=0
def tw6521605779752199266:=0
def tw6559253779083240954:=0
def tw1910899155698492208:=0
def tw4011308754295246140:=0
def tw5469426932848976001:=0
def tw6507588983125658836:=0
def tw11638811772789604620:=0
def tw16360250513796056319:=0
def tw18161149966693556099:=0
def tw7284715647950195483:=0
def tw10377765897873730610:=0
def tw10452142373578175829:=0
def tw9821348805652112979:=0
def tw4027026122152997000:=0
def tw14277913521894313890:=0
def tw5480979323346618203:=0
def tw12440650490888436837:=0
def tw7121437738606779386:=0
def tw569165760255431672:=0
def tw7110784491089468298:=0
def tw12151931954461680940:=0
def tw15322506675146740785:=0
def tw7393224275765295056:=0
def tw4001167453323526748:=0
def tw9393592088472649702:=0
def tw17503463321212095077:=0
def tw14752056096185136346:=0
def tw11215419409380207082:=0
def tw3134056107820074667:=0
def tw7057255219340900090:=0
def tw10199682914836686318:=0
def tw4621329531039261520:=0
def tw912985907671436199:=0
def tw1598526254354975571:=0
def tw5457699222098538054:=0
def tw4173791895349559296:=0
def tw4033886010723781420:=0
def tw10564534087717621356:=0
def tw5227295180491416609:=0
def tw3445088840987163679:=0
def tw17188335994844102661:=0
def tw7314604730327665345:=0
def tw4496705965495267687:=0
def tw2917354540651726137:=0
def tw1857751653047810791:=0
def tw7470500582736254339:=0
def tw7695950903309321692:=0
def tw4996396621581869501:=0
def tw11907457363763348416:=0
def tw6262110102360358726:=0
def tw7356774154501873557:=0
def tw15928783728615149203:=0
def tw15966980055083480198:=0
def tw17375138162165978402:=0
def tw6649014793477883199:=0
def tw511809862389137245:=0
def tw7808859642786408728:=0
def tw3206693840778703982:=0
def tw948055501872174972:=0
def tw18215478020192062440:=0
def tw14110112482133837500:=0
def tw10690676019473987403:=0
def tw9918650978140637185:=0
def tw6038102707378364551:=0
def tw1394337245105433035:=0
def tw14792626733123296208:=0
def tw382855656835489666:=0
def tw3913615926596160295:=0
def tw2663987211570490126:=0
def tw2252321444760985673:=0
def tw13222400741895448838:=0
def tw10263840010543095993:=0
def tw4062911524262523450:=0
def tw10156131741606675127:=0
def tw9574026609120838171:=0
def tw16541479530807530371:=0
def tw13615182909575929729:=0
def tw18168455542924679832:=0
def tw14483523336340465366:=0
def tw2318959377893419604:=0
def tw14994044852133532198:=0
def tw12309477949757635103:=0
def tw10921601999091669772:=0
def tw282767416511386369:=0
def tw14336994767680719449:=0
def tw1911868080063017765:=0
def tw4245685071009446867:=0
def tw9970027685687522571:=0
def tw17711659252388316867:=0
def tw16489270429867864290:=0
def tw12366506932076609390:=0
def tw17843758396797140067:=0
def tw17835841477767251890:=0
def tw13241561970832750778:=0
def tw2282209325717506788:=0
def tw1742451046453829714:=0
def tw16111585181283594144:=0
def tw10642742302368892984:=0
def tw11164142491477000940:=0
def tw10695608060424410175:=0
def tw7886150904635947359:=0
def tw14207148199645189096:=0
def tw1662561171729388920:=0
def tw4682741154434038:=0
def tw82692132624508409:=0
def tw15532997728671863838:=0
def tw2269504702052045619:=0
def tw1911514923165802149:=0
def tw7555482102714258922:=0
def tw7531741459334194645:=0
def tw8666396376064604014:=0
def tw5790648549078575770:=0
def tw10229391762919269359:=0
def tw2557105216743978091:=0
def tw13644159415774922439:=0
def tw12251707321157459179:=0
def tw112252851154941881:=0
def tw8446988371241437078:=0
def tw18126667482461499593:=0
def tw890970610366977964:=0
def tw2569498144261516320:=0
def tw3446862182220542459:=0
def tw17743649525173429907:=0
def tw6638360597796551257:=0
def tw16016056334190251537:=0
def tw16747724564307722524:=0
def tw16804544489204446419:=0
def tw15516118498517541489:=0
def tw1670504528933159785:=0
def tw10509163661013210104:=0
def tw5087416917721855487:=0
def tw10458994876993803883:=0
def tw4519538257094254917:=0
def tw12024322810620657817:=0
def tw663518475028258810:=0
def tw1717427481628299024:=0
def tw7313073883169343935:=0
def tw17492956865618148330:=0
def tw189185063243913604:=0
def tw14005244872725322753:=0
def tw8993421469752482598:=0
def tw15413806977116646890:=0
def tw6456262178150200807:=0
def tw5839603076712160850:=0
def tw9618937386029161562:=0
def tw18267923662711716744:=0
def tw16898065308319426009:=0
def tw13507001143708851579:=0
def tw10305628862565665896:=0
def tw12491095021937366306:=0
def tw2527788901232204542:=0
def tw7012416804031106984:=0
def tw6542980963101518861:=0
def tw6701483688882559108:=0
def tw14434443721649285641:=0
def tw16563648355073411337:=0
def tw8198534566919352448:=0
def tw6260375299637364019:=0
def tw10656651019176023223:=0
def tw13355273615925867092:=0
def tw6736058959459419667:=0
def tw11939963414298373815:=0
def tw11358755118683236683:=0
def tw8610522826913934827:=0
def tw3584385674120322758:=0
def tw15457978601318068862:=0
def tw3777429274366255356:=0
def tw11435604722724809319:=0
def tw7076675249898869859:=0
def tw5184201234791420133:=0
def tw11739924502138562117:=0
def tw2045306057281070686:=0
def tw17436354251063982379:=0
def tw7695881272517132799:=0
def tw2855117789345440120:=0
def tw12239561895388469918:=0
def tw1579206451121428744:=0
def tw4230183545295414973:=0
def tw9225106586296630912:=0
def tw16043320045227982016:=0
def tw8745791845492143112:=0
def tw588862222966373687:=0
def tw17668272773641217722:=0
def tw12634988096004288671:=0
def tw4371269847950372107:=0
def tw13057936854598797744:=0
def tw12118714728806826314:=0
def tw2145053560754869449:=0
def tw16563369731504943848:=0
def tw1345494088540709140:=0
def tw877000936984194281:=0
def tw15904669888628555410:=0
def tw6509573031951506343:=0
def tw1174903588434070449:=0
def tw2469433731380769572:=0
def tw13124510011399632155:=0
def tw16832757551317703692:=0
def tw14691988703117778767:=0
def tw12807810260991776530:=0
def tw14882481801271474216:=0
def tw1022169563633200135:=0
def tw15252505107879112488:=0
def tw7718578386654172280:=0
def tw2111272363995853245:=0
def tw2398978275366967380:=0
def tw15103221947539307053:=0
def tw13754812251862821769:=0
def tw4934728018905588149:=0
def tw535695303622680351:=0
def tw7238135162944036165:=0
def tw7761166456080687732:=0
def tw5296513734995550733:=0
def tw11694661762342403438:=0
def tw4096762833928799825:=0
def tw10577488617306963108:=0
def tw4579073496558138203:=0
def tw2545690725395657115:=0
def tw6306383079702271145:=0
def tw15827016142429027233:=0
def tw5689300217056750759:=0
def tw10073913601623826939:=0
def tw3671275538394499158:=0
def tw8834058832761128837:=0
def tw3027559829738409276:=0
def tw587809327492735100:=0
def tw2036030496204194774:=0
def tw11643815480901550253:=0
def tw11956080004493415802:=0
def tw17345828984793875485:=0
def tw14445607005506215715:=0
def tw877584169093470166:=0
def tw5416099867678883118:=0
def tw1095886689683911763:=0
def tw829610543984388706:=0
def tw16789170146899779086:=0
def tw808193208070597599:=0
def tw11187902576355014475:=0
def tw6026275038995022948:=0
def tw17717721264294309492:=0
def tw6145737870019606308:=0
def tw11057528434608592427:=0
def tw6755299405973807664:=0
def tw5294453314963700609:=0
def tw10612947955590060629:=0
def tw4496298800674638182:=0
def tw4762516639887057884:=0
def tw554865588462964174:=0
def tw330705095421629404:=0
def tw10006767430123032399:=0
def tw8339614995052523021:=0
def tw2285575054231285611:=0
def tw6566347753876141064:=0
def tw16460711521844179438:=0
def tw8326080209454938761:=0
def tw821033221279346852:=0
def tw3934951927721150886:=0
def tw18334264657958626740:=0
def tw10823903852156378038:=0
def tw3033472555463001450:=0
def tw11110266114120469267:=0
def tw16764620754865337945:=0
def tw10009918206907452323:=0
def tw14530912916060895822:=0
def tw12153490260027136366:=0
def tw16525990344177792494:=0
def tw3933392996250572987:=0
def tw15784250156446238220:=0
def tw6512649502298442367:=0
def tw16864575902579744071:=0
def tw566579411965302528:=0
def tw6169177928416257637:=0
def tw8708987882042984623:=0
def tw3832633638791936521:=0
def tw13399377657313002570:=0
def tw2992510392466767822:=0
def tw713340816864013714:=0
def tw5332984230311488151:=0
def tw10284619262806210764:=0
def tw15502773180804626746:=0
def tw4722679313745597435:=0
def tw5820467749283140895:=0
def tw7703002701850323802:=0
def tw12641858937105383077:=0
def tw3900349078202960755:=0
def tw10281328242318250774:=0
def tw11872252300556135413:=0
def tw11315834913762388925:=0
def tw11773786896481734279:=0
def tw4094279216141971426:=0
def tw5701153471670322950:=0
def tw10106364481252710178:=0
def tw8644907349821057465:=0
def tw17510282523091109458:=0
def tw5626184525310013031:=0
def tw5253982159352633892:=0
def tw518398742487614982:=0
def tw12788537433633989770:=0
def tw2693596979020355549:=0
def tw4614723951390529269:=0
def tw12429186077739321338:=0
def tw9582202988685613512:=0
def tw3543794149294205213:=0
def tw6240207471745791594:=0
def tw4204197643423917323:=0
def tw861113517528825328:=0
def tw17730277925856839609:=0
def tw7665005097445481745:=0
def tw4414791117431935380:=0
def tw830547179036440697:=0
def tw15897621360981754978:=0
def tw2176562935880738251:=0
def tw17637933275876696103:=0
def tw14224937131408583096:=0
def tw18094142090168662605:=0
def tw14661598728083652470:=0
def tw17746711785745732760:=0
def tw16741954341553721674:=0
def tw1822243690808119123:=0
def tw15071768769238024008:=0
def tw16998669898202599251:=0
def tw9337073052256043684:=0
def tw3016804681521922514:=0
def tw3345887595727887391:=0
def tw8120212470392097246:=0
def tw1515452438459067624:=0
def tw10081594915467589781:=0
def tw9593585833737314424:=0
def tw15561187224764135910:=0
def tw4316157425798004531:=0
def tw14265703256088272013:=0
def tw11154913038451057566:=0
def tw7766971905533046180:=0
def tw5208170926174982649:=0
def tw16190697572283151930:=0
def tw8569880978314695431:=0
def tw15157755952986743322:=0
def tw7371689900102314366:=0
def tw13571140407240197146:=0
def tw3347315143408332786:=0
def tw14982342067524038411:=0
def tw5460421009581994299:=0
def tw13154670251047358342:=0
def tw2467028125673457678:=0
def tw13939094467573628168:=0
def tw11098542463394869646:=0
def tw14452347442416823809:=0
def tw6598925595760519711:=0
def tw13769530887831611092:=0
def tw12466532690662259758:=0
def tw8158442167317664056:=0
def tw7740063414138747963:=0
def tw13902382749719643076:=0
def tw2505767834700456617:=0
def tw12737724340355820000:=0
def tw3950758612226221613:=0
def tw1936709939276626436:=0
def tw17297421026889100578:=0
def tw5031291132838669985:=0
def tw5154766506493355074:=0
def tw16555106406179909844:=0
def tw11727069013601396751:=0
def tw6345451326944382832:=0
def tw3542473504659640238:=0
def tw14475249649755771714:=0
def tw17630520218582326376:=0
def tw12018578685258383552:=0
def tw7741982915882689239:=0
def tw8505159452265190259:=0
def tw8996966148665715200:=0
def tw7031903950940941401:=0
def tw7297887107365139257:=0
def tw1587803941816430681:=0
def tw536990344420046226:=0
def tw13857399832389583739:=0
def tw8822212639721928986:=0
def tw14410969331461832287:=0
def tw201186783125057530:=0
def tw8849904284672631202:=0
def tw13349780979781049509:=0
def tw11309761641853951376:=0
def tw1221468074768487445:=0
def tw11422216841535515644:=0
def tw4449707230752095884:=0
def tw6191098599190204118:=0
def tw7144720575930633829:=0
def tw5729144581946376026:=0
def tw456439686396268804:=0
def tw14302719802157473633:=0
def tw4871851871091188508:=0
def tw16044438871766553283:=0
def tw14158863295080616886:=0
def tw6597708488082710056:=0
def tw8104320314777935509:=0
def tw16730810942468460837:=0
def tw10355759619871629790:=0
def tw3340306485926440896:=0
def tw15264107196078873956:=0
def tw5432617919223640473:=0
def tw3065969468542127882:=0
def tw3630769583872208868:=0
def tw17006512763984425803:=0
def tw17963456975550103812:=0
def tw9902858051203584439:=0
def tw15074442259960551090:=0
def tw1189087900061447600:=0
def tw359509633119234844:=0
def tw3495632847059559749:=0
def tw15974124173301994591:=0
def tw4577468218141461521:=0
def tw6491210883133203060:=0
def tw10566842900207048106:=0
def tw16704213669021089761:=0
def tw4503952360470037887:=0
def tw13798632214220695995:=0
def tw11699284011049842281:=0
def tw10175878794695597699:=0
def tw9954493286038850483:=0
def tw8105994647598319185:=0
def tw14332385272403223718:=0
def tw5745831890151994276:=0
def tw8144078251622168935:=0
def tw9484194583539813389:=0
def tw2037323800177030562:=0
def tw13218210192687705963:=0
def tw12871993175688646655:=0
def tw3370064663760899251:=0
def tw14060180337373604134:=0
def tw6844064914369851946:=0
def tw5703942403870518710:=0
def tw15128349705211049524:=0
def tw2708589723764822126:=0
def tw17219533164366827965:=0
def tw11206749070348057933:=0
def tw17798500441098626444:=0
def tw12349374401095453027:=0
def tw13177621547960777065:=0
def tw13965386710588658098:=0
def tw510017584694147926:=0
def tw10287629441174032430:=0
def tw15109928584210054414:=0
def tw3000242670143903110:=0
def tw11224959282102128452:=0
def tw17066619818424014777:=0
def tw4737404576880218991:=0
def tw5532964831632110651:=0
def tw11944872479552025986:=0
def tw6059605669719120021:=0
def tw6880027995373132516:=0
def tw153197813352642107:=0
def tw11717012830769207493:=0
def tw2963332698740550604:=0
def tw8485299363213106986:=0
def tw17145375645911060600:=0
def tw6893062017519496764:=0
def tw12259512961839305157:=0
def tw4135759692546339017:=0
def tw948541620584059216:=0
def tw11582202120216516267:=0
def tw10794061283221647789:=0
def tw11423736412384390258:=0
def tw5900207270905686022:=0
def tw4163918260439627302:=0
def tw1505539813629009253:=0
def tw5435052095965676607:=0
def tw1255986219645086851:=0
def tw5850002197384245643:=0
def tw10784486796288264672:=0
def tw11102015728400100944:=0
def tw6461935628971366321:=0
def tw16502528469382931687:=0
def tw7250653498234615762:=0
def tw2458612986791971957:=0
def tw12920313792364038887:=0
def tw13213805292402509992:=0
def tw4931103261332650143:=0
def tw2311775362199344570:=0
def tw6317156865370456412:=0
def tw17662868890757485813:=0
def tw2608722404763950413:=0
def tw8420309740389425199:=0
def tw6661859769143283126:=0
def tw7775873693649093694:=0
def tw13772082350849558580:=0
def tw9312215213463193220:=0
def tw128302731473319275:=0
def tw8229442520866576205:=0
def tw6822013782819487862:=0
def tw5485383228945748158:=0
def tw17499737093112429391:=0
def tw3619851344923801283:=0
def tw17412380338903170704:=0
def tw11895632176967160319:=0
def tw2835549401353315666:=0
def tw6179889983981325706:=0
def tw14328234055689504027:=0
def tw5024530895112444951:=0
def tw17720616378323049093:=0
def tw1124465457640758568:=0
def tw454667852219814344:=0
def tw14084119852207477021:=0
def tw2708895186175806864:=0
def tw13180878352135953600:=0
def tw9038310533184032868:=0
def tw15924424506601922548:=0
end PySem.W.Fast
open PySem PySem.W PyProof.Rows
local macro_rules | `(tactic| walk_at "k") => `(tactic| first | k_is | kit_is | rfl | kernel_rfl)
set_option maxRecDepth 100000 in
set_option maxHeartbeats 0 in
theorem PySem.Challenge.cw_frameback_k09_code_as_text_holds : PySem.Challenge.rw_frameback_k09_code_as_text.Holds := by
 w_on; o_law; k_head; (case hw => w_witness2)
 k_fill
 refine FB.walk (l := PySem.Challenge.rw_frameback_k09_code_as_text) rfl rfl (fun w h Y => PySem.W.kIn_of Y) ?F
 case F =>
   intro w mg fa h KX G hmg
   have T : ∃ (a : FB.Adr) (fd : FuncData), FB.Txt w (L2.KOf KX) mg a ∧ L2.Fun (L2.KOf KX) "law" "law" FB.s_law fa fd ∧ ∀ (s : Shared) (v : Value), BindsTo s fd ⟨[v], []⟩ [("_law_script", v)] := by
     dsimp only [L2.KOf]
     refine' FB.txt_mk KX G hmg ?z_all ?z_int ?z_isinstance ?z_len ?z_list ?z_range ?z_str ?g_COUNTS ?l_COUNTS ?y_COUNTS ?g_FIGURES ?g_MOST_FIGURES ?g_TOP_BOX ?g_TOP_CELLS ?g_TOP_ROWS ?g_TOP_TARGET ?g_TOP_VALUE ?c_Add ?c_Back ?c_Branch ?c_Call ?c_Copy ?c_Drop ?c_Get ?c_Grow ?c_Jump ?c_Less ?c_Mul ?c_NoRow ?c_NoText ?c_Put ?c_Row ?c_Set ?c_Shrink ?c_Sub ?pg_Drop ?hd_Drop ?po_Drop ?sa_Drop ?mk_Drop ?kc_Drop ?n_Drop_box ?a31 ?i31 ?l31 ?c31 ?k31 ?a32 ?i32 ?l32 ?c32 ?k32 ?pg_Grow ?hd_Grow ?po_Grow ?sa_Grow ?mk_Grow ?kc_Grow ?n_Grow_many ?a33 ?i33 ?l33 ?c33 ?k33 ?a34 ?i34 ?l34 ?c34 ?k34 ?pg_Shrink ?hd_Shrink ?po_Shrink ?sa_Shrink ?mk_Shrink ?kc_Shrink ?n_Shrink_many ?a35 ?i35 ?l35 ?c35 ?k35 ?a36 ?i36 ?l36 ?c36 ?k36 ?pg_Jump ?hd_Jump ?po_Jump ?sa_Jump ?mk_Jump ?kc_Jump ?n_Jump_target ?a37 ?i37 ?l37 ?c37 ?k37 ?a38 ?i38 ?l38 ?c38 ?k38 ?pg_Call ?hd_Call ?po_Call ?sa_Call ?mk_Call ?kc_Call ?n_Call_target ?a39 ?i39 ?l39 ?c39 ?k39 ?a40 ?i40 ?l40 ?c40 ?k40 ?pg_Back ?hd_Back ?po_Back ?sa_Back ?mk_Back ?kc_Back ?n_Back_box ?a41 ?i41 ?l41 ?c41 ?k41 ?a42 ?i42 ?l42 ?c42 ?k42 ?pg_Branch ?hd_Branch ?po_Branch ?sa_Branch ?mk_Branch ?kc_Branch ?n_Branch_box ?n_Branch_target ?a43 ?i43 ?l43 ?c43 ?k43 ?a44 ?i44 ?l44 ?c44 ?k44 ?pg_Set ?hd_Set ?po_Set ?sa_Set ?mk_Set ?kc_Set ?n_Set_box ?n_Set_number ?a45 ?i45 ?l45 ?c45 ?k45 ?a46 ?i46 ?l46 ?c46 ?k46 ?pg_Copy ?hd_Copy ?po_Copy ?sa_Copy ?mk_Copy ?kc_Copy ?n_Copy_box ?n_Copy_one ?a47 ?i47 ?l47 ?c47 ?k47 ?a48 ?i48 ?l48 ?c48 ?k48 ?pg_Put ?hd_Put ?po_Put ?sa_Put ?mk_Put ?kc_Put ?n_Put_box ?n_Put_cell ?a49 ?i49 ?l49 ?c49 ?k49 ?a50 ?i50 ?l50 ?c50 ?k50 ?pg_Get ?hd_Get ?po_Get ?sa_Get ?mk_Get ?kc_Get ?n_Get_box ?n_Get_cell ?a51 ?i51 ?l51 ?c51 ?k51 ?a52 ?i52 ?l52 ?c52 ?k52 ?pg_Less ?hd_Less ?po_Less ?sa_Less ?mk_Less ?kc_Less ?n_Less_box ?n_Less_one ?n_Less_other ?a53 ?i53 ?l53 ?c53 ?k53 ?a54 ?i54 ?l54 ?c54 ?k54 ?pg_Add ?hd_Add ?po_Add ?sa_Add ?mk_Add ?kc_Add ?n_Add_box ?n_Add_one ?n_Add_other ?a55 ?i55 ?l55 ?c55 ?k55 ?a56 ?i56 ?l56 ?c56 ?k56 ?pg_Sub ?hd_Sub ?po_Sub ?sa_Sub ?mk_Sub ?kc_Sub ?n_Sub_box ?n_Sub_one ?n_Sub_other ?a57 ?i57 ?l57 ?c57 ?k57 ?a58 ?i58 ?l58 ?c58 ?k58 ?pg_Mul ?hd_Mul ?po_Mul ?sa_Mul ?mk_Mul ?kc_Mul ?n_Mul_box ?n_Mul_one ?n_Mul_other ?a59 ?i59 ?l59 ?c59 ?k59 ?a60 ?i60 ?l60 ?c60 ?k60 ?ha_Set ?hm_Set ?is_Set_Row ?ha_Copy ?hm_Copy ?is_Copy_Row ?ha_Add ?hm_Add ?is_Add_Row ?ha_Sub ?hm_Sub ?is_Sub_Row ?ha_Mul ?hm_Mul ?is_Mul_Row ?ha_Less ?hm_Less ?is_Less_Row ?ha_Grow ?hm_Grow ?is_Grow_Row ?ha_Shrink ?hm_Shrink ?is_Shrink_Row ?ha_Put ?hm_Put ?is_Put_Row ?ha_Get ?hm_Get ?is_Get_Row ?ha_Jump ?hm_Jump ?is_Jump_Row ?ha_Branch ?hm_Branch ?is_Branch_Row ?ha_Call ?hm_Call ?is_Call_Row ?ha_Back ?hm_Back ?is_Back_Row ?ha_Drop ?hm_Drop ?is_Drop_Row ?ob1 ?ob2 ?k_str_str ?k_list_list ?a61 ?l61 ?c61 ?k61 ?a62 ?l62 ?c62 ?k62 ?a63 ?l63 ?c63 ?k63 ?a64 ?l64 ?c64 ?k64 ?a65 ?l65 ?c65 ?k65 ?a66 ?l66 ?c66 ?k66 ?a67 ?l67 ?c67 ?k67 ?a68 ?l68 ?c68 ?k68 ?a69 ?l69 ?c69 ?k69 ?a70 ?l70 ?c70 ?k70 ?a71 ?l71 ?c71 ?k71 ?a72 ?l72 ?c72 ?k72 ?a73 ?l73 ?c73 ?k73 ?a74 ?l74 ?c74 ?k74 ?a75 ?l75 ?c75 ?k75 ?a76 ?l76 ?c76 ?k76 ?a77 ?l77 ?c77 ?k77 ?a78 ?l78 ?c78 ?k78
     (case z_all => walk_at "k")
     (case z_int => walk_at "k")
     (case z_isinstance => walk_at "k")
     (case z_len => walk_at "k")
     (case z_list => walk_at "k")
     (case z_range => walk_at "k")
     (case z_str => walk_at "k")
     (case g_COUNTS => walk_at "k")
     (case l_COUNTS => walk_at "k")
     (case y_COUNTS => walk_at "k")
     (case g_FIGURES => walk_at "k")
     (case g_MOST_FIGURES => walk_at "k")
     (case g_TOP_BOX => walk_at "k")
     (case g_TOP_CELLS => walk_at "k")
     (case g_TOP_ROWS => walk_at "k")
     (case g_TOP_TARGET => walk_at "k")
     (case g_TOP_VALUE => walk_at "k")
     (case c_Add => walk_at "k")
     (case c_Back => walk_at "k")
     (case c_Branch => walk_at "k")
     (case c_Call => walk_at "k")
     (case c_Copy => walk_at "k")
     (case c_Drop => walk_at "k")
     (case c_Get => walk_at "k")
     (case c_Grow => walk_at "k")
     (case c_Jump => walk_at "k")
     (case c_Less => walk_at "k")
     (case c_Mul => walk_at "k")
     (case c_NoRow => walk_at "k")
     (case c_NoText => walk_at "k")
     (case c_Put => walk_at "k")
     (case c_Row => walk_at "k")
     (case c_Set => walk_at "k")
     (case c_Shrink => walk_at "k")
     (case c_Sub => walk_at "k")
     (case pg_Drop => walk_at "k")
     (case hd_Drop => walk_at "k")
     (case po_Drop => walk_at "k")
     (case sa_Drop => walk_at "k")
     (case mk_Drop => walk_at "k")
     (case kc_Drop => walk_at "k")
     (case n_Drop_box => walk_at "k")
     (case a31 => walk_at "k")
     (case i31 => walk_at "k")
     (case l31 => walk_at "k")
     (case c31 => walk_at "k")
     (case k31 => walk_at "k")
     (case a32 => walk_at "k")
     (case i32 => walk_at "k")
     (case l32 => walk_at "k")
     (case c32 => walk_at "k")
     (case k32 => walk_at "k")
     (case pg_Grow => walk_at "k")
     (case hd_Grow => walk_at "k")
     (case po_Grow => walk_at "k")
     (case sa_Grow => walk_at "k")
     (case mk_Grow => walk_at "k")
     (case kc_Grow => walk_at "k")
     (case n_Grow_many => walk_at "k")
     (case a33 => walk_at "k")
     (case i33 => walk_at "k")
     (case l33 => walk_at "k")
     (case c33 => walk_at "k")
     (case k33 => walk_at "k")
     (case a34 => walk_at "k")
     (case i34 => walk_at "k")
     (case l34 => walk_at "k")
     (case c34 => walk_at "k")
     (case k34 => walk_at "k")
     (case pg_Shrink => walk_at "k")
     (case hd_Shrink => walk_at "k")
     (case po_Shrink => walk_at "k")
     (case sa_Shrink => walk_at "k")
     (case mk_Shrink => walk_at "k")
     (case kc_Shrink => walk_at "k")
     (case n_Shrink_many => walk_at "k")
     (case a35 => walk_at "k")
     (case i35 => walk_at "k")
     (case l35 => walk_at "k")
     (case c35 => walk_at "k")
     (case k35 => walk_at "k")
     (case a36 => walk_at "k")
     (case i36 => walk_at "k")
     (case l36 => walk_at "k")
     (case c36 => walk_at "k")
     (case k36 => walk_at "k")
     (case pg_Jump => walk_at "k")
     (case hd_Jump => walk_at "k")
     (case po_Jump => walk_at "k")
     (case sa_Jump => walk_at "k")
     (case mk_Jump => walk_at "k")
     (case kc_Jump => walk_at "k")
     (case n_Jump_target => walk_at "k")
     (case a37 => walk_at "k")
     (case i37 => walk_at "k")
     (case l37 => walk_at "k")
     (case c37 => walk_at "k")
     (case k37 => walk_at "k")
     (case a38 => walk_at "k")
     (case i38 => walk_at "k")
     (case l38 => walk_at "k")
     (case c38 => walk_at "k")
     (case k38 => walk_at "k")
     (case pg_Call => walk_at "k")
     (case hd_Call => walk_at "k")
     (case po_Call => walk_at "k")
     (case sa_Call => walk_at "k")
     (case mk_Call => walk_at "k")
     (case kc_Call => walk_at "k")
     (case n_Call_target => walk_at "k")
     (case a39 => walk_at "k")
     (case i39 => walk_at "k")
     (case l39 => walk_at "k")
     (case c39 => walk_at "k")
     (case k39 => walk_at "k")
     (case a40 => walk_at "k")
     (case i40 => walk_at "k")
     (case l40 => walk_at "k")
     (case c40 => walk_at "k")
     (case k40 => walk_at "k")
     (case pg_Back => walk_at "k")
     (case hd_Back => walk_at "k")
     (case po_Back => walk_at "k")
     (case sa_Back => walk_at "k")
     (case mk_Back => walk_at "k")
     (case kc_Back => walk_at "k")
     (case n_Back_box => walk_at "k")
     (case a41 => walk_at "k")
     (case i41 => walk_at "k")
     (case l41 => walk_at "k")
     (case c41 => walk_at "k")
     (case k41 => walk_at "k")
     (case a42 => walk_at "k")
     (case i42 => walk_at "k")
     (case l42 => walk_at "k")
     (case c42 => walk_at "k")
     (case k42 => walk_at "k")
     (case pg_Branch => walk_at "k")
     (case hd_Branch => walk_at "k")
     (case po_Branch => walk_at "k")
     (case sa_Branch => walk_at "k")
     (case mk_Branch => walk_at "k")
     (case kc_Branch => walk_at "k")
     (case n_Branch_box => walk_at "k")
     (case n_Branch_target => walk_at "k")
     (case a43 => walk_at "k")
     (case i43 => walk_at "k")
     (case l43 => walk_at "k")
     (case c43 => walk_at "k")
     (case k43 => walk_at "k")
     (case a44 => walk_at "k")
     (case i44 => walk_at "k")
     (case l44 => walk_at "k")
     (case c44 => walk_at "k")
     (case k44 => walk_at "k")
     (case pg_Set => walk_at "k")
     (case hd_Set => walk_at "k")
     (case po_Set => walk_at "k")
     (case sa_Set => walk_at "k")
     (case mk_Set => walk_at "k")
     (case kc_Set => walk_at "k")
     (case n_Set_box => walk_at "k")
     (case n_Set_number => walk_at "k")
     (case a45 => walk_at "k")
     (case i45 => walk_at "k")
     (case l45 => walk_at "k")
     (case c45 => walk_at "k")
     (case k45 => walk_at "k")
     (case a46 => walk_at "k")
     (case i46 => walk_at "k")
     (case l46 => walk_at "k")
     (case c46 => walk_at "k")
     (case k46 => walk_at "k")
     (case pg_Copy => walk_at "k")
     (case hd_Copy => walk_at "k")
     (case po_Copy => walk_at "k")
     (case sa_Copy => walk_at "k")
     (case mk_Copy => walk_at "k")
     (case kc_Copy => walk_at "k")
     (case n_Copy_box => walk_at "k")
     (case n_Copy_one => walk_at "k")
     (case a47 => walk_at "k")
     (case i47 => walk_at "k")
     (case l47 => walk_at "k")
     (case c47 => walk_at "k")
     (case k47 => walk_at "k")
     (case a48 => walk_at "k")
     (case i48 => walk_at "k")
     (case l48 => walk_at "k")
     (case c48 => walk_at "k")
     (case k48 => walk_at "k")
     (case pg_Put => walk_at "k")
     (case hd_Put => walk_at "k")
     (case po_Put => walk_at "k")
     (case sa_Put => walk_at "k")
     (case mk_Put => walk_at "k")
     (case kc_Put => walk_at "k")
     (case n_Put_box => walk_at "k")
     (case n_Put_cell => walk_at "k")
     (case a49 => walk_at "k")
     (case i49 => walk_at "k")
     (case l49 => walk_at "k")
     (case c49 => walk_at "k")
     (case k49 => walk_at "k")
     (case a50 => walk_at "k")
     (case i50 => walk_at "k")
     (case l50 => walk_at "k")
     (case c50 => walk_at "k")
     (case k50 => walk_at "k")
     (case pg_Get => walk_at "k")
     (case hd_Get => walk_at "k")
     (case po_Get => walk_at "k")
     (case sa_Get => walk_at "k")
     (case mk_Get => walk_at "k")
     (case kc_Get => walk_at "k")
     (case n_Get_box => walk_at "k")
     (case n_Get_cell => walk_at "k")
     (case a51 => walk_at "k")
     (case i51 => walk_at "k")
     (case l51 => walk_at "k")
     (case c51 => walk_at "k")
     (case k51 => walk_at "k")
     (case a52 => walk_at "k")
     (case i52 => walk_at "k")
     (case l52 => walk_at "k")
     (case c52 => walk_at "k")
     (case k52 => walk_at "k")
     (case pg_Less => walk_at "k")
     (case hd_Less => walk_at "k")
     (case po_Less => walk_at "k")
     (case sa_Less => walk_at "k")
     (case mk_Less => walk_at "k")
     (case kc_Less => walk_at "k")
     (case n_Less_box => walk_at "k")
     (case n_Less_one => walk_at "k")
     (case n_Less_other => walk_at "k")
     (case a53 => walk_at "k")
     (case i53 => walk_at "k")
     (case l53 => walk_at "k")
     (case c53 => walk_at "k")
     (case k53 => walk_at "k")
     (case a54 => walk_at "k")
     (case i54 => walk_at "k")
     (case l54 => walk_at "k")
     (case c54 => walk_at "k")
     (case k54 => walk_at "k")
     (case pg_Add => walk_at "k")
     (case hd_Add => walk_at "k")
     (case po_Add => walk_at "k")
     (case sa_Add => walk_at "k")
     (case mk_Add => walk_at "k")
     (case kc_Add => walk_at "k")
     (case n_Add_box => walk_at "k")
     (case n_Add_one => walk_at "k")
     (case n_Add_other => walk_at "k")
     (case a55 => walk_at "k")
     (case i55 => walk_at "k")
     (case l55 => walk_at "k")
     (case c55 => walk_at "k")
     (case k55 => walk_at "k")
     (case a56 => walk_at "k")
     (case i56 => walk_at "k")
     (case l56 => walk_at "k")
     (case c56 => walk_at "k")
     (case k56 => walk_at "k")
     (case pg_Sub => walk_at "k")
     (case hd_Sub => walk_at "k")
     (case po_Sub => walk_at "k")
     (case sa_Sub => walk_at "k")
     (case mk_Sub => walk_at "k")
     (case kc_Sub => walk_at "k")
     (case n_Sub_box => walk_at "k")
     (case n_Sub_one => walk_at "k")
     (case n_Sub_other => walk_at "k")
     (case a57 => walk_at "k")
     (case i57 => walk_at "k")
     (case l57 => walk_at "k")
     (case c57 => walk_at "k")
     (case k57 => walk_at "k")
     (case a58 => walk_at "k")
     (case i58 => walk_at "k")
     (case l58 => walk_at "k")
     (case c58 => walk_at "k")
     (case k58 => walk_at "k")
     (case pg_Mul => walk_at "k")
     (case hd_Mul => walk_at "k")
     (case po_Mul => walk_at "k")
     (case sa_Mul => walk_at "k")
     (case mk_Mul => walk_at "k")
     (case kc_Mul => walk_at "k")
     (case n_Mul_box => walk_at "k")
     (case n_Mul_one => walk_at "k")
     (case n_Mul_other => walk_at "k")
     (case a59 => walk_at "k")
     (case i59 => walk_at "k")
     (case l59 => walk_at "k")
     (case c59 => walk_at "k")
     (case k59 => walk_at "k")
     (case a60 => walk_at "k")
     (case i60 => walk_at "k")
     (case l60 => walk_at "k")
     (case c60 => walk_at "k")
     (case k60 => walk_at "k")
     (case ha_Set => walk_at "k")
     (case hm_Set => walk_at "k")
     (case is_Set_Row => walk_at "k")
     (case ha_Copy => walk_at "k")
     (case hm_Copy => walk_at "k")
     (case is_Copy_Row => walk_at "k")
     (case ha_Add => walk_at "k")
     (case hm_Add => walk_at "k")
     (case is_Add_Row => walk_at "k")
     (case ha_Sub => walk_at "k")
     (case hm_Sub => walk_at "k")
     (case is_Sub_Row => walk_at "k")
     (case ha_Mul => walk_at "k")
     (case hm_Mul => walk_at "k")
     (case is_Mul_Row => walk_at "k")
     (case ha_Less => walk_at "k")
     (case hm_Less => walk_at "k")
     (case is_Less_Row => walk_at "k")
     (case ha_Grow => walk_at "k")
     (case hm_Grow => walk_at "k")
     (case is_Grow_Row => walk_at "k")
     (case ha_Shrink => walk_at "k")
     (case hm_Shrink => walk_at "k")
     (case is_Shrink_Row => walk_at "k")
     (case ha_Put => walk_at "k")
     (case hm_Put => walk_at "k")
     (case is_Put_Row => walk_at "k")
     (case ha_Get => walk_at "k")
     (case hm_Get => walk_at "k")
     (case is_Get_Row => walk_at "k")
     (case ha_Jump => walk_at "k")
     (case hm_Jump => walk_at "k")
     (case is_Jump_Row => walk_at "k")
     (case ha_Branch => walk_at "k")
     (case hm_Branch => walk_at "k")
     (case is_Branch_Row => walk_at "k")
     (case ha_Call => walk_at "k")
     (case hm_Call => walk_at "k")
     (case is_Call_Row => walk_at "k")
     (case ha_Back => walk_at "k")
     (case hm_Back => walk_at "k")
     (case is_Back_Row => walk_at "k")
     (case ha_Drop => walk_at "k")
     (case hm_Drop => walk_at "k")
     (case is_Drop_Row => walk_at "k")
     (case ob1 => walk_at "k")
     (case ob2 => walk_at "k")
     (case k_str_str => walk_at "k")
     (case k_list_list => walk_at "k")
     (case a61 => walk_at "k")
     (case l61 => walk_at "k")
     (case c61 => walk_at "k")
     (case k61 => walk_at "k")
     (case a62 => walk_at "k")
     (case l62 => walk_at "k")
     (case c62 => walk_at "k")
     (case k62 => walk_at "k")
     (case a63 => walk_at "k")
     (case l63 => walk_at "k")
     (case c63 => walk_at "k")
     (case k63 => walk_at "k")
     (case a64 => walk_at "k")
     (case l64 => walk_at "k")
     (case c64 => walk_at "k")
     (case k64 => walk_at "k")
     (case a65 => walk_at "k")
     (case l65 => walk_at "k")
     (case c65 => walk_at "k")
     (case k65 => walk_at "k")
     (case a66 => walk_at "k")
     (case l66 => walk_at "k")
     (case c66 => walk_at "k")
     (case k66 => walk_at "k")
     (case a67 => walk_at "k")
     (case l67 => walk_at "k")
     (case c67 => walk_at "k")
     (case k67 => walk_at "k")
     (case a68 => walk_at "k")
     (case l68 => walk_at "k")
     (case c68 => walk_at "k")
     (case k68 => walk_at "k")
     (case a69 => walk_at "k")
     (case l69 => walk_at "k")
     (case c69 => walk_at "k")
     (case k69 => walk_at "k")
     (case a70 => walk_at "k")
     (case l70 => walk_at "k")
     (case c70 => walk_at "k")
     (case k70 => walk_at "k")
     (case a71 => walk_at "k")
     (case l71 => walk_at "k")
     (case c71 => walk_at "k")
     (case k71 => walk_at "k")
     (case a72 => walk_at "k")
     (case l72 => walk_at "k")
     (case c72 => walk_at "k")
     (case k72 => walk_at "k")
     (case a73 => walk_at "k")
     (case l73 => walk_at "k")
     (case c73 => walk_at "k")
     (case k73 => walk_at "k")
     (case a74 => walk_at "k")
     (case l74 => walk_at "k")
     (case c74 => walk_at "k")
     (case k74 => walk_at "k")
     (case a75 => walk_at "k")
     (case l75 => walk_at "k")
     (case c75 => walk_at "k")
     (case k75 => walk_at "k")
     (case a76 => walk_at "k")
     (case l76 => walk_at "k")
     (case c76 => walk_at "k")
     (case k76 => walk_at "k")
     (case a77 => walk_at "k")
     (case l77 => walk_at "k")
     (case c77 => walk_at "k")
     (case k77 => walk_at "k")
     (case a78 => walk_at "k")
     (case l78 => walk_at "k")
     (case c78 => walk_at "k")
     (case k78 => walk_at "k")
   obtain ⟨a, fd, T, FF, B⟩ := T
   exact ⟨fd, B, fun base _ _ => FB.law_fn T FF⟩
